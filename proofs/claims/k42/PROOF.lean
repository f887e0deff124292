import PyProof.Rows.All
import Wide.All
import OpenK.AllK
import Wide.FinOn
import Lean
import PyProof.EqAt
import PyProof.EqKinds
import PyProof.TupleCall
import PyProof.NeKinds
import KE.KRevIter
import PyProof.Rows.SumAny
import PySem.Challenge.RW_catchhall_k42_whole_alike_at_all_catches
noncomputable section
set_option Elab.async false
set_option linter.all false
set_option maxRecDepth 100000
def Qb:=@List.mem_cons_self
def Qc:=@List.mem_cons
def Qd:=@List.mem_cons_of_mem
def Qe:=@List.length_map
def Qf:=@Rat.le_refl
def Qg:=@Rat.le_of_lt
def Qh:=@Nat.le_refl
def Qi:=@List.mem_range
def Qj:=@List.mem_of_getElem?
def Qk:=@List.length_append
def Ql:=@List.size_toArray
def Qm:=@List.length_cons
def Qn:=@List.mem_map
def Qo:=@List.pairwise_cons
def Qp:=@List.getElem?_eq_getElem
def Qq:=@List.map_cons
def Qr:=@Nat.lt_of_lt_of_le
def Qs:=@Nat.ne_of_lt
def Qt:=@List.mem_singleton
def Qu:=@List.getElem?_map
def Qv:=@List.map_map
def Qw:=@List.getD_eq_getElem?_getD
def Qx:=@List.getElem?_eq_some_iff
def Qy:=@List.mem_append_right
def Qz:=@Rat.le_trans
def QA:=@List.length_range
def QB:=@List.sum_cons
def QC:=@List.getElem?_eq_none
def QD:=@PySem.boot_len
def QE:=@Nat.le_trans
def QF:=@Rat.intCast_mul
def QG:=@List.mem_append
def QH:=@List.map_append
def QI:=@List.length_set
def QJ:=@Rat.div_def
def QK:=@Int.emod_nonneg
def QL:=@Option.some.inj
def QM:=@List.getElem?_set_ne
def QN:=@List.getElem?_append_left
def QO:=@List.getElem?_set_self
def QP:=@Nat.zero_le
def QR:=@List.getLast?_eq_getElem?
def QS:=@Rat.intCast_add
def QT:=@Rat.div_mul_cancel
def QU:=@PySem.W.mg_of
def QV:=@Int.mul_one
def QW:=@List.append_nil
def QX:=@List.getElem?_append_right
def QY:=@Rat.num_divInt_den
def QZ:=@Nat.pow_le_pow_right
def Q2:=@Int.emod_lt_of_pos
def Q3:=@Nat.lt_irrefl
def Q4:=@Int.toNat_natCast
def Q5:=@Rat.mul_le_mul_of_nonneg_right
def Q6:=@Nat.lt_succ_self
def Q7:=@List.length_reverse
def Q8:=@List.map_congr_left
def Q9:=@Rat.le_total
def Va:=@Rat.not_lt
def Vb:=@PySem.W.mg_none_of
def Vc:=@List.mem_append_left
def Vd:=@List.append_assoc
def Ve:=@Bool.and_eq_true
def Vf:=@List.getElem?_range
def Vg:=@List.take_length
def Vh:=@List.lookup_cons
def Vi:=@List.not_mem_nil
def Vj:=@Int.natCast_nonneg
def Vk:=@List.length_take
def Vl:=@List.map_nil
def Vm:=@Nat.zero_add
def Vn:=@Rat.mul_inv_cancel
def Vo:=@Rat.divInt_eq_div
def Vp:=@Int.le_trans
def Vq:=@List.all_eq_true
def Vr:=@Nat.le_of_lt
def Vs:=@List.length_drop
def Vt:=@List.nil_append
def Vu:=@Nat.lt_of_le_of_lt
def Vv:=@Bool.false_eq_true
def Vw:=@Nat.lt_succ_of_lt
def Vx:=@List.sum_append
def Vy:=@List.flatMap_cons
def Vz:=@PySem.mem_of_lookup
def VA:=@List.replicate_succ
def VB:=@List.head?_eq_getElem?
def VC:=@List.pairwise_map
def VD:=@List.getLast?_map
def VE:=@Nat.succ_pos
def VF:=@Rat.mul_le_mul_of_nonneg_left
def VG:=@Rat.intCast_le_intCast
def VH:=@List.flatMap_append
def VI:=@PySem.F.excBase_ValueError
def VJ:=@PyProof.Rows.callWith_type1
def VL:=@List.nodup_cons
def VM:=@List.length_replicate
def VN:=@List.flatten_cons
def VO:=@Int.le_of_lt
def VP:=@Int.mul_ne_zero
def VQ:=@Bool.or_eq_true
def VR:=@List.getLast?_cons
def VS:=@Nat.lt_or_eq_of_le
def VT:=@List.mem_iff_getElem?
def VU:=@List.ext_getElem?
def VV:=@Rat.le_of_mul_le_mul_right
def VW:=@Array.length_toList
def VX:=@Nat.ne_of_gt
def VY:=@List.of_mem_zip
def VZ:=@Nat.min_eq_left
def V0:=@List.take_of_length_le
def V3:=@List.Pairwise.imp_of_mem
def V4:=@Nat.sub_self
def V5:=@Int.le_refl
def V6:=@Int.natCast_add
def V7:=@Int.add_mul
def V8:=@List.sum_nil
def V9:=@List.mem_of_mem_take
def Xa:=@List.getLast?_cons_cons
def Xb:=@List.mem_filter
def Xc:=@Bool.false_ne_true
def Xd:=@Nat.le_total
def Xe:=@Int.pow_pos
def Xf:=@List.drop_eq_nil_of_le
def Xg:=@List.length_nil
def Xh:=@List.head?_map
def Xi:=@List.cons_append
def Xj:=@Int.mul_pos
def Xk:=@List.filterMap_cons
def Xl:=@List.getElem?_replicate
def Xm:=@Nat.max_le
def Xn:=@Nat.min_eq_right
def Xo:=@List.pairwise_iff_getElem
def Xp:=@Nat.min_self
def Xq:=@Nat.succ.inj
def Xr:=@Nat.le_of_eq
def Xs:=@Int.mul_nonneg
def Xt:=@Rat.mul_nonneg
def Xu:=@List.take_succ_cons
def Xv:=@Classical.choose_spec
def Xw:=@List.pairwise_singleton
def Xx:=@List.take_append_drop
def Xy:=@List.flatMap_def
def Xz:=@List.range_eq_range'
def XA:=@PySem.W.hideAll_get
def XB:=@List.mem_filterMap
def XC:=@List.getElem?_take_of_lt
def XD:=@PySem.F.slot_tuple_add
def XF:=@PySem.F.entry_tuple_add
def XG:=@PySem.F.args_tuple_add_2
def XH:=@List.foldl_cons
def XI:=@List.length_singleton
def XJ:=@Array.getElem?_toList
def XL:=@Nat.add_comm
def XM:=@Int.gcd_dvd_left
def XN:=@Int.gcd_dvd_right
def XO:=@Int.one_mul
def XQ:=@Rat.divInt_mul_divInt
def XR:=@List.take_succ
def XS:=@Nat.succ_le_succ
def XT:=@Rat.mul_pos
def XU:=@Rat.inv_pos
def XV:=@Rat.zero_divInt
def XW:=@Rat.zero_mul
def XX:=@List.mem_of_getLast?
def XY:=@Nat.eq_zero_or_pos
def XZ:=@PySem.intBits_le_iff
def X0:=@List.eq_nil_of_length_eq_zero
def X1:=@PySem.F.plainAttrs_list
def X2:=@List.drop_eq_getElem_cons
def X3:=@List.set_append_right
def X4:=@List.take_zero
def X5:=@List.range_succ
def X6:=@Nat.succ_ne_self
def X7:=@List.length_zip
def X8:=@List.getElem?_reverse
def X9:=@Int.mul_comm
def Yc:=@Int.mul_assoc
def Yd:=@List.getLast?_reverse
def Yf:=@List.pairwise_append
def Yg:=@List.mem_reverse
def Yh:=@List.getElem?_drop
def Yi:=@Int.pow_add
def Yj:=@List.range'_succ
def Yk:=@Nat.add_zero
def Ym:=@List.map_take
def Yn:=@Nat.le_of_ble_eq_true
def Yo:=@PySem.W.cellsFrom_some
def Yp:=@Int.eq_ofNat_of_zero_le
def Yq:=@Int.neg_ediv_of_dvd
def Yr:=@Rat.divInt_sub_divInt
def Ys:=@Int.fdiv_eq_ediv_of_nonneg
def Yt:=@Int.fmod_eq_emod_of_nonneg
def Yu:=@Array.getElem?_eq_some_iff
def Yv:=@PySem.F.plain_list_iadd
def Yw:=@List.toList_toArray
def Yy:=@List.mergeSort_perm
def Yz:=@List.pairwise_mergeSort
def YA:=@List.getElem?_zip_eq_some
def YB:=@Nat.lt_two_pow_self
def YC:=@List.mem_of_mem_drop
def YD:=@Classical.byContradiction
abbrev Fg_:=PySem.W.Frag
namespace L2
open PySem PySem.Spec PyProof.Rows
abbrev Key:=Sum Int Str
def zQd:Key->Value->Bool
 | .inl k,v=>Value.isInt k v
 | .inr x,v=>Value.isStrOf x v
def zSM(w:World):Key->Int
 | .inl k=>hashInt k
 | .inr x=>hashStr w x
theorem dH:∀ {k:Key} {v:Value},zQd k v=true->(∃ i t,k=Sum.inl i/\v=Value.int i t)∨(∃ x t,k=Sum.inr x/\v=Value.str x t)
 | .inl i,v,h=>by
  obtain⟨t,e⟩:=Value.isInt_shape (k:=i) (v:=v) h;exact .inl ⟨i,t,rfl,e⟩
 | .inr x,v,h=>by
  obtain⟨t,e⟩:=Value.isStrOf_shape (x:=x) (v:=v) h;exact .inr ⟨x,t,rfl,e⟩
theorem zQD(a b:Int):decide ((Sum.inl a:Key)=Sum.inl b)=(a==b):=by
 by_cases e:a=b
 ·subst e;simp
 ·have h:¬ (Sum.inl a:Key)=Sum.inl b:=fun q=>e (Sum.inl.inj q)
  rw[decide_eq_false h];exact(beq_eq_false_iff_ne.mpr e).symm
theorem zQO(a b:Str):decide ((Sum.inr a:Key)=Sum.inr b)=decide (a=b):=by
 by_cases e:a=b
 ·subst e;simp
 ·have h:¬ (Sum.inr a:Key)=Sum.inr b:=fun q=>e (Sum.inr.inj q)
  rw[decide_eq_false h,decide_eq_false e]
theorem zPt(a:Int)(b:Str):decide ((Sum.inl a:Key)=Sum.inr b)=false:=decide_eq_false (fun q=>nomatch q)
theorem zPI(a:Str)(b:Int):decide ((Sum.inr a:Key)=Sum.inl b)=false:=decide_eq_false (fun q=>nomatch q)
def zHS(prog:Program)(w:World):PySem.KeyKind prog w Key where
 is:=zQd
 hash:=zSM w
 inj:=fun v a b ha hb=>by
  rcases dH ha with⟨i,t,rfl,rfl⟩ | ⟨x,t,rfl,rfl⟩
  ·rcases dH hb with⟨j,u,rfl,e⟩ | ⟨y,u,rfl,e⟩
   ·injection e with e1 _;rw[e1]
   ·exact nomatch e
  ·rcases dH hb with⟨j,u,rfl,e⟩ | ⟨y,u,rfl,e⟩
   ·exact nomatch e
   ·injection e with e1 _;rw[e1]
 byValue:=fun k v h=>by
  rcases dH h with⟨i,t,rfl,rfl⟩ | ⟨x,t,rfl,rfl⟩<;>rfl
 pyHash:=fun hv h=>by
  rcases dH hv with⟨i,t,rfl,rfl⟩ | ⟨x,t,rfl,rfl⟩
  ·exact wpAny_pyHash_int h
  ·exact wpAny_pyHash_str h
 eqBool:=fun hu hv h=>by
  rcases dH hu with⟨i,t,rfl,rfl⟩ | ⟨x,t,rfl,rfl⟩
  ·rcases dH hv with⟨j,u,rfl,rfl⟩ | ⟨y,u,rfl,rfl⟩
   ·rw[zQD] at h;exact wpAny_eqBool_int h
   ·rw[zPt] at h;exact SeqAt.EqAt.int_str i t y u _ _ _ _ h
  ·rcases dH hv with⟨j,u,rfl,rfl⟩ | ⟨y,u,rfl,rfl⟩
   ·rw[zPI] at h;exact SeqAt.EqAt.str_int x t j u _ _ _ _ h
   ·rw[zQO] at h;exact wpAny_eqBool_str h
 «strs» := fun k x t v h=>by
  rcases dH h with⟨i,u,rfl,e⟩ | ⟨y,u,rfl,e⟩
  ·exact nomatch e
  ·injection e with e1 _
   subst e1;cases v<;>rfl
inductive V where
 | non | bl (b:Bool) | int (i:Int) | str (x:Str) | byt (b:Array UInt8) | flt (b:UInt64) | ref (a:Addr) | ty (n:String)
 deriving DecidableEq
def dB:V->Value->Prop
 | .non,u=>u=Value.none
 | .bl b,u=>u=Value.bool b
 | .int i,u=>∃ t,u=Value.int i t
 | .str x,u=>∃ t,u=Value.str x t
 | .byt b,u=>∃ t,u=Value.bytes b t
 | .flt b,u=>∃ t,u=Value.float b t
 | .ref a,u=>u=Value.ref a
 | .ty n,u=>u=Value.type n
abbrev dN:List V->List Value->Prop:=Paired dB
theorem dN.length{xs:List V}{us:List Value}(r:dN xs us):xs.length=us.length:=Paired.length r
theorem dN.get:∀ {xs:List V} {us:List Value} {i:Nat} {x:V},dN xs us->xs[i]?=some x->∃ u,us[i]?=some u/\dB x u
 | _,_,_,_,.nil,e=>by simp at e
 | _,_,0,_,.cons r _,e=>by simp at e;subst e;exact⟨_,rfl,r⟩
 | _,_,i+1,x,.cons _ t,e=>by
  obtain⟨u,h1,h2⟩:=dN.get (i:=i) (x:=x) t (by simpa using e)
  exact⟨u,by simpa using h1,h2⟩
theorem dN.set{x:V}{u:Value}(r:dB x u):∀ {xs:List V} {us:List Value} (i:Nat),dN xs us->dN (xs.set i x) (us.set i u)
 | _,_,_,.nil=>.nil
 | _,_,0,.cons _ t=>.cons r t
 | _,_,i+1,.cons q t=>.cons q (dN.set r i t)
theorem dN.append:∀ {xs ys:List V} {us ws:List Value},dN xs us->dN ys ws->dN (xs++ys) (us++ws)
 | _,_,_,_,.nil,s=>s
 | _,_,_,_,.cons r t,s=>.cons r (dN.append t s)
theorem dN.take:∀ {xs:List V} {us:List Value} (n:Nat),dN xs us->dN (xs.take n) (us.take n)
 | _,_,0,_=>.nil
 | _,_,_+1,.nil=>.nil
 | _,_,n+1,.cons r t=>.cons r (dN.take n t)
theorem dN.drop:∀ {xs:List V} {us:List Value} (n:Nat),dN xs us->dN (xs.drop n) (us.drop n)
 | _,_,0,r=>r
 | _,_,_+1,.nil=>.nil
 | _,_,n+1,.cons _ t=>dN.drop n t
def zSq:Option V->Option Value->Prop
 | some v,some u=>dB v u
 | none,none=>True
 | _,_=>False
def KV{κ:Type}:List (κ×V)->List (κ×Value)->Prop:=Paired fun(p:κ×V) (q:κ×Value)=>p.1=q.1/\dB p.2 q.2
def kV:Key->V
 | .inl i=>.int i
 | .inr x=>.str x
inductive HO where
 | lst (xs:List V)
 | tup (xs:List V)
 | dK (kvs:List (Key×V)) | dT (kvs:List (List Key×V))
 | set (S:Int->Bool) (n:Nat)
 | ins (C dx:Addr) (fs:List (Str×V))
 | own (x:Addr)
 | xd (fs:List (Str×V))
 | met (f x:Addr)
 | rng (lo hi:Int)
 | frz (o:Obj) (u:HO)
 | tbl (ps:Array Value)
 | ext (φ:Heap->Prop)
abbrev Hp:=Addr->Option HO
def upd(H:Hp)(a:Addr)(o:HO):Hp:=fun b=>if b=a then some o else H b
theorem aW{H:Hp}{a:Addr}{o:HO}:upd H a o a=some o:=by unfold upd;rw[if_pos rfl]
theorem aX{H:Hp}{a b:Addr}{o:HO}(h:b≠a):upd H a o b=H b:=by unfold upd;rw[if_neg h]
theorem zQl{H:Hp}{a b:Addr}{o u:HO}(h:H a=some o)(h':H b=some u)(d:o≠u):a≠b:=by
 intro e;subst e;rw[h] at h';exact d (QL h')
theorem bC{H:Hp}{a b:Addr}{o:HO}(h:H a=some o)(h':H b=none):a≠b:=by
 intro e;subst e;rw[h] at h';cases h'
section
variable(P:Program)(w:World)
def mK(H:Hp)(h:Heap)(a:Addr):HO->Prop
 | .lst xs=>xs.length<=sizeLine/\∃(its:List Value)(n:Nat),dN xs its/\h.get? a=some { cls:=.type "list", data:=.seq its.toArray n }
 | .tup xs=>xs.length<=sizeLine/\∃ its:List Value,dN xs its/\IsTup h a its.toArray
 | .dK kvs=>kvs.length<=sizeLine/\(a==sysModules)=false/\∃ vs,KV kvs vs/\h.DictOf (zHS P w) a vs
 | .dT kvs=>kvs.length<=sizeLine/\(a==sysModules)=false/\∃ xs:List (List Key×Addr×Value),
   Paired (fun(p:List Key×V) (q:List Key×Addr×Value)=>p.1=q.1/\H q.2.1=some (.tup (p.1.map kV))/\dB p.2 q.2.2) kvs xs/\
   ∃ o es ep,h.get? a=some o/\o.ExactDict/\o.data=.dict es ep/\es.toList=xs.map (entryOfKey (tupleKind (zHS P w)))/\(xs.map (·.1)).Nodup
 | .set S n=>h.SetOf (intKind P w) a S n
 | .ins C dx fs=>H dx=some (.own a)/\fs.length<=1000/\dx≠a/\h.get? a=some (PySem.W.instObj C dx)/\
   ∃ mA,h.Ns1 dx mA/\(∀ f,zSq (fs.lookup f) (mA f))/\PySem.Within mA (fs.map (·.1))
 | .own _=>∃ o,h.get? a=some o
 | .xd fs=>∃ mA,h.Ns1 a mA/\∀ f,zSq (fs.lookup f) (mA f)
 | .rng lo hi=>∃ t u v,h.get? a=some { cls:=.type "range", data:=.fields #[.int lo t,.int hi u,.int 1 v] }
 | .frz o u=>h.get? a=some o/\mK H h a u
 | .tbl ps=>h.get? a=some { cls:=.none,data:=.fields ps }
 | .met f x=>h.get? a=some (PySem.W.methodObj (.ref f) (.ref x))
 | .ext φ=>φ h/\(∃ o,h.get? a=some o)/\∀ h1 h2:Heap,φ h1->(∀ o,h1.get? a=some o->h2.get? a=some o)->φ h2
def HOk(H:Hp)(h:Heap):Prop:=∀ a o,H a=some o->mK P w H h a o
end
section
variable{P:Program}{w:World}{H H':Hp}{h h':Heap}{a:Addr}{o:HO}
theorem mK.lt(x:mK P w H h a o):a<h.objs.size:=by
 cases o with
 | lst xs=>obtain⟨_,_,_,_,e⟩:=x;exact Heap.lt_size e
 | tup xs=>obtain⟨_,_,_,p⟩:=x;exact p.lt
 | dK kvs=>obtain⟨_,_,_,_,o,_,_,e,_⟩:=x;exact Heap.lt_size e
 | dT kvs=>obtain⟨_,_,_,_,o,_,_,e,_⟩:=x;exact Heap.lt_size e
 | set S n=>obtain⟨o,_,_,_,e,_⟩:=x;exact Heap.lt_size e
 | ins C dx fs=>obtain⟨_,_,_,e,_⟩:=x;exact Heap.lt_size e
 | own y=>obtain⟨_,e⟩:=x;exact Heap.lt_size e
 | xd fs=>obtain⟨_,⟨_,_,_,e,_⟩,_⟩:=x;exact Heap.lt_size e
 | rng lo hi=>obtain⟨_,_,_,e⟩:=x;exact Heap.lt_size e
 | frz ob u=>obtain⟨e,_⟩:=x;exact Heap.lt_size e
 | tbl ps=>exact Heap.lt_size (show h.get? a=some _ from x)
 | met f y=>exact Heap.lt_size (show h.get? a=some _ from x)
 | ext φ=>obtain⟨_,⟨_,e⟩,_⟩:=x;exact Heap.lt_size e
theorem Paired.mapP{α β:Type}{F G:α->β->Prop}:∀ {l₁:List α} {l₂:List β},Paired F l₁ l₂->(∀ a b,F a b->G a b)->Paired G l₁ l₂
 | _,_,.nil,_=>.nil
 | _,_,.cons r t,f=>.cons (f _ _ r) (Paired.mapP t f)
theorem mK.stay(x:mK P w H h a o)(k:∀ b u,(b=a∨H b=some (.own a))->h.get? b=some u->h'.get? b=some u)
  (ho:∀ b,H b=some (.own a)->H' b=some (.own a)) (ht:∀ b xs,H b=some (.tup xs)->H' b=some (.tup xs)):mK P w H' h' a o:=by
 induction o with
 | lst xs=>obtain⟨z,its,n,r,e⟩:=x;exact⟨z,its,n,r,k _ _ (.inl rfl) e⟩
 | tup xs=>obtain⟨z,its,r,ob,e,c⟩:=x;exact⟨z,its,r,ob,k _ _ (.inl rfl) e,c⟩
 | dK kvs=>obtain⟨z,y,vs,r,ob,es,ep,e,c⟩:=x;exact⟨z,y,vs,r,ob,es,ep,k _ _ (.inl rfl) e,c⟩
 | dT kvs=>
  obtain⟨z,y,xs,r,ob,es,ep,e,c⟩:=x;exact⟨z,y,xs,Paired.mapP r fun p q z=>⟨z.1,ht _ _ z.2.1,z.2.2⟩,ob,es,ep,k _ _ (.inl rfl) e,c⟩
 | set S n=>obtain⟨ob,es,ep,t,e,c⟩:=x;exact⟨ob,es,ep,t,k _ _ (.inl rfl) e,c⟩
 | ins C dx fs=>
  obtain⟨d,z,ne,e,mA,⟨od,es,ep,e2,c⟩,r⟩:=x;exact⟨ho _ d,z,ne,k _ _ (.inl rfl) e,mA,⟨od,es,ep,k _ _ (.inr d) e2,c⟩,r⟩
 | own y=>obtain⟨ob,e⟩:=x;exact⟨ob,k _ _ (.inl rfl) e⟩
 | xd fs=>obtain⟨mA,⟨od,es,ep,e,c⟩,r⟩:=x;exact⟨mA,⟨od,es,ep,k _ _ (.inl rfl) e,c⟩,r⟩
 | rng lo hi=>obtain⟨t,u,v,e⟩:=x;exact⟨t,u,v,k _ _ (.inl rfl) e⟩
 | frz ob u ih=>obtain⟨e,q⟩:=x;exact⟨k _ _ (.inl rfl) e,ih q⟩
 | tbl ps=>
  have e:h.get? a=some { cls:=.none,data:=.fields ps }:=x;show h'.get? a=some { cls:=.none,data:=.fields ps }
  exact k a _ (.inl rfl) e
 | met f y=>
  have e:h.get? a=some (PySem.W.methodObj (.ref f) (.ref y)):=x;show h'.get? a=some (PySem.W.methodObj (.ref f) (.ref y))
  exact k a _ (.inl rfl) e
 | ext φ=>obtain⟨p,⟨o,e⟩,st⟩:=x;exact⟨st _ _ p fun o q=>k _ _ (.inl rfl) q,⟨o,k _ _ (.inl rfl) e⟩,st⟩
theorem HOk.lt(x:HOk P w H h)(e:H a=some o):a<h.objs.size:=(x a o e).lt
theorem HOk.fresh(x:HOk P w H h)(e:h.objs.size<=a):H a=none:=by
 cases q:H a with
 | none=>rfl
 | some u=>exact absurd (Qr (x.lt q) e) (Q3 _)
theorem HOk.kept(x:HOk P w H h)(k:∀ b u,h.get? b=some u->h'.get? b=some u):HOk P w H h':=fun a o e=>
 (x a o e).stay (fun b u _ q=>k b u q) (fun _ q=>q) fun _ _ q=>q
theorem HOk.laid(x:HOk P w H h)(k:∀ b u,h.get? b=some u->h'.get? b=some u)(hp:h.objs.size<=a)(new:mK P w (upd H a o) h' a o):HOk P w (upd H a o) h':=fun b u e=>by
 have hn:=x.fresh hp;by_cases hb:b=a
 ·subst hb;rw[aW] at e;cases e;exact new
 ·rw[aX hb] at e
  exact(x b u e).stay (fun c v _ q=>k c v q) (fun c q=>by rw[aX (bC q hn)];exact q) fun c xs q=>by rw[aX (bC q hn)];exact q
end
def Rd(H:Hp)(a:Addr)(u:HO):Prop:=H a=some u∨∃ o,H a=some (.frz o u)
theorem Rd.ok{P:Program}{w:World}{H:Hp}{h:Heap}{a:Addr}{u:HO}(r:Rd H a u)(x:HOk P w H h):mK P w H h a u:=by
 rcases r with r | ⟨o,r⟩
 ·exact x a u r
 ·obtain⟨_,q⟩:=x a _ r
  exact q
def Mut:Option HO->Prop
 | some (.lst _)=>True
 | some (.dK _)=>True
 | some (.dT _)=>True
 | some (.set _ _)=>True
 | some (.ins _ _ _)=>True
 | some (.ext _)=>True
 | _=>False
section
variable{P:Program}{w:World}{H:Hp}{h h':Heap}{x e:Addr}{o':HO}
theorem HOk.write(ok:HOk P w H h)(mu:Mut (H x))(he:e=x∨H e=some (.own x))(k:∀ b u,b≠e->h.get? b=some u->h'.get? b=some u)(heo:∃ u,h'.get? e=some u)
  (new:mK P w (upd H x o') h' x o'):HOk P w (upd H x o') h':=fun b u q=>by
 have nown:∀ c y,H c=some (.own y)->c≠x:=fun c y r z=>by subst z;rw[r] at mu;exact mu
 have ntup:∀ c xs,H c=some (.tup xs)->c≠x:=fun c xs r z=>by subst z;rw[r] at mu;exact mu
 by_cases hb:b=x
 ·subst hb;rw[aW] at q;cases q;exact new
 ·rw[aX hb] at q
  by_cases hbe:b=e
  ·have q':H b=some (.own x):=by
    rcases he with z | z
    ·exact absurd (hbe.trans z) hb
    ·rw[hbe];exact z
   rw[q] at q';cases q'
   obtain⟨v,hv⟩:=heo;exact⟨v,by rw[hbe];exact hv⟩
  ·refine(ok b u q).stay (fun c v hc r=>k c v ?_ r) (fun c r=>by rw[aX (nown c b r)];exact r) fun c xs r=>by rw[aX (ntup c xs r)];exact r
   rcases hc with rfl | hc
   ·exact hbe
   ·rintro rfl
    rcases he with z | z
    ·exact nown c b hc z
    ·rw[hc] at z;cases z;exact hb rfl
end
structure Un (fs ex:List Addr) (H H':Hp) (h h':Heap):Prop where
 keep:∀ b o,h.get? b=some o->H b=none->b∉fs->b∉ex->h'.get? b=some o
 slot:∀ b o,h.get? b=some o->H b=none->b∈fs->b∉ex->∃ sl,h'.get? b=some { o with slots:=sl }
 free:∀ b o,h.get? b=some o->H b=none->b∉ex->H' b=none
 there:∀ b o,h.get? b=some o->b∉ex->∃ o',h'.get? b=some o'
 tups:∀ b xs,H b=some (.tup xs)->H' b=some (.tup xs)
 frzs:∀ b o u,H b=some (.frz o u)->H' b=some (.frz o u)
 tbls:∀ b ps,H b=some (.tbl ps)->∃ more,H' b=some (.tbl (ps++more))
section
variable{fs fs' ex ex':List Addr}{H H1 H2:Hp}{h h1 h2 h':Heap}{a x e:Addr}{o:HO}
theorem Un.any(u:Un fs ex H H1 h h1){b:Addr}{ob:Obj}(q:h.get? b=some ob)(n:H b=none)(hx:b∉ex):∃ sl,h1.get? b=some { ob with slots:=sl }:=by
 by_cases hb:b∈fs
 ·exact u.slot b ob q n hb hx
 ·exact⟨ob.slots,u.keep b ob q n hb hx⟩
theorem Un.kept(k:∀ b u,h.get? b=some u->h'.get? b=some u):Un fs ex H H h h':=
 ⟨fun b ob q _ _ _=>k b ob q,fun b ob q _ _ _=>⟨ob.slots,k b ob q⟩,fun _ _ _ n _=>n,fun b ob q _=>⟨ob,k b ob q⟩,fun _ _ q=>q,fun _ _ _ q=>q,fun _ ps q=>⟨#[],by rw[q];simp⟩⟩
theorem Un.refl:Un fs ex H H h h:=Un.kept fun _ _ q=>q
theorem Un.laid(k:∀ b u,h.get? b=some u->h'.get? b=some u)(hp:h.objs.size<=a)(hn:H a=none):Un fs ex H (upd H a o) h h' where
 keep:=fun b u q _ _ _=>k b u q
 slot:=fun b u q _ _ _=>⟨u.slots,k b u q⟩
 free:=fun b u q n _=>by rw[aX (Qs (Qr (Heap.lt_size q) hp))];exact n
 there:=fun b u q _=>⟨u,k b u q⟩
 tups:=fun b xs q=>by rw[aX (bC q hn)];exact q
 frzs:=fun b u xs q=>by rw[aX (bC q hn)];exact q
 tbls:=fun b ps q=>⟨#[],by rw[aX (bC q hn),q];simp⟩
theorem Un.write(mu:Mut (H x))(he:e=x∨H e=some (.own x))(k:∀ b u,b≠e->h.get? b=some u->h'.get? b=some u)(heo:∃ u,h'.get? e=some u):Un fs ex H (upd H x o) h h':=by
 have hx:∀ b,H b=none->b≠x:=fun b n z=>by subst z;rw[n] at mu;exact mu
 have hb:∀ b,H b=none->b≠e:=fun b n z=>by
  subst z;rcases he with r | r
  ·exact hx b n r
  ·rw[n] at r;cases r
 have hm:∀ b u,H b=some u->¬ Mut (some u)->b≠x:=fun b u q nm z=>by subst z;rw[q] at mu;exact nm mu
 refine⟨fun b u q n _ _=>k b u (hb b n) q,fun b u q n _ _=>⟨u.slots,k b u (hb b n) q⟩,fun b u q n _=>by rw[aX (hx b n)];exact n,fun b u q _=>?_,
  fun b xs q=>by rw[aX (hm b _ q fun z=>z)];exact q,fun b u xs q=>by rw[aX (hm b _ q fun z=>z)];exact q,fun b ps q=>⟨#[],by rw[aX (hm b _ q fun z=>z),q];simp⟩⟩
 by_cases hbe:b=e
 ·subst hbe;exact heo
 ·exact⟨u,k b u hbe q⟩
end
def trk(h:Heap)(H:Hp):List Addr:=(List.range h.objs.size).filter fun a=>(H a).isSome
def zJT(h:Heap)(H:Hp):Heap:=PySem.W.hideAll h (trk h H)
theorem zIB(h:Heap)(H:Hp):(zJT h H).objs.size=h.objs.size:=PySem.W.hideAll_size _ _
theorem zKi{h:Heap}{H:Hp}{b:Addr}{o:Obj}(e:h.get? b=some o)(n:H b=none):(zJT h H).get? b=some o:=
 XA _ e fun hm=>by
  have q:(H b).isSome=true:=(Xb.mp hm).2;rw[n] at q;simp at q
theorem zNA{h:Heap}{H:Hp}{b:Addr}{o:Obj}(e:(zJT h H).get? b=some o):h.get? b=some o/\H b=none:=by
 have e':h.get? b=some o:=PySem.W.of_hideAll (trk h H) e;refine⟨e',?_⟩
 cases q:H b with
 | none=>rfl
 | some x=>
  have hm:b∈trk h H:=Xb.mpr ⟨Qi.mpr (Heap.lt_size e'),by simp[q]⟩
  have z:(zJT h H).get? b=none:=PySem.W.hideAll_none (trk h H) hm;rw[z] at e;cases e
def zNw(g h:Heap)(L:Addr):List (Addr×Obj):=(List.range h.objs.size).filterMap fun a=>if a=L∨(g.get? a).isSome=true then none else (h.get? a).map fun o=>(a,o)
def rest(g h:Heap)(L d:Addr):List (Addr×Obj):=(zNw g h L).filter fun p=>decide (p.1≠d)
structure Mod (K:PySem.W.Frag) (mg:Str->Option Value) (base:Heap):Prop where
 kin:K.In base
 glob:base.Ns mainGlobals mg
 blt:∃ mb,base.Ns builtinsNs mb/\∀ x:Str,x ≠ "__name__" -> mb x=bootBuiltins x
 nolimit:base.NoLimit
structure Cx where
 prog:Program
 w:World
 K:PySem.W.Frag
 mg:Str->Option Value
 base:Heap
 A:Around
 N:List Str
 s₀:Shared
 H₀:Hp
 env:Env
 outer:List Env
 stack:List Env
 ex:List Addr
 fn:Str->Bool
 calm:Bool
 pn:List (Addr×Obj)
 xe:Value->Shared->Prop
def frs(l:List Env):List Addr:=l.filterMap (·.frame)
abbrev Cx.fs(X:Cx):List Addr:=frs X.outer
def Vis(sc:Scope)(x:Str):Prop:=sc.names.lookup x=some .local∨sc.names.lookup x=some .cell∨sc.names.lookup x=some .free
def Loc(sc:Scope)(x:Str):Prop:=sc.names.lookup x=some .local∨sc.names.lookup x=some .cell
def zSP(env:Env)(h:Heap)(m:Str->Option Value)(x:Str)(u:Value):Prop:=
 (env.kindOf x=some .local/\m x=some u)∨((env.kindOf x=some .cell∨env.kindOf x=some .free)/\∃ c,env.cells.lookup x=some c/\h.IsCell c (some u))
structure Cx.Ok (X:Cx):Prop where
 mod:Mod X.K X.mg X.base
 kind:X.env.scope.kind=.function
 glob:X.env.globals=mainGlobals
 blt:X.env.builtins=builtinsNs
 above:X.s₀.heap.objs.size<=X.env.locals
 inj:∀ x y c,X.env.cells.lookup x=some c->X.env.cells.lookup y=some c->x=y
 has:∀ x,(X.env.kindOf x=some .cell∨X.env.kindOf x=some .free)->∃ c,X.env.cells.lookup x=some c
 cab:∀ x c,X.fn x=true->X.env.cells.lookup x=some c->X.s₀.heap.objs.size<=c
 hd:X.calm=true->X.A.handled=none
 frames:X.A.frames=some X.stack
 stk:X.stack=X.outer∨(X.stack=X.env::X.outer/\X.env.frame=some X.env.locals)
 exf:∀ b∈X.ex,b≠X.env.locals/\∀ x c,X.env.cells.lookup x=some c->c≠b
 bs:∀ b o,X.base.get? b=some o->X.s₀.heap.get? b=some o/\X.H₀ b=none
 bsz:X.base.objs.size<=X.s₀.heap.objs.size
 noex:∀ b o,X.base.get? b=some o->b∉X.ex
 exfs:∀ b∈X.ex,b∉X.fs
 funs:X.s₀.heap.FunFrames X.base X.outer
 frf:∀ b∈X.fs,X.H₀ b=none
structure Inv (X:Cx) (pins:List (Addr×Obj)) (σ:List (Option V)) (H:Hp) (s:Shared):Prop where
 ok:X.Ok
 os:s.os=X.s₀.os
 bare:AllBare s.gens
 base:Un X.fs X.ex X.H₀ H X.s₀.heap s.heap
 loc:∃ m,s.heap.Ns X.env.locals m/\∀(i:Nat)(x:Str)(v:V),X.N[i]?=some x->σ[i]?=some (some v)->Vis X.env.scope x->∃ u,dB v u/\zSP X.env s.heap m x u
 cell:∀ x c,X.env.cells.lookup x=some c->∃ v,s.heap.IsCell c v
 free:H X.env.locals=none
 freeC:∀ x c,X.env.cells.lookup x=some c->H c=none
 pin:∀ p∈X.pn++pins,s.heap.get? p.1=some p.2/\H p.1=none/\p.1≠X.env.locals/\p.1∉X.fs/\∀ v,p.2.data≠.cell v
 hok:HOk X.prog X.w H s.heap
 len:σ.length=X.N.length
section
variable{X:Cx}{pins:List (Addr×Obj)}{σ:List (Option V)}{H H':Hp}{s:Shared}{h':Heap}
theorem Cx.Ok.nofr(ok:X.Ok){b:Addr}{o:Obj}(e:X.base.get? b=some o):b∉X.fs:=fun hb=>by
 have:=(ok.funs.mem hb).1
 rw[e] at this;cases this
theorem Inv.bs(I:Inv X pins σ H s):∀ b o,X.base.get? b=some o->s.heap.get? b=some o/\H b=none:=fun b o e=>
 ⟨I.base.keep b o (I.ok.bs b o e).1 (I.ok.bs b o e).2 (I.ok.nofr e) (I.ok.noex b o e),I.base.free b o (I.ok.bs b o e).1 (I.ok.bs b o e).2 (I.ok.noex b o e)⟩
theorem Inv.bk(I:Inv X pins σ H s):∀ b o,X.base.get? b=some o->s.heap.get? b=some o:=fun b o e=>(I.bs b o e).1
theorem Inv.mod(I:Inv X pins σ H s):Mod X.K X.mg X.base:=I.ok.mod
theorem Inv.kIn(I:Inv X pins σ H s):X.K.In s.heap:=I.ok.mod.kin.keeps I.bk
theorem Inv.lt(I:Inv X pins σ H s):X.env.locals<s.heap.objs.size:=let ⟨_,hn,_⟩:=I.loc;hn.lt
theorem Inv.sz(I:Inv X pins σ H s):X.s₀.heap.objs.size<=s.heap.objs.size:=QE I.ok.above (Vr I.lt)
theorem Inv.nofs(I:Inv X pins σ H s){a:Addr}(h:s.heap.objs.size<=a):a∉X.fs:=fun hb=>by
 obtain⟨_,o,ho,_⟩:=I.ok.funs.mem hb;exact absurd (Qr (Heap.lt_size ho) (QE I.sz h)) (Q3 _)
theorem Inv.cne(I:Inv X pins σ H s):∀ x c,X.env.cells.lookup x=some c->c≠X.env.locals:=fun x c e z=>by
 obtain⟨v,o,ho,hd⟩:=I.cell x c e;obtain⟨m,⟨o',es,ep,ho',hd',_⟩,_⟩:=I.loc;rw[z,ho'] at ho;cases ho;rw[hd'] at hd;cases hd
theorem Inv.funs(I:Inv X pins σ H s):s.heap.FunFrames X.base X.outer:=by
 have all:∀(l:List Env),(∀ b∈frs l,b∈X.fs)->X.s₀.heap.FunFrames X.base l->s.heap.FunFrames X.base l:=by
  intro l
  induction l with
  | nil=>intro _ _;trivial
  | cons env r ih=>
   intro hs hl;obtain⟨hk,⟨L,o,hf,hn,ho,hd⟩,hr⟩:=hl;have hL:L∈X.fs:=hs L (by unfold frs;rw[Xk,hf];exact Qb)
   obtain⟨sl,e⟩:=I.base.slot L o ho (I.ok.frf L hL) hL fun z=>I.ok.exfs L z hL
   exact⟨hk,⟨L,_,hf,hn,e,hd⟩,ih (fun b hb=>hs b (by unfold frs;rw[Xk,hf];exact Qd _ hb)) hr⟩
 exact all X.outer (fun _ hb=>hb) I.ok.funs
theorem Inv.stack(I:Inv X pins σ H s):s.heap.FunFrames X.base X.stack:=by
 rcases I.ok.stk with e | ⟨e,hf⟩
 ·rw[e];exact I.funs
 ·rw[e]
  obtain⟨m,hn,_⟩:=I.loc;refine .cons (by rw[I.ok.kind];decide) hf hn ?_ I.funs
  exact Heap.get?_none_of_le (QE I.ok.bsz I.ok.above)
theorem Inv.stkSub(I:Inv X pins σ H s):∀ b∈frs X.stack,b∈X.env.locals::X.fs:=fun b hb=>by
 rcases I.ok.stk with e | ⟨e,hf⟩
 ·rw[e] at hb;exact Qd _ hb
 ·rw[e] at hb
  unfold frs at hb;rw[Xk,hf] at hb;exact hb
theorem Inv.stkFree(I:Inv X pins σ H s):∀ b∈frs X.stack,H b=none:=fun b hb=>by
 rcases Qc.mp (I.stkSub b hb) with e | hb
 ·rw[e];exact I.free
 ·obtain⟨_,o,ho,_⟩:=I.ok.funs.mem hb
  exact I.base.free b o ho (I.ok.frf b hb) fun z=>I.ok.exfs b z hb
theorem Inv.step{g':Array GenState}{t':Nat}{d':Drawn}{ch:List Addr}(I:Inv X pins σ H s)
  (hch:∀ b∈ch,(b∈X.ex∨X.s₀.heap.objs.size<=b)/\b≠X.env.locals/\(∀ x c,X.env.cells.lookup x=some c->c≠b)/\∀ p∈X.pn++pins,p.1≠b)
  (keep:∀ b o,b≠X.env.locals->b∉X.fs->b∉ch->s.heap.get? b=some o->H b=none->h'.get? b=some o)
  (slot:∀ b o,b≠X.env.locals->b∈X.fs->b∉ch->s.heap.get? b=some o->H b=none->∃ sl,h'.get? b=some { o with slots:=sl }) (free:∀ b o,b∉ch->s.heap.get? b=some o->H b=none->H' b=none)
  (there:∀ b o,b∉ch->s.heap.get? b=some o->∃ o',h'.get? b=some o')
  (tups:∀ b xs,H b=some (.tup xs)->H' b=some (.tup xs)) (frzs:∀ b o u,H b=some (.frz o u)->H' b=some (.frz o u)) (tbls:∀ b ps,H b=some (.tbl ps)->∃ more,H' b=some (.tbl (ps++more)))
  (ns:∀ m,s.heap.Ns X.env.locals m->h'.Ns X.env.locals m) (hok:HOk X.prog X.w H' h') (hg:AllBare g'):
  Inv X pins σ H' { s with heap:=h',gens:=g',drawn:=d',toks:=t' }:=by
 have neL:∀ b o,X.s₀.heap.get? b=some o->b≠X.env.locals:=fun b o e=>Qs (Qr (Heap.lt_size e) I.ok.above)
 have neC:∀ b o,X.s₀.heap.get? b=some o->b∉X.ex->b∉ch:=fun b o e hx hb=>by
  rcases (hch b hb).1 with z | z
  ·exact hx z
  ·exact absurd (Qr (Heap.lt_size e) z) (Q3 _)
 have cellK:∀ x c,X.env.cells.lookup x=some c->∀ v,s.heap.IsCell c v->h'.IsCell c v:=fun x c e v ⟨o,ho,hd⟩=>by
  have nch:c∉ch:=fun z=>(hch c z).2.2.1 x c e rfl
  by_cases hc:c∈X.fs
  ·obtain⟨sl,q⟩:=slot c o (I.cne x c e) hc nch ho (I.freeC x c e)
   exact⟨_,q,hd⟩
  ·exact⟨o,keep c o (I.cne x c e) hc nch ho (I.freeC x c e),hd⟩
 refine⟨I.ok,I.os,hg,⟨fun b o e n hb hx=>?_,fun b o e n hb hx=>?_,fun b o e n hx=>?_,fun b o e hx=>?_,fun b xs e=>tups b xs (I.base.tups b xs e),fun b o xs e=>frzs b o xs (I.base.frzs b o xs e),fun b ps e=>?_⟩,?_,fun x c e=>?_,?_,fun x c e=>?_,fun p hp=>?_,hok,I.len⟩
 ·exact keep b o (neL b o e) hb (neC b o e hx) (I.base.keep b o e n hb hx) (I.base.free b o e n hx)
 ·obtain⟨sl,e1⟩:=I.base.slot b o e n hb hx
  obtain⟨sl',e2⟩:=slot b _ (neL b o e) hb (neC b o e hx) e1 (I.base.free b o e n hx);exact⟨sl',e2⟩
 ·obtain⟨o',e1⟩:=I.base.there b o e hx
  exact free b o' (neC b o e hx) e1 (I.base.free b o e n hx)
 ·obtain⟨o',e1⟩:=I.base.there b o e hx
  exact there b o' (neC b o e hx) e1
 ·obtain⟨m1,e1⟩:=I.base.tbls b ps e
  obtain⟨m2,e2⟩:=tbls b _ e1;exact⟨m1++m2,by rw[e2,Array.append_assoc]⟩
 ·obtain⟨m,hn,hl⟩:=I.loc
  refine⟨m,ns m hn,fun i x v e1 e2 e3=>?_⟩
  obtain⟨u,r,l⟩:=hl i x v e1 e2 e3;refine⟨u,r,?_⟩
  rcases l with l | ⟨k,c,e,z⟩
  ·exact .inl l
  ·exact .inr ⟨k,c,e,cellK x c e _ z⟩
 ·obtain⟨v,z⟩:=I.cell x c e
  exact⟨v,cellK x c e v z⟩
 ·obtain⟨m,⟨o,_,_,ho,_⟩,_⟩:=I.loc
  exact free _ o (fun z=>(hch _ z).2.1 rfl) ho I.free
 ·obtain⟨v,o,ho,hd⟩:=I.cell x c e
  exact free c o (fun z=>(hch c z).2.2.1 x c e rfl) ho (I.freeC x c e)
 ·obtain⟨e,n,ne,nf,d⟩:=I.pin p hp
  have nch:p.1∉ch:=fun z=>(hch p.1 z).2.2.2 p hp rfl
  exact⟨keep p.1 p.2 ne nf nch e n,free p.1 p.2 nch e n,ne,nf,d⟩
theorem Inv.un{t':Nat}(I:Inv X pins σ H s)(u:Un X.fs [] H H' s.heap h')(hok:HOk X.prog X.w H' h'):Inv X pins σ H' { s with heap:=h',toks:=t' }:=by
 obtain⟨m,⟨o,es,ep,ho,r⟩,_⟩:=id I.loc;obtain⟨sl,hL⟩:=u.any ho I.free (by simp)
 exact I.step (g':=s.gens) (d':=s.drawn) (ch:=[]) (fun _ z=>nomatch z) (fun b o _ hb _ e n=>u.keep b o e n hb (by simp)) (fun b o _ hb _ e n=>u.slot b o e n hb (by simp)) (fun b o _ e n=>u.free b o e n (by simp)) (fun b o _ e=>u.there b o e (by simp)) u.tups u.frzs u.tbls (fun m' hm=>by
  obtain⟨o',es',ep',ho',r'⟩:=hm;rw[ho] at ho';cases ho'
  exact⟨_,es',ep',hL,r'⟩) hok I.bare
theorem Inv.call{g':Array GenState}{t':Nat}{d':Drawn}{ch:List Addr}(I:Inv X pins σ H s)(u:Un (frs X.stack) ch H H' s.heap h')(hok:HOk X.prog X.w H' h')(hg:AllBare g')
  (hch:∀ b∈ch,(b∈X.ex∨X.s₀.heap.objs.size<=b)/\b≠X.env.locals/\(∀ x c,X.env.cells.lookup x=some c->c≠b)/\∀ p∈X.pn++pins,p.1≠b):
  Inv X pins σ H' { s with heap:=h',gens:=g',drawn:=d',toks:=t' }:=by
 obtain⟨m,⟨o,es,ep,ho,r⟩,_⟩:=id I.loc;obtain⟨sl,hL⟩:=u.any ho I.free fun z=>(hch _ z).2.1 rfl
 exact I.step (ch:=ch) hch (fun b o hL hb hc e n=>u.keep b o e n (fun z=>(Qc.mp (I.stkSub b z)).elim hL hb) hc) (fun b o _ _ hc e n=>u.any e n hc) (fun b o hc e n=>u.free b o e n hc) (fun b o hc e=>u.there b o e hc) u.tups u.frzs u.tbls (fun m' hm=>by
  obtain⟨o',es',ep',ho',r'⟩:=hm;rw[ho] at ho';cases ho'
  exact⟨_,es',ep',hL,r'⟩) hok hg
theorem Inv.turned{t':Nat}{it:Addr}(I:Inv X pins σ H s)(k:∀ b o,b≠it->s.heap.get? b=some o->h'.get? b=some o)(hn:H it=none)(hL:it≠X.env.locals)
  (h1:it∈X.ex∨X.s₀.heap.objs.size<=it) (h2:∀ x c,X.env.cells.lookup x=some c->c≠it) (h3:∀ p∈X.pn++pins,p.1≠it):Inv X pins σ H { s with heap:=h',toks:=t' }:=by
 have nit:∀ b u,H b=some u->b≠it:=fun b u e z=>by rw[z,hn] at e;cases e
 refine I.step (g':=s.gens) (d':=s.drawn) (ch:=[it]) (fun b hb=>?_) (fun b o _ _ hc e _=>k b o (fun z=>hc (by simp[z])) e) (fun b o _ _ hc e _=>⟨o.slots,k b o (fun z=>hc (by simp[z])) e⟩) (fun _ _ _ _ n=>n)
  (fun b o hc e=>⟨o,k b o (fun z=>hc (by simp[z])) e⟩) (fun _ _ e=>e) (fun _ _ _ e=>e) (fun b ps e=>⟨#[],by rw[e];simp⟩) (fun m hm=>?_) (fun b u e=>?_) I.bare
 ·have e:b=it:=by simpa using hb
  subst e;exact⟨h1,hL,h2,h3⟩
 ·obtain⟨o,es,ep,ho,r⟩:=hm
  exact⟨o,es,ep,k _ o (Ne.symm hL) ho,r⟩
 ·refine(I.hok b u e).stay (fun c v hc q=>k c v ?_ q) (fun _ q=>q) fun _ _ q=>q
  rcases hc with z | z
  ·rw[z];exact nit b u e
  ·exact nit c _ z
theorem Inv.tok(I:Inv X pins σ H s)(t:Nat):Inv X pins σ H { s with toks:=t }:=I.un (h':=s.heap) (t':=t) Un.refl I.hok
theorem Inv.kept{t':Nat}(I:Inv X pins σ H s)(k:∀ b u,s.heap.get? b=some u->h'.get? b=some u):Inv X pins σ H { s with heap:=h',toks:=t' }:=I.un (Un.kept k) (I.hok.kept k)
theorem Inv.laid{a:Addr}{o:HO}{t':Nat}(I:Inv X pins σ H s)(k:∀ b u,s.heap.get? b=some u->h'.get? b=some u)(hp:s.heap.objs.size<=a)(new:mK X.prog X.w (upd H a o) h' a o):
  Inv X pins σ (upd H a o) { s with heap:=h',toks:=t' }:=I.un (Un.laid k hp (I.hok.fresh hp)) (I.hok.laid k hp new)
theorem Inv.write{x e:Addr}{o:HO}{t':Nat}(I:Inv X pins σ H s)(mu:Mut (H x))(he:e=x∨H e=some (.own x))(k:∀ b u,b≠e->s.heap.get? b=some u->h'.get? b=some u)(heo:∃ u,h'.get? e=some u)
  (new:mK X.prog X.w (upd H x o) h' x o):Inv X pins σ (upd H x o) { s with heap:=h',toks:=t' }:=I.un (Un.write mu he k heo) (I.hok.write mu he k heo new)
theorem Inv.pins_of{pins':List (Addr×Obj)}(I:Inv X pins σ H s)(h:∀ p∈pins',s.heap.get? p.1=some p.2/\H p.1=none/\p.1≠X.env.locals/\p.1∉X.fs/\∀ v,p.2.data≠.cell v):Inv X pins' σ H s:=
 ⟨I.ok,I.os,I.bare,I.base,I.loc,I.cell,I.free,I.freeC,fun p hp=>(QG.mp hp).elim (fun z=>I.pin p (Vc _ z)) (h p),I.hok,I.len⟩
theorem zFu{N:List Str}(hN:N.Nodup){i j:Nat}{x:Str}(a:N[i]?=some x)(b:N[j]?=some x):i=j:=by
 obtain⟨h1,e1⟩:=Qx.mp a;obtain⟨h2,e2⟩:=Qx.mp b;exact(List.getElem_inj hN).mp (e1.trans e2.symm)
theorem zBi{M:Model}{A:Around}{E:Value->Shared->Prop}{i:Nat}{x:Str}{v:V}{u:Value}{Q:Unit->Shared->Prop}(I:Inv X pins σ H s)(hN:X.N.Nodup)(hi:X.N[i]?=some x)(hx:Loc X.env.scope x)(r:dB v u)
  (h:∀ s',Inv X pins (σ.set i (some v)) H s'->(∃ a,Heap.SameBut a s.heap s'.heap/\(a=X.env.locals∨X.env.cells.lookup x=some a))->Q () s') (hf:X.fn x=true∨X.env.scope.names.lookup x=some .local:=by first | exact .inl rfl | exact .inr rfl | assumption):wpAny M A (storeName X.env x u) Q E s:=by
 obtain⟨m,hn,hl⟩:=id I.loc;have hcls:(X.env.scope.kind==.class || (X.env.scope.kind==.module && X.env.locals != X.env.globals))=false:=by rw[I.ok.kind];rfl
 have hiσ:i<σ.length:=by rw[I.len];exact(Qx.mp hi).1
 have cne:=I.cne
 have tracked:∀ {a:Addr} {h':Heap},(∃ o,s.heap.get? a=some o/\H a=none)->Heap.SameBut a s.heap h'->HOk X.prog X.w H h':=fun {a h'} ha hs b ob e=>by
  obtain⟨_,_,hfree⟩:=ha;refine(I.hok b ob e).stay (fun c w' hc q=>(hs.2 c ?_).trans q) (fun _ q=>q) fun _ _ q=>q
  rintro rfl
  rcases hc with rfl | hc
  ·rw[hfree] at e;cases e
  ·rw[hfree] at hc;cases hc
 rcases hx with hk | hk
 ·refine wpAny_storeName_local hk hn (fun h' hn' hs=>?_) hcls
  obtain⟨oL,_,_,hoL,_⟩:=id hn;refine h _ ⟨I.ok,I.os,I.bare,⟨fun b o e n hb hx=>?_,fun b o e n hb hx=>?_,I.base.free,fun b o e hx=>?_,I.base.tups,I.base.frzs,I.base.tbls⟩,⟨_,hn',fun j y v' e1 e2 e3=>?_⟩,fun y c e=>?_,I.free,I.freeC,fun p hp=>?_,tracked ⟨oL,hoL,I.free⟩ hs,by simpa using I.len⟩ ⟨_,hs,.inl rfl⟩
  ·exact(hs.2 b (Qs (Qr (Heap.lt_size e) I.ok.above))).trans (I.base.keep b o e n hb hx)
  ·obtain⟨sl,e1⟩:=I.base.slot b o e n hb hx
   exact⟨sl,(hs.2 b (Qs (Qr (Heap.lt_size e) I.ok.above))).trans e1⟩
  ·obtain⟨o',e1⟩:=I.base.there b o e hx
   exact⟨o',(hs.2 b (Qs (Qr (Heap.lt_size e) I.ok.above))).trans e1⟩
  ·by_cases hj:j=i
   ·subst hj
    rw[hi] at e1;cases e1
    rw[QO hiσ] at e2;cases e2;exact⟨u,r,.inl ⟨hk,by simp⟩⟩
   ·rw[QM (Ne.symm hj)] at e2
    obtain⟨u',r',q⟩:=hl j y v' e1 e2 e3;refine⟨u',r',?_⟩
    rcases q with⟨k,e⟩ | ⟨k,c,e,z⟩
    ·refine .inl ⟨k,?_⟩
     have:y≠x:=fun e=>hj (zFu hN e1 (e ▸ hi))
     simp[this,e]
    ·exact .inr ⟨k,c,e,z.sameBut hs (cne y c e)⟩
  ·obtain⟨w',z⟩:=I.cell y c e
   exact⟨w',z.sameBut hs (cne y c e)⟩
  ·obtain⟨e,n,ne,nf,d⟩:=I.pin p hp
   exact⟨(hs.2 p.1 ne).trans e,n,ne,nf,d⟩
 ·have hfn:X.fn x=true:=by
   rcases hf with z | z
   ·exact z
   ·rw[z] at hk;cases hk
  obtain⟨c,hc⟩:=I.ok.has x (.inl hk);obtain⟨w',z⟩:=I.cell x c hc;refine wpAny_storeName_cell I.ok.kind hk hc z (fun h' hc' hs=>?_)
  obtain⟨oc,hoc,hocd⟩:=id z;refine h { s with heap:=h' } ⟨I.ok,I.os,I.bare,⟨fun b o e n hb hx=>?_,fun b o e n hb hx=>?_,I.base.free,fun b o e hx=>?_,I.base.tups,I.base.frzs,I.base.tbls⟩,⟨m,hn.sameBut hs (Ne.symm (cne x c hc)),fun j y v' e1 e2 e3=>?_⟩,fun y c' e=>?_,I.free,I.freeC,fun p hp=>?_,tracked ⟨oc,hoc,I.freeC x c hc⟩ hs,by simpa using I.len⟩ ⟨c,hs,.inr hc⟩
  ·exact(hs.2 b (Qs (Qr (Heap.lt_size e) (I.ok.cab x c hfn hc)))).trans (I.base.keep b o e n hb hx)
  ·obtain⟨sl,e1⟩:=I.base.slot b o e n hb hx
   exact⟨sl,(hs.2 b (Qs (Qr (Heap.lt_size e) (I.ok.cab x c hfn hc)))).trans e1⟩
  ·obtain⟨o',e1⟩:=I.base.there b o e hx
   exact⟨o',(hs.2 b (Qs (Qr (Heap.lt_size e) (I.ok.cab x c hfn hc)))).trans e1⟩
  ·by_cases hj:j=i
   ·subst hj
    rw[hi] at e1;cases e1
    rw[QO hiσ] at e2;cases e2;exact⟨u,r,.inr ⟨.inl hk,c,hc,hc'⟩⟩
   ·rw[QM (Ne.symm hj)] at e2
    obtain⟨u',r',q⟩:=hl j y v' e1 e2 e3;refine⟨u',r',?_⟩
    rcases q with q | ⟨k,c',e,z'⟩
    ·exact .inl q
    ·refine .inr ⟨k,c',e,z'.sameBut hs ?_⟩
     rintro rfl
     exact hj (zFu hN e1 (I.ok.inj _ _ _ e hc ▸ hi))
  ·by_cases hcc:c'=c
   ·subst hcc;exact⟨_,hc'⟩
   ·obtain⟨w2,z2⟩:=I.cell y c' e
    exact⟨w2,z2.sameBut hs hcc⟩
  ·obtain⟨e,n,ne,nf,d⟩:=I.pin p hp
   refine⟨(hs.2 p.1 ?_).trans e,n,ne,nf,d⟩
   intro q;rw[q,hoc] at e;have q':oc=p.2:=QL e;exact d w' (by rw[<-q'];exact hocd)
theorem tY{M:Model}{A:Around}{E:Value->Shared->Prop}{i:Nat}{x:Str}{v:V}{u:Value}{Q:Unit->Shared->Prop}(I:Inv X pins σ H s)(hN:X.N.Nodup)(hi:X.N[i]?=some x)(hx:Loc X.env.scope x)(r:dB v u)
  (h:∀ s',Inv X pins (σ.set i (some v)) H s'->Q () s') (hf:X.fn x=true∨X.env.scope.names.lookup x=some .local:=by first | exact .inl rfl | exact .inr rfl | assumption):wpAny M A (storeName X.env x u) Q E s:=
 zBi I hN hi hx r (fun s' I' _=>h s' I') hf
theorem Inv.call'{s':Shared}{ch:List Addr}(I:Inv X pins σ H s)(ho:s'.os=s.os)(u:Un (frs X.stack) ch H H' s.heap s'.heap)(hok:HOk X.prog X.w H' s'.heap)(hg:AllBare s'.gens)
  (hch:∀ b∈ch,(b∈X.ex∨X.s₀.heap.objs.size<=b)/\b≠X.env.locals/\(∀ x c,X.env.cells.lookup x=some c->c≠b)/\∀ p∈X.pn++pins,p.1≠b):Inv X pins σ H' s':=by
 obtain⟨h',g',d',t',o'⟩:=s';have e:o'=s.os:=ho;subst e;exact I.call (g':=g') (t':=t') (d':=d') u hok hg hch
end
abbrev XK:=Value->Option Addr->Hp->Prop
abbrev St:=List (Option V)
abbrev VK:=V->Hp->Prop
abbrev TE:=St->Hp->VK->Prop
abbrev TT:=St->Hp->(Bool->Hp->Prop)->Prop
abbrev TA:=St->Hp->(List V->Hp->Prop)->Prop
structure Ends where
 nx:St->Hp->Prop
 rt:VK
 bk:St->Hp->Prop:=fun _ _=>False
 ct:St->Hp->Prop:=fun _ _=>False
abbrev TS:=Ends->St->Hp->Prop
def EP(X:Cx)(pins:List (Addr×Obj))(σ:St)(Q:VK)(u:Value)(s':Shared):Prop:=∃ v H',Inv X pins σ H' s'/\dB v u/\Q v H'
def TP(X:Cx)(pins:List (Addr×Obj))(σ:St)(Q:Bool->Hp->Prop)(b:Bool)(s':Shared):Prop:=∃ H',Inv X pins σ H' s'/\Q b H'
def AP(X:Cx)(pins:List (Addr×Obj))(σ:St)(Q:List V->Hp->Prop)(us:List Value)(s':Shared):Prop:=∃ vs H',Inv X pins σ H' s'/\dN vs us/\Q vs H'
def SP(X:Cx)(pins:List (Addr×Obj))(D:Ends)(f:Flow)(s':Shared):Prop:=
 match f with
 | .next=>∃ σ' H',Inv X pins σ' H' s'/\D.nx σ' H'
 | .brk=>∃ σ' H',Inv X pins σ' H' s'/\D.bk σ' H'
 | .cont=>∃ σ' H',Inv X pins σ' H' s'/\D.ct σ' H'
 | .ret u=>∃ v σ' H',Inv X pins σ' H' s'/\dB v u/\D.rt v H'
def PE(X:Cx)(e:Expr)(t:TE):Prop:=
 ∀(pins:List (Addr×Obj))(s:Shared)(σ:St)(H:Hp)(Q:VK),Inv X pins σ H s->t σ H Q->wpAny (model X.prog X.w) X.A (eval e X.env) (EP X pins σ Q) X.xe s
def PT(X:Cx)(e:Expr)(t:TT):Prop:=
 ∀(pins:List (Addr×Obj))(s:Shared)(σ:St)(H:Hp)(Q:Bool->Hp->Prop),Inv X pins σ H s->t σ H Q->wpAny (model X.prog X.w) X.A (isTrue e X.env (eval e X.env)) (TP X pins σ Q) X.xe s
def PW(X:Cx)(e:Expr)(t:TT):Prop:=
 ∀(whole:Sem Value)(pins:List (Addr×Obj))(s:Shared)(σ:St)(H:Hp)(Q:Bool->Hp->Prop),Inv X pins σ H s->t σ H Q->wpAny (model X.prog X.w) X.A (isTrue e X.env whole) (TP X pins σ Q) X.xe s
theorem PW.pt{X:Cx}{e:Expr}{t:TT}(h:PW X e t):PT X e t:=h _
def PA(X:Cx)(es:List Expr)(t:TA):Prop:=
 ∀(pos:Pos)(pins:List (Addr×Obj))(s:Shared)(σ:St)(H:Hp)(Q:List V->Hp->Prop),Inv X pins σ H s->t σ H Q->wpAny (model X.prog X.w) X.A (spliced (backTo pos (starEach es X.env))) (AP X pins σ Q) X.xe s
def PS(X:Cx)(st:Stmt)(t:TS):Prop:=
 ∀(pins:List (Addr×Obj))(s:Shared)(σ:St)(H:Hp)(D:Ends),Inv X pins σ H s->t D σ H->wpAny (model X.prog X.w) X.A (exec st X.env) (SP X pins D) X.xe s
def PSs(X:Cx)(st:List Stmt)(t:TS):Prop:=
 ∀(pins:List (Addr×Obj))(s:Shared)(σ:St)(H:Hp)(D:Ends),Inv X pins σ H s->t D σ H->wpAny (model X.prog X.w) X.A (execs st X.env) (SP X pins D) X.xe s
theorem thn{α:Type}{t:Sem α}{Q Q':α->Shared->Prop}{M:Model}{A:Around}{E:Value->Shared->Prop}{s:Shared}(h:wpAny M A t Q E s)(hQ:∀ a s,Q a s->Q' a s):wpAny M A t Q' E s:=wpAny_mono h hQ fun _ _ x=>x
section
variable{X:Cx}
theorem bin{a b:Expr}{ta tb:TE}(ha:PE X a ta)(hb:PE X b tb){pins:List (Addr×Obj)}{s:Shared}{σ:St}{H:Hp}{R:V->V->Hp->Prop}(I:Inv X pins σ H s)(h:ta σ H fun x H1=>tb σ H1 fun y H2=>R x y H2)
  {α:Type} {Q:α->Shared->Prop} {f:Value->Value->Sem α}
  (hf:∀ v u s2 x y H2,Inv X pins σ H2 s2->dB x v->dB y u->R x y H2->wpAny (model X.prog X.w) X.A (f v u) Q X.xe s2):
  wpAny (model X.prog X.w) X.A (eval a X.env) (fun v s₁=>wpAny (model X.prog X.w) X.A (eval b X.env) (fun u s₂=>wpAny (model X.prog X.w) X.A (f v u) Q X.xe s₂) X.xe s₁) X.xe s:=by
 refine thn (ha pins s σ H _ I h) fun v s1 ⟨x,H1,I1,r1,q1⟩=>?_
 refine thn (hb pins s1 σ H1 _ I1 q1) fun u s2 ⟨y,H2,I2,r2,q2⟩=>?_
 exact hf v u s2 x y H2 I2 r1 r2 q2
abbrev zFb(i:Nat):TE:=fun σ H Q=>∃ v,σ[i]?=some (some v)/\Q v H
abbrev tC(v:V):TE:=fun _ H Q=>Q v H
theorem uY{i:Nat}{x:Str}{pos:Pos}(hN:X.N[i]?=some x)(hv:Vis X.env.scope x)(hd:(x==("__debug__" : Str))=false:=by decide)(hcd:(x==("__classdict__" : Str))=false:=by decide):PE X (.Name x pos) (zFb i):=by
 intro pins s σ H Q I h;obtain⟨v,e,h⟩:=h;obtain⟨m,hn,hl⟩:=I.loc;obtain⟨u,r,l⟩:=hl i x v hN e hv;have fin:EP X pins σ Q u s:=⟨v,H,I,r,h⟩;rcases l with⟨hk,hm⟩ | ⟨hk,c,hc,hcell⟩
 ·exact wpAny_Name (wpAny_loadName_local I.ok.kind hk hn hm fin) hd
 ·rcases hk with hk | hk
  ·exact wpAny_Name (wpAny_loadName_cell I.ok.kind hk hc hcell fin) hd
  ·exact wpAny_Name (wpAny_loadName_free I.ok.kind hk hc hcell fin hcd) hd
theorem zIs{i j pos}:PE X (.Constant (.int i) j pos) (tC (.int i)):=fun _ _ _ H _ I h=>wpAny_Constant_int ⟨.int i,H,I.tok _,⟨_,rfl⟩,h⟩
theorem zKL{b j pos}:PE X (.Constant (.bool b) j pos) (tC (.bl b)):=fun _ _ _ H _ I h=>Constant_bool ⟨.bl b,H,I,rfl,h⟩
theorem zFj{j pos}:PE X (.Constant .none j pos) (tC .non):=fun _ _ _ H _ I h=>Constant_none ⟨.non,H,I,rfl,h⟩
theorem cP{x j pos}:PE X (.Constant (.str x) j pos) (tC (.str x)):=fun _ _ _ H _ I h=>Calls.Constant_str ⟨.str x,H,I.tok _,⟨_,rfl⟩,h⟩
def Gl(X:Cx)(x:Str):Prop:=X.env.kindOf x=some .globalImplicit
theorem zDA{E:Value->Shared->Prop}{pins:List (Addr×Obj)}{s:Shared}{σ:St}{H:Hp}{x:Str}{u:Value}{pos:Pos}{Q:Value->Shared->Prop}(I:Inv X pins σ H s)(hg:Gl X x)(hm:X.mg x=some u)(h:Q u s)
  (hd:(x==("__debug__" : Str))=false:=by decide):wpAny (model X.prog X.w) X.A (eval (.Name x pos) X.env) Q E s:=
 Calls.Name_function_global I.ok.kind hg (Calls.loadGlobal_global (by rw[I.ok.glob];exact I.mod.glob.keeps I.bk) hm h) hd
theorem oQ{E:Value->Shared->Prop}{pins:List (Addr×Obj)}{s:Shared}{σ:St}{H:Hp}{x:Str}{u:Value}{pos:Pos}{Q:Value->Shared->Prop}(I:Inv X pins σ H s)(hg:Gl X x)(hm:X.mg x=none)(hv:bootBuiltins x=some u)(h:Q u s)
  (hn:x ≠ "__name__" := by decide) (hd:(x==("__debug__" : Str))=false:=by decide):wpAny (model X.prog X.w) X.A (eval (.Name x pos) X.env) Q E s:=by
 obtain⟨mb,h1,h2⟩:=I.mod.blt;exact Calls.Name_function_global I.ok.kind hg (Calls.loadGlobal_builtin (by rw[I.ok.glob];exact I.mod.glob.keeps I.bk) hm (by rw[I.ok.blt];exact h1.keeps I.bk) ((h2 x hn).trans hv) h) hd
theorem zHc{x:Str}{v:V}{u:Value}{pos:Pos}(hg:Gl X x)(hm:X.mg x=some u)(r:dB v u)(hd:(x==("__debug__" : Str))=false:=by decide):PE X (.Name x pos) (tC v):=
 fun _ _ _ H _ I h=>zDA I hg hm ⟨v,H,I,r,h⟩ hd
variable{a b:Expr}{ta tb:TE}{pos:Pos}
def PC(X:Cx)(op:CmpOp)(a b:Expr)(t:TE):Prop:=
 ∀(pins:List (Addr×Obj))(s:Shared)(σ:St)(H:Hp)(Q:VK),Inv X pins σ H s->t σ H Q->
  wpAny (model X.prog X.w) X.A (eval a X.env) (fun v s₁=>wpAny (model X.prog X.w) X.A (eval b X.env) (fun u s₂=>wpAny (model X.prog X.w) X.A (compareOp op v u) (EP X pins σ Q) X.xe s₂) X.xe s₁) X.xe s
theorem zLt(b:Expr){op:CmpOp}(h:op≠.In)(h2:op≠.NotIn):behindInMarks op b=false:=by
 have e1:(op==CmpOp.In)=false:=by cases op<;>first | rfl | exact absurd rfl h
 have e2:(op==CmpOp.NotIn)=false:=by cases op<;>first | rfl | exact absurd rfl h2
 cases b<;>simp[behindInMarks,e1,e2]
abbrev tB(t:TE):TT:=fun σ H Q=>t σ H fun x H1=>∃ c,x=.bl c/\Q c H1
theorem zSs{op:CmpOp}{t:TE}(h:PC X op a b t)(h1:behindInMarks op b=false:=by first | exact zLt _ (by decide) (by decide) | rfl):PT X (.Compare a [op] [b] pos) (tB t):=by
 intro pins s σ H Q I hw;refine wpAny_isTrue_Compare1 (thn (h pins s σ H _ I hw) fun v s1 h1=>thn h1 fun u s2 h2=>thn h2 fun c s3 ⟨x,H1,I1,r1,q1⟩=>?_) h1
 obtain⟨d,rfl,q⟩:=q1;cases r1;exact wpAny_truthy_bool ⟨H1,I1,q⟩
theorem zPL{e:Expr}{t:TE}(h:PE X e t)(he:∀ whole,isTrue e X.env whole=(do let v <-whole;standAt e.pos;holding [v] (truthy v)):=by intro _;rfl):PT X e (tB t):=by
 intro pins s σ H Q I hw;refine isTrue_plain (thn (h pins s σ H _ I hw) fun v s1 ⟨x,H1,I1,r1,q1⟩=>?_) (he _)
 obtain⟨d,rfl,q⟩:=q1;cases r1;exact wpAny_truthy_bool ⟨H1,I1,q⟩
variable{tA tB':TT}{rest:List Expr}
abbrev zTk(t u:TT):TT:=fun σ H Q=>t σ H fun c H1=>if c=true then u σ H1 Q else Q false H1
abbrev tOr(t u:TT):TT:=fun σ H Q=>t σ H fun c H1=>if c=true then Q true H1 else u σ H1 Q
abbrev zTg(t:TT):TT:=fun σ H Q=>t σ H fun c H1=>Q (!c) H1
theorem zNS(ha:PT X a tA):PW X (.BoolOp .And [a] pos) tA:=by
 intro wh pins s σ H Q I h;refine isTrue_and (thn (ha pins s σ H Q I h) fun c s1 e=>?_)
 cases c with
 | true=>exact isTrue_and_nil e
 | false=>exact e
theorem zQR(ha:PT X a tA):PW X (.BoolOp .Or [a] pos) tA:=by
 intro wh pins s σ H Q I h;refine isTrue_or (thn (ha pins s σ H Q I h) fun c s1 e=>?_)
 cases c with
 | false=>exact isTrue_or_nil e
 | true=>exact e
theorem zPY(ha:PT X a tA)(hb:PW X (.BoolOp .And (b::rest) pos) tB'):PW X (.BoolOp .And (a::b::rest) pos) (zTk tA tB'):=by
 intro wh pins s σ H Q I h;refine isTrue_and (thn (ha pins s σ H _ I h) fun c s1 ⟨H1,I1,q1⟩=>?_)
 cases c with
 | true=>exact hb wh pins s1 σ H1 Q I1 q1
 | false=>exact⟨H1,I1,q1⟩
theorem zRX(ha:PT X a tA)(hb:PW X (.BoolOp .Or (b::rest) pos) tB'):PW X (.BoolOp .Or (a::b::rest) pos) (tOr tA tB'):=by
 intro wh pins s σ H Q I h;refine isTrue_or (thn (ha pins s σ H _ I h) fun c s1 ⟨H1,I1,q1⟩=>?_)
 cases c with
 | true=>exact⟨H1,I1,q1⟩
 | false=>exact hb wh pins s1 σ H1 Q I1 q1
theorem zPJ(ha:PT X a tA):PT X (.UnaryOp .Not a pos) (zTg tA):=by
 intro pins s σ H Q I h;exact isTrue_not (ha pins s σ H (fun c H1=>Q (!c) H1) I h)
abbrev zTj(ta tb:TE):TE:=fun σ H Q=>ta σ H fun x H1=>∃ c,x=.bl c/\if c=true then Q (.bl true) H1 else tb σ H1 Q
theorem zOR{op}{t:TE}(h:PE X a t):PE X (.BoolOp op [a] pos) t:=fun pins s σ H Q I hw=>BoolOp_one (h pins s σ H Q I hw)
theorem zRx(ha:PE X a ta)(hb:PE X (.BoolOp .Or (b::rest) pos) tb):PE X (.BoolOp .Or (a::b::rest) pos) (zTj ta tb):=by
 intro pins s σ H Q I h;refine BoolOp_or (thn (ha pins s σ H _ I h) fun v s1 ⟨x,H1,I1,r1,q1⟩=>?_)
 obtain⟨c,rfl,q1⟩:=q1;cases r1;refine wpAny_truthy_bool ?_
 cases c with
 | false=>exact hb pins s1 σ H1 Q I1 q1
 | true=>exact⟨.bl true,H1,I1,rfl,q1⟩
abbrev tIf(t:TT)(ta tb:TE):TE:=fun σ H Q=>t σ H fun c H1=>if c=true then ta σ H1 Q else tb σ H1 Q
theorem zLf{c:Expr}(hc:PT X c tA)(ha:PE X a ta)(hb:PE X b tb):PE X (.IfExp c a b pos) (tIf tA ta tb):=by
 intro pins s σ H Q I h;refine wpAny_IfExp (thn (hc pins s σ H _ I h) fun d s1 ⟨H1,I1,q1⟩=>?_)
 cases d with
 | true=>exact ha pins s1 σ H1 Q I1 q1
 | false=>exact hb pins s1 σ H1 Q I1 q1
end
def SqL(K:PySem.W.Frag)(H:Hp)(a:Addr)(xs:List V):Prop:=
 Rd H a (.lst xs)∨
  ∃(o:Obj)(its:Array Value)(n:Nat),K.lookup a=some o/\o.cls=.type "list" /\ o.dict=none/\o.data=.seq its n/\its.size<=sizeLine/\dN xs its.toList
def SqT(K:PySem.W.Frag)(H:Hp)(a:Addr)(xs:List V):Prop:=
 Rd H a (.tup xs)∨
  ∃(o:Obj)(its:Array Value)(n:Nat),K.lookup a=some o/\o.cls=.type "tuple" /\ o.data=.seq its n/\its.size<=sizeLine/\dN xs its.toList
def zSW:Value->Option V
 | .none=>some .non
 | .bool b=>some (.bl b)
 | .int i _=>some (.int i)
 | .str x _=>some (.str x)
 | .bytes b _=>some (.byt b)
 | .float b _=>some (.flt b)
 | .ref a=>some (.ref a)
 | .type n=>some (.ty n)
 | _=>none
theorem dB.abs{x:V}{u:Value}(r:dB x u):zSW u=some x:=by
 cases x with
 | non=>cases r;rfl
 | bl _=>cases r;rfl
 | int _=>obtain⟨t,rfl⟩:=r;rfl
 | str _=>obtain⟨t,rfl⟩:=r;rfl
 | byt _=>obtain⟨t,rfl⟩:=r;rfl
 | flt _=>obtain⟨t,rfl⟩:=r;rfl
 | ref _=>cases r;rfl
 | ty _=>cases r;rfl
theorem dB.inj{x y:V}{u:Value}(r:dB x u)(q:dB y u):x=y:=QL (r.abs.symm.trans q.abs)
theorem dN.inj:∀ {xs ys:List V} {us:List Value},dN xs us->dN ys us->xs=ys
 | _,_,_,.nil,.nil=>rfl
 | _,_,_,.cons r t,.cons r' t'=>by rw[r.inj r',dN.inj t t']
section
variable{X:Cx}{pins:List (Addr×Obj)}{σ:St}{H:Hp}{s:Shared}{a:Addr}{xs ys:List V}
theorem SqL.of{K:Fg_}(h:H a=some (.lst xs)):SqL K H a xs:=.inl (.inl h)
theorem SqT.of{K:Fg_}(h:H a=some (.tup xs)):SqT K H a xs:=.inl (.inl h)
theorem Inv.list(I:Inv X pins σ H s)(h:SqL X.K H a xs):∃ its:List Value,dN xs its/\PlainL s.heap a its.toArray/\xs.length<=sizeLine:=by
 rcases h with h | ⟨o,its,n,hk,hc,hd,hs,hz,r⟩
 ·obtain⟨z,its,n,r,e⟩:=h.ok I.hok
  exact⟨its,r,⟨_,n,e,rfl,rfl,rfl⟩,z⟩
 ·refine⟨its.toList,r,⟨o,n,I.kIn a o hk,hc,hd,by simpa using hs⟩,?_⟩
  have e:=r.length;simp only[VW] at e;omega
theorem Inv.tuple(I:Inv X pins σ H s)(h:SqT X.K H a xs):∃ its:List Value,dN xs its/\IsTup s.heap a its.toArray/\xs.length<=sizeLine:=by
 rcases h with h | ⟨o,its,n,hk,hc,hs,hz,r⟩
 ·obtain⟨z,its,r,p⟩:=h.ok I.hok
  exact⟨its,r,p,z⟩
 ·refine⟨its.toList,r,⟨o,I.kIn a o hk,hc,n,by simpa using hs⟩,?_⟩
  have e:=r.length;simp only[VW] at e;omega
theorem Inv.list_inj(I:Inv X pins σ H s)(h:SqL X.K H a xs)(h':SqL X.K H a ys):xs=ys:=by
 obtain⟨its,r,⟨o,n,e,_,_,d⟩,_⟩:=I.list h;obtain⟨its',r',⟨o',n',e',_,_,d'⟩,_⟩:=I.list h';rw[e] at e';cases e'
 rw[d] at d';injection d' with d1 _
 have:its=its':=by simpa using congrArg Array.toList d1
 subst this;exact r.inj r'
theorem Inv.tuple_inj(I:Inv X pins σ H s)(h:SqT X.K H a xs)(h':SqT X.K H a ys):xs=ys:=by
 obtain⟨its,r,⟨o,e,_,n,d⟩,_⟩:=I.tuple h;obtain⟨its',r',⟨o',e',_,n',d'⟩,_⟩:=I.tuple h';rw[e] at e';cases e'
 rw[d] at d';injection d' with d1 _
 have:its=its':=by simpa using congrArg Array.toList d1
 subst this;exact r.inj r'
end
section
variable{X:Cx}{pins:List (Addr×Obj)}{σ:St}{H:Hp}{s:Shared}{E:Value->Shared->Prop}
end
section
variable{X:Cx}{st:Stmt}{rest:List Stmt}{t u:TS}{e:Expr}{te:TE}{pos:Pos}
abbrev zRo:TS:=fun D σ H=>D.nx σ H
abbrev zRH(t u:TS):TS:=fun D σ H=>t { D with nx:=u D } σ H
theorem zMP:PSs X [] zRo:=fun _ _ σ H _ I h=>wpAny_execs_nil ⟨σ,H,I,h⟩
theorem tZ(h1:PS X st t)(h2:PSs X rest u):PSs X (st::rest) (zRH t u):=by
 intro pins s σ H D I h;refine wpAny_execs_cons (thn (h1 pins s σ H { D with nx:=u D } I h) fun f s1 q=>?_)
 cases f with
 | next=>
  obtain⟨σ',H',I',q⟩:=q;exact h2 pins s1 σ' H' D I' q
 | ret v=>exact q
 | brk=>exact q
 | cont=>exact q
theorem zDS(h1:PS X st t):PSs X [st] t:=by
 intro pins s σ H D I h;refine wpAny_execs_cons (thn (h1 pins s σ H D I h) fun f s1 q=>?_)
 cases f with
 | next=>exact wpAny_execs_nil q
 | ret v=>exact q
 | brk=>exact q
 | cont=>exact q
theorem Inv.quiet{pins:List (Addr×Obj)}{σ:St}{H:Hp}{s:Shared}(I:Inv X pins σ H s):interactive X.env=false:=by simp[interactive,I.ok.kind]
abbrev zRR(te:TE):TS:=fun D σ H=>te σ H fun _ H1=>D.nx σ H1
theorem yZ(he:PE X e te)(hs:swapsWith e none pos.line X.env=pure false:=by rfl):PS X (.Expr e pos) (zRR te):=by
 intro pins s σ H D I h;exact wpAny_Expr_any (thn (he pins s σ H _ I h) fun v s1 ⟨x,H1,I1,r1,q1⟩=>⟨σ,H1,I1,q1⟩) I.quiet hs
abbrev zSm(te:TE):TS:=fun D σ H=>te σ H D.rt
theorem zEV(he:PE X e te):PS X (.Return (some e) pos) (zSm te):=by
 intro pins s σ H D I h;exact wpAny_Return_some (thn (he pins s σ H _ I h) fun v s1 ⟨x,H1,I1,r1,q1⟩=>⟨x,σ,H1,I1,r1,q1⟩)
abbrev zSR(c:TT)(t u:TS):TS:=fun D σ H=>c σ H fun b H1=>if b=true then t D σ H1 else u D σ H1
theorem zRO{c:Expr}{a b:List Stmt}{tc:TT}(hc:PT X c tc)(ha:PSs X a t)(hb:PSs X b u):PS X (.If c a b pos) (zSR tc t u):=by
 intro pins s σ H D I h;refine wpAny_If (thn (hc pins s σ H _ I h) fun d s1 ⟨H1,I1,q1⟩=>?_)
 cases d with
 | true=>exact ha pins s1 σ H1 D I1 q1
 | false=>exact hb pins s1 σ H1 D I1 q1
end
abbrev TG:=V->St->Hp->(St->Hp->Prop)->Prop
abbrev TGs:=List V->St->Hp->(St->Hp->Prop)->Prop
def PG(X:Cx)(target:Expr)(t:TG):Prop:=
 ∀(pins:List (Addr×Obj))(s:Shared)(σ:St)(H:Hp)(v:V)(u:Value)(Q:St->Hp->Prop),Inv X pins σ H s->dB v u->t v σ H Q->
  wpAny (model X.prog X.w) X.A (assign target X.env u) (fun _ s'=>∃ σ' H',Inv X pins σ' H' s'/\Q σ' H') X.xe s
def PGs(X:Cx)(ts:List Expr)(t:TGs):Prop:=
 ∀(pins:List (Addr×Obj))(s:Shared)(σ:St)(H:Hp)(vs:List V)(us:List Value)(Q:St->Hp->Prop),Inv X pins σ H s->dN vs us->t vs σ H Q->
  wpAny (model X.prog X.w) X.A (assignInOrder ((assignEach ts X.env).map (·.2)) us) (fun _ s'=>∃ σ' H',Inv X pins σ' H' s'/\Q σ' H') X.xe s
abbrev zRN:=V->V->V->Hp->(Hp->Prop)->Prop
def zSz(X:Cx)(t:zRN):Prop:=
 ∀(pins:List (Addr×Obj))(s:Shared)(σ:St)(H:Hp)(o i v:V)(ov iv u:Value)(Q:Hp->Prop),Inv X pins σ H s->dB o ov->dB i iv->dB v u->t o i v H Q->
  wpAny (model X.prog X.w) X.A (setItem ov iv u) (fun _ s'=>∃ H',Inv X pins σ H' s'/\Q H') X.xe s
abbrev TIp:=V->V->Hp->VK->Prop
def PIp(X:Cx)(op:Operator)(t:TIp):Prop:=
 ∀(pins:List (Addr×Obj))(s:Shared)(σ:St)(H:Hp)(x y:V)(v u:Value)(Q:VK),Inv X pins σ H s->dB x v->dB y u->t x y H Q->
  wpAny (model X.prog X.w) X.A (inplaceOp op v u) (EP X pins σ Q) X.xe s
section
variable{X:Cx}{pos:Pos}
abbrev gName(i:Nat):TG:=fun v σ H Q=>Q (σ.set i (some v)) H
theorem zDY{i:Nat}{x:Str}(hN:X.N.Nodup)(hi:X.N[i]?=some x)(hx:Loc X.env.scope x)(hf:X.fn x=true∨X.env.scope.names.lookup x=some .local:=by first | exact .inl rfl | exact .inr rfl | assumption):PG X (.Name x pos) (gName i):=by
 intro pins s σ H v u Q I r h;exact wpAny_assign_Name (tY I hN hi hx r (fun s' I'=>⟨_,H,I',h⟩) hf)
def zGF:TGs:=fun vs σ H Q=>vs=[]/\Q σ H
def mM(t:TG)(u:TGs):TGs:=fun vs σ H Q=>∃ v r,vs=v::r/\t v σ H fun σ' H'=>u r σ' H' Q
theorem zIc:PGs X [] zGF:=by
 intro pins s σ H vs us Q I r h;obtain⟨e,h⟩:=h;subst e;cases r;exact assignInOrder_nil ⟨σ,H,I,h⟩
theorem zAN{e:Expr}{es:List Expr}{t:TG}{u:TGs}(h1:PG X e t)(h2:PGs X es u)
  (hs:(assignEach (e::es) X.env).map (·.2)=assign e X.env::(assignEach es X.env).map (·.2):=by rfl):PGs X (e::es) (mM t u):=by
 intro pins s σ H vs us Q I r h;obtain⟨v,vr,e1,h⟩:=h;subst e1
 cases r with
 | cons r rr=>
  rw[hs];refine assignInOrder_cons (thn (h1 pins s σ H _ _ _ I r h) fun _ s1 ⟨σ1,H1,I1,q1⟩=>?_)
  exact h2 pins s1 σ1 H1 _ _ Q I1 rr q1
def zGH(K:PySem.W.Frag)(n:Nat)(t:TGs):TG:=fun v σ H Q=>∃ a xs,v=.ref a/\SqT K H a xs/\xs.length=n/\t xs σ H Q
theorem zLz{es:List Expr}{k:Nat}{t:TGs}{n:Nat}(hc:X.calm=true)(h:PGs X es t)
  (hn:(assignEach es X.env).length=n:=by rfl) (hst:(assignEach es X.env).findIdx? (·.1)=none:=by rfl):PG X (.Tuple es k pos) (zGH X.K n t):=by
 intro pins s σ H v u Q I r hw;obtain⟨a,xs,e1,hq,hl,hw⟩:=hw;subst e1;cases r;obtain⟨its,rv,ht,hz⟩:=I.tuple hq;refine assign_Tuple_tuple (I.ok.hd hc) ht (by simp[hn,<-hl,rv.length]) hst fun h' hx=>?_
 have I1:Inv X pins σ H { s with heap:=h' }:=I.kept (t':=s.toks) fun b o e=>hx b o (Qs (Heap.lt_size e)) e
 exact h pins _ σ H xs _ Q I1 (by simpa using rv) hw
def zTh(to ti:TE)(t:zRN):TG:=fun v σ H Q=>to σ H fun o H1=>ti σ H1 fun i H2=>t o i v H2 fun H3=>Q σ H3
theorem zPd{o i:Expr}{to ti:TE}{t:zRN}(ho:PE X o to)(hi:PE X i ti)(hs:zSz X t)
  (ha:∀ v,assign (.Subscript o i pos) X.env v=(do
   let ov <-holding [v] (eval o X.env)
   let iv <-holding [v,ov] (eval i X.env)
   standAt pos
   holding [v,ov,iv] (setItem ov iv v)
   release [v,ov,iv] []):=by intro _;rfl):PG X (.Subscript o i pos) (zTh to ti t):=by
 intro pins s σ H v u Q I r h;rw[ha];refine wpAny_bind (wpAny_holding (thn (ho pins s σ H _ I h) fun ov s1 ⟨x,H1,I1,r1,q1⟩=>?_))
 refine wpAny_bind (wpAny_holding (thn (hi pins s1 σ H1 _ I1 q1) fun iv s2 ⟨y,H2,I2,r2,q2⟩=>?_))
 refine wpAny_bind (wpAny_standAt (wpAny_bind (wpAny_holding (thn (hs pins s2 σ H2 x y v ov iv u _ I2 r1 r2 r q2) fun _ s3 ⟨H3,I3,q3⟩=>?_))))
 exact wpAny_release ⟨σ,H3,I3,q3⟩
abbrev zRB(te:TE)(g:TG):TS:=fun D σ H=>te σ H fun x H1=>g x σ H1 D.nx
theorem zPA{tg e:Expr}{te:TE}{g:TG}(he:PE X e te)(hg:PG X tg g)(hs:swapsWithSole [tg] e pos.line X.env=pure false:=by rfl)(hw:swappedStores [tg] e X.env=pure none:=by rfl)
  (h1:(assignEach [tg] X.env).map (·.2)=[assign tg X.env]:=by rfl):PS X (.Assign [tg] e pos) (zRB te g):=by
 intro pins s σ H D I h;refine wpAny_Assign_stores (thn (he pins s σ H _ I h) fun v s1 ⟨x,H1,I1,r1,q1⟩=>?_) hs hw
 rw[h1];exact thn (hg pins s1 σ H1 x v _ I1 r1 q1) fun _ s2 q=>q
theorem zLB{i:Nat}{x:Str}{e:Expr}{te:TE}{pos':Pos}(hN:X.N.Nodup)(hi:X.N[i]?=some x)(hx:Loc X.env.scope x)(he:PE X e te)(hs:swapsWith e (some (.Name x pos')) pos.line X.env=pure false:=by rfl)(hf:X.fn x=true∨X.env.scope.names.lookup x=some .local:=by first | exact .inl rfl | exact .inr rfl | assumption):
  PS X (.Assign [.Name x pos'] e pos) (zRB te (gName i)):=by
 intro pins s σ H D I h;refine wpAny_Assign_Name (thn (he pins s σ H _ I h) fun v s1 ⟨y,H1,I1,r1,q1⟩=>?_) hs
 exact tY I1 hN hi hx r1 (fun s2 I2=>⟨_,H1,I2,q1⟩) hf
abbrev zSX(i:Nat)(te:TE)(ti:TIp):TS:=fun D σ H=>∃ x,σ[i]?=some (some x)/\te σ H fun y H1=>ti x y H1 fun z H2=>D.nx (σ.set i (some z)) H2
theorem zPP{i:Nat}{x:Str}{e:Expr}{te:TE}{op:Operator}{ti:TIp}{pos':Pos}(hN:X.N.Nodup)(hi:X.N[i]?=some x)(hx:Loc X.env.scope x)(he:PE X e te)(ho:PIp X op ti)(hf:X.fn x=true∨X.env.scope.names.lookup x=some .local:=by first | exact .inl rfl | exact .inr rfl | assumption):
  PS X (.AugAssign (.Name x pos') op e pos) (zSX i te ti):=by
 intro pins s σ H D I h;obtain⟨v,e1,h⟩:=h;obtain⟨m,hn,hl⟩:=I.loc;have vis:Vis X.env.scope x:=by rcases hx with k | k;exact .inl k;exact .inr (.inl k)
 obtain⟨u,r,l⟩:=hl i x v hi e1 vis;refine wpAny_AugAssign_Name ?_
 have go:wpAny (model X.prog X.w) X.A (eval e X.env) (fun w s₂=>wpAny (model X.prog X.w) X.A (inplaceOp op u w) (fun r s₃=>wpAny (model X.prog X.w) X.A (storeName X.env x r) (fun _=>SP X pins D .next) X.xe s₃) X.xe s₂) X.xe s:=by
  refine thn (he pins s σ H _ I h) fun w s1 ⟨y,H1,I1,r1,q1⟩=>?_
  refine thn (ho pins s1 σ H1 v y u w _ I1 r r1 q1) fun z s2 ⟨zv,H2,I2,r2,q2⟩=>?_
  exact tY I2 hN hi hx r2 (fun s3 I3=>⟨_,H2,I3,q2⟩) hf
 rcases l with⟨hk,hm⟩ | ⟨hk,c,hc,hcell⟩
 ·exact wpAny_loadName_local I.ok.kind hk hn hm go
 ·rcases hk with hk | hk
  ·exact wpAny_loadName_cell I.ok.kind hk hc hcell go
  ·rcases hx with k | k
   ·have:X.env.scope.names.lookup x=some .free:=hk
    rw[k] at this;cases this
   ·have:X.env.scope.names.lookup x=some .free:=hk
    rw[k] at this;cases this
def ipI(f:Int->Int->Int):TIp:=fun x y H Q=>∃ i j,x=.int i/\y=.int j/\Q (.int (f i j)) H
theorem zES:PIp X .Add (ipI fun i j=>i+j):=by
 intro pins s σ H x y v u Q I r1 r2 h;obtain⟨i,j,e1,e2,q⟩:=h;subst e1;subst e2
 obtain⟨t,rfl⟩:=r1;obtain⟨t',rfl⟩:=r2;exact iadd_int ⟨.int _,H,I.tok _,⟨_,rfl⟩,q⟩
theorem zLy:PIp X .Sub (ipI fun i j=>i-j):=by
 intro pins s σ H x y v u Q I r1 r2 h;obtain⟨i,j,e1,e2,q⟩:=h;subst e1;subst e2
 obtain⟨t,rfl⟩:=r1;obtain⟨t',rfl⟩:=r2;exact isub_int ⟨.int _,H,I.tok _,⟨_,rfl⟩,q⟩
end
section
variable{X:Cx}{pos:Pos}
def zOQ(c:TT)(tb:TS):TS:=fun D σ H=>∃ W:Nat->St->Hp->Prop,(∃ m,W m σ H)/\∀ m σ H,W m σ H->
 c σ H fun b H1=>if b=true then ∃ N:St->Hp->Prop,(∀ σ' H',N σ' H'->∃ m',m' < m/\W m' σ' H')/\tb { D with nx:=N,ct:=N,bk:=D.nx } σ H1 else D.nx σ H1
theorem zKb{c:Expr}{body:List Stmt}{tc:TT}{tb:TS}(hp:PassesOwn (model X.prog X.w) X.A X.env X.xe)(hc:PT X c tc)(hb:PSs X body tb):PS X (.While c body [] pos) (zOQ tc tb):=by
 intro pins s σ H D I h;obtain⟨W,⟨m0,w0⟩,turn⟩:=h;refine wpAny_While (codeAny_whileLoop (fun n s'=>∃ σ' H',Inv X pins σ' H' s'/\W n σ' H') ?_ m0 ⟨σ,H,I,w0⟩)
 rintro n s1 ⟨σ1,H1,I1,w1⟩
 refine wpAny_passesOwn hp (thn (hc pins s1 σ1 H1 _ I1 (turn n σ1 H1 w1)) fun b s2 ⟨H2,I2,q2⟩=>?_)
 cases b with
 | true=>
  obtain⟨N,hN,q2⟩:=q2;rw[if_pos rfl];refine wpAny_passesOwn hp (thn (hb pins s2 σ1 H2 _ I2 q2) fun f s3 q3=>?_)
  cases f with
  | next=>
   obtain⟨σ3,H3,I3,n3⟩:=q3;obtain⟨m',hm,w3⟩:=hN σ3 H3 n3;exact⟨m',hm,σ3,H3,I3,w3⟩
  | cont=>
   obtain⟨σ3,H3,I3,n3⟩:=q3;obtain⟨m',hm,w3⟩:=hN σ3 H3 n3;exact⟨m',hm,σ3,H3,I3,w3⟩
  | brk=>exact q3
  | ret v=>exact q3
 | false=>
  rw[if_neg Xc];exact wpAny_execs_nil ⟨σ1,H2,I2,q2⟩
end
structure It where
 go:Nat->Hp->Prop
 yld:Nat->Hp->V->Hp->Prop
 stop:Nat->Hp->Prop
def sT(X:Cx)(pins:List (Addr×Obj))(H:Hp)(b:Addr):Prop:=
 H b=none/\b≠X.env.locals/\b∉X.fs/\(b∈X.ex∨X.s₀.heap.objs.size<=b)/\(∀ x c,X.env.cells.lookup x=some c->c≠b)/\∀ p∈X.pn++pins,p.1≠b
theorem Inv.fpOk{X:Cx}{pins:List (Addr×Obj)}{σ:St}{H H':Hp}{s:Shared}{b:Addr}(I:Inv X pins σ H s)(hb:s.heap.objs.size<=b)(hn:H' b=none):sT X pins H' b:=by
 refine⟨hn,VX (Qr I.lt hb),I.nofs hb,.inr (QE I.sz hb),fun x c e z=>?_,fun p hp z=>?_⟩
 ·obtain⟨v,q⟩:=I.cell x c e
  exact absurd (Qr q.lt (by rw[z];exact hb)) (Q3 _)
 ·exact absurd (Qr (Heap.lt_size (I.pin p hp).1) (by rw[z];exact hb)) (Q3 _)
structure Turn (P:Program) (w:World) (K:PySem.W.Frag) (tg:Expr) (J:It) (fp:List Addr) (it:Addr) (tn:Nat->Heap->Prop):Prop where
 mem:it∈fp
 obj:∀ i h,tn i h->∀ b∈fp,∃ o,h.get? b=some o/\∀ v,o.data≠.cell v
 keep:∀ i h h',tn i h->(∀ b∈fp,∀ o,h.get? b=some o->h'.get? b=some o)->tn i h'
 item:∀(X:Cx),X.prog=P->X.w=w->X.K=K->X.calm=true->∀(i:Nat)(pins:List (Addr×Obj))(s:Shared)(σ:St)(H:Hp)(E:Value->Shared->Prop),Inv X pins σ H s->(∀ b∈fp,sT X pins H b)->tn i s.heap->J.go i H->
  wpAny (model P w) X.A (pyNext (.ref it)) (fun r s1=>∃ u,r=some u/\
   wpAny (model P w) X.A (letOwnedTupleGo tg (.ref it) u) (fun _ s2=>∃ x H',Inv X pins σ H' s2/\dB x u/\J.yld i H x H'/\tn (i+1) s2.heap/\∀ b∈fp,H' b=none) E s1) E s
 done:∀(X:Cx),X.prog=P->X.w=w->X.K=K->X.calm=true->∀(i:Nat)(pins:List (Addr×Obj))(s:Shared)(σ:St)(H:Hp)(E:Value->Shared->Prop),Inv X pins σ H s->(∀ b∈fp,sT X pins H b)->tn i s.heap->J.stop i H->
  wpAny (model P w) X.A (pyNext (.ref it)) (fun r s1=>r=none/\Inv X pins σ H s1) E s
 self:∀(A:Around)(i:Nat)(s:Shared)(Q:Value->Shared->Prop)(E:Value->Shared->Prop),tn i s.heap->Q (.ref it) s->wpAny (model P w) A (pyIter (.ref it)) Q E s
abbrev TI:=St->Hp->(It->Hp->Prop)->Prop
def PIE(X:Cx)(pins:List (Addr×Obj))(σ:St)(tg:Expr)(R:It->Hp->Prop)(itv:Value)(s2:Shared):Prop:=
 ∃(it:Addr)(fp:List Addr)(tn:Nat->Heap->Prop)(J:It)(H':Hp),itv=.ref it/\Inv X pins σ H' s2/\Turn X.prog X.w X.K tg J fp it tn/\tn 0 s2.heap/\(∀ b∈fp,sT X pins H' b)/\R J H'
def PI(X:Cx)(tg iter:Expr)(wi:TI):Prop:=
 ∀(pins:List (Addr×Obj))(s:Shared)(σ:St)(H:Hp)(R:It->Hp->Prop),Inv X pins σ H s->wi σ H R->
  wpAny (model X.prog X.w) X.A (eval iter X.env) (fun v s1=>wpAny (model X.prog X.w) X.A (pyIter v) (PIE X pins σ tg R) X.xe s1) X.xe s
theorem zKE{M:Model}{A:Around}{E:Value->Shared->Prop}{s:Shared}{tg:Expr}{it:Addr}{u:Value}{o:Obj}{n:String}{vs:Array Value}{Q:Unit->Shared->Prop}(ho:s.heap.get? it=some o)(hc:o.cls=.type n)(hd:o.data=.fields vs)
    (hn:["enumerate","zip","dict_itemiterator","dict_reverseitemiterator","odict_iterator","itertools.zip_longest","itertools.pairwise"].contains n=false) (hQ:Q () s):wpAny M A (letOwnedTupleGo tg (.ref it) u) Q E s:=by
  unfold letOwnedTupleGo
  cases tg<;>first
    | exact wpAny_pure hQ
    | (cases u<;>first
        | exact wpAny_pure hQ
        | (refine wpAny_bind (wpAny_load ho ?_)
           rw[hc,hd];show wpAny M A (if (["enumerate","zip","dict_itemiterator","dict_reverseitemiterator","odict_iterator","itertools.zip_longest","itertools.pairwise"].contains n && vs[0]?==some (rawInt _))=true then _ else _) Q E s
           rw[if_neg (by intro h;rw[hn,Bool.false_and] at h;cases h)]
           exact wpAny_pure hQ))
def Itl(K:PySem.W.Frag)(a:Addr):It:=
 ⟨fun i H=>∃ xs x,SqL K H a xs/\xs[i]?=some x,fun i H x H'=>H'=H/\∀ xs,SqL K H a xs->xs[i]?=some x,fun i H=>∃ xs,SqL K H a xs/\xs.length<=i⟩
def Itt(K:PySem.W.Frag)(a:Addr):It:=
 ⟨fun i H=>∃ xs x,SqT K H a xs/\xs[i]?=some x,fun i H x H'=>H'=H/\∀ xs,SqT K H a xs->xs[i]?=some x,fun i H=>∃ xs,SqT K H a xs/\xs.length<=i⟩
def Itr(lo:Int)(n:Nat):It:=⟨fun i _=>i<n,fun i H x H'=>H'=H/\x=.int (lo+i),fun i _=>n<=i⟩
theorem zBN{P:Program}{w:World}{K:Fg_}{tg:Expr}(a it:Addr):Turn P w K tg (Itl K a) [it] it (fun i h=>h.IsListIter it a i) where
 mem:=by simp
 obj:=fun i h st b hb=>by
  have e:b=it:=by simpa using hb
  subst e;obtain⟨o,e,c,d⟩:=st;exact⟨o,e,fun v z=>by rw[d] at z;cases z⟩
 keep:=fun i h h' st k=>st.at fun o e=>k it (by simp) o e
 item:=by
  intro X hP hw hK hc i pins s σ H E I hf st hg;subst hP hw hK;obtain⟨xs,x,hq,hx⟩:=hg;obtain⟨its,rv,p,hz⟩:=I.list hq;obtain⟨u,hu,ru⟩:=rv.get hx;obtain⟨f0,f1,f2,f3,f4,f5⟩:=hf it (by simp)
  refine wpAny_pyNext_list_item st p.isList (x:=u) (by simpa using hu) fun h' st' sb=>?_
  have I1:Inv X pins σ H { s with heap:=h' }:=I.turned (t':=s.toks) (fun b o hb e=>(sb.2 b hb).trans e) f0 f1 f3 f4 f5
  obtain⟨o,e,c,d⟩:=id st';exact⟨u,rfl,zKE (s:={ s with heap:=h' }) e c d (by decide) ⟨x,H,I1,ru,⟨rfl,fun ys hy=>by rw[I.list_inj hy hq];exact hx⟩,st',fun b hb=>(hf b hb).1⟩⟩
 done:=by
  intro X hP hw hK hc i pins s σ H E I hf st hg;subst hP hw hK;obtain⟨xs,hq,hx⟩:=hg;obtain⟨its,rv,p,hz⟩:=I.list hq;obtain⟨f0,f1,f2,f3,f4,f5⟩:=hf it (by simp)
  have hl:=rv.length;exact wpAny_pyNext_list_end (I.ok.hd hc) st p.isList (by simp;omega) fun h' eb=>⟨rfl,I.turned (t':=s.toks) (fun b o hb e=>eb b o hb e) f0 f1 f3 f4 f5⟩
 self:=fun _ _ _ _ _ st h=>wpAny_pyIter_listiter st h
theorem zFI{P:Program}{w:World}{K:Fg_}{tg:Expr}(a it:Addr):Turn P w K tg (Itt K a) [it] it (fun i h=>h.IsTupleIter it a i) where
 mem:=by simp
 obj:=fun i h st b hb=>by
  have e:b=it:=by simpa using hb
  subst e;obtain⟨o,e,c,d⟩:=st;exact⟨o,e,fun v z=>by rw[d] at z;cases z⟩
 keep:=fun i h h' st k=>st.at fun o e=>k it (by simp) o e
 item:=by
  intro X hP hw hK hc i pins s σ H E I hf st hg;subst hP hw hK;obtain⟨xs,x,hq,hx⟩:=hg;obtain⟨its,rv,p,hz⟩:=I.tuple hq;obtain⟨u,hu,ru⟩:=rv.get hx;obtain⟨f0,f1,f2,f3,f4,f5⟩:=hf it (by simp)
  refine wpAny_pyNext_tuple_item st (show s.heap.IsTuple a its.toArray from p) (x:=u) (by simpa using hu) fun h' st' sb=>?_
  have I1:Inv X pins σ H { s with heap:=h' }:=I.turned (t':=s.toks) (fun b o hb e=>(sb.2 b hb).trans e) f0 f1 f3 f4 f5
  obtain⟨o,e,c,d⟩:=id st';exact⟨u,rfl,zKE (s:={ s with heap:=h' }) e c d (by decide) ⟨x,H,I1,ru,⟨rfl,fun ys hy=>by rw[I.tuple_inj hy hq];exact hx⟩,st',fun b hb=>(hf b hb).1⟩⟩
 done:=by
  intro X hP hw hK hc i pins s σ H E I hf st hg;subst hP hw hK;obtain⟨xs,hq,hx⟩:=hg;obtain⟨its,rv,p,hz⟩:=I.tuple hq;obtain⟨f0,f1,f2,f3,f4,f5⟩:=hf it (by simp)
  have hl:=rv.length;exact wpAny_pyNext_tuple_end (I.ok.hd hc) st (show s.heap.IsTuple a its.toArray from p) (by simp;omega) fun h' eb=>⟨rfl,I.turned (t':=s.toks) (fun b o hb e=>eb b o hb e) f0 f1 f3 f4 f5⟩
 self:=fun _ _ _ _ _ st h=>wpAny_pyIter_tupleiter st h
theorem zGw{P:Program}{w:World}{K:Fg_}{tg:Expr}(it:Addr)(lo:Int)(n:Nat):Turn P w K tg (Itr lo n) [it] it (fun i h=>IsRangeIter h it (lo+(i:Nat)*1) ((n:Int)-(i:Nat)) 1) where
 mem:=by simp
 obj:=fun i h st b hb=>by
  have e:b=it:=by simpa using hb
  subst e
  exact⟨_,st,fun v z=>by
   have z':Data.fields _=Data.cell v:=z
   cases z'⟩
 keep:=fun i h h' st k=>k it (by simp) _ st
 item:=by
  intro X hP hw hK hc i pins s σ H E I hf st hg;subst hP hw hK;obtain⟨f0,f1,f2,f3,f4,f5⟩:=hf it (by simp)
  have W:=Walks.range (prog:=X.prog) (w:=X.w) (I.ok.hd hc) it lo 1 n;refine W.item i s _ _ hg st fun v h' tk hv st' kk=>?_
  obtain⟨t,rfl⟩:=hv;have I1:Inv X pins σ H { s with heap:=h',toks:=tk }:=I.turned (fun b o hb e=>kk b o (by simpa using hb) e) f0 f1 f3 f4 f5
  refine⟨_,rfl,zKE (s:={ s with heap:=h',toks:=tk }) (n := "range_iterator") st' rfl rfl (by decide) ⟨.int (lo+i),H,I1,⟨t,?_⟩,⟨rfl,rfl⟩,st',fun b hb=>(hf b hb).1⟩⟩
  rw[QV]
 done:=by
  intro X hP hw hK hc i pins s σ H E I hf st hg;subst hP hw hK;obtain⟨f0,f1,f2,f3,f4,f5⟩:=hf it (by simp)
  exact wpAny_pyNext_range_end (I.ok.hd hc) st (by have:n<=i:=hg;omega) fun h' eb=>⟨rfl,I.turned (t':=s.toks) (fun b o hb e=>eb b o hb e) f0 f1 f3 f4 f5⟩
 self:=fun _ _ _ _ _ st h=>wpAny_pyIter_rangeiter st h
section
variable{X:Cx}{tg:Expr}
abbrev zRJ(K:PySem.W.Frag)(tl:TE):TI:=fun σ H R=>tl σ H fun x H1=>∃ a,x=.ref a/\(∃ xs,SqL K H1 a xs)/\R (Itl K a) H1
theorem zMB{l:Expr}{tl:TE}(hl:PE X l tl):PI X tg l (zRJ X.K tl):=by
 intro pins s σ H R I h;refine thn (hl pins s σ H _ I h) fun v s1 ⟨x,H1,I1,r1,q1⟩=>?_
 obtain⟨a,e,⟨xs,hq⟩,q⟩:=q1;subst e;cases r1;obtain⟨its,rv,p,hz⟩:=I1.list hq;refine wpAny_pyIter_list p.isList ?_
 refine⟨s1.heap.objs.size,[s1.heap.objs.size],_,_,H1,rfl,I1.kept (t':=s1.toks) fun b o e=>Heap.get?_push_of_some _ e,zBN a _,⟨_,Heap.get?_push_size _ rfl,rfl,rfl⟩,fun b hb=>?_,q⟩
 have e:b=s1.heap.objs.size:=by simpa using hb
 subst e;exact I1.fpOk (Qh _) (I1.hok.fresh (Qh _))
theorem zEJ{pins:List (Addr×Obj)}{σ:St}{H:Hp}{s:Shared}{R:It->Hp->Prop}{E:Value->Shared->Prop}{lo hi:Int}{t u v:Tok}{tk:Nat}(I:Inv X pins σ H s)(h1:-(2^62)<=lo)(h2:lo<2^62)(h3:-(2^62)<=hi)(h4:hi<2^62)
  (q:R (Itr lo (hi-lo).toNat) H):wpAny (model X.prog X.w) X.A (pyIter (.ref s.heap.objs.size)) (PIE X pins σ tg R) E { s with heap:=s.heap.push { cls:=.type "range", data:=.fields #[.int lo t,.int hi u,.int 1 v] },toks:=tk }:=by
 refine wpAny_pyIter_range (IsRange.new ..) (small_one h1 h2 h3 h4) ?_
 have I1:Inv X pins σ H { s with heap:=s.heap.push { cls:=.type "range", data:=.fields #[.int lo t,.int hi u,.int 1 v] },toks:=tk }:=I.kept fun b o e=>Heap.get?_push_of_some _ e
 refine⟨(s.heap.push { cls:=.type "range", data:=.fields #[.int lo t,.int hi u,.int 1 v] }).objs.size,[(s.heap.push { cls:=.type "range", data:=.fields #[.int lo t,.int hi u,.int 1 v] }).objs.size],_,_,H,rfl,
  I1.kept (t':=tk) fun b o e=>Heap.get?_push_of_some _ e,zGw _ lo (hi-lo).toNat,?_,fun b hb=>?_,q⟩
 ·have e1:lo+((0:Nat):Int)*1=lo:=by simp
  have e2:(((hi-lo).toNat:Nat):Int)-((0:Nat):Int)=Builtin.Range.rangeSize lo hi 1:=by rw[rangeSize_one];split<;>omega
  show IsRangeIter _ _ (lo+((0:Nat):Int)*1) ((((hi-lo).toNat:Nat):Int)-((0:Nat):Int)) 1
  rw[e1,e2];exact Heap.get?_push_size _ rfl
 ·have e:b=(s.heap.push { cls:=.type "range", data:=.fields #[.int lo t,.int hi u,.int 1 v] }).objs.size:=by simpa using hb
  subst e;exact I1.fpOk (Qh _) (I1.hok.fresh (Qh _))
abbrev xE(ta:TA):TI:=fun σ H R=>ta σ H fun vs H1=>∃ j:Int,vs=[.int j]/\-(2^62)<=j/\j<2^62/\R (Itr 0 j.toNat) H1
abbrev zFZ(ta:TA):TI:=fun σ H R=>ta σ H fun vs H1=>∃ i j:Int,vs=[.int i,.int j]/\(-(2^62)<=i/\i<2^62/\-(2^62)<=j/\j<2^62)/\R (Itr i (j-i).toNat) H1
theorem zGU{a:Expr}{ta:TA}{p pos:Pos}(hg:Gl X "range")(hm:X.mg "range" = none)(ha:PA X [a] ta)(hs:starEach [a] X.env=[(false,eval a X.env)]:=by rfl):PI X tg (.Call (.Name "range" p) [a] [] pos) (xE ta):=by
 intro pins s σ H R I h;refine Call_ (oQ I hg hm boot_range (VJ (thn (ha pos pins s σ H _ I h) fun us s1 ⟨vs,H1,I1,r1,q1⟩=>?_) hs rfl))
 obtain⟨j,e,q1,q2,q⟩:=q1;subst e
 cases r1 with
 | cons r rr=>
  cases rr;obtain⟨t,rfl⟩:=r;exact call_range_1 (zEJ I1 (by omega) (by omega) q1 q2 (by simpa using q))
theorem zJr{a b:Expr}{ta:TA}{p pos:Pos}(hg:Gl X "range")(hm:X.mg "range" = none)(ha:PA X [a,b] ta)(hs:starEach [a,b] X.env=[(false,eval a X.env),(false,eval b X.env)]:=by rfl)(hs2:starEach [b] X.env=[(false,eval b X.env)]:=by rfl):
  PI X tg (.Call (.Name "range" p) [a,b] [] pos) (zFZ ta):=by
 intro pins s σ H R I h;refine Call_ (oQ I hg hm boot_range (VJ (thn (ha pos pins s σ H _ I h) fun us s1 ⟨vs,H1,I1,r1,q1⟩=>?_) (by rw[hs,hs2]) (by rw[hs2];rfl)))
 obtain⟨i,j,e,⟨q1,q2,q3,q4⟩,q⟩:=q1;subst e
 cases r1 with
 | cons r rr=>
  cases rr with
  | cons r' rr=>
   cases rr;obtain⟨t,rfl⟩:=r;obtain⟨t',rfl⟩:=r';exact call_range_2 (zEJ I1 q1 q2 q3 q4 q)
abbrev zSr(wi:TI)(g:TG)(tb:TS):TS:=fun D σ H=>wi σ H fun J H1=>∃ W:Nat->Nat->St->Hp->Prop,(∃ m,W 0 m σ H1)/\∀ i m σ H,W i m σ H->
 (J.stop i H/\D.nx σ H)∨(J.go i H/\∃ N:St->Hp->Prop,(∀ σ' H',N σ' H'->∃ m',m' < m/\W (i+1) m' σ' H')/\∀ x H',J.yld i H x H'->g x σ H' fun σ2 H2=>tb { D with nx:=N,ct:=N,bk:=D.nx } σ2 H2)
def vZ(fp:List Addr)(h:Heap):List (Addr×Obj):=fp.filterMap fun b=>(h.get? b).map fun o=>(b,o)
theorem fM{fp:List Addr}{h:Heap}{b:Addr}{o:Obj}(hb:b∈fp)(e:h.get? b=some o):(b,o)∈vZ fp h:=XB.mpr ⟨b,hb,by rw[e];rfl⟩
theorem zJt{fp:List Addr}{h:Heap}{p:Addr×Obj}(hp:p∈vZ fp h):p.1∈fp/\h.get? p.1=some p.2:=by
 obtain⟨b,hb,e⟩:=XB.mp hp
 cases q:h.get? b with
 | none=>rw[q] at e;cases e
 | some o=>
  rw[q] at e;have e':(b,o)=p:=QL e;subst e';exact⟨hb,q⟩
theorem Inv.pinned{pins:List (Addr×Obj)}{σ:St}{H:Hp}{s:Shared}{fp:List Addr}(I:Inv X pins σ H s)(hf:∀ b∈fp,sT X pins H b)(ho:∀ b∈fp,∃ o,s.heap.get? b=some o/\∀ v,o.data≠.cell v):Inv X (pins++vZ fp s.heap) σ H s:=
 I.pins_of fun p hp=>(QG.mp hp).elim (fun z=>I.pin p (Qy _ z)) fun z=>by
  obtain⟨hb,e⟩:=zJt z;obtain⟨f0,f1,f2,_⟩:=hf p.1 hb;obtain⟨o,e',d⟩:=ho p.1 hb;rw[e] at e';cases e'
  exact⟨e,f0,f1,f2,d⟩
theorem Inv.unpinned{pins pl:List (Addr×Obj)}{σ:St}{H:Hp}{s:Shared}(I:Inv X (pins++pl) σ H s):Inv X pins σ H s:=I.pins_of fun p hp=>I.pin p (Qy _ (Vc _ hp))
theorem zMl{iter:Expr}{body:List Stmt}{wi:TI}{g:TG}{tb:TS}{pos:Pos}(hp:PassesOwn (model X.prog X.w) X.A X.env X.xe)(hc:X.calm=true)(hi:PI X tg iter wi)(hg:PG X tg g)(hb:PSs X body tb)
  (hs:∀ x,foldedSetIterable iter X.env x=pure x:=by intro _;rfl):PS X (.For tg iter body [] pos) (zSr wi g tb):=by
 intro pins s σ H D I h;refine wpAny_For (thn (hi pins s σ H _ I h) fun v s1 h1=>thn h1 fun itv s2 h2=>?_) hs
 obtain⟨it,fp,tn,J,H2,e,I2,T,st2,f2,W,⟨m0,w0⟩,turn⟩:=h2;subst e;have stat:∀ {H':Hp},(∀ b∈fp,H' b=none)->∀ b∈fp,sT X pins H' b:=fun hn b hb=>⟨hn b hb,(f2 b hb).2⟩
 refine codeAny_forLoop_any (fun n s'=>∃ i σ' H',Inv X pins σ' H' s'/\tn i s'.heap/\(∀ b∈fp,H' b=none)/\W i n σ' H') ?_ m0 ⟨0,σ,H2,I2,st2,fun b hb=>(f2 b hb).1,w0⟩
 rintro n s3 ⟨i,σ3,H3,I3,st3,fr3,w3⟩
 rcases turn i n σ3 H3 w3 with⟨stop,qn⟩ | ⟨go,N,hN,step⟩
 ·refine wpAny_passesOwn hp (thn (T.done X rfl rfl rfl hc i pins s3 σ3 H3 X.xe I3 (stat fr3) st3 stop) fun r s4 ⟨hr,I4⟩=>?_)
  subst hr;exact wpAny_execs_nil ⟨σ3,H3,I4,qn⟩
 ·refine wpAny_passesOwn hp (thn (T.item X rfl rfl rfl hc i pins s3 σ3 H3 X.xe I3 (stat fr3) st3 go) fun r s4 ⟨u,hr,h4⟩=>?_)
  subst hr;refine wpAny_passesOwn hp (thn h4 fun _ s5 ⟨x,H5,I5,r5,y5,st5,fr5⟩=>?_)
  have I5':=I5.pinned (stat fr5) (T.obj _ _ st5);refine wpAny_passesOwn hp (thn (hg _ s5 σ3 H5 x u _ I5' r5 (step x H5 y5)) fun _ s6 ⟨σ6,H6,I6,q6⟩=>?_)
  refine wpAny_passesOwn hp (thn (hb _ s6 σ6 H6 _ I6 q6) fun f s7 q7=>?_)
  have again:∀ {σ7:St} {H7:Hp},Inv X (pins++vZ fp s5.heap) σ7 H7 s7->N σ7 H7->∃ m,m<n/\∃ i σ' H',Inv X pins σ' H' s7/\tn i s7.heap/\(∀ b∈fp,H' b=none)/\W i m σ' H':=fun {σ7 H7} I7 n7=>by
   obtain⟨m',hm,w7⟩:=hN σ7 H7 n7;refine⟨m',hm,i+1,σ7,H7,I7.unpinned,T.keep _ _ _ st5 fun b hb o e=>(I7.pin (b,o) (Qy _ (Qy _ (fM hb e)))).1,fun b hb=>?_,w7⟩
   obtain⟨o,e,d⟩:=T.obj _ _ st5 b hb;exact(I7.pin (b,o) (Qy _ (Qy _ (fM hb e)))).2.1
  cases f with
  | next=>obtain⟨σ7,H7,I7,n7⟩:=q7;exact again I7 n7
  | cont=>obtain⟨σ7,H7,I7,n7⟩:=q7;exact again I7 n7
  | brk=>obtain⟨σ7,H7,I7,q7⟩:=q7;exact⟨σ7,H7,I7.unpinned,q7⟩
  | ret v=>obtain⟨x7,σ7,H7,I7,r7,q7⟩:=q7;exact⟨x7,σ7,H7,I7.unpinned,r7,q7⟩
end
abbrev R2:=V->V->Hp->VK->Prop
def OpR(X:Cx)(f:Value->Value->Sem Value)(r:R2):Prop:=
 ∀(pins:List (Addr×Obj))(s:Shared)(σ:St)(H:Hp)(x y:V)(v u:Value)(Q:VK),Inv X pins σ H s->dB x v->dB y u->r x y H Q->
  wpAny (model X.prog X.w) X.A (f v u) (EP X pins σ Q) X.xe s
def UnR(X:Cx)(f:Value->Sem Value)(r:V->Hp->VK->Prop):Prop:=
 ∀(pins:List (Addr×Obj))(s:Shared)(σ:St)(H:Hp)(x:V)(v:Value)(Q:VK),Inv X pins σ H s->dB x v->r x H Q->
  wpAny (model X.prog X.w) X.A (f v) (EP X pins σ Q) X.xe s
def xN(X:Cx)(f:Value)(r:List V->Hp->VK->Prop):Prop:=
 ∀(pins:List (Addr×Obj))(s:Shared)(σ:St)(H:Hp)(xs:List V)(us:List Value)(Q:VK),Inv X pins σ H s->dN xs us->r xs H Q->
  wpAny (model X.prog X.w) X.A (call f us) (EP X pins σ Q) X.xe s
abbrev tOp(r:R2)(ta tb:TE):TE:=fun σ H Q=>ta σ H fun x H1=>tb σ H1 fun y H2=>r x y H2 Q
abbrev tUn(r:V->Hp->VK->Prop)(ta:TE):TE:=fun σ H Q=>ta σ H fun x H1=>r x H1 Q
def rI(C:Int->Int->Prop)(g:Int->Int->V):R2:=fun x y H Q=>∃ i j,x=.int i/\y=.int j/\C i j/\Q (g i j) H
def rI0(g:Int->Int->V):R2:=fun x y H Q=>∃ i j,x=.int i/\y=.int j/\Q (g i j) H
def rU(g:Int->V):V->Hp->VK->Prop:=fun x H Q=>∃ i,x=.int i/\Q (g i) H
section
variable{X:Cx}{a b c:Expr}{ta tb tc:TE}{pos:Pos}
theorem zRZ(ha:PE X a ta)(hb:PE X b tb){pins:List (Addr×Obj)}{s:Shared}{σ:St}{H:Hp}{R:V->V->Hp->Prop}(I:Inv X pins σ H s)
  (h:ta σ H fun x H1=>tb σ H1 fun y H2=>R x y H2) {Q:Value->Shared->Prop} {f:Value->Value->Sem Value}
  (hf:∀ v u s2 x y H2,Inv X pins σ H2 s2->dB x v->dB y u->R x y H2->wpAny (model X.prog X.w) X.A (f v u) Q X.xe s2):
  wpAny (model X.prog X.w) X.A (eval a X.env) (fun v s₁=>wpAny (model X.prog X.w) X.A (eval b X.env) (fun u s₂=>wpAny (model X.prog X.w) X.A (f v u) Q X.xe s₂) X.xe s₁) X.xe s:=by
 refine thn (ha pins s σ H _ I h) fun v s1 ⟨x,H1,I1,r1,q1⟩=>?_
 refine thn (hb pins s1 σ H1 _ I1 q1) fun u s2 ⟨y,H2,I2,r2,q2⟩=>?_
 exact hf v u s2 x y H2 I2 r1 r2 q2
theorem zIF{op:Operator}{r:R2}(ho:OpR X (binaryOp op) r)(ha:PE X a ta)(hb:PE X b tb):PE X (.BinOp a op b pos) (tOp r ta tb):=by
 intro pins s σ H Q I h;exact wpAny_BinOp (zRZ ha hb I h fun v u s2 x y H2 I2 rx ry q=>ho pins s2 σ H2 x y v u Q I2 rx ry q)
theorem zRw{op:UnaryOp}{r:V->Hp->VK->Prop}(ho:UnR X (unaryOp op) r)(ha:PE X a ta):PE X (.UnaryOp op a pos) (tUn r ta):=by
 intro pins s σ H Q I h;exact UnaryOp_ (thn (ha pins s σ H _ I h) fun v s1 ⟨x,H1,I1,r1,q1⟩=>ho pins s1 σ H1 x v Q I1 r1 q1)
theorem opI{f:Value->Value->Sem Value}{C:Int->Int->Prop}{g:Int->Int->Int}
  (rule:∀(i j:Int)(t u:Tok)(s:Shared)(Q:Value->Shared->Prop)(E:Value->Shared->Prop),C i j->Q (.int (g i j) s.toks) { s with toks:=s.toks+1 }->wpAny (model X.prog X.w) X.A (f (.int i t) (.int j u)) Q E s):
  OpR X f (rI C fun i j=>.int (g i j)):=by
 intro pins s σ H x y v u Q I rx ry h;obtain⟨i,j,rfl,rfl,hc,q⟩:=h;obtain⟨t,rfl⟩:=rx;obtain⟨t',rfl⟩:=ry;exact rule i j t t' s _ _ hc ⟨.int (g i j),H,I.tok _,⟨_,rfl⟩,q⟩
theorem zSG{f:Value->Value->Sem Value}{g:Int->Int->Int}
  (rule:∀(i j:Int)(t u:Tok)(s:Shared)(Q:Value->Shared->Prop)(E:Value->Shared->Prop),Q (.int (g i j) s.toks) { s with toks:=s.toks+1 }->wpAny (model X.prog X.w) X.A (f (.int i t) (.int j u)) Q E s):
  OpR X f (rI0 fun i j=>.int (g i j)):=by
 intro pins s σ H x y v u Q I rx ry h;obtain⟨i,j,rfl,rfl,q⟩:=h;obtain⟨t,rfl⟩:=rx;obtain⟨t',rfl⟩:=ry;exact rule i j t t' s _ _ ⟨.int (g i j),H,I.tok _,⟨_,rfl⟩,q⟩
theorem zSi{f:Value->Value->Sem Value}{g:Int->Int->Bool}
  (rule:∀(i j:Int)(t u:Tok)(s:Shared)(Q:Value->Shared->Prop)(E:Value->Shared->Prop),Q (.bool (g i j)) s->wpAny (model X.prog X.w) X.A (f (.int i t) (.int j u)) Q E s):
  OpR X f (rI0 fun i j=>.bl (g i j)):=by
 intro pins s σ H x y v u Q I rx ry h;obtain⟨i,j,rfl,rfl,q⟩:=h;obtain⟨t,rfl⟩:=rx;obtain⟨t',rfl⟩:=ry;exact rule i j t t' s _ _ ⟨.bl (g i j),H,I,rfl,q⟩
def zQZ(i j:Int):Prop:=(-(2^64)<i/\i<2^64)∨(-(2^64)<j/\j<2^64)
theorem zQZ.ok{i j:Int}(h:zQZ i j):IntMulOk i j:=by
 rcases h with⟨h1,h2⟩ | ⟨h1,h2⟩
 ·exact .of_left (intBits_le_64 h1 h2)
 ·exact .of_right (intBits_le_64 h1 h2)
theorem zQK:OpR X (binaryOp .Add) (rI0 fun i j=>.int (i+j)):=zSG fun _ _ _ _ _ _ _ q=>add_int q
theorem zCn:OpR X (binaryOp .Sub) (rI0 fun i j=>.int (i-j)):=zSG fun _ _ _ _ _ _ _ q=>sub_int q
theorem cM:OpR X (binaryOp .Mod) (rI (fun _ j=>j≠0) fun i j=>.int (i.fmod j)):=opI fun _ _ _ _ _ _ _ hc q=>mod_int' hc q
theorem unI{f:Value->Sem Value}{g:Int->Int}
  (rule:∀(i:Int)(t:Tok)(s:Shared)(Q:Value->Shared->Prop)(E:Value->Shared->Prop),Q (.int (g i) s.toks) { s with toks:=s.toks+1 }->wpAny (model X.prog X.w) X.A (f (.int i t)) Q E s):
  UnR X f (rU fun i=>.int (g i)):=by
 intro pins s σ H x v Q I rx h;obtain⟨i,rfl,q⟩:=h;obtain⟨t,rfl⟩:=rx;exact rule i t s _ _ ⟨.int (g i),H,I.tok _,⟨_,rfl⟩,q⟩
theorem zQq:UnR X (unaryOp .USub) (rU fun i=>.int (-i)):=unI fun _ _ _ _ _ q=>neg_int q
end
section
variable{X:Cx}{a b c:Expr}{ta tb tc:TE}{pos:Pos}
theorem zMp{pins:List (Addr×Obj)}{σ:St}{H:Hp}{s:Shared}{Q:VK}{k k':Bool}(I:Inv X pins σ H s)(q:Q (.bl k) H)(e:k=k'):EP X pins σ Q (.bool k') s:=by
 subst e;exact⟨.bl k,H,I,rfl,q⟩
theorem zAS:OpR X (compareOp .Lt) (rI0 fun i j=>.bl (decide (i<j))):=zSi fun _ _ _ _ _ _ _ q=>lt_int q
theorem zFH:OpR X (compareOp .Gt) (rI0 fun i j=>.bl (decide (j<i))):=zSi fun _ _ _ _ _ _ _ q=>gt_int q
theorem zOT:OpR X (compareOp .Is) (fun x y H Q=>y=.non/\Q (.bl (decide (x=.non))) H):=by
 intro pins s σ H x y v u Q I rx ry h;obtain⟨rfl,q⟩:=h;cases ry;refine is_none_gen (zMp I q ?_)
 cases x<;>first
  | (cases rx;rfl)
  | (obtain⟨t,rfl⟩:=rx;rfl)
theorem zME:OpR X (compareOp .IsNot) (fun x y H Q=>y=.non/\Q (.bl (!decide (x=.non))) H):=by
 intro pins s σ H x y v u Q I rx ry h;obtain⟨rfl,q⟩:=h;cases ry;refine isnot_none_gen (zMp I q ?_)
 cases x<;>first
  | (cases rx;rfl)
  | (obtain⟨t,rfl⟩:=rx;rfl)
theorem OpR.or{f:Value->Value->Sem Value}{r r':R2}(h:OpR X f r)(h':OpR X f r'):OpR X f (fun x y H Q=>r x y H Q∨r' x y H Q):=by
 intro pins s σ H x y v u Q I rx ry q;rcases q with q | q
 ·exact h pins s σ H x y v u Q I rx ry q
 ·exact h' pins s σ H x y v u Q I rx ry q
theorem bE(b:Expr){op:CmpOp}(h:op≠.In:=by decide)(h2:op≠.NotIn:=by decide):behindInMarks op b=false:=by
 have e1:(op==CmpOp.In)=false:=by cases op<;>first | rfl | exact absurd rfl h
 have e2:(op==CmpOp.NotIn)=false:=by cases op<;>first | rfl | exact absurd rfl h2
 cases b<;>simp[behindInMarks,e1,e2]
theorem zJn{op:CmpOp}{r:R2}(ho:OpR X (compareOp op) r)(ha:PE X a ta)(hb:PE X b tb)(hm:behindInMarks op b=false):PE X (.Compare a [op] [b] pos) (tOp r ta tb):=by
 intro pins s σ H Q I h;exact wpAny_Compare1 (zRZ ha hb I h fun v u s2 x y H2 I2 rx ry q=>ho pins s2 σ H2 x y v u Q I2 rx ry q) hm
abbrev zPs(t:TE):TT:=fun σ H Q=>t σ H fun x H'=>∃ k,x=.bl k/\Q k H'
theorem zEc{op:CmpOp}{r:R2}(ho:OpR X (compareOp op) r)(ha:PE X a ta)(hb:PE X b tb)(hm:behindInMarks op b=false):PT X (.Compare a [op] [b] pos) (zPs (tOp r ta tb)):=by
 intro pins s σ H Q I h
 refine wpAny_isTrue_Compare1 (thn (ha pins s σ H _ I h) fun v s1 ⟨x,H1,I1,r1,q1⟩=>thn (hb pins s1 σ H1 _ I1 q1) fun u s2 ⟨y,H2,I2,r2,q2⟩=>
  thn (ho pins s2 σ H2 x y v u _ I2 r1 r2 q2) fun c s3 ⟨z,H3,I3,r3,k,e,q3⟩=>?_) hm
 subst e;cases r3;exact wpAny_truthy_bool ⟨H3,I3,q3⟩
theorem zEK:(sizeLine:Nat)<2^63:=by rw[sizeLine_eq];decide
theorem zCW{x:V}{us:List Value}(r:dN [x] us):∃ u,us=[u]/\dB x u:=by
 cases r with
 | cons r1 r2=>cases r2;exact⟨_,rfl,r1⟩
theorem zRp{x y:V}{us:List Value}(r:dN [x,y] us):∃ u w',us=[u,w']/\dB x u/\dB y w':=by
 cases r with
 | cons r1 r2=>
  cases r2 with
  | cons r3 r4=>cases r4;exact⟨_,_,rfl,r1,r3⟩
theorem zAP:xN X (.builtin "abs") (fun xs H Q=>∃ i,xs=[.int i]/\Q (.int (if i<0 then -i else i)) H):=by
 intro pins s σ H xs us Q I r h;obtain⟨i,rfl,q⟩:=h;obtain⟨u,rfl,t,rfl⟩:=zCW r;exact call_abs_int fun u tk=>⟨.int (if i<0 then -i else i),H,I.tok _,⟨_,rfl⟩,q⟩
theorem zCk(hc:X.calm=true):xN X (.builtin "min") (fun xs H Q=>∃ i j,xs=[.int i,.int j]/\Q (.int (if j<i then j else i)) H):=by
 intro pins s σ H xs us Q I r h;obtain⟨i,j,rfl,q⟩:=h;obtain⟨u,w',rfl,⟨t,rfl⟩,⟨t',rfl⟩⟩:=zRp r;refine min_two_ints (I.ok.hd hc) fun h' tk k=>⟨_,H,I.kept k,?_,q⟩
 by_cases hj:j<i
 ·rw[if_pos hj,if_pos hj];exact⟨_,rfl⟩
 ·rw[if_neg hj,if_neg hj];exact⟨_,rfl⟩
end
section
variable{prog:Program}{w:World}{A:Around}{E:Value->Shared->Prop}{s:Shared}{K:Fg_}{x dx C f:Addr}{mA:Str->Option Value}{name:Str}{v:Value}
end
section
variable{P:Program}{w:World}{H H':Hp}{h h':Heap}{a C dx:Addr}{fs fs':List (Str×V)}
end
section
variable{X:Cx}{pins:List (Addr×Obj)}{σ:St}{H:Hp}{s:Shared}{a C dx:Addr}{fs:List (Str×V)}{f:Str}{v:V}{A:Around}{E:Value->Shared->Prop}
end
section
variable{X:Cx}{o e value:Expr}{f:Str}{pos pos' tpos:Pos}{ta tv:TE}
end
section
variable{X:Cx}{pins:List (Addr×Obj)}{σ:St}{H:Hp}{s:Shared}{A:Around}{E:Value->Shared->Prop}{Q:Value->Shared->Prop}{c:Value}{b:Bool}
end
structure Room (k:Nat) (A:Around):Prop where
 hd:A.handled=none
 dp:A.depth+3*k+5<recursionLimit
 un:A.units+16*k+200<cLine
theorem Room.mono{j k:Nat}{A:Around}(r:Room k A)(h:j<=k):Room j A:=⟨r.hd,by have:=r.dp;omega,by have:=r.un;omega⟩
theorem Room.deeper{k:Nat}{A:Around}(r:Room (k+1) A)(env:Env):Room k (A.deeper env):=
 ⟨r.hd,by have:=r.dp;show A.depth+1+3*k+5<_;omega,by have:=r.un;show A.units+3+16*k+200<_;omega⟩
theorem Room.depth{k:Nat}{A:Around}(r:Room k A):A.depth<recursionLimit:=by have:=r.dp;omega
theorem Room.units{k:Nat}{A:Around}(r:Room k A):A.units+64<cLine:=by have:=r.un;omega
abbrev zTf:TA:=fun _ H Q=>Q [] H
abbrev zRs(ta:TE)(tr:TA):TA:=fun σ H Q=>ta σ H fun x H1=>tr σ H1 fun xs H2=>Q (x::xs) H2
section
variable{X:Cx}{e:Expr}{es:List Expr}{te:TE}{t:TA}{pos:Pos}
theorem qR:PA X [] zTf:=fun _ _ _ _ H Q I h=>Calls.spliced_nil ⟨[],H,I,.nil,h⟩
theorem lO(ha:PE X e te)(hr:PA X es t)(hs:starEach (e::es) X.env=(false,eval e X.env)::starEach es X.env:=by rfl):PA X (e::es) (zRs te t):=by
 intro pos pins s σ H Q I h;rw[hs];show wpAny _ _ (spliced ((false,eval e X.env)::backTo pos (starEach es X.env))) _ _ s
 refine Calls.spliced_cons (thn (ha pins s σ H _ I h) fun u s1 ⟨x,H1,I1,r1,q1⟩=>?_)
 exact thn (hr pos pins s1 σ H1 _ I1 q1) fun us s2 ⟨xs,H2,I2,r2,q2⟩=>⟨x::xs,H2,I2,.cons r1 r2,q2⟩
abbrev zSK(t:TA):TE:=fun σ H Q=>t σ H fun xs H1=>xs.length<=sizeLine/\∀ p,H1 p=none->Q (.ref p) (upd H1 p (.tup xs))
abbrev zSO(t:TA):TE:=fun σ H Q=>t σ H fun xs H1=>xs.length<=sizeLine/\∀ p,H1 p=none->Q (.ref p) (upd H1 p (.lst xs))
theorem zPV{x1}(h:PA X es t):PE X (.Tuple es x1 pos) (zSK t):=by
 intro pins s σ H Q I hq;refine wpAny_Tuple_spliced (thn (h pos pins s σ H _ I hq) fun us s1 ⟨xs,H1,I1,r,z,q⟩=>⟨by rw[<-r.length];exact z,?_⟩)
 have hf:H1 s1.heap.objs.size=none:=I1.hok.fresh (Qh _);refine⟨.ref s1.heap.objs.size,upd H1 s1.heap.objs.size (.tup xs),I1.laid (t':=s1.toks) (fun b u e=>Heap.get?_push_of_some _ e) (Qh _) ?_,rfl,q _ hf⟩
 exact⟨z,us,r,⟨_,Heap.get?_push_size _ rfl,rfl,_,rfl⟩⟩
theorem zPM(h:PA X es t):PE X (.List es pos) (zSO t):=by
 intro pins s σ H Q I hq;refine wpAny_List_spliced (thn (h pos pins s σ H _ I hq) fun us s1 ⟨xs,H1,I1,r,z,q⟩=>⟨by rw[<-r.length];exact z,?_⟩)
 have hf:H1 s1.heap.objs.size=none:=I1.hok.fresh (Qh _);refine⟨.ref s1.heap.objs.size,upd H1 s1.heap.objs.size (.lst xs),I1.laid (t':=s1.toks) (fun b u e=>Heap.get?_push_of_some _ e) (Qh _) ?_,rfl,q _ hf⟩
 exact⟨z,us,0,r,Heap.get?_push_size _ rfl⟩
end
abbrev Sp:=List V->Hp->VK->XK->Prop
abbrev CXT:=List Env->Hp->Shared->XK->Value->Shared->Prop
structure Env0 (P:Program) (w:World) (K:PySem.W.Frag) (mg:Str->Option Value) (base:Heap) (A:Around) (outer:List Env) (s:Shared) (H:Hp):Prop where
 frames:A.frames=some outer
 mod:Mod K mg base
 bs:∀ b o,base.get? b=some o->s.heap.get? b=some o/\H b=none
 bsz:base.objs.size<=s.heap.objs.size
 funs:s.heap.FunFrames base outer
 frf:∀ b∈frs outer,H b=none
 hok:HOk P w H s.heap
 bare:AllBare s.gens
def CE(outer:List Env)(P:Program)(w:World)(H:Hp)(s:Shared)(Q:VK)(u:Value)(s':Shared):Prop:=
 ∃ v H',s'.os=s.os/\AllBare s'.gens/\Un (frs outer) [] H H' s.heap s'.heap/\HOk P w H' s'.heap/\dB v u/\Q v H'
def CR(CX:CXT)(outer:List Env)(P:Program)(w:World)(H:Hp)(s:Shared)(Q:VK)(E:XK)(r:Result)(s':Shared):Prop:=
 match r with
 | .ok (.ret u)=>CE outer P w H s Q u s'
 | .ok _=>False
 | .error e=>CX outer H s E e s'
structure FnOk (P:Program) (w:World) (K:PySem.W.Frag) (mg:Str->Option Value) (base:Heap) (CX:CXT) (k:Nat) (f:Addr) (fd:FuncData) (ps:List Str) (sp:Sp):Prop where
 len:∀ vs H Q E,sp vs H Q E->vs.length=ps.length
 run:∀(A:Around)(outer:List Env)(s:Shared)(H:Hp)(args:Args)(us:List Value)(vs:List V)(Q:VK)(E:XK),Room k A->Env0 P w K mg base A outer s H->BindsTo s fd args (ps.zip us)->dN vs us->sp vs H Q E->
  codeAny (model P w) A (.call (.ref f) args) (CR CX outer P w H s Q E) s
theorem FnOk.mono{P:Program}{w:World}{K:Fg_}{mg:Str->Option Value}{base:Heap}{CX:CXT}{j k:Nat}{f:Addr}{fd:FuncData}{ps:List Str}{sp:Sp}(F:FnOk P w K mg base CX j f fd ps sp)(h:j<=k):
  FnOk P w K mg base CX k f fd ps sp:=⟨F.len,fun A outer s H args us vs Q E hr=>F.run A outer s H args us vs Q E (hr.mono h)⟩
theorem FnOk.imp{P:Program}{w:World}{K:Fg_}{mg:Str->Option Value}{base:Heap}{CX:CXT}{k:Nat}{f:Addr}{fd:FuncData}{ps:List Str}{sp sp':Sp}(F:FnOk P w K mg base CX k f fd ps sp)
  (h:∀ vs H Q E,sp' vs H Q E->sp vs H Q E):FnOk P w K mg base CX k f fd ps sp':=
 ⟨fun vs H Q E q=>F.len vs H Q E (h _ _ _ _ q),fun A outer s H args us vs Q E hr he hb hv hs=>F.run A outer s H args us vs Q E hr he hb hv (h _ _ _ _ hs)⟩
theorem Env0.in1{P:Program}{w:World}{K:Fg_}{mg:Str->Option Value}{base:Heap}{A:Around}{outer:List Env}{s:Shared}{H:Hp}(e:Env0 P w K mg base A outer s H):
  Env0 P w K mg base A.in1 outer s H:=⟨e.frames,e.mod,e.bs,e.bsz,e.funs,e.frf,e.hok,e.bare⟩
section
variable{X:Cx}{pins:List (Addr×Obj)}{σ:St}{H:Hp}{s s':Shared}
theorem Inv.env0(I:Inv X pins σ H s):Env0 X.prog X.w X.K X.mg X.base X.A X.stack s H:=
 ⟨I.ok.frames,I.ok.mod,I.bs,QE I.ok.bsz I.sz,I.stack,I.stkFree,I.hok,I.bare⟩
theorem Inv.after{Q:VK}{u:Value}(I:Inv X pins σ H s)(h:CE X.stack X.prog X.w H s Q u s'):EP X pins σ Q u s':=by
 obtain⟨v,H',os,bare,un,hok,r,q⟩:=h;obtain⟨hh,g,d,t,os'⟩:=s';obtain rfl:os'=s.os:=os;exact⟨v,H',I.call (h':=hh) (g':=g) (d':=d) (t':=t) (ch:=[]) un hok bare (fun b z=>absurd z (by simp)),r,q⟩
end
abbrev zNi(sp:Sp)(dvs:List V)(E:XK)(t:TA):TE:=fun σ H Q=>t σ H fun vs H1=>sp (vs++dvs) H1 Q E
def zCc(K:PySem.W.Frag)(fd:FuncData)(ps:List Str)(ds:List Value):Prop:=
 ∀(s:Shared)(us:List Value),K.In s.heap->(us++ds).length=ps.length->BindsTo s fd ⟨us,[]⟩ (ps.zip (us++ds))
theorem zCc.all{K:Fg_}{fd:FuncData}{ps:List Str}(h:∀ us:List Value,us.length=ps.length->bindArgs fd ⟨us,[]⟩=pure (ps.zip us)):zCc K fd ps []:=fun s us _ hl=>by
 rw[QW] at hl ⊢
 exact .of_eq (h us hl)
def zEE(CX:CXT)(X:Cx)(E:XK):Prop:=∀(pins:List (Addr×Obj))(σ:St)(H:Hp)(s:Shared)(e:Value)(s':Shared),Inv X pins σ H s->CX X.stack H s E e s'->X.xe e s'
section
variable{X:Cx}{CX:CXT}{k:Nat}{f C:Addr}{fd:FuncData}{ps:List Str}{sp:Sp}{dvs:List V}{ds:List Value}{E:XK}{x m:Str}{p pos apos:Pos}{e o:Expr}{es:List Expr}{ta:TE}{t:TA}
theorem zQU{pins:List (Addr×Obj)}{σ:St}{H:Hp}{s:Shared}{Q:VK}{us:List Value}{vs:List V}(F:FnOk X.prog X.w X.K X.mg X.base CX k f fd ps sp)(hr:Room k X.A)(hb:zCc X.K fd ps ds)(hd:dN dvs ds)(hx:zEE CX X E)
  (I:Inv X pins σ H s) (r:dN vs us) (h:sp (vs++dvs) H Q E):wpAny (model X.prog X.w) X.A (call (.ref f) us) (EP X pins σ Q) X.xe s:=by
 have r2:dN (vs++dvs) (us++ds):=r.append hd;have hl:(us++ds).length=ps.length:=by rw[<-r2.length];exact F.len _ _ _ _ h
 refine wpAny_call (codeAny_mono (F.run X.A X.stack s H ⟨us,[]⟩ (us++ds) (vs++dvs) Q E hr I.env0 (hb s us I.kIn hl) r2 h) fun r s' hq=>?_)
 cases r with
 | error e=>exact hx pins σ H s e s' I hq
 | ok fl=>
  cases fl with
  | ret u=>exact I.after hq
  | next=>exact False.elim hq
  | brk=>exact False.elim hq
  | cont=>exact False.elim hq
theorem zDp(F:FnOk X.prog X.w X.K X.mg X.base CX k f fd ps sp)(hr:Room k X.A)(hg:Gl X x)(hm:X.mg x=some (.ref f))(hk:PySem.W.keepIn X.K (.ref f)=true)(hb:zCc X.K fd ps ds)(hd:dN dvs ds)(hx:zEE CX X E)
  (ha:PA X (e::es) t) (hdb:(x==("__debug__" : Str))=false:=by decide) (he:starEach (e::es) X.env=(false,eval e X.env)::starEach es X.env:=by rfl) (hpl:(backTo pos (starEach es X.env)).any (·.1)=false:=by rfl):
  PE X (.Call (.Name x p) (e::es) [] pos) (zNi sp dvs E t):=by
 intro pins s σ H Q I h;refine wpAny_Call_Name_kw (zDA I hg hm ?_ hdb)
 refine PySem.W.callWith_K (h₀:=X.base) I.ok.mod.kin hk (thn (ha pos pins s σ H _ I h) fun us s1 ⟨vs,H1,I1,r,q⟩=>⟨I1.kIn,?_⟩) he hpl
 exact zQU F hr hb hd hx I1 r q
end
section
variable{X:Cx}{CX:CXT}{k:Nat}{f C:Addr}{fd:FuncData}{ps ks:List Str}{sp:Sp}{E:XK}{x m:Str}{p pos apos kpos:Pos}{e o:Expr}{es:List Expr}{kws:List Keyword}{te ta:TE}{t tk:TA}{nm:Option Str}
variable{g:List Value->List Value->List Value}{gV:List V->List V->List V}
end
structure FnScope (N P:List Str) (sc:Scope):Prop where
 kind:sc.kind=.function
 co:sc.isCoroutine=false
 gen:sc.isGenerator=false
 nd:N.Nodup
 pre:N.take P.length=P
 par:∀ x∈P,sc.names.lookup x=some .local∨sc.names.lookup x=some .cell
 nofree:∀ y∈sc.names,y.2≠.free
theorem zBF{kindOf:Str->Option NameKind}{x:Str}:∀ {binds:List (Str×Value)} {m:Str->Option Value},(∀ v,(x,v)∉binds)->bindL kindOf binds m x=m x
 | [],_,_=>rfl
 | (n,v)::r,m,h=>by
  unfold bindL;rw[zBF fun w hw=>h w (Qd _ hw)];split
  ·have:x≠n:=by rintro rfl;exact h v Qb
   simp[this]
  ·rfl
theorem zBx{kindOf:Str->Option NameKind}{x:Str}:∀ {binds:List (Str×Value)} {m:Str->Option Value},(∀ v,(x,v)∉binds)->bindC kindOf binds m x=m x
 | [],_,_=>rfl
 | (n,v)::r,m,h=>by
  unfold bindC;rw[zBx fun w hw=>h w (Qd _ hw)];split
  ·rfl
  ·have:x≠n:=by rintro rfl;exact h v Qb
   simp[this]
theorem zBC{kindOf:Str->Option NameKind}{x:Str}{v:Value}:∀ {P:List Str} {vs:List Value} {i:Nat} {m:Str->Option Value},P.Nodup->P[i]?=some x->vs[i]?=some v->kindOf x=some .local->
  bindL kindOf (P.zip vs) m x=some v
 | [],_,_,_,_,h,_,_=>by simp at h
 | _::_,[],_,_,_,_,h,_=>by simp at h
 | p::P,w::vs,0,m,nd,h1,h2,hk=>by
  simp at h1 h2;subst h1;subst h2
  show bindL kindOf ((p,w)::P.zip vs) m p=_
  unfold bindL;rw[zBF fun v hv=>(VL.mp nd).1 (VY hv).1,if_pos hk];simp
 | p::P,w::vs,i+1,m,nd,h1,h2,hk=>by
  show bindL kindOf ((p,w)::P.zip vs) m x=_
  unfold bindL;exact zBC (i:=i) (VL.mp nd).2 (by simpa using h1) (by simpa using h2) hk
theorem zCh{kindOf:Str->Option NameKind}{x:Str}{v:Value}:∀ {P:List Str} {vs:List Value} {i:Nat} {m:Str->Option Value},P.Nodup->P[i]?=some x->vs[i]?=some v->kindOf x≠some .local->
  bindC kindOf (P.zip vs) m x=some v
 | [],_,_,_,_,h,_,_=>by simp at h
 | _::_,[],_,_,_,_,h,_=>by simp at h
 | p::P,w::vs,0,m,nd,h1,h2,hk=>by
  simp at h1 h2;subst h1;subst h2
  show bindC kindOf ((p,w)::P.zip vs) m p=_
  unfold bindC;rw[zBx fun v hv=>(VL.mp nd).1 (VY hv).1,if_neg hk];simp
 | p::P,w::vs,i+1,m,nd,h1,h2,hk=>by
  show bindC kindOf ((p,w)::P.zip vs) m x=_
  unfold bindC;exact zCh (i:=i) (VL.mp nd).2 (by simpa using h1) (by simpa using h2) hk
def start(N:List Str)(vs:List V):St:=vs.map some++List.replicate (N.length-vs.length) none
def zGd(CX:CXT)(P:Program)(w:World)(K:PySem.W.Frag)(mg:Str->Option Value)(base:Heap)(N:List Str)(qual:Str)(scope:Scope)(f:Addr)(cd:Value)(A:Around)(outer:List Env)(s:Shared)(H:Hp)(E:XK):Cx where
 prog:=P
 w:=w
 K:=K
 mg:=mg
 base:=base
 A:=A.deeper (envOfC qual scope s.heap.objs.size f cd)
 N:=N
 s₀:=s
 H₀:=H
 env:=envOfC qual scope s.heap.objs.size f cd
 outer:=outer
 stack:=envOfC qual scope s.heap.objs.size f cd::outer
 ex:=[]
 calm:=true
 fn:=fun _=>true
 pn:=[]
 xe:=fun e s'=>wpAny (model P w) (A.deeper (envOfC qual scope s.heap.objs.size f cd)) (leaving (envOfC qual scope s.heap.objs.size f cd) e) (fun _ s''=>CX outer H s E e s'') (fun e' s''=>CX outer H s E e' s'') s'
theorem zEv{sc:Scope}{n:Nat}{x:Str}(h:sc.names.lookup x=some .cell):∃ c,(cellsFrom n sc.names []).lookup x=some c:=by
 have q:=Yo sc.names n [] (.inl h);exact Option.isSome_iff_exists.mp q
theorem zGM{CX:CXT}{P:Program}{w:World}{K:Fg_}{mg:Str->Option Value}{base:Heap}{N ps:List Str}{qual:Str}{scope:Scope}{f:Addr}{cd:Value}{A:Around}{outer:List Env}{s s1:Shared}{H:Hp}{E:XK}{us:List Value}{vs:List V}
  (S:FnScope N ps scope) (hd:A.handled=none) (e0:Env0 P w K mg base A outer s H) (hl:vs.length=ps.length) (r:dN vs us)
  (x:InCallC s s.heap.objs.size (bindL (envOfC qual scope s.heap.objs.size f cd).kindOf (ps.zip us) fun _=>none) (cellsFrom (s.heap.objs.size+1) scope.names []) (bindC (envOfC qual scope s.heap.objs.size f cd).kindOf (ps.zip us) fun _=>none) s1):
  Inv (zGd CX P w K mg base N qual scope f cd A outer s H E) [] (start N vs) H s1:=by
 have hpl:ps.length<=N.length:=by have:=congrArg List.length S.pre;rw[Vk] at this;omega
 obtain⟨h1,tk,rfl,hk⟩:=x.done;have noA:∀ b:Addr,b∉(zGd CX P w K mg base N qual scope f cd A outer s H E).ex:=fun b z=>absurd (show b∈([]:List Addr) from z) (by simp)
 refine⟨⟨e0.mod,S.kind,rfl,rfl,Qh _,fun y z c h1 h2=>?_,fun y hy=>?_,fun y c _ h=>?_,fun _=>hd,Around.frames_deeper e0.frames,.inr ⟨rfl,rfl⟩,fun b z=>absurd z (noA b),e0.bs,e0.bsz,fun b _ _=>noA b,fun b z=>absurd z (noA b),e0.funs,e0.frf⟩,
  rfl,e0.bare,Un.kept hk,⟨_,x.toInCall.ns,fun i y v h1 h2 h3=>?_⟩,fun y c h=>⟨_,x.cell y c h⟩,e0.hok.fresh (Qh _),fun y c h=>?_,fun p hp=>absurd (show p∈([]:List (Addr×Obj)) from hp) (by simp),e0.hok.kept hk,?_⟩
 ·exact name_of_addr x.apart (Vz h1) (Vz h2)
 ·have hy:scope.names.lookup y=some .cell∨scope.names.lookup y=some .free:=hy
  rcases hy with hy | hy
  ·exact zEv hy
  ·exact absurd rfl (S.nofree _ (Vz hy))
 ·exact Vr (x.above y c (Vz h))
 ·have hi:i<vs.length:=by
   unfold start at h2;by_cases hi:i<vs.length
   ·exact hi
   ·rw[QX (by simpa using hi)] at h2
    rw[Xl] at h2;split at h2<;>cases h2
  have ha:vs[i]?=some v:=by
   unfold start at h2;rw[QN (by simpa using hi),Qu] at h2
   cases e:vs[i]? with
   | none=>rw[e] at h2;cases h2
   | some a=>rw[e] at h2;cases h2;rfl
  obtain⟨u,hu,rv⟩:=r.get ha
  have hp:ps[i]?=some y:=by
   rw[<-S.pre,XC (by omega)];exact h1
  have ndP:ps.Nodup:=by rw[<-S.pre];exact S.nd.sublist (List.take_sublist _ _)
  refine⟨u,rv,?_⟩
  rcases S.par y (Qj hp) with k | k
  ·exact .inl ⟨k,zBC ndP hp hu k⟩
  ·obtain⟨c,e⟩:=zEv (n:=s.heap.objs.size+1) k
   refine .inr ⟨.inl k,c,e,?_⟩
   have q:=x.cell y c e;rw[zCh ndP hp hu (by show scope.names.lookup y≠_;rw[k];decide)] at q;exact q
 ·exact e0.hok.fresh (Vr (x.above y c (Vz h)))
 ·unfold start
  show _=N.length
  rw[Qk,Qe,VM];omega
theorem zPT{CX:CXT}{P:Program}{w:World}{K:Fg_}{mg:Str->Option Value}{base:Heap}{k:Nat}{f:Addr}{name qual:Str}{params:Arguments}{body:List Stmt}{scope:Scope}{dV kV doc pm cdv ct oc:Value}{an od:Option Addr}
  {osl:Array (Option Value)} {N ps:List Str} {sp:Sp} (lk:K.lookup f=some ⟨oc,od,.func (PySem.W.fnOf name qual params body scope dV kV doc pm an cdv ct),osl⟩) (hcd:PySem.W.codeIn K cdv qual=true) (S:FnScope N ps scope)
  (len:∀ vs H Q E,sp vs H Q E->vs.length=ps.length)
  (hbody:∀(A:Around)(outer:List Env)(s:Shared)(H:Hp)(vs:List V)(Q:VK)(E:XK),Room k (A.deeper (envOfC qual scope s.heap.objs.size f cdv))->sp vs H Q E->
   ∃ t,PSs (zGd CX P w K mg base N qual scope f cdv A outer s H E) body t/\t { nx:=fun _ H'=>Q .non H',rt:=Q } (start N vs) H):
  FnOk P w K mg base CX (k+1) f (PySem.W.fnOf name qual params body scope dV kV doc pm an cdv ct) ps sp:=by
 refine⟨len,fun A outer s H args us vs Q E hr e0 hb r hsp=>?_⟩
 have hl:=len _ _ _ _ hsp;have KX:K.In s.heap:=e0.mod.kin.keeps fun b o e=>(e0.bs b o e).1
 have lim:s.heap.NoLimit:=e0.mod.nolimit.keeps fun b o e=>(e0.bs b o e).1
 have hkind:∀ y∈ps.zip us,scope.names.lookup y.1=some .local∨(scope.names.lookup y.1=some .cell/\((cellsFrom (s.heap.objs.size+1) scope.names []).lookup y.1).isSome=true):=fun ⟨n,v⟩ hy=>by
  rcases S.par n (VY hy).1 with q | q
  ·exact .inl q
  ·exact .inr ⟨q,Yo _ _ _ (.inl q)⟩
 refine codeAny_call_function hr.depth (KX _ _ lk) rfl S.co S.gen rfl (PySem.W.codeRec_of KX hcd) (hb _ _ _ _ ?_)
 refine wpAny_newFunctionEnv_cells S.kind hkind fun env he s1 x=>?_
 subst he;refine⟨lim.keeps x.toInCall.keep,codeAny_func ?_⟩
 obtain⟨t,ht,hq⟩:=hbody A outer s H vs Q E (hr.deeper _) hsp;have I:Inv (zGd CX P w K mg base N qual scope f cdv A outer s H E) [] (start N vs) H s1:=zGM S hr.hd e0 hl r x;refine wpAny_mono (ht [] s1 (start N vs) H _ I hq) (fun fl s' hs=>?_) fun e s' hs=>hs
 have fin:∀ {σ':St} {H':Hp} {v:V} {u:Value},Inv (zGd CX P w K mg base N qual scope f cdv A outer s H E) [] σ' H' s'->dB v u->Q v H'->CE outer P w H s Q u s':=
  fun {σ' H' v u} J rv q=>⟨v,H',J.os,J.bare,J.base,J.hok,rv,q⟩
 cases fl with
 | ret u=>
  obtain⟨v,σ',H',J,rv,q⟩:=hs;exact fin J rv q
 | next=>
  obtain⟨σ',H',J,q⟩:=hs;exact fin (v:=V.non) (u:=Value.none) J rfl q
 | brk=>
  obtain⟨_,_,_,q⟩:=hs;exact False.elim q
 | cont=>
  obtain⟨_,_,_,q⟩:=hs;exact False.elim q
section
variable{X:Cx}{x:Str}{p pos:Pos}{e:Expr}{es:List Expr}{t:TA}{id T:String}{r:List V->Hp->VK->Prop}
abbrev tCB(r:List V->Hp->VK->Prop)(t:TA):TE:=fun σ H Q=>t σ H fun vs H1=>r vs H1 Q
theorem zEs(hc:xN X (.builtin id) r)(hg:Gl X x)(hm:X.mg x=none)(hv:bootBuiltins x=some (.builtin id))(ha:PA X (e::es) t)(hn:x ≠ "__name__" := by decide)(hdb:(x==("__debug__" : Str))=false:=by decide)
  (he:starEach (e::es) X.env=(false,eval e X.env)::starEach es X.env:=by rfl) (hpl:(backTo pos (starEach es X.env)).any (·.1)=false:=by rfl):PE X (.Call (.Name x p) (e::es) [] pos) (tCB r t):=by
 intro pins s σ H Q I h;refine wpAny_Call_Name_kw (oQ I hg hm hv ?_ hn hdb)
 exact PyProof.Rows.callWith_builtin1 (thn (ha pos pins s σ H _ I h) fun us s1 ⟨vs,H1,I1,r1,q1⟩=>hc pins s1 σ H1 vs us Q I1 r1 q1) he hpl
theorem zCo(hc:xN X (.type T) r)(hg:Gl X x)(hm:X.mg x=none)(hv:bootBuiltins x=some (.type T))(ha:PA X (e::es) t)(hn:x ≠ "__name__" := by decide)(hdb:(x==("__debug__" : Str))=false:=by decide)
  (he:starEach (e::es) X.env=(false,eval e X.env)::starEach es X.env:=by rfl) (hpl:(backTo pos (starEach es X.env)).any (·.1)=false:=by rfl):PE X (.Call (.Name x p) (e::es) [] pos) (tCB r t):=by
 intro pins s σ H Q I h;refine wpAny_Call_Name_kw (oQ I hg hm hv ?_ hn hdb)
 exact VJ (thn (ha pos pins s σ H _ I h) fun us s1 ⟨vs,H1,I1,r1,q1⟩=>hc pins s1 σ H1 vs us Q I1 r1 q1) he hpl
end
end L2
namespace HT
open PySem PyProof.Rows
section
open PySem.SeqAt
open PySem.AutoSeq1 (wpAny_loadPart')
open PySem.MeetsSeq PySem.MeetsSeq2 PySem.MeetsSeq3
end
section
variable{prog:Program}{w:World}{A:Around}{E:Value->Shared->Prop}{s:Shared}
theorem cat_tup{t b:Addr}{vs ws:List Value}{Q:Value->Shared->Prop}(ht:IsTup s.heap t vs.toArray)(hb:IsTup s.heap b ws.toArray)(hv:vs≠[])
  (h1:ws=[]->Q (.ref t) s) (h2:ws≠[]->Q (.ref s.heap.objs.size) { s with heap:=s.heap.push { cls:=.type "tuple", data:=.seq (vs++ws).toArray } })
  (hsz:vs.length+ws.length<=sizeLine):wpAny (model prog w) A (binaryOp .Add (.ref t) (.ref b)) Q E s:=by
 obtain⟨⟨cls,dd,data,sl⟩,ho,hc,n,hd⟩:=id ht;obtain⟨⟨cls2,dd2,data2,sl2⟩,ho2,hc2,n2,hd2⟩:=id hb;simp only at hc hd hc2 hd2
 subst hc hd hc2 hd2;have e:vs.toArray++ws.toArray=(vs++ws).toArray:=by simp
 by_cases hw:ws=[]
 ·exact concat_meets ⟨_,ho,rfl⟩ ⟨_,ho2,rfl⟩ noFill_tuple_add seq_tuple_add XD XF (XG _ _)
   (tuple_addW1 t b vs.toArray ws.toArray n n2 dd dd2 sl sl2 (by simpa using hv) (by simp[hw])) ⟨ho,ho2,h1 hw⟩
 ·refine concat_meets ⟨_,ho,rfl⟩ ⟨_,ho2,rfl⟩ noFill_tuple_add seq_tuple_add XD XF (XG _ _)
   (tuple_addW2 t b vs.toArray ws.toArray n n2 dd dd2 sl sl2 (by simpa using hv) (by simpa using hw) (by rw[Ql,Ql];exact hsz)) ⟨ho,ho2,?_⟩
  rw[e];exact h2 hw
def sIx(n d:Nat):Option Int->Nat
 | none=>d
 | some v=>if v<0 then (v+(n:Int)).toNat else min v.toNat n
end
end HT
namespace L2
open PySem PySem.Spec PyProof.Rows
abbrev TO:=St->Hp->(Option Int->Hp->Prop)->Prop
def PO(X:Cx)(e:Option Expr)(t:TO):Prop:=
 ∀(pins:List (Addr×Obj))(s:Shared)(σ:St)(H:Hp)(Q:Option Int->Hp->Prop),Inv X pins σ H s->t σ H Q->
  wpAny (model X.prog X.w) X.A (evalPart e X.env) (fun u s'=>∃ o H',Inv X pins σ H' s'/\IsPart u o/\Q o H') X.xe s
abbrev zNm:TO:=fun _ H Q=>Q none H
abbrev zRj(t:TE):TO:=fun σ H Q=>t σ H fun x H1=>∃ i,x=.int i/\Q (some i) H1
section
variable{X:Cx}{e:Expr}{te:TE}{lo hi:Option Expr}{tl th:TO}{pos p2:Pos}
theorem zMy:PO X none zNm:=by
 intro pins s σ H Q I h;rw[evalPart_none];exact wpAny_pure ⟨none,H,I,.none,h⟩
theorem zOd(h:PE X e te):PO X (some e) (zRj te):=by
 intro pins s σ H Q I hw;rw[evalPart_some];refine thn (h pins s σ H _ I hw) fun u s1 ⟨x,H1,I1,r1,q1⟩=>?_
 obtain⟨i,rfl,q⟩:=q1;obtain⟨t,rfl⟩:=r1;exact⟨some i,H1,I1,.int i t,q⟩
def SlR(X:Cx)(r:V->Option Int->Option Int->Hp->VK->Prop):Prop:=
 ∀(pins:List (Addr×Obj))(s:Shared)(σ:St)(H:Hp)(x:V)(v vl vu:Value)(lo hi:Option Int)(sl:Addr)(Q:VK),Inv X pins σ H s->dB x v->s.heap.IsSliceOf sl vl vu .none->IsPart vl lo->IsPart vu hi->r x lo hi H Q->
  ∃ T id,typeLookup (.type T) "__getitem__" = pure (some (.builtin id))/\s.TypeIs v T/\wpAny (model X.prog X.w) X.A (getItem v (.ref sl)) (EP X pins σ Q) X.xe s
abbrev tSl(r:V->Option Int->Option Int->Hp->VK->Prop)(te:TE)(tl th:TO):TE:=fun σ H Q=>te σ H fun x H1=>tl σ H1 fun l H2=>th σ H2 fun u H3=>r x l u H3 Q
theorem zKP{r:V->Option Int->Option Int->Hp->VK->Prop}(hr:SlR X r)(he:PE X e te)(hl:PO X lo tl)(hu:PO X hi th):PE X (.Subscript e (.Slice lo hi none p2) pos) (tSl r te tl th):=by
 intro pins s σ H Q I h;refine Subscript_ (thn (he pins s σ H _ I h) fun v s1 ⟨x,H1,I1,r1,q1⟩=>?_)
 refine wpAny_Slice (thn (hl pins s1 σ H1 _ I1 q1) fun vl s2 ⟨l,H2,I2,pl,q2⟩=>thn (hu pins s2 σ H2 _ I2 q2) fun vu s3 ⟨u,H3,I3,pu,q3⟩=>?_)
 rw[evalPart_none];refine wpAny_pure ?_
 have I4:Inv X pins σ H3 { s3 with heap:=s3.heap.push { cls:=.type "slice", data:=.fields #[vl,vu,.none] } }:=I3.kept (t':=s3.toks) fun b ob q=>Heap.get?_push_of_some _ q
 obtain⟨T,id,hT,ht,hg⟩:=hr pins { s3 with heap:=s3.heap.push { cls:=.type "slice", data:=.fields #[vl,vu,.none] } } σ H3 x v vl vu l u s3.heap.objs.size Q I4 r1 (Heap.IsSliceOf.new ..) pl pu q3;show wpAny (model X.prog X.w) X.A (subscriptTail e (.Slice lo hi none p2) v (.ref s3.heap.objs.size)) (EP X pins σ Q) X.xe { s3 with heap:=s3.heap.push { cls:=.type "slice", data:=.fields #[vl,vu,.none] } }
 exact tail_any (ops:=[.ref s3.heap.objs.size,v]) ht hT hg (by with_unfolding_all rfl)
def zOM(xs:List V)(lo hi:Option Int):List V:=(xs.drop (HT.sIx xs.length 0 lo)).take (HT.sIx xs.length xs.length hi-HT.sIx xs.length 0 lo)
theorem zDu(xs:List V)(lo hi:Option Int):(zOM xs lo hi).length<=xs.length:=by
 unfold zOM;rw[Vk,Vs];omega
def zPc(K:PySem.W.Frag):R2:=fun x y H Q=>∃ a b xs ys,x=.ref a/\y=.ref b/\SqT K H a xs/\SqT K H b ys/\xs≠[]/\xs.length+ys.length<=sizeLine/\
 (ys=[]->Q (.ref a) H)/\(ys≠[]->∀ p,H p=none->Q (.ref p) (upd H p (.tup (xs++ys))))
theorem dN.nil_iff{xs:List V}{us:List Value}(r:dN xs us):us=[] ↔ xs=[]:=by
 cases r with
 | nil=>simp
 | cons _ _=>simp
theorem zMO:OpR X (binaryOp .Add) (zPc X.K):=by
 intro pins s σ H x y v u Q I rx ry h;obtain⟨a,b,xs,ys,rfl,rfl,ha,hb,hx,hz,q1,q2⟩:=h;cases rx;cases ry;obtain⟨its,r1,p1,_⟩:=I.tuple ha;obtain⟨its2,r2,p2,_⟩:=I.tuple hb;refine HT.cat_tup p1 p2 (fun z=>hx (r1.nil_iff.mp z)) (fun z=>⟨.ref a,H,I,rfl,q1 (r2.nil_iff.mp z)⟩) (fun z=>?_) (by rw[<-r1.length,<-r2.length];exact hz)
 refine⟨.ref s.heap.objs.size,_,I.laid (t':=s.toks) (o:=.tup (xs++ys)) (fun b ob q=>Heap.get?_push_of_some _ q) (Qh _) ?_,rfl,q2 (fun w=>z (r2.nil_iff.mpr w)) _ (I.hok.fresh (Qh _))⟩
 exact⟨by rw[Qk];exact hz,_,r1.append r2,IsTup.new _ _⟩
end
def ixN(n:Nat)(i:Int):Option Nat:=if 0<=i then (if i<n then some i.toNat else none) else if -(n:Int)<=i then some (i+n).toNat else none
def atI{α:Type}(xs:List α)(i:Int):Option α:=(ixN xs.length i).bind fun j=>xs[j]?
theorem zJq{n:Nat}{i:Int}{j:Nat}(h:ixN n i=some j):seqIndex? i n=some j/\j<n/\-(n:Int)<=i/\i<n:=by
 unfold ixN at h;by_cases h0:0<=i
 ·rw[if_pos h0] at h
  by_cases h1:i<n
  ·rw[if_pos h1] at h
   have e:i.toNat=j:=QL h;exact⟨by rw[seqIndex_of h0 h1,e],by omega,by omega,h1⟩
  ·rw[if_neg h1] at h;cases h
 ·rw[if_neg h0] at h
  by_cases h1:-(n:Int)<=i
  ·rw[if_pos h1] at h
   have e:(i+n).toNat=j:=QL h;exact⟨by rw[seqIndex_neg (by omega) h1,e],by omega,h1,by omega⟩
  ·rw[if_neg h1] at h;cases h
theorem zIW{α:Type}{xs:List α}{i:Int}{v:α}(h:atI xs i=some v):∃ j,seqIndex? i xs.length=some j/\xs[j]?=some v/\j<xs.length/\-(xs.length:Int)<=i/\i<xs.length:=by
 unfold atI at h
 cases e:ixN xs.length i with
 | none=>rw[e] at h;cases h
 | some j=>
  rw[e] at h;obtain⟨h1,h2,h3,h4⟩:=zJq e;exact⟨j,h1,h,h2,h3,h4⟩
theorem zCQ{α:Type}{xs:List α}{j:Nat}{v:α}(h:xs[j]?=some v):atI xs (j:Int)=some v:=by
 have hj:j<xs.length:=(Qx.mp h).1
 have e:ixN xs.length (j:Int)=some j:=by
  unfold ixN;rw[if_pos (by omega),if_pos (by omega)];simp
 unfold atI;rw[e];exact h
def zDa(b:Expr):Prop:=∀ o i,subscripted b false o i=operate [o,i] (getItem o i)
def IxR(X:Cx)(r:R2):Prop:=
 ∀(value slice:Expr)(pins:List (Addr×Obj))(s:Shared)(σ:St)(H:Hp)(x y:V)(v u:Value)(Q:VK),Inv X pins σ H s->dB x v->dB y u->r x y H Q->
  subscripted slice false v u=operate [v,u] (getItem v u)->wpAny (model X.prog X.w) X.A (subscriptTail value slice v u) (EP X pins σ Q) X.xe s
def MtR(X:Cx)(id:String)(r:V->List V->Hp->VK->Prop):Prop:=
 ∀(pins:List (Addr×Obj))(s:Shared)(σ:St)(H:Hp)(x:V)(xs:List V)(v:Value)(us:List Value)(Q:VK),Inv X pins σ H s->dB x v->dN xs us->r x xs H Q->
  wpAny (model X.prog X.w) X.A (call (.builtin id) (v::us)) (EP X pins σ Q) X.xe s
section
variable{X:Cx}{a b:Expr}{ta tb:TE}{pos:Pos}
theorem IxR.or{r r':R2}(h:IxR X r)(h':IxR X r'):IxR X (fun x y H Q=>r x y H Q∨r' x y H Q):=by
 intro value slice pins s σ H x y v u Q I rx ry q hs;rcases q with q | q
 ·exact h value slice pins s σ H x y v u Q I rx ry q hs
 ·exact h' value slice pins s σ H x y v u Q I rx ry q hs
theorem zGf{r:R2}(hr:IxR X r)(ha:PE X a ta)(hb:PE X b tb)(hs:zDa b):PE X (.Subscript a b pos) (tOp r ta tb):=by
 intro pins s σ H Q I h;exact Subscript_ (zRZ ha hb I h fun v u s2 x y H2 I2 rx ry q=>hr a b pins s2 σ H2 x y v u Q I2 rx ry q (hs _ _))
def zRb(K:PySem.W.Frag):R2:=fun x y H Q=>∃ p xs i v,x=.ref p/\y=.int i/\SqL K H p xs/\atI xs i=some v/\Q v H
def zRi(K:PySem.W.Frag):R2:=fun x y H Q=>∃ p xs i v,x=.ref p/\y=.int i/\SqT K H p xs/\atI xs i=some v/\Q v H
theorem zMC:IxR X (zRb X.K):=by
 intro value slice pins s σ H x y v u Q I rx ry h hs;obtain⟨p,xs,i,z,rfl,rfl,hq,he,q⟩:=h;cases rx;obtain⟨t,rfl⟩:=ry;obtain⟨its,r,pl,hz⟩:=I.list hq;obtain⟨j,h1,h2,h3,h4,h5⟩:=zIW he;obtain⟨w,ew,rw'⟩:=r.get h2;have hl:=r.length;have hn:=zEK;have fin:EP X pins σ Q w s:=⟨z,H,I,rw',q⟩;by_cases h0:0<=i
 ·have hj:i.toNat=j:=by
   rw[seqIndex_of h0 h5] at h1;exact QL h1
  exact item_listR pl.isList h0 (by omega) (by rw[hj];simpa using ew) fin hs
 ·have hj:(i+(its.toArray.size:Int)).toNat=j:=by
   rw[seqIndex_neg (by omega) h4] at h1;rw[Ql,<-hl];exact QL h1
  exact subscriptTail_builtinR (x:=w) pl.isList.typeIs slot_list_getitem.lookup
   (wpAny_getItem_list_neg (Q:=fun r s'=>r=w/\EP X pins σ Q r s') pl.isList (by omega) (by rw[Ql]<;>omega) (by omega) (by rw[hj];simpa using ew) ⟨rfl,fin⟩) hs
theorem zPC:IxR X (zRi X.K):=by
 intro value slice pins s σ H x y v u Q I rx ry h hs;obtain⟨p,xs,i,z,rfl,rfl,hq,he,q⟩:=h;cases rx;obtain⟨t,rfl⟩:=ry;obtain⟨its,r,pl,hz⟩:=I.tuple hq;obtain⟨j,h1,h2,h3,h4,h5⟩:=zIW he;obtain⟨w,ew,rw'⟩:=r.get h2;have hl:=r.length;have hn:=zEK;have fin:EP X pins σ Q w s:=⟨z,H,I,rw',q⟩
 exact subscriptTail_builtinR (x:=w) pl.typeIs slot_tuple_getitem.lookup
  (getItem_tuple (j:=j) (Q:=fun r s'=>r=w/\EP X pins σ Q r s') pl (by omega) (by omega) (by rw[Ql,<-hl];exact h1) (by simpa using ew) ⟨rfl,fin⟩) hs
theorem zGt(its:List Value)(n j:Nat)(u:Value):Obj.mapSeq (·.setIfInBounds j u) { cls:=.type "list", data:=.seq its.toArray n }={ cls:=.type "list", data:=.seq (its.set j u).toArray n }:=by
 simp[Obj.mapSeq]
theorem Inv.lst{pins:List (Addr×Obj)}{σ:St}{H:Hp}{s:Shared}{p:Addr}{xs:List V}(I:Inv X pins σ H s)(h:H p=some (.lst xs)):
  ∃(its:List Value)(n:Nat),dN xs its/\s.heap.get? p=some { cls:=.type "list", data:=.seq its.toArray n }/\xs.length<=sizeLine:=by
 obtain⟨z,its,n,r,e⟩:=I.hok p _ h;exact⟨its,n,r,e,z⟩
theorem Inv.lstUpd{pins:List (Addr×Obj)}{σ:St}{H:Hp}{s:Shared}{p:Addr}{xs ys:List V}{its its':List Value}{n n':Nat}{f:Obj->Obj}(I:Inv X pins σ H s)(h:H p=some (.lst xs))
  (ho:s.heap.get? p=some { cls:=.type "list", data:=.seq its.toArray n }) (hf:f { cls:=.type "list", data:=.seq its.toArray n }={ cls:=.type "list", data:=.seq its'.toArray n' }) (r:dN ys its') (hz:ys.length<=sizeLine) (t:Nat):
  Inv X pins σ (upd H p (.lst ys)) { s with heap:=s.heap.update p f,toks:=t }:=by
 have e:(s.heap.update p f).get? p=some { cls:=.type "list", data:=.seq its'.toArray n' }:=by
  rw[Heap.get?_update_self f ho (by rw[hf]<;>rfl),hf]
 refine I.write (x:=p) (e:=p) (by rw[h];trivial) (.inl rfl) (fun b u hb q=>(Heap.get?_update_other _ _ (Ne.symm hb)).trans q) ⟨_,e⟩ ?_
 exact⟨hz,its',n',r,e⟩
def zRA:V->V->V->Hp->(Hp->Prop)->Prop:=fun o i v H Q=>∃ p xs k j,o=.ref p/\i=.int k/\H p=some (.lst xs)/\ixN xs.length k=some j/\Q (upd H p (.lst (xs.set j v)))
theorem zLi:zSz X zRA:=by
 intro pins s σ H o i v ov iv u Q I ro ri rv h;obtain⟨p,xs,k,j,rfl,rfl,hp,hj,q⟩:=h;cases ro;obtain⟨t,rfl⟩:=ri;obtain⟨its,n,r,ho,hz⟩:=I.lst hp;obtain⟨h1,h2,h3,h4⟩:=zJq hj;have hl:=r.length;have hn:=zEK
 have I':Inv X pins σ (upd H p (.lst (xs.set j v))) { s with heap:=s.heap.update p (Obj.mapSeq (·.setIfInBounds j u)) }:=
  I.lstUpd hp ho (zGt its n j u) (r.set rv j) (by rw[QI];exact hz) s.toks
 by_cases h0:0<=k
 ·have hk:k.toNat=j:=by
   rw[seqIndex_of h0 h4] at h1;exact QL h1
  exact PySem.W.ki_setAt ho h0 (by omega) (by rw[Ql,<-hl];exact h4) (by rw[hk];exact⟨_,I',q⟩)
 ·have hk:(k+(its.toArray.size:Int)).toNat=j:=by
   rw[seqIndex_neg (by omega) h3] at h1;rw[Ql,<-hl];exact QL h1
  exact PySem.W.ki_setBack ho (by omega) (by rw[Ql,<-hl];exact h3) (by omega) (by rw[hk];exact⟨_,I',q⟩)
theorem zBu(lo hi:Option Int)(n:Nat):(sliceBounds lo hi none n).1=((HT.sIx n 0 lo:Nat):Int)/\(sliceBounds lo hi none n).2.1=((HT.sIx n n hi:Nat):Int)/\(sliceBounds lo hi none n).2.2=1:=by
 refine⟨?_,?_,rfl⟩
 ·cases lo with
  | none=>simp[sliceBounds,HT.sIx]
  | some i=>
   simp only[sliceBounds,HT.sIx,Option.getD_none,show(1:Int) > 0 by decide,if_true];by_cases h:i<0
   ·simp only[h,if_true]<;>omega
   ·simp only[h,if_false]<;>omega
 ·cases hi with
  | none=>simp[sliceBounds,HT.sIx]
  | some i=>
   simp only[sliceBounds,HT.sIx,Option.getD_none,show(1:Int) > 0 by decide,if_true];by_cases h:i<0
   ·simp only[h,if_true]<;>omega
   ·simp only[h,if_false]<;>omega
theorem zG(its:List Value)(lo hi:Option Int):slicePick its.toArray lo hi none=((its.drop (HT.sIx its.length 0 lo)).take (HT.sIx its.length its.length hi-HT.sIx its.length 0 lo)).toArray:=by
 obtain⟨h1,h2,h3⟩:=zBu lo hi its.toArray.size;unfold slicePick;rw[h1,h2,h3];simp only[sliceRange_one,pick_run,Ql]<;>rfl
def zTi(K:PySem.W.Frag):V->Option Int->Option Int->Hp->VK->Prop:=fun x lo hi H Q=>∃ a xs,x=.ref a/\SqL K H a xs/\∀ p,H p=none->Q (.ref p) (upd H p (.lst (zOM xs lo hi)))
theorem zOu:SlR X (zTi X.K):=by
 intro pins s σ H x v vl vu lo hi sl Q I rx hs pl pu h;obtain⟨a,xs,rfl,hx,q⟩:=h;cases rx;obtain⟨its,r,ht,hz⟩:=I.list hx;have hlen:=r.length;refine⟨"list", _,slot_list_getitem.lookup,ht.isList.typeIs,?_⟩
 refine wpAny_getItem_list_slice ht.isList hs pl pu .none (by simp) ?_ (by rw[Ql]<;>omega)
 rw[zG,<-hlen];refine⟨.ref s.heap.objs.size,_,I.laid (t':=s.toks) (o:=.lst (zOM xs lo hi)) (fun b ob q=>Heap.get?_push_of_some _ q) (Qh _) ?_,rfl,q _ (I.hok.fresh (Qh _))⟩
 exact⟨QE (zDu xs lo hi) hz,_,0,(r.drop (HT.sIx xs.length 0 lo)).take (HT.sIx xs.length xs.length hi-HT.sIx xs.length 0 lo),Heap.get?_push_size _ rfl⟩
theorem aR:xN X (.builtin "len") (fun xs H Q=>∃ p ys,xs=[.ref p]/\(SqL X.K H p ys∨SqT X.K H p ys)/\Q (.int ys.length) H):=by
 intro pins s σ H xs us Q I r h;obtain⟨p,ys,rfl,hq,q⟩:=h;obtain⟨u,rfl,rx⟩:=zCW r;cases rx;have hn:=zEK;rcases hq with hq | hq
 ·obtain⟨its,r',pl,hz⟩:=I.list hq
  have hlen:=r'.length;exact Calls.call_len_list pl.isList (by simp only[Ql]<;>omega) ⟨.int ys.length,H,I.tok _,⟨s.toks+1,by rw[Ql,hlen]⟩,q⟩
 ·obtain⟨its,r',pl,hz⟩:=I.tuple hq
  have hlen:=r'.length;exact len_tuple pl (by simp only[Ql]<;>omega) ⟨.int ys.length,H,I.tok _,⟨s.toks+1,by rw[Ql,hlen]⟩,q⟩
theorem zCl:xN X (.type "list") (fun xs H Q=>∃ p ys,xs=[.ref p]/\(SqL X.K H p ys∨SqT X.K H p ys)/\∀ l,H l=none->Q (.ref l) (upd H l (.lst ys))):=by
 intro pins s σ H xs us Q I r h;obtain⟨p,ys,rfl,hq,q⟩:=h;obtain⟨u,rfl,rx⟩:=zCW r;cases rx
 have fin:∀(its:List Value),dN ys its->ys.length<=sizeLine->∀(h':Heap)(c':Nat),(∀ b o',s.heap.get? b=some o'->h'.get? b=some o')->
   h'.get? s.heap.objs.size=some { cls:=.type "list", dict:=none,data:=.seq its.toArray c',slots:=#[] }->EP X pins σ Q (.ref s.heap.objs.size) { s with heap:=h' }:=fun its r' hz h' c' kp e=>
  ⟨.ref s.heap.objs.size,_,I.laid (t':=s.toks) kp (Qh _) (show mK X.prog X.w _ h' _ (.lst ys) from ⟨hz,its,c',r',e⟩),rfl,q _ (I.hok.fresh (Qh _))⟩
 rcases hq with hq | hq
 ·obtain⟨its,r',pl,hz⟩:=I.list hq
  have hlen:=r'.length;obtain⟨o,ho,hc,n,hd⟩:=pl.isList;exact call_list_seq p (.inl rfl) ho hc hd (fun h' c' kp e=>fin its r' hz h' c' kp e) (by simp only[Ql]<;>omega)
 ·obtain⟨its,r',pl,hz⟩:=I.tuple hq
  have hlen:=r'.length;obtain⟨o,ho,hc,n,hd⟩:=pl;exact call_list_seq p (.inr rfl) ho hc hd (fun h' c' kp e=>fin its r' hz h' c' kp e) (by simp only[Ql]<;>omega)
theorem lU:xN X (.type "tuple") (fun xs H Q=>∃ p ys,xs=[.ref p]/\((SqL X.K H p ys/\∀ l,H l=none->Q (.ref l) (upd H l (.tup ys)))∨(SqT X.K H p ys/\Q (.ref p) H))):=by
 intro pins s σ H xs us Q I r h;obtain⟨p,ys,rfl,h⟩:=h;obtain⟨u,rfl,rx⟩:=zCW r;cases rx;rcases h with⟨hq,q⟩ | ⟨hq,q⟩
 ·obtain⟨its,r',pl,hz⟩:=I.list hq
  have hlen:=r'.length;refine call_tuple_list pl.isList (fun h' kp=>?_) (by simp only[Ql]<;>omega)
  have I1:Inv X pins σ H { s with heap:=h' }:=I.kept (t':=s.toks) kp
  have I2:Inv X pins σ (upd H h'.objs.size (.tup ys)) { s with heap:=h'.push { cls:=.type "tuple", data:=.seq its.toArray } }:=
   I1.laid (t':=s.toks) (fun b o e=>Heap.get?_push_of_some _ e) (Qh _) (show mK X.prog X.w _ _ _ (.tup ys) from ⟨hz,its,r',IsTup.new _ _⟩)
  exact⟨.ref h'.objs.size,_,I2,rfl,q _ (I1.hok.fresh (Qh _))⟩
 ·obtain⟨its,r',pl,hz⟩:=I.tuple hq
  exact call_tuple_same pl ⟨.ref p,H,I,rfl,q⟩
def tyV(K:PySem.W.Frag)(T:String)(x:V)(H:Hp):Prop:=match x with
 | .str _=>T = "str"
 | .int _=>T = "int"
 | .ref p=>(T = "list" /\ ∃ xs,SqL K H p xs)∨(T = "tuple" /\ ∃ o,K.lookup p=some o/\o.cls=.type "tuple" /\ o.dict=none)∨
   (T = "dict" /\ ((∃ kvs,H p=some (.dK kvs))∨∃ kvs,H p=some (.dT kvs)))∨(T = "set" /\ ∃ S n,H p=some (.set S n))
 | _=>False
theorem zLF{pins:List (Addr×Obj)}{σ:St}{H:Hp}{s:Shared}{T:String}{x:V}{v:Value}(I:Inv X pins σ H s)(r:dB x v)(ty:tyV X.K T x H):
  s.TypeIs v T/\∀ a,v=.ref a->∃ ob,s.heap.get? a=some ob/\ob.dict=none:=by
 cases x with
 | str z=>
  obtain⟨t,rfl⟩:=r;cases (show T = "str" from ty)
  exact⟨typeIs_str s z t,fun _ e=>nomatch e⟩
 | int i=>
  obtain⟨t,rfl⟩:=r;cases (show T = "int" from ty)
  exact⟨typeIs_int s i t,fun _ e=>nomatch e⟩
 | ref p=>
  cases r;rcases ty with⟨rfl,xs,hq⟩ | ⟨rfl,o,hk,hc,hd⟩ | ⟨rfl,hk⟩ | ⟨rfl,S,n,hk⟩
  ·obtain⟨its,_,pl,_⟩:=I.list hq
   refine⟨pl.isList.typeIs,fun a e=>?_⟩
   cases e;obtain⟨o,n,e,c,hd,_⟩:=pl;exact⟨o,e,hd⟩
  ·refine⟨⟨o,I.kIn p o hk,hc⟩,fun a e=>?_⟩
   cases e;exact⟨o,I.kIn _ o hk,hd⟩
  ·have z:∃ o,s.heap.get? p=some o/\o.ExactDict:=by
    rcases hk with⟨kvs,hk⟩ | ⟨kvs,hk⟩
    ·obtain⟨_,_,_,_,o,_,_,e,ex,_⟩:=I.hok p _ hk
     exact⟨o,e,ex⟩
    ·obtain⟨_,_,_,_,o,_,_,e,ex,_⟩:=I.hok p _ hk
     exact⟨o,e,ex⟩
   obtain⟨o,e,ex⟩:=z;refine⟨⟨o,e,ex.1⟩,fun a e2=>?_⟩
   cases e2;exact⟨o,e,ex.2.1⟩
  ·obtain⟨o,_,_,_,e,ex,_⟩:=I.hok p _ hk
   refine⟨⟨o,e,ex.1⟩,fun a e2=>?_⟩
   cases e2;exact⟨o,e,ex.2.1⟩
 | _=>exact False.elim ty
abbrev zSQ(K:PySem.W.Frag)(T:String)(r:V->List V->Hp->VK->Prop)(to:TE):TE:=fun σ H Q=>to σ H fun x H1=>tyV K T x H1/\r x [] H1 Q
abbrev tBM(K:PySem.W.Frag)(T:String)(r:V->List V->Hp->VK->Prop)(to:TE)(t:TA):TE:=fun σ H Q=>to σ H fun x H1=>tyV K T x H1/\t σ H1 fun xs H2=>r x xs H2 Q
variable{o e:Expr}{es:List Expr}{to:TE}{t:TA}{name:Str}{apos cpos:Pos}{T id:String}{r:V->List V->Hp->VK->Prop}
theorem zPK(pa:PlainAttrs T)(slot:Slot T name id)(hty:typeOf (.builtin id)=pure (.type "method_descriptor"))(hm:MtR X id r)(ho:PE X o to)
  (hbase:attributeBase o name X.env (eval o X.env)=eval o X.env:=by rfl) (hline:(apos.endLine==cpos.line)=true:=by rfl):PE X (.Call (.Attribute o name apos) [] [] cpos) (zSQ X.K T r to):=by
 intro pins s σ H Q I h;refine wpAny_Call_method0_late hbase hline (thn (ho pins s σ H _ I h) fun v s1 ⟨x,H1,I1,r1,ty,q1⟩=>?_)
 obtain⟨h1,h2⟩:=zLF I1 r1 ty;exact⟨T,id,pa,slot,hty,h1,h2,Calls.callWith_builtin rfl (PySem.evalArgs_none (hm pins s1 σ H1 x [] v [] Q I1 r1 .nil q1))⟩
theorem zPk(pa:PlainAttrs T)(slot:Slot T name id)(hty:typeOf (.builtin id)=pure (.type "method_descriptor"))(hm:MtR X id r)(ho:PE X o to)(ha:PA X (e::es) t)
  (hbase:attributeBase o name X.env (eval o X.env)=eval o X.env:=by rfl)
  (hfew:((backTo cpos (starEach (e::es) X.env)).all (fun x=>!x.1) && (backToKw cpos (keywordEach [] X.env)).all (fun x=>x.1.isSome)
   && decide ((e::es).length+([]:List Keyword).length+(if ([]:List Keyword).isEmpty then 0 else 1)<30))=true:=by rfl)
  (hline:(apos.endLine==cpos.line)=true:=by rfl) (hs:starEach (e::es) X.env=(false,eval e X.env)::starEach es X.env:=by rfl) (hplain:(backTo cpos (starEach es X.env)).any (·.1)=false:=by rfl):
  PE X (.Call (.Attribute o name apos) (e::es) [] cpos) (tBM X.K T r to t):=by
 intro pins s σ H Q I h;refine wpAny_Call_method_late hbase hfew hline rfl (thn (ho pins s σ H _ I h) fun v s1 ⟨x,H1,I1,r1,ty,q1⟩=>?_)
 obtain⟨h1,h2⟩:=zLF I1 r1 ty;refine⟨T,id,pa,slot,hty,h1,h2,?_⟩
 have hA:=ha cpos pins s1 σ H1 _ I1 q1;rw[hs] at hA ⊢
 refine Calls.callWith_builtin (by show(false || (backTo cpos (starEach es X.env)).any (·.1))=false;rw[hplain]<;>rfl) (Calls.evalArgs_plain ?_)
 exact thn hA fun us s2 ⟨vs,H2,I2,r2,q2⟩=>hm pins s2 σ H2 x vs v us Q I2 r1 r2 q2
end
def MtM(X:Cx)(id:String)(r:V->List V->Hp->VK->Prop):Prop:=
 ∀(pins:List (Addr×Obj))(s:Shared)(σ:St)(H:Hp)(x:V)(xs:List V)(v:Value)(us:List Value)(Q:VK),Inv X pins σ H s->dB x v->dN xs us->r x xs H Q->
  wpAny (model X.prog X.w) X.A (call (.builtin id) (v::us)) (EP X pins σ Q) X.xe s
theorem dN.one:∀ {x:V} {us:List Value},dN [x] us->∃ u,us=[u]/\dB x u
 | _,_,.cons r .nil=>⟨_,rfl,r⟩
theorem dN.zero:∀ {us:List Value},dN [] us->us=[]
 | _,.nil=>rfl
theorem dN.dropLast{xs:List V}{us:List Value}(h:dN xs us):dN xs.dropLast us.dropLast:=by
 induction h with
 | nil=>exact .nil
 | cons r t ih=>
  cases t with
  | nil=>exact .nil
  | cons q t'=>exact .cons r ih
theorem dN.rep{xs:List V}{us:List Value}(h:dN xs us):∀ k:Nat,dN (List.replicate k xs).flatten (List.replicate k us).flatten
 | 0=>.nil
 | k+1=>by
  rw[VA,VA,VN,VN];exact dN.append h (dN.rep h k)
theorem zFY{α:Type}(l:List α):l.eraseIdx (l.length-1)=l.dropLast:=by
 induction l with
 | nil=>rfl
 | cons a r ih=>
  cases r with
  | nil=>rfl
  | cons b r=>
   have e:(a::b::r).length-1=((b::r).length-1)+1:=by
    have h1:(a::b::r).length=r.length+2:=rfl;have h2:(b::r).length=r.length+1:=rfl;omega
   rw[e,List.eraseIdx_cons_succ,ih]
   all_goals rfl
theorem zBw(its:List Value):∀(k:Nat)(acc:List Value),
  List.foldl (fun x1 x2=>x1++x2) acc.toArray (List.replicate k its.toArray)=(acc++(List.replicate k its).flatten).toArray
 | 0,acc=>by simp
 | k+1,acc=>by
  have e:acc.toArray++its.toArray=(acc++its).toArray:=by simp
  have e2:(acc++its)++(List.replicate k its).flatten=acc++(List.replicate (k+1) its).flatten:=by
   rw[VA,VN,Vd]
  rw[<-e2,<-zBw its k (acc++its),<-e,VA,XH]
section
variable{X:Cx}{pins:List (Addr×Obj)}{σ:St}{H:Hp}{s:Shared}{l b:Addr}{xs ys zs:List V}
theorem Inv.lset{its its':List Value}{n:Nat}{f:Array Value->Array Value}{t':Nat}(I:Inv X pins σ H s)(hH:H l=some (.lst xs))
  (e:s.heap.get? l=some { cls:=.type "list", data:=.seq its.toArray n }) (hf:f its.toArray=its'.toArray) (hv:dN ys its') (hz:ys.length<=sizeLine):
  Inv X pins σ (upd H l (.lst ys)) { s with heap:=s.heap.update l (Obj.mapSeq f),toks:=t' }:=by
 have q:=PySem.IsL.update e f;rw[hf] at q;refine I.write (x:=l) (e:=l) (by rw[hH];exact trivial) (.inl rfl) (fun b' u hb hu=>(Heap.get?_update_other s.heap (Obj.mapSeq f) (Ne.symm hb)).trans hu) ⟨_,q⟩ ?_
 exact⟨hz,its',_,hv,q⟩
theorem Inv.lnew{its:List Value}{t':Nat}(I:Inv X pins σ H s)(hv:dN ys its)(hz:ys.length<=sizeLine):
  Inv X pins σ (upd H s.heap.objs.size (.lst ys)) { s with heap:=s.heap.push { cls:=.type "list", data:=.seq its.toArray },toks:=t' }:=
 I.laid (fun _ _ q=>Heap.get?_push_of_some _ q) (Qh _) ⟨hz,its,0,hv,Heap.get?_push_size _ rfl⟩
theorem Inv.fresh(I:Inv X pins σ H s):H s.heap.objs.size=none:=I.hok.fresh (Qh _)
theorem Inv.lstM(I:Inv X pins σ H s)(hH:H l=some (.lst xs)):xs.length<=sizeLine/\∃(its:List Value)(n:Nat),dN xs its/\xs.length=its.length/\s.heap.get? l=some { cls:=.type "list", data:=.seq its.toArray n }:=by
 obtain⟨z,its,n,r,e⟩:=I.hok l _ hH;exact⟨z,its,n,r,r.length,e⟩
theorem zEC{n:Nat}(h:n<=sizeLine):Builtin.List.listTooLong n=false:=by
 unfold Builtin.List.listTooLong;exact decide_eq_false (by omega)
end
section
variable{X:Cx}
def zOG:V->List V->Hp->VK->Prop:=fun x vs H Q=>∃ l xs y,x=.ref l/\vs=[y]/\H l=some (.lst xs)/\xs.length<sizeLine/\Q .non (upd H l (.lst (xs++[y])))
theorem uK:MtM X "list.append" zOG:=by
 intro pins s σ H x vs v us Q I rx rv h;obtain⟨l,xs,y,rfl,rfl,hH,hz,q⟩:=h;cases rx;obtain⟨u,rfl,ru⟩:=rv.one;obtain⟨z,its,n,r,hl,e⟩:=I.lstM hH;refine call_meets F.slot_list_append ⟨_,e,rfl⟩ F.entry_list_append (F.args_list_append_2 _ _) (PySem.list_append l its.toArray n u (by rw[Ql];omega)) ⟨e,?_⟩
 refine⟨.non,_,I.lset (its':=its++[u]) hH e (by simp) (r.append (.cons ru .nil)) ?_,rfl,q⟩
 rw[Qk,XI];omega
def zNl:V->List V->Hp->VK->Prop:=fun x vs H Q=>∃ l b xs zs,x=.ref l/\vs=[.ref b]/\H l=some (.lst xs)/\H b=some (.lst zs)/\xs.length+zs.length<=sizeLine/\Q .non (upd H l (.lst (xs++zs)))
theorem zGQ:MtM X "list.extend" zNl:=by
 intro pins s σ H x vs v us Q I rx rv h;obtain⟨l,b,xs,zs,rfl,rfl,hH,hB,hz,q⟩:=h;cases rx;obtain⟨u,rfl,ru⟩:=rv.one;cases ru;obtain⟨z,its,n,r,hl,e⟩:=I.lstM hH;obtain⟨z2,its2,n2,r2,hl2,e2⟩:=I.lstM hB;have hsz:its.toArray.size+its2.toArray.size<=sizeLine:=by rw[Ql,Ql];omega
 have hlong:¬ (!its.toArray.isEmpty && Builtin.List.listTooLong (its.toArray.size+its2.toArray.size))=true:=by
  rw[zEC hsz,Bool.and_false];exact Xc
 refine call_meets F.slot_list_extend ⟨_,e,rfl⟩ F.entry_list_extend (F.args_list_extend_2 _ _)
  (AutoSeq1.list_extend_list_list_0 l its.toArray n b its2.toArray n2 hlong (by rw[Ql];omega) (by omega)) ⟨e,e2,?_⟩
 refine⟨.non,_,I.lset (its':=its++its2) hH e (by simp) (r.append r2) ?_,rfl,q⟩
 rw[Qk];omega
def zSL:V->List V->Hp->VK->Prop:=fun x vs H Q=>∃ l xs y,x=.ref l/\vs=[]/\H l=some (.lst xs)/\xs[xs.length-1]?=some y/\Q y (upd H l (.lst xs.dropLast))
theorem zQu:MtM X "list.pop" zSL:=by
 intro pins s σ H x vs v us Q I rx rv h;obtain⟨l,xs,y,rfl,rfl,hH,hy,q⟩:=h;cases rx;have hus:=rv.zero;subst hus;obtain⟨z,its,n,r,hl,e⟩:=I.lstM hH;obtain⟨u,hu,ru⟩:=r.get hy
 have hy':its.toArray[its.toArray.size-1]?=some u:=by
  show its.toArray[its.length-1]?=some u
  rw[<-XJ,<-hl];exact hu
 refine call_meets F.slot_list_pop ⟨_,e,rfl⟩ F.entry_list_pop (F.args_list_pop_1 _) (MeetsSeq.list_pop_last l its.toArray n u hy' (by rw[Ql];omega)) ⟨e,?_⟩
 refine⟨y,_,I.lset (its':=its.dropLast) hH e ?_ r.dropLast ?_,ru,q⟩
 ·show its.toArray.eraseIdxIfInBounds (its.toArray.size-1)=its.dropLast.toArray
  rw[Ql,List.eraseIdxIfInBounds_toArray,zFY]
 ·rw[List.length_dropLast]
  omega
def zSJ:R2:=fun x y H Q=>∃ l k xs,x=.ref l/\y=.int k/\H l=some (.lst xs)/\-(2^63)<=k/\k<2^63/\xs.length*k.toNat<=sizeLine/\
 ∀ p,H p=none->Q (.ref p) (upd H p (.lst (List.replicate k.toNat xs).flatten))
theorem zMI{α:Type}(xs:List α)(k:Nat):(List.replicate k xs).flatten.length=k*xs.length:=by
 induction k with
 | zero=>simp
 | succ k ih=>rw[VA,VN,Qk,ih,Nat.succ_mul,XL]
theorem zOW:OpR X (binaryOp .Mult) zSJ:=by
 intro pins s σ H x y v u Q I rx ry h;obtain⟨l,k,xs,rfl,rfl,hH,h1,h2,hz,q⟩:=h;cases rx;obtain⟨t,rfl⟩:=ry;obtain⟨z,its,n,r,hl,e⟩:=I.lstM hH;have hlen:its.toArray.size*k.toNat<=sizeLine:=by rw[Ql,<-hl];exact hz
 have hcap:¬ its.toArray.size*k.toNat > (2^63-1) / 8:=by
  have:(sizeLine:Nat)<=(2^63-1) / 8:=by decide
  omega
 have hfit:¬ (!Builtin.List.listFitsIndex k)=true:=by
  rw[fitsIndex_both h1 h2];exact Xc
 have hlong:¬ Builtin.List.listTooLong (its.toArray.size*k.toNat)=true:=by
  rw[zEC hlen];exact Xc
 have hnew:List.foldl (fun x1 x2=>x1++x2) #[] (List.replicate (if its.toArray.isEmpty=true then 0 else k.toNat) its.toArray)=(List.replicate k.toNat its).flatten.toArray:=by
  have f0:∀ m:Nat,List.foldl (fun x1 x2=>x1++x2) #[] (List.replicate m its.toArray)=(List.replicate m its).flatten.toArray:=fun m=>by
   have:=zBw its m []
   rw[Vt] at this;exact this
  rw[f0]
  cases its with
  | nil=>simp
  | cons a r'=>rw[if_neg (by simp)]
 refine wpAny_binaryOp_repeat_ref (T := "list") (U := "int") (by decide) ⟨_,e,rfl⟩ (fun s'=>typeIs_int s' k t) noFill_list_mul F.fills_int_mul F.slot_int_rmul repeat_list F.slot_int_index.lookup
  (call_meets F.slot_int_rmul (typeIs_int s k t) F.entry_int_rmul (F.args_int_rmul_2 _ _) (int___rmul___int_list k t l its.toArray n)
   ⟨e,rfl,⟨_,e,rfl⟩,call_meets F.slot_list_mul ⟨_,e,rfl⟩ F.entry_list_mul (F.args_list_mul_2 _ _) (AutoListH.list___mul___list_int_3 l its.toArray n k t hfit hcap hlong) ⟨e,?_⟩⟩)
 rw[hnew];exact⟨.ref _,_,I.lnew (t':=s.toks) (r.rep k.toNat) (by rw[zMI,Nat.mul_comm];exact hz),rfl,q _ I.fresh⟩
end
section
variable{prog:Program}{w:World}{A:Around}{E:Value->Shared->Prop}{s:Shared}
set_option maxRecDepth 100000 in
end
section
variable{X:Cx}
end
end L2
namespace Att
open PySem PySem.W PySem.Calls PyProof.Rows
theorem vC{P:Params}{h:Heap}:∀(ns:List Int)(vs:List Value),WellAll P h vs (ns.map WData.int)->IntsAre vs ns:=by
 intro ns
 induction ns with
 | nil=>
  intro vs w;rw[Vl] at w;cases w;exact .nil
 | cons n ns ih=>
  intro vs w;rw[Qq] at w
  cases w with
  | cons a b=>
   cases a;exact .cons _ _ (ih _ b)
theorem script_of{l:OpenLaw}{n:Nat}(hn:l.most=some n){P:Params}{h:Heap}{args:List WData}{vals:List Value}
  (hpre:l.row.toRowW.claim.pre args=true) (hwl:WellAll P h vals args):
  ∃ a vs ns,vals=[Value.ref a]/\args=[WData.list (ns.map WData.int)]/\h.get? a=some { cls:=.type "list", data:=.seq vs.toArray }/\IntsAre vs ns/\ns.length<=n:=by
 have hsh:WShape.hasAll [] args [.list .int]=true:=(pre_splitW hpre).1;have hc:l.pre.holds [] { args:=args }=true:=(pre_splitW hpre).2;obtain⟨d,r,rfl,h1,h2⟩:=hasAllW_cons hsh;obtain rfl:=hasAllW_nil h2;obtain⟨xs,rfl,h3⟩:=hasW_list h1;obtain⟨ns,rfl⟩:=items_int h3
 have hlen:ns.length<=n:=by
  unfold OpenLaw.pre at hc
  have h4:(WTm.not (.lt (.lit (.int (n:Int))) (.len (.arg 0)))).holds [] { args:=[.list (ns.map .int)] }=true:=by
   have h4:=(holds_andW hc).1;rw[hn] at h4;exact h4
  have h5:=condW_of h4 (w_not (w_lt w_lit (w_len_list (w_arg rfl))));rw[Qe] at h5;refine Nat.le_of_not_lt fun q=>?_
  have q':(n:Int)<((ns.length:Nat):Int):=by omega
  first
   | (rw[decide_eq_true q'] at h5;exact absurd h5 (by decide))
   | (simp at h5;omega)
 cases hwl with
 | cons w1 w2=>
  cases w2
  cases w1 with
  | list ho hall=>exact⟨_,_,ns,rfl,rfl,ho,vC ns _ hall,hlen⟩
theorem post_true(l:OpenLaw)(args:List WData):l.row.toRowW.claim.post args (.bool true) args=true:=
 postW_of (r:=l.row.toRowW) (X:=(true==true))
  (show WShape.has [] (.bool true) .bool=true by first | rfl | decide | simp[WShape.has,WShape.arms,WShape.armsAll])
  (show(WTm.eq .res (.lit (.bool true))).value [] { args:=args,res:=some (.bool true),after:=args }=some (.bool (true==true)) from w_eq_bool (w_res rfl) w_lit) rfl
section
variable{prog:Program}{w:World}{A:Around}{E:Value->Shared->Prop}{s:Shared}{K:Frag}
end
end Att
namespace L2
open PySem PySem.Spec PyProof.Rows
theorem zCG:∀ {vs:List Value} {ns:List Int},IntsAre vs ns->dN (ns.map V.int) vs
 | _,_,.nil=>.nil
 | _,_,.cons n t h=>.cons ⟨t,rfl⟩ (zCG h)
def zTb(H:Hp):Prop:=∀ b,H b=none∨∃ o xs,H b=some (.frz o (.lst xs))
def kM(s:Stmt):Arguments:=match s with
 | .FunctionDef _ a _ _ _ _ _ _ _ _=>a
 | _=>{ posonlyargs:=[],args:=[],vararg:=none,kwonlyargs:=[],kw_defaults:=[],kwarg:=none,defaults:=[] }
def fR(s:Stmt):List Stmt:=match s with
 | .FunctionDef _ _ b _ _ _ _ _ _ _=>b
 | _=>[]
def aG(s:Stmt):Scope:=match s with
 | .FunctionDef _ _ _ _ _ _ sc _ _ _=>sc
 | _=>{ kind:=.function,names:=[],isGenerator:=false,isCoroutine:=false }
structure Fun (K:PySem.W.Frag) (x qual:Str) (st:Stmt) (f:Addr) (fd:FuncData):Prop where
 ex:∃(oc:Value)(od:Option Addr)(kV doc pm:Value)(an:Option Addr)(cdv ct:Value)(osl:Array (Option Value)),
  fd=PySem.W.fnOf x qual (kM st) (fR st) (aG st) .none kV doc pm an cdv ct/\K.lookup f=some ⟨oc,od,.func fd,osl⟩/\PySem.W.codeIn K cdv qual=true
 kp:PySem.W.keepIn K (.ref f)=true
section
variable{P:Program}{w:World}{K:Fg_}{mg:Str->Option Value}{base:Heap}
theorem Fun.binds{x qual:Str}{st:Stmt}{f:Addr}{fd:FuncData}{ps:List Str}(F:Fun K x qual st f fd)
  (h:∀(kV doc pm:Value)(an:Option Addr)(cdv ct:Value)(us:List Value),us.length=ps.length->bindArgs (PySem.W.fnOf x qual (kM st) (fR st) (aG st) .none kV doc pm an cdv ct) ⟨us,[]⟩=pure (ps.zip us)):zCc K fd ps []:=by
 obtain⟨oc,od,kV,doc,pm,an,cdv,ct,osl,rfl,lk,hcd⟩:=F.ex;exact .all (h kV doc pm an cdv ct)
theorem xX{x qual:Str}{st:Stmt}{f:Addr}{oc:Value}{od an:Option Addr}{osl:Array (Option Value)}{kV doc pm cdv ct:Value}(l:K.lookup f=some ⟨oc,od,.func (PySem.W.fnOf x qual (kM st) (fR st) (aG st) .none kV doc pm an cdv ct),osl⟩)
  (c:PySem.W.codeIn K cdv qual=true) (k:PySem.W.keepIn K (.ref f)=true):Fun K x qual st f (PySem.W.fnOf x qual (kM st) (fR st) (aG st) .none kV doc pm an cdv ct):=⟨⟨oc,od,kV,doc,pm,an,cdv,ct,osl,rfl,l,c⟩,k⟩
end
section
variable{X:Cx}
theorem pv(i:Nat){x:Str}{pos:Pos}(hN:X.N[i]?=some x:=by rfl)(hv:Vis X.env.scope x:=by first | exact Or.inl rfl | exact Or.inr (Or.inl rfl) | exact Or.inr (Or.inr rfl))(hd:(x==("__debug__" : Str))=false:=by decide)
  (hcd:(x==("__classdict__" : Str))=false:=by decide):PE X (.Name x pos) (zFb i):=uY hN hv hd hcd
end
def Same(H H':Hp):Prop:=∀ b o,H b=some o->H' b=some o
theorem Same.refl(H:Hp):Same H H:=fun _ _ h=>h
theorem Same.trans{H H1 H2:Hp}(a:Same H H1)(b:Same H1 H2):Same H H2:=fun c o h=>b c o (a c o h)
end L2
set_option maxHeartbeats 4000000
set_option exponentiation.threshold 20000
namespace L2
open PySem PySem.Spec PyProof.Rows
section
variable{X:Cx}
variable{tg:Expr}
end
section
variable{P:Program}{w:World}{H H':Hp}{h:Heap}{a:Addr}{o:HO}
theorem mK.here(x:mK P w H h a o):∃ ob,h.get? a=some ob:=by
 cases o with
 | lst xs=>obtain⟨_,_,_,_,e⟩:=x;exact⟨_,e⟩
 | tup xs=>obtain⟨_,_,_,e⟩:=x;obtain⟨ob,e,_⟩:=e;exact⟨_,e⟩
 | dK kvs=>obtain⟨_,_,_,_,e⟩:=x;obtain⟨ob,_,_,e,_⟩:=e;exact⟨_,e⟩
 | dT kvs=>obtain⟨_,_,_,_,ob,_,_,e,_⟩:=x;exact⟨_,e⟩
 | set S n=>obtain⟨ob,_,_,_,e,_⟩:=x;exact⟨_,e⟩
 | ins C dx fs=>obtain⟨_,_,_,e,_⟩:=x;exact⟨_,e⟩
 | own y=>exact x
 | xd fs=>obtain⟨_,⟨ob,_,_,e,_⟩,_⟩:=x;exact⟨_,e⟩
 | met f y=>exact⟨_,x⟩
 | rng lo hi=>obtain⟨_,_,_,e⟩:=x;exact⟨_,e⟩
 | frz ob u=>exact⟨_,x.1⟩
 | tbl ps=>exact⟨_,x⟩
 | ext φ=>exact x.2.1
theorem HOk.none_of(ok:HOk P w H h)(e:h.get? a=none):H a=none:=by
 cases q:H a with
 | none=>rfl
 | some o=>
  obtain⟨ob,z⟩:=(ok a o q).here;rw[e] at z;cases z
end
structure Fly (P:Program) (w:World) (l:List Env) (H H':Hp) (s:Shared) (ea:Addr) (cls:Value) (s':Shared):Prop where
 os:s'.os=s.os
 bare:AllBare s'.gens
 un:Un (frs l) [] H H' s.heap s'.heap
 hok:HOk P w H' s'.heap
 ne:H' ea=none
 new:s.heap.get? ea=none
 fly:∃ B a0,Heap.FlyingW B l ea cls a0 s'.heap/\(∀ b o,s'.heap.get? b=some o->((∃ o',s.heap.get? b=some o')∨H' b≠none)->b∉frs l->B.get? b=some o)
def CX1(P:Program)(w:World):CXT:=fun outer H s E e s'=>∃ ea cls H',e=.ref ea/\Fly P w outer H H' s ea cls s'/\E cls none H'
structure Own (X:Cx):Prop where
 stk:X.stack=X.env::X.outer
 fr:X.env.frame=some X.env.locals
 ex:X.ex=[]
section
variable{X:Cx}{pins:List (Addr×Obj)}{σ:St}{H H':Hp}{s s':Shared}{ea:Addr}{cls:Value}
theorem zEy(O:Own X):frs X.stack=X.env.locals::X.fs:=by
 rw[O.stk];show List.filterMap _ (_::_)=_
 rw[Xk,O.fr];rfl
theorem Inv.there0(I:Inv X pins σ H s)(O:Own X){b:Addr}{o:Obj}(e:X.s₀.heap.get? b=some o):∃ o',s.heap.get? b=some o':=I.base.there b o e (by rw[O.ex];simp)
theorem Inv.ne0(I:Inv X pins σ H s){b:Addr}{o:Obj}(e:X.s₀.heap.get? b=some o):b≠X.env.locals:=Qs (Qr (Heap.lt_size e) I.ok.above)
theorem Fly.leave(I:Inv X pins σ H s)(O:Own X)(F:Fly X.prog X.w X.stack H H' s ea cls s'){h':Heap}{B:Heap}{a0:Value}
  (hf:Heap.FlyingW B X.stack ea cls a0 s'.heap) (cov:∀ b o,s'.heap.get? b=some o->((∃ o',s.heap.get? b=some o')∨H' b≠none)->b∉frs X.stack->B.get? b=some o)
  (hf':Heap.FlyingW B X.outer ea cls a0 h') (up:s'.heap.UpToSlots h'):Fly X.prog X.w X.outer X.H₀ H' X.s₀ ea cls { s' with heap:=h' }:=by
 have fst:frs X.stack=X.env.locals::X.fs:=zEy O;have nin:∀ {b:Addr},b≠X.env.locals->b∉X.fs->b∉frs X.stack:=fun h1 h2=>by rw[fst];simp[h1,h2]
 have trk:∀ {b:Addr},H' b≠none->b∉frs X.stack:=fun {b} hb hm=>by
  have h1:=I.stkFree b hm;obtain⟨_,o,ho,_⟩:=I.stack.mem hm;exact hb (F.un.free b o ho h1 (by simp))
 have keepB:∀ {b:Addr} {o:Obj},s'.heap.get? b=some o->((∃ o',s.heap.get? b=some o')∨H' b≠none)->b∉frs X.stack->h'.get? b=some o:=fun e1 e2 e3=>hf'.1 _ _ (cov _ _ e1 e2 e3)
 have slotOf:∀ {b:Addr} {o:Obj},b∈frs X.stack->s'.heap.get? b=some o->∃ sl,h'.get? b=some { o with slots:=sl }:=fun {b o} hm e=>by
  obtain⟨_,o',ho',hn⟩:=hf.2.2.1.mem hm;rw[e] at ho';cases ho'
  exact up b o e hn
 refine⟨F.os.trans I.os,F.bare,⟨?_,?_,?_,?_,?_,?_,?_⟩,?_,F.ne,?_,⟨B,a0,hf',?_⟩⟩
 ·intro b o e n hb hx
  have e1:=I.base.keep b o e n hb (by rw[O.ex];simp)
  have n1:=I.base.free b o e n (by rw[O.ex];simp)
  have hs:b∉frs X.stack:=nin (I.ne0 e) hb;exact keepB (F.un.keep b o e1 n1 hs (by simp)) (.inl ⟨o,e1⟩) hs
 ·intro b o e n hb hx
  obtain⟨sl,e1⟩:=I.base.slot b o e n hb (by rw[O.ex];simp)
  have n1:=I.base.free b o e n (by rw[O.ex];simp)
  have hs:b∈frs X.stack:=by rw[fst];exact Qd _ hb
  obtain⟨sl2,e2⟩:=F.un.slot b _ e1 n1 hs (by simp)
  obtain⟨sl3,e3⟩:=slotOf hs e2;exact⟨sl3,e3⟩
 ·intro b o e n hx
  obtain⟨o1,e1⟩:=I.there0 O e;exact F.un.free b o1 e1 (I.base.free b o e n (by rw[O.ex];simp)) (by simp)
 ·intro b o e hx
  obtain⟨o1,e1⟩:=I.there0 O e;obtain⟨o2,e2⟩:=F.un.there b o1 e1 (by simp)
  by_cases hs:b∈frs X.stack
  ·obtain⟨sl,e3⟩:=slotOf hs e2
   exact⟨_,e3⟩
  ·exact⟨o2,keepB e2 (.inl ⟨o1,e1⟩) hs⟩
 ·exact fun b xs e=>F.un.tups b xs (I.base.tups b xs e)
 ·exact fun b o u e=>F.un.frzs b o u (I.base.frzs b o u e)
 ·intro b ps e
  obtain⟨m1,e1⟩:=I.base.tbls b ps e;obtain⟨m2,e2⟩:=F.un.tbls b _ e1;exact⟨m1++m2,by rw[e2,Array.append_assoc]⟩
 ·intro a o e
  refine(F.hok a o e).stay (fun b u hb z=>?_) (fun b z=>z) (fun b xs z=>z)
  have hb':H' b≠none:=by
   rcases hb with rfl | hb
   ·rw[e];simp
   ·rw[hb];simp
  exact keepB z (.inr hb') (trk hb')
 ·show X.s₀.heap.get? ea=none
  cases q:X.s₀.heap.get? ea with
  | none=>rfl
  | some o=>
   obtain⟨o1,e1⟩:=I.there0 O q;rw[F.new] at e1;cases e1
 ·intro b o e c hb
  have c':(∃ o',s.heap.get? b=some o')∨H' b≠none:=by
   rcases c with⟨o',c⟩ | c
   ·exact .inl (I.there0 O c)
   ·exact .inr c
  have hs:b∉frs X.stack:=by
   rcases c with⟨o',c⟩ | c
   ·exact nin (I.ne0 c) hb
   ·exact trk c
  have ex:∃ o2,s'.heap.get? b=some o2:=by
   rcases c' with⟨o',c1⟩ | c1
   ·exact F.un.there b o' c1 (by simp)
   ·cases q:H' b with
    | none=>exact absurd q c1
    | some u=>exact(F.hok b u q).here
  obtain⟨o2,e2⟩:=ex;have z:=keepB e2 c' hs;have z':h'.get? b=some o:=e;rw[z] at z';cases z'
  exact cov b o e2 c' hs
end
section
variable{X:Cx}{pins:List (Addr×Obj)}{σ:St}{H H':Hp}{s s':Shared}{ea:Addr}{cls:Value}
theorem zOV(l:List Env):∀ env∈l,∀ b,env.frame=some b->b∈frs l:=fun env he b hb=>XB.mpr ⟨env,he,hb⟩
theorem Fly.made(I:Inv X pins σ H s)(O:Own X){vs:List Value}(hx:Heap.MadeExcOf s.heap s'.heap ea cls vs)(hos:s'.os=s.os)(hg:AllBare s'.gens){h':Heap}{t:Addr}
  (hf':Heap.FlyingW (PySem.W.hideAll s.heap (frs X.stack)) X.outer ea cls (.ref t) h') (up:s'.heap.UpToSlots h'):Fly X.prog X.w X.outer X.H₀ H X.s₀ ea cls { s' with heap:=h' }:=by
 have fst:frs X.stack=X.env.locals::X.fs:=zEy O;have nin:∀ {b:Addr},b≠X.env.locals->b∉X.fs->b∉frs X.stack:=fun h1 h2=>by rw[fst];simp[h1,h2]
 have trk:∀ {b:Addr},H b≠none->b∉frs X.stack:=fun {b} hb hm=>hb (I.stkFree b hm)
 have keepB:∀ {b:Addr} {o:Obj},s.heap.get? b=some o->b∉frs X.stack->h'.get? b=some o:=fun e1 e3=>hf'.1 _ _ (XA _ e1 e3)
 have slotOf:∀ {b:Addr} {o:Obj},b∈frs X.stack->s.heap.get? b=some o->∃ sl,h'.get? b=some { o with slots:=sl }:=fun {b o} hm e=>by
  obtain⟨_,o',ho',hn⟩:=I.stack.mem hm;rw[e] at ho';cases ho'
  exact up b o (hx.keeps b o e) hn
 refine⟨hos.trans I.os,hg,⟨?_,?_,?_,?_,?_,?_,?_⟩,?_,?_,?_,⟨_,_,hf',?_⟩⟩
 ·intro b o e n hb hx'
  exact keepB (I.base.keep b o e n hb (by rw[O.ex];simp)) (nin (I.ne0 e) hb)
 ·intro b o e n hb hx'
  obtain⟨sl,e1⟩:=I.base.slot b o e n hb (by rw[O.ex];simp)
  have hs:b∈frs X.stack:=by rw[fst];exact Qd _ hb
  obtain⟨sl3,e3⟩:=slotOf hs e1;exact⟨sl3,e3⟩
 ·exact fun b o e n hx'=>I.base.free b o e n (by rw[O.ex];simp)
 ·intro b o e hx'
  obtain⟨o1,e1⟩:=I.there0 O e;by_cases hs:b∈frs X.stack
  ·obtain⟨sl,e3⟩:=slotOf hs e1
   exact⟨_,e3⟩
  ·exact⟨o1,keepB e1 hs⟩
 ·exact fun b xs e=>I.base.tups b xs e
 ·exact fun b o u e=>I.base.frzs b o u e
 ·exact fun b ps e=>I.base.tbls b ps e
 ·intro a o e
  refine(I.hok a o e).stay (fun b u hb z=>?_) (fun b z=>z) (fun b xs z=>z)
  have hb':H b≠none:=by
   rcases hb with rfl | hb
   ·rw[e];simp
   ·rw[hb];simp
  exact keepB z (trk hb')
 ·exact I.hok.none_of hx.new
 ·show X.s₀.heap.get? ea=none
  cases q:X.s₀.heap.get? ea with
  | none=>rfl
  | some o=>
   obtain⟨o1,e1⟩:=I.there0 O q;rw[hx.new] at e1;cases e1
 ·intro b o e c hb
  have hs:b∉frs X.stack:=by
   rcases c with⟨o',c⟩ | c
   ·exact nin (I.ne0 c) hb
   ·exact trk c
  have ex:∃ o2,s.heap.get? b=some o2:=by
   rcases c with⟨o',c1⟩ | c1
   ·exact I.there0 O c1
   ·cases q:H b with
    | none=>exact absurd q c1
    | some u=>exact(I.hok b u q).here
  obtain⟨o2,e2⟩:=ex;have z:=keepB e2 hs;have z':h'.get? b=some o:=e;rw[z] at z';cases z'
  exact XA _ e2 hs
end
section
variable{CX:CXT}{P:Program}{w:World}{K:Fg_}{mg:Str->Option Value}{base:Heap}{N:List Str}{qual:Str}{scope:Scope}{f:Addr}{cd:Value}{A:Around}{outer:List Env}{s₀:Shared}{H₀:Hp}{E:XK}
theorem zLI:Own (zGd CX P w K mg base N qual scope f cd A outer s₀ H₀ E):=⟨rfl,rfl,rfl⟩
theorem zRU{E':XK}(h:∀ c H',E' c none H'->E c none H'):zEE (CX1 P w) (zGd (CX1 P w) P w K mg base N qual scope f cd A outer s₀ H₀ E) E':=by
 intro pins σ H s e s' I hc;obtain⟨ea,cls,H',rfl,F,q⟩:=hc;obtain⟨B,a0,hf,cov⟩:=F.fly;have O:Own (zGd (CX1 P w) P w K mg base N qual scope f cd A outer s₀ H₀ E):=zLI;exact wpAny_leaves_onW (I.ok.frames.trans (congrArg some O.stk)) O.fr hf fun h' hf' up=>⟨ea,cls,H',rfl,F.leave I O hf cov hf' up,h _ _ q⟩
theorem zDt{pins:List (Addr×Obj)}{σ:St}{H:Hp}{s s':Shared}{ea:Addr}{cls:Value}{vs:List Value}(I:Inv (zGd (CX1 P w) P w K mg base N qual scope f cd A outer s₀ H₀ E) pins σ H s)
  (hx:Heap.MadeExcOf s.heap s'.heap ea cls vs) (hos:s'.os=s.os) (hg:AllBare s'.gens) (q:E cls none H):(zGd (CX1 P w) P w K mg base N qual scope f cd A outer s₀ H₀ E).xe (.ref ea) s':=by
 have O:Own (zGd (CX1 P w) P w K mg base N qual scope f cd A outer s₀ H₀ E):=zLI;have hst:=O.stk
 exact wpAny_leaves_madeW (base:=PySem.W.hideAll s.heap (frs (zGd (CX1 P w) P w K mg base N qual scope f cd A outer s₀ H₀ E).stack)) (h:=s.heap) (I.ok.frames.trans (congrArg some O.stk)) O.fr (fun b o z=>PySem.W.of_hideAll _ z)
  (PySem.W.funFrames_hide (I.stack) (zOV _)) hx fun h' t hf' _ _ up=>⟨ea,cls,H,rfl,Fly.made I O hx hos hg hf' up,q⟩
end
structure Err (K:PySem.W.Frag) (mg:Str->Option Value) (x:Str) (C:Addr):Prop where
 own:∀ h:Heap,K.In h->∃ bm newId B initId,OwnCls x C bm newId mg h/\ExcBaseFacts B newId initId bm
end L2
namespace L3
open PySem
inductive D where
 | non | bl (b:Bool) | int (i:Int) | str (x:Str) | tup (ds:List D) | lst (ds:List D)
inductive Res (α:Type) where
 | ok (a:α) | err (c:Str) | no
def Res.bind{α β:Type}(x:Res α)(f:α->Res β):Res β:=match x with
 | .ok a=>f a
 | .err c=>.err c
 | .no=>.no
inductive Sl where
 | un | val (d:D) | own (ds:List D) | exc (c:Str) | tab (T:List (Str×Str))
abbrev Rho:=List Sl
inductive Rt where
 | v (d:D) | f (ds:List D)
def Rt.d:Rt->D
 | .v d=>d
 | .f ds=>.lst ds
inductive Fl where
 | nx (ρ:Rho) | ret (r:Rt) | brk (ρ:Rho) | ctn (ρ:Rho)
abbrev Ev:=Rho->Res D
abbrev Fv:=Rho->Res (List D)
abbrev Tv:=Rho->Res Bool
abbrev Sv:=Rho->Res Fl
abbrev Mir:=List D->Res Rt
mutual
def eqD:D->D->Bool
 | .non,.non=>true
 | .bl a,.bl b=>a==b
 | .bl a,.int b=>(if a then 1 else 0)==b
 | .int a,.bl b=>a==(if b then 1 else 0)
 | .int a,.int b=>a==b
 | .str a,.str b=>a==b
 | .tup ds,.tup es=>zGC ds es
 | .lst ds,.lst es=>zGC ds es
 | _,_=>false
def zGC:List D->List D->Bool
 | [],[]=>true
 | d::ds,e::es=>eqD d e && zGC ds es
 | _,_=>false
end
mutual
def dep:D->Nat
 | .tup ds=>depS ds+1
 | .lst ds=>depS ds+1
 | _=>0
def depS:List D->Nat
 | []=>0
 | d::ds=>max (dep d) (depS ds)
end
mutual
def noL:D->Bool
 | .tup ds=>noLs ds
 | .lst _=>false
 | _=>true
def noLs:List D->Bool
 | []=>true
 | d::ds=>noL d && noLs ds
end
theorem wD:∀ {ds:List D} {d:D},d∈ds->dep d<=depS ds
 | e::ds,d,h=>by
  rw[depS];rcases Qc.mp h with rfl | h
  ·exact Nat.le_max_left ..
  ·exact QE (wD h) (Nat.le_max_right ..)
theorem zLv:∀ {ds:List D},noLs ds=true ↔ ∀ d∈ds,noL d=true
 | []=>by simp[noLs]
 | d::ds=>by rw[noLs,Ve,zLv];simp
theorem oD:∀(ds es:List D),zGC ds es=((List.range (min ds.length es.length)).all (fun j=>eqD (ds.getD j .non) (es.getD j .non)) && ds.length==es.length)
 | [],[]=>rfl
 | [],e::es=>by simp[zGC]
 | d::ds,[]=>by simp[zGC]
 | d::ds,e::es=>by
  rw[zGC,oD ds es];have h:min (d::ds).length (e::es).length=min ds.length es.length+1:=by simp only[Qm];omega
  rw[h,List.range_succ_eq_map];simp[List.all_map,Function.comp_def,Bool.and_assoc]
mutual
theorem tU:∀ d:D,eqD d d=true
 | .non=>rfl
 | .bl b=>by simp[eqD]
 | .int i=>by simp[eqD]
 | .str x=>by simp[eqD]
 | .tup ds=>by rw[eqD];exact uP ds
 | .lst ds=>by rw[eqD];exact uP ds
theorem uP:∀ ds:List D,zGC ds ds=true
 | []=>rfl
 | d::ds=>by rw[zGC,tU d,uP ds];rfl
end
def nb(i:Int):Nat:=i.natAbs.log2+1
theorem zMK(i:Int):i.natAbs<2^nb i:=Nat.lt_log2_self
theorem zRv{i:Int}{m:Nat}(h:i.natAbs<2^m)(hm:0<m):nb i<=m:=by
 unfold nb;by_cases h0:i.natAbs=0
 ·rw[h0];exact hm
 ·exact(Nat.log2_lt h0).mpr h
def kK(i j:Int):Bool:=(decide (-(2^64)<i) && decide (i<2^64)) || (decide (-(2^64)<j) && decide (j<2^64)) || decide (nb i+nb j<=134217728)
def mJ(j:Int):Bool:=decide (j≠0) && decide (nb j<=9000)
def rD(i j:Int):Bool:=decide (0<=j) && decide ((nb i:Int)*j<=2^27)
abbrev Op2:=D->D->Res D
def rB:Op2
 | .int i,.int j=>.ok (.int (i+j))
 | .tup a,.tup b=>if a.length+b.length<=16777216 then .ok (.tup (a++b)) else .no
 | _,_=>.no
def zAj:Op2
 | .int i,.int j=>.ok (.int (i+j))
 | _,_=>.no
def zEa:Op2
 | .int i,.int j=>.ok (.int (i-j))
 | _,_=>.no
def qV:Op2
 | .int i,.int j=>if kK i j=true then .ok (.int (i*j)) else .no
 | _,_=>.no
def wB:Op2
 | .int i,.int j=>if mJ j=true then .ok (.int (i.fdiv j)) else .no
 | _,_=>.no
def qD:Op2
 | .int i,.int j=>if j≠0 then .ok (.int (i.fmod j)) else .no
 | _,_=>.no
def zGG:Op2
 | .int i,.int j=>if rD i j=true then .ok (.int (i^j.toNat)) else .no
 | _,_=>.no
def oEq(x y:D):Res D:=if dep x<=50 then .ok (.bl (eqD x y)) else .no
def oNe(x y:D):Res D:=if dep x<=50 then .ok (.bl (!eqD x y)) else .no
def oLt:Op2
 | .int i,.int j=>.ok (.bl (decide (i<j)))
 | _,_=>.no
def oLe:Op2
 | .int i,.int j=>.ok (.bl (decide (i<=j)))
 | _,_=>.no
def oGt:Op2
 | .int i,.int j=>.ok (.bl (decide (j<i)))
 | _,_=>.no
def oGe:Op2
 | .int i,.int j=>.ok (.bl (decide (j<=i)))
 | _,_=>.no
def atD(ds:List D)(i:Int):Option D:=if 0<=i then ds[i.toNat]? else if 0<=(ds.length:Int)+i then ds[((ds.length:Int)+i).toNat]? else none
def ofO{α:Type}:Option α->Res α
 | some a=>.ok a
 | none=>.no
def oIx:Op2
 | .tup ds,.int i=>ofO (atD ds i)
 | .lst ds,.int i=>ofO (atD ds i)
 | _,_=>.no
def oIn:Op2
 | d,.lst ds=>if depS ds<=50 then .ok (.bl (ds.any fun e=>eqD e d)) else .no
 | d,.tup ds=>if depS ds<=50 then .ok (.bl (ds.any fun e=>eqD e d)) else .no
 | _,_=>.no
def zJR:D->Res D
 | .int i=>.ok (.int (-i))
 | _=>.no
def zSZ:D->Res D
 | .bl b=>.ok (.bl (!b))
 | _=>.no
def aH(i:Nat)(ρ:Rho):Res D:=match ρ[i]? with
 | some (.val d)=>.ok d
 | _=>.no
def eC(d:D)(_ρ:Rho):Res D:=.ok d
def eOp(o:Op2)(a b:Ev)(ρ:Rho):Res D:=(a ρ).bind fun x=>(b ρ).bind fun y=>o x y
def eUn(o:D->Res D)(a:Ev)(ρ:Rho):Res D:=(a ρ).bind o
def zSp(a b:Ev)(ρ:Rho):Res D:=(a ρ).bind fun x=>match x with
 | .bl c=>if c=true then b ρ else .ok (.bl false)
 | _=>.no
def eOr(a b:Ev)(ρ:Rho):Res D:=(a ρ).bind fun x=>match x with
 | .bl c=>if c=true then .ok (.bl true) else b ρ
 | _=>.no
def eIf(t:Tv)(a b:Ev)(ρ:Rho):Res D:=(t ρ).bind fun c=>if c=true then a ρ else b ρ
def aNil(_ρ:Rho):Res (List D):=.ok []
def aD(e:Ev)(r:Fv)(ρ:Rho):Res (List D):=(e ρ).bind fun d=>(r ρ).bind fun ds=>.ok (d::ds)
def zDM(a:Fv)(ρ:Rho):Res D:=(a ρ).bind fun ds=>if ds.length<=16777216 then .ok (.tup ds) else .no
def aO(m:Mir)(a:Fv)(ρ:Rho):Res D:=(a ρ).bind fun ds=>(m ds).bind fun r=>.ok r.d
def mC:List D->Res D
 | [.lst ds]=>.ok (.int ds.length)
 | [.tup ds]=>.ok (.int ds.length)
 | _=>.no
def zNh:List D->Res D
 | [.int i]=>.ok (.int (if i<0 then -i else i))
 | _=>.no
def zTn:List D->Res D
 | [.int i,.int j]=>.ok (.int (if j > i then j else i))
 | _=>.no
def zOK:List D->Res D
 | [.int i,.int j]=>.ok (.int (if j<i then j else i))
 | _=>.no
def zKK:List D->Res D
 | [.lst ds]=>.ok (.tup ds)
 | [.tup ds]=>.ok (.tup ds)
 | _=>.no
def eB(b:List D->Res D)(a:Fv)(ρ:Rho):Res D:=(a ρ).bind b
def tyN:D->String
 | .non => "NoneType" | .bl _ => "bool" | .int _ => "int" | .str _ => "str" | .tup _ => "tuple" | .lst _ => "list"
def isT(T:String)(d:D):Bool:=tyN d==T || (T == "int" && tyN d == "bool")
def zTe(T:String)(a:Ev)(ρ:Rho):Res D:=(a ρ).bind fun d=>.ok (.bl (isT T d))
def isNon:D->Bool
 | .non=>true
 | _=>false
def zRd(a:Ev)(ρ:Rho):Res D:=(a ρ).bind fun d=>.ok (.bl (isNon d))
def zKs(a:Ev)(ρ:Rho):Res D:=(a ρ).bind fun d=>.ok (.bl (!isNon d))
def Sl.frz:Sl->Sl
 | .own ds=>.val (.lst ds)
 | s=>s
def zNv(e:Ev)(ρ:Rho):Res D:=(e (ρ.map Sl.frz)).bind fun d=>if noL d=true then .ok d else .no
def qU(a:Fv)(ρ:Rho):Res (List D):=(a ρ).bind fun ds=>if ds.length<=16777216 then .ok ds else .no
def cD(m:Mir)(a:Fv)(ρ:Rho):Res (List D):=(a ρ).bind fun ds=>(m ds).bind fun r=>match r with
 | .f ds=>.ok ds
 | .v _=>.no
def zNQ(a:Fv)(ρ:Rho):Res (List D):=(a ρ).bind fun ds=>match ds with
 | [.lst ds]=>.ok ds
 | [.tup ds]=>.ok ds
 | _=>.no
def zPa(a b:Ev)(ρ:Rho):Res (List D):=(a ρ).bind fun x=>(b ρ).bind fun y=>match x,y with
 | .lst ds,.lst es=>if ds.length+es.length<=16777216 then .ok (ds++es) else .no
 | _,_=>.no
def eF(f:Fv)(ρ:Rho):Res D:=(f ρ).bind fun ds=>.ok (.lst ds)
def zRe(f:Fv)(ρ:Rho):Res (List D):=(f (ρ.map Sl.frz)).bind fun ds=>if noLs ds=true then .ok ds else .no
def cut(n:Nat)(i:Option Int)(d:Nat):Nat:=match i with
 | none=>d
 | some i=>if 0<=i then min i.toNat n else ((n:Int)+i).toNat
def fV(ds:List D)(lo hi:Option Int):List D:=(ds.drop (cut ds.length lo 0)).take (cut ds.length hi ds.length-cut ds.length lo 0)
abbrev Ov:=Rho->Res (Option Int)
def oN(_ρ:Rho):Res (Option Int):=.ok none
def oS(e:Ev)(ρ:Rho):Res (Option Int):=(e ρ).bind fun d=>match d with
 | .int i=>.ok (some i)
 | _=>.no
def fSl(a:Ev)(lo hi:Ov)(ρ:Rho):Res (List D):=(a ρ).bind fun x=>(lo ρ).bind fun l=>(hi ρ).bind fun h=>match x with
 | .lst ds=>.ok (fV ds l h)
 | _=>.no
def zTo(a:Ev)(lo hi:Ov)(ρ:Rho):Res D:=(a ρ).bind fun x=>(lo ρ).bind fun l=>(hi ρ).bind fun h=>match x with
 | .tup ds=>if (fV ds l h).length<ds.length then .ok (.tup (fV ds l h)) else .no
 | _=>.no
def dX(e:Ev)(ρ:Rho):Res Bool:=(e ρ).bind fun d=>match d with
 | .bl b=>.ok b
 | _=>.no
def tFrzB(t:Tv)(ρ:Rho):Res Bool:=t (ρ.map Sl.frz)
def zGe(t:Tv)(ρ:Rho):Res Bool:=(t ρ).bind fun b=>.ok (!b)
def zDo(t u:Tv)(ρ:Rho):Res Bool:=(t ρ).bind fun b=>if b=true then u ρ else .ok false
def zJP(t u:Tv)(ρ:Rho):Res Bool:=(t ρ).bind fun b=>if b=true then .ok true else u ρ
def sNext(ρ:Rho):Res Fl:=.ok (.nx ρ)
def bA(a b:Sv)(ρ:Rho):Res Fl:=(a ρ).bind fun f=>match f with
 | .nx ρ'=>b ρ'
 | f=>.ok f
def sIf(t:Tv)(a b:Sv)(ρ:Rho):Res Fl:=(t ρ).bind fun c=>if c=true then a ρ else b ρ
def cT(i:Nat)(e:Ev)(ρ:Rho):Res Fl:=(e ρ).bind fun d=>.ok (.nx (ρ.set i (.val d)))
def zCM(i:Nat)(f:Fv)(ρ:Rho):Res Fl:=(f ρ).bind fun ds=>.ok (.nx (ρ.set i (.own ds)))
def qP(e:Ev)(ρ:Rho):Res Fl:=(e ρ).bind fun _=>.ok (.nx ρ)
def iJ(e:Ev)(ρ:Rho):Res Fl:=(e (ρ.map Sl.frz)).bind fun d=>.ok (.ret (.v d))
def iD(f:Fv)(ρ:Rho):Res Fl:=(f (ρ.map Sl.frz)).bind fun ds=>.ok (.ret (.f ds))
def fG(i:Nat)(ρ:Rho):Res Fl:=match ρ[i]? with
 | some (.own ds)=>.ok (.ret (.f ds))
 | _=>.no
def sRetN(_ρ:Rho):Res Fl:=.ok (.ret (.v .non))
def gZ(c:Str)(a:Fv)(ρ:Rho):Res Fl:=(a ρ).bind fun ds=>if ds.length<=16777216 then .err c else .no
def sNo(_ρ:Rho):Res Fl:=.no
def zGr(i:Nat)(e:Ev)(ρ:Rho):Res Fl:=match ρ[i]? with
 | some (.own ds)=>(e ρ).bind fun d=>if ds.length<16777216 then .ok (.nx (ρ.set i (.own (ds++[d])))) else .no
 | _=>.no
def zMs(i:Nat)(e:Fv)(ρ:Rho):Res Fl:=match ρ[i]? with
 | some (.own ds)=>(e ρ).bind fun es=>if ds.length+es.length<=16777216 then .ok (.nx (ρ.set i (.own (ds++es)))) else .no
 | _=>.no
def zOU(i:Nat)(k e:Ev)(ρ:Rho):Res Fl:=(e ρ).bind fun d=>match ρ[i]? with
 | some (.own ds)=>(k ρ).bind fun j=>match j with
  | .int j=>if 0<=j/\j<ds.length then .ok (.nx (ρ.set i (.own (ds.set j.toNat d)))) else if -(ds.length:Int)<=j/\j<0 then .ok (.nx (ρ.set i (.own (ds.set (j+ds.length).toNat d)))) else .no
  | _=>.no
 | _=>.no
def zPB(i:Nat)(ρ:Rho):Res Fl:=match ρ[i]? with
 | some (.own ds)=>if ds.length=0 then .no else .ok (.nx (ρ.set i (.own ds.dropLast)))
 | _=>.no
def zJU(i:Nat)(o:Op2)(e:Ev)(ρ:Rho):Res Fl:=match ρ[i]? with
 | some (.val x)=>(e ρ).bind fun y=>(o x y).bind fun d=>.ok (.nx (ρ.set i (.val d)))
 | _=>.no
def sFrz(s:Sv)(ρ:Rho):Res Fl:=s (ρ.map Sl.frz)
def frzAt(i:Nat)(ρ:Rho):Rho:=match ρ[i]? with
 | some (.own ds)=>ρ.set i (.val (.lst ds))
 | _=>ρ
def sFrzAt(i:Nat)(s:Sv)(ρ:Rho):Res Fl:=s (frzAt i ρ)
def noErr{α:Type}:Res α->Res α
 | .err _=>.no
 | r=>r
abbrev Gv:=D->Rho->Res Rho
def gName(i:Nat)(d:D)(ρ:Rho):Res Rho:=.ok (ρ.set i (.val d))
def zGH(gs:List D->Rho->Res Rho)(d:D)(ρ:Rho):Res Rho:=match d with
 | .tup ds=>gs ds ρ
 | _=>.no
def zGF(ds:List D)(ρ:Rho):Res Rho:=match ds with
 | []=>.ok ρ
 | _=>.no
def mM(g:Gv)(r:List D->Rho->Res Rho)(ds:List D)(ρ:Rho):Res Rho:=match ds with
 | d::ds=>(g d ρ).bind fun ρ'=>r ds ρ'
 | []=>.no
def zSN(g:Gv)(f:Ev)(ρ:Rho):Res Fl:=(f ρ).bind fun d=>(g d ρ).bind fun ρ'=>.ok (.nx ρ')
def loop(g:Gv)(b:Sv):List D->Rho->Res Fl
 | [],ρ=>.ok (.nx ρ)
 | d::ds,ρ=>(g d ρ).bind fun ρ1=>(b ρ1).bind fun f=>match f with
  | .nx ρ2=>loop g b ds ρ2
  | .ctn ρ2=>loop g b ds ρ2
  | .brk ρ2=>.ok (.nx ρ2)
  | .ret r=>.ok (.ret r)
def yE(it:Fv)(g:Gv)(b:Sv)(ρ:Rho):Res Fl:=(it ρ).bind fun ds=>loop g b ds ρ
def sZ(e:Ev)(ρ:Rho):Res (List D):=(e ρ).bind fun d=>match d with
 | .lst ds=>.ok ds
 | .tup ds=>.ok ds
 | _=>.no
def rng(lo:Int)(n:Nat)(c:Int):List D:=(List.range n).map fun(i:Nat)=>D.int (lo+(i:Int)*c)
def xE(a:Fv)(ρ:Rho):Res (List D):=(a ρ).bind fun ds=>match ds with
 | [.int j]=>if -(2^62)<=j/\j<2^62 then .ok (rng 0 j.toNat 1) else .no
 | _=>.no
def zFZ(a:Fv)(ρ:Rho):Res (List D):=(a ρ).bind fun ds=>match ds with
 | [.int i,.int j]=>if -(2^62)<=i/\i<2^62/\-(2^62)<=j/\j<2^62 then .ok (rng i (j-i).toNat 1) else .no
 | _=>.no
def wh(t:Tv)(b:Sv):Nat->Rho->Res Fl
 | 0,_=>.no
 | n+1,ρ=>(t ρ).bind fun c=>if c=true then (b ρ).bind fun f=>match f with
   | .nx ρ2=>wh t b n ρ2
   | .ctn ρ2=>wh t b n ρ2
   | .brk ρ2=>.ok (.nx ρ2)
   | .ret r=>.ok (.ret r)
  else .ok (.nx ρ)
open Classical in
def eU(t:Tv)(b:Sv)(ρ:Rho):Res Fl:=if h:∃ n,wh t b n ρ≠.no then wh t b h.choose ρ else .no
theorem zAD{t:Tv}{b:Sv}:∀ {n:Nat} {ρ:Rho} {k:Nat},wh t b n ρ≠.no->n<=k->wh t b k ρ=wh t b n ρ
 | 0,ρ,k,h,_=>absurd rfl h
 | n+1,ρ,0,h,l=>absurd l (by omega)
 | n+1,ρ,k+1,h,l=>by
  rw[wh,wh];rw[wh] at h
  cases ht:t ρ with
  | no=>rfl
  | err c=>rfl
  | ok c=>
   rw[ht] at h;simp only[Res.bind] at h ⊢
   cases c with
   | false=>rfl
   | true=>
    simp only[if_true] at h ⊢
    cases hb:b ρ with
    | no=>rfl
    | err c=>rfl
    | ok f=>
     rw[hb] at h
     cases f with
     | nx ρ2=>exact zAD h (by omega)
     | ctn ρ2=>exact zAD h (by omega)
     | brk ρ2=>rfl
     | ret r=>rfl
theorem gW{t:Tv}{b:Sv}{n:Nat}{ρ:Rho}(h:wh t b n ρ≠.no):eU t b ρ=wh t b n ρ:=by
 have hx:∃ n,wh t b n ρ≠.no:=⟨n,h⟩;unfold eU;rw[dif_pos hx];rcases Xd n hx.choose with l | l
 ·exact zAD h l
 ·exact(zAD hx.choose_spec l).symm
theorem oZ{t:Tv}{b:Sv}{ρ:Rho}(h:eU t b ρ≠.no):∃ n,eU t b ρ=wh t b n ρ:=by
 unfold eU at h ⊢
 split
 ·exact⟨_,rfl⟩
 ·rename_i hx;rw[dif_neg hx] at h;exact absurd rfl h
theorem zBO{t:Tv}{b:Sv}{ρ:Rho}:eU t b ρ=((t ρ).bind fun c=>if c=true then (b ρ).bind fun f=>match f with
   | .nx ρ2=>eU t b ρ2
   | .ctn ρ2=>eU t b ρ2
   | .brk ρ2=>.ok (.nx ρ2)
   | .ret r=>.ok (.ret r)
  else .ok (.nx ρ)):=by
 have key:∀ n,wh t b (n+1) ρ≠.no->wh t b (n+1) ρ=((t ρ).bind fun c=>if c=true then (b ρ).bind fun f=>match f with
   | .nx ρ2=>eU t b ρ2
   | .ctn ρ2=>eU t b ρ2
   | .brk ρ2=>.ok (.nx ρ2)
   | .ret r=>.ok (.ret r)
  else .ok (.nx ρ)):=by
  intro n h;rw[wh] at h ⊢
  cases ht:t ρ with
  | no=>rfl
  | err c=>rfl
  | ok c=>
   rw[ht] at h;simp only[Res.bind] at h ⊢
   cases c with
   | false=>rfl
   | true=>
    simp only[if_true] at h ⊢
    cases hb:b ρ with
    | no=>rfl
    | err c=>rfl
    | ok f=>
     rw[hb] at h
     cases f with
     | nx ρ2=>exact(gW h).symm
     | ctn ρ2=>exact(gW h).symm
     | brk ρ2=>rfl
     | ret r=>rfl
 by_cases h:eU t b ρ=.no
 ·rw[h]
  cases ht:t ρ with
  | no=>rfl
  | err c=>
   exfalso
   have q:wh t b 1 ρ=.err c:=by rw[wh,ht];rfl
   have:=gW (t:=t) (b:=b) (ρ:=ρ) (n:=1) (by rw[q];exact fun z=>by cases z)
   rw[h,q] at this;cases this
  | ok c=>
   simp only[Res.bind]
   cases c with
   | false=>
    exfalso
    have q:wh t b 1 ρ=.ok (.nx ρ):=by rw[wh,ht];rfl
    have:=gW (t:=t) (b:=b) (ρ:=ρ) (n:=1) (by rw[q];exact fun z=>by cases z)
    rw[h,q] at this;cases this
   | true=>
    simp only[if_true]
    cases hb:b ρ with
    | no=>rfl
    | err c=>
     exfalso
     have q:wh t b 1 ρ=.err c:=by rw[wh,ht];simp[Res.bind,hb]
     have:=gW (t:=t) (b:=b) (ρ:=ρ) (n:=1) (by rw[q];exact fun z=>by cases z)
     rw[h,q] at this;cases this
    | ok f=>
     have again:∀ ρ2,(f=.nx ρ2∨f=.ctn ρ2)->eU t b ρ2=.no:=by
      intro ρ2 hf;by_cases h2:eU t b ρ2=.no
      ·exact h2
      ·exfalso
       obtain⟨n,e⟩:=oZ h2
       have q:wh t b (n+1) ρ=wh t b n ρ2:=by
        rw[wh,ht];simp only[Res.bind,if_true,hb];rcases hf with rfl | rfl<;>rfl
       have h3:wh t b (n+1) ρ≠.no:=by rw[q,<-e];exact h2
       have:=gW h3
       rw[h] at this;exact h3 this.symm
     cases f with
     | nx ρ2=>exact(again ρ2 (.inl rfl)).symm
     | ctn ρ2=>exact(again ρ2 (.inr rfl)).symm
     | brk ρ2=>
      exfalso
      have q:wh t b 1 ρ=.ok (.nx ρ2):=by rw[wh,ht];simp[Res.bind,hb]
      have:=gW (t:=t) (b:=b) (ρ:=ρ) (n:=1) (by rw[q];exact fun z=>by cases z)
      rw[h,q] at this;cases this
     | ret r=>
      exfalso
      have q:wh t b 1 ρ=.ok (.ret r):=by rw[wh,ht];simp[Res.bind,hb]
      have:=gW (t:=t) (b:=b) (ρ:=ρ) (n:=1) (by rw[q];exact fun z=>by cases z)
      rw[h,q] at this;cases this
 ·obtain⟨n,e⟩:=oZ h
  cases n with
  | zero=>rw[e] at h;exact absurd rfl h
  | succ n=>rw[e];exact key n (by rw[<-e];exact h)
def zMQ(f:Fv)(g:Ev)(ρ:Rho):Res (List D):=(f ρ).bind fun ds=>(g ρ).bind fun d=>match d with
 | .int k=>if 0<=k/\k<2^62/\ds.length*k.toNat<=16777216 then .ok (List.replicate k.toNat ds).flatten else .no
 | _=>.no
def jM(_ρ:Rho):Res Bool:=.ok true
def gG(t:Tv)(f:Ev)(ρ:Rho):List D->Res (List D)
 | []=>.ok []
 | d::ds=>(noErr (t (ρ++[.val d]))).bind fun c=>if c=true then (noErr (f (ρ++[.val d]))).bind fun e=>(gG t f ρ ds).bind fun es=>.ok (e::es) else gG t f ρ ds
def jQ(it:Fv)(t:Tv)(f:Ev)(ρ:Rho):Res (List D):=(it ρ).bind fun ds=>if ds.length<=16777215 then gG t f ρ ds else .no
def start(n:Nat)(ds:List D):Rho:=ds.map Sl.val++List.replicate (n-ds.length) .un
def fin:Fl->Res Rt
 | .nx _=>.ok (.v .non)
 | .ret r=>.ok r
 | .brk _=>.no
 | .ctn _=>.no
def fn(p n:Nat)(b:Sv)(ds:List D):Res Rt:=if ds.length=p then (b (start n ds)).bind fin else .no
def zJW:D->Option (List D)
 | .lst ds=>some ds
 | .tup ds=>some ds
 | _=>none
def kO:List D->List D->List D
 | a::r,b::q=>.tup [a,b]::kO r q
 | _,_=>[]
def zMh(a:Fv)(ρ:Rho):Res (List D):=(a ρ).bind fun ds=>match ds with
 | [x,y]=>match zJW x,zJW y with
  | some xs,some ys=>.ok (kO xs ys)
  | _,_=>.no
 | _=>.no
def pK:Nat->List D->List D
 | _,[]=>[]
 | n,d::r=>.tup [.int n,d]::pK (n+1) r
def zJZ(e:Ev)(ρ:Rho):Res (List D):=(e ρ).bind fun d=>match d with
 | .lst ds=>.ok (pK 0 ds)
 | .tup ds=>.ok (pK 0 ds)
 | _=>.no
def gF(f:Ev)(ρ:Rho):List D->Res (List D)
 | []=>.ok []
 | .tup [a,b]::ds=>(noErr (f (ρ++[.val a,.val b]))).bind fun e=>(gF f ρ ds).bind fun es=>.ok (e::es)
 | _::_=>.no
def vW(it:Fv)(f:Ev)(ρ:Rho):Res (List D):=(it ρ).bind fun ds=>if ds.length<=16777215 then gF f ρ ds else .no
def zST:D->Option Str
 | .str x=>some x
 | .int i=>if i.natAbs.log2<1920 then some (toString i) else none
 | _=>none
def zTd:Str->List D->Option Str
 | a,[]=>some a
 | a,d::r=>match zST d with
  | some x=>if x.length<=sizeLine/\(a++x).length<=sizeLine then zTd (a++x) r else none
  | none=>none
def oK:List D->Option (List Int)
 | []=>some []
 | .int i::ds=>match oK ds with
  | some ns=>some (i::ns)
  | none=>none
 | _::_=>none
def zCv:List D->Res D
 | [.lst ds]=>(match oK ds with
  | some ns=>.ok (.int ns.sum)
  | none=>.no)
 | [.tup ds]=>(match oK ds with
  | some ns=>.ok (.int ns.sum)
  | none=>.no)
 | _=>.no
def chO:Option Nat->Res D
 | some c=>.ok (.str ⟨#[c]⟩)
 | none=>.no
def slS(l u:Option Int):D->Res D
 | .str x=>if x.length<=sizeLine then .ok (.str (Txt.slice x l u)) else .no
 | _=>.no
def qW(T:List (Str×Str)):D->Res D
 | .str x=>.ok (.bl (!(T.lookup x).isSome))
 | _=>.no
def zOP:Option Str->Res D
 | some y=>.ok (.str y)
 | none=>.no
def vJ(T:List (Str×Str)):D->Res D
 | .str x=>zOP (T.lookup x)
 | _=>.no
def zP:Int->List Int->Int
 | a,[]=>a
 | a,b::r=>zP (if b > a then b else a) r
def zDV:List D->Res D
 | [.lst ds,.int d]=>(match oK ds with | some (a::r)=>.ok (.int (zP a r)) | some []=>.ok (.int d) | none=>.no)
 | _=>.no
end L3
namespace L3
open PySem
def iA(kz:List Int)(π:List Nat):Prop:=π.Perm (List.range kz.length)/\π.Pairwise (fun i j=>kz.getD i 0<=kz.getD j 0)
def zJV(b:Int):D->Res Int
 | .tup [.int t,.int d]=>if mJ d && kK t (b.fdiv d) then .ok (t*b.fdiv d) else .no
 | _=>.no
def oU(b:Int):List D->Res (List Int)
 | []=>.ok []
 | d::r=>(zJV b d).bind fun k=>(oU b r).bind fun ks=>.ok (k::ks)
def kP(π:List Nat):List D:=π.map fun i:Nat=>D.int (i:Int)
theorem zOm{b k:Int}{d:D}(h:zJV b d=.ok k):∃ t c,d=.tup [.int t,.int c]/\mJ c=true/\kK t (b.fdiv c)=true/\k=t*b.fdiv c:=by
 unfold zJV at h;split at h
 ·rename_i t c
  split at h
  ·rename_i hc
   rw[Ve] at hc;cases h;exact⟨t,c,rfl,hc.1,hc.2,rfl⟩
  ·cases h
 ·cases h
theorem zY{b:Int}:∀ {rows:List D} {kz:List Int},oU b rows=.ok kz->kz.length=rows.length/\∀(j:Nat)(k:Int),kz[j]?=some k->∃ d,rows[j]?=some d/\zJV b d=.ok k
 | [],kz,h=>by cases h;exact⟨rfl,fun j k z=>by simp at z⟩
 | d::r,kz,h=>by
  unfold oU at h
  cases e:zJV b d with
  | no=>rw[e] at h;cases h
  | err c=>rw[e] at h;cases h
  | ok k0=>
   rw[e] at h;have h':(oU b r).bind (fun ks=>Res.ok (k0::ks))=.ok kz:=h
   cases e2:oU b r with
   | no=>rw[e2] at h';cases h'
   | err c=>rw[e2] at h';cases h'
   | ok ks=>
    rw[e2] at h';cases h'
    obtain⟨h1,h2⟩:=zY e2;refine⟨by rw[Qm,Qm,h1],fun j k z=>?_⟩
    cases j with
    | zero=>simp at z;subst z;exact⟨d,rfl,e⟩
    | succ j=>exact h2 j k (by simpa using z)
def zEL(ρ:Rho):Res (List Int):=match ρ[0]?,ρ[1]? with
 | some (Sl.val (.lst rows)),some (Sl.val (.int b))=>if rows.length<64 then oU b rows else .no
 | _,_=>.no
def zAA(sa sb:Sv)(ds:List D):Res (List Int):=if ds.length=1 then (match sa (L3.start 3 ds) with
 | .ok (.nx ρ)=>(match sb ρ with
  | .ok (.nx ρ')=>zEL ρ'
  | _=>.no)
 | _=>.no) else .no
theorem zEz{b:Int}:∀ {rows:List D} {c:Str},oU b rows≠.err c
 | [],c,h=>by cases h
 | d::r,c,h=>by
  unfold oU at h
  have k0:∀ c,zJV b d≠.err c:=fun c z=>by
   unfold zJV at z;split at z
   ·split at z<;>cases z
   ·cases z
  cases e:zJV b d with
  | no=>rw[e] at h;cases h
  | err c'=>exact k0 _ e
  | ok k=>
   rw[e] at h;have h':(oU b r).bind (fun ks=>Res.ok (k::ks))=.err c:=h
   cases e2:oU b r with
   | no=>rw[e2] at h';cases h'
   | err c'=>exact zEz e2
   | ok ks=>rw[e2] at h';cases h'
theorem zQT{sa sb:Sv}(ds:List D)(c:Str):zAA sa sb ds≠.err c:=fun h=>by
 unfold zAA zEL at h;split at h
 ·split at h
  ·split at h
   ·split at h
    ·split at h
     ·exact zEz h
     ·cases h
    ·cases h
   ·cases h
  ·cases h
 ·cases h
theorem zMu{sa sb:Sv}(ds:List D)(h:zAA sa sb ds≠.no):ds.length=1:=by
 unfold zAA at h;split at h
 ·assumption
 ·exact absurd rfl h
open Classical in
def pF(kz:List Int)(F:List Nat->Res Fl):Res Fl:=if h:∃ x,∀ π,iA kz π->F π=x then h.choose else .no
theorem zFS{kz:List Int}{F:List Nat->Res Fl}{π:List Nat}(h:pF kz F≠.no)(hπ:iA kz π):F π=pF kz F:=by
 unfold pF at h ⊢
 split at h
 ·rename_i z;rw[dif_pos z];exact z.choose_spec π hπ
 ·exact absurd rfl h
theorem zFL{kz:List Int}{F:List Nat->Res Fl}{x:Res Fl}{π:List Nat}(hπ:iA kz π)(h:∀ π,iA kz π->F π=x):pF kz F=x:=by
 have z:∃ x,∀ π,iA kz π->F π=x:=⟨x,h⟩;unfold pF;rw[dif_pos z,<-z.choose_spec π hπ];exact h π hπ
def zJx(fs:Fv)(kf:List D->Res (List Int))(g:Gv)(b r:Sv):Sv:=fun ρ=>((fs ρ).bind kf).bind fun kz=>pF kz fun π=>bA (fun ρ=>loop g b (kP π) ρ) r ρ
abbrev Tri:=D×List D×List D
def zKB(e:Ev):Fv:=fun ρ=>(e ρ).bind fun d=>match d with
 | .lst ds=>.ok ds.reverse
 | _=>.no
def zSf:D->Res (List D)
 | .lst ds=>.ok ds.reverse
 | _=>.no
theorem revL_l{ds:List D}:zSf (.lst ds)=.ok ds.reverse:=rfl
theorem iRevL_at{e:Ev}{ρ:Rho}:zKB e ρ=(e ρ).bind zSf:=by
 unfold zKB;congr
end L3
namespace Fq
theorem zEO{a b:Int}(ha:0<=a)(hb:0<b):Int.gcd b (a % b)=Int.gcd a b:=by
 obtain⟨m,rfl⟩:=Yp ha;obtain⟨n,rfl⟩:=Yp (VO hb);show Nat.gcd n (m % n)=Nat.gcd m n
 rw[Nat.gcd_comm n (m % n),Nat.gcd_comm m n,Nat.gcd_rec n m]
def dv(t b:Int):Int:=if b<0 then -(Int.gcd t b:Int) else (Int.gcd t b:Int)
theorem zMU{t b:Int}(hb:b≠0):0<(Int.gcd t b:Int):=by
 have h:Int.gcd t b≠0:=fun h=>hb (Int.gcd_eq_zero_iff.mp h).2
 omega
theorem zNB{t b:Int}(hb:b≠0):dv t b≠0:=by
 have:=zMU (t:=t) hb
 unfold dv;split<;>omega
theorem zX(t b:Int):dv t b ∣ t:=by
 unfold dv;split
 ·exact Int.neg_dvd.mpr (XM ..)
 ·exact XM ..
theorem zEB(t b:Int):dv t b ∣ b:=by
 unfold dv;split
 ·exact Int.neg_dvd.mpr (XN ..)
 ·exact XN ..
theorem oW{t d:Int}(h:d ∣ t):t.fdiv d=t / d:=by
 rw[Int.fdiv_eq_ediv];simp[h]
theorem zBm{t b:Int}(hb:b≠0):t.fdiv (dv t b)=(Rat.divInt t b).num:=by
 rw[oW (zX t b),Rat.num_divInt,Int.gcd_comm b t];unfold dv;rcases Int.lt_trichotomy b 0 with h | h | h
 ·rw[if_pos h,Int.sign_eq_neg_one_of_neg h,Int.ediv_neg]
  have:(-1:Int)*t=-t:=by omega
  rw[this,Yq (XM ..)]
 ·exact absurd h hb
 ·rw[if_neg (by omega),Int.sign_eq_one_of_pos h,XO]
theorem zBc{t b:Int}(hb:b≠0):b.fdiv (dv t b)=((Rat.divInt t b).den:Int):=by
 rw[oW (zEB t b),Rat.den_divInt,if_neg hb,Int.gcd_comm b t];unfold dv;rcases Int.lt_trichotomy b 0 with h | h | h
 ·rw[if_pos h,Int.ediv_neg,Int.natCast_ediv]
  have e:((b.natAbs:Nat):Int)=-b:=by omega
  rw[e,Yq (XN ..)]
 ·exact absurd h hb
 ·rw[if_neg (by omega),Int.natCast_ediv]
  have e:((b.natAbs:Nat):Int)=b:=by omega
  rw[e]
theorem iI(q:Rat):(q.den:Int)≠0:=by have:=q.den_nz;omega
theorem eZ(q:Rat):(0:Int)<(q.den:Int):=by have:=q.den_nz;omega
theorem zPG(p q:Rat):Rat.divInt (p.num*q.den+q.num*p.den) (p.den*q.den)=p+q:=by
 rw[<-Rat.divInt_add_divInt _ _ (iI p) (iI q),QY,QY]
theorem zLM(p q:Rat):Rat.divInt (p.num*q.den-q.num*p.den) (p.den*q.den)=p-q:=by
 rw[<-Yr _ _ (iI p) (iI q),QY,QY]
theorem zMe(p q:Rat):Rat.divInt (p.num*q.num) (p.den*q.den)=p*q:=by
 rw[<-XQ,QY,QY]
theorem zHh(p q:Rat):Rat.divInt (p.num*q.den) (p.den*q.num)=p / q:=by
 rw[<-XQ,QY,QJ,Rat.inv_def]
theorem zMq{q:Rat}:q.num≠0 ↔ q≠0:=by
 constructor
 ·intro h e;exact h (by rw[e];rfl)
 ·intro h e;exact h (Rat.num_eq_zero.mp e)
def Sz(n:Nat)(q:Rat):Prop:=q.num.natAbs<2^n/\q.den<2^n
theorem Sz.mono{m n:Nat}{q:Rat}(h:Sz m q)(l:m<=n):Sz n q:=
 ⟨Qr h.1 (QZ (by decide) l),Qr h.2 (QZ (by decide) l)⟩
theorem zOY{t b:Int}(hb:b≠0):(Rat.divInt t b).num.natAbs<=t.natAbs:=by
 rw[<-zBm hb,oW (zX t b),Int.natAbs_ediv_of_dvd (zX t b)];exact Nat.div_le_self ..
theorem zFt{t b:Int}(hb:b≠0):(Rat.divInt t b).den<=b.natAbs:=by
 rw[Rat.den_divInt,if_neg hb];exact Nat.div_le_self ..
theorem Sz.of{n:Nat}{t b:Int}(hb:b≠0)(ht:t.natAbs<2^n)(h:b.natAbs<2^n):Sz n (Rat.divInt t b):=
 ⟨Vu (zOY hb) ht,Vu (zFt hb) h⟩
theorem fQ{a b:Int}{m n:Nat}(ha:a.natAbs<2^m)(hb:b.natAbs<2^n):(a*b).natAbs<2^(m+n):=by
 rw[Int.natAbs_mul,Nat.pow_add];exact Nat.mul_lt_mul'' ha hb
theorem zPe{a b:Int}{m:Nat}(ha:a.natAbs<2^m)(hb:b.natAbs<2^m):(a-b).natAbs<2^(m+1):=by
 rw[Nat.pow_succ];omega
theorem Sz.d{n:Nat}{q:Rat}(h:Sz n q):((q.den:Int)).natAbs<2^n:=h.2
theorem Sz.sub{m n:Nat}{p q:Rat}(hp:Sz m p)(hq:Sz n q):Sz (m+n+1) (p-q):=by
 rw[<-zLM];refine Sz.of (VP (iI p) (iI q)) (zPe (fQ hp.1 hq.d) ?_) ?_
 ·rw[XL m n];exact fQ hq.1 hp.d
 ·exact Qr (fQ hp.d hq.d) (QZ (by decide) (by omega))
theorem Sz.mul{m n:Nat}{p q:Rat}(hp:Sz m p)(hq:Sz n q):Sz (m+n) (p*q):=by
 rw[<-zMe];exact Sz.of (VP (iI p) (iI q)) (fQ hp.1 hq.1) (fQ hp.d hq.d)
theorem Sz.div{m n:Nat}{p q:Rat}(hp:Sz m p)(hq:Sz n q)(h:q≠0):Sz (m+n) (p / q):=by
 rw[<-zHh];exact Sz.of (VP (iI p) (zMq.mpr h)) (fQ hp.1 hq.d) (fQ hp.d hq.1)
end Fq
namespace Fr
open L3 PySem Fq
theorem zFw{t:Tv}{b:Sv}{ρ:Rho}(P:Rho->Prop)(μ:Rho->Nat)(Q:Res Fl->Prop)(h0:P ρ)
  (step:∀ ρ,P ρ->(t ρ=.ok false/\Q (.ok (.nx ρ)))∨(t ρ=.ok true/\∃ ρ',b ρ=.ok (.nx ρ')/\P ρ'/\μ ρ' < μ ρ)):Q (eU t b ρ):=by
 have main:∀ n ρ,μ ρ<=n->P ρ->Q (eU t b ρ):=by
  intro n
  induction n with
  | zero=>
   intro ρ hn hp;rw[zBO];rcases step ρ hp with⟨h1,h2⟩ | ⟨h1,ρ',h2,h3,h4⟩
   ·rw[h1];exact h2
   ·omega
  | succ n ih=>
   intro ρ hn hp;rw[zBO];rcases step ρ hp with⟨h1,h2⟩ | ⟨h1,ρ',h2,h3,h4⟩
   ·rw[h1];exact h2
   ·rw[h1]
    simp only[Res.bind,if_true,h2];exact ih ρ' (by omega) h3
 exact main _ ρ (Qh _) h0
theorem zHX{i:Int}{m:Nat}(h:i.natAbs<2^m):nb i<=m+1:=zRv (Qr h (QZ (by decide) (by omega))) (by omega)
theorem bZ{i j:Int}{m n:Nat}(hi:i.natAbs<2^m)(hj:j.natAbs<2^n)(h:m+n<=100000000):kK i j=true:=by
 unfold kK;have h1:=zHX hi;have h2:=zHX hj;rw[VQ];exact .inr (decide_eq_true (by omega))
theorem zOi{i j:Int}(h1:-(2^64)<j)(h2:j<2^64):kK i j=true:=by
 unfold kK;rw[VQ,VQ];exact .inl (.inr (by rw[decide_eq_true h1,decide_eq_true h2];rfl))
theorem zMJ{i j:Int}(h1:-(2^64)<i)(h2:i<2^64):kK i j=true:=by
 unfold kK;rw[VQ,VQ];exact .inl (.inl (by rw[decide_eq_true h1,decide_eq_true h2];rfl))
theorem tX{j:Int}{m:Nat}(h0:j≠0)(hj:j.natAbs<2^m)(h:m<=8999):mJ j=true:=by
 unfold mJ;have h1:=zHX hj;rw[decide_eq_true h0,decide_eq_true (show nb j<=9000 by omega)];rfl
theorem okDiv_lit{j:Int}(h0:0<j)(h:j<1000000000000000000):mJ j=true:=tX (m:=64) (by omega) (by omega) (by decide)
theorem okMul_litr{i j:Int}(h1:-1000000000000000000<j)(h2:j<1000000000000000000):kK i j=true:=zOi (by omega) (by omega)
theorem okMul_litl{i j:Int}(h1:-1000000000000000000<i)(h2:i<1000000000000000000):kK i j=true:=zMJ (by omega) (by omega)
theorem p10(n:Nat):(0:Int)<10^n:=Xe (by decide)
theorem p10ne(n:Nat):((10:Int)^n=0)=False:=eq_false (by have:=p10 n;omega)
theorem p10pos2(n:Nat):(0:Int)<2*10^n:=by have:=p10 n;omega
theorem p10ne2(n:Nat):((2:Int)*10^n=0)=False:=eq_false (by have:=p10 n;omega)
theorem okp9:rD 10 9=true:=by decide
theorem okp30:rD 10 30=true:=by decide
theorem okp40:rD 10 40=true:=by decide
def dq(q:Rat):D:=.tup [.int q.num,.int (q.den:Int)]
def dp(p:Rat×Rat):D:=.tup [dq p.1,dq p.2]
theorem eq_dq(p q:Rat):eqD (dq p) (dq q)=decide (p=q):=by
 show((p.num==q.num) && (((p.den:Int)==(q.den:Int)) && true))=decide (p=q)
 by_cases h:p=q
 ·subst h;simp
 ·rw[decide_eq_false h]
  by_cases h1:p.num=q.num
  ·have h2:p.den≠q.den:=fun e=>h (Rat.ext h1 e)
   have:((p.den:Int)==(q.den:Int))=false:=by simp;omega
   rw[this];simp
  ·simp[h1]
theorem dep_dq(q:Rat):dep (dq q)=1:=rfl
theorem ix_dq0(q:Rat):oIx (dq q) (.int 0)=.ok (.int q.num):=rfl
theorem ix_dq1(q:Rat):oIx (dq q) (.int 1)=.ok (.int (q.den:Int)):=rfl
theorem ty_dq(q:Rat):tyN (dq q) = "tuple" := rfl
theorem len_dq(q:Rat):mC [dq q]=.ok (.int 2):=rfl
theorem oEq_dq(p q:Rat):oEq (dq p) (dq q)=.ok (.bl (decide (p=q))):=by
 rw[<-eq_dq];rfl
theorem oNe_dq(p q:Rat):oNe (dq p) (dq q)=.ok (.bl (!decide (p=q))):=by
 rw[<-eq_dq];rfl
theorem noL_dq(q:Rat):noL (dq q)=true:=rfl
theorem zML(p q:Rat×Rat):eqD (dp p) (dp q)=decide (p=q):=by
 show(eqD (dq p.1) (dq q.1) && (eqD (dq p.2) (dq q.2) && true))=decide (p=q)
 rw[eq_dq,eq_dq];obtain⟨a,b⟩:=p;obtain⟨c,d⟩:=q;simp
theorem dp_mk(a b:Rat):(.tup [dq a,dq b]:D)=dp (a,b):=rfl
theorem ix_dp0(p:Rat×Rat):oIx (dp p) (.int 0)=.ok (dq p.1):=rfl
theorem ix_dp1(p:Rat×Rat):oIx (dp p) (.int 1)=.ok (dq p.2):=rfl
theorem ty_dp(p:Rat×Rat):tyN (dp p) = "tuple" := rfl
theorem len_dp(p:Rat×Rat):mC [dp p]=.ok (.int 2):=rfl
theorem dep_dp(p:Rat×Rat):dep (dp p)=2:=rfl
theorem noL_dp(p:Rat×Rat):noL (dp p)=true:=rfl
theorem oEq_dp(p q:Rat×Rat):oEq (dp p) (dp q)=.ok (.bl (decide (p=q))):=by
 rw[<-zML];rfl
theorem oNe_dp(p q:Rat×Rat):oNe (dp p) (dp q)=.ok (.bl (!decide (p=q))):=by
 rw[<-zML];rfl
theorem zMj:∀(l m:List (Rat×Rat)),zGC (l.map dp) (m.map dp)=decide (l=m)
 | [],[]=>rfl
 | [],_::_=>rfl
 | _::_,[]=>rfl
 | p::l,q::m=>by
  rw[Qq,Qq,zGC,zML,zMj l m];simp
theorem fdiv_pos(a:Int){b:Int}(h:0<b):a.fdiv b=a / b:=Ys a (by omega)
theorem fmod_pos(a:Int){b:Int}(h:0<b):a.fmod b=a % b:=Yt a (by omega)
theorem zNc(a:Int){b:Int}(h:0<=b):a.fdiv b=a / b:=Ys a h
theorem zDH(a:Int){b:Int}(h:0<=b):a.fmod b=a % b:=Yt a h
theorem zED:∀ l:List Rat,depS (l.map dq)<=1
 | []=>QP _
 | q::l=>by rw[Qq,depS];exact Xm.mpr ⟨Qh _,zED l⟩
theorem zMD(l:List Rat):dep (.lst (l.map dq))<=50:=by rw[dep];have:=zED l;omega
theorem zEp:∀ l:List (Rat×Rat),depS (l.map dp)<=2
 | []=>QP _
 | q::l=>by rw[Qq,depS];exact Xm.mpr ⟨Qh _,zEp l⟩
theorem zNu(l:List (Rat×Rat)):dep (.tup (l.map dp))<=50:=by rw[dep];have:=zEp l;omega
theorem noLs_dps:∀ l:List (Rat×Rat),noLs (l.map dp)=true
 | []=>rfl
 | q::l=>by rw[Qq,noLs,noL_dp,noLs_dps l];rfl
theorem nX{α:Type}{l:List α}{i:Nat}{a:α}(h:l[i]?=some a):l.take (i+1)=l.take i++[a]:=by rw[XR,h];rfl
theorem zQB{b:Int}(h:0<b):(.tup [.int 1,.int b]:D)=dq (Rat.divInt 1 b):=by
 have hb:b≠0:=by omega
 have e:Fq.dv 1 b=1:=by unfold Fq.dv;rw[if_neg (by omega)];simp
 unfold dq;rw[<-Fq.zBm hb,<-Fq.zBc hb,e];simp
theorem zPp(k:Int):(.tup [.int k,.int 1]:D)=dq (k:Rat):=rfl
end Fr
namespace L3
open PySem
def zGA(b:Sv):Fl->Res Fl
 | .nx ρ=>b ρ
 | .ret r=>.ok (.ret r)
 | .brk ρ=>.ok (.brk ρ)
 | .ctn ρ=>.ok (.ctn ρ)
theorem sSeq_at{a b:Sv}{ρ:Rho}:bA a b ρ=(a ρ).bind (zGA b):=by
 unfold bA;congr;funext f;cases f<;>rfl
def ifF(a b:Sv)(ρ:Rho):Bool->Res Fl
 | true=>a ρ
 | false=>b ρ
theorem sIf_at{t:Tv}{a b:Sv}{ρ:Rho}:sIf t a b ρ=(t ρ).bind (ifF a b ρ):=by
 unfold sIf;congr;funext c;cases c<;>rfl
def zRk(a b:Ev)(ρ:Rho):Bool->Res D
 | true=>a ρ
 | false=>b ρ
theorem eIf_at{t:Tv}{a b:Ev}{ρ:Rho}:eIf t a b ρ=(t ρ).bind (zRk a b ρ):=by
 unfold eIf;congr;funext c;cases c<;>rfl
def zSe(b:Ev)(ρ:Rho):D->Res D
 | .bl true=>b ρ
 | .bl false=>.ok (.bl false)
 | _=>.no
theorem eAnd_at{a b:Ev}{ρ:Rho}:zSp a b ρ=(a ρ).bind (zSe b ρ):=by
 unfold zSp;congr;funext c;cases c<;>try rfl
 rename_i c;cases c<;>rfl
def orF(b:Ev)(ρ:Rho):D->Res D
 | .bl true=>.ok (.bl true)
 | .bl false=>b ρ
 | _=>.no
theorem eOr_at{a b:Ev}{ρ:Rho}:eOr a b ρ=(a ρ).bind (orF b ρ):=by
 unfold eOr;congr;funext c;cases c<;>try rfl
 rename_i c;cases c<;>rfl
def opF(o:Op2)(b:Ev)(ρ:Rho)(x:D):Res D:=(b ρ).bind (o x)
theorem eOp_at{o:Op2}{a b:Ev}{ρ:Rho}:eOp o a b ρ=(a ρ).bind (opF o b ρ):=rfl
def consG(d:D)(ds:List D):Res (List D):=.ok (d::ds)
def consF(r:Fv)(ρ:Rho)(d:D):Res (List D):=(r ρ).bind (consG d)
theorem aCons_at{e:Ev}{r:Fv}{ρ:Rho}:aD e r ρ=(e ρ).bind (consF r ρ):=rfl
def tupF(ds:List D):Res D:=if ds.length<=16777216 then .ok (.tup ds) else .no
theorem eTup_at{a:Fv}{ρ:Rho}:zDM a ρ=(a ρ).bind tupF:=rfl
def rtF(r:Rt):Res D:=.ok r.d
def callF(m:Mir)(ds:List D):Res D:=(m ds).bind rtF
theorem eCall_at{m:Mir}{a:Fv}{ρ:Rho}:aO m a ρ=(a ρ).bind (callF m):=rfl
def isTF(T:String)(d:D):Res D:=.ok (.bl (isT T d))
theorem eIsT_at{T:String}{a:Ev}{ρ:Rho}:zTe T a ρ=(a ρ).bind (isTF T):=rfl
def isNF(d:D):Res D:=.ok (.bl (isNon d))
theorem eIsN_at{a:Ev}{ρ:Rho}:zRd a ρ=(a ρ).bind isNF:=rfl
def notNF(d:D):Res D:=.ok (.bl (!isNon d))
theorem eNotN_at{a:Ev}{ρ:Rho}:zKs a ρ=(a ρ).bind notNF:=rfl
def frzF(d:D):Res D:=if noL d=true then .ok d else .no
theorem eFrz_at{e:Ev}{ρ:Rho}:zNv e ρ=(e (ρ.map Sl.frz)).bind frzF:=rfl
def fLstF(ds:List D):Res (List D):=if ds.length<=16777216 then .ok ds else .no
theorem fLst_at{a:Fv}{ρ:Rho}:qU a ρ=(a ρ).bind fLstF:=rfl
def rtFF:Rt->Res (List D)
 | .f ds=>.ok ds
 | .v _=>.no
def fcallF(m:Mir)(ds:List D):Res (List D):=(m ds).bind rtFF
theorem fCall_at{m:Mir}{a:Fv}{ρ:Rho}:cD m a ρ=(a ρ).bind (fcallF m):=by
 unfold cD fcallF;congr
def zHR:List D->Res (List D)
 | [.lst ds]=>.ok ds
 | [.tup ds]=>.ok ds
 | _=>.no
theorem fListF_l{ds:List D}:zHR [.lst ds]=.ok ds:=rfl
theorem fListF_t{ds:List D}:zHR [.tup ds]=.ok ds:=rfl
theorem fList_at{a:Fv}{ρ:Rho}:zNQ a ρ=(a ρ).bind zHR:=rfl
def catG(x y:D):Res (List D):=match x,y with
 | .lst ds,.lst es=>if ds.length+es.length<=16777216 then .ok (ds++es) else .no
 | _,_=>.no
def catF(b:Ev)(ρ:Rho)(x:D):Res (List D):=(b ρ).bind (catG x)
theorem fCat_at{a b:Ev}{ρ:Rho}:zPa a b ρ=(a ρ).bind (catF b ρ):=rfl
def efF(ds:List D):Res D:=.ok (.lst ds)
theorem eF_at{f:Fv}{ρ:Rho}:eF f ρ=(f ρ).bind efF:=rfl
def fFrzF(ds:List D):Res (List D):=if noLs ds=true then .ok ds else .no
theorem fFrz_at{f:Fv}{ρ:Rho}:zRe f ρ=(f (ρ.map Sl.frz)).bind fFrzF:=rfl
def oSF:D->Res (Option Int)
 | .int i=>.ok (some i)
 | _=>.no
theorem oS_at{e:Ev}{ρ:Rho}:oS e ρ=(e ρ).bind oSF:=by
 unfold oS;congr
def fSlH(x:D)(l h:Option Int):Res (List D):=match x with
 | .lst ds=>.ok (fV ds l h)
 | _=>.no
def fSlG(hi:Ov)(ρ:Rho)(x:D)(l:Option Int):Res (List D):=(hi ρ).bind (fSlH x l)
def fSlF(lo hi:Ov)(ρ:Rho)(x:D):Res (List D):=(lo ρ).bind (fSlG hi ρ x)
theorem fSl_at{a:Ev}{lo hi:Ov}{ρ:Rho}:fSl a lo hi ρ=(a ρ).bind (fSlF lo hi ρ):=rfl
def zTp(x:D)(l h:Option Int):Res D:=match x with
 | .tup ds=>if (fV ds l h).length<ds.length then .ok (.tup (fV ds l h)) else .no
 | _=>.no
def blF:D->Res Bool
 | .bl b=>.ok b
 | _=>.no
theorem tVal_at{e:Ev}{ρ:Rho}:dX e ρ=(e ρ).bind blF:=by
 unfold dX;congr
def notF(b:Bool):Res Bool:=.ok (!b)
theorem tNotB_at{t:Tv}{ρ:Rho}:zGe t ρ=(t ρ).bind notF:=rfl
def zNL(u:Tv)(ρ:Rho):Bool->Res Bool
 | true=>u ρ
 | false=>.ok false
theorem tAndB_at{t u:Tv}{ρ:Rho}:zDo t u ρ=(t ρ).bind (zNL u ρ):=by
 unfold zDo;congr;funext c;cases c<;>rfl
def zRK(u:Tv)(ρ:Rho):Bool->Res Bool
 | true=>.ok true
 | false=>u ρ
theorem tOrB_at{t u:Tv}{ρ:Rho}:zJP t u ρ=(t ρ).bind (zRK u ρ):=by
 unfold zJP;congr;funext c;cases c<;>rfl
def setF(i:Nat)(ρ:Rho)(d:D):Res Fl:=.ok (.nx (ρ.set i (.val d)))
theorem sSet_at{i:Nat}{e:Ev}{ρ:Rho}:cT i e ρ=(e ρ).bind (setF i ρ):=rfl
def ownF(i:Nat)(ρ:Rho)(ds:List D):Res Fl:=.ok (.nx (ρ.set i (.own ds)))
theorem sOwn_at{i:Nat}{f:Fv}{ρ:Rho}:zCM i f ρ=(f ρ).bind (ownF i ρ):=rfl
def dropF(ρ:Rho)(_d:D):Res Fl:=.ok (.nx ρ)
theorem sDrop_at{e:Ev}{ρ:Rho}:qP e ρ=(e ρ).bind (dropF ρ):=rfl
def retF(d:D):Res Fl:=.ok (.ret (.v d))
theorem sRet_at{e:Ev}{ρ:Rho}:iJ e ρ=(e (ρ.map Sl.frz)).bind retF:=rfl
def retFF(ds:List D):Res Fl:=.ok (.ret (.f ds))
theorem sRetF_at{f:Fv}{ρ:Rho}:iD f ρ=(f (ρ.map Sl.frz)).bind retFF:=rfl
def raiseF(c:Str)(ds:List D):Res Fl:=if ds.length<=16777216 then .err c else .no
theorem sRaise_at{c:Str}{a:Fv}{ρ:Rho}:gZ c a ρ=(a ρ).bind (raiseF c):=rfl
def appF(i:Nat)(ρ:Rho)(ds:List D)(d:D):Res Fl:=if ds.length<16777216 then .ok (.nx (ρ.set i (.own (ds++[d])))) else .no
def appS(i:Nat)(e:Ev)(ρ:Rho):Option Sl->Res Fl
 | some (.own ds)=>(e ρ).bind (appF i ρ ds)
 | _=>.no
theorem sApp_at{i:Nat}{e:Ev}{ρ:Rho}:zGr i e ρ=appS i e ρ ρ[i]?:=by
 unfold zGr appS;rfl
def extF(i:Nat)(ρ:Rho)(ds:List D)(es:List D):Res Fl:=if ds.length+es.length<=16777216 then .ok (.nx (ρ.set i (.own (ds++es)))) else .no
def extS(i:Nat)(e:Fv)(ρ:Rho):Option Sl->Res Fl
 | some (.own ds)=>(e ρ).bind (extF i ρ ds)
 | _=>.no
theorem sExt_at{i:Nat}{e:Fv}{ρ:Rho}:zMs i e ρ=extS i e ρ ρ[i]?:=by
 unfold zMs extS;rfl
def augF(i:Nat)(ρ:Rho)(o:Op2)(x y:D):Res Fl:=(o x y).bind (setF i ρ)
def augS(i:Nat)(o:Op2)(e:Ev)(ρ:Rho):Option Sl->Res Fl
 | some (.val x)=>(e ρ).bind (augF i ρ o x)
 | _=>.no
theorem sAug_at{i:Nat}{o:Op2}{e:Ev}{ρ:Rho}:zJU i o e ρ=augS i o e ρ ρ[i]?:=by
 unfold zJU augS;rfl
def dropG(ρ:Rho)(_r:Rt):Res Fl:=.ok (.nx ρ)
def setG(i:Nat)(ρ:Rho)(r:Rt):Res Fl:=.ok (.nx (ρ.set i (.val r.d)))
def varS:Option Sl->Res D
 | some (.val d)=>.ok d
 | _=>.no
theorem eVar_at{i:Nat}{ρ:Rho}:aH i ρ=varS ρ[i]?:=by
 unfold aH varS;rfl
def retS:Option Sl->Res Fl
 | some (.own ds)=>.ok (.ret (.f ds))
 | _=>.no
theorem sRetOwn_at{i:Nat}{ρ:Rho}:fG i ρ=retS ρ[i]?:=by
 unfold fG retS;rfl
def nxF(ρ:Rho):Res Fl:=.ok (.nx ρ)
def unpF(g:Gv)(ρ:Rho)(d:D):Res Fl:=(g d ρ).bind nxF
theorem sUnp_at{g:Gv}{f:Ev}{ρ:Rho}:zSN g f ρ=(f ρ).bind (unpF g ρ):=rfl
def gtF(gs:List D->Rho->Res Rho)(ρ:Rho):D->Res Rho
 | .tup ds=>gs ds ρ
 | _=>.no
theorem gTup_at{gs:List D->Rho->Res Rho}{d:D}{ρ:Rho}:zGH gs d ρ=gtF gs ρ d:=by
 unfold zGH gtF;rfl
theorem gCons_at{g:Gv}{r:List D->Rho->Res Rho}{d:D}{ds:List D}{ρ:Rho}:mM g r (d::ds) ρ=(g d ρ).bind (r ds):=rfl
theorem gNil_at{ρ:Rho}:zGF [] ρ=.ok ρ:=rfl
def forF(g:Gv)(b:Sv)(ρ:Rho)(ds:List D):Res Fl:=loop g b ds ρ
theorem sFor_at{it:Fv}{g:Gv}{b:Sv}{ρ:Rho}:yE it g b ρ=(it ρ).bind (forF g b ρ):=rfl
def zLr:D->Res (List D)
 | .lst ds=>.ok ds
 | .tup ds=>.ok ds
 | _=>.no
theorem seqD_l{ds:List D}:zLr (.lst ds)=.ok ds:=rfl
theorem seqD_t{ds:List D}:zLr (.tup ds)=.ok ds:=rfl
theorem iSeq_at{e:Ev}{ρ:Rho}:sZ e ρ=(e ρ).bind zLr:=by
 unfold sZ;congr
def zQP:List D->Res (List D)
 | [.int j]=>if -(2^62)<=j/\j<2^62 then .ok (rng 0 j.toNat 1) else .no
 | _=>.no
theorem iRng1_at{a:Fv}{ρ:Rho}:xE a ρ=(a ρ).bind zQP:=rfl
def zQX:List D->Res (List D)
 | [.int i,.int j]=>if -(2^62)<=i/\i<2^62/\-(2^62)<=j/\j<2^62 then .ok (rng i (j-i).toNat 1) else .no
 | _=>.no
theorem iRng2_at{a:Fv}{ρ:Rho}:zFZ a ρ=(a ρ).bind zQX:=rfl
theorem fn_at{p n:Nat}{b:Sv}{ds:List D}(h:ds.length=p):fn p n b ds=(b (start n ds)).bind fin:=by
 unfold fn;rw[if_pos h]
theorem nr{α:Sort _}{a b:α}(h:a=b):a=b:=h
theorem okb{α β:Type}{a:α}{f:α->Res β}:(Res.ok a).bind f=f a:=nr rfl
theorem erb{α β:Type}{c:Str}{f:α->Res β}:(Res.err c).bind f=.err c:=nr rfl
theorem seqF_nx{b:Sv}{ρ:Rho}:zGA b (.nx ρ)=b ρ:=nr rfl
theorem seqF_ret{b:Sv}{r:Rt}:zGA b (.ret r)=.ok (.ret r):=nr rfl
theorem gtF_t{gs:List D->Rho->Res Rho}{ρ:Rho}{ds:List D}:gtF gs ρ (.tup ds)=gs ds ρ:=nr rfl
theorem ifF_t{a b:Sv}{ρ:Rho}:ifF a b ρ true=a ρ:=nr rfl
theorem ifF_f{a b:Sv}{ρ:Rho}:ifF a b ρ false=b ρ:=nr rfl
theorem eifF_t{a b:Ev}{ρ:Rho}:zRk a b ρ true=a ρ:=nr rfl
theorem eifF_f{a b:Ev}{ρ:Rho}:zRk a b ρ false=b ρ:=nr rfl
theorem andF_t{b:Ev}{ρ:Rho}:zSe b ρ (.bl true)=b ρ:=nr rfl
theorem andF_f{b:Ev}{ρ:Rho}:zSe b ρ (.bl false)=.ok (.bl false):=nr rfl
theorem orF_t{b:Ev}{ρ:Rho}:orF b ρ (.bl true)=.ok (.bl true):=nr rfl
theorem orF_f{b:Ev}{ρ:Rho}:orF b ρ (.bl false)=b ρ:=nr rfl
theorem tandF_t{u:Tv}{ρ:Rho}:zNL u ρ true=u ρ:=nr rfl
theorem tandF_f{u:Tv}{ρ:Rho}:zNL u ρ false=.ok false:=nr rfl
theorem torF_t{u:Tv}{ρ:Rho}:zRK u ρ true=.ok true:=nr rfl
theorem torF_f{u:Tv}{ρ:Rho}:zRK u ρ false=u ρ:=nr rfl
theorem oAdd_i{i j:Int}:rB (.int i) (.int j)=.ok (.int (i+j)):=rfl
theorem oAddI_i{i j:Int}:zAj (.int i) (.int j)=.ok (.int (i+j)):=rfl
theorem oSub_i{i j:Int}:zEa (.int i) (.int j)=.ok (.int (i-j)):=rfl
theorem oMul_i{i j:Int}(h:kK i j=true):qV (.int i) (.int j)=.ok (.int (i*j)):=if_pos h
theorem oDiv_i{i j:Int}(h:mJ j=true):wB (.int i) (.int j)=.ok (.int (i.fdiv j)):=if_pos h
theorem oMod_i{i j:Int}(h:j≠0):qD (.int i) (.int j)=.ok (.int (i.fmod j)):=if_pos h
theorem oPow_i{i j:Int}(h:rD i j=true):zGG (.int i) (.int j)=.ok (.int (i^j.toNat)):=if_pos h
theorem oEq_i{i j:Int}:oEq (.int i) (.int j)=.ok (.bl (decide (i=j))):=rfl
theorem oNe_i{i j:Int}:oNe (.int i) (.int j)=.ok (.bl (!decide (i=j))):=rfl
theorem oLt_i{i j:Int}:oLt (.int i) (.int j)=.ok (.bl (decide (i<j))):=rfl
theorem oLe_i{i j:Int}:oLe (.int i) (.int j)=.ok (.bl (decide (i<=j))):=rfl
theorem oGt_i{i j:Int}:oGt (.int i) (.int j)=.ok (.bl (decide (j<i))):=rfl
theorem oGe_i{i j:Int}:oGe (.int i) (.int j)=.ok (.bl (decide (j<=i))):=rfl
theorem zRF{ds:List D}{i:Int}:oIx (.lst ds) (.int i)=ofO (atD ds i):=rfl
theorem ofO_some{α:Type}{a:α}:ofO (some a)=.ok a:=rfl
theorem oNeg_i{i:Int}:zJR (.int i)=.ok (.int (-i)):=rfl
theorem oNot_b{b:Bool}:zSZ (.bl b)=.ok (.bl (!b)):=rfl
theorem bAbs_i{i:Int}:zNh [.int i]=.ok (.int (i.natAbs:Int)):=by
 show Res.ok (D.int (if i<0 then -i else i))=_
 congr 2;split<;>omega
theorem bMin_i{i j:Int}:zOK [.int i,.int j]=.ok (.int (min i j)):=by
 show Res.ok (D.int (if j<i then j else i))=_
 congr 2;split<;>omega
theorem zAk{j:Int}(h1:-(2^62)<=j)(h2:j<2^62):zQP [.int j]=.ok (rng 0 j.toNat 1):=if_pos ⟨h1,h2⟩
theorem zIt{i j:Int}(h1:-(2^62)<=i)(h2:i<2^62)(h3:-(2^62)<=j)(h4:j<2^62):zQX [.int i,.int j]=.ok (rng i (j-i).toNat 1):=if_pos ⟨h1,h2,h3,h4⟩
theorem zDX{α:Type}{g:Gv}{b:Sv}{ds:List D}{ρ:Rho}{k:Fl->Res α}{Q:Res α->Prop}(P:Rho->Prop)(h0:P ρ)
  (st:∀ d ρ,d∈ds->P ρ->∃ ρ2,(g d ρ).bind b=.ok (.nx ρ2)/\P ρ2) (fi:∀ ρ',P ρ'->Q (k (.nx ρ'))):Q ((loop g b ds ρ).bind k):=by
 suffices h:∃ ρ',loop g b ds ρ=.ok (.nx ρ')/\P ρ' by
  obtain⟨ρ',e,hp⟩:=h;rw[e];exact fi ρ' hp
 clear fi
 induction ds generalizing ρ with
 | nil=>exact⟨ρ,rfl,h0⟩
 | cons d ds ih=>
  obtain⟨ρ2,e,hp⟩:=st d ρ Qb h0;obtain⟨ρ',e',hp'⟩:=ih hp fun d' ρ' hd=>st d' ρ' (Qd _ hd)
  refine⟨ρ',?_,hp'⟩
  rw[loop]
  cases hg:g d ρ with
  | no=>rw[hg] at e;cases e
  | err c=>rw[hg] at e;cases e
  | ok ρ1=>
   rw[hg] at e;have e2:b ρ1=.ok (.nx ρ2):=e;simp only[Res.bind,e2];exact e'
theorem ty_i{i:Int}:tyN (.int i) = "int" := rfl
theorem ty_b{b:Bool}:tyN (.bl b) = "bool" := rfl
theorem ty_t{ds:List D}:tyN (.tup ds) = "tuple" := rfl
theorem ty_l{ds:List D}:tyN (.lst ds) = "list" := rfl
theorem ty_s{x:Str}:tyN (.str x) = "str" := rfl
theorem ty_n:tyN .non = "NoneType" := rfl
theorem bLen_t{ds:List D}:mC [.tup ds]=.ok (.int ds.length):=rfl
theorem bLen_l{ds:List D}:mC [.lst ds]=.ok (.int ds.length):=rfl
theorem bTup_t{ds:List D}:zKK [.tup ds]=.ok (.tup ds):=rfl
theorem bTup_l{ds:List D}:zKK [.lst ds]=.ok (.tup ds):=rfl
theorem nD{α:Type}{g:Gv}{b:Sv}{ds:List D}{ρ:Rho}{k:Fl->Res α}{Q:Res α->Prop}(P:Nat->Rho->Prop)(h0:P 0 ρ)
  (st:∀ i d ρ,ds[i]?=some d->P i ρ->∃ ρ2,(g d ρ).bind b=.ok (.nx ρ2)/\P (i+1) ρ2) (fi:∀ ρ',P ds.length ρ'->Q (k (.nx ρ'))):Q ((loop g b ds ρ).bind k):=by
 suffices h:∀(ds:List D)(j:Nat)(ρ:Rho),P j ρ->(∀ i d ρ,ds[i]?=some d->P (j+i) ρ->∃ ρ2,(g d ρ).bind b=.ok (.nx ρ2)/\P (j+i+1) ρ2)->∃ ρ',loop g b ds ρ=.ok (.nx ρ')/\P (j+ds.length) ρ' by
  obtain⟨ρ',e,hp⟩:=h ds 0 ρ h0 (fun i d ρ hd hp=>by rw[Vm] at hp ⊢;exact st i d ρ hd hp)
  rw[e];exact fi ρ' (by rw[Vm] at hp;exact hp)
 intro ds
 induction ds with
 | nil=>intro j ρ hp _;exact⟨ρ,rfl,hp⟩
 | cons d ds ih=>
  intro j ρ hp st;obtain⟨ρ2,e,hp2⟩:=st 0 d ρ rfl hp
  obtain⟨ρ',e',hp'⟩:=ih (j+1) ρ2 hp2 fun i d' ρ' hd hp=>by
   have:=st (i+1) d' ρ' (by simpa using hd) (by rw[show j+(i+1)=j+1+i by omega];exact hp)
   rw[show j+(i+1)=j+1+i by omega] at this;exact this
  refine⟨ρ',?_,by rw[Qm,show j+(ds.length+1)=j+1+ds.length by omega];exact hp'⟩
  rw[loop]
  cases hg:g d ρ with
  | no=>rw[hg] at e;cases e
  | err c=>rw[hg] at e;cases e
  | ok ρ1=>
   rw[hg] at e;have e2:b ρ1=.ok (.nx ρ2):=e;simp only[Res.bind,e2];exact e'
theorem zFl{lo c:Int}{n i:Nat}{d:D}(h:(rng lo n c)[i]?=some d):i<n/\d=.int (lo+(i:Int)*c):=by
 unfold rng at h;rw[Qu] at h;by_cases hi:i<n
 ·rw[Vf hi] at h
  cases h;exact⟨hi,rfl⟩
 ·rw[QC (by rw[QA];omega)] at h
  cases h
theorem zEw{f:Ev}{ρ:Rho}{h:D->D}:∀ {ds:List D},(∀ d∈ds,f (ρ++[.val d])=.ok (h d))->gG jM f ρ ds=.ok (ds.map h)
 | [],_=>rfl
 | d::ds,hf=>by
  rw[gG,hf d Qb];simp only[jM,noErr,Res.bind,if_true];rw[zEw fun e he=>hf e (Qd _ he)];rfl
def zCR(t:Tv)(f:Ev)(ρ:Rho)(ds:List D):Res (List D):=if ds.length<=16777215 then gG t f ρ ds else .no
theorem fComp_at{it:Fv}{t:Tv}{f:Ev}{ρ:Rho}:jQ it t f ρ=(it ρ).bind (zCR t f ρ):=rfl
theorem zBs{f:Ev}{ρ:Rho}{h:D->D}{ds:List D}(hl:ds.length<=16777215)(hf:∀ d∈ds,f (ρ++[.val d])=.ok (h d)):zCR jM f ρ ds=.ok (ds.map h):=by
 unfold zCR;rw[if_pos hl,zEw hf]
theorem zHW{d:D}(h:dep d<=50):oNe d d=.ok (.bl false):=by unfold oNe;rw[if_pos h,tU];rfl
theorem zAp{ds:List D}{k:Int}(h:0<=k):fV ds none (some k)=ds.take k.toNat:=by
 unfold fV cut;simp only[h,if_true,List.drop_zero,Nat.sub_zero];rcases Xd k.toNat ds.length with l | l
 ·rw[VZ l]
 ·rw[Xn l,Vg,V0 l]
theorem zEn{α:Type}(l:List α)(a:Nat):l.drop (min a l.length)=l.drop a:=by
 rcases Xd a l.length with h | h
 ·rw[VZ h]
 ·rw[Xn h,List.drop_length,Xf h]
theorem zIj{ds:List D}{a b:Int}(h1:0<=a)(h2:0<=b):fV ds (some a) (some b)=(ds.drop a.toNat).take (b.toNat-a.toNat):=by
 unfold fV cut;simp only[h1,h2,if_true];rw[zEn];rcases Xd ds.length a.toNat with c | c
 ·rw[Xf c,List.take_nil,List.take_nil]
 ·rw[VZ c]
  rcases Xd b.toNat ds.length with d | d
  ·rw[VZ d]
  ·rw[Xn d,V0 (by rw[Vs];exact Qh _),V0 (by rw[Vs];exact Nat.sub_le_sub_right d _)]
theorem zFV{ds:List D}{a:Int}(h1:0<=a):fV ds (some a) none=ds.drop a.toNat:=by
 unfold fV cut;simp only[h1,if_true];rw[zEn,V0 (by rw[Vs];omega)]
theorem oT{α:Type}{f:α->D}{l:List α}{i:Int}{a:α}(h0:0<=i)(h:l[i.toNat]?=some a):oIx (.lst (l.map f)) (.int i)=.ok (f a):=by
 show ofO (atD (l.map f) i)=_
 unfold atD;rw[if_pos h0,Qu,h];rfl
def popS(i:Nat)(ρ:Rho):Option Sl->Res Fl
 | some (.own ds)=>if ds.length=0 then .no else .ok (.nx (ρ.set i (.own ds.dropLast)))
 | _=>.no
theorem sPop_at{i:Nat}{ρ:Rho}:zPB i ρ=popS i ρ ρ[i]?:=by unfold zPB popS;rfl
theorem oIx_tc{d:D}{ds:List D}{i:Int}:oIx (.tup (d::ds)) (.int i)=ofO (atD (d::ds) i):=rfl
theorem uN{α:Type}{f:α->D}{l:List α}{i:Int}{a:α}(h0:0<=i)(h:l[i.toNat]?=some a):oIx (.tup (l.map f)) (.int i)=.ok (f a):=by
 show ofO (atD (l.map f) i)=_
 unfold atD;rw[if_pos h0,Qu,h];rfl
theorem zLX{α:Type}{f:α->D}{l:List α}{k:Nat}{a:α}(h0:0<k)(h:k<=l.length)(h2:l[l.length-k]?=some a):atD (l.map f) (-(k:Int))=some (f a):=by
 unfold atD;rw[if_neg (by omega),Qe,if_pos (by omega),show((l.length:Int)+-(k:Int)).toNat=l.length-k by omega,Qu,h2];rfl
theorem zCS{α:Type}{f:α->D}{l:List α}{k:Nat}{i:Int}{a:α}(hi:i=-(k:Int))(h0:0<k)(h:k<=l.length)(h2:l[l.length-k]?=some a):oIx (.lst (l.map f)) (.int i)=.ok (f a):=by
 show ofO (atD (l.map f) i)=_
 rw[hi,zLX h0 h h2];rfl
theorem zJK{α:Type}{f:α->D}{l:List α}{k:Nat}{i:Int}{a:α}(hi:i=-(k:Int))(h0:0<k)(h:k<=l.length)(h2:l[l.length-k]?=some a):oIx (.tup (l.map f)) (.int i)=.ok (f a):=by
 show ofO (atD (l.map f) i)=_
 rw[hi,zLX h0 h h2];rfl
theorem zIo{α:Type}{g:Gv}{b:Sv}{ds:List D}{ρ:Rho}{k:Fl->Res α}{Q:Res α->Prop}(P:Nat->Rho->Prop)(h0:P 0 ρ)
  (st:∀ i d ρ,ds[i]?=some d->P i ρ->(∃ ρ2,(g d ρ).bind b=.ok (.nx ρ2)/\P (i+1) ρ2)∨∃ r,(g d ρ).bind b=.ok (.ret r)/\Q (k (.ret r))) (fi:∀ ρ',P ds.length ρ'->Q (k (.nx ρ'))):Q ((loop g b ds ρ).bind k):=by
 suffices h:∀(ds:List D)(j:Nat)(ρ:Rho),P j ρ->(∀ i d ρ,ds[i]?=some d->P (j+i) ρ->(∃ ρ2,(g d ρ).bind b=.ok (.nx ρ2)/\P (j+i+1) ρ2)∨∃ r,(g d ρ).bind b=.ok (.ret r)/\Q (k (.ret r)))->(∃ ρ',loop g b ds ρ=.ok (.nx ρ')/\P (j+ds.length) ρ')∨∃ r,loop g b ds ρ=.ok (.ret r)/\Q (k (.ret r)) by
  rcases h ds 0 ρ h0 (fun i d ρ hd hp=>by rw[Vm] at hp ⊢;exact st i d ρ hd hp) with⟨ρ',e,hp⟩ | ⟨r,e,hq⟩
  ·rw[e]
   exact fi ρ' (by rw[Vm] at hp;exact hp)
  ·rw[e]
   exact hq
 intro ds
 induction ds with
 | nil=>intro j ρ hp _;exact .inl ⟨ρ,rfl,hp⟩
 | cons d ds ih=>
  intro j ρ hp st;rcases st 0 d ρ rfl hp with⟨ρ2,e,hp2⟩ | ⟨r,e,hq⟩
  ·have e3:loop g b (d::ds) ρ=loop g b ds ρ2:=by
    rw[loop]
    cases hg:g d ρ with
    | no=>rw[hg] at e;cases e
    | err c=>rw[hg] at e;cases e
    | ok ρ1=>
     rw[hg] at e;have e2:b ρ1=.ok (.nx ρ2):=e;simp only[Res.bind,e2]
   rw[e3]
   rcases ih (j+1) ρ2 hp2 (fun i d' ρ' hd hp=>by
    have:=st (i+1) d' ρ' (by simpa using hd) (by rw[show j+(i+1)=j+1+i by omega];exact hp)
    rw[show j+(i+1)=j+1+i by omega] at this
    exact this) with⟨ρ',e',hp'⟩ | h
   ·exact .inl ⟨ρ',e',by rw[Qm,show j+(ds.length+1)=j+1+ds.length by omega];exact hp'⟩
   ·exact .inr h
  ·refine .inr ⟨r,?_,hq⟩
   rw[loop]
   cases hg:g d ρ with
   | no=>rw[hg] at e;cases e
   | err c=>rw[hg] at e;cases e
   | ok ρ1=>
    rw[hg] at e;have e2:b ρ1=.ok (.ret r):=e;simp only[Res.bind,e2]
def zRu(ds:List D):D->Res (List D)
 | .int k=>if 0<=k/\k<2^62/\ds.length*k.toNat<=16777216 then .ok (List.replicate k.toNat ds).flatten else .no
 | _=>.no
def repF(g:Ev)(ρ:Rho)(ds:List D):Res (List D):=(g ρ).bind (zRu ds)
theorem fRep_at{f:Fv}{g:Ev}{ρ:Rho}:zMQ f g ρ=(f ρ).bind (repF g ρ):=by
 unfold zMQ repF;congr
theorem zEW{d:D}{k:Nat}(h:k<=16777216):zRu [d] (.int (k:Int))=.ok (List.replicate k d):=by
 have e:∀ n,(List.replicate n [d]).flatten=List.replicate n d:=by
  intro n
  induction n with
  | zero=>rfl
  | succ n ih=>rw[VA,VN,ih];rfl
 unfold zRu;dsimp only
 rw[if_pos ⟨by omega,by omega,by simp only[Qm,Xg,Q4];omega⟩,Q4,e]
theorem zIU{α:Type}{u:α->D}{f:Ev}{ρ:Rho}{g:α->D}:∀ {l:List α},(∀ a∈l,f (ρ++[.val (u a)])=.ok (g a))->gG jM f ρ (l.map u)=.ok (l.map g)
 | [],_=>rfl
 | a::l,h=>by
  rw[Qq,gG,h a Qb];simp only[jM,noErr,Res.bind,if_true];rw[zIU fun b hb=>h b (Qd _ hb)];rfl
theorem fT{α:Type}{u:α->D}{f:Ev}{ρ:Rho}{g:α->D}{l:List α}(hl:l.length<=16777215)(h:∀ a∈l,f (ρ++[.val (u a)])=.ok (g a)):zCR jM f ρ (l.map u)=.ok (l.map g):=by
 unfold zCR;rw[if_pos (by rw[Qe];exact hl),zIU h]
theorem bSum_l{ns:List Int}:zCv [.lst (ns.map D.int)]=.ok (.int ns.sum):=by
 have e:∀ ns:List Int,oK (ns.map D.int)=some ns:=by
  intro ns
  induction ns with
  | nil=>rfl
  | cons i ns ih=>rw[Qq,oK,ih]
 show(match oK (ns.map D.int) with | some ns=>Res.ok (D.int ns.sum) | none=>.no)=_
 rw[e]
theorem bSum_t{ns:List Int}:zCv [.tup (ns.map D.int)]=.ok (.int ns.sum):=by
 have e:∀ ns:List Int,oK (ns.map D.int)=some ns:=by
  intro ns
  induction ns with
  | nil=>rfl
  | cons i ns ih=>rw[Qq,oK,ih]
 show(match oK (ns.map D.int) with | some ns=>Res.ok (D.int ns.sum) | none=>.no)=_
 rw[e]
def slI(i:Nat)(ρ:Rho):Int:=match ρ[i]? with
 | some (.val (.int x))=>x
 | _=>0
theorem chO_s{c:Nat}:chO (some c)=.ok (.str ⟨#[c]⟩):=rfl
theorem zPz{x:Str}:dep (.str x)<=50:=by simp[dep]
theorem oEq_s{x y:Str}:oEq (.str x) (.str y)=.ok (.bl (x==y)):=by
 unfold oEq;rw[if_pos zPz,eqD]
theorem oNe_s{x y:Str}:oNe (.str x) (.str y)=.ok (.bl (!(x==y))):=by
 unfold oNe;rw[if_pos zPz,eqD]
theorem eH{g:Gv}{b:Sv}{d:D}{ds:List D}{ρ ρ1 ρ2:Rho}(hg:g d ρ=.ok ρ1)(hb:b ρ1=.ok (.nx ρ2)):loop g b (d::ds) ρ=loop g b ds ρ2:=by
 rw[loop];simp only[hg,Res.bind,hb]
theorem oTabNot_s{T:List (Str×Str)}{x:Str}:qW T (.str x)=.ok (.bl (!(T.lookup x).isSome)):=rfl
theorem zBW{α:Type}(p:α->Int):∀ l:List α,oK (l.map fun a=>D.int (p a))=some (l.map p)
 | []=>rfl
 | a::l=>by rw[Qq,oK,zBW p l];rfl
def mx0:List Int->Int
 | []=>0
 | a::r=>zP a r
theorem zHZ{α:Type}{p:α->Int}{l:List α}:zDV [.lst (l.map fun a=>D.int (p a)),.int 0]=.ok (.int (mx0 (l.map p))):=by
 show(match oK (l.map fun a=>D.int (p a)) with | some (a::r)=>Res.ok (D.int (zP a r)) | some []=>.ok (.int 0) | none=>.no)=_
 rw[zBW];cases l<;>rfl
def zSw:List D->Res (List D)
 | [x,y]=>match zJW x,zJW y with
  | some xs,some ys=>.ok (kO xs ys)
  | _,_=>.no
 | _=>.no
theorem iZip_at{a:Fv}{ρ:Rho}:zMh a ρ=(a ρ).bind zSw:=by
 unfold zMh;congr
theorem oY{x y:D}{xs ys:List D}(hx:zJW x=some xs)(hy:zJW y=some ys):zSw [x,y]=.ok (kO xs ys):=by
 show(match zJW x,zJW y with | some xs,some ys=>Res.ok (kO xs ys) | _,_=>.no)=_
 rw[hx,hy]
def zNV:D->Res (List D)
 | .lst ds=>.ok (pK 0 ds)
 | .tup ds=>.ok (pK 0 ds)
 | _=>.no
theorem enumF_t{ds:List D}:zNV (.tup ds)=.ok (pK 0 ds):=rfl
theorem enumF_l{ds:List D}:zNV (.lst ds)=.ok (pK 0 ds):=rfl
theorem iEnum_at{e:Ev}{ρ:Rho}:zJZ e ρ=(e ρ).bind zNV:=by
 unfold zJZ;congr
def zIp(f:Ev)(ρ:Rho)(ds:List D):Res (List D):=if ds.length<=16777215 then gF f ρ ds else .no
theorem fComp2_at{it:Fv}{f:Ev}{ρ:Rho}:vW it f ρ=(it ρ).bind (zIp f ρ):=rfl
theorem zEF{α β:Type}{u:α->D}{v:β->D}{f:Ev}{ρ:Rho}{g:α->β->D}:∀ {l:List α} {m:List β},(∀ p∈l.zip m,f (ρ++[.val (u p.1),.val (v p.2)])=.ok (g p.1 p.2))->
  gF f ρ (kO (l.map u) (m.map v))=.ok ((l.zip m).map fun p=>g p.1 p.2)
 | [],m,h=>by cases m<;>rfl
 | a::l,[],h=>rfl
 | a::l,b::m,h=>by
  have h1:=h (a,b) Qb;have h2:=zEF (l:=l) (m:=m) (u:=u) (v:=v) (g:=g) fun p hp=>h p (Qd _ hp)
  show(noErr (f (ρ++[.val (u a),.val (v b)]))).bind (fun e=>(gF f ρ (kO (l.map u) (m.map v))).bind fun es=>.ok (e::es))=_
  rw[h1,h2];rfl
theorem mP{α β:Type}{u:α->D}{v:β->D}{f:Ev}{ρ:Rho}{g:α->β->D}{l:List α}{m:List β}(hl:l.length<=16777215)(h:∀ p∈l.zip m,f (ρ++[.val (u p.1),.val (v p.2)])=.ok (g p.1 p.2)):
  zIp f ρ (kO (l.map u) (m.map v))=.ok ((l.zip m).map fun p=>g p.1 p.2):=by
 unfold zIp;rw[if_pos,zEF h]
 have:∀(a b:List D),(kO a b).length<=a.length:=by
  intro a
  induction a with
  | nil=>intro b;cases b<;>exact Qh _
  | cons x a ih=>intro b;cases b with
   | nil=>exact QP _
   | cons y b=>exact XS (ih b)
 exact QE (this _ _) (by rw[Qe];exact hl)
end L3
namespace Ln
open Fq
abbrev Pt:=Rat×Rat
def asc(a b:Pt):Prop:=a.1<b.1/\a.2<=b.2
def btw(a b c:Pt):Bool:=decide ((b.2-a.2)*(c.1-b.1)=(c.2-b.2)*(b.1-a.1))
def push:List Pt->Pt->List Pt
 | b::a::s,c=>if btw a b c=true then c::a::s else c::b::a::s
 | s,c=>c::s
theorem zFK{s:List Pt}{c:Pt}(h:¬ 1<s.length):push s c=c::s:=by
 match s,h with
 | [],_=>rfl
 | [b],_=>rfl
 | b::a::s,h=>exact absurd (show 1<s.length+2 by omega) h
def mG(ps:List Pt):List Pt:=(ps.foldl push []).reverse
def few:Pt->List Pt->List Pt
 | _,[]=>[]
 | _,[b]=>[b]
 | a,b::c::r=>if btw a b c=true then few b (c::r) else b::few b (c::r)
def zBZ:List Pt->List Pt
 | []=>[]
 | a::r=>a::few a r
def dir(a p b:Pt):Prop:=a.1<b.1/\p.1<b.1/\(b.2-a.2)*(b.1-p.1)=(b.2-p.2)*(b.1-a.1)
theorem jX{x a b:Rat}(h:x≠0)(e:a*x=b*x):a=b:=by
 have:a*x*x⁻¹=b*x*x⁻¹:=by rw[e]
 rw[Rat.mul_assoc,Rat.mul_assoc,Vn _ h,Rat.mul_one,Rat.mul_one] at this;exact this
theorem uO{a p b c:Pt}(h:dir a p b):btw a b c=btw p b c:=by
 obtain⟨h1,h2,h3⟩:=h;unfold btw;have n1:b.1-a.1≠0:=by grind
 have n2:b.1-p.1≠0:=by grind
 congr 1
 apply propext
 constructor
 ·intro e
  refine jX n1 ?_
  grind
 ·intro e
  refine jX n2 ?_
  grind
theorem zDO{a b c:Pt}(h:a.1<b.1)(k:b.1<c.1)(e:btw a b c=true):dir a b c:=by
 have e:=of_decide_eq_true e;refine⟨by grind,k,?_⟩
 grind
theorem zAV:∀(r:List Pt)(p b a:Pt)(s:List Pt),dir a p b->(b::r).Pairwise asc->(r.foldl push (b::a::s)).reverse=(a::s).reverse++few p (b::r)
 | [],p,b,a,s,_,_=>by simp[few]
 | c::r,p,b,a,s,h,hp=>by
  have hbc:asc b c:=(Qo.mp hp).1 c Qb;have hr:=(Qo.mp hp).2;rw[XH,push,few,uO h];by_cases e:btw p b c=true
  ·rw[if_pos e,if_pos e]
   exact zAV r b c a s (zDO h.1 hbc.1 (by rw[uO h];exact e)) hr
  ·rw[if_neg e,if_neg e,zAV r b c b (a::s) ⟨hbc.1,hbc.1,rfl⟩ hr]
   simp
theorem qF{ps:List Pt}(h:ps.Pairwise asc):mG ps=zBZ ps:=by
 unfold mG
 match ps,h with
 | [],_=>rfl
 | [a],_=>rfl
 | a::b::r,h=>
  have hab:=(Qo.mp h).1 b Qb;show(r.foldl push [b,a]).reverse=_
  rw[zAV r a b a [] ⟨hab.1,hab.1,rfl⟩ (Qo.mp h).2];rfl
theorem zDk:∀(r:List Pt)(a:Pt),(few a r).Sublist r
 | [],_=>List.Sublist.slnil
 | [b],_=>List.Sublist.refl _
 | b::c::r,a=>by
  rw[few];split
  ·exact(zDk (c::r) b).cons b
  ·exact(zDk (c::r) b).cons₂ b
theorem yK(ps:List Pt):(zBZ ps).Sublist ps:=by
 cases ps with
 | nil=>exact List.Sublist.slnil
 | cons a r=>exact(zDk r a).cons₂ a
theorem zEX:∀(r:List Pt)(a:Pt),(few a r).getLast?=r.getLast?
 | [],_=>rfl
 | [b],_=>rfl
 | b::c::r,a=>by
  have ih:=zEX (c::r) b;rw[few];split
  ·rw[ih];rfl
  ·rw[VR,ih]
   simp[VR]
theorem zDC(ps:List Pt):(zBZ ps).getLast?=ps.getLast?:=by
 cases ps with
 | nil=>rfl
 | cons a r=>rw[zBZ,VR,zEX,VR]
def zJS:List Pt->Prop
 | a::b::c::r=>btw a b c=false/\zJS (b::c::r)
 | _=>True
theorem zFi:∀(r:List Pt)(p b:Pt),(p::b::r).Pairwise asc->∃ d t,few p (b::r)=d::t/\b.1<=d.1/\(d.2-p.2)*(b.1-p.1)=(b.2-p.2)*(d.1-p.1)
 | [],p,b,_=>⟨b,[],rfl,Qf,rfl⟩
 | c::r,p,b,h=>by
  have h1:=Qo.mp h;have h2:=Qo.mp h1.2;have pb:=h1.1 b Qb;have bc:=h2.1 c Qb;rw[few];by_cases e:btw p b c=true
  ·rw[if_pos e]
   obtain⟨d,t,e1,l,e2⟩:=zFi r b c h1.2;have e3:=of_decide_eq_true e;refine⟨d,t,e1,by grind [asc],?_⟩
   have n:c.1-b.1≠0:=by grind [asc]
   refine jX n ?_
   have e4:(d.2-b.2)*(b.1-p.1)=(b.2-p.2)*(d.1-b.1):=by
    refine jX n ?_
    grind
   grind
  ·rw[if_neg e]
   exact⟨b,_,rfl,Qf,rfl⟩
theorem zAu:∀(r:List Pt)(a p b:Pt),dir a p b->(b::r).Pairwise asc->(p::b::r).Pairwise asc->zJS (a::few p (b::r))
 | [],a,p,b,_,_,_=>by simp[few,zJS]
 | c::r,a,p,b,h,hb,hp=>by
  have bc:=(Qo.mp hb).1 c Qb;have hc:=(Qo.mp hb).2;rw[few];by_cases e:btw p b c=true
  ·rw[if_pos e]
   exact zAu r a b c (zDO h.1 bc.1 (by rw[uO h];exact e)) hc hb
  ·rw[if_neg e]
   have ih:=zAu r b b c ⟨bc.1,bc.1,rfl⟩ hc hb;obtain⟨d,t,e1,l,e2⟩:=zFi r b c hb;rw[e1] at ih ⊢
   refine⟨?_,ih⟩
   rw[uO h];rw[Bool.eq_false_iff];intro z;apply e
   have z:=of_decide_eq_true z;refine decide_eq_true ?_
   have n:d.1-b.1≠0:=by grind [asc]
   refine jX n ?_
   grind
theorem zCX{ps:List Pt}(h:ps.Pairwise asc):zJS (zBZ ps):=by
 match ps,h with
 | [],_=>trivial
 | [a],_=>trivial
 | a::b::r,h=>
  have hab:=(Qo.mp h).1 b Qb;exact zAu r a a b ⟨hab.1,hab.1,rfl⟩ (Qo.mp h).2 h
def Ok(ps:List Pt):Prop:=ps.head?=some (0,0)/\ps.Pairwise asc
def zMw(ps:List Pt):Prop:=Ok ps/\zJS ps
theorem lM{ps:List Pt}(h:Ok ps):zMw (mG ps):=by
 rw[qF h.2];refine⟨⟨?_,h.2.sublist (yK ps)⟩,zCX h.2⟩
 obtain⟨h,_⟩:=h
 cases ps with
 | nil=>cases h
 | cons a r=>exact h
theorem kY{ps:List Pt}(h:ps.Pairwise asc){i j:Nat}{a b:Pt}(l:i<j)(ha:ps[i]?=some a)(hb:ps[j]?=some b):asc a b:=by
 obtain⟨hi,rfl⟩:=Qx.mp ha;obtain⟨hj,rfl⟩:=Qx.mp hb;exact Xo.mp h i j hi hj l
theorem lt_iff{p q:Rat}:p.num*q.den<q.num*p.den ↔ p<q:=Rat.lt_iff p q |>.symm
theorem zFE{t b:Int}(ht:0<t)(hb:0<b):0<Rat.divInt t b:=by
 rw[Vo];have h1:(0:Rat)<(t:Rat):=by exact_mod_cast ht
 have h2:(0:Rat)<(b:Rat):=by exact_mod_cast hb
 rw[QJ];exact XT h1 (XU.mpr h2)
theorem zCJ{t b:Int}(ht:0<=t)(hb:0<b):0<=Rat.divInt t b:=by
 rcases Int.lt_or_eq_of_le ht with h | h
 ·exact Qg (zFE h hb)
 ·rw[<-h,XV];exact Qf
def itp(p q:Pt)(x:Rat):Rat:=p.2+(x-p.1) / (q.1-p.1)*(q.2-p.2)
def aQ:List Pt->Rat->Rat
 | [],_=>0
 | [p],_=>p.2
 | p::q::r,x=>if x<=q.1 then itp p q x else aQ (q::r) x
theorem zMZ(p q:Pt):itp p q p.1=p.2:=by
 unfold itp;rw[Rat.sub_self,QJ,XW,XW,Rat.add_zero]
theorem zNY{p q:Pt}(h:p.1<q.1):itp p q q.1=q.2:=by
 unfold itp;have n:q.1-p.1≠0:=by grind
 rw[QJ,Vn _ n,Rat.one_mul];grind
theorem bN:∀ {ps:List Pt},ps.Pairwise asc->∀ {i:Nat} {p:Pt},ps[i]?=some p->aQ ps p.1=p.2
 | [],_,i,p,hp=>by cases hp
 | [a],_,i,p,hp=>by
  cases i with
  | zero=>cases hp;rfl
  | succ i=>cases hp
 | a::b::r,h,i,p,hp=>by
  have hab:=(Qo.mp h).1 b Qb;rw[aQ]
  match i,hp with
  | 0,hp=>
   cases hp;rw[if_pos (Qg hab.1),zMZ]
  | 1,hp=>
   cases hp;rw[if_pos Qf,zNY hab.1]
  | i+2,hp=>
   have hb:asc b p:=kY h (show 1<i+2 by omega) rfl hp
   rw[if_neg (by have:=hb.1;grind)];exact bN (Qo.mp h).2 (i:=i+1) hp
theorem cQ:∀ {ps:List Pt},ps.Pairwise asc->∀ {i:Nat} {p q:Pt} {x:Rat},ps[i]?=some p->ps[i+1]?=some q->p.1<=x->x<=q.1->aQ ps x=itp p q x
 | [],_,i,p,q,x,hp,_,_,_=>by cases hp
 | [a],_,i,p,q,x,hp,hq,_,_=>by cases hq
 | a::b::r,h,i,p,q,x,hp,hq,h1,h2=>by
  have hab:=(Qo.mp h).1 b Qb
  cases i with
  | zero=>
   cases hp;cases hq;rw[aQ,if_pos h2]
  | succ i=>
   have hr:=(Qo.mp h).2;by_cases c:x=p.1
   ·subst c
    rw[zMZ];exact bN h hp
   ·rw[aQ,if_neg]
    ·exact cQ hr (i:=i) hp hq h1 h2
    ·intro z
     cases i with
     | zero=>
      cases hp;exact c (by grind)
     | succ i=>
      have hb:asc b p:=kY h (show 1<i+1+1 by omega) rfl hp
      have:=hb.1
      grind
def ax:Bool->Pt->Rat
 | false,p=>p.1
 | true,p=>p.2
def axi:Bool->Int
 | false=>0
 | true=>1
theorem kF{ps:List Pt}(h:ps.Pairwise asc)(b:Bool){i j:Nat}{p q:Pt}(l:i<=j)(hp:ps[i]?=some p)(hq:ps[j]?=some q):ax b p<=ax b q:=by
 rcases VS l with l | l
 ·have:=kY h l hp hq
  cases b
  ·exact Qg this.1
  ·exact this.2
 ·subst l
  rw[hp] at hq;cases hq;exact Qf
theorem vB:∀ {ps:List Pt} {e:Pt} {x:Rat},ps.Pairwise asc->ps.getLast?=some e->(∀ p,ps.head?=some p->p.1<=x)->x<=e.1->
  (∃(i:Nat)(p:Pt),ps[i]?=some p/\p.1=x)∨∃(i:Nat)(p q:Pt),ps[i]?=some p/\ps[i+1]?=some q/\p.1<x/\x<q.1
 | [],e,x,_,he,_,_=>by cases he
 | [a],e,x,_,he,h0,h1=>by
  cases he;have:=h0 a rfl
  exact .inl ⟨0,a,rfl,by grind⟩
 | a::b::r,e,x,h,he,h0,h1=>by
  have ha:=h0 a rfl;by_cases c:a.1=x
  ·exact .inl ⟨0,a,rfl,c⟩
  by_cases d:x<b.1
  ·exact .inr ⟨0,a,b,rfl,rfl,by grind,d⟩
  ·rcases vB (Qo.mp h).2 (by rw[<-he];simp[VR]) (fun p hp=>by cases hp;grind) h1 with⟨i,p,h2,h3⟩ | ⟨i,p,q,h2,h3,h4⟩
   ·exact .inl ⟨i+1,p,h2,h3⟩
   ·exact .inr ⟨i+1,p,q,h2,h3,h4⟩
theorem zAC{p q:Pt}(h:asc p q){x y:Rat}(l:x<=y):itp p q x<=itp p q y:=by
 unfold itp;have n:0<(q.1-p.1)⁻¹:=XU.mpr (by have:=h.1;grind)
 rw[QJ,QJ];have m1:(x-p.1)*(q.1-p.1)⁻¹<=(y-p.1)*(q.1-p.1)⁻¹:=Q5 (by grind) (Qg n)
 have m2:=Q5 m1 (show 0<=q.2-p.2 by have:=h.2;grind)
 grind
theorem rM{p q:Pt}(h:asc p q){x:Rat}(h1:p.1<=x)(h2:x<=q.1):p.2<=itp p q x/\itp p q x<=q.2:=by
 have a:=zAC h h1;have b:=zAC h h2;rw[zMZ] at a;rw[zNY h.1] at b;exact⟨a,b⟩
theorem gQ{ps:List Pt}{e:Pt}(h:Ok ps)(he:ps.getLast?=some e){x y:Rat}(h0:0<=x)(l:x<=y)(h1:y<=e.1):aQ ps x<=aQ ps y:=by
 obtain⟨hh,hp⟩:=h;have hd:∀ z,0<=z->∀ p,ps.head?=some p->p.1<=z:=fun z hz p hp=>by rw[hh] at hp;cases hp;exact hz
 have key:∀ {i j:Nat} {p q:Pt},i<=j->ps[i]?=some p->ps[j]?=some q->p.2<=q.2:=fun l hp' hq'=>kF hp true l hp' hq'
 have kx:∀ {i j:Nat} {p q:Pt},ps[i]?=some p->ps[j]?=some q->p.1<q.1->i<j:=by
  intro i j p q hp' hq' l;rcases Nat.lt_or_ge i j with g | g
  ·exact g
  ·have:=kF hp false g hq' hp'
   exact absurd (show q.1<=p.1 from this) (by grind)
 rcases vB hp he (hd x h0) (by grind) with⟨i,p,ip,ep⟩ | ⟨i,p,q,ip,iq,lp,lq⟩
 ·rcases vB hp he (hd y (by grind)) h1 with⟨j,u,ju,eu⟩ | ⟨j,u,v,ju,jv,lu,lv⟩
  ·rw[<-ep,<-eu,bN hp ip,bN hp ju]
   by_cases c:p.1=u.1
   ·have a1:=bN hp ip
    have a2:=bN hp ju;rw[c,a2] at a1;rw[a1];exact Qf
   ·exact key (Vr (kx ip ju (by grind))) ip ju
  ·rw[<-ep,bN hp ip,cQ hp ju jv (Qg lu) (Qg lv)]
   have huv:=kY hp (Q6 j) ju jv;have b:=rM huv (Qg lu) (Qg lv);have:i<j+1:=kx ip jv (by grind)
   have:=key (show i<=j by omega) ip ju
   grind
 ·rcases vB hp he (hd y (by grind)) h1 with⟨j,u,ju,eu⟩ | ⟨j,u,v,ju,jv,lu,lv⟩
  ·rw[<-eu,bN hp ju,cQ hp ip iq (Qg lp) (Qg lq)]
   have hpq:=kY hp (Q6 i) ip iq;have b:=rM hpq (Qg lp) (Qg lq);have:i<j:=kx ip ju (by grind)
   have:=key (show i+1<=j by omega) iq ju
   grind
  ·rw[cQ hp ip iq (Qg lp) (Qg lq),cQ hp ju jv (Qg lu) (Qg lv)]
   have hpq:=kY hp (Q6 i) ip iq;have huv:=kY hp (Q6 j) ju jv;have g1:i<j+1:=kx ip jv (by grind)
   rcases VS (show i<=j by omega) with g | g
   ·have b1:=rM hpq (Qg lp) (Qg lq)
    have b2:=rM huv (Qg lu) (Qg lv);have:=key (show i+1<=j by omega) iq ju
    grind
   ·subst g
    rw[ip] at ju;rw[iq] at jv;cases ju;cases jv;exact zAC hpq l
theorem sE{ps:List Pt}{e:Pt}(h:Ok ps)(he:ps.getLast?=some e){x:Rat}(h0:0<=x)(h1:x<=e.1):0<=aQ ps x/\aQ ps x<=e.2:=by
 have z:aQ ps 0=0:=bN h.2 (i:=0) (p:=(0,0)) (by rw[<-VB];exact h.1)
 have t:aQ ps e.1=e.2:=bN h.2 (i:=ps.length-1) (by rw[<-QR];exact he)
 have e0:0<=e.1:=by grind
 have a:=gQ h he (Qf) h0 h1;have b:=gQ h he h0 h1 Qf;grind
theorem zGq{a b c:Pt}(h1:a.1<b.1)(h2:b.1<c.1)(e:btw a b c=true):(b.2-a.2) / (b.1-a.1)=(c.2-a.2) / (c.1-a.1)/\(c.2-b.2) / (c.1-b.1)=(c.2-a.2) / (c.1-a.1):=by
 have e:=of_decide_eq_true e;have n1:b.1-a.1≠0:=by grind
 have n2:c.1-b.1≠0:=by grind
 have n3:c.1-a.1≠0:=by grind
 have i1:=Vn _ n1;have i2:=Vn _ n2;have i3:=Vn _ n3;rw[QJ,QJ,QJ];constructor
 ·refine jX n1 (jX n3 ?_)
  grind
 ·refine jX n2 (jX n3 ?_)
  grind
theorem dU(p q:Pt)(x:Rat):itp p q x=p.2+(x-p.1)*((q.2-p.2) / (q.1-p.1)):=by
 unfold itp;rw[QJ,QJ];grind
theorem zKy{a b c:Pt}(h1:a.1<b.1)(h2:b.1<c.1)(e:btw a b c=true)(x:Rat):itp a b x=itp a c x/\itp b c x=itp a c x:=by
 obtain⟨s1,s2⟩:=zGq h1 h2 e;rw[dU,dU,dU,s1,s2];refine⟨rfl,?_⟩
 have n1:b.1-a.1≠0:=by grind
 have i1:=Vn _ n1;rw[<-s1,QJ];generalize (b.1-a.1)⁻¹=u at i1;grind
theorem zKI{a b c:Pt}{r:List Pt}(h1:a.1<b.1)(h2:b.1<c.1)(e:btw a b c=true)(x:Rat):aQ (a::b::c::r) x=aQ (a::c::r) x:=by
 obtain⟨e1,e2⟩:=zKy h1 h2 e x;rw[aQ,aQ,aQ,e1,e2];by_cases c1:x<=b.1
 ·rw[if_pos c1,if_pos (by grind)]
 ·rw[if_neg c1]
theorem zCZ:∀(r:List Pt)(a p b:Pt)(x:Rat),dir a p b->(b::r).Pairwise asc->aQ (a::few p (b::r)) x=aQ (a::b::r) x
 | [],a,p,b,x,_,_=>rfl
 | c::r,a,p,b,x,h,hb=>by
  have bc:=(Qo.mp hb).1 c Qb;have hc:=(Qo.mp hb).2;rw[few];by_cases e:btw p b c=true
  ·have e':btw a b c=true:=by rw[uO h];exact e
   rw[if_pos e,zCZ r a b c x (zDO h.1 bc.1 e') hc,zKI h.1 bc.1 e']
  ·show _=(if x<=b.1 then itp a b x else aQ (b::c::r) x)
   rw[if_neg e,aQ,zCZ r b b c x ⟨bc.1,bc.1,rfl⟩ hc]
theorem xV{ps:List Pt}(h:ps.Pairwise asc)(x:Rat):aQ (mG ps) x=aQ ps x:=by
 rw[qF h]
 match ps,h with
 | [],_=>rfl
 | [a],_=>rfl
 | a::b::r,h=>
  have hab:=(Qo.mp h).1 b Qb;exact zCZ r a a b x ⟨hab.1,hab.1,rfl⟩ (Qo.mp h).2
theorem vQ{ps:List Pt}(h:ps.Pairwise asc):(mG ps).getLast?=ps.getLast?:=by rw[qF h,zDC]
theorem nV{ps:List Pt}(h:ps.Pairwise asc):(mG ps).Sublist ps:=by rw[qF h];exact yK ps
theorem zHQ{C:List Rat}(h:C.Pairwise (· < ·))(h0:(0:Rat)∈C)(hn:∀ x∈C,0<=x):C.head?=some 0:=by
 cases C with
 | nil=>cases h0
 | cons a C=>
  rcases Qc.mp h0 with e | e
  ·rw[<-e];rfl
  ·have h1:=(Qo.mp h).1 0 e
   have h2:=hn a Qb;grind
theorem zOq{C:List Rat}{e L:Rat}(h:C.Pairwise (· < ·))(he:C.getLast?=some e)(hL:L∈C)(hn:∀ x∈C,x<=L):e=L:=by
 obtain⟨j,hj⟩:=VT.mp hL;rw[QR] at he;have hjl:=(Qx.mp hj).1;have h1:=hn e (Qj he);rcases VS (show j<=C.length-1 by omega) with l | l
 ·obtain⟨hi,e1⟩:=Qx.mp hj
  obtain⟨hi2,e2⟩:=Qx.mp he;have:=Xo.mp h j (C.length-1) hi hi2 l
  rw[e1,e2] at this;grind
 ·subst l
  rw[he] at hj;cases hj;rfl
theorem zDJ{ps:List Pt}(h:ps.Pairwise asc):(ps.map Prod.fst).Pairwise (· < ·):=VC.mpr (h.imp fun a=>a.1)
theorem eA{ps:List Pt}{e p:Pt}(h:Ok ps)(he:ps.getLast?=some e)(hp:p∈ps):0<=p.1/\p.1<=e.1/\0<=p.2/\p.2<=e.2:=by
 obtain⟨i,hi⟩:=VT.mp hp;have hil:=(Qx.mp hi).1;have h0:ps[0]?=some (0,0):=by rw[<-VB];exact h.1
 rw[QR] at he;have a1:(0:Rat)<=p.1:=kF h.2 false (QP i) h0 hi;have a2:(0:Rat)<=p.2:=kF h.2 true (QP i) h0 hi;have b1:p.1<=e.1:=kF h.2 false (show i<=ps.length-1 by omega) hi he
 have b2:p.2<=e.2:=kF h.2 true (show i<=ps.length-1 by omega) hi he
 exact⟨a1,b1,a2,b2⟩
theorem zM{ps:List Pt}{e:Pt}{a b x:Rat}(h:Ok ps)(he:ps.getLast?=some e)(h0:0<=a)(hab:a<b)(hb:b<=e.1)(hno:∀ p∈ps,a<p.1->b<=p.1)(hx:a<=x)(xb:x<=b):
  (aQ ps x-aQ ps a)*(b-a)=(aQ ps b-aQ ps a)*(x-a):=by
 have key:∃(i:Nat)(p q:Pt),ps[i]?=some p/\ps[i+1]?=some q/\p.1<=a/\b<=q.1:=by
  rcases vB h.2 he (fun p hp=>by rw[h.1] at hp;cases hp;exact h0) (show a<=e.1 by grind) with⟨i,p,ip,ep⟩ | ⟨i,p,q,ip,iq,lp,lq⟩
  ·have hi:=(Qx.mp ip).1
   have hl:i+1<ps.length:=by
    rcases Nat.lt_or_ge (i+1) ps.length with l | l
    ·exact l
    ·rw[QR,show ps.length-1=i by omega,ip] at he
     cases he;grind
   have iq:ps[i+1]?=some ps[i+1]:=Qp hl;have:=(kY h.2 (Q6 i) ip iq).1
   exact⟨i,p,ps[i+1],ip,iq,by grind,hno _ (Qj iq) (by grind)⟩
  ·exact⟨i,p,q,ip,iq,Qg lp,hno _ (Qj iq) lq⟩
 obtain⟨i,p,q,ip,iq,l1,l2⟩:=key;rw[cQ h.2 ip iq l1 (by grind),cQ h.2 ip iq (show p.1<=x by grind) (by grind),cQ h.2 ip iq (show p.1<=b by grind) l2];rw[dU,dU,dU];grind
def rQ(ps qs:List Pt)(C:List Rat):List Pt:=C.map fun t=>(t,aQ ps (aQ qs t))
structure Joints (ps qs:List Pt) (f:Pt) (C:List Rat):Prop where
 asc:C.Pairwise (· < ·)
 own:∀ q∈qs,q.1∈C
 hit:∀ p∈ps,∃ t∈C,aQ qs t=p.1
 bd:∀ t∈C,0<=t/\t<=f.1
theorem zEG{ps qs:List Pt}{e f:Pt}{C:List Rat}(hp:Ok ps)(hq:Ok qs)(he:ps.getLast?=some e)(hf:qs.getLast?=some f)(hL:e.1=f.2)(J:Joints ps qs f C):
  Ok (rQ ps qs C)/\(rQ ps qs C).getLast?=some (f.1,e.2):=by
 have z0:(0:Rat)∈C:=J.own (0,0) (List.mem_of_mem_head? (by rw[hq.1];rfl))
 have zL:f.1∈C:=J.own f (XX hf);have v0:∀ {ls:List Pt},Ok ls->aQ ls 0=0:=fun {ls} h=>bN h.2 (i:=0) (p:=(0,0)) (by rw[<-VB];exact h.1)
 have vL:∀ {ls:List Pt} {u:Pt},Ok ls->ls.getLast?=some u->aQ ls u.1=u.2:=fun {ls u} h hu=>bN h.2 (i:=ls.length-1) (by rw[<-QR];exact hu)
 refine⟨⟨?_,?_⟩,?_⟩
 ·unfold rQ
  rw[Xh,zHQ J.asc z0 fun x hx=>(J.bd x hx).1];show some (0,aQ ps (aQ qs 0))=_
  rw[v0 hq,v0 hp]
 ·unfold rQ
  refine VC.mpr (V3 ?_ J.asc)
  intro a b ha hb hab;have b1:=sE hq hf (J.bd a ha).1 (J.bd a ha).2;have b2:=sE hq hf (J.bd b hb).1 (J.bd b hb).2;exact⟨hab,gQ hp he b1.1 (gQ hq hf (J.bd a ha).1 (Qg hab) (J.bd b hb).2) (by rw[hL];exact b2.2)⟩
 ·unfold rQ
  rw[VD]
  cases hc:C.getLast? with
  | none=>rw[List.getLast?_eq_none_iff] at hc;rw[hc] at z0;cases z0
  | some u=>
   have:u=f.1:=zOq J.asc hc zL fun x hx=>(J.bd x hx).2
   subst this;show some (f.1,aQ ps (aQ qs f.1))=_
   rw[vL hq hf,<-hL,vL hp he]
theorem zHN{ps qs:List Pt}{e f:Pt}{C:List Rat}(hp:Ok ps)(hq:Ok qs)(he:ps.getLast?=some e)(hf:qs.getLast?=some f)(hL:e.1=f.2)(J:Joints ps qs f C){x:Rat}(h0:0<=x)(h1:x<=f.1):
  aQ (rQ ps qs C) x=aQ ps (aQ qs x):=by
 obtain⟨ok,la⟩:=zEG hp hq he hf hL J
 have at':∀ {i:Nat} {u:Pt},(rQ ps qs C)[i]?=some u->C[i]?=some u.1/\u.2=aQ ps (aQ qs u.1):=by
  intro i u hu;unfold rQ at hu;rw[Qu] at hu
  cases hc:C[i]? with
  | none=>rw[hc] at hu;cases hu
  | some c=>rw[hc] at hu;cases hu;exact⟨rfl,rfl⟩
 rcases vB ok.2 la (fun p hp=>by rw[ok.1] at hp;cases hp;exact h0) h1 with⟨i,u,iu,eu⟩ | ⟨i,u,v,iu,iv,lu,lv⟩
 ·obtain⟨_,e2⟩:=at' iu
  rw[<-eu,bN ok.2 iu,e2]
 ·obtain⟨c1,e1⟩:=at' iu
  obtain⟨d1,e2⟩:=at' iv;rw[cQ ok.2 iu iv (Qg lu) (Qg lv)];have hC:=J.asc
  have out:∀ t∈C,t<=u.1∨v.1<=t:=by
   intro t ht;obtain⟨j,hj⟩:=VT.mp ht
   have lt:∀ {i j:Nat} {a b:Rat},i<j->C[i]?=some a->C[j]?=some b->a<b:=by
    intro i j a b l ha hb;obtain⟨hi,rfl⟩:=Qx.mp ha;obtain⟨hj,rfl⟩:=Qx.mp hb;exact Xo.mp hC i j hi hj l
   rcases Nat.lt_trichotomy j i with l | l | l
   ·exact .inl (Qg (lt l hj c1))
   ·subst l;rw[hj] at c1;cases c1;exact .inl Qf
   ·rcases VS (show i+1<=j by omega) with l | l
    ·exact .inr (Qg (lt l d1 hj))
    ·subst l;rw[hj] at d1;cases d1;exact .inr Qf
  have bu:=J.bd u.1 (Qj c1);have bv:=J.bd v.1 (Qj d1);have luv:u.1<v.1:=by grind
  have l2:=zM hq hf bu.1 luv bv.2 (fun p hp l=>by
   rcases out p.1 (J.own p hp) with z | z
   ·grind
   ·exact z) (Qg lu) (Qg lv)
  have mA:=gQ hq hf bu.1 (Qg lu) (show x<=f.1 by grind)
  have mB:=gQ hq hf (show 0<=x by grind) (Qg lv) bv.2
  have nA:=sE hq hf bu.1 bu.2;have nB:=sE hq hf bv.1 bv.2;have n:v.1-u.1≠0:=by grind
  have i1:=Vn _ n;unfold itp;rw[e1,e2,QJ]
  have fin:(aQ ps (aQ qs x)-aQ ps (aQ qs u.1))*(v.1-u.1)=(aQ ps (aQ qs v.1)-aQ ps (aQ qs u.1))*(x-u.1):=by
   by_cases c:aQ qs u.1=aQ qs v.1
   ·have:aQ qs x=aQ qs u.1:=by grind
    rw[this,<-c];grind
   ·have AB:aQ qs u.1<aQ qs v.1:=by grind
    have l1:=zM hp he nA.1 AB (by rw[hL];exact nB.2) (fun p hp' l=>by
     obtain⟨t,ht,et⟩:=J.hit p hp';have bt:=J.bd t ht;rcases out t ht with z | z
     ·have:=gQ hq hf bt.1 z bu.2
      grind
     ·have:=gQ hq hf bv.1 z bt.2
      grind) mA mB
    have nn:aQ qs v.1-aQ qs u.1≠0:=by grind
    refine jX nn ?_
    grind
  generalize (v.1-u.1)⁻¹=w at i1;refine jX n ?_
  grind
def zFr(ps:List Pt)(y r:Rat):Prop:=∃(k:Nat)(q:Pt),ps[k]?=some q/\(∀(j:Nat)(p:Pt),j<k->ps[j]?=some p->p.2<y)/\
 ((q.2=y/\r=q.1)∨(0<k/\y<q.2/\∃ p:Pt,ps[k-1]?=some p/\p.2<y/\r=itp (p.2,p.1) (q.2,q.1) y))
theorem zFr.val{ps:List Pt}{e:Pt}{y r:Rat}(h:Ok ps)(he:ps.getLast?=some e)(u:zFr ps y r):aQ ps r=y/\0<=r/\r<=e.1:=by
 obtain⟨k,q,hq,hj,c⟩:=u;have bq:=eA h he (Qj hq);rcases c with⟨c1,rfl⟩ | ⟨k0,l,p,hp,lp,rfl⟩
 ·exact⟨by rw[bN h.2 hq,c1],bq.1,bq.2.1⟩
 ·have bp:=eA h he (Qj hp)
  have hq':ps[k-1+1]?=some q:=by rw[show k-1+1=k by omega];exact hq
  have pq:=kY h.2 (Q6 (k-1)) hp hq';have sw:asc (p.2,p.1) (q.2,q.1):=⟨by show p.2<q.2;grind,Qg pq.1⟩
  have b:=rM sw (x:=y) (Qg lp) (Qg l);have b1:p.1<=itp (p.2,p.1) (q.2,q.1) y:=b.1;have b2:itp (p.2,p.1) (q.2,q.1) y<=q.1:=b.2;refine⟨?_,by grind,by grind⟩
  rw[cQ h.2 hp hq' b1 b2];have n1:q.1-p.1≠0:=by have:=pq.1;grind
  have n2:q.2-p.2≠0:=by grind
  have i1:=Vn _ n1;have i2:=Vn _ n2;unfold itp;dsimp only
  rw[QJ,QJ];generalize (q.1-p.1)⁻¹=a at i1;generalize (q.2-p.2)⁻¹=b at i2;grind
theorem oE{a p:Pt}{r:List Pt}(h:(a::p::r).Pairwise asc){x:Rat}(hx:p.1<=x):aQ (a::p::r) x=aQ (p::r) x:=by
 have hp:=(Qo.mp h).2;have ap:=(Qo.mp h).1 p Qb;rw[aQ];by_cases c:x<=p.1
 ·have e:x=p.1:=by grind
  rw[if_pos c,e,zNY ap.1];exact(bN hp (i:=0) rfl).symm
 ·rw[if_neg c]
theorem zCs{a p q e f:Pt}{r s:List Pt}(hr:(a::p::r).Pairwise asc)(hs:(a::q::s).Pairwise asc)(br:zJS (a::p::r))(er:(a::p::r).getLast?=some e)(es:(a::q::s).getLast?=some f)(ef:e.1=f.1)
  (hv:∀ x,a.1<=x->x<=e.1->aQ (a::p::r) x=aQ (a::q::s) x):¬ p.1<q.1:=by
 intro l;have ap:=(Qo.mp hr).1 p Qb;have aq:=(Qo.mp hs).1 q Qb
 have qf:q.1<=f.1:=by
  rw[QR] at es;exact kF hs false (i:=1) (show 1<=(a::q::s).length-1 by simp) rfl es
 cases r with
 | nil=>
  cases er;have:p.1=f.1:=ef
  grind
 | cons u r=>
  have hp:=(Qo.mp hr).2;have pu:=(Qo.mp hp).1 u Qb
  have ue:u.1<=e.1:=by
   rw[QR] at er;exact kF hr false (i:=2) (show 2<=(a::p::u::r).length-1 by simp) rfl er
  have key:∀ x,p.1<x->x<=u.1->x<=q.1->btw a p u=true:=by
   intro x h1 h2 h3;have v1:=hv p.1 (Qg ap.1) (by grind)
   have v2:=hv x (by have:=ap.1;grind) (by grind)
   rw[oE hr Qf,bN hp (i:=0) rfl,aQ,if_pos (Qg l)] at v1;rw[oE hr (Qg h1),aQ,if_pos h2,aQ,if_pos h3] at v2;rw[dU] at v1;rw[dU,dU] at v2;generalize (q.2-a.2) / (q.1-a.1)=k at v1 v2;have n1:x-p.1≠0:=by grind
   have n2:u.1-p.1≠0:=by have:=pu.1;grind
   have i2:=Vn _ n2;rw[QJ] at v2;generalize (u.1-p.1)⁻¹=w at i2 v2
   have s1:(u.2-p.2)*w=k:=by
    refine jX n1 ?_
    grind
   refine decide_eq_true ?_
   have s2:u.2-p.2=k*(u.1-p.1):=by
    have:(u.2-p.2)*w*(u.1-p.1)=k*(u.1-p.1):=by rw[s1]
    grind
   grind
  have nb:=br.1;by_cases c:u.1<=q.1
  ·rw[key u.1 pu.1 Qf c] at nb
   cases nb
  ·rw[key q.1 l (by grind) Qf] at nb
   cases nb
theorem zFm:∀(r s:List Pt)(a e f:Pt),(a::r).Pairwise asc->(a::s).Pairwise asc->zJS (a::r)->zJS (a::s)->(a::r).getLast?=some e->(a::s).getLast?=some f->e.1=f.1->
  (∀ x,a.1<=x->x<=e.1->aQ (a::r) x=aQ (a::s) x)->r=s
 | [],[],_,_,_,_,_,_,_,_,_,_,_=>rfl
 | [],q::s,a,e,f,_,hs,_,_,er,es,ef,_=>by
  cases er;rw[QR] at es;have:=(kY hs (i:=0) (show 0<(a::q::s).length-1 by simp) rfl es).1
  grind
 | p::r,[],a,e,f,hr,_,_,_,er,es,ef,_=>by
  cases es;rw[QR] at er;have:=(kY hr (i:=0) (show 0<(a::p::r).length-1 by simp) rfl er).1
  grind
 | p::r,q::s,a,e,f,hr,hs,br,bs,er,es,ef,hv=>by
  have n1:=zCs hr hs br er es ef hv;have n2:=zCs hs hr bs es er ef.symm fun x h1 h2=>(hv x h1 (by rw[ef];exact h2)).symm
  have pq:p.1=q.1:=by grind
  have hp:=(Qo.mp hr).2;have hq:=(Qo.mp hs).2;have ap:=(Qo.mp hr).1 p Qb
  have pe:p.1<=e.1:=by
   have er':=er;rw[QR] at er';exact kF hr false (i:=1) (show 1<=(a::p::r).length-1 by simp) rfl er'
  have v:=hv p.1 (Qg ap.1) pe;rw[oE hr Qf,bN hp (i:=0) rfl,oE hs (show q.1<=p.1 by grind),pq,bN hq (i:=0) rfl] at v;have e1:p=q:=Prod.ext pq v;subst e1
  have br':zJS (p::r):=by
   cases r with
   | nil=>trivial
   | cons u r=>exact br.2
  have bs':zJS (p::s):=by
   cases s with
   | nil=>trivial
   | cons u s=>exact bs.2
  rw[zFm r s p e f hp hq br' bs' (by rw[<-er];simp[VR]) (by rw[<-es];simp[VR]) ef fun x h1 h2=>by
   have:=hv x (by have:=ap.1;grind) h2
   rw[oE hr h1,oE hs h1] at this
   exact this]
theorem zNb{ps qs:List Pt}{e f:Pt}(hp:zMw ps)(hq:zMw qs)(he:ps.getLast?=some e)(hf:qs.getLast?=some f)(ef:e.1=f.1)(hv:∀ x,0<=x->x<=e.1->aQ ps x=aQ qs x):ps=qs:=by
 cases ps with
 | nil=>cases he
 | cons a r=>
  cases qs with
  | nil=>cases hf
  | cons b s=>
   have h1:=hp.1.1;have h2:=hq.1.1;cases h1;cases h2;rw[zFm r s (0,0) e f hp.1.2 hq.1.2 hp.2 hq.2 he hf ef hv]
theorem zQC{p q:Pt}(h1:p.1<q.1)(h2:p.2<q.2){x y:Rat}(l:x<y):itp p q x<itp p q y:=by
 have n:0<(q.1-p.1)⁻¹:=XU.mpr (by grind)
 have s:0<(q.2-p.2)*(q.1-p.1)⁻¹:=XT (by grind) n
 rw[dU,dU,QJ];have:=Rat.mul_lt_mul_of_pos_right (show x-p.1<y-p.1 by grind) s
 grind
theorem zFr.least{ps:List Pt}{e:Pt}{y r:Rat}(h:Ok ps)(he:ps.getLast?=some e)(u:zFr ps y r){t:Rat}(t0:0<=t)(l:t<r):aQ ps t<y:=by
 have hv:=u.val h he;obtain⟨k,q,hq,hj,c⟩:=u;have h00:ps[0]?=some (0,0):=by rw[<-VB];exact h.1
 have k0:0<k:=by
  rcases XY k with z | z
  ·subst z
   rw[h00] at hq;cases hq;rcases c with⟨_,c⟩ | ⟨c,_⟩
   ·have:r=0:=c
    grind
   ·exact absurd c (by decide)
  ·exact z
 have hkl:=(Qx.mp hq).1;have hp:ps[k-1]?=some ps[k-1]:=Qp (by omega)
 have hq':ps[k-1+1]?=some q:=by rw[show k-1+1=k by omega];exact hq
 have lp:=hj _ _ (show k-1<k by omega) hp
 have pq:=kY h.2 (Q6 (k-1)) hp hq';have vp:=bN h.2 hp;generalize ps[k-1]=p at hp lp pq vp
 have yq:y<=q.2:=by
  rcases c with⟨c,_⟩ | ⟨_,c,_⟩
  ·rw[c];exact Qf
  ·exact Qg c
 have rq:r<=q.1:=by
  rcases c with⟨_,c⟩ | ⟨_,c1,p',hp',lp',c⟩
  ·rw[c];exact Qf
  ·rw[c]
   rw[hp] at hp';cases hp'
   have sw:asc (p.2,p.1) (q.2,q.1):=⟨by show p.2<q.2;grind,Qg pq.1⟩
   exact(rM sw (x:=y) (Qg lp) yq).2
 by_cases c1:t<=p.1
 ·have bp:=eA h he (Qj hp)
  have:=gQ h he t0 c1 bp.2.1
  grind
 ·have e1:=cQ h.2 hp hq' (x:=t) (by grind) (by grind)
  have e2:=cQ h.2 hp hq' (x:=r) (by grind) rq
  have:=zQC pq.1 (show p.2<q.2 by grind) l
  rw[e1];rw[e2] at hv;grind
theorem zFr.uniq{ps:List Pt}{e:Pt}{y r r':Rat}(h:Ok ps)(he:ps.getLast?=some e)(u:zFr ps y r)(v:aQ ps r'=y)(r0:0<=r')(lt:∀ t,0<=t->t<r'->aQ ps t<y):r=r':=by
 have hv:=u.val h he;by_cases l:r<r'
 ·have:=lt r hv.2.1 l
  grind
 ·by_cases l2:r' < r
  ·have:=u.least h he r0 l2
   grind
  ·grind
end Ln
namespace L3
open PySem PySem.Spec PyProof.Rows L2
abbrev St:=L2.St
mutual
inductive IsD (K:PySem.W.Frag) (H:Hp):V->D->Prop where
 | non:IsD K H .non .non
 | bl (b:Bool):IsD K H (.bl b) (.bl b)
 | int (i:Int):IsD K H (.int i) (.int i)
 | str (x:Str):IsD K H (.str x) (.str x)
 | tup {a:Addr} {xs:List V} {ds:List D}:SqT K H a xs->IsDs K H xs ds->IsD K H (.ref a) (.tup ds)
 | lst {a:Addr} {xs:List V} {ds:List D}:SqL K H a xs->IsDs K H xs ds->IsD K H (.ref a) (.lst ds)
inductive IsDs (K:PySem.W.Frag) (H:Hp):List V->List D->Prop where
 | nil:IsDs K H [] []
 | cons {v:V} {d:D} {vs:List V} {ds:List D}:IsD K H v d->IsDs K H vs ds->IsDs K H (v::vs) (d::ds)
end
theorem _root_.L2.Same.rd{H H':Hp}(e:Same H H'){a:Addr}{u:HO}(h:Rd H a u):Rd H' a u:=by
 rcases h with h | ⟨o,h⟩
 ·exact .inl (e _ _ h)
 ·exact .inr ⟨o,e _ _ h⟩
theorem cC{K:Fg_}{H H':Hp}(e:Same H H'){a:Addr}{xs:List V}(h:SqT K H a xs):SqT K H' a xs:=h.imp (Same.rd e) id
theorem cE{K:Fg_}{H H':Hp}(e:Same H H'){a:Addr}{xs:List V}(h:SqL K H a xs):SqL K H' a xs:=h.imp (Same.rd e) id
section
variable{K:Fg_}{H H':Hp}
mutual
theorem IsD.mono(e:Same H H'):∀ {v:V} {d:D},IsD K H v d->IsD K H' v d
 | _,_,.non=>.non
 | _,_,.bl b=>.bl b
 | _,_,.int i=>.int i
 | _,_,.str x=>.str x
 | _,_,.tup h hs=>.tup (cC e h) (IsDs.mono e hs)
 | _,_,.lst h hs=>.lst (cE e h) (IsDs.mono e hs)
theorem IsDs.mono(e:Same H H'):∀ {vs:List V} {ds:List D},IsDs K H vs ds->IsDs K H' vs ds
 | _,_,.nil=>.nil
 | _,_,.cons h hs=>.cons (IsD.mono e h) (IsDs.mono e hs)
end
theorem IsDs.length:∀ {vs:List V} {ds:List D},IsDs K H vs ds->vs.length=ds.length
 | _,_,.nil=>rfl
 | _,_,.cons _ hs=>by rw[Qm,Qm,IsDs.length hs]
theorem IsDs.at:∀ {vs:List V} {ds:List D} {j:Nat} {d:D},IsDs K H vs ds->ds[j]?=some d->∃ v,vs[j]?=some v/\IsD K H v d
 | _,_,_,_,.nil,e=>by simp at e
 | _,_,0,_,.cons r _,e=>by simp at e;subst e;exact⟨_,rfl,r⟩
 | _,_,j+1,d,.cons _ t,e=>by
  obtain⟨v,h1,h2⟩:=IsDs.at (j:=j) (d:=d) t (by simpa using e)
  exact⟨v,by simpa using h1,h2⟩
theorem IsDs.append:∀ {vs ws:List V} {ds es:List D},IsDs K H vs ds->IsDs K H ws es->IsDs K H (vs++ws) (ds++es)
 | _,_,_,_,.nil,s=>s
 | _,_,_,_,.cons r t,s=>.cons r (IsDs.append t s)
theorem IsDs.take:∀ {vs:List V} {ds:List D} (n:Nat),IsDs K H vs ds->IsDs K H (vs.take n) (ds.take n)
 | _,_,0,_=>.nil
 | _,_,_+1,.nil=>.nil
 | _,_,n+1,.cons r t=>.cons r (IsDs.take n t)
theorem IsDs.drop:∀ {vs:List V} {ds:List D} (n:Nat),IsDs K H vs ds->IsDs K H (vs.drop n) (ds.drop n)
 | _,_,0,r=>r
 | _,_,_+1,.nil=>.nil
 | _,_,n+1,.cons _ t=>IsDs.drop n t
theorem IsDs.dropLast:∀ {vs:List V} {ds:List D},IsDs K H vs ds->IsDs K H vs.dropLast ds.dropLast
 | _,_,.nil=>.nil
 | _,_,.cons _ .nil=>.nil
 | _,_,.cons r (.cons q t)=>.cons r (IsDs.dropLast (.cons q t))
theorem IsDs.set{v:V}{d:D}(h:IsD K H v d):∀ {vs:List V} {ds:List D} (j:Nat),IsDs K H vs ds->IsDs K H (vs.set j v) (ds.set j d)
 | _,_,_,.nil=>.nil
 | _,_,0,.cons _ t=>.cons h t
 | _,_,j+1,.cons q t=>.cons q (IsDs.set h j t)
mutual
theorem IsD.noL(k:∀ b xs,Rd H b (.tup xs)->Rd H' b (.tup xs)):∀ {v:V} {d:D},IsD K H v d->L3.noL d=true->IsD K H' v d
 | _,_,.non,_=>.non
 | _,_,.bl b,_=>.bl b
 | _,_,.int i,_=>.int i
 | _,_,.str x,_=>.str x
 | _,_,.tup h hs,e=>.tup (h.imp (k _ _) id) (IsDs.noL k hs (by rw[L3.noL] at e;exact e))
 | _,_,.lst h hs,e=>by rw[L3.noL] at e;cases e
theorem IsDs.noL(k:∀ b xs,Rd H b (.tup xs)->Rd H' b (.tup xs)):∀ {vs:List V} {ds:List D},IsDs K H vs ds->L3.noLs ds=true->IsDs K H' vs ds
 | _,_,.nil,_=>.nil
 | _,_,.cons h hs,e=>by
  rw[L3.noLs,Ve] at e;exact .cons (IsD.noL k h e.1) (IsDs.noL k hs e.2)
end
end
theorem IsD.intI{K:Fg_}{H:Hp}{v:V}{i:Int}(h:IsD K H v (.int i)):v=.int i:=by cases h;rfl
theorem IsD.blI{K:Fg_}{H:Hp}{v:V}{b:Bool}(h:IsD K H v (.bl b)):v=.bl b:=by cases h;rfl
theorem IsD.strI{K:Fg_}{H:Hp}{v:V}{x:Str}(h:IsD K H v (.str x)):v=.str x:=by cases h;rfl
theorem IsD.tupI{K:Fg_}{H:Hp}{v:V}{ds:List D}(h:IsD K H v (.tup ds)):∃ a xs,v=.ref a/\SqT K H a xs/\IsDs K H xs ds:=by
 cases h with
 | tup h hs=>exact⟨_,_,rfl,h,hs⟩
theorem IsD.lstI{K:Fg_}{H:Hp}{v:V}{ds:List D}(h:IsD K H v (.lst ds)):∃ a xs,v=.ref a/\SqL K H a xs/\IsDs K H xs ds:=by
 cases h with
 | lst h hs=>exact⟨_,_,rfl,h,hs⟩
def tH:Str := "ranked.<locals>.<lambda>"
def zBL(P:Addr)(H:Hp):Prop:=∃ ps,H P=some (.tbl ps)/\TriplesOk ps.toList/\∀(pos:Pos)(cv:Value),codeAmong pos ps.toList=some cv->∃ c oc vs t u,cv=.ref c/\H c=some (.frz oc u)/\oc.data=.fields vs/\vs[1]?=some (.str tH t)
theorem zBL.put{P a:Addr}{H:Hp}{x:HO}(h:zBL P H)(h1:∀ ps,H a≠some (.tbl ps))(h2:∀ o u,H a≠some (.frz o u)):zBL P (upd H a x):=by
 obtain⟨ps,e,t,k⟩:=h;refine⟨ps,by rw[aX (show P≠a from fun z=>h1 ps (by rw[<-z];exact e))];exact e,t,fun pos cv q=>?_⟩
 obtain⟨c,oc,vs,tk,u,r1,r2,r3⟩:=k pos cv q;exact⟨c,oc,vs,tk,u,r1,by rw[aX (show c≠a from fun z=>h2 oc u (by rw[<-z];exact r2))];exact r2,r3⟩
structure Keep (H H':Hp):Prop where
 k:∀ b o,H b=some o->H' b=some o∨∃ ps ps',o=.tbl ps/\H' b=some (.tbl ps')
 t:∀ P,zBL P H->zBL P H'
theorem Keep.refl(H:Hp):Keep H H:=⟨fun _ _ e=>.inl e,fun _ e=>e⟩
theorem Keep.trans{H H1 H2:Hp}(a:Keep H H1)(b:Keep H1 H2):Keep H H2:=
 ⟨fun c o e=>by
  rcases a.k c o e with z | ⟨ps,ps',rfl,z⟩
  ·exact b.k c o z
  ·rcases b.k c _ z with y | ⟨qs,qs',_,y⟩
   ·exact .inr ⟨ps,ps',rfl,y⟩
   ·exact .inr ⟨ps,qs',rfl,y⟩,fun P e=>b.t P (a.t P e)⟩
theorem Keep.at{H H':Hp}(k:Keep H H'){b:Addr}{o:HO}(e:H b=some o)(ho:∀ ps,o≠.tbl ps:=by intro ps z;cases z):H' b=some o:=by
 rcases k.k b o e with z | ⟨ps,ps',z,_⟩
 ·exact z
 ·exact absurd z (ho ps)
theorem Keep.none{H H':Hp}(k:Keep H H'){p:Addr}(e:H' p=none):H p=none:=by
 cases z:H p with
 | none=>rfl
 | some o=>rcases k.k p o z with y | ⟨_,_,_,y⟩<;>(rw[y] at e;cases e)
structure Ext (Hi H Hi' H':Hp):Prop where
 i:Same Hi Hi'
 h:Keep H H'
 s:Same Hi' H'
 n:∀ b,Hi b=none->Hi' b≠none->H b=none
theorem Ext.refl{Hi H:Hp}(h:Same Hi H):Ext Hi H Hi H:=⟨Same.refl _,Keep.refl _,h,fun _ e q=>absurd e q⟩
theorem Ext.trans{Hi H Hi1 H1 Hi2 H2:Hp}(a:Ext Hi H Hi1 H1)(b:Ext Hi1 H1 Hi2 H2):Ext Hi H Hi2 H2:=
 ⟨a.i.trans b.i,a.h.trans b.h,b.s,fun c e q=>by
  cases z:Hi1 c with
  | some o=>exact a.n c e (by rw[z];exact fun w=>by cases w)
  | none=>
   have z2:=b.n c z q
   exact a.h.none z2⟩
theorem cX{H:Hp}{p:Addr}(h:H p=none)(o:HO):Same H (upd H p o):=fun b u q=>by rw[aX (bC q h)];exact q
theorem zFp{H:Hp}{p:Addr}(h:H p=none)(o:HO):Keep H (upd H p o):=⟨fun b u q=>.inl (cX h o b u q),fun P e=>e.put (fun ps z=>by rw[h] at z;cases z) (fun ob u z=>by rw[h] at z;cases z)⟩
theorem _root_.L2.Same.none{H H':Hp}(h:Same H H'){p:Addr}(e:H' p=none):H p=none:=by
 cases z:H p with
 | none=>rfl
 | some o=>rw[h _ _ z] at e;cases e
theorem Ext.new{Hi H:Hp}{p:Addr}{o:HO}(h:Same Hi H)(hp:H p=none):Ext Hi H (upd Hi p o) (upd H p o) where
 i:=cX (h.none hp) o
 h:=zFp hp o
 s:=fun b u q=>by
  by_cases e:b=p
  ·subst e;rw[aW] at q ⊢;exact q
  ·rw[aX e] at q ⊢;exact h _ _ q
 n:=fun b e q=>by
  by_cases z:b=p
  ·rw[z];exact hp
  ·rw[aX z] at q;exact absurd e q
theorem Ext.newF{Hi H:Hp}{p:Addr}{o:HO}(h:Same Hi H)(hp:H p=none):Ext Hi H Hi (upd H p o) where
 i:=Same.refl _
 h:=zFp hp o
 s:=h.trans (cX hp o)
 n:=fun b e q=>absurd e q
theorem Ext.out{Hi H Hi' H':Hp}(e:Ext Hi H Hi' H'){a:Addr}{o:HO}(h:H a=some o)(hi:Hi a=none)(ho:∀ ps,o≠.tbl ps:=by intro ps z;cases z):H' a=some o/\Hi' a=none:=by
 refine⟨e.h.at h ho,?_⟩
 cases z:Hi' a with
 | none=>rfl
 | some u=>have:=e.n a hi (by rw[z];exact fun w=>by cases w);rw[h] at this;cases this
theorem Ext.hold{Hi H Hi' H':Hp}(e:Ext Hi H Hi' H'){a:Addr}{o:HO}(hn:H a=none)(h:H' a=some o)(hi:Hi' a=none):Ext Hi H (upd Hi' a o) H' where
 i:=e.i.trans (cX hi o)
 h:=e.h
 s:=fun b u q=>by
  by_cases z:b=a
  ·subst z;rw[aW] at q;cases q;exact h
  ·rw[aX z] at q;exact e.s _ _ q
 n:=fun b z q=>by
  by_cases w:b=a
  ·rw[w];exact hn
  ·rw[aX w] at q;exact e.n b z q
def zRL(a C:Addr):Heap->Prop:=fun h=>∃ o vs,h.get? a=some o/\o.cls=.ref C/\o.data=.fields vs
def kvT(T:List (Str×Str)):List (Key×V):=T.map fun q=>(Sum.inr q.1,V.str q.2)
def zEQ(K:PySem.W.Frag)(mg:Str->Option Value)(B Hi H:Hp)(o:Option (Option V)):Sl->Prop
 | .un=>True
 | .val d=>∃ v,o=some (some v)/\IsD K Hi v d
 | .own ds=>∃ a xs,o=some (some (.ref a))/\H a=some (.lst xs)/\Hi a=none/\B a=none/\IsDs K Hi xs ds
 | .exc c=>∃ a C,o=some (some (.ref a))/\H a=some (.ext (zRL a C))/\Hi a=none/\B a=none/\mg c=some (.ref C)
 | .tab T=>∃ a,o=some (some (.ref a))/\Hi a=some (.dK (kvT T))
structure Rel (K:PySem.W.Frag) (mg:Str->Option Value) (B Bi Hi H:Hp) (σ:St) (ρ:Rho):Prop where
 len:σ.length=ρ.length
 ext:Ext Bi B Hi H
 slot:∀(i:Nat)(s:Sl),ρ[i]?=some s->zEQ K mg B Hi H σ[i]? s
 dist:∀(i j:Nat)(a:Addr)(ds es:List D),ρ[i]?=some (.own ds)->ρ[j]?=some (.own es)->σ[i]?=some (some (.ref a))->σ[j]?=some (some (.ref a))->i=j
section
variable{K:Fg_}{mg:Str->Option Value}{B Bi Hi H Hi' H':Hp}{σ:St}{ρ:Rho}
theorem zEQ.ext{o:Option (Option V)}{s:Sl}(h:zEQ K mg B Hi H o s)(e:Ext Hi H Hi' H'):zEQ K mg B Hi' H' o s:=by
 cases s with
 | un=>trivial
 | val d=>obtain⟨v,q,r⟩:=h;exact⟨v,q,r.mono e.i⟩
 | own ds=>
  obtain⟨a,xs,q,h1,h2,h3,h4⟩:=h;obtain⟨e1,e2⟩:=e.out h1 h2;exact⟨a,xs,q,e1,e2,h3,h4.mono e.i⟩
 | exc c=>
  obtain⟨a,C,q,h1,h2,h3,h4⟩:=h;obtain⟨e1,e2⟩:=e.out h1 h2;exact⟨a,C,q,e1,e2,h3,h4⟩
 | tab T=>obtain⟨a,q,h1⟩:=h;exact⟨a,q,e.i _ _ h1⟩
theorem Rel.grow(R:Rel K mg B Bi Hi H σ ρ)(e:Ext Hi H Hi' H'):Rel K mg B Bi Hi' H' σ ρ:=⟨R.len,R.ext.trans e,fun i s q=>(R.slot i s q).ext e,R.dist⟩
theorem Rel.s(R:Rel K mg B Bi Hi H σ ρ):Same Hi H:=R.ext.s
theorem Rel.set{i:Nat}{v:V}{d:D}(R:Rel K mg B Bi Hi H σ ρ)(h:IsD K Hi v d):Rel K mg B Bi Hi H (σ.set i (some v)) (ρ.set i (.val d)) where
 len:=by rw[QI,QI];exact R.len
 ext:=R.ext
 slot:=fun j s q=>by
  by_cases e:i=j
  ·subst e
   by_cases hl:i<ρ.length
   ·rw[QO hl] at q;cases q
    exact⟨v,by rw[QO (by rw[R.len];exact hl)],h⟩
   ·rw[QC (by rw[QI];omega)] at q;cases q
  ·rw[QM e] at q ⊢
   exact R.slot j s q
 dist:=fun j k a ds es q1 q2 q3 q4=>by
  have h1:∀ {j:Nat} {ds:List D},(ρ.set i (.val d))[j]?=some (.own ds)->i≠j:=fun {j ds} q e=>by
   subst e;by_cases hl:i<ρ.length
   ·rw[QO hl] at q;cases q
   ·rw[QC (by rw[QI];omega)] at q;cases q
  have n1:=h1 q1;have n2:=h1 q2;rw[QM n1] at q1 q3;rw[QM n2] at q2 q4;exact R.dist j k a ds es q1 q2 q3 q4
theorem Rel.setOwn{i:Nat}{a:Addr}{xs:List V}{ds:List D}(R:Rel K mg B Bi Hi H σ ρ)(e:Ext Hi H Hi' H')(hn:H a=none)(h:H' a=some (.lst xs))(hi:Hi' a=none)(hs:IsDs K Hi' xs ds):
  Rel K mg B Bi Hi' H' (σ.set i (some (.ref a))) (ρ.set i (.own ds)) where
 len:=by rw[QI,QI];exact R.len
 ext:=R.ext.trans e
 slot:=fun j s q=>by
  by_cases z:i=j
  ·subst z
   by_cases hl:i<ρ.length
   ·rw[QO hl] at q;cases q
    exact⟨a,xs,by rw[QO (by rw[R.len];exact hl)],h,hi,R.ext.h.none hn,hs⟩
   ·rw[QC (by rw[QI];omega)] at q;cases q
  ·rw[QM z] at q ⊢
   exact(R.slot j s q).ext e
 dist:=fun j k b es fs q1 q2 q3 q4=>by
  have h1:∀ {j:Nat} {es:List D},i≠j->ρ[j]?=some (.own es)->σ[j]?=some (some (.ref a))->False:=fun {j es} _ p1 p2=>by
   obtain⟨a',xs',q,h1,_⟩:=R.slot j _ p1;rw[p2] at q;cases q;rw[hn] at h1;cases h1
  have h2:∀ {j:Nat} {es:List D},(ρ.set i (.own ds))[j]?=some (.own es)->i<σ.length∨i≠j:=fun {j es} p=>by
   by_cases z:i=j
   ·subst z
    by_cases hl:i<ρ.length
    ·exact .inl (by rw[R.len];exact hl)
    ·rw[QC (by rw[QI];omega)] at p;cases p
   ·exact .inr z
  by_cases z1:i=j
  ·by_cases z2:i=k
   ·rw[<-z1,<-z2]
   ·exfalso
    subst z1;have hl:i<σ.length:=(h2 q1).resolve_right (fun w=>w rfl)
    rw[QO hl] at q3;cases q3
    rw[QM z2] at q2 q4;exact h1 z2 q2 q4
  ·by_cases z2:i=k
   ·exfalso
    subst z2;have hl:i<σ.length:=(h2 q2).resolve_right (fun w=>w rfl)
    rw[QO hl] at q4;cases q4
    rw[QM z1] at q1 q3;exact h1 z1 q1 q3
   ·rw[QM z1] at q1 q3
    rw[QM z2] at q2 q4;exact R.dist j k b es fs q1 q2 q3 q4
theorem Rel.write{i:Nat}{a:Addr}{ys:List V}{ds es:List D}(R:Rel K mg B Bi Hi H σ ρ)(e:ρ[i]?=some (.own ds))(ea:σ[i]?=some (some (.ref a)))(hs:IsDs K Hi ys es):
  Rel K mg B Bi Hi (upd H a (.lst ys)) σ (ρ.set i (.own es)):=by
 obtain⟨a',xs',q,h1,h2,h3,h4⟩:=R.slot i _ e;rw[ea] at q;cases q
 have hl:i<ρ.length:=by
  by_cases hl:i<ρ.length
  ·exact hl
  ·rw[QC (by omega)] at e;cases e
 refine⟨by rw[QI];exact R.len,⟨R.ext.i,⟨fun b o z=>?_,fun P z=>(R.ext.h.t P z).put (fun ps y=>by rw[h1] at y;cases y) (fun ob u y=>by rw[h1] at y;cases y)⟩,fun b o z=>?_,R.ext.n⟩,fun j s z=>?_,fun j k b fs gs q1 q2 q3 q4=>?_⟩
 ·rw[aX (bC z h3)];exact R.ext.h.k _ _ z
 ·rw[aX (bC z h2)];exact R.ext.s _ _ z
 ·by_cases w:i=j
  ·subst w
   rw[QO hl] at z;cases z
   exact⟨a,ys,ea,aW,h2,h3,hs⟩
  ·rw[QM w] at z
   have S:=R.slot j s z
   cases s with
   | un=>trivial
   | val d=>exact S
   | own fs=>
    obtain⟨b,zs,p,g1,g2,g3,g4⟩:=S;have hb:b≠a:=fun c=>w (R.dist i j a ds fs e z ea (by rw[p,c]))
    exact⟨b,zs,p,by rw[aX hb];exact g1,g2,g3,g4⟩
   | exc c=>
    obtain⟨b,C,p,g1,g2,g3,g4⟩:=S;have hb:b≠a:=zQl g1 h1 (by intro z;cases z)
    exact⟨b,C,p,by rw[aX hb];exact g1,g2,g3,g4⟩
   | tab T=>exact S
 ·have own:∀ {j:Nat} {fs:List D},(ρ.set i (.own es))[j]?=some (.own fs)->∃ gs,ρ[j]?=some (.own gs):=fun {j fs} p=>by
   by_cases w:i=j
   ·subst w;exact⟨ds,e⟩
   ·rw[QM w] at p;exact⟨fs,p⟩
  obtain⟨fs',q1'⟩:=own q1;obtain⟨gs',q2'⟩:=own q2;exact R.dist j k b fs' gs' q1' q2' q3 q4
theorem Rel.frzAt{i:Nat}(R:Rel K mg B Bi Hi H σ ρ):∃ Hi',Same Hi Hi'/\Rel K mg B Bi Hi' H σ (L3.frzAt i ρ):=by
 unfold L3.frzAt;split
 ·rename_i ds e
  obtain⟨a,xs,q,h1,h2,h3,h4⟩:=R.slot i _ e
  have hl:i<ρ.length:=by
   by_cases hl:i<ρ.length
   ·exact hl
   ·rw[QC (by omega)] at e;cases e
  have sm:Same Hi (upd Hi a (.lst xs)):=cX h2 _
  have ss:Same (upd Hi a (.lst xs)) H:=fun b u z=>by
   by_cases w:b=a
   ·subst w;rw[aW] at z;cases z;exact h1
   ·rw[aX w] at z;exact R.s _ _ z
  refine⟨upd Hi a (.lst xs),sm,by rw[QI];exact R.len,⟨R.ext.i.trans sm,R.ext.h,ss,fun b z w=>?_⟩,fun j s z=>?_,fun j k b fs gs q1 q2 q3 q4=>?_⟩
  ·by_cases c:b=a
   ·rw[c];exact h3
   ·rw[aX c] at w;exact R.ext.n b z w
  ·by_cases w:i=j
   ·subst w
    rw[QO hl] at z;cases z
    exact⟨.ref a,q,.lst (SqL.of aW) (h4.mono sm)⟩
   ·rw[QM w] at z
    have S:=R.slot j s z
    cases s with
    | un=>trivial
    | val d=>obtain⟨v,p,r⟩:=S;exact⟨v,p,r.mono sm⟩
    | own fs=>
     obtain⟨b,zs,p,g1,g2,g3,g4⟩:=S;have hb:b≠a:=fun c=>w (R.dist i j a ds fs e z q (by rw[p,c]))
     exact⟨b,zs,p,g1,by rw[aX hb];exact g2,g3,g4.mono sm⟩
    | exc c=>
     obtain⟨b,C,p,g1,g2,g3,g4⟩:=S;have hb:b≠a:=zQl g1 h1 (by intro z;cases z)
     exact⟨b,C,p,g1,by rw[aX hb];exact g2,g3,g4⟩
    | tab T=>obtain⟨b,p,g1⟩:=S;exact⟨b,p,sm _ _ g1⟩
  ·have own:∀ {j:Nat} {fs:List D},(ρ.set i (.val (.lst ds)))[j]?=some (.own fs)->ρ[j]?=some (.own fs):=fun {j fs} p=>by
    by_cases w:i=j
    ·subst w;rw[QO hl] at p;cases p
    ·rw[QM w] at p;exact p
   exact R.dist j k b fs gs (own q1) (own q2) q3 q4
 ·exact⟨Hi,Same.refl _,R⟩
end
end L3
namespace L3
open PySem PySem.Spec PyProof.Rows L2
section
variable{K:Fg_}{mg:Str->Option Value}{B Bi Hi H Hi' H':Hp}{σ:St}{ρ:Rho}
theorem Rel.frz(R:Rel K mg B Bi Hi H σ ρ):∃ Hf,Same Hi Hf/\Rel K mg B Bi Hf H σ (ρ.map Sl.frz)/\∀ b,Hi b=none->Hf b≠none->∃ xs,Hf b=some (.lst xs):=by
 let own:Addr->Prop:=fun b=>∃(i:Nat)(ds:List D),ρ[i]?=some (.own ds)/\σ[i]?=some (some (.ref b))
 have dec:∀ b,Decidable (own b):=fun b=>Classical.propDecidable _
 let Hf:Hp:=fun b=>match Hi b with
  | some o=>some o
  | none=>if own b then H b else none
 have hf1:∀ b o,Hi b=some o->Hf b=some o:=fun b o e=>by show(match Hi b with | some o=>some o | none=>if own b then H b else none)=_;rw[e]
 have hf2:∀ b,Hi b=none->own b->Hf b=H b:=fun b e z=>by show(match Hi b with | some o=>some o | none=>if own b then H b else none)=_;rw[e];exact if_pos z
 have hf3:∀ b,Hi b=none->¬ own b->Hf b=none:=fun b e z=>by show(match Hi b with | some o=>some o | none=>if own b then H b else none)=_;rw[e];exact if_neg z
 have lst:∀ b,own b->∃ xs,H b=some (.lst xs)/\Hi b=none/\B b=none:=fun b ⟨i,ds,e1,e2⟩=>by
  obtain⟨a,xs,q,h1,h2,h3,h4⟩:=R.slot i _ e1;rw[e2] at q;cases q
  exact⟨xs,h1,h2,h3⟩
 have ss:Same Hf H:=fun b o z=>by
  cases q:Hi b with
  | some u=>rw[hf1 b u q] at z;cases z;exact R.s _ _ q
  | none=>
   by_cases w:own b
   ·rw[hf2 b q w] at z;exact z
   ·rw[hf3 b q w] at z;cases z
 refine⟨Hf,hf1,⟨by rw[Qe];exact R.len,⟨R.ext.i.trans hf1,R.ext.h,ss,fun b z w=>?_⟩,fun j s z=>?_,fun j k b fs gs q1 q2 q3 q4=>?_⟩,fun b z w=>?_⟩
 ·cases q:Hi b with
  | some u=>exact R.ext.n b z (by rw[q];exact fun c=>by cases c)
  | none=>
   by_cases c:own b
   ·exact(lst b c).choose_spec.2.2
   ·exact absurd (hf3 b q c) w
 ·rw[Qu] at z
  cases e:ρ[j]? with
  | none=>rw[e] at z;cases z
  | some t=>
   rw[e] at z;cases z;have S:=R.slot j t e
   cases t with
   | un=>trivial
   | val d=>obtain⟨v,p,r⟩:=S;exact⟨v,p,r.mono hf1⟩
   | own ds=>
    obtain⟨a,xs,q,h1,h2,h3,h4⟩:=S;exact⟨.ref a,q,.lst (SqL.of (by rw[hf2 a h2 ⟨j,ds,e,q⟩];exact h1)) (h4.mono hf1)⟩
   | exc c=>
    obtain⟨a,C,q,h1,h2,h3,h4⟩:=S;refine⟨a,C,q,h1,?_,h3,h4⟩
    refine hf3 a h2 fun c=>?_
    obtain⟨xs,g,_⟩:=lst a c;rw[h1] at g;cases g
   | tab T=>obtain⟨a,q,h1⟩:=S;exact⟨a,q,hf1 _ _ h1⟩
 ·exfalso
  rw[Qu] at q1
  cases e:ρ[j]? with
  | none=>rw[e] at q1;cases q1
  | some t=>rw[e] at q1;cases t<;>cases q1
 ·by_cases c:own b
  ·obtain⟨xs,g,_⟩:=lst b c
   exact⟨xs,by rw[hf2 b z c];exact g⟩
  ·exact absurd (hf3 b z c) w
theorem Ext.thaw{Hf:Hp}(s:Same Hi Hf)(fl:∀ b,Hi b=none->Hf b≠none->∃ xs,Hf b=some (.lst xs))(hs:Same Hf H)(e:Ext Hf H Hi' H'):
  ∃ Ht,Ext Hi H Ht H'/\(∀ b xs,Rd Hi' b (.tup xs)->Rd Ht b (.tup xs))/\Same Ht Hi'/\∀ b,Ht b=none->Hi' b=none∨∃ xs,H b=some (.lst xs):=by
 have dec:∀ b,Decidable (Hi b=none/\Hf b≠none):=fun b=>Classical.propDecidable _
 let Ht:Hp:=fun b=>if Hi b=none/\Hf b≠none then none else Hi' b
 have t1:∀ b,¬ (Hi b=none/\Hf b≠none)->Ht b=Hi' b:=fun b z=>if_neg z
 have t2:∀ b,(Hi b=none/\Hf b≠none)->Ht b=none:=fun b z=>if_pos z
 have tt:Same Ht Hi':=fun b o z=>by
  by_cases w:Hi b=none/\Hf b≠none
  ·rw[t2 b w] at z;cases z
  ·rw[t1 b w] at z;exact z
 refine⟨Ht,⟨fun b o z=>?_,e.h,tt.trans e.s,fun b z w=>?_⟩,fun b xs r=>?_,tt,fun b z=>?_⟩
 ·rw[t1 b (fun w=>by rw[z] at w;cases w.1)];exact e.i _ _ (s _ _ z)
 ·by_cases c:Hi b=none/\Hf b≠none
  ·exact absurd (t2 b c) w
  ·rw[t1 b c] at w
   have:Hf b=none:=by
    cases q:Hf b with
    | none=>rfl
    | some u=>exact absurd ⟨z,by rw[q];exact fun c=>by cases c⟩ c
   exact e.n b this w
 ·have nl:¬ (Hi b=none/\Hf b≠none):=fun w=>by
   obtain⟨ys,g⟩:=fl b w.1 w.2;have g':=e.i _ _ g;rcases r with r | ⟨o,r⟩<;>(rw[g'] at r;cases r)
  rcases r with r | ⟨o,r⟩
  ·exact .inl (by rw[t1 b nl];exact r)
  ·exact .inr ⟨o,by rw[t1 b nl];exact r⟩
 ·by_cases c:Hi b=none/\Hf b≠none
  ·obtain⟨ys,g⟩:=fl b c.1 c.2
   exact .inr ⟨ys,hs _ _ g⟩
  ·exact .inl (by rw[t1 b c] at z;exact z)
end
structure Gx where
 B:Hp
 Bi:Hp
 E:Str->Hp->Prop
abbrev mO(X:Cx)(G:Gx)(Hi H:Hp)(σ:St)(ρ:Rho):Prop:=Rel X.K X.mg G.B G.Bi Hi H σ ρ
def Out(G:Gx)(Hi H:Hp){α:Type}(r:Res α)(k:α->Hp->Hp->Prop):Prop:=match r with
 | .ok a=>∀ Hi' H',Ext Hi H Hi' H'->k a Hi' H'
 | .err c=>∀ Hi' H',Ext Hi H Hi' H'->G.E c H'
 | .no=>False
theorem Out.bind{G:Gx}{Hi H:Hp}{α β:Type}{r:Res α}{f:α->Res β}{k:β->Hp->Hp->Prop}(h:Out G Hi H (r.bind f) k):
  Out G Hi H r fun a Hi' H'=>Out G Hi' H' (f a) k:=by
 cases r with
 | no=>exact h
 | err c=>exact h
 | ok a=>
  intro Hi1 H1 e;have h':Out G Hi H (f a) k:=h;show Out G Hi1 H1 (f a) k
  cases q:f a with
  | no=>rw[q] at h';exact h'
  | err c=>rw[q] at h';exact fun Hi2 H2 e2=>h' _ _ (e.trans e2)
  | ok b=>rw[q] at h';exact fun Hi2 H2 e2=>h' _ _ (e.trans e2)
theorem Out.imp{G:Gx}{Hi H:Hp}{α:Type}{r:Res α}{k k':α->Hp->Hp->Prop}(h:Out G Hi H r k)(f:∀ a Hi' H',Ext Hi H Hi' H'->k a Hi' H'->k' a Hi' H'):Out G Hi H r k':=by
 cases r with
 | no=>exact h
 | err c=>exact h
 | ok a=>exact fun Hi1 H1 e=>f a Hi1 H1 e (h Hi1 H1 e)
theorem Out.here{G:Gx}{Hi H:Hp}{α:Type}{a:α}{k:α->Hp->Hp->Prop}(h:Out G Hi H (.ok a) k)(s:Same Hi H):k a Hi H:=h Hi H (Ext.refl s)
def tD(X:Cx)(G:Gx)(f:Ev):TE:=fun σ H Q=>∃ ρ Hi,mO X G Hi H σ ρ/\Out G Hi H (f ρ) fun d Hi' H'=>∀ v,IsD X.K Hi' v d->Q v H'
def zKo(K:PySem.W.Frag)(H Hi' H':Hp)(a:Addr)(ds:List D):Prop:=H a=none/\Hi' a=none/\∃ xs,H' a=some (.lst xs)/\IsDs K Hi' xs ds
def tF(X:Cx)(G:Gx)(f:Fv):TE:=fun σ H Q=>∃ ρ Hi,mO X G Hi H σ ρ/\Out G Hi H (f ρ) fun ds Hi' H'=>∀ a,zKo X.K H Hi' H' a ds->Q (.ref a) H'
def tTb(X:Cx)(G:Gx)(f:Tv):TT:=fun σ H Q=>∃ ρ Hi,mO X G Hi H σ ρ/\Out G Hi H (f ρ) fun b _ H'=>Q b H'
def tAs(X:Cx)(G:Gx)(f:Fv):TA:=fun σ H Q=>∃ ρ Hi,mO X G Hi H σ ρ/\Out G Hi H (f ρ) fun ds Hi' H'=>∀ vs,IsDs X.K Hi' vs ds->Q vs H'
def Fin(X:Cx)(G:Gx)(Hi:Hp)(E:Ends)(r:Res Fl):Prop:=match r with
 | .ok (.nx ρ')=>∀ σ' Hi' H',Same Hi Hi'->mO X G Hi' H' σ' ρ'->E.nx σ' H'
 | .ok (.brk ρ')=>∀ σ' Hi' H',Same Hi Hi'->mO X G Hi' H' σ' ρ'->E.bk σ' H'
 | .ok (.ctn ρ')=>∀ σ' Hi' H',Same Hi Hi'->mO X G Hi' H' σ' ρ'->E.ct σ' H'
 | .ok (.ret (.v d))=>∀ v Hi' H',Ext G.Bi G.B Hi' H'->IsD X.K Hi' v d->E.rt v H'
 | .ok (.ret (.f ds))=>∀ a Hi' H',Ext G.Bi G.B Hi' H'->zKo X.K G.B Hi' H' a ds->E.rt (.ref a) H'
 | .err c=>∀ Hi' H',Ext G.Bi G.B Hi' H'->G.E c H'
 | .no=>False
theorem Fin.mono{X:Cx}{G:Gx}{Hi Hi':Hp}{E:Ends}{r:Res Fl}(h:Fin X G Hi E r)(s:Same Hi Hi'):Fin X G Hi' E r:=by
 cases r with
 | no=>exact h
 | err c=>exact h
 | ok f=>
  cases f with
  | nx ρ=>exact fun σ' Hi2 H2 s2=>h σ' Hi2 H2 (s.trans s2)
  | brk ρ=>exact fun σ' Hi2 H2 s2=>h σ' Hi2 H2 (s.trans s2)
  | ctn ρ=>exact fun σ' Hi2 H2 s2=>h σ' Hi2 H2 (s.trans s2)
  | ret r=>cases r<;>exact h
def tS(X:Cx)(G:Gx)(f:Sv):TS:=fun E σ H=>∃ ρ Hi,mO X G Hi H σ ρ/\Fin X G Hi E (f ρ)
@[irreducible] def PEd (X:Cx) (G:Gx) (e:Expr) (f:Ev):Prop:=PE X e (tD X G f)
unseal PEd
@[irreducible] def PEf (X:Cx) (G:Gx) (e:Expr) (f:Fv):Prop:=PE X e (tF X G f)
unseal PEf
@[irreducible] def PTd (X:Cx) (G:Gx) (e:Expr) (f:Tv):Prop:=PT X e (tTb X G f)
unseal PTd
@[irreducible] def PWd (X:Cx) (G:Gx) (e:Expr) (f:Tv):Prop:=PW X e (tTb X G f)
unseal PWd
@[irreducible] def PAd (X:Cx) (G:Gx) (es:List Expr) (f:Fv):Prop:=PA X es (tAs X G f)
unseal PAd
@[irreducible] def PSd (X:Cx) (G:Gx) (s:Stmt) (f:Sv):Prop:=PS X s (tS X G f)
unseal PSd
@[irreducible] def fH (X:Cx) (G:Gx) (s:List Stmt) (f:Sv):Prop:=PSs X s (tS X G f)
unseal fH
theorem PE.wk{X:Cx}{e:Expr}{t t':TE}(h:PE X e t)(w:∀ σ H Q,t' σ H Q->t σ H Q):PE X e t':=fun pins s σ H Q I q=>h pins s σ H Q I (w σ H Q q)
theorem PT.wk{X:Cx}{e:Expr}{t t':TT}(h:PT X e t)(w:∀ σ H Q,t' σ H Q->t σ H Q):PT X e t':=fun pins s σ H Q I q=>h pins s σ H Q I (w σ H Q q)
theorem PW.wk{X:Cx}{e:Expr}{t t':TT}(h:PW X e t)(w:∀ σ H Q,t' σ H Q->t σ H Q):PW X e t':=fun wh pins s σ H Q I q=>h wh pins s σ H Q I (w σ H Q q)
theorem PA.wk{X:Cx}{es:List Expr}{t t':TA}(h:PA X es t)(w:∀ σ H Q,t' σ H Q->t σ H Q):PA X es t':=fun pos pins s σ H Q I q=>h pos pins s σ H Q I (w σ H Q q)
theorem PS.wk{X:Cx}{s:Stmt}{t t':TS}(h:PS X s t)(w:∀ E σ H,t' E σ H->t E σ H):PS X s t':=fun pins s σ H E I q=>h pins s σ H E I (w E σ H q)
theorem PSs.wk{X:Cx}{s:List Stmt}{t t':TS}(h:PSs X s t)(w:∀ E σ H,t' E σ H->t E σ H):PSs X s t':=fun pins s σ H E I q=>h pins s σ H E I (w E σ H q)
section
variable{X:Cx}{G:Gx}{a b e:Expr}{es:List Expr}{pos:Pos}{f g:Ev}
theorem zPy(i:Nat)(h:PE X e (zFb i)):PEd X G e (aH i):=PE.wk h fun σ H Q q=>by
 obtain⟨ρ,Hi,R,o⟩:=q;unfold aH at o
 cases z:ρ[i]? with
 | none=>rw[z] at o;exact o.elim
 | some s=>
  rw[z] at o
  cases s with
  | val d=>
   obtain⟨v,p,r⟩:=R.slot i _ z;exact⟨v,p,o.here R.s v r⟩
  | un=>exact o.elim
  | own ds=>exact o.elim
  | exc c=>exact o.elim
  | tab T=>exact o.elim
theorem mH{v:V}{d:D}(h:PE X e (tC v))(r:∀ H,IsD X.K H v d):PEd X G e (eC d):=PE.wk h fun σ H Q q=>by
 obtain⟨ρ,Hi,R,o⟩:=q;exact o.here R.s v (r Hi)
theorem zDU{Hi H:Hp}{σ:St}{ρ:Rho}{β:Type}{k:D->Res β}{k':β->Hp->Hp->Prop}{Q:VK}(R:mO X G Hi H σ ρ)(o:Out G Hi H ((f ρ).bind k) k')
  (w:∀ v d Hi' H',Ext Hi H Hi' H'->mO X G Hi' H' σ ρ->IsD X.K Hi' v d->Out G Hi' H' (k d) k'->Q v H'):tD X G f σ H Q:=
 ⟨ρ,Hi,R,o.bind.imp fun d Hi' H' e q v r=>w v d Hi' H' e (R.grow e) r q⟩
def OpK(X:Cx)(r:R2)(o:Op2):Prop:=(∀ a b c,o a b≠.err c)/\∀(Hi H:Hp)(x y:V)(a b d:D)(Q:VK),Same Hi H->IsD X.K Hi x a->IsD X.K Hi y b->o a b=.ok d->
 (∀ v Hi' H',Ext Hi H Hi' H'->IsD X.K Hi' v d->Q v H')->r x y H Q
theorem op2{r:R2}{o:Op2}(k:OpK X r o):∀ σ H Q,tD X G (eOp o f g) σ H Q->tOp r (tD X G f) (tD X G g) σ H Q:=fun σ H Q q=>by
 obtain⟨ρ,Hi,R,ou⟩:=q;refine zDU R ou fun v d Hi1 H1 e1 R1 r1 o1=>?_
 refine zDU R1 o1 fun w d' Hi2 H2 e2 R2 r2 o2=>?_
 cases z:o d d' with
 | no=>rw[z] at o2;exact o2.elim
 | err c=>exact absurd z (k.1 d d' c)
 | ok u=>
  rw[z] at o2;exact k.2 Hi2 H2 v w d d' u Q R2.s (r1.mono e2.i) r2 z fun x Hi3 H3 e3 r3=>o2 Hi3 H3 e3 x r3
theorem aU{op:Operator}{r:R2}{o:Op2}(ho:OpR X (binaryOp op) r)(k:OpK X r o)(ha:PEd X G a f)(hb:PEd X G b g):PEd X G (.BinOp a op b pos) (eOp o f g):=PE.wk (zIF ho ha hb) (op2 k)
theorem zEN{op:CmpOp}{r:R2}{o:Op2}(ho:OpR X (compareOp op) r)(k:OpK X r o)(ha:PEd X G a f)(hb:PEd X G b g)(hm:behindInMarks op b=false):PEd X G (.Compare a [op] [b] pos) (eOp o f g):=PE.wk (zJn ho ha hb hm) (op2 k)
theorem bT{r:R2}{o:Op2}(ho:IxR X r)(k:OpK X r o)(ha:PEd X G a f)(hb:PEd X G b g)(hs:zDa b):PEd X G (.Subscript a b pos) (eOp o f g):=PE.wk (zGf ho ha hb hs) (op2 k)
theorem tst{op:CmpOp}{r:R2}{o:Op2}(ho:OpR X (compareOp op) r)(k:OpK X r o)(ha:PEd X G a f)(hb:PEd X G b g)(hm:behindInMarks op b=false):PTd X G (.Compare a [op] [b] pos) (dX (eOp o f g)):=
 PT.wk (zEc ho ha hb hm) fun σ H Q q=>by
  obtain⟨ρ,Hi,R,ou⟩:=q;refine op2 k σ H _ ⟨ρ,Hi,R,ou.bind.imp fun d Hi' H' e o v r=>?_⟩
  cases d with
  | bl c=>rw[r.blI];exact⟨c,rfl,o.here e.s⟩
  | _=>exact o.elim
theorem zDh(h:PEd X G a f)(he:∀ whole,isTrue a X.env whole=(do let v <-whole;standAt a.pos;holding [v] (truthy v)):=by intro _;rfl):PTd X G a (dX f):=PT.wk (zPL h he) fun σ H Q q=>by
 obtain⟨ρ,Hi,R,ou⟩:=q;refine⟨ρ,Hi,R,ou.bind.imp fun d Hi' H' e o v r=>?_⟩
 cases d with
 | bl c=>rw[r.blI];exact⟨c,rfl,o.here e.s⟩
 | _=>exact o.elim
variable{t u:Tv}
theorem zRa{Hi H:Hp}{σ:St}{ρ:Rho}{β:Type}{k:Bool->Res β}{k':β->Hp->Hp->Prop}{Q:Bool->Hp->Prop}(R:mO X G Hi H σ ρ)(o:Out G Hi H ((t ρ).bind k) k')
  (w:∀ c Hi' H',Ext Hi H Hi' H'->mO X G Hi' H' σ ρ->Out G Hi' H' (k c) k'->Q c H'):tTb X G t σ H Q:=
 ⟨ρ,Hi,R,o.bind.imp fun d Hi' H' e q=>w d Hi' H' e (R.grow e) q⟩
theorem zRf(h:PTd X G a t):PTd X G (.UnaryOp .Not a pos) (zGe t):=PT.wk (zPJ h) fun σ H Q q=>by
 obtain⟨ρ,Hi,R,ou⟩:=q;exact zRa R ou fun c Hi1 H1 e1 R1 o1=>o1.here R1.s
theorem zEl(h:PTd X G a t):PWd X G (.BoolOp .And [a] pos) t:=zNS h
theorem zJb(h:PTd X G a t):PWd X G (.BoolOp .Or [a] pos) t:=zQR h
theorem zKZ{rest:List Expr}(ha:PTd X G a t)(hb:PWd X G (.BoolOp .And (b::rest) pos) u):PWd X G (.BoolOp .And (a::b::rest) pos) (zDo t u):=PW.wk (zPY ha hb) fun σ H Q q=>by
 obtain⟨ρ,Hi,R,ou⟩:=q;refine zRa R ou fun c Hi1 H1 e1 R1 o1=>?_
 cases c with
 | true=>exact⟨ρ,Hi1,R1,o1⟩
 | false=>exact o1.here R1.s
theorem zNW{rest:List Expr}(ha:PTd X G a t)(hb:PWd X G (.BoolOp .Or (b::rest) pos) u):PWd X G (.BoolOp .Or (a::b::rest) pos) (zJP t u):=PW.wk (zRX ha hb) fun σ H Q q=>by
 obtain⟨ρ,Hi,R,ou⟩:=q;refine zRa R ou fun c Hi1 H1 e1 R1 o1=>?_
 cases c with
 | true=>exact o1.here R1.s
 | false=>exact⟨ρ,Hi1,R1,o1⟩
theorem PWd.pt{e:Expr}(h:PWd X G e t):PTd X G e t:=PW.pt h
theorem zQb{op}(h:PEd X G a f):PEd X G (.BoolOp op [a] pos) f:=zOR h
theorem zRG{rest:List Expr}(ha:PEd X G a f)(hb:PEd X G (.BoolOp .Or (b::rest) pos) g):PEd X G (.BoolOp .Or (a::b::rest) pos) (eOr f g):=PE.wk (zRx ha hb) fun σ H Q q=>by
 obtain⟨ρ,Hi,R,ou⟩:=q;refine zDU R ou fun v d Hi1 H1 e1 R1 r1 o1=>?_
 cases d with
 | bl c=>
  refine⟨c,r1.blI,?_⟩
  cases c with
  | true=>exact o1.here R1.s _ (.bl true)
  | false=>exact⟨ρ,Hi1,R1,o1⟩
 | _=>exact o1.elim
theorem sO(ha:PEd X G a f):PEd X G (.UnaryOp .USub a pos) (eUn zJR f):=PE.wk (zRw zQq ha) fun σ H Q q=>by
 obtain⟨ρ,Hi,R,ou⟩:=q;refine zDU R ou fun v d Hi1 H1 e1 R1 r1 o1=>?_
 cases d with
 | int c=>exact⟨c,r1.intI,o1.here R1.s _ (.int _)⟩
 | _=>exact o1.elim
theorem zNP{c:Expr}(hc:PTd X G c t)(ha:PEd X G a f)(hb:PEd X G b g):PEd X G (.IfExp c a b pos) (eIf t f g):=PE.wk (zLf hc ha hb) fun σ H Q q=>by
 obtain⟨ρ,Hi,R,ou⟩:=q;refine zRa R ou fun c Hi1 H1 e1 R1 o1=>?_
 cases c with
 | true=>exact⟨ρ,Hi1,R1,o1⟩
 | false=>exact⟨ρ,Hi1,R1,o1⟩
variable{fs:Fv}
theorem aE:PAd X G [] aNil:=PA.wk qR fun σ H Q q=>by
 obtain⟨ρ,Hi,R,ou⟩:=q;exact ou.here R.s [] .nil
theorem aA(ha:PEd X G e f)(hr:PAd X G es fs)(hs:starEach (e::es) X.env=(false,eval e X.env)::starEach es X.env:=by rfl):PAd X G (e::es) (aD f fs):=PA.wk (lO ha hr hs) fun σ H Q q=>by
 obtain⟨ρ,Hi,R,ou⟩:=q;refine zDU R ou fun v d Hi1 H1 e1 R1 r1 o1=>?_
 refine⟨ρ,Hi1,R1,o1.bind.imp fun ds Hi2 H2 e2 o2 vs rs=>?_⟩
 exact o2.here e2.s _ (.cons (r1.mono e2.i) rs)
theorem zJQ{Hi H:Hp}{σ:St}{ρ:Rho}{β:Type}{k:List D->Res β}{k':β->Hp->Hp->Prop}{Q:List V->Hp->Prop}(R:mO X G Hi H σ ρ)(o:Out G Hi H ((fs ρ).bind k) k')
  (w:∀ vs ds Hi' H',Ext Hi H Hi' H'->mO X G Hi' H' σ ρ->IsDs X.K Hi' vs ds->Out G Hi' H' (k ds) k'->Q vs H'):tAs X G fs σ H Q:=
 ⟨ρ,Hi,R,o.bind.imp fun d Hi' H' e q v r=>w v d Hi' H' e (R.grow e) r q⟩
theorem kR{x1}(h:PAd X G es fs):PEd X G (.Tuple es x1 pos) (zDM fs):=PE.wk (zPV h) fun σ H Q q=>by
 obtain⟨ρ,Hi,R,ou⟩:=q;refine zJQ R ou fun vs ds Hi1 H1 e1 R1 r1 o1=>?_
 by_cases hz:ds.length<=16777216
 ·rw[if_pos hz] at o1
  refine⟨by rw[r1.length];exact hz,fun p hp=>?_⟩
  exact o1 _ _ (Ext.new R1.s hp) (.ref p) (.tup (SqT.of aW) (r1.mono (cX (R1.s.none hp) _)))
 ·rw[if_neg hz] at o1;exact o1.elim
theorem dD(h:PAd X G es fs):PEf X G (.List es pos) (qU fs):=PE.wk (zPM h) fun σ H Q q=>by
 obtain⟨ρ,Hi,R,ou⟩:=q;refine zJQ R ou fun vs ds Hi1 H1 e1 R1 r1 o1=>?_
 by_cases hz:ds.length<=16777216
 ·rw[if_pos hz] at o1
  refine⟨by rw[r1.length];exact hz,fun p hp=>?_⟩
  exact o1 _ _ (Ext.newF R1.s hp) p ⟨e1.h.none hp,R1.s.none hp,vs,aW,r1⟩
 ·rw[if_neg hz] at o1;exact o1.elim
theorem PEf.d(h:PEf X G e fs):PEd X G e (eF fs):=PE.wk h fun σ H Q q=>by
 obtain⟨ρ,Hi,R,ou⟩:=q;refine⟨ρ,Hi,R,?_⟩
 cases z:fs ρ with
 | no=>unfold eF at ou;rw[z] at ou;exact ou
 | err c=>unfold eF at ou;rw[z] at ou;exact ou
 | ok ds=>
  unfold eF at ou;rw[z] at ou
  intro Hi1 H1 e1 a n;obtain⟨n1,n2,xs,n3,n4⟩:=n;have ou':∀ Hi' H',Ext Hi H Hi' H'->∀ v,IsD X.K Hi' v (.lst ds)->Q v H':=ou;exact ou' _ _ (e1.hold n1 n3 n2) (.ref a) (.lst (SqL.of aW) (n4.mono (cX n2 _)))
theorem PEd.frz(h:PEd X G e f):PEd X G e (zNv f):=PE.wk h fun σ H Q q=>by
 obtain⟨ρ,Hi,R,ou⟩:=q;obtain⟨Hf,s1,R1,fl⟩:=R.frz;refine⟨ρ.map Sl.frz,Hf,R1,?_⟩
 unfold zNv at ou
 cases z:f (ρ.map Sl.frz) with
 | no=>rw[z] at ou;exact ou
 | err c=>
  rw[z] at ou;intro Hi1 H1 e1;have ou':∀ Hi' H',Ext Hi H Hi' H'->G.E c H':=ou;obtain⟨Ht,e2,k,s2,n⟩:=Ext.thaw s1 fl R1.s e1;exact ou' Ht H1 e2
 | ok d=>
  rw[z] at ou;by_cases hz:noL d=true
  ·have ou':Out G Hi H (if noL d=true then Res.ok d else .no) _:=ou
   rw[if_pos hz] at ou';intro Hi1 H1 e1 v r;obtain⟨Ht,e2,k,s2,n⟩:=Ext.thaw s1 fl R1.s e1;exact ou' Ht H1 e2 v (r.noL k hz)
  ·have ou':Out G Hi H (if noL d=true then Res.ok d else .no) _:=ou
   rw[if_neg hz] at ou';exact ou'.elim
end
end L3
namespace L3
open PySem PySem.Spec PyProof.Rows L2
unseal PEd PEf PTd PWd PAd PSd fH
section
variable{X:Cx}{G:Gx}{a b e:Expr}{es:List Expr}{pos:Pos}{f g:Ev}{fs:Fv}{t u:Tv}
theorem PEf.frz(h:PEf X G e fs):PEf X G e (zRe fs):=PE.wk h fun σ H Q q=>by
 obtain⟨ρ,Hi,R,ou⟩:=q;obtain⟨Hf,s1,R1,fl⟩:=R.frz;refine⟨ρ.map Sl.frz,Hf,R1,?_⟩
 unfold zRe at ou
 cases z:fs (ρ.map Sl.frz) with
 | no=>rw[z] at ou;exact ou
 | err c=>
  rw[z] at ou;intro Hi1 H1 e1;have ou':∀ Hi' H',Ext Hi H Hi' H'->G.E c H':=ou;obtain⟨Ht,e2,k,s2,n⟩:=Ext.thaw s1 fl R1.s e1;exact ou' Ht H1 e2
 | ok ds=>
  rw[z] at ou;have ou':Out G Hi H (if noLs ds=true then Res.ok ds else .no) _:=ou;by_cases hz:noLs ds=true
  ·rw[if_pos hz] at ou'
   intro Hi1 H1 e1 a n;obtain⟨n1,n2,xs,n3,n4⟩:=n;obtain⟨Ht,e2,k,s2,_⟩:=Ext.thaw s1 fl R1.s e1;exact ou' Ht H1 e2 a ⟨n1,s2.none n2,xs,n3,n4.noL k hz⟩
  ·rw[if_neg hz] at ou';exact ou'.elim
theorem OpR.or{o:Value->Value->Sem Value}{r r':R2}(h:OpR X o r)(h':OpR X o r'):OpR X o (fun x y H Q=>r x y H Q∨r' x y H Q):=by
 intro pins s σ H x y v u Q I rx ry q;rcases q with q | q
 ·exact h pins s σ H x y v u Q I rx ry q
 ·exact h' pins s σ H x y v u Q I rx ry q
theorem zQe{o:Op2}{h:Int->Int->Int}(hi:∀ i j,o (.int i) (.int j)=.ok (.int (h i j)))(hn:∀ a b d,o a b=.ok d->∃ i j,a=.int i/\b=.int j)(he:∀ a b c,o a b≠.err c):OpK X (rI0 fun i j=>.int (h i j)) o:=
 ⟨he,fun Hi H x y a b d Q s r1 r2 z q=>by
  obtain⟨i,j,rfl,rfl⟩:=hn a b d z;rw[hi] at z;cases z
  exact⟨i,j,r1.intI,r2.intI,q _ Hi H (Ext.refl s) (.int _)⟩⟩
theorem zLZ{o:Op2}{h:Int->Int->Bool}(hi:∀ i j,o (.int i) (.int j)=.ok (.bl (h i j)))(hn:∀ a b d,o a b=.ok d->∃ i j,a=.int i/\b=.int j)(he:∀ a b c,o a b≠.err c):OpK X (rI0 fun i j=>.bl (h i j)) o:=
 ⟨he,fun Hi H x y a b d Q s r1 r2 z q=>by
  obtain⟨i,j,rfl,rfl⟩:=hn a b d z;rw[hi] at z;cases z
  exact⟨i,j,r1.intI,r2.intI,q _ Hi H (Ext.refl s) (.bl _)⟩⟩
theorem zIk:OpK X (rI0 fun i j=>.int (i-j)) zEa:=zQe (fun _ _=>rfl) (fun a b d z=>by unfold zEa at z;split at z<;>first | exact⟨_,_,rfl,rfl⟩ | cases z) (fun a b c z=>by unfold zEa at z;split at z<;>cases z)
theorem zLc:OpK X (rI0 fun i j=>.bl (decide (i<j))) oLt:=zLZ (fun _ _=>rfl) (fun a b d z=>by unfold oLt at z;split at z<;>first | exact⟨_,_,rfl,rfl⟩ | cases z) (fun a b c z=>by unfold oLt at z;split at z<;>cases z)
theorem zOL:OpK X (rI0 fun i j=>.bl (decide (j<i))) oGt:=zLZ (fun _ _=>rfl) (fun a b d z=>by unfold oGt at z;split at z<;>first | exact⟨_,_,rfl,rfl⟩ | cases z) (fun a b c z=>by unfold oGt at z;split at z<;>cases z)
theorem zJY{o:Op2}{C:Int->Int->Prop}{h:Int->Int->Int}(hn:∀ a b d,o a b=.ok d->∃ i j,a=.int i/\b=.int j/\C i j/\d=.int (h i j))(he:∀ a b c,o a b≠.err c):OpK X (rI C fun i j=>.int (h i j)) o:=
 ⟨he,fun Hi H x y a b d Q s r1 r2 z q=>by
  obtain⟨i,j,rfl,rfl,hc,rfl⟩:=hn a b d z
  exact⟨i,j,r1.intI,r2.intI,hc,q _ Hi H (Ext.refl s) (.int _)⟩⟩
def zPW(i j:Int):Prop:=kK i j=true
theorem cK:OpR X (binaryOp .Mult) (rI zPW fun i j=>.int (i*j)):=opI fun i j _ _ _ _ _ hc q=>by
 have hc':kK i j=true:=hc;unfold kK at hc';simp only[VQ,Ve,decide_eq_true_eq] at hc';rcases hc' with (⟨h1,h2⟩ | ⟨h1,h2⟩) | h
 ·exact mul_int q (zQZ.ok (.inl ⟨h1,h2⟩))
 ·exact mul_int q (zQZ.ok (.inr ⟨h1,h2⟩))
 ·exact mul_int q (PySem.IntMulOk.of_le (XZ.mpr (zMK i)) (XZ.mpr (zMK j)) h)
def zQE(_ j:Int):Prop:=mJ j=true
theorem dQ:OpR X (binaryOp .FloorDiv) (rI zQE fun i j=>.int (i.fdiv j)):=opI fun i j _ _ _ _ _ hc q=>by
 have hc':mJ j=true:=hc;unfold mJ at hc';simp only[Ve,decide_eq_true_eq] at hc';refine floordiv_int hc'.1 q (.inl (PyProof.noPylong_of_log2 ?_))
 have h2:=hc'.2;unfold nb at h2;omega
def zPh(i j:Int):Prop:=rD i j=true
theorem nE:OpR X (binaryOp .Pow) (rI zPh fun i j=>.int (i^j.toNat)):=opI fun i j _ _ _ _ _ hc q=>by
 have hc':rD i j=true:=hc;unfold rD at hc';simp only[Ve,decide_eq_true_eq] at hc';refine pow_int hc'.1 (Vp (Int.mul_le_mul_of_nonneg_right ?_ hc'.1) hc'.2) q
 have:=XZ.mpr (zMK i)
 omega
theorem jN:OpK X (rI zPW fun i j=>.int (i*j)) qV:=zJY (fun a b d z=>by
 unfold qV at z;split at z
 case h_2=>cases z
 rename_i i j
 have z':(if kK i j=true then Res.ok (D.int (i*j)) else .no)=.ok d:=z;by_cases h:kK i j=true
 ·rw[if_pos h] at z';cases z';exact⟨i,j,rfl,rfl,h,rfl⟩
 ·rw[if_neg h] at z';cases z') (fun a b c z=>by
 unfold qV at z;split at z
 case h_2=>cases z
 rename_i i j
 have z':(if kK i j=true then Res.ok (D.int (i*j)) else .no)=.err c:=z;by_cases h:kK i j=true
 ·rw[if_pos h] at z';cases z'
 ·rw[if_neg h] at z';cases z')
theorem nG:OpK X (rI zQE fun i j=>.int (i.fdiv j)) wB:=zJY (fun a b d z=>by
 unfold wB at z;split at z
 case h_2=>cases z
 rename_i i j
 have z':(if mJ j=true then Res.ok (D.int (i.fdiv j)) else .no)=.ok d:=z;by_cases h:mJ j=true
 ·rw[if_pos h] at z';cases z';exact⟨i,j,rfl,rfl,h,rfl⟩
 ·rw[if_neg h] at z';cases z') (fun a b c z=>by
 unfold wB at z;split at z
 case h_2=>cases z
 rename_i i j
 have z':(if mJ j=true then Res.ok (D.int (i.fdiv j)) else .no)=.err c:=z;by_cases h:mJ j=true
 ·rw[if_pos h] at z';cases z'
 ·rw[if_neg h] at z';cases z')
theorem iX:OpK X (rI (fun _ j=>j≠0) fun i j=>.int (i.fmod j)) qD:=zJY (fun a b d z=>by
 unfold qD at z;split at z
 case h_2=>cases z
 rename_i i j
 have z':(if j≠0 then Res.ok (D.int (i.fmod j)) else .no)=.ok d:=z;by_cases h:j≠0
 ·rw[if_pos h] at z';cases z';exact⟨i,j,rfl,rfl,h,rfl⟩
 ·rw[if_neg h] at z';cases z') (fun a b c z=>by
 unfold qD at z;split at z
 case h_2=>cases z
 rename_i i j
 have z':(if j≠0 then Res.ok (D.int (i.fmod j)) else .no)=.err c:=z;by_cases h:j≠0
 ·rw[if_pos h] at z';cases z'
 ·rw[if_neg h] at z';cases z')
theorem zCz:OpK X (rI zPh fun i j=>.int (i^j.toNat)) zGG:=zJY (fun a b d z=>by
 unfold zGG at z;split at z
 case h_2=>cases z
 rename_i i j
 have z':(if rD i j=true then Res.ok (D.int (i^j.toNat)) else .no)=.ok d:=z;by_cases h:rD i j=true
 ·rw[if_pos h] at z';cases z';exact⟨i,j,rfl,rfl,h,rfl⟩
 ·rw[if_neg h] at z';cases z') (fun a b c z=>by
 unfold zGG at z;split at z
 case h_2=>cases z
 rename_i i j
 have z':(if rD i j=true then Res.ok (D.int (i^j.toNat)) else .no)=.err c:=z;by_cases h:rD i j=true
 ·rw[if_pos h] at z';cases z'
 ·rw[if_neg h] at z';cases z')
def zPi(K:PySem.W.Frag):R2:=fun x y H Q=>∃ a b ys,x=.ref a/\y=.ref b/\SqT K H a []/\SqT K H b ys/\Q (.ref b) H
theorem zOp:OpR X (binaryOp .Add) (zPi X.K):=by
 intro pins s σ H x y v u Q I rx ry h;obtain⟨a,b,ys,rfl,rfl,ha,hb,q⟩:=h;cases rx;cases ry;obtain⟨its,r1,p1,_⟩:=I.tuple ha;obtain⟨its2,r2,p2,_⟩:=I.tuple hb;cases r1;obtain⟨⟨c1,d1,t1,s1⟩,ho1,hc1,n1,hd1⟩:=id p1;obtain⟨⟨c2,d2,t2,s2⟩,ho2,hc2,n2,hd2⟩:=id p2;simp only at hc1 hd1 hc2 hd2
 subst hc1 hd1 hc2 hd2;exact concat_meets ⟨_,ho1,rfl⟩ ⟨_,ho2,rfl⟩ noFill_tuple_add seq_tuple_add XD XF (XG _ _) (tuple_addW0 a b #[] its2.toArray n1 n2 d1 d2 s1 s2 rfl) ⟨ho1,ho2,⟨.ref b,H,I,rfl,q⟩⟩
def zQa(K:PySem.W.Frag):R2:=fun x y H Q=>rI0 (fun i j=>.int (i+j)) x y H Q∨(zPc K x y H Q∨zPi K x y H Q)
theorem dE:OpR X (binaryOp .Add) (zQa X.K):=OpR.or zQK (OpR.or zMO zOp)
theorem lF:OpK X (zQa X.K) rB:=⟨fun a b c z=>(by
  unfold rB at z;split at z
  case h_1=>cases z
  case h_3=>cases z
  rename_i as bs
  have z':(if as.length+bs.length<=16777216 then Res.ok (D.tup (as++bs)) else .no)=.err c:=z
  split at z'<;>cases z'),fun Hi H x y a b d Q s r1 r2 z q=>by
  unfold rB at z;split at z
  case h_3=>cases z
  ·cases z
   exact .inl ⟨_,_,r1.intI,r2.intI,q _ Hi H (Ext.refl s) (.int _)⟩
  ·rename_i as bs
   have z':(if as.length+bs.length<=16777216 then Res.ok (D.tup (as++bs)) else .no)=.ok d:=z;split at z'
   ·rename_i hz
    cases z'
    obtain⟨p,xs,rfl,h1,i1⟩:=r1.tupI;obtain⟨p',ys,rfl,h2,i2⟩:=r2.tupI;by_cases h0:as.length=0
    ·have e0:as=[]:=X0 h0
     subst e0;cases i1;exact .inr (.inr ⟨p,p',ys,rfl,rfl,cC s h1,cC s h2,q _ Hi H (Ext.refl s) (.tup h2 i2)⟩)
    refine .inr (.inl ⟨p,p',xs,ys,rfl,rfl,cC s h1,cC s h2,fun e=>h0 (by rw[<-i1.length,e];rfl),by rw[i1.length,i2.length];exact hz,fun e=>?_,fun _ l hl=>?_⟩)
    ·subst e
     cases i2;rw[QW] at q;exact q _ Hi H (Ext.refl s) (.tup h1 i1)
    ·exact q _ _ _ (Ext.new s hl) (.tup (SqT.of aW) ((i1.append i2).mono (cX (s.none hl) _)))
   ·cases z'⟩
theorem zOE{α:Type}{xs:List α}{i:Int}{v:α}(h0:i<0)(h1:0<=(xs.length:Int)+i)(h:xs[((xs.length:Int)+i).toNat]?=some v):atI xs i=some v:=by
 have e:ixN xs.length i=some ((xs.length:Int)+i).toNat:=by
  unfold ixN;rw[if_neg (by omega),if_pos (by omega)];congr 2
  omega
 unfold atI;rw[e];exact h
theorem zGV{K:Fg_}{H:Hp}{xs:List V}{ds:List D}{i:Int}{d:D}(h:IsDs K H xs ds)(e:atD ds i=some d):∃ v,atI xs i=some v/\IsD K H v d:=by
 unfold atD at e;by_cases h0:0<=i
 ·rw[if_pos h0] at e
  obtain⟨v,hv,r⟩:=h.at e;refine⟨v,?_,r⟩
  have:=zCQ hv
  rw[show((i.toNat:Nat):Int)=i by omega] at this;exact this
 ·rw[if_neg h0] at e
  by_cases h1:0<=(ds.length:Int)+i
  ·rw[if_pos h1] at e
   obtain⟨v,hv,r⟩:=h.at e;refine⟨v,?_,r⟩
   have hl:=h.length;have e2:((ds.length:Int)+i).toNat=((xs.length:Int)+i).toNat:=by rw[hl]
   rw[e2] at hv;exact zOE (by omega) (by omega) hv
  ·rw[if_neg h1] at e;cases e
theorem gE:OpK X (fun x y H Q=>zRb X.K x y H Q∨zRi X.K x y H Q) oIx:=⟨fun a b c z=>(by
  unfold oIx at z;split at z
  case h_3=>cases z
  ·rename_i ds i
   have z':ofO (atD ds i)=Res.err c:=z;cases q:atD ds i<;>rw[q] at z'<;>cases z'
  ·rename_i ds i
   have z':ofO (atD ds i)=Res.err c:=z
   cases q:atD ds i<;>rw[q] at z'<;>cases z'),fun Hi H x y a b d Q s r1 r2 z q=>by
  unfold oIx at z;split at z
  case h_3=>cases z
  ·rename_i ds i
   have z':ofO (atD ds i)=Res.ok d:=z
   cases w:atD ds i with
   | none=>rw[w] at z';cases z'
   | some d'=>
    rw[w] at z';cases z'
    obtain⟨p,xs,rfl,h1,i1⟩:=r1.tupI;obtain⟨v,hv,r⟩:=zGV i1 w;exact .inr ⟨p,xs,i,v,rfl,r2.intI,cC s h1,hv,q v Hi H (Ext.refl s) r⟩
  ·rename_i ds i
   have z':ofO (atD ds i)=Res.ok d:=z
   cases w:atD ds i with
   | none=>rw[w] at z';cases z'
   | some d'=>
    rw[w] at z';cases z'
    obtain⟨p,xs,rfl,h1,i1⟩:=r1.lstI;obtain⟨v,hv,r⟩:=zGV i1 w
    exact .inl ⟨p,xs,i,v,rfl,r2.intI,cE s h1,hv,q v Hi H (Ext.refl s) r⟩⟩
theorem aP:IxR X (fun x y H Q=>zRb X.K x y H Q∨zRi X.K x y H Q):=zMC.or zPC
end
section
variable{X:Cx}{pins:List (Addr×Obj)}{σ:St}{H:Hp}{s:Shared}
mutual
theorem IsD.inj(I:Inv X pins σ H s):∀ {v:V} {d e:D},IsD X.K H v d->IsD X.K H v e->d=e
 | _,_,_,.non,h=>by cases h;rfl
 | _,_,_,.bl b,h=>by cases h;rfl
 | _,_,_,.int i,h=>by cases h;rfl
 | _,_,_,.str x,h=>by cases h;rfl
 | _,_,_,.tup h hs,h2=>by
  cases h2 with
  | tup h' hs'=>
   have e:=I.tuple_inj h h';subst e;rw[IsDs.inj I hs hs']
  | lst h' hs'=>
   exfalso
   obtain⟨_,_,⟨o,e,c,_⟩,_⟩:=I.tuple h;obtain⟨_,_,⟨o',n',e',c',_⟩,_⟩:=I.list h';rw[e] at e';cases e';rw[c] at c';exact absurd c' (by decide)
 | _,_,_,.lst h hs,h2=>by
  cases h2 with
  | lst h' hs'=>
   have e:=I.list_inj h h';subst e;rw[IsDs.inj I hs hs']
  | tup h' hs'=>
   exfalso
   obtain⟨_,_,⟨o,e,c,_⟩,_⟩:=I.tuple h';obtain⟨_,_,⟨o',n',e',c',_⟩,_⟩:=I.list h;rw[e] at e';cases e';rw[c] at c';exact absurd c' (by decide)
theorem IsDs.inj(I:Inv X pins σ H s):∀ {vs:List V} {ds es:List D},IsDs X.K H vs ds->IsDs X.K H vs es->ds=es
 | _,_,_,.nil,h=>by cases h;rfl
 | _,_,_,.cons h hs,h2=>by
  cases h2 with
  | cons h' hs'=>rw[IsD.inj I h h',IsDs.inj I hs hs']
end
theorem zIR{α:Type}{l:List α}{j:Nat}{x d:α}(h:l[j]?=some x):l.getD j d=x:=by
 rw[Qw,h];rfl
theorem oG{A:Around}{xs xs':List V}{ds ds':List D}{its its':List Value}(hs:IsDs X.K H xs ds)(hs':IsDs X.K H xs' ds')(rv:dN xs its)(rv':dN xs' its')
  (rc:∀(d d':D)(v v':V)(u u':Value),d∈ds->IsD X.K H v d->IsD X.K H v' d'->dB v u->dB v' u'->SeqAt.EqAt A s u u' (eqD d d'))
  (j:Nat) (g1:j<its.toArray.size) (g2:j<its'.toArray.size):SeqAt.EqAt A s its.toArray[j] its'.toArray[j] (eqD (ds.getD j .non) (ds'.getD j .non)):=by
 have g1':j<its.length:=by simpa using g1
 have g2':j<its'.length:=by simpa using g2
 have l1:its.length=ds.length:=by rw[<-rv.length,hs.length]
 have l2:its'.length=ds'.length:=by rw[<-rv'.length,hs'.length]
 obtain⟨d,hd⟩:∃ d,ds[j]?=some d:=⟨_,Qp (by omega)⟩
 obtain⟨d',hd'⟩:∃ d,ds'[j]?=some d:=⟨_,Qp (by omega)⟩
 obtain⟨v,hv,iv⟩:=hs.at hd;obtain⟨v',hv',iv'⟩:=hs'.at hd';obtain⟨w1,hw,rw1⟩:=rv.get hv;obtain⟨w2,hw',rw2⟩:=rv'.get hv'
 have e1:its.toArray[j]=w1:=by
  rw[Qp g1'] at hw;simpa using hw
 have e2:its'.toArray[j]=w2:=by
  rw[Qp g2'] at hw';simpa using hw'
 rw[e1,e2,zIR hd,zIR hd'];exact rc d d' v v' w1 w2 (Qj hd) iv iv' rw1 rw2
theorem jC{ds ds':List D}(h:ds.length=ds'.length):((List.range ds.length).all fun j=>eqD (ds.getD j .non) (ds'.getD j .non))=zGC ds ds':=by
 rw[oD,<-h,Xp];simp
theorem zAB{ds ds':List D}(h:ds.length≠ds'.length):zGC ds ds'=false:=by
 rw[oD];simp[h]
theorem zCa(I:Inv X pins σ H s){A:Around}{v v':V}{d d':D}{u u':Value}(h1:IsD X.K H v d)(h2:IsD X.K H v' d')(r1:dB v u)(r2:dB v' u')(hu:A.units<cLine)
  (rc:∀ ds,(d=.tup ds∨d=.lst ds)->∀(e e':D)(w w':V)(z z':Value),e∈ds->IsD X.K H w e->IsD X.K H w' e'->dB w z->dB w' z'->SeqAt.EqAt A.in1 s z z' (eqD e e')):
  SeqAt.EqAt A s u u' (eqD d d'):=by
 cases h1 with
 | non=>
  cases (show u=Value.none from r1)
  cases h2 with
  | non=>cases (show u'=Value.none from r2);exact SeqAt.EqAt.same _
  | bl b=>cases (show u'=Value.bool _ from r2);exact SeqAt.EqAt.none_bool _
  | int i=>obtain⟨t,rfl⟩:=r2;exact SeqAt.EqAt.none_int _ _
  | str x=>obtain⟨t,rfl⟩:=r2;exact SeqAt.EqAt.none_str _ _
  | tup h hs=>cases (show u'=Value.ref _ from r2);obtain⟨its,rv,p,hz⟩:=I.tuple h;exact SeqAt.EqAt.none_tuple (show s.heap.IsTuple _ its.toArray from p) hu
  | lst h hs=>cases (show u'=Value.ref _ from r2);obtain⟨its,rv,p,hz⟩:=I.list h;exact SeqAt.EqAt.none_list p.isList hu
 | bl b=>
  cases (show u=Value.bool _ from r1)
  cases h2 with
  | non=>cases (show u'=Value.none from r2);exact SeqAt.EqAt.bool_none _
  | bl b=>cases (show u'=Value.bool _ from r2);exact SeqAt.EqAt.bool_bool _ _
  | int i=>obtain⟨t,rfl⟩:=r2;exact SeqAt.EqAt.bool_int _ _ _
  | str x=>obtain⟨t,rfl⟩:=r2;exact SeqAt.EqAt.bool_str _ _ _
  | tup h hs=>cases (show u'=Value.ref _ from r2);obtain⟨its,rv,p,hz⟩:=I.tuple h;exact SeqAt.EqAt.bool_tuple _ (show s.heap.IsTuple _ its.toArray from p) hu
  | lst h hs=>cases (show u'=Value.ref _ from r2);obtain⟨its,rv,p,hz⟩:=I.list h;exact SeqAt.EqAt.bool_list _ p.isList hu
 | int i=>
  obtain⟨t,rfl⟩:=r1
  cases h2 with
  | non=>cases (show u'=Value.none from r2);exact SeqAt.EqAt.int_none _ _
  | bl b=>cases (show u'=Value.bool _ from r2);exact SeqAt.EqAt.int_bool _ _ _
  | int i=>obtain⟨t,rfl⟩:=r2;exact SeqAt.EqAt.int_int _ _ _ _
  | str x=>obtain⟨t,rfl⟩:=r2;exact SeqAt.EqAt.int_str _ _ _ _
  | tup h hs=>cases (show u'=Value.ref _ from r2);obtain⟨its,rv,p,hz⟩:=I.tuple h;exact SeqAt.EqAt.int_tuple _ _ (show s.heap.IsTuple _ its.toArray from p) hu
  | lst h hs=>cases (show u'=Value.ref _ from r2);obtain⟨its,rv,p,hz⟩:=I.list h;exact SeqAt.EqAt.int_list _ _ p.isList hu
 | str x=>
  obtain⟨t,rfl⟩:=r1
  cases h2 with
  | non=>cases (show u'=Value.none from r2);exact SeqAt.EqAt.str_none _ _
  | bl b=>cases (show u'=Value.bool _ from r2);exact SeqAt.EqAt.str_bool _ _ _
  | int i=>obtain⟨t,rfl⟩:=r2;exact SeqAt.EqAt.str_int _ _ _ _
  | str x=>obtain⟨t,rfl⟩:=r2;exact SeqAt.EqAt.str_str _ _ _ _
  | tup h hs=>cases (show u'=Value.ref _ from r2);obtain⟨its,rv,p,hz⟩:=I.tuple h;exact SeqAt.EqAt.str_tuple _ _ (show s.heap.IsTuple _ its.toArray from p) hu
  | lst h hs=>cases (show u'=Value.ref _ from r2);obtain⟨its,rv,p,hz⟩:=I.list h;exact SeqAt.EqAt.str_list _ _ p.isList hu
 | @tup a xs ds h hs=>
  cases (show u=Value.ref a from r1)
  obtain⟨its,rv,p,hz⟩:=I.tuple h
  cases h2 with
  | non=>cases (show u'=Value.none from r2);exact SeqAt.EqAt.tuple_none (show s.heap.IsTuple _ its.toArray from p) hu
  | bl b=>cases (show u'=Value.bool _ from r2);exact SeqAt.EqAt.tuple_bool _ (show s.heap.IsTuple _ its.toArray from p) hu
  | int i=>obtain⟨t,rfl⟩:=r2;exact SeqAt.EqAt.tuple_int _ _ (show s.heap.IsTuple _ its.toArray from p) hu
  | str x=>obtain⟨t,rfl⟩:=r2;exact SeqAt.EqAt.tuple_str _ _ (show s.heap.IsTuple _ its.toArray from p) hu
  | @tup a' xs' ds' h' hs'=>
   cases (show u'=Value.ref a' from r2)
   by_cases e:a=a'
   ·subst e
    have e:=I.tuple_inj h h';subst e;have e:=IsDs.inj I hs hs';subst e;rw[tU];exact SeqAt.EqAt.same _
   ·obtain⟨its',rv',p',hz'⟩:=I.tuple h'
    have l1:its.toArray.size=ds.length:=by rw[Ql,<-rv.length,hs.length]
    have l2:its'.toArray.size=ds'.length:=by rw[Ql,<-rv'.length,hs'.length]
    have key:=SeqAt.RcAt.tuples (A:=A) (s:=s) (show s.heap.IsTuple a its.toArray from p) (show s.heap.IsTuple a' its'.toArray from p') hu
     (oG (A:=A.in1) (s:=s) hs hs' rv rv' fun d d' v v' u u' hm iv iv' r r'=>rc ds (.inl rfl) d d' v v' u u' hm iv iv' r r')
    rw[l1,l2,<-oD] at key;exact SeqAt.EqAt.of_refs e key
  | @lst a' xs' ds' h' hs'=>
   cases (show u'=Value.ref a' from r2)
   obtain⟨its',rv',p',hz'⟩:=I.list h';exact SeqAt.EqAt.tuple_list (show s.heap.IsTuple _ its.toArray from p) p'.isList hu
 | @lst a xs ds h hs=>
  cases (show u=Value.ref a from r1)
  obtain⟨its,rv,p,hz⟩:=I.list h
  cases h2 with
  | non=>cases (show u'=Value.none from r2);exact SeqAt.EqAt.list_none p.isList hu
  | bl b=>cases (show u'=Value.bool _ from r2);exact SeqAt.EqAt.list_bool _ p.isList hu
  | int i=>obtain⟨t,rfl⟩:=r2;exact SeqAt.EqAt.list_int _ _ p.isList hu
  | str x=>obtain⟨t,rfl⟩:=r2;exact SeqAt.EqAt.list_str _ _ p.isList hu
  | @tup a' xs' ds' h' hs'=>
   cases (show u'=Value.ref a' from r2)
   obtain⟨its',rv',p',hz'⟩:=I.tuple h';exact SeqAt.EqAt.list_tuple p.isList (show s.heap.IsTuple _ its'.toArray from p') hu
  | @lst a' xs' ds' h' hs'=>
   cases (show u'=Value.ref a' from r2)
   by_cases e:a=a'
   ·subst e
    have e:=I.list_inj h h';subst e;have e:=IsDs.inj I hs hs';subst e;rw[tU];exact SeqAt.EqAt.same _
   ·obtain⟨its',rv',p',hz'⟩:=I.list h'
    have l1:its.toArray.size=ds.length:=by rw[Ql,<-rv.length,hs.length]
    have l2:its'.toArray.size=ds'.length:=by rw[Ql,<-rv'.length,hs'.length]
    by_cases hl:ds.length=ds'.length
    ·have key:=SeqAt.RcAt.lists (A:=A) (s:=s) p.isList p'.isList (by rw[l1,l2,hl]) hu
      (oG (A:=A.in1) (s:=s) hs hs' rv rv' fun d d' v v' u u' hm iv iv' r r'=>rc ds (.inr rfl) d d' v v' u u' hm iv iv' r r')
     rw[l1,jC hl] at key;exact SeqAt.EqAt.of_refs e key
    ·have key:=SeqAt.RcAt.lists_lengths (A:=A) (s:=s) p.isList p'.isList (by rw[l1,l2];simp[hl]) hu
     rw[eqD,zAB hl];exact SeqAt.EqAt.of_refs e key
theorem zIh(I:Inv X pins σ H s)(n:Nat):∀ {v v':V} {d d':D},dep d<=n->IsD X.K H v d->IsD X.K H v' d'->
  ∀(A:Around)(u u':Value),A.units+n<cLine->dB v u->dB v' u'->SeqAt.EqAt A s u u' (eqD d d'):=by
 induction n with
 | zero=>
  intro v v' d d' hn h1 h2 A u u' hu r1 r2;refine zCa I h1 h2 r1 r2 (by omega) fun ds hd=>?_
  rcases hd with rfl | rfl<;>(rw[dep] at hn;omega)
 | succ n ih=>
  intro v v' d d' hn h1 h2 A u u' hu r1 r2;refine zCa I h1 h2 r1 r2 (by omega) fun ds hd e e' w w' z z' hm i1 i2 q1 q2=>?_
  refine ih ?_ i1 i2 A.in1 z z' (by show A.units+1+n<cLine;omega) q1 q2
  have:=wD hm
  rcases hd with rfl | rfl<;>(rw[dep] at hn;omega)
theorem zJu(I:Inv X pins σ H s){A:Around}{v v':V}{d d':D}{u u':Value}(h1:IsD X.K H v d)(h2:IsD X.K H v' d')(r1:dB v u)(r2:dB v' u')(hu:A.units<cLine)
  (rc:∀ ds,(d=.tup ds∨d=.lst ds)->∀(e e':D)(w w':V)(z z':Value),e∈ds->IsD X.K H w e->IsD X.K H w' e'->dB w z->dB w' z'->SeqAt.EqAt A.in1 s z z' (eqD e e')):
  SeqAt.RcAt A s u u' (eqD d d'):=by
 cases h1 with
 | non=>
  cases (show u=Value.none from r1)
  cases h2 with
  | non=>cases (show u'=Value.none from r2);exact SeqAt.RcAt.none_none
  | bl b=>cases (show u'=Value.bool _ from r2);exact SeqAt.RcAt.none_bool _
  | int i=>obtain⟨t,rfl⟩:=r2;exact SeqAt.RcAt.none_int _ _
  | str x=>obtain⟨t,rfl⟩:=r2;exact SeqAt.RcAt.none_str _ _
  | tup h hs=>cases (show u'=Value.ref _ from r2);obtain⟨its,rv,p,hz⟩:=I.tuple h;exact SeqAt.RcAt.none_tuple (show s.heap.IsTuple _ its.toArray from p) hu
  | lst h hs=>cases (show u'=Value.ref _ from r2);obtain⟨its,rv,p,hz⟩:=I.list h;exact SeqAt.RcAt.none_list p.isList hu
 | bl b=>
  cases (show u=Value.bool _ from r1)
  cases h2 with
  | non=>cases (show u'=Value.none from r2);exact SeqAt.RcAt.bool_none _
  | bl b=>cases (show u'=Value.bool _ from r2);exact SeqAt.RcAt.bool_bool _ _
  | int i=>obtain⟨t,rfl⟩:=r2;exact SeqAt.RcAt.bool_int _ _ _
  | str x=>obtain⟨t,rfl⟩:=r2;exact SeqAt.RcAt.bool_str _ _ _
  | tup h hs=>cases (show u'=Value.ref _ from r2);obtain⟨its,rv,p,hz⟩:=I.tuple h;exact SeqAt.RcAt.bool_tuple _ (show s.heap.IsTuple _ its.toArray from p) hu
  | lst h hs=>cases (show u'=Value.ref _ from r2);obtain⟨its,rv,p,hz⟩:=I.list h;exact SeqAt.RcAt.bool_list _ p.isList hu
 | int i=>
  obtain⟨t,rfl⟩:=r1
  cases h2 with
  | non=>cases (show u'=Value.none from r2);exact SeqAt.RcAt.int_none _ _
  | bl b=>cases (show u'=Value.bool _ from r2);exact SeqAt.RcAt.int_bool _ _ _
  | int i=>obtain⟨t,rfl⟩:=r2;exact SeqAt.RcAt.int_int _ _ _ _
  | str x=>obtain⟨t,rfl⟩:=r2;exact SeqAt.RcAt.int_str _ _ _ _
  | tup h hs=>cases (show u'=Value.ref _ from r2);obtain⟨its,rv,p,hz⟩:=I.tuple h;exact SeqAt.RcAt.int_tuple _ _ (show s.heap.IsTuple _ its.toArray from p) hu
  | lst h hs=>cases (show u'=Value.ref _ from r2);obtain⟨its,rv,p,hz⟩:=I.list h;exact SeqAt.RcAt.int_list _ _ p.isList hu
 | str x=>
  obtain⟨t,rfl⟩:=r1
  cases h2 with
  | non=>cases (show u'=Value.none from r2);exact SeqAt.RcAt.str_none _ _
  | bl b=>cases (show u'=Value.bool _ from r2);exact SeqAt.RcAt.str_bool _ _ _
  | int i=>obtain⟨t,rfl⟩:=r2;exact SeqAt.RcAt.str_int _ _ _ _
  | str x=>obtain⟨t,rfl⟩:=r2;exact SeqAt.RcAt.str_str _ _ _ _
  | tup h hs=>cases (show u'=Value.ref _ from r2);obtain⟨its,rv,p,hz⟩:=I.tuple h;exact SeqAt.RcAt.str_tuple _ _ (show s.heap.IsTuple _ its.toArray from p) hu
  | lst h hs=>cases (show u'=Value.ref _ from r2);obtain⟨its,rv,p,hz⟩:=I.list h;exact SeqAt.RcAt.str_list _ _ p.isList hu
 | @tup a xs ds h hs=>
  cases (show u=Value.ref a from r1)
  obtain⟨its,rv,p,hz⟩:=I.tuple h
  cases h2 with
  | non=>cases (show u'=Value.none from r2);exact SeqAt.RcAt.tuple_none (show s.heap.IsTuple _ its.toArray from p) hu
  | bl b=>cases (show u'=Value.bool _ from r2);exact SeqAt.RcAt.tuple_bool _ (show s.heap.IsTuple _ its.toArray from p) hu
  | int i=>obtain⟨t,rfl⟩:=r2;exact SeqAt.RcAt.tuple_int _ _ (show s.heap.IsTuple _ its.toArray from p) hu
  | str x=>obtain⟨t,rfl⟩:=r2;exact SeqAt.RcAt.tuple_str _ _ (show s.heap.IsTuple _ its.toArray from p) hu
  | @tup a' xs' ds' h' hs'=>
   cases (show u'=Value.ref a' from r2)
   ·obtain⟨its',rv',p',hz'⟩:=I.tuple h'
    have l1:its.toArray.size=ds.length:=by rw[Ql,<-rv.length,hs.length]
    have l2:its'.toArray.size=ds'.length:=by rw[Ql,<-rv'.length,hs'.length]
    have key:=SeqAt.RcAt.tuples (A:=A) (s:=s) (show s.heap.IsTuple a its.toArray from p) (show s.heap.IsTuple a' its'.toArray from p') hu
     (oG (A:=A.in1) (s:=s) hs hs' rv rv' fun d d' v v' u u' hm iv iv' r r'=>rc ds (.inl rfl) d d' v v' u u' hm iv iv' r r')
    rw[l1,l2,<-oD] at key;exact key
  | @lst a' xs' ds' h' hs'=>
   cases (show u'=Value.ref a' from r2)
   obtain⟨its',rv',p',hz'⟩:=I.list h';exact SeqAt.RcAt.tuple_list (show s.heap.IsTuple _ its.toArray from p) p'.isList hu
 | @lst a xs ds h hs=>
  cases (show u=Value.ref a from r1)
  obtain⟨its,rv,p,hz⟩:=I.list h
  cases h2 with
  | non=>cases (show u'=Value.none from r2);exact SeqAt.RcAt.list_none p.isList hu
  | bl b=>cases (show u'=Value.bool _ from r2);exact SeqAt.RcAt.list_bool _ p.isList hu
  | int i=>obtain⟨t,rfl⟩:=r2;exact SeqAt.RcAt.list_int _ _ p.isList hu
  | str x=>obtain⟨t,rfl⟩:=r2;exact SeqAt.RcAt.list_str _ _ p.isList hu
  | @tup a' xs' ds' h' hs'=>
   cases (show u'=Value.ref a' from r2)
   obtain⟨its',rv',p',hz'⟩:=I.tuple h';exact SeqAt.RcAt.list_tuple p.isList (show s.heap.IsTuple _ its'.toArray from p') hu
  | @lst a' xs' ds' h' hs'=>
   cases (show u'=Value.ref a' from r2)
   ·obtain⟨its',rv',p',hz'⟩:=I.list h'
    have l1:its.toArray.size=ds.length:=by rw[Ql,<-rv.length,hs.length]
    have l2:its'.toArray.size=ds'.length:=by rw[Ql,<-rv'.length,hs'.length]
    by_cases hl:ds.length=ds'.length
    ·have key:=SeqAt.RcAt.lists (A:=A) (s:=s) p.isList p'.isList (by rw[l1,l2,hl]) hu
      (oG (A:=A.in1) (s:=s) hs hs' rv rv' fun d d' v v' u u' hm iv iv' r r'=>rc ds (.inr rfl) d d' v v' u u' hm iv iv' r r')
     rw[l1,jC hl] at key;exact key
    ·have key:=SeqAt.RcAt.lists_lengths (A:=A) (s:=s) p.isList p'.isList (by rw[l1,l2];simp[hl]) hu
     rw[eqD,zAB hl];exact key
theorem zIT(I:Inv X pins σ H s){A:Around}{v v':V}{d d':D}{u u':Value}(h1:IsD X.K H v d)(h2:IsD X.K H v' d')(r1:dB v u)(r2:dB v' u')(hu:A.units<cLine)
  (rc:∀ ds,(d=.tup ds∨d=.lst ds)->∀(e e':D)(w w':V)(z z':Value),e∈ds->IsD X.K H w e->IsD X.K H w' e'->dB w z->dB w' z'->SeqAt.EqAt A.in1 s z z' (eqD e e')):
  SeqAt.RcNeAt A s u u' (!eqD d d'):=by
 cases h1 with
 | non=>
  cases (show u=Value.none from r1)
  cases h2 with
  | non=>cases (show u'=Value.none from r2);exact SeqAt.RcNeAt.none_none
  | bl b=>cases (show u'=Value.bool _ from r2);exact SeqAt.RcNeAt.none_bool _
  | int i=>obtain⟨t,rfl⟩:=r2;exact SeqAt.RcNeAt.none_int _ _
  | str x=>obtain⟨t,rfl⟩:=r2;exact SeqAt.RcNeAt.none_str _ _
  | tup h hs=>cases (show u'=Value.ref _ from r2);obtain⟨its,rv,p,hz⟩:=I.tuple h;exact SeqAt.RcNeAt.none_tuple (show s.heap.IsTuple _ its.toArray from p) hu
  | lst h hs=>cases (show u'=Value.ref _ from r2);obtain⟨its,rv,p,hz⟩:=I.list h;exact SeqAt.RcNeAt.none_list p.isList hu
 | bl b=>
  cases (show u=Value.bool _ from r1)
  cases h2 with
  | non=>cases (show u'=Value.none from r2);exact SeqAt.RcNeAt.bool_none _
  | bl b=>cases (show u'=Value.bool _ from r2);exact SeqAt.RcNeAt.bool_bool _ _
  | int i=>obtain⟨t,rfl⟩:=r2;exact SeqAt.RcNeAt.bool_int _ _ _
  | str x=>obtain⟨t,rfl⟩:=r2;exact SeqAt.RcNeAt.bool_str _ _ _
  | tup h hs=>cases (show u'=Value.ref _ from r2);obtain⟨its,rv,p,hz⟩:=I.tuple h;exact SeqAt.RcNeAt.bool_tuple _ (show s.heap.IsTuple _ its.toArray from p) hu
  | lst h hs=>cases (show u'=Value.ref _ from r2);obtain⟨its,rv,p,hz⟩:=I.list h;exact SeqAt.RcNeAt.bool_list _ p.isList hu
 | int i=>
  obtain⟨t,rfl⟩:=r1
  cases h2 with
  | non=>cases (show u'=Value.none from r2);exact SeqAt.RcNeAt.int_none _ _
  | bl b=>cases (show u'=Value.bool _ from r2);exact SeqAt.RcNeAt.int_bool _ _ _
  | int i=>obtain⟨t,rfl⟩:=r2;exact SeqAt.RcNeAt.int_int _ _ _ _
  | str x=>obtain⟨t,rfl⟩:=r2;exact SeqAt.RcNeAt.int_str _ _ _ _
  | tup h hs=>cases (show u'=Value.ref _ from r2);obtain⟨its,rv,p,hz⟩:=I.tuple h;exact SeqAt.RcNeAt.int_tuple _ _ (show s.heap.IsTuple _ its.toArray from p) hu
  | lst h hs=>cases (show u'=Value.ref _ from r2);obtain⟨its,rv,p,hz⟩:=I.list h;exact SeqAt.RcNeAt.int_list _ _ p.isList hu
 | str x=>
  obtain⟨t,rfl⟩:=r1
  cases h2 with
  | non=>cases (show u'=Value.none from r2);exact SeqAt.RcNeAt.str_none _ _
  | bl b=>cases (show u'=Value.bool _ from r2);exact SeqAt.RcNeAt.str_bool _ _ _
  | int i=>obtain⟨t,rfl⟩:=r2;exact SeqAt.RcNeAt.str_int _ _ _ _
  | str x=>obtain⟨t,rfl⟩:=r2;exact SeqAt.RcNeAt.str_str _ _ _ _
  | tup h hs=>cases (show u'=Value.ref _ from r2);obtain⟨its,rv,p,hz⟩:=I.tuple h;exact SeqAt.RcNeAt.str_tuple _ _ (show s.heap.IsTuple _ its.toArray from p) hu
  | lst h hs=>cases (show u'=Value.ref _ from r2);obtain⟨its,rv,p,hz⟩:=I.list h;exact SeqAt.RcNeAt.str_list _ _ p.isList hu
 | @tup a xs ds h hs=>
  cases (show u=Value.ref a from r1)
  obtain⟨its,rv,p,hz⟩:=I.tuple h
  cases h2 with
  | non=>cases (show u'=Value.none from r2);exact SeqAt.RcNeAt.tuple_none (show s.heap.IsTuple _ its.toArray from p) hu
  | bl b=>cases (show u'=Value.bool _ from r2);exact SeqAt.RcNeAt.tuple_bool _ (show s.heap.IsTuple _ its.toArray from p) hu
  | int i=>obtain⟨t,rfl⟩:=r2;exact SeqAt.RcNeAt.tuple_int _ _ (show s.heap.IsTuple _ its.toArray from p) hu
  | str x=>obtain⟨t,rfl⟩:=r2;exact SeqAt.RcNeAt.tuple_str _ _ (show s.heap.IsTuple _ its.toArray from p) hu
  | @tup a' xs' ds' h' hs'=>
   cases (show u'=Value.ref a' from r2)
   ·obtain⟨its',rv',p',hz'⟩:=I.tuple h'
    have l1:its.toArray.size=ds.length:=by rw[Ql,<-rv.length,hs.length]
    have l2:its'.toArray.size=ds'.length:=by rw[Ql,<-rv'.length,hs'.length]
    have key:=SeqAt.RcNeAt.tuples (A:=A) (s:=s) (show s.heap.IsTuple a its.toArray from p) (show s.heap.IsTuple a' its'.toArray from p') hu
     (oG (A:=A.in1) (s:=s) hs hs' rv rv' fun d d' v v' u u' hm iv iv' r r'=>rc ds (.inl rfl) d d' v v' u u' hm iv iv' r r')
    rw[l1,l2,<-oD] at key;exact key
  | @lst a' xs' ds' h' hs'=>
   cases (show u'=Value.ref a' from r2)
   obtain⟨its',rv',p',hz'⟩:=I.list h';exact SeqAt.RcNeAt.tuple_list (show s.heap.IsTuple _ its.toArray from p) p'.isList hu
 | @lst a xs ds h hs=>
  cases (show u=Value.ref a from r1)
  obtain⟨its,rv,p,hz⟩:=I.list h
  cases h2 with
  | non=>cases (show u'=Value.none from r2);exact SeqAt.RcNeAt.list_none p.isList hu
  | bl b=>cases (show u'=Value.bool _ from r2);exact SeqAt.RcNeAt.list_bool _ p.isList hu
  | int i=>obtain⟨t,rfl⟩:=r2;exact SeqAt.RcNeAt.list_int _ _ p.isList hu
  | str x=>obtain⟨t,rfl⟩:=r2;exact SeqAt.RcNeAt.list_str _ _ p.isList hu
  | @tup a' xs' ds' h' hs'=>
   cases (show u'=Value.ref a' from r2)
   obtain⟨its',rv',p',hz'⟩:=I.tuple h';exact SeqAt.RcNeAt.list_tuple p.isList (show s.heap.IsTuple _ its'.toArray from p') hu
  | @lst a' xs' ds' h' hs'=>
   cases (show u'=Value.ref a' from r2)
   ·obtain⟨its',rv',p',hz'⟩:=I.list h'
    have l1:its.toArray.size=ds.length:=by rw[Ql,<-rv.length,hs.length]
    have l2:its'.toArray.size=ds'.length:=by rw[Ql,<-rv'.length,hs'.length]
    by_cases hl:ds.length=ds'.length
    ·have key:=SeqAt.RcNeAt.lists (A:=A) (s:=s) p.isList p'.isList (by rw[l1,l2,hl]) hu
      (oG (A:=A.in1) (s:=s) hs hs' rv rv' fun d d' v v' u u' hm iv iv' r r'=>rc ds (.inr rfl) d d' v v' u u' hm iv iv' r r')
     rw[l1,jC hl] at key;exact key
    ·have key:=SeqAt.RcNeAt.lists_lengths (A:=A) (s:=s) p.isList p'.isList (by rw[l1,l2];simp[hl]) hu
     rw[eqD,zAB hl];exact key
theorem eqA{X:Cx}(hu:X.A.units+64<cLine):OpR X (compareOp .Eq) (fun x y H Q=>∃ d d',IsD X.K H x d/\IsD X.K H y d'/\dep d<=50/\Q (.bl (eqD d d')) H):=by
 intro pins s σ H x y v u Q I rx ry h;obtain⟨d,d',h1,h2,hn,q⟩:=h;refine zJu I h1 h2 rx ry (by omega) (fun ds hd e e' w w' z z' hm i1 i2 q1 q2=>?_) X.prog X.w X.xe _ ⟨.bl _,H,I,rfl,q⟩
 refine zIh I 50 ?_ i1 i2 X.A.in1 z z' (by show X.A.units+1+50<cLine;omega) q1 q2
 have:=wD hm
 rcases hd with rfl | rfl<;>(rw[dep] at hn;omega)
theorem neA{X:Cx}(hu:X.A.units+64<cLine):OpR X (compareOp .NotEq) (fun x y H Q=>∃ d d',IsD X.K H x d/\IsD X.K H y d'/\dep d<=50/\Q (.bl (!eqD d d')) H):=by
 intro pins s σ H x y v u Q I rx ry h;obtain⟨d,d',h1,h2,hn,q⟩:=h;refine zIT I h1 h2 rx ry (by omega) (fun ds hd e e' w w' z z' hm i1 i2 q1 q2=>?_) X.prog X.w X.xe _ ⟨.bl _,H,I,rfl,q⟩
 refine zIh I 50 ?_ i1 i2 X.A.in1 z z' (by show X.A.units+1+50<cLine;omega) q1 q2
 have:=wD hm
 rcases hd with rfl | rfl<;>(rw[dep] at hn;omega)
theorem sX{X:Cx}:OpK X (fun x y H Q=>∃ d d',IsD X.K H x d/\IsD X.K H y d'/\dep d<=50/\Q (.bl (eqD d d')) H) oEq:=⟨fun a b c z=>(by
  unfold oEq at z;split at z<;>cases z),fun Hi H x y a b d Q s r1 r2 z q=>by
  unfold oEq at z;split at z
  ·rename_i h;cases z;exact⟨a,b,r1.mono s,r2.mono s,h,q _ Hi H (Ext.refl s) (.bl _)⟩
  ·cases z⟩
theorem zKv{X:Cx}:OpK X (fun x y H Q=>∃ d d',IsD X.K H x d/\IsD X.K H y d'/\dep d<=50/\Q (.bl (!eqD d d')) H) oNe:=⟨fun a b c z=>(by
  unfold oNe at z;split at z<;>cases z),fun Hi H x y a b d Q s r1 r2 z q=>by
  unfold oNe at z;split at z
  ·rename_i h;cases z;exact⟨a,b,r1.mono s,r2.mono s,h,q _ Hi H (Ext.refl s) (.bl _)⟩
  ·cases z⟩
open Classical in
def zON(K:PySem.W.Frag)(H:Hp)(dx:D)(u:Value):Bool:=if ∃ w d,IsD K H w d/\dB w u/\eqD d dx=true then true else false
theorem zIQ(I:Inv X pins σ H s){dx d:D}{w:V}{u:Value}(h:IsD X.K H w d)(r:dB w u):zON X.K H dx u=eqD d dx:=by
 unfold zON;by_cases e:eqD d dx=true
 ·rw[if_pos ⟨w,d,h,r,e⟩,e]
 ·rw[if_neg]
  ·simpa using e
  ·rintro⟨w',d',h',r',e'⟩
   have:=r.inj r'
   subst this;have:=IsD.inj I h h'
   subst this;exact e e'
theorem zDg(I:Inv X pins σ H s){dx:D}:∀ {xs:List V} {ds:List D} {us:List Value},IsDs X.K H xs ds->dN xs us->us.any (zON X.K H dx)=ds.any fun d=>eqD d dx
 | _,_,_,.nil,.nil=>rfl
 | _,_,_,.cons h hs,.cons r t=>by rw[List.any_cons,List.any_cons,zIQ I h r,zDg I hs t]
theorem zDx(I:Inv X pins σ H s){A:Around}{dx:D}{x:V}{ux:Value}(hx:IsD X.K H x dx)(rx:dB x ux)(hu:A.units+50<cLine):∀ {xs:List V} {ds:List D} {us:List Value},IsDs X.K H xs ds->dN xs us->(∀ d∈ds,dep d<=50)->∀ u∈us,SeqAt.EqAt A s u ux (zON X.K H dx u)
 | _,_,_,.nil,.nil,_=>fun u hu=>by cases hu
 | _,_,_,.cons h hs,.cons r t,f=>fun u hm=>by
  rcases Qc.mp hm with rfl | hm
  ·rw[zIQ I h r];exact zIh I 50 (f _ Qb) h hx A _ ux hu r rx
  ·exact zDx I hx rx hu hs t (fun d hd=>f d (Qd _ hd)) u hm
def zSu(K:PySem.W.Frag)(neg:Bool):R2:=fun x y H Q=>∃ d ds,IsD K H x d/\(IsD K H y (.lst ds)∨IsD K H y (.tup ds))/\depS ds<=50/\Q (.bl (if neg=true then !(ds.any fun e=>eqD e d) else ds.any fun e=>eqD e d)) H
theorem inA{X:Cx}(hu:X.A.units+64<cLine):OpR X (compareOp .In) (zSu X.K false):=by
 intro pins s σ H x y v u Q I rx ry h;obtain⟨d,ds,h1,h2,hn,q⟩:=h;have hd:∀ e∈ds,dep e<=50:=fun e he=>QE (wD he) hn
 rcases h2 with h2 | h2
 ·obtain⟨a,xs,rfl,hl,hs⟩:=h2.lstI
  cases ry;obtain⟨its,rv,p,hz⟩:=I.list hl;refine SeqAt.in_listAt (zON X.K H d) p.isList (fun y hy=>zDx I h1 rx (by show X.A.units+1+50<cLine;omega) hs rv hd y (by simpa using hy)) ?_
  exact⟨.bl _,H,I,by rw[List.any_toArray,zDg I hs rv];rfl,q⟩
 ·obtain⟨a,xs,rfl,hl,hs⟩:=h2.tupI
  cases ry;obtain⟨its,rv,p,hz⟩:=I.tuple hl;refine SeqAt.in_tupleAt (zON X.K H d) (show s.heap.IsTuple _ its.toArray from p) (fun y hy=>zDx I h1 rx (by show X.A.units+1+50<cLine;omega) hs rv hd y (by simpa using hy)) ?_
  exact⟨.bl _,H,I,by rw[List.any_toArray,zDg I hs rv];rfl,q⟩
theorem zSY{X:Cx}:OpK X (zSu X.K false) oIn:=⟨fun a b c z=>(by
  cases b<;>first | cases z | (simp only[oIn] at z;split at z<;>cases z)),fun Hi H x y a b d Q s r1 r2 z q=>by
  cases b<;>first | cases z | skip
  ·rename_i ds
   simp only[oIn] at z;split at z
   ·rename_i h;cases z;exact⟨a,ds,r1.mono s,.inr (r2.mono s),h,q _ Hi H (Ext.refl s) (.bl _)⟩
   ·cases z
  ·rename_i ds
   simp only[oIn] at z;split at z
   ·rename_i h;cases z;exact⟨a,ds,r1.mono s,.inl (r2.mono s),h,q _ Hi H (Ext.refl s) (.bl _)⟩
   ·cases z⟩
end
end L3
namespace L3
open PySem PySem.Spec PyProof.Rows L2
unseal PEd PEf PTd PWd PAd PSd fH
section
variable{X:Cx}{G:Gx}{a b e:Expr}{es:List Expr}{pos p:Pos}{f g:Ev}{fs gs:Fv}{t u:Tv}{x:Str}{id T:String}
def zBh(X:Cx)(r:List V->Hp->VK->Prop)(o:List D->Res D):Prop:=(∀ a c,o a≠.err c)/\∀(Hi H:Hp)(vs:List V)(ds:List D)(d:D)(Q:VK),Same Hi H->IsDs X.K Hi vs ds->o ds=.ok d->
 (∀ v Hi' H',Ext Hi H Hi' H'->IsD X.K Hi' v d->Q v H')->r vs H Q
theorem zPu{r:List V->Hp->VK->Prop}{o:List D->Res D}(k:zBh X r o):∀ σ H Q,tD X G (eB o fs) σ H Q->tCB r (tAs X G fs) σ H Q:=fun σ H Q q=>by
 obtain⟨ρ,Hi,R,ou⟩:=q;refine zJQ R ou fun vs ds Hi1 H1 e1 R1 r1 o1=>?_
 cases z:o ds with
 | no=>rw[z] at o1;exact o1.elim
 | err c=>exact absurd z (k.1 ds c)
 | ok d=>rw[z] at o1;exact k.2 Hi1 H1 vs ds d Q R1.s r1 z fun v Hi2 H2 e2 r2=>o1 Hi2 H2 e2 v r2
theorem aT{r:List V->Hp->VK->Prop}{o:List D->Res D}(hc:xN X (.builtin id) r)(k:zBh X r o)(hg:Gl X x)(hm:X.mg x=none)(hv:bootBuiltins x=some (.builtin id))(ha:PAd X G (e::es) fs)(hn:x ≠ "__name__" := by decide)(hdb:(x==("__debug__" : Str))=false:=by decide)
  (he:starEach (e::es) X.env=(false,eval e X.env)::starEach es X.env:=by rfl) (hpl:(backTo pos (starEach es X.env)).any (·.1)=false:=by rfl):PEd X G (.Call (.Name x p) (e::es) [] pos) (eB o fs):=
 PE.wk (zEs hc hg hm hv ha hn hdb he hpl) (zPu k)
theorem vI{r:List V->Hp->VK->Prop}{o:List D->Res D}(hc:xN X (.type T) r)(k:zBh X r o)(hg:Gl X x)(hm:X.mg x=none)(hv:bootBuiltins x=some (.type T))(ha:PAd X G (e::es) fs)(hn:x ≠ "__name__" := by decide)(hdb:(x==("__debug__" : Str))=false:=by decide)
  (he:starEach (e::es) X.env=(false,eval e X.env)::starEach es X.env:=by rfl) (hpl:(backTo pos (starEach es X.env)).any (·.1)=false:=by rfl):PEd X G (.Call (.Name x p) (e::es) [] pos) (eB o fs):=
 PE.wk (zCo hc hg hm hv ha hn hdb he hpl) (zPu k)
theorem IsDs.one{K:Fg_}{H:Hp}{vs:List V}{d:D}(h:IsDs K H vs [d]):∃ v,vs=[v]/\IsD K H v d:=by
 cases h with
 | cons h t=>cases t;exact⟨_,rfl,h⟩
theorem IsDs.two{K:Fg_}{H:Hp}{vs:List V}{d d':D}(h:IsDs K H vs [d,d']):∃ v w,vs=[v,w]/\IsD K H v d/\IsD K H w d':=by
 cases h with
 | cons h t=>obtain⟨w,rfl,hw⟩:=t.one;exact⟨_,w,rfl,h,hw⟩
theorem dS:zBh X (fun xs H Q=>∃ p ys,xs=[.ref p]/\(SqL X.K H p ys∨SqT X.K H p ys)/\Q (.int ys.length) H) mC:=⟨fun a c z=>(by
  unfold mC at z;split at z<;>cases z),fun Hi H vs ds d Q s r z q=>by
  unfold mC at z;split at z
  ·cases z
   obtain⟨v,rfl,h⟩:=r.one;obtain⟨a,xs,rfl,h1,h2⟩:=h.lstI;refine⟨a,xs,rfl,.inl (cE s h1),?_⟩
   rw[h2.length];exact q _ Hi H (Ext.refl s) (.int _)
  ·cases z
   obtain⟨v,rfl,h⟩:=r.one;obtain⟨a,xs,rfl,h1,h2⟩:=h.tupI;refine⟨a,xs,rfl,.inr (cC s h1),?_⟩
   rw[h2.length];exact q _ Hi H (Ext.refl s) (.int _)
  ·cases z⟩
theorem zGL:zBh X (fun xs H Q=>∃ i,xs=[.int i]/\Q (.int (if i<0 then -i else i)) H) zNh:=⟨fun a c z=>(by
  unfold zNh at z;split at z<;>cases z),fun Hi H vs ds d Q s r z q=>by
  unfold zNh at z;split at z
  ·cases z
   obtain⟨v,rfl,h⟩:=r.one;exact⟨_,by rw[h.intI],q _ Hi H (Ext.refl s) (.int _)⟩
  ·cases z⟩
theorem zLC:zBh X (fun xs H Q=>∃ i j,xs=[.int i,.int j]/\Q (.int (if j<i then j else i)) H) zOK:=⟨fun a c z=>(by
  unfold zOK at z;split at z<;>cases z),fun Hi H vs ds d Q s r z q=>by
  unfold zOK at z;split at z
  ·cases z
   obtain⟨v,w,rfl,h,h'⟩:=r.two;exact⟨_,_,by rw[h.intI,h'.intI],q _ Hi H (Ext.refl s) (.int _)⟩
  ·cases z⟩
theorem zHG:zBh X (fun xs H Q=>∃ p ys,xs=[.ref p]/\((SqL X.K H p ys/\∀ l,H l=none->Q (.ref l) (upd H l (.tup ys)))∨(SqT X.K H p ys/\Q (.ref p) H))) zKK:=⟨fun a c z=>(by
  unfold zKK at z;split at z<;>cases z),fun Hi H vs ds d Q s r z q=>by
  unfold zKK at z;split at z
  ·cases z
   obtain⟨v,rfl,h⟩:=r.one;obtain⟨a,xs,rfl,h1,h2⟩:=h.lstI;exact⟨a,xs,rfl,.inl ⟨cE s h1,fun l hl=>q _ _ _ (Ext.new s hl) (.tup (SqT.of aW) (h2.mono (cX (s.none hl) _)))⟩⟩
  ·cases z
   obtain⟨v,rfl,h⟩:=r.one;obtain⟨a,xs,rfl,h1,h2⟩:=h.tupI;exact⟨a,xs,rfl,.inr ⟨cC s h1,q _ Hi H (Ext.refl s) (.tup h1 h2)⟩⟩
  ·cases z⟩
theorem zMA(hg:Gl X "list")(hm:X.mg "list" = none)(hv:bootBuiltins "list" = some (.type "list"))(ha:PAd X G (e::es) fs)
  (he:starEach (e::es) X.env=(false,eval e X.env)::starEach es X.env:=by rfl) (hpl:(backTo pos (starEach es X.env)).any (·.1)=false:=by rfl):PEf X G (.Call (.Name "list" p) (e::es) [] pos) (zNQ fs):=
 PE.wk (zCo zCl hg hm hv ha (by decide) (by decide) he hpl) fun σ H Q q=>by
 obtain⟨ρ,Hi,R,ou⟩:=q;refine zJQ R ou fun vs ds Hi1 H1 e1 R1 r1 o1=>?_
 split at o1
 ·obtain⟨v,rfl,h⟩:=r1.one
  obtain⟨a,xs,rfl,h1,h2⟩:=h.lstI;exact⟨a,xs,rfl,.inl (cE R1.s h1),fun l hl=>o1 _ _ (Ext.newF R1.s hl) l ⟨e1.h.none hl,R1.s.none hl,xs,aW,h2⟩⟩
 ·obtain⟨v,rfl,h⟩:=r1.one
  obtain⟨a,xs,rfl,h1,h2⟩:=h.tupI;exact⟨a,xs,rfl,.inr (cC R1.s h1),fun l hl=>o1 _ _ (Ext.newF R1.s hl) l ⟨e1.h.none hl,R1.s.none hl,xs,aW,h2⟩⟩
 ·exact o1.elim
theorem zHU{K:Fg_}{H:Hp}{v:V}{d:D}(h:IsD K H v d):decide (v=.non)=isNon d:=by
 cases h<;>simp[isNon]
theorem zLJ{c:Expr}(ha:PEd X G a f)(hc:PE X c (tC .non))(hm:behindInMarks .Is c=false):PEd X G (.Compare a [.Is] [c] pos) (zRd f):=PE.wk (zJn zOT ha hc hm) fun σ H Q q=>by
 obtain⟨ρ,Hi,R,ou⟩:=q;refine zDU R ou fun v d Hi1 H1 e1 R1 r1 o1=>?_
 refine⟨rfl,?_⟩
 rw[zHU r1];exact o1.here R1.s _ (.bl _)
variable{lo hi:Option Expr}{l h:Ov}{p2:Pos}
def tOv(X:Cx)(G:Gx)(f:Ov):TO:=fun σ H Q=>∃ ρ Hi,mO X G Hi H σ ρ/\Out G Hi H (f ρ) fun o _ H'=>Q o H'
@[irreducible] def POd (X:Cx) (G:Gx) (e:Option Expr) (f:Ov):Prop:=PO X e (tOv X G f)
unseal POd
theorem PO.wk{X:Cx}{e:Option Expr}{t t':TO}(h:PO X e t)(w:∀ σ H Q,t' σ H Q->t σ H Q):PO X e t':=fun pins s σ H Q I q=>h pins s σ H Q I (w σ H Q q)
theorem rE:POd X G none oN:=PO.wk zMy fun σ H Q q=>by
 obtain⟨ρ,Hi,R,ou⟩:=q;exact ou.here R.s
theorem nU(he:PEd X G e f):POd X G (some e) (oS f):=PO.wk (zOd he) fun σ H Q q=>by
 obtain⟨ρ,Hi,R,ou⟩:=q;refine zDU R ou fun v d Hi1 H1 e1 R1 r1 o1=>?_
 cases d with
 | int i=>exact⟨i,r1.intI,o1.here R1.s⟩
 | _=>exact o1.elim
theorem zSy{f:Ov}{Hi H:Hp}{σ:St}{ρ:Rho}{β:Type}{k:Option Int->Res β}{k':β->Hp->Hp->Prop}{Q:Option Int->Hp->Prop}(R:mO X G Hi H σ ρ)(o:Out G Hi H ((f ρ).bind k) k')
  (w:∀ c Hi' H',Ext Hi H Hi' H'->mO X G Hi' H' σ ρ->Out G Hi' H' (k c) k'->Q c H'):tOv X G f σ H Q:=
 ⟨ρ,Hi,R,o.bind.imp fun d Hi' H' e q=>w d Hi' H' e (R.grow e) q⟩
theorem zJz(n d:Nat)(i:Option Int):cut n i d=HT.sIx n d i:=by
 cases i with
 | none=>rfl
 | some i=>
  simp only[cut,HT.sIx];split<;>split<;>omega
theorem IsDs.cut{K:Fg_}{H:Hp}{xs:List V}{ds:List D}(h:IsDs K H xs ds)(l r:Option Int):IsDs K H (zOM xs l r) (fV ds l r):=by
 unfold zOM fV;rw[zJz,zJz,h.length];exact(h.drop _).take _
theorem lB(he:PEd X G e f)(hl:POd X G lo l)(hu:POd X G hi h):PEf X G (.Subscript e (.Slice lo hi none p2) pos) (fSl f l h):=PE.wk (zKP zOu he hl hu) fun σ H Q q=>by
 obtain⟨ρ,Hi,R,ou⟩:=q;refine zDU R ou fun v d Hi1 H1 e1 R1 r1 o1=>?_
 refine zSy R1 o1 fun i Hi2 H2 e2 R2 o2=>?_
 refine zSy R2 o2 fun j Hi3 H3 e3 R3 o3=>?_
 cases d with
 | lst ds=>
  obtain⟨a,xs,rfl,h1,h2⟩:=r1.lstI;refine⟨a,xs,rfl,cE (e2.i.trans (e3.i.trans R3.s)) h1,fun p hp=>?_⟩
  exact o3 _ _ (Ext.newF R3.s hp) p ⟨(e1.h.trans (e2.h.trans e3.h)).none hp,R3.s.none hp,_,aW,(h2.cut i j).mono (e2.i.trans e3.i)⟩
 | _=>exact o3.elim
def zRr(K:PySem.W.Frag):R2:=fun x y H Q=>∃ l b xs zs,x=.ref l/\y=.ref b/\SqL K H l xs/\SqL K H b zs/\xs.length+zs.length<=sizeLine/\∀ p,H p=none->Q (.ref p) (upd H p (.lst (xs++zs)))
theorem zOI:OpR X (binaryOp .Add) (zRr X.K):=by
 intro pins s σ H x y v u Q I rx ry h;obtain⟨l,b,xs,zs,rfl,rfl,hl,hb,hz,q⟩:=h;cases rx;cases ry;obtain⟨its,r,p,_⟩:=I.list hl;obtain⟨its2,r2,p2,_⟩:=I.list hb;obtain⟨⟨cls,dd,data,sl⟩,ho,hc,n,hd⟩:=id p.isList;obtain⟨⟨cls2,dd2,data2,sl2⟩,ho2,hc2,n2,hd2⟩:=id p2.isList;simp only at hc hd hc2 hd2
 subst hc hd hc2 hd2;have hsz:its.toArray.size+its2.toArray.size<=sizeLine:=by rw[Ql,Ql,<-r.length,<-r2.length];exact hz
 have e:its.toArray++its2.toArray=(its++its2).toArray:=by simp
 refine concat_meets ⟨_,ho,rfl⟩ ⟨_,ho2,rfl⟩ noFill_list_add seq_list_add PySem.F.slot_list_add PySem.F.entry_list_add (PySem.F.args_list_add_2 _ _) (list_addW l b its.toArray its2.toArray n n2 dd dd2 sl sl2 hsz) ⟨ho,ho2,?_⟩
 rw[e];exact⟨.ref _,_,I.lnew (t':=s.toks) (r.append r2) (by rw[Qk];exact hz),rfl,q _ I.fresh⟩
theorem zJM(ha:PEd X G a f)(hb:PEd X G b g):PEf X G (.BinOp a .Add b pos) (zPa f g):=PE.wk (zIF zOI ha hb) fun σ H Q q=>by
 obtain⟨ρ,Hi,R,ou⟩:=q;refine zDU R ou fun v d Hi1 H1 e1 R1 r1 o1=>?_
 refine zDU R1 o1 fun w d' Hi2 H2 e2 R2 r2 o2=>?_
 cases d<;>first | exact o2.elim | skip
 cases d'<;>first | exact o2.elim | skip
 rename_i ds es
 obtain⟨a,xs,rfl,h1,h2⟩:=r1.lstI;obtain⟨b,ys,rfl,h3,h4⟩:=r2.lstI;have o2':Out G Hi2 H2 (if ds.length+es.length<=16777216 then Res.ok (ds++es) else .no) _:=o2;by_cases hz:ds.length+es.length<=16777216
 ·rw[if_pos hz] at o2'
  refine⟨a,b,xs,ys,rfl,rfl,cE (e2.i.trans e2.s) h1,cE e2.s h3,by rw[h2.length,h4.length];exact hz,fun p hp=>?_⟩
  exact o2' _ _ (Ext.newF e2.s hp) p ⟨(e1.h.trans e2.h).none hp,e2.s.none hp,_,aW,(h2.mono e2.i).append h4⟩
 ·rw[if_neg hz] at o2';exact o2'.elim
end
end L3
namespace L3
open PySem PySem.Spec PyProof.Rows L2
unseal PEd PEf PTd PWd PAd PSd fH POd
section
variable{X:Cx}{G:Gx}{a b e:Expr}{es:List Expr}{pos p:Pos}{f g:Ev}{fs gs:Fv}{t u:Tv}{x:Str}{st:Stmt}{rest:List Stmt}{sa sb:Sv}
theorem oJ{Hi H:Hp}{σ:St}{ρ:Rho}{E:Ends}{α:Type}{r:Res α}{k:α->Res Fl}(R:mO X G Hi H σ ρ)(h:Fin X G Hi E (r.bind k)){Q:α->Hp->Hp->Prop}
  (w:∀ a Hi' H',r=.ok a->Ext Hi H Hi' H'->Fin X G Hi' E (k a)->Q a Hi' H'):Out G Hi H r Q:=by
 cases r with
 | no=>exact h
 | err c=>exact fun Hi' H' e=>h Hi' H' (R.ext.trans e)
 | ok a=>exact fun Hi' H' e=>w a Hi' H' rfl e (Fin.mono (show Fin X G Hi E (k a) from h) e.i)
theorem bL:fH X G [] sNext:=PSs.wk zMP fun E σ H q=>by
 obtain⟨ρ,Hi,R,h⟩:=q;exact h σ Hi H (Same.refl _) R
theorem zPS{E:Ends}{Hi:Hp}{ρ:Rho}(h:Fin X G Hi E (bA sa sb ρ)):Fin X G Hi { E with nx:=tS X G sb E } (sa ρ):=by
 unfold bA at h
 cases z:sa ρ with
 | no=>rw[z] at h;exact h
 | err c=>rw[z] at h;exact h
 | ok fl=>
  rw[z] at h
  cases fl with
  | nx ρ'=>exact fun σ' Hi' H' s R'=>⟨ρ',Hi',R',Fin.mono (show Fin X G Hi E (sb ρ') from h) s⟩
  | brk ρ'=>exact h
  | ctn ρ'=>exact h
  | ret r=>cases r<;>exact h
theorem zQM{E:Ends}{σ:St}{H:Hp}(q:tS X G (bA sa sb) E σ H):tS X G sa { E with nx:=tS X G sb E } σ H:=by
 obtain⟨ρ,Hi,R,h⟩:=q;exact⟨ρ,Hi,R,zPS h⟩
theorem aF(h1:PSd X G st sa)(h2:fH X G rest sb):fH X G (st::rest) (bA sa sb):=PSs.wk (tZ h1 h2) fun _ _ _ q=>zQM q
theorem aK(h1:PSd X G st sa):fH X G [st] sa:=zDS h1
theorem mF(he:PEd X G e f)(hs:swapsWith e none pos.line X.env=pure false:=by rfl):PSd X G (.Expr e pos) (qP f):=PS.wk (yZ he hs) fun E σ H q=>by
 obtain⟨ρ,Hi,R,h⟩:=q;exact⟨ρ,Hi,R,oJ R h fun d Hi' H' _ e h' v r=>h' σ Hi' H' (Same.refl _) (R.grow e)⟩
theorem cO(he:PEd X G e f):PSd X G (.Return (some e) pos) (iJ f):=PS.wk (zEV he) fun E σ H q=>by
 obtain⟨ρ,Hi,R,h⟩:=q;obtain⟨Hf,s1,R1,fl⟩:=R.frz;refine⟨ρ.map Sl.frz,Hf,R1,oJ R1 (Fin.mono h s1) fun d Hi' H' _ e h' v r=>?_⟩
 exact h' v Hi' H' (R1.ext.trans e) r
theorem dY(he:PEf X G e fs):PSd X G (.Return (some e) pos) (iD fs):=PS.wk (zEV he) fun E σ H q=>by
 obtain⟨ρ,Hi,R,h⟩:=q;obtain⟨Hf,s1,R1,fl⟩:=R.frz;refine⟨ρ.map Sl.frz,Hf,R1,oJ R1 (Fin.mono h s1) fun ds Hi' H' _ e h' a n=>?_⟩
 obtain⟨n1,n2,xs,n3,n4⟩:=n;exact h' a Hi' H' (R1.ext.trans e) ⟨R1.ext.h.none n1,n2,xs,n3,n4⟩
theorem fW(i:Nat)(he:PE X e (zFb i)):PSd X G (.Return (some e) pos) (fG i):=PS.wk (zEV he) fun E σ H q=>by
 obtain⟨ρ,Hi,R,h⟩:=q;unfold fG at h
 cases z:ρ[i]? with
 | none=>rw[z] at h;exact h.elim
 | some s=>
  rw[z] at h
  cases s with
  | own ds=>
   obtain⟨a,xs,p,h1,h2,h3,h4⟩:=R.slot i _ z;exact⟨.ref a,p,h a Hi H R.ext ⟨h3,h2,xs,h1,h4⟩⟩
  | un=>exact h.elim
  | val d=>exact h.elim
  | exc c=>exact h.elim
  | tab T=>exact h.elim
theorem jU{c:Expr}{as bs:List Stmt}(hc:PTd X G c t)(ha:fH X G as sa)(hb:fH X G bs sb):PSd X G (.If c as bs pos) (sIf t sa sb):=PS.wk (zRO hc ha hb) fun E σ H q=>by
 obtain⟨ρ,Hi,R,h⟩:=q;refine⟨ρ,Hi,R,oJ R h fun c Hi' H' _ e h'=>?_⟩
 cases c with
 | true=>exact⟨ρ,Hi',R.grow e,h'⟩
 | false=>exact⟨ρ,Hi',R.grow e,h'⟩
theorem bD{i:Nat}{pos':Pos}(hN:X.N.Nodup)(hi:X.N[i]?=some x)(hx:Loc X.env.scope x)(he:PEd X G e f)(hs:swapsWith e (some (.Name x pos')) pos.line X.env=pure false:=by rfl)
  (hf:X.fn x=true∨X.env.scope.names.lookup x=some .local:=by first | exact .inl rfl | exact .inr rfl | assumption):PSd X G (.Assign [.Name x pos'] e pos) (cT i f):=PS.wk (zLB hN hi hx he hs hf) fun E σ H q=>by
 obtain⟨ρ,Hi,R,h⟩:=q;exact⟨ρ,Hi,R,oJ R h fun d Hi' H' _ e h' v r=>h' _ Hi' H' (Same.refl _) ((R.grow e).set r)⟩
theorem qE{i:Nat}{pos':Pos}(hN:X.N.Nodup)(hi:X.N[i]?=some x)(hx:Loc X.env.scope x)(he:PEf X G e fs)(hs:swapsWith e (some (.Name x pos')) pos.line X.env=pure false:=by rfl)
  (hf:X.fn x=true∨X.env.scope.names.lookup x=some .local:=by first | exact .inl rfl | exact .inr rfl | assumption):PSd X G (.Assign [.Name x pos'] e pos) (zCM i fs):=PS.wk (zLB hN hi hx he hs hf) fun E σ H q=>by
 obtain⟨ρ,Hi,R,h⟩:=q;refine⟨ρ,Hi,R,oJ R h fun ds Hi' H' _ e h' a n=>?_⟩
 obtain⟨n1,n2,xs,n3,n4⟩:=n;exact h' _ Hi' H' (Same.refl _) (R.setOwn e n1 n3 n2 n4)
theorem zAT{i:Nat}{o:Expr}{apos cpos:Pos}(ho:PE X o (zFb i))(he:PEd X G e f)
  (hbase:attributeBase o "append" X.env (eval o X.env)=eval o X.env:=by rfl)
  (hfew:((backTo cpos (starEach [e] X.env)).all (fun x=>!x.1) && (backToKw cpos (keywordEach [] X.env)).all (fun x=>x.1.isSome)
   && decide ([e].length+([]:List Keyword).length+(if ([]:List Keyword).isEmpty then 0 else 1)<30))=true:=by rfl)
  (hline:(apos.endLine==cpos.line)=true:=by rfl) (hs:starEach [e] X.env=(false,eval e X.env)::starEach [] X.env:=by rfl)
  (hsw:swapsWith (.Call (.Attribute o "append" apos) [e] [] cpos) none pos.line X.env=pure false:=by rfl):
  PSd X G (.Expr (.Call (.Attribute o "append" apos) [e] [] cpos) pos) (zGr i f):=
 PS.wk (yZ (zPk X1 PySem.F.slot_list_append PySem.F.type_list_append uK ho (lO he qR hs) hbase hfew hline hs) hsw) fun E σ H q=>by
 obtain⟨ρ,Hi,R,h⟩:=q;unfold zGr at h
 cases z:ρ[i]? with
 | none=>rw[z] at h;exact h.elim
 | some s=>
  rw[z] at h
  cases s with
  | own ds=>
   obtain⟨a,xs,p,h1,h2,h3,h4⟩:=R.slot i _ z;refine⟨.ref a,p,.inl ⟨rfl,xs,SqL.of h1⟩,?_⟩
   refine⟨ρ,Hi,R,oJ R h fun d Hi' H' _ e h' v r=>?_⟩
   have R':=R.grow e;obtain⟨g1,g2⟩:=e.out h1 h2;by_cases hz:ds.length<16777216
   ·rw[if_pos hz] at h'
    refine⟨a,xs,v,rfl,rfl,g1,by rw[h4.length];exact hz,?_⟩
    exact h' σ Hi' _ (Same.refl _) (R'.write z p ((h4.mono e.i).append (.cons r .nil)))
   ·rw[if_neg hz] at h';exact h'.elim
  | un=>exact h.elim
  | val d=>exact h.elim
  | exc c=>exact h.elim
  | tab T=>exact h.elim
theorem zRM{i:Nat}{o:Expr}{apos cpos:Pos}(ho:PE X o (zFb i))
  (hbase:attributeBase o "pop" X.env (eval o X.env)=eval o X.env:=by rfl) (hline:(apos.endLine==cpos.line)=true:=by rfl)
  (hsw:swapsWith (.Call (.Attribute o "pop" apos) [] [] cpos) none pos.line X.env=pure false:=by rfl):
  PSd X G (.Expr (.Call (.Attribute o "pop" apos) [] [] cpos) pos) (zPB i):=
 PS.wk (yZ (zPK X1 PySem.F.slot_list_pop PySem.F.type_list_pop zQu ho hbase hline) hsw) fun E σ H q=>by
 obtain⟨ρ,Hi,R,h⟩:=q;unfold zPB at h
 cases z:ρ[i]? with
 | none=>rw[z] at h;exact h.elim
 | some s=>
  rw[z] at h
  cases s with
  | own ds=>
   obtain⟨a,xs,p,h1,h2,h3,h4⟩:=R.slot i _ z;refine⟨.ref a,p,.inl ⟨rfl,xs,SqL.of h1⟩,?_⟩
   have h:Fin X G Hi E (if ds.length=0 then Res.no else Res.ok (Fl.nx (ρ.set i (.own ds.dropLast)))):=h;by_cases hz:ds.length=0
   ·rw[if_pos hz] at h;exact h.elim
   ·rw[if_neg hz] at h
    have hl:=h4.length;refine⟨a,xs,xs[xs.length-1]'(by omega),rfl,rfl,h1,Qp (by omega),?_⟩
    exact h σ Hi _ (Same.refl _) (R.write z p h4.dropLast)
  | un=>exact h.elim
  | val d=>exact h.elim
  | exc c=>exact h.elim
  | tab T=>exact h.elim
theorem zKV{i:Nat}{o:Expr}{apos cpos:Pos}(ho:PE X o (zFb i))(he:PEf X G e fs)
  (hbase:attributeBase o "extend" X.env (eval o X.env)=eval o X.env:=by rfl)
  (hfew:((backTo cpos (starEach [e] X.env)).all (fun x=>!x.1) && (backToKw cpos (keywordEach [] X.env)).all (fun x=>x.1.isSome)
   && decide ([e].length+([]:List Keyword).length+(if ([]:List Keyword).isEmpty then 0 else 1)<30))=true:=by rfl)
  (hline:(apos.endLine==cpos.line)=true:=by rfl) (hs:starEach [e] X.env=(false,eval e X.env)::starEach [] X.env:=by rfl)
  (hsw:swapsWith (.Call (.Attribute o "extend" apos) [e] [] cpos) none pos.line X.env=pure false:=by rfl):
  PSd X G (.Expr (.Call (.Attribute o "extend" apos) [e] [] cpos) pos) (zMs i fs):=
 PS.wk (yZ (zPk X1 PySem.F.slot_list_extend PySem.F.type_list_extend zGQ ho (lO he qR hs) hbase hfew hline hs) hsw) fun E σ H q=>by
 obtain⟨ρ,Hi,R,h⟩:=q;unfold zMs at h
 cases z:ρ[i]? with
 | none=>rw[z] at h;exact h.elim
 | some s=>
  rw[z] at h
  cases s with
  | own ds=>
   obtain⟨a,xs,p,h1,h2,h3,h4⟩:=R.slot i _ z;refine⟨.ref a,p,.inl ⟨rfl,xs,SqL.of h1⟩,?_⟩
   refine⟨ρ,Hi,R,oJ R h fun es Hi' H' _ e h' b n=>?_⟩
   obtain⟨n1,n2,ys,n3,n4⟩:=n;have R':=R.grow e;obtain⟨g1,g2⟩:=e.out h1 h2;by_cases hz:ds.length+es.length<=16777216
   ·rw[if_pos hz] at h'
    refine⟨a,b,xs,ys,rfl,rfl,g1,n3,by rw[h4.length,n4.length];exact hz,?_⟩
    exact h' σ Hi' _ (Same.refl _) (R'.write z p ((h4.mono e.i).append n4))
   ·rw[if_neg hz] at h';exact h'.elim
  | un=>exact h.elim
  | val d=>exact h.elim
  | exc c=>exact h.elim
  | tab T=>exact h.elim
theorem zQA{i:Nat}{o k:Expr}{fk:Ev}{tpos:Pos}(ho:PE X o (zFb i))(hk:PEd X G k fk)(he:PEd X G e f)(hs:swapsWithSole [.Subscript o k tpos] e pos.line X.env=pure false:=by rfl)(hw:swappedStores [.Subscript o k tpos] e X.env=pure none:=by rfl)
  (h1:(assignEach [.Subscript o k tpos] X.env).map (·.2)=[assign (.Subscript o k tpos) X.env]:=by rfl)
  (ha:∀ v,assign (.Subscript o k tpos) X.env v=(do
   let ov <-holding [v] (eval o X.env)
   let iv <-holding [v,ov] (eval k X.env)
   standAt tpos
   holding [v,ov,iv] (setItem ov iv v)
   release [v,ov,iv] []):=by intro _;rfl):PSd X G (.Assign [.Subscript o k tpos] e pos) (zOU i fk f):=
 PS.wk (zPA he (zPd ho hk zLi ha) hs hw h1) fun E σ H q=>by
 obtain⟨ρ,Hi,R,h⟩:=q;refine⟨ρ,Hi,R,oJ R h fun d Hi1 H1 _ e1 h1 v r=>?_⟩
 have R1:=R.grow e1
 cases z:ρ[i]? with
 | none=>rw[z] at h1;exact h1.elim
 | some s=>
  rw[z] at h1
  cases s with
  | own ds=>
   obtain⟨a,xs,p,g1,g2,g3,g4⟩:=R1.slot i _ z;refine⟨.ref a,p,?_⟩
   refine⟨ρ,Hi1,R1,oJ R1 h1 fun j Hi2 H2 _ e2 h2 w rw'=>?_⟩
   have R2:=R1.grow e2;obtain⟨k1,k2⟩:=e2.out g1 g2
   cases j with
   | int j=>
    have hl:=g4.length;have h2':Fin X G Hi2 E (if 0<=j/\j<ds.length then Res.ok (.nx (ρ.set i (.own (ds.set j.toNat d)))) else if -(ds.length:Int)<=j/\j<0 then .ok (.nx (ρ.set i (.own (ds.set (j+ds.length).toNat d)))) else .no):=h2;by_cases c1:0<=j/\j<ds.length
    ·rw[if_pos c1] at h2'
     refine⟨a,xs,j,j.toNat,rfl,rw'.intI,k1,by unfold ixN;rw[if_pos c1.1,if_pos (by omega)],?_⟩
     exact h2' σ Hi2 _ (Same.refl _) (R2.write z p ((g4.mono e2.i).set (r.mono e2.i) j.toNat))
    ·rw[if_neg c1] at h2'
     by_cases c2:-(ds.length:Int)<=j/\j<0
     ·rw[if_pos c2] at h2'
      refine⟨a,xs,j,(j+ds.length).toNat,rfl,rw'.intI,k1,by unfold ixN;rw[if_neg (by omega),if_pos (by omega),hl],?_⟩
      exact h2' σ Hi2 _ (Same.refl _) (R2.write z p ((g4.mono e2.i).set (r.mono e2.i) (j+ds.length).toNat))
     ·rw[if_neg c2] at h2';exact h2'.elim
   | _=>exact h2.elim
  | un=>exact h1.elim
  | val d=>exact h1.elim
  | exc c=>exact h1.elim
  | tab T=>exact h1.elim
theorem zGx{i:Nat}{op:Operator}{o:Op2}{r:Int->Int->Int}{pos':Pos}(hN:X.N.Nodup)(hi:X.N[i]?=some x)(hx:Loc X.env.scope x)(he:PEd X G e f)(ho:PIp X op (ipI r))(hr:∀ a b d,o a b=.ok d->∃ i j,a=.int i/\b=.int j/\d=.int (r i j))(hn:∀ a b c,o a b≠.err c)
  (hf:X.fn x=true∨X.env.scope.names.lookup x=some .local:=by first | exact .inl rfl | exact .inr rfl | assumption):PSd X G (.AugAssign (.Name x pos') op e pos) (zJU i o f):=PS.wk (zPP hN hi hx he ho hf) fun E σ H q=>by
 obtain⟨ρ,Hi,R,h⟩:=q;unfold zJU at h
 cases z:ρ[i]? with
 | none=>rw[z] at h;exact h.elim
 | some s=>
  rw[z] at h
  cases s with
  | val d=>
   obtain⟨v,p,rv⟩:=R.slot i _ z;refine⟨v,p,ρ,Hi,R,oJ R h fun d' Hi' H' _ e h' w rw'=>?_⟩
   cases q:o d d' with
   | no=>rw[q] at h';exact h'.elim
   | err c=>exact absurd q (hn _ _ _)
   | ok u=>
    rw[q] at h';obtain⟨i',j',rfl,rfl,rfl⟩:=hr _ _ _ q;exact⟨i',j',rv.intI,rw'.intI,h' _ Hi' H' (Same.refl _) ((R.grow e).set (.int _))⟩
  | un=>exact h.elim
  | own ds=>exact h.elim
  | exc c=>exact h.elim
  | tab T=>exact h.elim
theorem fH.frzAt(i:Nat){sts:List Stmt}(h:fH X G sts sa):fH X G sts (sFrzAt i sa):=PSs.wk h fun E σ H q=>by
 obtain⟨ρ,Hi,R,h⟩:=q;obtain⟨Hi',s,R'⟩:=R.frzAt (i:=i);exact⟨_,Hi',R',Fin.mono h s⟩
def tGv(X:Cx)(G:Gx)(g:Gv):TG:=fun v σ H Q=>∃ d ρ Hi,IsD X.K Hi v d/\mO X G Hi H σ ρ/\∃ ρ',g d ρ=.ok ρ'/\∀ σ' Hi' H',Same Hi Hi'->mO X G Hi' H' σ' ρ'->Q σ' H'
@[irreducible] def PGd (X:Cx) (G:Gx) (e:Expr) (g:Gv):Prop:=PG X e (tGv X G g)
unseal PGd
theorem dW{i:Nat}(hN:X.N.Nodup)(hi:X.N[i]?=some x)(hx:Loc X.env.scope x)(hf:X.fn x=true∨X.env.scope.names.lookup x=some .local:=by first | exact .inl rfl | exact .inr rfl | assumption):PGd X G (.Name x pos) (gName i):=
 fun pins s σ H v u Q I r q=>zDY hN hi hx hf pins s σ H v u Q I r (by
  obtain⟨d,ρ,Hi,rd,R,ρ',e,k⟩:=q;cases e
  exact k _ Hi H (Same.refl _) (R.set rd))
def zSV(X:Cx)(G:Gx)(g:List D->Rho->Res Rho):TGs:=fun vs σ H Q=>∃ ds ρ Hi,IsDs X.K Hi vs ds/\mO X G Hi H σ ρ/\∃ ρ',g ds ρ=.ok ρ'/\∀ σ' Hi' H',Same Hi Hi'->mO X G Hi' H' σ' ρ'->Q σ' H'
@[irreducible] def jP (X:Cx) (G:Gx) (es:List Expr) (g:List D->Rho->Res Rho):Prop:=PGs X es (zSV X G g)
unseal jP
theorem zHb:jP X G [] zGF:=fun pins s σ H vs us Q I r q=>zIc pins s σ H vs us Q I r (by
  obtain⟨ds,ρ,Hi,rd,R,ρ',e,k⟩:=q
  cases ds with
  | nil=>cases rd;cases e;exact⟨rfl,k _ Hi H (Same.refl _) R⟩
  | cons d ds=>cases e)
theorem rW{g:Gv}{r:List D->Rho->Res Rho}(h1:PGd X G e g)(h2:jP X G es r)(hs:(assignEach (e::es) X.env).map (·.2)=assign e X.env::(assignEach es X.env).map (·.2):=by rfl):jP X G (e::es) (mM g r):=
 fun pins s σ H vs us Q I rr q=>zAN h1 h2 hs pins s σ H vs us Q I rr (by
  obtain⟨ds,ρ,Hi,rd,R,ρ',e,k⟩:=q
  cases ds with
  | nil=>cases e
  | cons d ds=>
   cases rd with
   | cons rd rds=>
    refine⟨_,_,rfl,d,ρ,Hi,rd,R,?_⟩
    have e':(g d ρ).bind (fun ρ'=>r ds ρ')=.ok ρ':=e
    cases z:g d ρ with
    | no=>rw[z] at e';cases e'
    | err c=>rw[z] at e';cases e'
    | ok ρ1=>
     rw[z] at e'
     exact⟨ρ1,rfl,fun σ1 Hi1 H1 s1 R1=>⟨ds,ρ1,Hi1,rds.mono s1,R1,ρ',e',fun σ2 Hi2 H2 s2 R2=>k σ2 Hi2 H2 (s1.trans s2) R2⟩⟩)
theorem zNo{k:Nat}{r:List D->Rho->Res Rho}{n:Nat}(hc:X.calm=true)(h:jP X G es r)(hr:∀ ds ρ ρ',r ds ρ=.ok ρ'->ds.length=n)(hn:(assignEach es X.env).length=n:=by rfl)(hst:(assignEach es X.env).findIdx? (·.1)=none:=by rfl):PGd X G (.Tuple es k pos) (zGH r):=
 fun pins s σ H v u Q I rr q=>zLz hc h hn hst pins s σ H v u Q I rr (by
  obtain⟨d,ρ,Hi,rd,R,ρ',e,kk⟩:=q
  cases d with
  | tup ds=>
   obtain⟨a,xs,rfl,h1,h2⟩:=rd.tupI;exact⟨a,xs,rfl,cC R.s h1,by rw[h2.length];exact hr ds ρ ρ' e,ds,ρ,Hi,h2,R,ρ',e,kk⟩
  | _=>cases e)
def vG(K:PySem.W.Frag)(Hi:Hp)(J:It)(ds:List D):Prop:=∀(Hi1 H1:Hp),Same Hi Hi1->Same Hi1 H1->∀ i,
 (ds.length<=i->J.stop i H1)/\∀ d,ds[i]?=some d->J.go i H1/\∀ x H2,J.yld i H1 x H2->∃ Hi2,Ext Hi1 H1 Hi2 H2/\IsD K Hi2 x d
def tIv(X:Cx)(G:Gx)(f:Fv):TI:=fun σ H R=>∃ ρ Hi,mO X G Hi H σ ρ/\Out G Hi H (f ρ) fun ds Hi' H'=>∀ J,vG X.K Hi' J ds->R J H'
@[irreducible] def PId (X:Cx) (G:Gx) (tg e:Expr) (f:Fv):Prop:=PI X tg e (tIv X G f)
unseal PId
theorem PI.wk{tg:Expr}{t t':TI}(h:PI X tg e t)(w:∀ σ H Q,t' σ H Q->t σ H Q):PI X tg e t':=fun pins s σ H Q I q=>h pins s σ H Q I (w σ H Q q)
theorem zMm{g:Gv}{J:It}{ds:List D}{Hi1 H1:Hp}{σ:St}{ρ:Rho}{E:Ends}(hge:∀ d ρ c,g d ρ≠.err c)(R1:mO X G Hi1 H1 σ ρ)(h1:Fin X G Hi1 E (loop g sa ds ρ))(gv:vG X.K Hi1 J ds):zSr (fun _ _ R=>R J H1) (tGv X G g) (tS X G sa) E σ H1:=by
 refine⟨fun i m σ' H'=>m=ds.length-i/\∃ ρ' Hi',Same Hi1 Hi'/\mO X G Hi' H' σ' ρ'/\Fin X G Hi' E (loop g sa (ds.drop i) ρ'),⟨_,rfl,ρ,Hi1,Same.refl _,R1,h1⟩,?_⟩
 rintro i m σ' H' ⟨rfl,ρ',Hi',s',R',h'⟩
 obtain⟨w1,w2⟩:=gv Hi' H' s' R'.s i;by_cases hl:i<ds.length
 ·obtain⟨d,hd⟩:∃ d,ds[i]?=some d:=⟨_,Qp hl⟩
  obtain⟨go,yl⟩:=w2 d hd
  have e3:ds.drop i=d::ds.drop (i+1):=by
   rw[Qp hl] at hd;cases hd;exact X2 hl
  rw[e3] at h';refine .inr ⟨go,fun σ2 H2=>∃ ρ2 Hi2,Same Hi1 Hi2/\mO X G Hi2 H2 σ2 ρ2/\Fin X G Hi2 E (loop g sa (ds.drop (i+1)) ρ2),fun σ2 H2 z=>⟨ds.length-(i+1),by omega,rfl,z⟩,fun x H2 y=>?_⟩
  obtain⟨Hi2,e2,r2⟩:=yl x H2 y;have R2:=R'.grow e2
  have h2:Fin X G Hi2 E ((g d ρ').bind fun ρ1=>(sa ρ1).bind fun f=>match f with
   | .nx ρ2=>loop g sa (ds.drop (i+1)) ρ2
   | .ctn ρ2=>loop g sa (ds.drop (i+1)) ρ2
   | .brk ρ2=>.ok (.nx ρ2)
   | .ret r=>.ok (.ret r)):=Fin.mono h' e2.i
  cases z:g d ρ' with
  | no=>rw[z] at h2;exact h2.elim
  | err c=>exact absurd z (hge _ _ _)
  | ok ρ1=>
   rw[z] at h2;refine⟨d,ρ',Hi2,r2,R2,ρ1,z,fun σ3 Hi3 H3 s3 R3=>⟨ρ1,Hi3,R3,?_⟩⟩
   have h3:=Fin.mono h2 s3;have sm:Same Hi1 Hi3:=(s'.trans e2.i).trans s3;simp only[Res.bind] at h3
   cases zb:sa ρ1 with
   | no=>rw[zb] at h3;exact h3.elim
   | err c=>rw[zb] at h3;exact h3
   | ok fl=>
    rw[zb] at h3
    cases fl with
    | nx ρ2=>exact fun σ4 Hi4 H4 s4 R4=>⟨ρ2,Hi4,sm.trans s4,R4,Fin.mono (show Fin X G Hi3 E (loop g sa (ds.drop (i+1)) ρ2) from h3) s4⟩
    | ctn ρ2=>exact fun σ4 Hi4 H4 s4 R4=>⟨ρ2,Hi4,sm.trans s4,R4,Fin.mono (show Fin X G Hi3 E (loop g sa (ds.drop (i+1)) ρ2) from h3) s4⟩
    | brk ρ2=>exact h3
    | ret r=>cases r<;>exact h3
 ·rw[Xf (by omega)] at h'
  exact .inl ⟨w1 (by omega),h' σ' Hi' H' (Same.refl _) R'⟩
theorem mI{tg iter:Expr}{body:List Stmt}{it:Fv}{g:Gv}(hp:PassesOwn (model X.prog X.w) X.A X.env X.xe)(hc:X.calm=true)(hi:PId X G tg iter it)(hg:PGd X G tg g)(hge:∀ d ρ c,g d ρ≠.err c)(hb:fH X G body sa)
  (hs:∀ x,foldedSetIterable iter X.env x=pure x:=by intro _;rfl):PSd X G (.For tg iter body [] pos) (yE it g sa):=PS.wk (zMl hp hc hi hg hb hs) fun E σ H q=>by
 obtain⟨ρ,Hi,R,h⟩:=q;exact⟨ρ,Hi,R,oJ R h fun ds Hi1 H1 _ e1 h1 J gv=>zMm hge (R.grow e1) h1 gv⟩
theorem zAw{c:Expr}{body:List Stmt}(hp:PassesOwn (model X.prog X.w) X.A X.env X.xe)(hc:PTd X G c t)(hb:fH X G body sa):PSd X G (.While c body [] pos) (eU t sa):=PS.wk (zKb hp hc hb) fun E σ H q=>by
 obtain⟨ρ,Hi,R,h⟩:=q;have hn:eU t sa ρ≠.no:=fun z=>by rw[z] at h;exact h
 obtain⟨n,en⟩:=oZ hn;rw[en] at h;refine⟨fun m σ' H'=>∃ ρ' Hi',Same Hi Hi'/\mO X G Hi' H' σ' ρ'/\Fin X G Hi' E (wh t sa m ρ'),⟨n,ρ,Hi,Same.refl _,R,h⟩,?_⟩
 rintro m σ' H' ⟨ρ',Hi',s',R',h'⟩
 cases m with
 | zero=>exact h'.elim
 | succ m=>
  rw[wh] at h';refine⟨ρ',Hi',R',oJ R' h' fun c Hi1 H1 _ e1 h1=>?_⟩
  have R1:=R'.grow e1
  cases c with
  | false=>exact h1 σ' Hi1 H1 (Same.refl _) R1
  | true=>
   refine⟨fun σ2 H2=>∃ ρ2 Hi2,Same Hi Hi2/\mO X G Hi2 H2 σ2 ρ2/\Fin X G Hi2 E (wh t sa m ρ2),fun σ2 H2 z=>⟨m,by omega,z⟩,ρ',Hi1,R1,?_⟩
   have sm:Same Hi Hi1:=s'.trans e1.i;simp only[if_true] at h1
   cases zb:sa ρ' with
   | no=>rw[zb] at h1;exact h1.elim
   | err c=>rw[zb] at h1;exact h1
   | ok fl=>
    rw[zb] at h1
    cases fl with
    | nx ρ2=>exact fun σ4 Hi4 H4 s4 R4=>⟨ρ2,Hi4,sm.trans s4,R4,Fin.mono (show Fin X G Hi1 E (wh t sa m ρ2) from h1) s4⟩
    | ctn ρ2=>exact fun σ4 Hi4 H4 s4 R4=>⟨ρ2,Hi4,sm.trans s4,R4,Fin.mono (show Fin X G Hi1 E (wh t sa m ρ2) from h1) s4⟩
    | brk ρ2=>exact h1
    | ret r=>cases r<;>exact h1
theorem zIY{K:Fg_}{Hi:Hp}{a:Addr}{xs:List V}{ds:List D}(h:SqT K Hi a xs)(hs:IsDs K Hi xs ds):vG K Hi (Itt K a) ds:=fun Hi1 H1 s1 s2 i=>by
 have h1:=cC (s1.trans s2) h;refine⟨fun hl=>⟨xs,h1,by rw[hs.length];exact hl⟩,fun d hd=>?_⟩
 obtain⟨v,hv,r⟩:=hs.at hd;refine⟨⟨xs,v,h1,hv⟩,fun x H2 y=>?_⟩
 obtain⟨e,y⟩:=y;subst e;have:=y xs h1
 rw[hv] at this;cases this;exact⟨Hi1,Ext.refl s2,r.mono s1⟩
theorem zOH{lo c:Int}{n i:Nat}{d:D}(h:(rng lo n c)[i]?=some d):i<n/\d=.int (lo+(i:Int)*c):=by
 unfold rng at h;rw[Qu] at h;by_cases hl:i<n
 ·rw[Vf hl] at h;cases h;exact⟨hl,rfl⟩
 ·rw[QC (by rw[QA];omega)] at h;cases h
theorem zOw(lo c:Int)(n:Nat):(rng lo n c).length=n:=by unfold rng;rw[Qe,QA]
theorem zBM{K:Fg_}{Hi:Hp}(lo:Int)(n:Nat):vG K Hi (Itr lo n) (rng lo n 1):=fun Hi1 H1 s1 s2 i=>by
 refine⟨fun hl=>by rw[zOw] at hl;exact hl,fun d hd=>?_⟩
 obtain⟨h1,rfl⟩:=zOH hd;refine⟨h1,fun x H2 y=>?_⟩
 obtain⟨e,y⟩:=y;subst e y;rw[QV];exact⟨Hi1,Ext.refl s2,.int _⟩
theorem zEm{tg:Expr}(hg:Gl X "range")(hm:X.mg "range" = none)(ha:PAd X G [a] fs)(hs:starEach [a] X.env=[(false,eval a X.env)]:=by rfl):PId X G tg (.Call (.Name "range" p) [a] [] pos) (xE fs):=PI.wk (zGU hg hm ha hs) fun σ H Q q=>by
 obtain⟨ρ,Hi,R,ou⟩:=q;refine zJQ R ou fun vs ds Hi1 H1 e1 R1 r1 o1=>?_
 split at o1
 ·rename_i j
  obtain⟨v,rfl,h⟩:=r1.one;by_cases hz:-(2^62)<=j/\j<2^62
  ·rw[if_pos hz] at o1
   exact⟨j,by rw[h.intI],hz.1,hz.2,o1.here R1.s _ (zBM 0 j.toNat)⟩
  ·rw[if_neg hz] at o1;exact o1.elim
 ·exact o1.elim
theorem zMa{tg:Expr}(hg:Gl X "range")(hm:X.mg "range" = none)(ha:PAd X G [a,b] fs)(hs:starEach [a,b] X.env=[(false,eval a X.env),(false,eval b X.env)]:=by rfl)(hs2:starEach [b] X.env=[(false,eval b X.env)]:=by rfl):PId X G tg (.Call (.Name "range" p) [a,b] [] pos) (zFZ fs):=PI.wk (zJr hg hm ha hs hs2) fun σ H Q q=>by
 obtain⟨ρ,Hi,R,ou⟩:=q;refine zJQ R ou fun vs ds Hi1 H1 e1 R1 r1 o1=>?_
 split at o1
 ·rename_i i j
  obtain⟨v,w,rfl,h,h'⟩:=r1.two;by_cases hz:-(2^62)<=i/\i<2^62/\-(2^62)<=j/\j<2^62
  ·rw[if_pos hz] at o1
   exact⟨i,j,by rw[h.intI,h'.intI],hz,o1.here R1.s _ (zBM i (j-i).toNat)⟩
  ·rw[if_neg hz] at o1;exact o1.elim
 ·exact o1.elim
end
end L3
namespace L3
open PySem PySem.Spec PyProof.Rows L2
unseal PEd PEf PTd PWd PAd PSd fH POd PGd jP PId
structure Fn (K:PySem.W.Frag) (mg:Str->Option Value) (x:Str) (st:Stmt) (ps:List Str) (f:Addr) (fd:FuncData):Prop where
 fn:Fun K x x st f fd
 bd:zCc K fd ps []
 kp:PySem.W.keepIn K (.ref f)=true
 mg:mg x=some (.ref f)
def XE(X:Cx)(G:Gx):XK:=fun cls _ H=>∃ c,X.mg c=some cls/\G.E c H
def pN(K:PySem.W.Frag)(mg:Str->Option Value)(P:Addr):Prop:=∃ f oc od fd osl c,mg "ranked" = some (.ref f)/\K.lookup f=some ⟨oc,od,.func fd,osl⟩/\fd.code=.ref c/\∀ h,K.In h->PySem.W.CodeHd h c P
def TB(K:PySem.W.Frag)(mg:Str->Option Value)(Hi H:Hp):Prop:=∀ P,pN K mg P->zBL P H/\Hi P=none
theorem TB.ext{K:Fg_}{mg:Str->Option Value}{Hi H Hi' H':Hp}(t:TB K mg Hi H)(e:Ext Hi H Hi' H'):TB K mg Hi' H':=fun P h=>⟨e.h.t P (t P h).1,by
 cases z:Hi' P with
 | none=>rfl
 | some o=>
  obtain⟨⟨ps,q,_⟩,n⟩:=t P h;have:=e.n P n (by rw[z];exact fun w=>by cases w)
  rw[q] at this;cases this⟩
structure Good (X:Cx) (G:Gx) (k:Nat):Prop where
 calm:X.calm=true
 room:Room k X.A
 pass:zEE (CX1 X.prog X.w) X (XE X G)
 own:PassesOwn (model X.prog X.w) X.A X.env X.xe
 tb:TB X.K X.mg G.Bi G.B
def zGN(X:Cx)(G:Gx):Prop:=∀(pins:List (Addr×Obj))(σ:St)(H:Hp)(s s':Shared)(ea:Addr)(cls:Value)(vs:List Value),Inv X pins σ H s->Heap.MadeExcOf s.heap s'.heap ea cls vs->s'.os=s.os->AllBare s'.gens->XE X G cls none H->X.xe (.ref ea) s'
def spM(K:PySem.W.Frag)(mg:Str->Option Value)(p:Nat)(m:Mir):Sp:=fun vs H Q E=>vs.length=p/\∃ Bi ds,TB K mg Bi H/\Same Bi H/\IsDs K Bi vs ds/\match m ds with
 | .ok (.v d)=>∀ v Hi' H',Ext Bi H Hi' H'->IsD K Hi' v d->Q v H'
 | .ok (.f es)=>∀ a Hi' H',Ext Bi H Hi' H'->zKo K H Hi' H' a es->Q (.ref a) H'
 | .err c=>∀ C,mg c=some C->∀ Hi' H',Ext Bi H Hi' H'->E C none H'
 | .no=>False
structure CanM (P:Program) (w:World) (K:PySem.W.Frag) (mg:Str->Option Value) (base:Heap) (k:Nat) (x:Str) (ps:List Str) (m:Mir):Prop where
 ex:∃ f fd,FnOk P w K mg base (CX1 P w) k f fd ps (spM K mg ps.length m)/\zCc K fd ps []/\PySem.W.keepIn K (.ref f)=true/\mg x=some (.ref f)
 ln:∀ ds,m ds≠.no->ds.length=ps.length
theorem Good.u{X:Cx}{G:Gx}{k:Nat}(W:Good X G k):X.A.units+64<cLine:=W.room.units
theorem CanM.mono{P:Program}{w:World}{K:Fg_}{mg:Str->Option Value}{base:Heap}{j k:Nat}{x:Str}{ps:List Str}{m:Mir}(c:CanM P w K mg base j x ps m)(h:j<=k):CanM P w K mg base k x ps m:=by
 obtain⟨⟨f,fd,F,r⟩,l⟩:=c;exact⟨⟨f,fd,F.mono h,r⟩,l⟩
section
variable{X:Cx}{G:Gx}{a b e:Expr}{es:List Expr}{pos p:Pos}{f g:Ev}{fs gs:Fv}{t u:Tv}{x:Str}{st:Stmt}{rest:List Stmt}{sa sb:Sv}{k:Nat}{ps:List Str}{m:Mir}
theorem zPZ{ps:List Str}(tb:TB X.K X.mg G.Bi G.B)(ln:∀ ds,m ds≠.no->ds.length=ps.length):∀ σ H Q,tD X G (aO m fs) σ H Q->zNi (spM X.K X.mg ps.length m) [] (XE X G) (tAs X G fs) σ H Q:=fun σ H Q q=>by
 obtain⟨ρ,Hi,R,ou⟩:=q;refine zJQ R ou fun vs ds Hi1 H1 e1 R1 r1 o1=>?_
 rw[QW];have hm:m ds≠.no:=fun z=>by rw[z] at o1;exact o1
 refine⟨by rw[r1.length];exact ln ds hm,Hi1,ds,tb.ext R1.ext,R1.s,r1,?_⟩
 cases z:m ds with
 | no=>exact absurd z hm
 | err c=>rw[z] at o1;exact fun C hC Hi2 H2 e2=>⟨c,hC,o1 Hi2 H2 e2⟩
 | ok r=>
  rw[z] at o1
  cases r with
  | v d=>exact fun v Hi2 H2 e2 r2=>o1 Hi2 H2 e2 v r2
  | f ds=>
   intro a Hi2 H2 e2 n;obtain⟨n1,n2,xs,n3,n4⟩:=n;exact o1 _ _ (e2.hold n1 n3 n2) (.ref a) (.lst (SqL.of aW) (n4.mono (cX n2 _)))
theorem aI(W:Good X G k)(c:CanM X.prog X.w X.K X.mg X.base k x ps m)(hg:Gl X x)(ha:PAd X G (e::es) fs)
  (hdb:(x==("__debug__" : Str))=false:=by decide) (he:starEach (e::es) X.env=(false,eval e X.env)::starEach es X.env:=by rfl) (hpl:(backTo pos (starEach es X.env)).any (·.1)=false:=by rfl):
  PEd X G (.Call (.Name x p) (e::es) [] pos) (aO m fs):=by
 obtain⟨⟨f,fd,F,b,kp,hm⟩,ln⟩:=c;exact PE.wk (zDp F W.room hg hm kp b .nil W.pass ha hdb he hpl) (zPZ W.tb ln)
theorem zMS{ps:List Str}(tb:TB X.K X.mg G.Bi G.B)(ln:∀ ds,m ds≠.no->ds.length=ps.length):∀ σ H Q,tF X G (cD m fs) σ H Q->zNi (spM X.K X.mg ps.length m) [] (XE X G) (tAs X G fs) σ H Q:=fun σ H Q q=>by
 obtain⟨ρ,Hi,R,ou⟩:=q;refine zJQ R ou fun vs ds Hi1 H1 e1 R1 r1 o1=>?_
 rw[QW];have hm:m ds≠.no:=fun z=>by rw[z] at o1;exact o1
 refine⟨by rw[r1.length];exact ln ds hm,Hi1,ds,tb.ext R1.ext,R1.s,r1,?_⟩
 cases z:m ds with
 | no=>exact absurd z hm
 | err c=>rw[z] at o1;exact fun C hC Hi2 H2 e2=>⟨c,hC,o1 Hi2 H2 e2⟩
 | ok r=>
  rw[z] at o1
  cases r with
  | v d=>exact o1.elim
  | f ds=>exact fun a Hi2 H2 e2 n=>o1 Hi2 H2 e2 a ⟨e1.h.none n.1,n.2⟩
theorem aY(W:Good X G k)(c:CanM X.prog X.w X.K X.mg X.base k x ps m)(hg:Gl X x)(ha:PAd X G (e::es) fs)
  (hdb:(x==("__debug__" : Str))=false:=by decide) (he:starEach (e::es) X.env=(false,eval e X.env)::starEach es X.env:=by rfl) (hpl:(backTo pos (starEach es X.env)).any (·.1)=false:=by rfl):
  PEf X G (.Call (.Name x p) (e::es) [] pos) (cD m fs):=by
 obtain⟨⟨f,fd,F,b,kp,hm⟩,ln⟩:=c;exact PE.wk (zDp F W.room hg hm kp b .nil W.pass ha hdb he hpl) (zMS W.tb ln)
theorem bI{d:D}(hg:Gl X x)(h:∃ v u',X.mg x=some u'/\dB v u'/\IsD X.K (fun _=>none) v d)(hdb:(x==("__debug__" : Str))=false:=by decide):PEd X G (.Name x pos) (eC d):=by
 obtain⟨v,u',hm,r,hd⟩:=h;exact mH (zHc hg hm r hdb) fun H=>hd.mono fun b o z=>by cases z
end
abbrev BX(P:Program)(w:World)(K:PySem.W.Frag)(mg:Str->Option Value)(base:Heap)(N:List Str)(x:Str)(st:Stmt)(f:Addr)(cdv:Value)(A:Around)(outer:List Env)(s:Shared)(H:Hp)(E:XK):Cx:=
 zGd (CX1 P w) P w K mg base N x (aG st) f cdv A outer s H E
theorem zBH{K:Fg_}{mg:Str->Option Value}{Bi H:Hp}{N:List Str}{vs:List V}{ds:List D}(s:Same Bi H)(h:IsDs K Bi vs ds):Rel K mg H Bi Bi H (L2.start N vs) (L3.start N.length ds) where
 len:=by
  unfold L2.start L3.start;rw[Qk,Qk,Qe,Qe,VM,VM,h.length]
 ext:=Ext.refl s
 slot:=fun i sl e=>by
  unfold L3.start at e;by_cases hi:i<ds.length
  ·rw[QN (by rw[Qe];exact hi),Qu] at e
   obtain⟨d,hd⟩:∃ d,ds[i]?=some d:=⟨_,Qp hi⟩;rw[hd] at e;cases e
   obtain⟨v,hv,r⟩:=h.at hd;refine⟨v,?_,r⟩
   unfold L2.start;rw[QN (by rw[Qe,h.length];exact hi),Qu,hv];rfl
  ·rw[QX (by rw[Qe];omega),Xl] at e
   split at e
   ·cases e;trivial
   ·cases e
 dist:=fun i j a es fs e _ _ _=>by
  exfalso
  unfold L3.start at e;by_cases hi:i<ds.length
  ·rw[QN (by rw[Qe];exact hi),Qu] at e
   cases z:ds[i]? with
   | none=>rw[z] at e;cases e
   | some d=>rw[z] at e;cases e
  ·rw[QX (by rw[Qe];omega),Xl] at e
   split at e<;>cases e
section
variable{P:Program}{w:World}{K:Fg_}{mg:Str->Option Value}{base:Heap}{N ps:List Str}{x:Str}{st:Stmt}{f:Addr}{fd:FuncData}{k:Nat}{b:Sv}
theorem zHk{cdv:Value}{A:Around}{outer:List Env}{s:Shared}{H Bi:Hp}{E:XK}(hr:Room k (A.deeper (envOfC x (aG st) s.heap.objs.size f cdv)))(tb:TB K mg Bi H):
  Good (BX P w K mg base N x st f cdv A outer s H E) ⟨H,Bi,fun c H'=>∀ C,mg c=some C->E C none H'⟩ k where
 calm:=rfl
 room:=hr
 pass:=zRU fun c H' q=>by
  obtain⟨c',h1,h2⟩:=q;exact h2 c h1
 own:=PassesOwn.leaving
 tb:=tb
theorem zFo{cdv:Value}{A:Around}{outer:List Env}{s:Shared}{H Bi:Hp}{E:XK}:
  zGN (BX P w K mg base N x st f cdv A outer s H E) ⟨H,Bi,fun c H'=>∀ C,mg c=some C->E C none H'⟩:=fun pins σ H1 s1 s' ea cls vs I hx hos hg q=>by
 obtain⟨c',h1,h2⟩:=q;exact zDt I hx hos hg (h2 cls h1)
theorem zPw(F:Fn K mg x st ps f fd)(S:FnScope N ps (aG st))
  (h:∀(cdv:Value)(A:Around)(outer:List Env)(s:Shared)(H:Hp)(E:XK)(G:Gx),Good (BX P w K mg base N x st f cdv A outer s H E) G k->zGN (BX P w K mg base N x st f cdv A outer s H E) G->fH (BX P w K mg base N x st f cdv A outer s H E) G (fR st) b):
  FnOk P w K mg base (CX1 P w) (k+1) f fd ps (spM K mg ps.length (fn ps.length N.length b)):=by
 obtain⟨oc,od,kV,doc,pm,an,cdv,ct,osl,rfl,lk,hcd⟩:=F.fn.ex;refine zPT lk hcd S (fun vs H Q E h=>h.1) fun A outer s H vs Q E hr hsp=>?_
 obtain⟨hl,Bi,ds,tb,sm,hd,hq⟩:=hsp;have hg:=zHk (P:=P) (w:=w) (K:=K) (mg:=mg) (base:=base) (N:=N) (outer:=outer) (H:=H) (Bi:=Bi) (E:=E) hr tb;refine⟨_,h cdv A outer s H E _ hg zFo,L3.start N.length ds,Bi,zBH sm hd,?_⟩
 have hlen:ds.length=ps.length:=by rw[<-hd.length];exact hl
 unfold fn at hq;rw[if_pos hlen] at hq
 cases z:b (L3.start N.length ds) with
 | no=>rw[z] at hq;exact hq
 | err c=>rw[z] at hq;exact fun Hi' H' e C hC=>hq C hC Hi' H' e
 | ok fl=>
  rw[z] at hq
  cases fl with
  | nx ρ'=>exact fun σ' Hi' H' s R=>hq .non Hi' H' R.ext .non
  | brk ρ'=>exact hq.elim
  | ctn ρ'=>exact hq.elim
  | ret r=>
   cases r with
   | v d=>exact hq
   | f es=>exact hq
theorem aM(F:Fn K mg x st ps f fd)(S:FnScope N ps (aG st))
  (h:∀(cdv:Value)(A:Around)(outer:List Env)(s:Shared)(H:Hp)(E:XK)(G:Gx),Good (BX P w K mg base N x st f cdv A outer s H E) G k->zGN (BX P w K mg base N x st f cdv A outer s H E) G->fH (BX P w K mg base N x st f cdv A outer s H E) G (fR st) b):
  CanM P w K mg base (k+1) x ps (fn ps.length N.length b):=by
 refine⟨⟨f,fd,zPw F S h,F.bd,F.kp,F.mg⟩,fun ds hm=>?_⟩
 unfold fn at hm;split at hm
 ·assumption
 ·exact absurd rfl hm
end
section
variable{X:Cx}{G:Gx}{a b e:Expr}{es:List Expr}{pos p:Pos}{f g:Ev}{fs gs:Fv}{t u:Tv}{x:Str}{st:Stmt}{rest:List Stmt}{sa sb:Sv}{k:Nat}
theorem zKu{c:Expr}(ha:PEd X G a f)(hc:PE X c (tC .non))(hm:behindInMarks .IsNot c=false):PTd X G (.Compare a [.IsNot] [c] pos) (dX (zKs f)):=PT.wk (zEc zME ha hc hm) fun σ H Q q=>by
 obtain⟨ρ,Hi,R,ou⟩:=q;unfold dX zKs at ou
 cases z:f ρ with
 | no=>rw[z] at ou;exact ou.elim
 | err c=>rw[z] at ou;exact⟨ρ,Hi,R,by rw[z];exact ou⟩
 | ok d=>
  rw[z] at ou;refine⟨ρ,Hi,R,?_⟩
  rw[z];intro Hi1 H1 e1 v r;exact⟨rfl,_,rfl,by rw[zHU r];exact ou Hi1 H1 e1⟩
theorem PTd.frz(h:PTd X G e t):PTd X G e (tFrzB t):=PT.wk h fun σ H Q q=>by
 obtain⟨ρ,Hi,R,ou⟩:=q;obtain⟨Hf,s1,R1,fl⟩:=R.frz;refine⟨ρ.map Sl.frz,Hf,R1,?_⟩
 unfold tFrzB at ou
 cases z:t (ρ.map Sl.frz) with
 | no=>rw[z] at ou;exact ou
 | err c=>
  rw[z] at ou;intro Hi1 H1 e1;obtain⟨Ht,e2,k,s2,n⟩:=Ext.thaw s1 fl R1.s e1;exact ou Ht H1 e2
 | ok c=>
  rw[z] at ou;intro Hi1 H1 e1;obtain⟨Ht,e2,k,s2,n⟩:=Ext.thaw s1 fl R1.s e1;exact ou Ht H1 e2
def iSq(K:PySem.W.Frag)(tl:TE):TI:=fun σ H R=>tl σ H fun x H1=>∃ a,x=.ref a/\(((∃ xs,SqL K H1 a xs)/\R (Itl K a) H1)∨((∃ xs,SqT K H1 a xs)/\R (Itt K a) H1))
theorem zQs{tg l:Expr}{tl:TE}(hl:PE X l tl):PI X tg l (iSq X.K tl):=by
 intro pins s σ H R I h;refine thn (hl pins s σ H _ I h) fun v s1 ⟨x,H1,I1,r1,q1⟩=>?_
 obtain⟨a,e,q1⟩:=q1;subst e;cases r1;rcases q1 with⟨⟨xs,hq⟩,q⟩ | ⟨⟨xs,hq⟩,q⟩
 ·obtain⟨its,rv,p,hz⟩:=I1.list hq
  refine wpAny_pyIter_list p.isList ?_
  refine⟨s1.heap.objs.size,[s1.heap.objs.size],_,_,H1,rfl,I1.kept (t':=s1.toks) fun b o e=>Heap.get?_push_of_some _ e,zBN a _,⟨_,Heap.get?_push_size _ rfl,rfl,rfl⟩,fun b hb=>?_,q⟩
  have e:b=s1.heap.objs.size:=by simpa using hb
  subst e;exact I1.fpOk (Qh _) (I1.hok.fresh (Qh _))
 ·obtain⟨its,rv,p,hz⟩:=I1.tuple hq
  refine wpAny_pyIter_tuple (show s1.heap.IsTuple a its.toArray from p) ?_
  refine⟨s1.heap.objs.size,[s1.heap.objs.size],_,_,H1,rfl,I1.kept (t':=s1.toks) fun b o e=>Heap.get?_push_of_some _ e,zFI a _,⟨_,Heap.get?_push_size _ rfl,rfl,rfl⟩,fun b hb=>?_,q⟩
  have e:b=s1.heap.objs.size:=by simpa using hb
  subst e;exact I1.fpOk (Qh _) (I1.hok.fresh (Qh _))
theorem zBt{K:Fg_}{Hi:Hp}{a:Addr}{xs:List V}{ds:List D}(h1:SqL K Hi a xs)(h2:IsDs K Hi xs ds):vG K Hi (Itl K a) ds:=fun Hi1 H1 s1 s2 i=>by
 have h3:=cE (s1.trans s2) h1;refine⟨fun hl=>⟨xs,h3,by rw[h2.length];exact hl⟩,fun d hd=>?_⟩
 obtain⟨v,hv,r⟩:=h2.at hd;refine⟨⟨xs,v,h3,hv⟩,fun x H2 y=>?_⟩
 obtain⟨e,y⟩:=y;subst e;have:=y xs h3
 rw[hv] at this;cases this;exact⟨Hi1,Ext.refl s2,r.mono s1⟩
theorem jO{tg:Expr}(h:PEd X G e f):PId X G tg e (sZ f):=PI.wk (zQs h) fun σ H Q q=>by
 obtain⟨ρ,Hi,R,ou⟩:=q;refine zDU R ou fun v d Hi1 H1 e1 R1 r1 o1=>?_
 cases d with
 | lst ds=>
  obtain⟨a,xs,rfl,h1,h2⟩:=r1.lstI;exact⟨a,rfl,.inl ⟨⟨xs,cE R1.s h1⟩,o1.here R1.s _ (zBt h1 h2)⟩⟩
 | tup ds=>
  obtain⟨a,xs,rfl,h1,h2⟩:=r1.tupI;exact⟨a,rfl,.inr ⟨⟨xs,cC R1.s h1⟩,o1.here R1.s _ (zIY h1 h2)⟩⟩
 | _=>exact o1.elim
theorem bO{i:Nat}:∀ d ρ c,gName i d ρ≠.err c:=fun d ρ c z=>by cases z
theorem zDK:∀ d ρ c,zGF d ρ≠.err c:=fun d ρ c z=>by cases d<;>cases z
theorem oC{g:Gv}{r:List D->Rho->Res Rho}(h1:∀ d ρ c,g d ρ≠.err c)(h2:∀ d ρ c,r d ρ≠.err c):∀ d ρ c,mM g r d ρ≠.err c:=fun d ρ c z=>by
 cases d with
 | nil=>cases z
 | cons d ds=>
  have z':(g d ρ).bind (fun ρ'=>r ds ρ')=.err c:=z
  cases q:g d ρ with
  | no=>rw[q] at z';cases z'
  | err c'=>exact h1 _ _ _ q
  | ok ρ'=>rw[q] at z';exact h2 _ _ _ z'
theorem zDc{r:List D->Rho->Res Rho}(h:∀ d ρ c,r d ρ≠.err c):∀ d ρ c,zGH r d ρ≠.err c:=fun d ρ c z=>by
 cases d<;>first | cases z | exact h _ _ _ z
theorem zJH:∀(ds:List D)(ρ ρ':Rho),zGF ds ρ=.ok ρ'->ds.length=0:=fun ds ρ ρ' z=>by
 cases ds with
 | nil=>rfl
 | cons d ds=>cases z
theorem sA{g:Gv}{r:List D->Rho->Res Rho}{n:Nat}(h:∀ (ds:List D) (ρ ρ':Rho),r ds ρ=.ok ρ'->ds.length=n):∀(ds:List D)(ρ ρ':Rho),mM g r ds ρ=.ok ρ'->ds.length=n+1:=fun ds ρ ρ' z=>by
 cases ds with
 | nil=>cases z
 | cons d ds=>
  have z':(g d ρ).bind (fun ρ'=>r ds ρ')=.ok ρ':=z
  cases q:g d ρ with
  | no=>rw[q] at z';cases z'
  | err c'=>rw[q] at z';cases z'
  | ok ρ1=>rw[q] at z';rw[Qm,h ds ρ1 ρ' z']
theorem zAs:∀ a b d,zAj a b=.ok d->∃ i j,a=.int i/\b=.int j/\d=.int (i+j):=fun a b d z=>by
 unfold zAj at z;split at z
 ·cases z;exact⟨_,_,rfl,rfl,rfl⟩
 ·cases z
theorem tV:∀ a b c,zAj a b≠.err c:=fun a b c z=>by unfold zAj at z;split at z<;>cases z
theorem zIl:∀ a b d,zEa a b=.ok d->∃ i j,a=.int i/\b=.int j/\d=.int (i-j):=fun a b d z=>by
 unfold zEa at z;split at z
 ·cases z;exact⟨_,_,rfl,rfl,rfl⟩
 ·cases z
theorem zFq:∀ a b c,zEa a b≠.err c:=fun a b c z=>by unfold zEa at z;split at z<;>cases z
end
theorem zBP{K:Fg_}{H:Hp}:∀ ns:List Int,IsDs K H (ns.map V.int) (ns.map D.int)
 | []=>.nil
 | n::ns=>.cons (.int n) (zBP ns)
section
variable{X:Cx}{G:Gx}{e:Expr}{es:List Expr}{pos np cpos:Pos}{fs:Fv}{k:Nat}{c:Str}
theorem fA(W:Good X G k)(WR:zGN X G)(hR:∃ C,Err X.K X.mg c C)(hg:Gl X c)(ha:PAd X G (e::es) fs)
  (he:starEach (e::es) X.env=(false,eval e X.env)::starEach es X.env:=by rfl) (hplain:(backTo cpos (starEach es X.env)).any (·.1)=false:=by rfl) (hd:(c==("__debug__" : Str))=false:=by decide):
  PSd X G (.Raise (some (.Call (.Name c np) (e::es) [] cpos)) none pos) (gZ c fs):=by
 intro pins s σ H E I q;obtain⟨ρ,Hi,R,h⟩:=q;obtain⟨C,Er⟩:=hR;obtain⟨bmB,newId,B,initId,O,FB⟩:=Er.own X.base I.mod.kin;obtain⟨tl,N,nm,q,bs,hdct,sn,sub,ab,col,dd,k0,k1,k2,k3,k5,mN,hC,hN,hni,T⟩:=O.obj
 have hA:=ha cpos pins s σ H (fun vs H1=>vs.length<=sizeLine/\XE X G (.ref C) none H1) I ⟨ρ,Hi,R,oJ R h fun ds Hi' H' _ e1 h' vs r=>by
  have h':Fin X G Hi' E (if ds.length<=16777216 then (.err c:Res Fl) else .no):=h';by_cases hz:ds.length<=16777216
  ·rw[if_pos hz] at h'
   exact⟨by rw[r.length];exact hz,c,O.bound,h' Hi' H' (R.ext.trans e1)⟩
  ·rw[if_neg hz] at h';exact h'.elim⟩
 refine wpAny_Raise_call_subT (C:=C) (nm:=nm) (q:=q) (N:=N) (bs:=bs) (bm:=tl) (hdct:=hdct) (sn:=sn) (sub:=sub) (ab:=ab) (col:=col) (dd:=dd) (k0:=k0) (k1:=k1) (k2:=k2) (k3:=k3) (k5:=k5)
  FB (mN:=mN) (T.hasType FB.hasBase) (I.ok.hd W.calm) (by rw[he];show(false || (backTo cpos (starEach es X.env)).any (·.1))=false;rw[hplain];rfl) hni (zDA I hg O.bound ⟨rfl,?_⟩ hd)
 rw[he] at hA ⊢
 refine Calls.evalArgs_plain (wpAny_mono hA (fun us s₂ h₂=>?_) fun _ _ y=>y)
 obtain⟨vs,H2,I2,rv,hz,hx⟩:=h₂;exact⟨rfl,by show us.length<=sizeLine;rw[<-rv.length];exact hz,I2.bk _ _ hC,hN.keeps I2.bk,T.keeps I2.bk,fun h' ea hm=>WR pins σ H2 s₂ { s₂ with heap:=h' } ea (.ref C) us I2 hm rfl I2.bare hx⟩
end
end L3
namespace L3
open PySem PySem.Spec PyProof.Rows L2 PySem.W Builtin Builtin.ObjectAttr Builtin.Getset_descriptor
unseal PEd PEf PTd PWd PAd PSd fH POd PGd jP PId
section
variable{prog:Program}{w:World}{A:Around}{E:Value->Shared->Prop}{s:Shared}{K:Frag}{x D:Addr}{ox:Obj}
end
section
variable{prog:Program}{w:World}{A:Around}{E:Value->Shared->Prop}{s:Shared}{K:Frag}{x C CE:Addr}{ox:Obj}
end
section
variable{X:Cx}{pins:List (Addr×Obj)}{σ:St}{H H':Hp}{s s':Shared}{ea:Addr}{cls:Value}
theorem _root_.L2.Inv.track(I:Inv X pins σ H s){a:Addr}{o:HO}(hn:H a=none)(h0:X.s₀.heap.get? a=none)(hl:a≠X.env.locals)(hc:∀ x c,X.env.cells.lookup x=some c->c≠a)(hp:∀ p∈X.pn++pins,p.1≠a)
  (ho:mK X.prog X.w (upd H a o) s.heap a o):Inv X pins σ (upd H a o) s where
 ok:=I.ok
 os:=I.os
 bare:=I.bare
 base:=⟨I.base.keep,I.base.slot,fun b ob e n hx=>by
   have:b≠a:=fun z=>by rw[z,h0] at e;cases e
   rw[aX this];exact I.base.free b ob e n hx,I.base.there,fun b xs e=>by
   have z:=I.base.tups b xs e
   rw[aX (bC z hn)];exact z,fun b ob u e=>by
   have z:=I.base.frzs b ob u e
   rw[aX (bC z hn)];exact z,fun b ps e=>by
   obtain⟨m,z⟩:=I.base.tbls b ps e
   exact⟨m,by rw[aX (bC z hn)];exact z⟩⟩
 loc:=I.loc
 cell:=I.cell
 free:=by rw[aX (Ne.symm hl)];exact I.free
 freeC:=fun x c e=>by rw[aX (hc x c e)];exact I.freeC x c e
 pin:=fun p hp'=>by
  obtain⟨e1,e2,e3,e4,e5⟩:=I.pin p hp';exact⟨e1,by rw[aX (hp p hp')];exact e2,e3,e4,e5⟩
 hok:=fun b u e=>by
  by_cases hb:b=a
  ·subst hb;rw[aW] at e;cases e;exact ho
  ·rw[aX hb] at e
   exact(I.hok b u e).stay (fun c v _ q=>q) (fun c q=>by rw[aX (bC q hn)];exact q) fun c xs q=>by rw[aX (bC q hn)];exact q
 len:=I.len
end
section
variable{X:Cx}{G:Gx}{a e:Expr}{es:List Expr}{pos p:Pos}{fs:Fv}{t:Tv}{x:Str}{k:Nat}{ps:List Str}{m:Mir}{st:Stmt}{sts:List Stmt}{sa sb:Sv}
def zSI(X:Cx)(pins:List (Addr×Obj))(σ:St)(Hi H:Hp)(c:Str)(ev:Value)(s':Shared):Prop:=
 ∃(s1:Shared)(H1:Hp)(ea:Addr)(cls:Value)(Hi' H':Hp),ev=.ref ea/\Inv X pins σ H1 s1/\X.mg c=some cls/\Fly X.prog X.w X.stack H1 H' s1 ea cls s'/\Ext Hi H Hi' H'/\Keep H H1
def zSC(X:Cx)(G:Gx)(Hi:Hp)(E:Ends)(r:Res Fl):Prop:=match r with
 | .err _=>True
 | r=>Fin X G Hi E r
@[irreducible] def PSx (X:Cx) (G:Gx) (st:Stmt) (f:Sv):Prop:=∀(pins:List (Addr×Obj))(s:Shared)(σ:St)(H:Hp)(E:Ends)(ρ:Rho)(Hi:Hp)(Et:Value->Shared->Prop),
 Inv X pins σ H s->mO X G Hi H σ ρ->f ρ≠.no->zSC X G Hi E (f ρ)->(∀ c ev s',f ρ=.err c->zSI X pins σ Hi H c ev s'->Et ev s')->wpAny (model X.prog X.w) X.A (exec st X.env) (SP X pins E) Et s
unseal PSx
@[irreducible] def oI (X:Cx) (G:Gx) (sts:List Stmt) (f:Sv):Prop:=∀(pins:List (Addr×Obj))(s:Shared)(σ:St)(H:Hp)(E:Ends)(ρ:Rho)(Hi:Hp)(Et:Value->Shared->Prop),
 Inv X pins σ H s->mO X G Hi H σ ρ->f ρ≠.no->zSC X G Hi E (f ρ)->(∀ c ev s',f ρ=.err c->zSI X pins σ Hi H c ev s'->Et ev s')->wpAny (model X.prog X.w) X.A (execs sts X.env) (SP X pins E) Et s
unseal oI
end
end L3
namespace L3
open PySem PySem.Spec PyProof.Rows L2 PySem.W
unseal PEd PEf PTd PWd PAd PSd fH POd PGd jP PId PSx oI
section
variable{X:Cx}{G:Gx}{k:Nat}{fb fh:Sv}{body suite:List Stmt}{b₀:Stmt}{ce n:Str}{np hpos pos:Pos}{i:Nat}{tb:List Str}
end
section
variable{X:Cx}{G:Gx}{a:Expr}{p q pos:Pos}{i:Nat}{anc:List (Str×List Str)}{xs:List Str}{x:Str}
end
section
variable{K:Frag}{h:Heap}{mg:Str->Option Value}{x c ce:Str}{C CE:Addr}
theorem sF{newId:String}{bmB:List Value}{B initId:String}(X:K.In h)(G:h.Ns mainGlobals mg)(e:nsIn K mainGlobals x=some (some (.ref C)))(q:excIn K C bmB newId=true)(F:ExcBaseFacts B newId initId bmB):∃ C,Err K mg x C:=by
 refine⟨C,⟨fun h' X'=>⟨bmB,newId,B,initId,⟨mg_of X G e,?_⟩,F⟩⟩⟩
 unfold excIn at q;split at q
 ·rename_i dd cd sl ho
  split at q
  ·rename_i C' bm k0 k1 k2 k3 n k5 hm hs
   simp only[Ve,beq_iff_eq,Bool.not_eq_true'] at q;obtain⟨⟨⟨⟨⟨rfl,rfl⟩,hdel⟩,ht⟩,hok⟩,hni⟩:=q;obtain⟨nm,bs,mro,ns,qn,hd,sn,sub,ab,col,del⟩:=cd;dsimp only at hm hdel hok hni
   subst hm hdel
   have hsl:sl=#[k0,k1,k2,k3,some (.builtin n),k5]:=by
    obtain⟨l⟩:=sl;simp only at hs
    rw[hs]
   subst hsl;exact⟨bm,ns,nm,qn,bs,hd,sn,sub,ab,col,dd,k0,k1,k2,k3,k5,_,X' _ _ ho,.of_isNs (isNs_of_in X' hok),nsMap_none_of_in X' hok hni,tail_of_in X' ht⟩
  ·cases q
 ·cases q
end
def zDy(env:Env):List (Str×NameKind)->List (Str×Addr)->List (Str×Addr)
 | [],cs=>cs
 | (n,k)::r,cs=>zDy env r (if k==.free then (n,(env.cells.lookup n).getD 0)::cs else cs)
theorem zLw{env:Env}:∀(l:List (Str×NameKind))(cs:List (Str×Addr)),(∀ p∈l,p.2=.free->∃ c,env.cells.lookup p.1=some c)->
  (forIn l cs (fun p (r:List (Str×Addr))=>if (p.2==NameKind.free)=true then (do let a <-cellOf env p.1;pure (ForInStep.yield ((p.1,a)::r))) else pure (ForInStep.yield r)):Sem (List (Str×Addr)))=pure (zDy env l cs)
 | [],cs,_=>by simp[zDy]
 | (n,k)::r,cs,h=>by
  rw[List.forIn_cons,zDy];have ih:=fun cs=>zLw r cs fun p hp=>h p (Qd _ hp)
  by_cases e:(k==NameKind.free)=true
  ·obtain⟨c,hc⟩:=h (n,k) Qb (beq_iff_eq.mp e)
   simp only[e,if_true,cellOf,hc,pure_bind,Option.getD_some];exact ih _
  ·simp only[e,Vv,if_false,pure_bind]
   exact ih _
theorem zLT{env:Env}{scope:Scope}(h:∀ p∈scope.names,p.2=.free->∃ c,env.cells.lookup p.1=some c):closureFor scope env=pure (zDy env scope.names []):=by
 have:=zLw scope.names [] h
 unfold closureFor;rw[<-this];simp
theorem vH{env:Env}:∀(l:List (Str×NameKind))(cs:List (Str×Addr)),(∀ p∈l,p.2=.free->∃ c,env.cells.lookup p.1=some c)->(∀ y c,cs.lookup y=some c->env.cells.lookup y=some c)->
  ∀ y c,(zDy env l cs).lookup y=some c->env.cells.lookup y=some c
 | [],cs,_,h,y,c,e=>h y c e
 | (n,k)::r,cs,hl,h,y,c,e=>by
  rw[zDy] at e;refine vH r _ (fun p hp=>hl p (Qd _ hp)) (fun y c e=>?_) y c e
  by_cases z:(k==NameKind.free)=true
  ·obtain⟨c',hc⟩:=hl (n,k) Qb (beq_iff_eq.mp z)
   simp only[z,if_true,Vh,hc,Option.getD_some] at e
   cases w:y==n with
   | true=>rw[w] at e;cases e;rw[beq_iff_eq.mp w];exact hc
   | false=>rw[w] at e;exact h y c e
  ·simp only[z,Vv,if_false] at e
   exact h y c e
theorem zFc{env:Env}:∀(l:List (Str×NameKind))(cs:List (Str×Addr))(y:Str),(∃ c,cs.lookup y=some c)->∃ c,(zDy env l cs).lookup y=some c
 | [],cs,y,h=>h
 | (n,k)::r,cs,y,⟨c,h⟩=>by
  rw[zDy];refine zFc r _ y ?_
  split
  ·rw[Vh]
   cases y==n with
   | true=>exact⟨_,rfl⟩
   | false=>exact⟨c,h⟩
  ·exact⟨c,h⟩
theorem uH{env:Env}:∀(l:List (Str×NameKind))(cs:List (Str×Addr))(y:Str),(y,NameKind.free)∈l->∃ c,(zDy env l cs).lookup y=some c
 | (n,k)::r,cs,y,h=>by
  rw[zDy];rcases Qc.mp h with e | h
  ·cases e
   refine zFc r _ _ ⟨(env.cells.lookup n).getD 0,?_⟩
   simp only[beq_self_eq_true,if_true,Vh]
  ·exact uH r _ y h
theorem bW{α:Type}:∀ {l:List (Str×α)} {y:Str} {k:α},l.lookup y=some k->(y,k)∈l
 | (n,k')::r,y,k,h=>by
  rw[Vh] at h
  cases z:y==n with
  | true=>rw[z] at h;cases h;rw[beq_iff_eq.mp z];exact Qb
  | false=>rw[z] at h;exact Qd _ (bW h)
theorem cH{env:Env}:∀ {l:List (Str×NameKind)} {y:Str} {k:NameKind},
  (l.map fun(n,k)=>if (k==NameKind.free && env.scope.kind==.function && env.kindOf n==some .cell) then (n,NameKind.cell) else (n,k)).lookup y=some k->
  l.lookup y=some k∨(k=.cell/\l.lookup y=some .free)
 | (n,k')::r,y,k,h=>by
  rw[Qq] at h;rw[Vh];by_cases c:(k'==NameKind.free && env.scope.kind==.function && env.kindOf n==some .cell)=true
  ·simp only[c,if_true,Vh] at h
   cases z:y==n with
   | true=>
    rw[z] at h;cases h;refine .inr ⟨rfl,?_⟩
    simp only[Ve] at c;rw[beq_iff_eq.mp c.1.1]
   | false=>rw[z] at h;exact cH h
  ·simp only[c,Vv,if_false,Vh] at h
   cases z:y==n with
   | true=>rw[z] at h;exact .inl h
   | false=>rw[z] at h;exact cH h
def msk(x y:Str):Str:=if y=x then ("" : Str) else y
structure BlkOk (X:Cx) (x:Str) (scope:Scope):Prop where
 kind:scope.kind=.function
 cell:∀ y∈scope.names,y.2≠.cell
 loc:scope.names.lookup x=some .local
 names:∀ y∈scope.names,y.2=.local->scope.names.lookup y.1=some .local
 fre:∀ p∈scope.names,p.2=.free->X.env.kindOf p.1=some .cell∨X.env.kindOf p.1=some .free
 oth:∀ y∈X.N,y≠x->scope.names.lookup y≠some .local
 emp:scope.names.lookup ("" : Str)=none
def cxC(X:Cx)(x:Str)(scope:Scope)(C:Addr)(s₂:Shared)(H₂:Hp)(fp:List Addr):Cx:=
  { prog:=X.prog,w:=X.w,K:=X.K,mg:=X.mg,base:=X.base,A:=X.A,N:=X.N.map (msk x)++[x],s₀:=s₂,H₀:=H₂,env:=compEnvC scope (zDy X.env scope.names []) C X.env,outer:=X.stack,stack:=X.stack,
    ex:=fp,fn:=fun _=>false,calm:=X.calm,pn:=X.pn,xe:=fun _ _=>False }
section
variable{X:Cx}{pins:List (Addr×Obj)}{σ:St}{H:Hp}{s₂:Shared}{x:Str}{scope:Scope}{fp:List Addr}{D C:Addr}{h₁:Heap}
theorem BlkOk.cl(B:BlkOk X x scope)(I:Inv X pins σ H s₂):∀ p∈scope.names,p.2=.free->∃ c,X.env.cells.lookup p.1=some c:=fun p hp e=>I.ok.has p.1 (B.fre p hp e)
theorem zRI(I:Inv X pins σ H s₂)(B:BlkOk X x scope)(hfp:∀ b∈fp,sT X pins H b)(hfl:∀ b∈fp,b<s₂.heap.objs.size)(hD:s₂.heap.objs.size<=D)(hC:s₂.heap.objs.size<=C)(hDC:D≠C)
  (old:∀ b o,s₂.heap.get? b=some o->h₁.get? b=some o) {n:Nat} (hacc:h₁.get? D=some { cls:=.type "list", data:=.seq ([]:List Value).toArray n }) {m:Str->Option Value} (hns:h₁.Ns C m) (t:Nat):
  Inv (cxC X x scope C s₂ H fp) pins (σ++[none]) (upd H D (.lst [])) { s₂ with heap:=h₁,toks:=t }:=by
 have sub:=vH scope.names [] (B.cl I) (fun y c e=>nomatch e)
 have old_lt:∀ {b:Addr} {o:Obj},s₂.heap.get? b=some o->b≠D/\b≠C:=fun e=>⟨Qs (Qr (Heap.lt_size e) hD),Qs (Qr (Heap.lt_size e) hC)⟩
 have free:∀ {b:Addr},b≠D->H b=none->upd H D (.lst []) b=none:=fun n e=>by rw[aX n];exact e
 refine⟨⟨I.ok.mod,B.kind,I.ok.glob,I.ok.blt,hC,fun y z c e1 e2=>I.ok.inj y z c (sub y c e1) (sub z c e2),fun y hy=>?_,fun y c e=>(nomatch e),I.ok.hd,I.ok.frames,.inl rfl,fun b hb=>⟨Qs (Qr (hfl b hb) hC),fun y c e=>(hfp b hb).2.2.2.2.1 y c (sub y c e)⟩,
  I.bs,QE I.ok.bsz I.sz,fun b o e hb=>?_,fun b hb z=>?_,I.stack,I.stkFree⟩,rfl,I.bare,Un.laid old hD (I.hok.fresh hD),⟨m,hns,fun i y v e1 e2 e3=>?_⟩,fun y c e=>?_,free (Ne.symm hDC) (I.hok.fresh hC),fun y c e=>?_,fun p hp=>?_,I.hok.laid old hD ⟨QP _,[],n,.nil,hacc⟩,?_⟩
 ·have:∃ k,(k=NameKind.cell∨k=NameKind.free)/\((relabel scope X.env).names).lookup y=some k:=hy.elim (fun h=>⟨_,.inl rfl,h⟩) fun h=>⟨_,.inr rfl,h⟩
  obtain⟨k,hk,e⟩:=this
  have e':(y,NameKind.free)∈scope.names:=by
   rcases cH e with z | ⟨_,z⟩
   ·rcases hk with rfl | rfl
    ·exact absurd rfl (B.cell _ (bW z))
    ·exact bW z
   ·exact bW z
  exact uH scope.names [] y e'
 ·rcases (hfp b hb).2.2.2.1 with z | z
  ·exact I.ok.noex b o e z
  ·exact absurd (Qr (Heap.lt_size e) (QE I.ok.bsz z)) (Q3 _)
 ·rcases Qc.mp (I.stkSub b z) with w | w
  ·exact(hfp b hb).2.1 w
  ·exact(hfp b hb).2.2.1 w
 ·
  have hi:i<σ.length:=by
   by_cases hi:i<σ.length
   ·exact hi
   ·exfalso
    rw[QX (by omega)] at e2
    cases q:i-σ.length with
    | zero=>rw[q] at e2;cases e2
    | succ j=>rw[q] at e2;cases e2
  rw[QN hi] at e2;have e1':(X.N.map (msk x)++[x])[i]?=some y:=e1;rw[QN (by rw[Qe,<-I.len];exact hi),Qu] at e1'
  cases q:X.N[i]? with
  | none=>rw[q] at e1';cases e1'
  | some z=>
   rw[q] at e1';have e1'':msk x z=y:=QL e1';have hz:z∈X.N:=Qj q;have vis:∃ k,((relabel scope X.env).names).lookup y=some k:=e3.elim (fun h=>⟨_,h⟩) fun h=>h.elim (fun h=>⟨_,h⟩) fun h=>⟨_,h⟩
   have hzx:z≠x:=fun w=>by
    obtain⟨k,hk⟩:=vis;have:y=("" : Str):=by rw[<-e1'',w];exact if_pos rfl
    rw[this] at hk;rcases cH hk with h | ⟨_,h⟩<;>(rw[B.emp] at h;cases h)
   have hy:z=y:=by rw[<-e1''];exact(if_neg hzx).symm
   subst hy
   have fr:(z,NameKind.free)∈scope.names:=by
    rcases e3 with h | h | h
    ·rcases cH h with h | ⟨h,_⟩
     ·exact absurd h (B.oth z hz hzx)
     ·cases h
    ·rcases cH h with h | ⟨_,h⟩
     ·exact absurd rfl (B.cell _ (bW h))
     ·exact bW h
    ·rcases cH h with h | ⟨h,_⟩
     ·exact bW h
     ·cases h
   have kd:=B.fre _ fr rfl;obtain⟨m0,hn0,hl⟩:=I.loc;obtain⟨u,ru,lk⟩:=hl i z v q e2 (kd.elim (fun h=>.inr (.inl h)) fun h=>.inr (.inr h))
   refine⟨u,ru,.inr ⟨?_,?_⟩⟩
   ·rcases e3 with h | h | h
    ·rcases cH h with h | ⟨h,_⟩
     ·exact absurd h (B.oth z hz hzx)
     ·cases h
    ·exact .inl h
    ·exact .inr h
   ·rcases lk with⟨k1,_⟩ | ⟨_,c,hc,hcell⟩
    ·rcases kd with kd | kd<;>(rw[kd] at k1;cases k1)
    ·obtain⟨c',hc'⟩:=uH (env:=X.env) scope.names [] z fr
     have:=sub z c' hc'
     rw[hc] at this;cases this;obtain⟨o,ho,hd⟩:=hcell;exact⟨c,hc',o,old _ _ ho,hd⟩
 ·obtain⟨v,o,ho,hd⟩:=I.cell y c (sub y c e)
  exact⟨v,o,old _ _ ho,hd⟩
 ·obtain⟨v,o,ho,hd⟩:=I.cell y c (sub y c e)
  exact free (old_lt ho).1 (I.freeC y c (sub y c e))
 ·obtain⟨e,n,ne,nf,d⟩:=I.pin p hp
  refine⟨old _ _ e,free (old_lt e).1 n,(old_lt e).2,fun z=>?_,d⟩
  rcases Qc.mp (I.stkSub _ z) with w | w
  ·exact ne w
  ·exact nf w
 ·show(σ++[none]).length=(X.N.map (msk x)++[x]).length
  rw[Qk,Qk,Qe,I.len];rfl
end
section
variable{K:Fg_}{mg:Str->Option Value}{B Bi Hi H Hi' H':Hp}{σ:St}{ρ:Rho}
theorem Rel.snoc{v:V}{d:D}(R:Rel K mg B Bi Hi H σ ρ)(h:IsD K Hi v d):Rel K mg B Bi Hi H (σ++[some v]) (ρ++[.val d]) where
 len:=by rw[Qk,Qk,R.len];rfl
 ext:=R.ext
 slot:=fun j s q=>by
  by_cases hl:j<ρ.length
  ·rw[QN hl] at q
   rw[QN (by rw[R.len];exact hl)];exact R.slot j s q
  ·rw[QX (by omega)] at q
   rw[QX (by rw[R.len];omega),R.len]
   cases z:j-ρ.length with
   | zero=>rw[z] at q;cases q;exact⟨v,rfl,h⟩
   | succ n=>rw[z] at q;cases q
 dist:=fun j k a ds es q1 q2 q3 q4=>by
  have own:∀ {j:Nat} {ds:List D},(ρ++[Sl.val d])[j]?=some (.own ds)->j<ρ.length:=fun {j ds} q=>by
   by_cases hl:j<ρ.length
   ·exact hl
   ·rw[QX (by omega)] at q
    cases z:j-ρ.length with
    | zero=>rw[z] at q;cases q
    | succ n=>rw[z] at q;cases q
  have h1:=own q1;have h2:=own q2;rw[QN h1] at q1;rw[QN h2] at q2;rw[QN (by rw[R.len];exact h1)] at q3;rw[QN (by rw[R.len];exact h2)] at q4;exact R.dist j k a ds es q1 q2 q3 q4
theorem Ext.rewrite{a:Addr}{o:HO}(e:Ext Hi H Hi' H')(hn:H a=none)(hi:Hi' a=none)(hl:∃ xs,H' a=some (.lst xs)):Ext Hi H Hi' (upd H' a o) where
 i:=e.i
 h:=⟨fun b u z=>by rw[aX (bC z hn)];exact e.h.k _ _ z,fun P z=>by
  obtain⟨xs,hl⟩:=hl
  exact(e.h.t P z).put (fun ps y=>by rw[hl] at y;cases y) (fun ob u y=>by rw[hl] at y;cases y)⟩
 s:=fun b u z=>by rw[aX (bC z hi)];exact e.s _ _ z
 n:=e.n
theorem IsDs.snoc{v:V}{d:D}(h:IsD K H v d):∀ {vs:List V} {ds:List D},IsDs K H vs ds->IsDs K H (vs++[v]) (ds++[d])
 | _,_,.nil=>.cons h .nil
 | _,_,.cons r t=>.cons r (IsDs.snoc h t)
end
theorem zAq{α:Type}{r:Res α}{a:α}(h:noErr r=.ok a):r=.ok a:=by
 cases r with
 | ok b=>exact h
 | err c=>cases h
 | no=>cases h
theorem zGv{t:Tv}{f:Ev}{ρ:Rho}{d:D}{ds es:List D}(h:gG t f ρ (d::ds)=.ok es):
  (t (ρ++[.val d])=.ok false/\gG t f ρ ds=.ok es)∨(t (ρ++[.val d])=.ok true/\∃ e es',f (ρ++[.val d])=.ok e/\gG t f ρ ds=.ok es'/\es=e::es'):=by
 rw[gG] at h
 cases ht:noErr (t (ρ++[.val d])) with
 | no=>rw[ht] at h;cases h
 | err c=>rw[ht] at h;cases h
 | ok c=>
  rw[ht] at h;have ht':=zAq ht
  cases c with
  | false=>exact .inl ⟨ht',h⟩
  | true=>
   refine .inr ⟨ht',?_⟩
   have h':((noErr (f (ρ++[.val d]))).bind fun e=>(gG t f ρ ds).bind fun es=>.ok (e::es))=.ok es:=h
   cases hf:noErr (f (ρ++[.val d])) with
   | no=>rw[hf] at h';cases h'
   | err c=>rw[hf] at h';cases h'
   | ok e=>
    rw[hf] at h';have h'':((gG t f ρ ds).bind fun es=>.ok (e::es))=.ok es:=h'
    cases hr:gG t f ρ ds with
    | no=>rw[hr] at h'';cases h''
    | err c=>rw[hr] at h'';cases h''
    | ok es'=>
     rw[hr] at h'';cases h''
     exact⟨e,es',zAq hf,rfl,rfl⟩
theorem zAU{t:Tv}{f:Ev}{ρ:Rho}{c:Str}:∀ {ds:List D},gG t f ρ ds≠.err c
 | []=>fun h=>by cases h
 | d::ds=>fun h=>by
  rw[gG] at h
  cases ht:noErr (t (ρ++[.val d])) with
  | no=>rw[ht] at h;cases h
  | err c=>cases q:t (ρ++[.val d])<;>(rw[q] at ht;cases ht)
  | ok b=>
   rw[ht] at h
   cases b with
   | false=>exact zAU h
   | true=>
    have h':((noErr (f (ρ++[.val d]))).bind fun e=>(gG t f ρ ds).bind fun es=>.ok (e::es))=.err c:=h
    cases hf:noErr (f (ρ++[.val d])) with
    | no=>rw[hf] at h';cases h'
    | err c=>cases q:f (ρ++[.val d])<;>(rw[q] at hf;cases hf)
    | ok e=>
     rw[hf] at h'
     cases hr:gG t f ρ ds with
     | no=>simp only[Res.bind,hr] at h';cases h'
     | err c'=>exact zAU hr
     | ok es=>simp only[Res.bind,hr] at h';cases h'
@[irreducible] def PTs (X:Cx) (G:Gx) (ifs:List Expr) (t:Tv):Prop:=
 ∀(pins:List (Addr×Obj))(s:Shared)(σ:St)(H:Hp)(Q:Bool->Hp->Prop),Inv X pins σ H s->tTb X G t σ H Q->
  wpAny (model X.prog X.w) X.A (forIn ifs true fun c r=>if r=true then do let ok <-isTrue c X.env (eval c X.env);pure (ForInStep.yield ok) else pure (ForInStep.yield r)) (TP X pins σ Q) X.xe s
unseal PTs
theorem kX{X:Cx}{G:Gx}:PTs X G [] jM:=fun pins s σ H Q I ⟨ρ,Hi,R,o⟩=>wpAny_tests_nil ⟨H,I,Out.here (a:=true) o R.s⟩
theorem zQQ{X:Cx}{G:Gx}{c:Expr}{t:Tv}(h:PTd X G c t):PTs X G [c] t:=fun pins s σ H Q I q=>wpAny_tests_one (h pins s σ H Q I q)
end L3
namespace L3
open PySem PySem.Spec PyProof.Rows L2
unseal PEd PEf PTd PWd PAd PSd fH POd PGd jP PId PSx oI PTs
section
variable{X:Cx}{G:Gx}{elt iter:Expr}{x:Str}{px pos:Pos}{ifs:List Expr}{scope:Scope}{it:Fv}{t:Tv}{f:Ev}{k:Nat}
theorem zOz{M:Model}{A:Around}{α:Type}{m:Sem α}{itv u:Value}{s:Shared}{Q1:Unit->Shared->Prop}{R1:α->Shared->Prop}{E:Value->Shared->Prop}(h:wpAny M A (letOwnedTupleGo (.Name x px) itv u) Q1 E s)
  (k:∀ s5,Q1 () s5->wpAny M A m R1 E s5):wpAny M A m R1 E s:=by
 have key:=wpAny_bind (f:=fun _:Unit=>m) (wpAny_mono h (fun _ s5 h5=>k s5 h5) fun _ _ z=>z)
 have e:(letOwnedTupleGo (.Name x px) itv u >>= fun _=>m)=m:=pure_bind () fun _=>m
 rw[e] at key;exact key
theorem zHV{N:List Str}(hN:N.Nodup)(h0:("" : Str)∉N)(hx:x≠("" : Str)):(N.map (msk x)++[x]).Nodup:=by
 rw[List.nodup_append];refine⟨?_,VL.mpr ⟨by simp,List.nodup_nil⟩,fun a ha b hb e=>?_⟩
 ·induction N with
  | nil=>exact List.nodup_nil
  | cons y N ih=>
   rw[Qq,VL];obtain⟨hy,hN⟩:=VL.mp hN;refine⟨fun hm=>?_,ih hN fun z=>h0 (Qd _ z)⟩
   obtain⟨z,hz,e⟩:=Qn.mp hm;unfold msk at e;by_cases c1:z=x
   ·by_cases c2:y=x
    ·exact hy (by rw[c2,<-c1];exact hz)
    ·rw[if_pos c1,if_neg c2] at e;exact h0 (by rw[e];exact Qb)
   ·by_cases c2:y=x
    ·rw[if_neg c1,if_pos c2] at e;exact h0 (by rw[<-e];exact Qd _ hz)
    ·rw[if_neg c1,if_neg c2] at e;exact hy (by rw[<-e];exact hz)
 ·obtain⟨z,hz,e1⟩:=Qn.mp ha
  rw[Qt] at hb;subst hb;subst e;unfold msk at e1;split at e1
  ·exact hx e1.symm
  ·rename_i c;exact c e1
structure CW where
 i:Nat
 v:List (Option V)
 H:Hp
 Hi:Hp
 ys:List V
 done:List D
 rest:List D
structure CS (Y:Cx) (pins:List (Addr×Obj)) (σ:St) (tn:Nat->Heap->Prop) (fp:List Addr) (Hi2 H2:Hp) (a:Addr) (m:Nat) (cp:Nat->Res (List D)) (es:List D) (c:CW) (s':Shared):Prop where
 inv:Inv Y pins (σ++c.v) c.H s'
 wid:c.v.length=m
 tn:tn c.i s'.heap
 fr:∀ b∈fp,c.H b=none
 ext:Ext Hi2 H2 c.Hi c.H
 acc:c.H a=some (.lst c.ys)
 hi:c.Hi a=none
 isd:IsDs Y.K c.Hi c.ys c.done
 len:c.done.length<=c.i
 cmp:cp c.i=.ok c.rest
 all:es=c.done++c.rest
def zSE(X:Cx)(pins:List (Addr×Obj))(σ:St)(use:Option (Value->Sem Unit))(Q':Value->Shared->Prop)(Qa:Addr->Hp->Prop):Prop:=
 ∀(C A:Addr)(m:Str->Option Value)(s4:Shared)(H3:Hp),s4.heap.Ns C m->(∀ h',Heap.SameBut C s4.heap h'->Inv X pins σ H3 { s4 with heap:=h' })->sT X pins H3 C->Qa A H3->
  compPost (model X.prog X.w) X.A X.xe use Q' (.ref A) C (.ok .next) s4
theorem zCm(hc:X.calm=true/\TB X.K X.mg G.Bi G.B)(hr:Room k X.A)(Bk:BlkOk X x scope)(hN:X.N.Nodup)(h0:("" : Str)∉X.N)(hx0:x≠("" : Str))(hi:PId X G (.Name x px) iter it)
  (hb:∀(C:Addr)(s₂:Shared)(H₂:Hp)(fp:List Addr)(G':Gx),Good (cxC X x scope C s₂ H₂ fp) G' k->PTs (cxC X x scope C s₂ H₂ fp) G' ifs t/\PEd (cxC X x scope C s₂ H₂ fp) G' elt f)
  (hs:∀ x,foldedSetIterable iter X.env x=pure x:=by intro _;rfl)
  {pins:List (Addr×Obj)} {s:Shared} {σ:St} {H Hi:Hp} {ρ:Rho} {use:Option (Value->Sem Unit)} {Q':Value->Shared->Prop} {Qa:Addr->Hp->Prop} {cpos:Pos} (I:Inv X pins σ H s) (R:mO X G Hi H σ ρ)
  (ou:Out G Hi H ((jQ it t f) ρ) fun ds Hi' H'=>∀ a,zKo X.K H Hi' H' a ds->Qa a H') (hend:zSE X pins σ use Q' Qa):
  wpAny (model X.prog X.w) X.A (comprehension (.ListComp elt [⟨.Name x px,iter,ifs,0⟩] scope pos) scope X.env cpos (newList []) false (eval iter X.env) use) Q' X.xe s:=by
 refine wpAny_comprehension_free (use:=use) rfl hs (zLT (Bk.cl I)) Bk.kind Bk.names ?_
 refine thn (hi pins s σ H (fun J H2=>∃ ds Hi2,Ext Hi H Hi2 H2/\vG X.K Hi2 J ds/\Out G Hi2 H2 (if ds.length<=16777215 then gG t f ρ ds else .no) fun ds Hi' H'=>∀ a,zKo X.K H Hi' H' a ds->Qa a H') I
  ⟨ρ,Hi,R,(Out.bind ou).imp fun ds Hi2 H2 e2 o2 J gv=>⟨ds,Hi2,e2,gv,o2⟩⟩) fun v s1 h1=>thn h1 fun itv s2 h2=>?_
 obtain⟨itA,fp,tn,J,H2,rfl,I2,T,st2,f2,ds,Hi2,e2,gv,ou2⟩:=h2
 have hlen:ds.length<=16777215:=by
  by_cases hlen:ds.length<=16777215
  ·exact hlen
  ·rw[if_neg hlen] at ou2;exact ou2.elim
 rw[if_pos hlen] at ou2
 cases hes:gG t f ρ ds with
 | no=>rw[hes] at ou2;exact ou2.elim
 | err c=>exact absurd hes zAU
 | ok es=>
  rw[hes] at ou2;have R2:mO X G Hi2 H2 σ ρ:=R.grow e2;refine wpAny_newObj_type (wpAny_newFunctionEnv Bk.cell (by intro y hy;simp at hy) (fun h₁ hns₁ hsb₁=>?_) Bk.kind)
  dsimp only at hns₁ hsb₁ ⊢
  generalize hH2:s2.heap.push { cls:=.type "list", dict:=none,data:=.seq ([]:List Value).toArray }=HP at hns₁ hsb₁ ⊢;have hC:HP.objs.size=s2.heap.objs.size+1:=by rw[<-hH2,Heap.size_push]
  have hDC:s2.heap.objs.size≠HP.objs.size:=by rw[hC];omega
  have ltC:∀ {b:Addr} {o:Obj},s2.heap.get? b=some o->b≠HP.objs.size:=fun e=>by rw[hC];exact Qs (Vw (Heap.lt_size e))
  have old:∀ b o,s2.heap.get? b=some o->h₁.get? b=some o:=fun b o e=>hsb₁.extBut b o (ltC e) (Heap.get?_push_of_some _ (hH2 ▸ Heap.get?_push_of_some _ e))
  have hacc:h₁.get? s2.heap.objs.size=some { cls:=.type "list", data:=.seq ([]:List Value).toArray 0 }:=hsb₁.extBut _ _ hDC (Heap.get?_push_of_some _ (hH2 ▸ Heap.get?_push_size _ rfl));have hfl:∀ b∈fp,b<s2.heap.objs.size:=fun b hb=>by obtain⟨o,e,_⟩:=T.obj _ _ st2 b hb;exact Heap.lt_size e
  have IE:=zRI (t:=s2.toks+([]:List (Str×Value)).length) I2 Bk f2 hfl (Qh _) (by rw[hC];omega) hDC old hacc hns₁
  have sub:=vH scope.names [] (Bk.cl I2) (fun y c e=>nomatch e)
  have H2D:H2 s2.heap.objs.size=none:=I2.hok.fresh (Qh _);have HD:H s2.heap.objs.size=none:=e2.h.none H2D;have Hi2D:Hi2 s2.heap.objs.size=none:=e2.s.none H2D;generalize hX:cxC X x scope HP.objs.size s2 H2 fp=Y at IE
  have GY:Good Y ⟨G.B,G.Bi,fun _ _=>False⟩ k:=by
   subst hX;exact⟨hc.1,hr,fun pins σ H s e s' _ h=>by obtain⟨_,_,_,_,_,c,_,z⟩:=h;exact z.elim,PassesOwn.never,hc.2⟩
  obtain⟨hts,hel⟩:=(hX ▸ hb HP.objs.size s2 H2 fp ⟨G.B,G.Bi,fun _ _=>False⟩ (hX.symm ▸ GY):PTs Y ⟨G.B,G.Bi,fun _ _=>False⟩ ifs t/\PEd Y ⟨G.B,G.Bi,fun _ _=>False⟩ elt f)
  have stat:∀ {H':Hp},(∀ b∈fp,H' b=none)->∀ b∈fp,sT Y pins H' b:=fun hn b hb=>by
   subst hX;refine⟨hn b hb,?_,fun z=>?_,.inl hb,fun y c e=>(f2 b hb).2.2.2.2.1 y c (sub y c e),(f2 b hb).2.2.2.2.2⟩
   ·show b≠HP.objs.size
    rw[hC];exact Qs (Vw (hfl b hb))
   ·rcases Qc.mp (I2.stkSub b z) with w | w
    ·exact(f2 b hb).2.1 w
    ·exact(f2 b hb).2.2.1 w
  have YN:Y.N.Nodup:=by subst hX;exact zHV hN h0 hx0
  have Yx:Y.N[σ.length]?=some x:=by
   subst hX;show(X.N.map (msk x)++[x])[σ.length]?=some x
   rw[QX (by rw[Qe,I2.len];omega),Qe,I2.len,V4];rfl
  have Yl:Y.env.scope.names.lookup x=some .local:=by subst hX;exact lookup_relabel_local Bk.loc
  have Ye:Y.env=compEnvC scope (zDy X.env scope.names []) HP.objs.size X.env:=by subst hX;rfl
  have Yxe:∀ e s,¬ Y.xe e s:=by subst hX;exact fun _ _ h=>h
  have tn1:tn 0 h₁:=T.keep _ _ _ st2 fun b _ o e=>old b o e
  have loop:∀ s3:Shared,s3={ s2 with heap:=h₁,toks:=s2.toks+([]:List (Str×Value)).length }->
    codeAny (model X.prog X.w) X.A (.compLoop (.ListComp elt [⟨.Name x px,iter,ifs,0⟩] scope pos) 0 (.ref itA) (.ref s2.heap.objs.size) Y.env) (compPost (model X.prog X.w) X.A X.xe use Q' (.ref s2.heap.objs.size) HP.objs.size) s3:=by
   rintro s3 rfl
   subst hX
   have fr0:∀ b∈fp,upd H2 s2.heap.objs.size (.lst []) b=none:=fun b hb=>by
    rw[aX (Qs (hfl b hb))];exact(f2 b hb).1
   refine codeAny_compLoop_tests (fun n s'=>∃ c:CW,n=ds.length-c.i/\CS (cxC X x scope HP.objs.size s2 H2 fp) pins σ tn fp Hi2 H2 s2.heap.objs.size 1 (fun i=>gG t f ρ (ds.drop i)) es c s') ?_ ds.length
    ⟨⟨0,[none],_,Hi2,[],[],es⟩,rfl,⟨IE,rfl,tn1,fr0,(Ext.refl e2.s).trans (Ext.newF e2.s H2D),aW,Hi2D,.nil,Qh _,hes,rfl⟩⟩
   ·rintro n s3 ⟨⟨i,vv,H3,Hi3,ys,done,rest⟩,rfl,I3,wd3,st3,fr3,e3,hD3,hiD3,rd3,hl3,hr3,hes3⟩
    dsimp only at I3 wd3 st3 fr3 e3 hD3 hiD3 rd3 hl3 hr3 hes3 ⊢
    obtain⟨v,rfl⟩:∃ v,vv=[v]:=by
     match vv,wd3 with
     | [v],_=>exact⟨v,rfl⟩
    obtain⟨w1,w2⟩:=gv Hi3 H3 e3.i e3.s i;have lift:∀ {α:Type} {m:Sem α} {Q':α->Shared->Prop} {E:Value->Shared->Prop} {s':Shared},wpAny (model X.prog X.w) X.A m Q' (cxC X x scope HP.objs.size s2 H2 fp).xe s'->wpAny (model X.prog X.w) X.A m Q' E s':=fun h=>wpAny_mono h (fun _ _ z=>z) fun e s z=>(Yxe e s z).elim
    by_cases hlt:i<ds.length
    ·obtain⟨d,hd⟩:∃ d,ds[i]?=some d:=⟨_,Qp hlt⟩
     obtain⟨go,yl⟩:=w2 d hd
     have e4:ds.drop i=d::ds.drop (i+1):=by
      rw[Qp hlt] at hd;cases hd;exact X2 hlt
     rw[e4] at hr3;refine thn (T.item (cxC X x scope HP.objs.size s2 H2 fp) rfl rfl rfl hc.1 i pins s3 _ H3 _ I3 (stat fr3) st3 go) fun r s4 ⟨u,hru,h4⟩=>?_
     subst hru;refine zOz h4 fun s5 h5=>?_
     obtain⟨xv,H5,I5,r5,y5,st5,fr5⟩:=h5;obtain⟨Hi5,e5,rd5⟩:=yl xv H5 y5;have I5':=I5.pinned (stat fr5) (T.obj _ _ st5);refine wpAny_assign_Name (tY I5' YN Yx (.inl Yl) r5 (fun s6 I6=>?_) (.inr Yl))
     have es6:(σ++[v]).set σ.length (some xv)=σ++[some xv]:=by rw[X3 _ _ (Qh _),V4];rfl
     rw[es6] at I6;have E5:Ext Hi2 H2 Hi5 H5:=e3.trans e5;have R5:mO (cxC X x scope HP.objs.size s2 H2 fp) ⟨G.B,G.Bi,fun _ _=>False⟩ Hi5 H5 (σ++[some xv]) (ρ++[.val d]):=Rel.snoc (R2.grow E5) rd5
     obtain⟨hD5,hiD5⟩:=e5.out hD3 hiD3;have rd5':=rd3.mono e5.i
     have again:∀ {H8 Hi8:Hp} {ys':List V} {done' rest':List D} {s8:Shared},Inv (cxC X x scope HP.objs.size s2 H2 fp) (pins++vZ fp s5.heap) (σ++[some xv]) H8 s8->Ext Hi2 H2 Hi8 H8->H8 s2.heap.objs.size=some (.lst ys')->Hi8 s2.heap.objs.size=none->IsDs X.K Hi8 ys' done'->done'.length<=i+1->
       gG t f ρ (ds.drop (i+1))=.ok rest'->es=done'++rest'->∃ m,m<ds.length-i/\∃ c:CW,m=ds.length-c.i/\CS (cxC X x scope HP.objs.size s2 H2 fp) pins σ tn fp Hi2 H2 s2.heap.objs.size 1 (fun i=>gG t f ρ (ds.drop i)) es c s8:=fun {H8 Hi8 ys' done' rest' s8} I8 E8 a1 a2 a3 a4 a5 a6=>by
      refine⟨ds.length-(i+1),by omega,⟨i+1,[some xv],H8,Hi8,ys',done',rest'⟩,rfl,⟨I8.unpinned,rfl,T.keep _ _ _ st5 fun b hb o e=>(I8.pin (b,o) (Qy _ (Qy _ (fM hb e)))).1,fun b hb=>?_,E8,a1,a2,a3,a4,a5,a6⟩⟩
      obtain⟨o,e,_⟩:=T.obj _ _ st5 b hb;exact(I8.pin (b,o) (Qy _ (Qy _ (fM hb e)))).2.1
     rcases zGv hr3 with⟨ht,hr4⟩ | ⟨ht,e,es',hf,hr4,hee⟩
     ·refine lift (thn (hts _ s6 _ H5 (fun b H'=>b=false/\∃ Hi',Ext Hi5 H5 Hi' H') I6 ⟨_,Hi5,R5,by rw[ht];exact fun Hi' H' e=>⟨rfl,Hi',e⟩⟩) fun b s7 h7=>?_)
      obtain⟨H7,I7,rfl,Hi7,e7⟩:=h7;obtain⟨hD7,hiD7⟩:=e7.out hD5 hiD5;exact again I7 (E5.trans e7) hD7 hiD7 (rd5'.mono e7.i) (by omega) hr4 hes3
     ·refine lift (thn (hts _ s6 _ H5 (fun b H'=>b=true/\∃ Hi',Ext Hi5 H5 Hi' H') I6 ⟨_,Hi5,R5,by rw[ht];exact fun Hi' H' e=>⟨rfl,Hi',e⟩⟩) fun b s7 h7=>?_)
      obtain⟨H7,I7,rfl,Hi7,e7⟩:=h7;obtain⟨hD7,hiD7⟩:=e7.out hD5 hiD5;simp only[if_true];refine lift (thn (hel _ s7 _ H7 (fun w H'=>∃ Hi',Ext Hi7 H7 Hi' H'/\IsD X.K Hi' w e) I7 ⟨_,Hi7,R5.grow e7,by rw[hf];exact fun Hi' H' ee w hw=>⟨Hi',ee,hw⟩⟩) fun u8 s8 h8=>?_)
      obtain⟨w8,H8,I8,r8,Hi8,e8,rw8⟩:=h8;obtain⟨hD8,hiD8⟩:=e8.out hD7 hiD7;have rdy:IsDs X.K Hi8 ys done:=(rd5'.mono e7.i).mono e8.i;refine lift (thn (uK (X:=(cxC X x scope HP.objs.size s2 H2 fp)) _ s8 _ H8 (.ref s2.heap.objs.size) [w8] (.ref s2.heap.objs.size) [u8] (fun _ H'=>H'=upd H8 s2.heap.objs.size (.lst (ys++[w8]))) I8 rfl (.cons r8 .nil) ⟨_,ys,w8,rfl,rfl,hD8,?_,rfl⟩) fun _ s9 h9=>?_)
      ·rw[rdy.length]
       exact Vu hl3 (Qr hlt (QE hlen (by decide)))
      ·obtain⟨_,H9,I9,_,rfl⟩:=h9
       refine again I9 (Ext.rewrite ((E5.trans e7).trans e8) H2D hiD8 ⟨_,hD8⟩) aW hiD8 (rdy.snoc rw8) (by rw[Qk];exact XS hl3) hr4 ?_
       rw[hes3,hee,Vd];rfl
    ·rw[Xf (by omega),gG] at hr3
     cases hr3;refine thn (T.done (cxC X x scope HP.objs.size s2 H2 fp) rfl rfl rfl hc.1 i pins s3 _ H3 _ I3 (stat fr3) st3 (w1 (by omega))) fun r s4 ⟨hrn,I4⟩=>?_
     subst hrn;obtain⟨m4,hn4,_⟩:=I4.loc;have fC:H3 HP.objs.size=none:=I4.free;have nC:∀ b u,H3 b=some u->b≠HP.objs.size:=fun b u e z=>by rw[z,fC] at e;cases e
     have U4:=I4.base;refine hend HP.objs.size s2.heap.objs.size m4 s4 H3 hn4 (fun h' hs'=>?_) (I2.fpOk (by rw[hC];omega) fC) ?_
     ·have kp:∀ b o,b≠HP.objs.size->s4.heap.get? b=some o->h'.get? b=some o:=fun b o hb e=>hs'.extBut b o hb e
      refine Inv.call' I2 (ch:=fp) I4.os ⟨fun b o e n hb hx=>kp b o (ltC e) (U4.keep b o e n hb hx),fun b o e n hb hx=>?_,U4.free,fun b o e hx=>?_,U4.tups,U4.frzs,U4.tbls⟩ (fun b u e=>?_) I4.bare (fun b hb=>⟨(f2 b hb).2.2.2.1,(f2 b hb).2.1,(f2 b hb).2.2.2.2.1,(f2 b hb).2.2.2.2.2⟩)
      ·obtain⟨sl,q⟩:=U4.slot b o e n hb hx
       exact⟨sl,kp b _ (ltC e) q⟩
      ·obtain⟨o',q⟩:=U4.there b o e hx
       exact⟨o',kp b _ (ltC e) q⟩
      ·refine(I4.hok b u e).stay (fun c v hc q=>kp c v ?_ q) (fun _ q=>q) fun _ _ q=>q
       rcases hc with z | z
       ·rw[z];exact nC b u e
       ·exact nC c _ z
     ·refine ou2 Hi3 H3 e3 _ ⟨HD,hiD3,ys,hD3,?_⟩
      rw[hes3,QW];exact rd3
  rw[Ye] at loop;exact codeAny_compStart_list (loop _ rfl) (T.self _ 0 _ _ _ tn1 (loop _ rfl))
theorem zNf(hc:X.calm=true/\TB X.K X.mg G.Bi G.B)(hr:Room k X.A)(Bk:BlkOk X x scope)(hN:X.N.Nodup)(h0:("" : Str)∉X.N)(hx0:x≠("" : Str))(hi:PId X G (.Name x px) iter it)
  (hb:∀(C:Addr)(s₂:Shared)(H₂:Hp)(fp:List Addr)(G':Gx),Good (cxC X x scope C s₂ H₂ fp) G' k->PTs (cxC X x scope C s₂ H₂ fp) G' ifs t/\PEd (cxC X x scope C s₂ H₂ fp) G' elt f)
  (hs:∀ x,foldedSetIterable iter X.env x=pure x:=by intro _;rfl):PEf X G (.ListComp elt [⟨.Name x px,iter,ifs,0⟩] scope pos) (jQ it t f):=by
 intro pins s σ H Q I w;obtain⟨ρ,Hi,R,ou⟩:=w;rw[eval_ListComp];refine zCm hc hr Bk hN h0 hx0 hi hb hs (use:=none) (Qa:=fun a H'=>Q (.ref a) H') I R ou fun C A m s4 H3 hn hI _ q=>?_
 exact⟨m,hn,fun h' hs'=>⟨.ref A,H3,hI h' hs',rfl,q⟩⟩
def PC(X:Cx)(e:Expr)(t:TE):Prop:=∀(pins:List (Addr×Obj))(s:Shared)(σ:St)(H:Hp)(Q:VK),Inv X pins σ H s->t σ H Q->∀(u:Value->Sem Unit)(Q':Unit->Shared->Prop),
 (∀(C:Addr)(m:Str->Option Value)(s4:Shared)(v:V)(w:Value)(H3:Hp),s4.heap.Ns C m->(∀ h',Heap.SameBut C s4.heap h'->Inv X pins σ H3 { s4 with heap:=h' })->sT X pins H3 C->dB v w->Q v H3->
  wpAny (model X.prog X.w) X.A (u w) (fun _ s''=>∃ m,s''.heap.Ns C m/\∀ h',Heap.SameBut C s''.heap h'->Q' () { s'' with heap:=h' }) X.xe s4)->wpAny (model X.prog X.w) X.A (evalThenUse e X.env u) Q' X.xe s
theorem PC.wk{X:Cx}{e:Expr}{t t':TE}(h:PC X e t)(w:∀ σ H Q,t' σ H Q->t σ H Q):PC X e t':=fun pins s σ H Q I q=>h pins s σ H Q I (w σ H Q q)
@[irreducible] def PCd (X:Cx) (G:Gx) (e:Expr) (f:Ev):Prop:=PC X e (tD X G f)
unseal PCd
@[irreducible] def PCf (X:Cx) (G:Gx) (e:Expr) (f:Fv):Prop:=PC X e (tF X G f)
unseal PCf
theorem zNU(hc:X.calm=true/\TB X.K X.mg G.Bi G.B)(hr:Room k X.A)(Bk:BlkOk X x scope)(hN:X.N.Nodup)(h0:("" : Str)∉X.N)(hx0:x≠("" : Str))(hi:PId X G (.Name x px) iter it)
  (hb:∀(C:Addr)(s₂:Shared)(H₂:Hp)(fp:List Addr)(G':Gx),Good (cxC X x scope C s₂ H₂ fp) G' k->PTs (cxC X x scope C s₂ H₂ fp) G' ifs t/\PEd (cxC X x scope C s₂ H₂ fp) G' elt f)
  (hs:∀ x,foldedSetIterable iter X.env x=pure x:=by intro _;rfl):PCf X G (.ListComp elt [⟨.Name x px,iter,ifs,0⟩] scope pos) (jQ it t f):=by
 intro pins s σ H Q I w u Q' hend;obtain⟨ρ,Hi,R,ou⟩:=w;rw[arm_evalThenUse_ListComp];refine wpAny_bind (zCm hc hr Bk hN h0 hx0 hi hb hs (use:=some u) (Q':=fun _ s=>wpAny (model X.prog X.w) X.A (pure ()) Q' X.xe s) (Qa:=fun a H'=>Q (.ref a) H') I R ou fun C A m s4 H3 hn hI fo q=>?_)
 refine thn (hend C m s4 (.ref A) (.ref A) H3 hn hI fo rfl q) fun _ s5 h5=>?_
 obtain⟨m5,hn5,h5⟩:=h5;exact⟨m5,hn5,fun h' hs'=>wpAny_pure (h5 h' hs')⟩
theorem PCf.d(h:PCf X G e fs):PCd X G e (eF fs):=PC.wk h fun σ H Q q=>by
 obtain⟨ρ,Hi,R,ou⟩:=q;refine⟨ρ,Hi,R,?_⟩
 cases z:fs ρ with
 | no=>unfold eF at ou;rw[z] at ou;exact ou
 | err c=>unfold eF at ou;rw[z] at ou;exact ou
 | ok ds=>
  unfold eF at ou;rw[z] at ou
  intro Hi1 H1 e1 a n;obtain⟨n1,n2,xs,n3,n4⟩:=n;have o2:∀ Hi' H',Ext Hi H Hi' H'->∀ v,IsD X.K Hi' v (.lst ds)->Q v H':=ou;exact o2 _ _ (e1.hold n1 n3 n2) (.ref a) (.lst (SqL.of aW) (n4.mono (cX n2 _)))
theorem zOy{i:Nat}{y:Str}{e:Expr}{te:TE}{pos' pos:Pos}(hN:X.N.Nodup)(hi:X.N[i]?=some y)(hx:Loc X.env.scope y)(he:PC X e te)(hs:swapsWith e (some (.Name y pos')) pos.line X.env=pure true)
  (hf:X.fn y=true∨X.env.scope.names.lookup y=some .local):PS X (.Assign [.Name y pos'] e pos) (zRB te (L2.gName i)):=by
 intro pins s σ H E I h;rw[exec_Assign_Name_used _ _ _ _ hs];refine wpAny_bind (wpAny_standAt (wpAny_bind ?_))
 refine he pins s σ H _ I h _ _ fun C m s4 v w H3 hn hI fo r q=>?_
 have I4:Inv X pins σ H3 s4:=hI s4.heap (Heap.SameBut.refl _ _);refine wpAny_assign_Name (zBi I4 hN hi hx r (fun s5 I5 sb=>?_) hf)
 obtain⟨a,sb,ha⟩:=sb
 have aC:C≠a:=by
  rcases ha with rfl | ha
  ·exact fo.2.1
  ·exact fun z=>fo.2.2.2.2.1 y a ha z.symm
 refine⟨m,hn.sameBut sb aC,fun h' hs'=>wpAny_pure ?_⟩
 have fC:=fo.1;have nC:∀ b u,H3 b=some u->b≠C:=fun b u e z=>by rw[z,fC] at e;cases e
 have kp:∀ b o,b≠C->s5.heap.get? b=some o->h'.get? b=some o:=fun b o hb e=>hs'.extBut b o hb e
 refine⟨σ.set i (some v),H3,?_,q⟩
 refine Inv.call' I5 (ch:=[C]) rfl ⟨fun b o e n hb hx=>kp b o (by simpa using hx) e,fun b o e n hb hx=>⟨o.slots,kp b _ (by simpa using hx) e⟩,fun b o e n hx=>n,fun b o e hx=>⟨o,kp b _ (by simpa using hx) e⟩,fun _ _ q=>q,fun _ _ _ q=>q,fun _ ps q=>⟨#[],by simpa using q⟩⟩ (fun b u e=>?_) I5.bare (fun b hb=>?_)
 ·refine(I5.hok b u e).stay (fun c v hc q=>kp c v ?_ q) (fun _ q=>q) fun _ _ q=>q
  rcases hc with z | z
  ·rw[z];exact nC b u e
  ·exact nC c _ z
 ·have e:b=C:=by simpa using hb
  subst e;exact⟨fo.2.2.2.1,fo.2.1,fo.2.2.2.2.1,fo.2.2.2.2.2⟩
theorem zIS{i:Nat}{y:Str}{e:Expr}{f:Ev}{pos' pos:Pos}(hN:X.N.Nodup)(hi:X.N[i]?=some y)(hx:Loc X.env.scope y)(he:PCd X G e f)(hs:swapsWith e (some (.Name y pos')) pos.line X.env=pure true)
  (hf:X.fn y=true∨X.env.scope.names.lookup y=some .local:=by first | exact .inl rfl | exact .inr rfl | assumption):PSd X G (.Assign [.Name y pos'] e pos) (cT i f):=PS.wk (zOy hN hi hx he hs hf) fun E σ H q=>by
 obtain⟨ρ,Hi,R,h⟩:=q;exact⟨ρ,Hi,R,oJ R h fun d Hi' H' _ e h' v r=>h' _ Hi' H' (Same.refl _) ((R.grow e).set r)⟩
end
end L3
namespace L3
open PySem PySem.Spec PyProof.Rows L2
unseal PEd PEf PTd PWd PAd PSd fH POd PGd jP PId PSx oI PTs PCd PCf
def zRc(sc:Scope)(N:List Str)(x:Str)(scope:Scope):Bool:=
 scope.names.all (fun y=>y.2 != .cell) && scope.names.lookup x==some .local && scope.names.all (fun y=>y.2 != .local || scope.names.lookup y.1==some .local)
  && scope.names.all (fun p=>p.2 != .free || (sc.names.lookup p.1==some .cell || sc.names.lookup p.1==some .free)) && N.all (fun y=>y==x || scope.names.lookup y != some .local) && (scope.names.lookup ("" : Str)).isNone && !N.contains ("" : Str) && x != ("" : Str)
section
variable{X:Cx}{G:Gx}{elt iter:Expr}{x:Str}{px pos:Pos}{ifs:List Expr}{scope sc:Scope}{it:Fv}{t:Tv}{f:Ev}{k:Nat}{N:List Str}
theorem zMt(hk:scope.kind=.function)(hsc:X.env.scope=sc)(hN:X.N=N)(h:zRc sc N x scope=true):BlkOk X x scope/\("" : Str)∉X.N/\x≠("" : Str):=by
 unfold zRc at h;simp only[Ve] at h;obtain⟨⟨⟨⟨⟨⟨⟨h1,h2⟩,h3⟩,h4⟩,h5⟩,h6⟩,h7⟩,h8⟩:=h;subst hN hsc;refine⟨⟨hk,fun y hy e=>?_,beq_iff_eq.mp h2,fun y hy e=>?_,fun p hp e=>?_,fun y hy hne e=>?_,?_⟩,fun z=>?_,fun z=>?_⟩
 ·have:=Vq.mp h1 y hy
  rw[e] at this;cases this
 ·have:=Vq.mp h3 y hy
  rw[e] at this;simpa using this
 ·have:=Vq.mp h4 p hp
  rw[e] at this;have q:X.env.scope.names.lookup p.1=some .cell∨X.env.scope.names.lookup p.1=some .free:=by simpa using this
  exact q
 ·have:=Vq.mp h5 y hy
  rw[e] at this;simp[hne] at this
 ·simpa using h6
 ·have:X.N.contains ("" : Str)=true:=by simpa using z
  rw[this] at h7;cases h7
 ·rw[z] at h8;simp at h8
theorem fZ(W:Good X G k)(hnd:N.Nodup)(hk:scope.kind=.function)(hsc:X.env.scope=sc)(hN:X.N=N)(h:zRc sc N x scope=true)(hi:PId X G (.Name x px) iter it)
  (hb:∀(C:Addr)(s₂:Shared)(H₂:Hp)(fp:List Addr)(G':Gx),Good (cxC X x scope C s₂ H₂ fp) G' k->PTs (cxC X x scope C s₂ H₂ fp) G' ifs t/\PEd (cxC X x scope C s₂ H₂ fp) G' elt f)
  (hs:∀ x,foldedSetIterable iter X.env x=pure x:=by intro _;rfl):PEf X G (.ListComp elt [⟨.Name x px,iter,ifs,0⟩] scope pos) (jQ it t f):=by
 obtain⟨b,h0,hx⟩:=zMt hk hsc hN h;exact zNf ⟨W.calm,W.tb⟩ W.room b (hN ▸ hnd) h0 hx hi hb hs
theorem yR(W:Good X G k)(hnd:N.Nodup)(hk:scope.kind=.function)(hsc:X.env.scope=sc)(hN:X.N=N)(h:zRc sc N x scope=true)(hi:PId X G (.Name x px) iter it)
  (hb:∀(C:Addr)(s₂:Shared)(H₂:Hp)(fp:List Addr)(G':Gx),Good (cxC X x scope C s₂ H₂ fp) G' k->PTs (cxC X x scope C s₂ H₂ fp) G' ifs t/\PEd (cxC X x scope C s₂ H₂ fp) G' elt f)
  (hs:∀ x,foldedSetIterable iter X.env x=pure x:=by intro _;rfl):PCf X G (.ListComp elt [⟨.Name x px,iter,ifs,0⟩] scope pos) (jQ it t f):=by
 obtain⟨b,h0,hx⟩:=zMt hk hsc hN h;exact zNU ⟨W.calm,W.tb⟩ W.room b (hN ▸ hnd) h0 hx hi hb hs
end
section
variable{X:Cx}{G:Gx}{a b:Expr}{pos:Pos}{f:Fv}{g:Ev}
theorem IsDs.rep{K:Fg_}{H:Hp}{xs:List V}{ds:List D}(h:IsDs K H xs ds):∀ n:Nat,IsDs K H (List.replicate n xs).flatten (List.replicate n ds).flatten
 | 0=>.nil
 | n+1=>by
  rw[VA,VA,VN,VN];exact h.append (IsDs.rep h n)
theorem zFh(ha:PEf X G a f)(hb:PEd X G b g):PEf X G (.BinOp a .Mult b pos) (zMQ f g):=PE.wk (zIF zOW ha hb) fun σ H Q q=>by
 obtain⟨ρ,Hi,R,ou⟩:=q;refine⟨ρ,Hi,R,(Out.bind ou).imp fun ds Hi1 H1 e1 o1 l nl=>?_⟩
 refine⟨ρ,Hi1,R.grow e1,(Out.bind o1).imp fun d Hi2 H2 e2 o2 v rv=>?_⟩
 cases d<;>first | exact o2.elim | skip
 rename_i k
 obtain⟨n1,n2,xs,n3,n4⟩:=nl;have o2':Out G Hi2 H2 (if 0<=k/\k<2^62/\ds.length*k.toNat<=16777216 then Res.ok (List.replicate k.toNat ds).flatten else .no) _:=o2;by_cases hz:0<=k/\k<2^62/\ds.length*k.toNat<=16777216
 ·rw[if_pos hz] at o2'
  refine⟨l,k,xs,rfl,rv.intI,e2.h.at n3,by omega,by omega,by rw[n4.length];exact hz.2.2,fun p hp=>?_⟩
  exact o2' _ _ (Ext.newF e2.s hp) p ⟨(e1.h.trans e2.h).none hp,e2.s.none hp,_,aW,(n4.mono e2.i).rep _⟩
 ·rw[if_neg hz] at o2';exact o2'.elim
end
section
variable{es r:List Expr}{a b f:Expr}{k:Nat}{p:Pos}{x:Str}{c:Const}{env:Env}
theorem zKg:starEach (.Tuple es k p::r) env=(false,eval (.Tuple es k p) env)::starEach r env:=rfl
theorem zEq:starEach (.List es p::r) env=(false,eval (.List es p) env)::starEach r env:=rfl
theorem bM{o:Operator}:starEach (.BinOp a o b p::r) env=(false,eval (.BinOp a o b p) env)::starEach r env:=rfl
theorem aZ:starEach (.Subscript a b p::r) env=(false,eval (.Subscript a b p) env)::starEach r env:=rfl
theorem aB:starEach (.Name x p::r) env=(false,eval (.Name x p) env)::starEach r env:=rfl
theorem bP:starEach (.Constant c k p::r) env=(false,eval (.Constant c k p) env)::starEach r env:=rfl
theorem aL{ks:List Keyword}:starEach (.Call f es ks p::r) env=(false,eval (.Call f es ks p) env)::starEach r env:=rfl
end
section
variable{X:Cx}{G:Gx}{e st:Expr}{te tk:TE}{lo hi:Option Expr}{tl th:TO}{pos p2:Pos}{f g:Ev}{l h:Ov}
end
end L3
set_option maxRecDepth 100000
namespace L3
open PySem PySem.Spec PyProof.Rows L2
section
variable{prog:Program}{w:World}{A:Around}{E:Value->Shared->Prop}{s:Shared}
end
theorem zLg:bootBuiltins "reversed" = some (.type "reversed"):=by first | rfl | decide +kernel
section
unseal PEd PEf PTd PWd PAd PSd fH POd PGd jP PId PSx oI PTs PCd PCf
variable{X:Cx}{G:Gx}{fs:Fv}{f:Ev}
end
end L3
namespace L3
open PySem PySem.Spec PyProof.Rows L2
unseal PEd PEf PTd PWd PAd PSd fH POd PGd jP PId PSx oI PTs PCd PCf
section
variable{X:Cx}{G:Gx}
def zSt(K:PySem.W.Frag):List V->Hp->VK->Prop:=fun xs H Q=>∃(a:Addr)(ns:List Int),xs=[.ref a]/\(SqL K H a (ns.map V.int)∨SqT K H a (ns.map V.int))/\Q (.int ns.sum) H
theorem wA(ns:List Int):∀ j,preSum (fun i=>ns.getD i 0) j=(ns.take j).sum
 | 0=>by rw[X4];rfl
 | j+1=>by
  rw[preSum,wA ns j,XR];rw[Qw]
  cases ns[j]? with
  | none=>simp
  | some x=>simp
theorem zH{ns:List Int}{its:List Value}(r:dN (ns.map V.int) its){i:Nat}{v:Value}(h:its[i]?=some v):∃ t,v=.int (ns.getD i 0) t:=by
 have hl:=r.length;rw[Qe] at hl;have hi:=(Qx.mp h).1
 have hx:(ns.map V.int)[i]?=some (.int (ns.getD i 0)):=by
  rw[Qu,Qw,Qp (by omega)];rfl
 obtain⟨u,hu,ru⟩:=r.get hx;rw[h] at hu;cases hu;exact ru
theorem jS(hc:X.calm=true):xN X (.builtin "sum") (zSt X.K):=by
 intro pins s σ H xs us Q I r h;obtain⟨a,ns,rfl,hq,q⟩:=h;obtain⟨u,rfl,ru⟩:=r.one;cases ru;have hh:=I.ok.hd hc;rcases hq with hq | hq
 ·obtain⟨its,rv,p,hz⟩:=I.list hq
  have hlt:a<s.heap.objs.size:=by obtain⟨_,e,_⟩:=p.isList;exact Heap.lt_size e
  have hl:=rv.length;rw[Qe] at hl;refine call_sum_walkG (wpAny_pyIter_list p.isList ?_)
  refine⟨s.heap.objs.size,_,_,_,_,_,fun i=>ns.getD i 0,rfl,Walks.list (A:=X.A.in1) hh s.heap.objs.size a (Qs hlt) its.toArray,⟨⟨_,Heap.get?_push_size _ rfl,rfl,rfl⟩,p.isList.push _⟩,fun b hb=>?_,fun i v hv=>zH rv (by simpa using hv),fun h' tk t' hk=>?_⟩
  ·show b<(s.heap.push _).objs.size
   rw[Heap.size_push];rcases Qc.mp hb with rfl | hb
   ·exact Q6 _
   ·rcases Qc.mp hb with rfl | hb
    ·exact Vw hlt
    ·cases hb
  ·refine⟨.int ns.sum,H,I.kept (t':=tk) fun b o e=>hk b o (fun z=>?_) (Heap.get?_push_of_some _ e),⟨t',?_⟩,q⟩
   ·have z':b=s.heap.objs.size:=by simpa using z
    have l:=Heap.lt_size e;rw[z'] at l;exact Q3 _ l
   ·rw[Ql,<-hl,wA,Vg]
 ·obtain⟨its,rv,p,hz⟩:=I.tuple hq
  have p':s.heap.IsTuple a its.toArray:=p;have hlt:a<s.heap.objs.size:=by obtain⟨_,e,_⟩:=p';exact Heap.lt_size e
  have hl:=rv.length;rw[Qe] at hl;refine call_sum_walkG (wpAny_pyIter_tuple p' ?_)
  refine⟨s.heap.objs.size,_,_,_,_,_,fun i=>ns.getD i 0,rfl,Walks.tuple (A:=X.A.in1) hh s.heap.objs.size a (Qs hlt) its.toArray,⟨⟨_,Heap.get?_push_size _ rfl,rfl,rfl⟩,p'.push _⟩,fun b hb=>?_,fun i v hv=>zH rv (by simpa using hv),fun h' tk t' hk=>?_⟩
  ·show b<(s.heap.push _).objs.size
   rw[Heap.size_push];rcases Qc.mp hb with rfl | hb
   ·exact Q6 _
   ·rcases Qc.mp hb with rfl | hb
    ·exact Vw hlt
    ·cases hb
  ·refine⟨.int ns.sum,H,I.kept (t':=tk) fun b o e=>hk b o (fun z=>?_) (Heap.get?_push_of_some _ e),⟨t',?_⟩,q⟩
   ·have z':b=s.heap.objs.size:=by simpa using z
    have l:=Heap.lt_size e;rw[z'] at l;exact Q3 _ l
   ·rw[Ql,<-hl,wA,Vg]
theorem kQ{K:Fg_}{H:Hp}:∀ {xs:List V} {ds:List D} {ns:List Int},IsDs K H xs ds->oK ds=some ns->xs=ns.map V.int
 | _,_,ns,.nil,h=>by cases h;rfl
 | _,_,ns,.cons (d:=d) (ds:=ds) r rs,h=>by
  cases d with
  | int i=>
   rw[oK] at h
   cases z:oK ds with
   | none=>rw[z] at h;cases h
   | some ms=>
    rw[z] at h;cases h;rw[r.intI,kQ rs z];rfl
  | _=>cases h
theorem sN:zBh X (zSt X.K) zCv:=⟨fun a c z=>(by
  unfold zCv at z;split at z
  ·split at z<;>cases z
  ·split at z<;>cases z
  ·cases z),fun Hi H vs ds d Q s r z q=>by
  unfold zCv at z;split at z
  ·split at z
   ·rename_i ns hns
    cases z;obtain⟨v,rfl,h⟩:=r.one;obtain⟨a,xs,rfl,h1,h2⟩:=h.lstI;have e:=kQ h2 hns;subst e;exact⟨a,ns,rfl,.inl (cE s h1),q _ Hi H (Ext.refl s) (.int _)⟩
   ·cases z
  ·split at z
   ·rename_i ns hns
    cases z;obtain⟨v,rfl,h⟩:=r.one;obtain⟨a,xs,rfl,h1,h2⟩:=h.tupI;have e:=kQ h2 hns;subst e;exact⟨a,ns,rfl,.inr (cC s h1),q _ Hi H (Ext.refl s) (.int _)⟩
   ·cases z
  ·cases z⟩
theorem hJ:bootBuiltins "sum" = some (.builtin "sum"):=by first | rfl | decide +kernel
end
section
variable{prog:Program}{w:World}{A:Around}{E:Value->Shared->Prop}{s:Shared}
end
section
variable{X:Cx}{G:Gx}{es:List Expr}{pos:Pos}
end
theorem ln0{α:Type}{us:List α}(h:us.length=0):us=[]:=X0 h
theorem ln1{α:Type}{us:List α}(h:us.length=1):∃ a0:α,us=[a0]:=by
 cases us with
 | nil=>cases h
 | cons a r=>
  cases ln0 (Xq h)
  exact⟨a,rfl⟩
theorem ln2{α:Type}{us:List α}(h:us.length=2):∃ a0 a1:α,us=[a0,a1]:=by
 cases us with
 | nil=>cases h
 | cons a r=>
  obtain⟨a1,rfl⟩:=ln1 (Xq h);exact⟨a,a1,rfl⟩
theorem ln3{α:Type}{us:List α}(h:us.length=3):∃ a0 a1 a2:α,us=[a0,a1,a2]:=by
 cases us with
 | nil=>cases h
 | cons a r=>
  obtain⟨a1,a2,rfl⟩:=ln2 (Xq h);exact⟨a,a1,a2,rfl⟩
theorem ln4{α:Type}{us:List α}(h:us.length=4):∃ a0 a1 a2 a3:α,us=[a0,a1,a2,a3]:=by
 cases us with
 | nil=>cases h
 | cons a r=>
  obtain⟨a1,a2,a3,rfl⟩:=ln3 (Xq h);exact⟨a,a1,a2,a3,rfl⟩
section
variable{X:Cx}{G:Gx}{a b c e:Expr}{pos p2:Pos}{f g h:Ev}{fs:Fv}{lo hi:Option Expr}{l u:Ov}
end
section
variable{X:Cx}{G:Gx}{a b c e:Expr}{pos p2 p:Pos}{f g h:Ev}{fs:Fv}{x:Str}
theorem zGm{bl:List Stmt}:fH X G bl sNo:=fun pins s σ H E I q=>by
 obtain⟨ρ,Hi,R,ou⟩:=q;exact ou.elim
def zLb(T:List (Str×Str)):List (Str×KTD.Dat):=T.map fun q=>(q.1,.flat (.str q.2))
structure IsTab (K:PySem.W.Frag) (mg:Str->Option Value) (x:Str) (T:List (Str×Str)) (a:Addr):Prop where
 mg:mg x=some (.ref a)
 tab:∀ h:Heap,K.In h->KTD.TextTab h a (zLb T)
theorem zJp(k:Str):∀ T:List (Str×Str),KTD.datumAt k (zLb T)=(T.lookup k).map fun y=>.flat (.str y)
 | []=>rfl
 | (x,y)::r=>by
  show(if decide (k=x)=true then some (KTD.Dat.flat (.str y)) else KTD.datumAt k (zLb r))=_
  rw[Vh];by_cases hx:k=x
  ·rw[if_pos (decide_eq_true hx),show(k==x)=true from beq_iff_eq.mpr hx];rfl
  ·rw[if_neg (by simp[hx]),show(k==x)=false from beq_eq_false_iff_ne.mpr hx];exact zJp k r
theorem zIe(k:Str)(T:List (Str×Str)):KTD.inKeys k (zLb T)=(T.lookup k).isSome:=by
 rw[<-KTD.isSome_datumAt,zJp,Option.isSome_map]
theorem zLx{T:List (Str×Str)}{ad:Addr}(t:IsTab X.K X.mg x T ad)(hg:Gl X x)(hd:(x==("__debug__" : Str))=false:=by decide):PE X (.Name x p) (tC (.ref ad)):=zHc hg t.mg rfl hd
theorem zJd{T:List (Str×Str)}{ad:Addr}(t:IsTab X.K X.mg x T ad):OpR X (compareOp .NotIn) (fun v y H Q=>∃ k,v=.str k/\y=.ref ad/\Q (.bl (!(T.lookup k).isSome)) H):=by
 intro pins s σ H v y u w Q I rx ry h;obtain⟨k,rfl,rfl,q⟩:=h;obtain⟨tk,rfl⟩:=rx;cases ry;refine KTD.notin_text ⟨t.tab s.heap I.kIn,fun _ _ e=>e⟩ ?_
 rw[zIe];exact⟨.bl _,H,I.tok _,rfl,q⟩
theorem zCA{h₀:Heap}{k:Str}{P:Value->Prop}:∀ {T:List (Str×Str)},(∀ z t,T.lookup k=some z->P (.str z t))->KTD.EachL h₀ k P (zLb T)
 | [],_=>trivial
 | [(x,y)],hP=>fun hk t=>hP y t (by rw[Vh,show(k==x)=true from beq_iff_eq.mpr hk])
 | (x,y)::q::r,hP=>by
  show if decide (k=x)=true then KTD.Opened h₀ P (.flat (.str y)) else KTD.EachL h₀ k P (zLb (q::r))
  by_cases hk:k=x
  ·rw[if_pos (decide_eq_true hk)]
   exact fun t=>hP y t (by rw[Vh,show(k==x)=true from beq_iff_eq.mpr hk])
  ·rw[if_neg (by simp[hk])]
   exact zCA fun z t hz=>hP z t (by rw[Vh,show(k==x)=false from beq_eq_false_iff_ne.mpr hk];exact hz)
theorem zJf(T:List (Str×Str)):((zLb T).all fun q=>KTD.plain q.2)=true:=by
 unfold zLb;rw[List.all_map];exact Vq.mpr fun _ _=>rfl
theorem zOX{T:List (Str×Str)}{ad:Addr}(t:IsTab X.K X.mg x T ad):IxR X (fun v y H Q=>∃ k z,v=.ref ad/\y=.str k/\T.lookup k=some z/\Q (.str z) H):=by
 intro value slice pins s σ H v y u w Q I rx ry h hs;obtain⟨k,z,rfl,rfl,hk,q⟩:=h;cases rx;obtain⟨tk,rfl⟩:=ry;refine KTD.item_textA ⟨t.tab s.heap I.kIn,fun _ _ e=>e⟩ (zJf T) (by rw[zIe,hk];rfl) ?_ hs
 refine zCA fun z' t' hz=>?_
 rw[hk] at hz;cases hz;exact⟨.str _,H,I.tok _,⟨_,rfl⟩,q⟩
theorem unT{o:D->Res D}{r:R2}{y:V}(hr:∀ (Hi H:Hp) (v:V) (d:D) (Q:VK),IsD X.K Hi v d->Same Hi H->(∃ d',o d=.ok d'/\(∀ w Hi' H',Ext Hi H Hi' H'->IsD X.K Hi' w d'->Q w H'))->r v y H Q)
  (he:∀ d c,o d≠.err c):∀ σ H Q,tD X G (eUn o f) σ H Q->tOp r (tD X G f) (tC y) σ H Q:=fun σ H Q q=>by
 obtain⟨ρ,Hi,R,ou⟩:=q;refine zDU R ou fun v d Hi1 H1 e1 R1 r1 o1=>?_
 cases z:o d with
 | no=>rw[z] at o1;exact o1.elim
 | err c=>exact absurd z (he d c)
 | ok d'=>rw[z] at o1;exact hr Hi1 H1 v d Q r1 R1.s ⟨d',z,fun w Hi' H' e1 r1=>o1 Hi' H' e1 w r1⟩
theorem zPq{T:List (Str×Str)}{ad:Addr}:∀ σ H Q,tD X G (eUn (qW T) f) σ H Q->tOp (fun v y H Q=>∃ k,v=.str k/\y=.ref ad/\Q (.bl (!(T.lookup k).isSome)) H) (tD X G f) (tC (.ref ad)) σ H Q:=
 unT (fun Hi H v d Q r s h=>by
  obtain⟨d',z,q⟩:=h;unfold qW at z;split at z
  ·cases z;exact⟨_,r.strI,rfl,q _ Hi H (Ext.refl s) (.bl _)⟩
  ·cases z) fun d c z=>by unfold qW at z;split at z<;>cases z
theorem zQH{op:CmpOp}{o:D->Res D}{r:R2}{y:V}(hp:PT X (.Compare a [op] [b] pos) (zPs (tOp r (tD X G f) (tC y))))(hu:∀ σ H Q,tD X G (eUn o f) σ H Q->tOp r (tD X G f) (tC y) σ H Q):PTd X G (.Compare a [op] [b] pos) (dX (eUn o f)):=
 PT.wk hp fun σ H Q q=>by
  obtain⟨ρ,Hi,R,ou⟩:=q;refine hu σ H _ ⟨ρ,Hi,R,ou.bind.imp fun d Hi' H' e o v r=>?_⟩
  cases d with
  | bl c=>rw[r.blI];exact⟨c,rfl,o.here e.s⟩
  | _=>exact o.elim
theorem zKc{T:List (Str×Str)}{ad:Addr}(t:IsTab X.K X.mg x T ad)(hg:Gl X x)(ha:PEd X G a f)(hm:behindInMarks .NotIn (.Name x p)=false)(hd:(x==("__debug__" : Str))=false:=by decide):PTd X G (.Compare a [.NotIn] [.Name x p] pos) (dX (eUn (qW T) f)):=
 zQH (zEc (zJd t) ha (zLx t hg hd) hm) zPq
theorem zMc{T:List (Str×Str)}{ad:Addr}(t:IsTab X.K X.mg x T ad)(hg:Gl X x)(hb:PEd X G b g)(hs:zDa b)(hd:(x==("__debug__" : Str))=false:=by decide):PEd X G (.Subscript (.Name x p) b pos) (eUn (vJ T) g):=
 PE.wk (zGf (zOX t) (zLx t hg hd) hb hs) fun σ H Q q=>by
  obtain⟨ρ,Hi,R,ou⟩:=q;refine zDU R ou fun v d Hi1 H1 e1 R1 r1 o1=>?_
  cases d with
  | str k=>
   have o2:Out G Hi1 H1 (zOP (T.lookup k)) _:=o1
   cases z:T.lookup k with
   | none=>rw[z] at o2;exact o2.elim
   | some y=>rw[z] at o2;exact⟨k,y,rfl,r1.strI,z,o2.here R1.s _ (.str _)⟩
  | _=>exact o1.elim
end
section
variable{prog:Program}{w:World}{A:Around}{R:Result->Shared->Prop}{I:Addr}{fp wr:List Addr}{n:Nat}{P:Nat->Value->Prop}{St:Nat->Heap->Prop}{kw:List (Str×Value)}
def zNF(R:Result->Shared->Prop)(wr:List Addr)(S:Addr)(s:Shared)(P:Value->Prop):Prop:=
 ∀ v h' tk,P v->(∀ b o,b∉wr->b≠S->s.heap.get? b=some o->h'.get? b=some o)->R (.ok (.ret v)) { s with heap:=h',toks:=tk }
def zSc(s:Shared)(S:Addr)(vs:Array Value)(c:Nat):Prop:=s.heap.get? S=some { cls:=.type "list", dict:=none,data:=.seq vs c,slots:=#[] }
theorem zFn:(toString "max" ++ toString ".loop" : String) = "max.loop" := by decide
theorem zMR(W:Walks prog w A.in1 I fp wr n P St)(bt:Nat->Nat->Bool)(hcmp:CmpOf prog w A.in1 .Gt P bt)(S:Addr)(hSf:S∉fp):
  ∀(k j:Nat)(s:Shared)(vb:Value)(c:Nat),n-(j+1)=k->j+1<=n->St (j+1) s.heap->P (argBest bt j) vb->zSc s S #[vb,vb] c->zNF R wr S s (P (argBest bt (n-1)))->
  codeAny (model prog w) A (.builtin "max.loop" ⟨[.ref I,.none,.ref S],kw⟩) R s:=by
 have hSw:S∉wr:=fun h=>hSf (W.sub _ h)
 intro k
 induction k with
 | zero=>
  intro j s vb c hk hj hst hPb hS hR;have hin:j+1=n:=by omega
  refine codeAny_builtin F.entry_max_loop ?_;rw[Around.under_plainId F.plain_max_loop _]
  refine wpAny_bind (wpAny_seqItems hS rfl ?_)
  refine wpAny_bind (m:=tryCatch (pyNext (.ref I)) _) (wpAny_tryCatch (W.done s _ _ (hin ▸ hst) fun h' tk hk'=>?_))
  have hS':=hk' S _ hSw hS;refine wpAny_bind (m:=updateSeq S (fun _=>#[])) (wpAny_updateSeq hS' rfl (wpAny_bind (wpAny_letGo (wpAny_pure ?_))))
  exact hR vb _ tk (by rw[<-hin];exact hPb) fun b o hbw hbS e=>(Heap.get?_update_other _ _ (Ne.symm hbS)).trans (hk' b o hbw e)
 | succ k ih=>
  intro j s vb c hk hj hst hPb hS hR;have hlt:j+1<n:=by omega
  refine codeAny_builtin F.entry_max_loop ?_;rw[Around.under_plainId F.plain_max_loop _]
  refine wpAny_bind (wpAny_seqItems hS rfl ?_)
  refine wpAny_bind (m:=tryCatch (pyNext (.ref I)) _) (wpAny_tryCatch (W.item (j+1) s _ _ hlt hst fun v h' tk hP hst' hk'=>?_))
  have hS':=hk' S _ hSw hS;refine wpAny_bind (m:=tryCatch (holding [v,v] (richCompare .Gt v vb >>= _)) _) (wpAny_tryCatch (wpAny_holding (wpAny_bind (hcmp (j+1) (argBest bt j) v vb _ _ _ hP hPb ?_))))
  refine wpAny_bind (wpAny_holding (wpAny_truthy_bool (wpAny_bind (wpAny_letGo (wpAny_pure ?_)))))
  cases hb:bt (j+1) (argBest bt j) with
  | true=>
   simp only[if_true];refine wpAny_bind ?_;refine wpAny_updateSeq hS' rfl (wpAny_bind (wpAny_letGo ?_));rw[zFn]
   refine wpAny_pure ⟨plainId_quiet F.plain_max_loop _,ih (j+1) _ v _ (by omega) hlt (W.frame _ _ _ hst' fun b hbf o e=>(Heap.get?_update_other _ _ (fun h:S=b=>hSf (by rw[h];exact hbf))).trans e) (by simp only[argBest,hb,if_true];exact hP) (Heap.get?_update_self _ hS' rfl) fun v' h'' tk'' hP' hk''=>?_⟩
   exact hR v' h'' tk'' hP' fun b o hbw hbS e=>hk'' b o hbw hbS ((Heap.get?_update_other _ _ (Ne.symm hbS)).trans (hk' b o hbw e))
  | false=>
   simp only[Vv,if_false];refine wpAny_bind (wpAny_letGo ?_);rw[zFn]
   exact wpAny_pure ⟨plainId_quiet F.plain_max_loop _,ih (j+1) _ vb c (by omega) hlt hst' (by simp only[argBest,hb,Vv,if_false];exact hPb) hS' fun v' h'' tk'' hP' hk''=>hR v' h'' tk'' hP' fun b o hbw hbS e=>hk'' b o hbw hbS (hk' b o hbw e)⟩
theorem zKM(W:Walks prog w A.in1 I fp wr n P St)(bt:Nat->Nat->Bool)(hcmp:CmpOf prog w A.in1 .Gt P bt)(S:Addr)(hSf:S∉fp)(hn:0<n){s:Shared}{c:Nat}(hst:St 0 s.heap)(hS:zSc s S #[] c)(hR:zNF R wr S s (P (argBest bt (n-1)))):
  codeAny (model prog w) A (.builtin "max.loop" ⟨[.ref I,.none,.ref S],kw⟩) R s:=by
 have hSw:S∉wr:=fun h=>hSf (W.sub _ h)
 refine codeAny_builtin F.entry_max_loop ?_;rw[Around.under_plainId F.plain_max_loop _]
 refine wpAny_bind (wpAny_seqItems hS rfl ?_)
 refine wpAny_bind (m:=tryCatch (pyNext (.ref I)) _) (wpAny_tryCatch (W.item 0 s _ _ hn hst fun v h' tk hP hst' hk'=>?_))
 have hS':=hk' S _ hSw hS;refine wpAny_bind (m:=updateSeq S (fun _=>#[v,v])) (wpAny_updateSeq hS' rfl ?_);rw[zFn]
 refine wpAny_pure ⟨plainId_quiet F.plain_max_loop _,zMR W bt hcmp S hSf _ 0 _ v _ rfl hn (W.frame _ _ _ hst' fun b hbf o e=>(Heap.get?_update_other _ _ (fun h:S=b=>hSf (by rw[h];exact hbf))).trans e) hP (Heap.get?_update_self _ hS' rfl) fun v' h'' tk'' hP' hk''=>?_⟩
 exact hR v' h'' tk'' hP' fun b o hbw hbS e=>hk'' b o hbw hbS ((Heap.get?_update_other _ _ (Ne.symm hbS)).trans (hk' b o hbw e))
theorem zOj{x:Str}{d:Value}(W:Walks prog w A.in1 I fp wr 0 P St)(S:Addr)(hSf:S∉fp){s:Shared}{c:Nat}(hst:St 0 s.heap)(hS:zSc s S #[] c)(hR:zNF R wr S s (·=d)):
  codeAny (model prog w) A (.builtin "max.loop" ⟨[.ref I,.none,.ref S],[(x,d)]⟩) R s:=by
 refine codeAny_builtin F.entry_max_loop ?_;rw[Around.under_plainId F.plain_max_loop _]
 refine wpAny_bind (wpAny_seqItems hS rfl ?_)
 refine wpAny_bind (m:=tryCatch (pyNext (.ref I)) _) (wpAny_tryCatch (W.done s _ _ hst fun h' tk hk'=>?_))
 exact wpAny_bind (wpAny_rule (wpAny_pure (hR d h' tk rfl fun b o hbw _ e=>hk' b o hbw e)))
end
section
variable{X:Cx}{G:Gx}{a c:Expr}{pos p kp:Pos}{f g:Ev}
theorem zIE(num:Nat->Int):∀ k,num (argBest (fun i j=>decide (num i > num j)) k)=zP (num 0) ((List.range k).map fun i=>num (i+1))
 | 0=>rfl
 | k+1=>by
  rw[X5,QH]
  have app:∀(l:List Int)(a b:Int),zP a (l++[b])=if b > zP a l then b else zP a l:=by
   intro l
   induction l with
   | nil=>intro a b;rfl
   | cons x r ih=>intro a b;rw[Xi,zP,ih,zP]
  rw[List.map_singleton,app,<-zIE num k];show num (if decide (num (k+1) > num (argBest _ k))=true then k+1 else argBest _ k)=_
  by_cases h:num (k+1) > num (argBest (fun i j=>decide (num i > num j)) k)
  ·rw[if_pos (decide_eq_true h),if_pos h]
  ·rw[if_neg (by simp[h]),if_neg h]
theorem zDL(m:Int)(ns:List Int):(m::ns).getD (argBest (fun i j=>decide ((m::ns).getD i 0 > (m::ns).getD j 0)) ns.length) 0=zP m ns:=by
 rw[zIE (fun i=>(m::ns).getD i 0) ns.length];show zP m _=_
 congr 1
 refine VU fun i=>?_
 rw[Qu];by_cases h:i<ns.length
 ·rw[Vf h,Qp h]
  show some ((m::ns).getD (i+1) 0)=_
  rw[List.getD_cons_succ,Qw,Qp h];rfl
 ·rw[QC (by rw[QA];omega),QC (by omega)];rfl
def zSg(d:Int):List Int->Int
 | []=>d
 | m::r=>zP m r
def zQF(K:PySem.W.Frag):R2:=fun x y H Q=>∃(ad:Addr)(d:Int)(ns:List Int),x=.ref ad/\y=.int d/\SqL K H ad (ns.map V.int)/\Q (.int (zSg d ns)) H
theorem zGX(x v:Value):argsOk "max" ⟨[x],[(Str.ofString "default", v)]⟩:=by unfold argsOk;kernel_rfl
theorem zJw(hc:X.calm=true){pins:List (Addr×Obj)}{s:Shared}{σ:St}{H:Hp}{ad:Addr}{d:Int}{t:Tok}{ns:List Int}{Q:VK}(I:Inv X pins σ H s)(hq:SqL X.K H ad (ns.map V.int))(q:Q (.int (zSg d ns)) H):
  wpAny (model X.prog X.w) X.A (call (.builtin "max") [.ref ad] [(Str.ofString "default", .int d t)]) (EP X pins σ Q) X.xe s:=by
 have hh:=I.ok.hd hc;obtain⟨its,rv,p,hz⟩:=I.list hq;have hlt:ad<s.heap.objs.size:=by obtain⟨_,e,_⟩:=p.isList;exact Heap.lt_size e
 have hl:=rv.length;rw[Qe] at hl;refine kmk_tree F.kind_max F.plain_max F.entry_max (zGX _ _) ?_
 refine wpAny_bind (m:=Builtin.Builtins.bindParams "max" ["key","default"] 0 ⟨[],[(Str.ofString "default", .int d t)]⟩) (wpAny_of_eq (a:=[none,some (.int d t)]) (by first | rfl | kernel_rfl) ?_)
 refine wpAny_bind (wpAny_pure ?_)
 refine wpAny_bind (wpAny_pyIter_list p.isList ?_)
 refine wpAny_bind (wpAny_newObj_type ?_)
 rw[zFn];refine wpAny_pure ⟨plainId_quiet F.plain_max_loop _,?_⟩
 have W:=Walks.list (prog:=X.prog) (w:=X.w) (A:=X.A.in1) hh s.heap.objs.size ad (Qs hlt) its.toArray
 have hSf:(s.heap.push { cls:=.type "list_iterator", data:=.fields #[.ref ad,.int 0 0] }).objs.size∉[s.heap.objs.size,ad]:=by
  rw[Heap.size_push];intro z;rcases Qc.mp z with z | z
  ·exact X6 _ z
  ·exact Q3 _ (Vu (Xr (Qt.mp z)) (Vw hlt))
 have keep:∀ {h':Heap} {b:Addr} {o:Obj},(∀ b o,b∉[s.heap.objs.size]->b≠(s.heap.push { cls:=.type "list_iterator", data:=.fields #[.ref ad,.int 0 0] }).objs.size->((s.heap.push { cls:=.type "list_iterator", data:=.fields #[.ref ad,.int 0 0] }).push { cls:=.type "list", data:=.seq #[] }).get? b=some o->h'.get? b=some o)->s.heap.get? b=some o->h'.get? b=some o:=fun {h' b o} hk e=>by
  have l:=Heap.lt_size e;refine hk b o (fun z=>?_) (fun z=>?_) (Heap.get?_push_of_some _ (Heap.get?_push_of_some _ e))
  ·rw[Qt.mp z] at l;exact Q3 _ l
  ·rw[z,Heap.size_push] at l;exact Q3 _ (Nat.lt_of_succ_lt l)
 have hst:((s.heap.push { cls:=.type "list_iterator", data:=.fields #[.ref ad,.int 0 0] }).push { cls:=.type "list", data:=.seq #[] }).IsListIter s.heap.objs.size ad 0/\((s.heap.push { cls:=.type "list_iterator", data:=.fields #[.ref ad,.int 0 0] }).push { cls:=.type "list", data:=.seq #[] }).IsList ad its.toArray:=
  ⟨⟨_,Heap.get?_push_of_some _ (Heap.get?_push_size _ rfl),rfl,rfl⟩,(p.isList.push _).push _⟩
 cases ns with
 | nil=>
  have e0:its=[]:=X0 (by rw[<-hl];rfl)
  subst e0;exact zOj W _ hSf hst (Heap.get?_push_size _ rfl) fun v h' tk hv hk=>⟨.int d,H,I.kept (t':=tk) fun b o e=>keep hk e,⟨t,hv⟩,q⟩
 | cons m r=>
  refine zKM W (fun i j=>decide ((m::r).getD i 0 > (m::r).getD j 0)) (CmpOf.ints_gt _ fun i v hv=>zH rv (by simpa using hv)) _ hSf (by rw[Ql,<-hl];exact VE _) hst (Heap.get?_push_size _ rfl) fun v h' tk hv hk=>?_
  obtain⟨t',rfl⟩:=zH rv (i:=argBest (fun i j=>decide ((m::r).getD i 0 > (m::r).getD j 0)) (its.toArray.size-1)) (by simpa using hv)
  refine⟨.int (zP m r),H,I.kept (t':=tk) fun b o e=>keep hk e,⟨t',?_⟩,q⟩
  rw[Ql,<-hl,Qm,Nat.add_sub_cancel,zDL]
theorem zMY{ta tb:TE}(hc:X.calm=true)(hg:Gl X "max")(hm:X.mg "max" = none)(ha:PE X a ta)(hb:PE X c tb)(hs:starEach [a] X.env=(false,eval a X.env)::starEach [] X.env:=by rfl):
  PE X (.Call (.Name "max" p) [a] [⟨some "default", c,kp⟩] pos) (tOp (zQF X.K) ta tb):=by
 intro pins s σ H Q I h;refine wpAny_Call_Name_kw (oQ I hg hm boot_max ?_ (by decide) (by decide))
 refine callWith_kw (thn ((lO ha qR hs) pos pins s σ H (fun vs H1=>match vs with | [x]=>tb σ H1 fun y H2=>zQF X.K x y H2 Q | _=>False) I h) fun us s1 ⟨vs,H1,I1,r1,q1⟩=>?_) (by rw[hs];rfl) (by rw[hs];rfl)
 match vs,r1,q1 with
 | [x],r1,q1=>
  obtain⟨u,rfl,ru⟩:=zCW r1;refine kws_cons (thn (hb pins s1 σ H1 _ I1 q1) fun v s2 ⟨y,H2,I2,r2,q2⟩=>kws_nil ?_)
  obtain⟨ad,d,ns,rfl,rfl,hq,q⟩:=q2;cases ru;obtain⟨t,rfl⟩:=r2;exact zJw hc I2 hq q
theorem zNx(hc:X.calm=true)(hg:Gl X "max")(hm:X.mg "max" = none)(ha:PEd X G a f)(hb:PEd X G c g)(hs:starEach [a] X.env=(false,eval a X.env)::starEach [] X.env:=by rfl):
  PEd X G (.Call (.Name "max" p) [a] [⟨some "default", c,kp⟩] pos) (eOp (fun x y=>zDV [x,y]) f g):=PE.wk (zMY hc hg hm ha hb hs) (op2 ⟨fun a b c z=>(by
  replace z:zDV [a,b]=_:=z
  unfold zDV at z;split at z
  ·split at z<;>cases z
  ·cases z),fun Hi H x y a b d Q s r1 r2 z q=>by
  replace z:zDV [a,b]=_:=z
  unfold zDV at z;split at z
  ·rename_i ds d' he
   cases he;obtain⟨ad,xs,rfl,h1,h2⟩:=r1.lstI;split at z
   ·rename_i m ns hns
    cases z;have e:=kQ h2 hns;subst e;exact⟨ad,_,_,rfl,r2.intI,cE s h1,q _ Hi H (Ext.refl s) (.int _)⟩
   ·rename_i hns
    cases z;have e:=kQ h2 hns;subst e;exact⟨ad,_,[],rfl,r2.intI,cE s h1,q _ Hi H (Ext.refl s) (.int _)⟩
   ·cases z
  ·cases z⟩)
end
section
variable{X:Cx}{G:Gx}{e:Expr}{pos:Pos}{f:Ev}
end
end L3
namespace L2
open PySem PySem.Spec PyProof.Rows
section
variable{κ:Type}[DecidableEq κ]
end
abbrev KT(H:Hp):List (List Key×V)->List (List Key×Addr×Value)->Prop:=Paired fun p q=>p.1=q.1/\H q.2.1=some (.tup (p.1.map kV))/\dB p.2 q.2.2
section
variable{P:Program}{w:World}{H:Hp}{h:Heap}{a:Addr}
end
section
variable{X:Cx}{pins:List (Addr×Obj)}{σ:St}{H:Hp}{s:Shared}{a:Addr}{y v:V}{u r:Value}{o:Option V}{A:Around}{E:Value->Shared->Prop}
end
section
variable{X:Cx}{pins:List (Addr×Obj)}{σ:St}{H:Hp}{s:Shared}{a:Addr}{kvs:List (Key×V)}{k:Key}{u:Value}{A:Around}{E:Value->Shared->Prop}
end
section
variable{X:Cx}{o i e value:Expr}{pos pos' tpos:Pos}{td ty tv:TE}
end
section
variable{X:Cx}{pos:Pos}
end
end L2
namespace L3
open PySem PySem.Spec PyProof.Rows L2
unseal PEd PEf PTd PWd PAd PSd fH POd PGd jP PId PSx oI PTs PCd PCf
section
variable{X:Cx}{G:Gx}{a b c e:Expr}{pos p2 p:Pos}{f g h:Ev}{fs:Fv}{x:Str}
end
end L3
namespace L3
open PySem PySem.Spec PyProof.Rows L2
def itN(k:Bool):String:=if k then "list_iterator" else "tuple_iterator"
def zCq(k:Bool)(h:Heap)(it l:Addr)(i:Nat):Prop:=if k then h.IsListIter it l i else h.IsTupleIter it l i
def tJ(k:Bool)(h:Heap)(l:Addr)(xs:Array Value):Prop:=if k then h.IsList l xs else h.IsTuple l xs
theorem zCq.get{k:Bool}{h:Heap}{it l:Addr}{i:Nat}(x:zCq k h it l i):∃ o,h.get? it=some o/\o.cls=.type (itN k)/\o.data=.fields #[.ref l,.int i 0]:=by
 cases k<;>(obtain⟨o,a,b,c⟩:=x;exact⟨o,a,b,c⟩)
theorem zCq.mk{k:Bool}{h:Heap}{it l:Addr}{i:Nat}{o:Obj}(a:h.get? it=some o)(b:o.cls=.type (itN k))(c:o.data=.fields #[.ref l,.int i 0]):zCq k h it l i:=by
 cases k<;>exact⟨o,a,b,c⟩
theorem zCq.go{k:Bool}{h h':Heap}{it l:Addr}{i:Nat}(x:zCq k h it l i)(g:∀ o,h.get? it=some o->h'.get? it=some o):zCq k h' it l i:=by
 obtain⟨o,a,b,c⟩:=x.get;exact .mk (g o a) b c
theorem tJ.go{k:Bool}{h h':Heap}{l:Addr}{xs:Array Value}(x:tJ k h l xs)(g:∀ o,h.get? l=some o->h'.get? l=some o):tJ k h' l xs:=by
 cases k<;>(obtain⟨o,a,b⟩:=x;exact⟨o,g o a,b⟩)
section
variable{prog:Program}{w:World}{A:Around}{E:Value->Shared->Prop}{s:Shared}
theorem zAr{k:Bool}{l:Addr}{xs:Array Value}{Q:Value->Shared->Prop}(hl:tJ k s.heap l xs)(hQ:Q (.ref s.heap.objs.size) { s with heap:=s.heap.push { cls:=.type (itN k),data:=.fields #[.ref l,.int 0 0] } }):
  wpAny (model prog w) A (pyIter (.ref l)) Q E s:=by
 cases k
 ·exact wpAny_pyIter_tuple hl hQ
 ·exact wpAny_pyIter_list hl hQ
theorem nxT{it t:Addr}{i:Nat}{items:Array Value}{Q:Value->Shared->Prop}(hh:A.handled=none∨(items[i]?).isSome=true)(x:s.heap.IsTupleIter it t i)(y:s.heap.IsTuple t items)
  (go:∀ v,items[i]?=some v->∀ h2,h2.IsTupleIter it t (i+1)->Heap.SameBut it s.heap h2->Q v { s with heap:=h2 })
  (stop:items[i]?=none->∀ h2 e,Heap.ExtBut it s.heap h2->(∃ ob,h2.get? e=some ob/\ob.cls=.type "StopIteration")->E (.ref e) { s with heap:=h2 }):wpAny (model prog w) A (Builtin.SmallTypes.nextOf (.ref it)) Q E s:=by
 obtain⟨oi,ei,ci,di⟩:=id x;obtain⟨ot,et,_,nt,dt⟩:=y;have nn:¬ ((Value.ref t==Value.none)=true):=Xc;unfold Builtin.SmallTypes.nextOf;refine wpAny_bind (wpAny_callSpecial?_slot (name:=Str.ofString "__next__") x.typeIs F.slot_tuple_iterator_next (wpAny_call_entry F.slot_tuple_iterator_next x.typeIs F.entry_tuple_iterator_next (show wpAny _ _ (field _ 0 >>= _) _ _ s from wpAny_bind (wpAny_field ei di (x:=.ref t) rfl ?_)) (F.args_tuple_iterator_next_1 _)))
 show wpAny _ _ (ite ((Value.ref t==Value.none)=true) _ _) _ _ s
 rw[if_neg nn];refine show wpAny _ _ (field _ 1 >>= _) _ _ s from wpAny_bind (wpAny_field ei di (x:=.int i 0) rfl (show wpAny _ _ (seqItems? _ >>= _) _ _ s from wpAny_bind (wpAny_seqItems et dt ?_)))
 have fr:∀ g:Array Value->Array Value,Heap.get? (s.heap.update it (Obj.mapFields g)) it=some (Obj.mapFields g oi):=fun g=>Heap.get?_update_self _ ei (Obj.isFreed_of_fields (Obj.data_mapFields di g))
 cases q:items[i]? with
 | some v=>
  simp only[Q4,q];refine wpAny_bind (wpAny_setField ei di (by simp) (wpAny_pure ⟨v,rfl,wpAny_pure (go v q _ ⟨_,fr _,(Obj.cls_mapFields ..).trans ci,?_⟩ (Heap.SameBut.update ..))⟩))
  rw[Obj.data_mapFields di];simp[rawInt]
 | none=>
  have hh:A.handled=none:=hh.elim id fun z=>by rw[q] at z;cases z
  simp only[Q4,q];refine wpAny_bind (wpAny_rule (wpAny_bind (wpAny_setField ei di (by simp) (show wpAny _ _ (newExc _ [] >>= _) _ _ _ from wpAny_bind ?_))))
  simp only[newExc,newTuple];refine wpAny_bind (wpAny_newObj_type (wpAny_bind (m:=firstArgMember _ _) (wpAny_of_eq (a:=Value.none) (by first | rfl | (simp only[firstArgMember];rfl)) (wpAny_newObj_type ?_ (by size_fits)))) (by size_fits))
  simp only[raiseNew];refine wpAny_bind (wpAny_handled ?_)
  rw[show A.in1.handled=none from hh];exact wpAny_bind (wpAny_pure (wpAny_throw (stop q _ _ (((Heap.SameBut.update ..).extBut.push _).push _) ⟨_,Heap.get?_push_size _ rfl,rfl⟩)))
theorem zDj{k:Bool}{it t:Addr}{i:Nat}{items:Array Value}{x:Value}{Q:Value->Shared->Prop}(hit:zCq k s.heap it t i)(ht:tJ k s.heap t items)(hx:items[i]?=some x)
  (hQ:∀ h',zCq k h' it t (i+1)->Heap.SameBut it s.heap h'->Q x { s with heap:=h' }):wpAny (model prog w) A (Builtin.SmallTypes.nextOf (.ref it)) Q E s:=by
 cases k
 ·exact nxT (.inr (by rw[hx];rfl)) hit ht (fun v q h2 g1 g2=>by rw[hx] at q;cases q;exact hQ h2 g1 g2) fun q=>by rw[hx] at q;cases q
 ·exact wpAny_nextOf_list_item hit ht hx hQ
theorem zEU{k:Bool}{it t:Addr}{i:Nat}{items:Array Value}{Q:Value->Shared->Prop}(hh:A.handled=none)(hit:zCq k s.heap it t i)(ht:tJ k s.heap t items)(hx:items[i]?=none)
  (hE:∀ h' e,Heap.ExtBut it s.heap h'->(∃ o,h'.get? e=some o/\o.cls=.type "StopIteration")->E (.ref e) { s with heap:=h' }):wpAny (model prog w) A (Builtin.SmallTypes.nextOf (.ref it)) Q E s:=by
 cases k
 ·exact nxT (.inl hh) hit ht (fun v q=>by rw[hx] at q;cases q) fun _=>hE
 ·exact wpAny_nextOf_list_end hh hit ht hx hE
theorem zQV{k:Bool}(hh:A.handled=none)(it l:Addr)(hne:l≠it)(items:Array Value):Draws prog w A it [it,l] items.size (fun i v=>items[i]?=some v) (fun i h=>zCq k h it l i/\tJ k h l items) where
 live:=fun _ _ st=>let ⟨o,ho,_⟩:=st.1.get;⟨o,ho⟩
 frame:=fun _ _ _ st hk=>⟨st.1.go fun o e=>hk it (by simp) o e,st.2.go fun o e=>hk l (by simp) o e⟩
 item:=fun i s Q E hi st hQ=>by
  refine zDj st.1 st.2 (x:=items[i]) (by simp[hi]) fun h' hit' hs'=>?_
  exact hQ _ h' s.toks (by simp[hi]) ⟨hit',st.2.go fun o e=>hs'.extBut _ o hne e⟩ hs'
 done:=fun s Q E st hE=>zEU hh st.1 st.2 (by simp) hE
def yH(f0:Value)(k1 k2:Bool)(l1 l2 n:Addr)(j1 j2:Nat)(h:Heap):Prop:=
 IsZip h (n+4) (n+2) (n+3) f0/\IsPair h (n+2) (.ref n) (.ref (n+1))/\(∃ a b,IsPair h (n+3) a b)/\zCq k1 h n l1 j1/\zCq k2 h (n+1) l2 j2
def pA(n:Addr)(h h2:Heap):Prop:=∀ c o,c≠n+4->c≠n+3->c≠n->c≠n+1->h.get? c=some o->h2.get? c=some o
theorem pA.then{n:Addr}{h h1 h2:Heap}(a:pA n h h1)(b:pA n h1 h2):pA n h h2:=fun c o c1 c2 c3 c4 e=>b c o c1 c2 c3 c4 (a c o c1 c2 c3 c4 e)
theorem pA.eb{n a:Addr}{h h2:Heap}(k:Heap.ExtBut a h h2)(m:a=n+4∨a=n+3∨a=n∨a=n+1):pA n h h2:=fun c o c1 c2 c3 c4 e=>k c o (fun z=>by subst z;rcases m with m | m | m | m<;>contradiction) e
theorem pA.sq{k:Bool}{n l:Addr}{h h2:Heap}{xs:Array Value}(a:pA n h h2)(hl:l<n)(x:tJ k h l xs):tJ k h2 l xs:=
 x.go fun o e=>a l o (Qs (Nat.lt_add_right 4 hl)) (Qs (Nat.lt_add_right 3 hl)) (Qs hl) (Qs (Vw hl)) e
theorem zKe(n:Addr):n+3≠n+4/\n+2≠n+4/\n≠n+4/\n+1≠n+4/\n+2≠n+3/\n≠n+3/\n+1≠n+3/\n+2≠n/\n+1≠n/\n+2≠n+1:=by
 refine⟨?_,?_,?_,?_,?_,?_,?_,?_,?_,?_⟩<;>(intro z;have z':(_:Nat)=_:=z;omega)
theorem yH.fld{f0:Value}{k1 k2:Bool}{l1 l2 n:Addr}{j1 j2:Nat}{h h2:Heap}(g:yH f0 k1 k2 l1 l2 n j1 j2 h){f1:Value}(z:IsZip h2 (n+4) (n+2) (n+3) f1)(s:Heap.ExtBut (n+4) h h2):yH f1 k1 k2 l1 l2 n j1 j2 h2:=by
 obtain⟨_,g2,⟨a,b,g3⟩,g4,g5⟩:=g;obtain⟨e1,e2,e3,e4,_⟩:=zKe n;exact⟨z,s _ _ e2 g2,⟨a,b,s _ _ e1 g3⟩,g4.go fun o e=>s _ o e3 e,g5.go fun o e=>s _ o e4 e⟩
theorem yH.it1{f0:Value}{k1 k2:Bool}{l1 l2 n:Addr}{j1 j2 m:Nat}{h h2:Heap}(g:yH f0 k1 k2 l1 l2 n j1 j2 h)(z:zCq k1 h2 n l1 m)(s:Heap.ExtBut n h h2):yH f0 k1 k2 l1 l2 n m j2 h2:=by
 obtain⟨g1,g2,⟨a,b,g3⟩,_,g5⟩:=g;obtain⟨e1,e2,e3,e4,e5,e6,e7,e8,e9,_⟩:=zKe n;exact⟨s _ _ e3.symm g1,s _ _ e8 g2,⟨a,b,s _ _ e6.symm g3⟩,z,g5.go fun o e=>s _ o e9 e⟩
theorem yH.it2{f0:Value}{k1 k2:Bool}{l1 l2 n:Addr}{j1 j2 m:Nat}{h h2:Heap}(g:yH f0 k1 k2 l1 l2 n j1 j2 h)(z:zCq k2 h2 (n+1) l2 m)(s:Heap.ExtBut (n+1) h h2):yH f0 k1 k2 l1 l2 n j1 m h2:=by
 obtain⟨g1,g2,⟨a,b,g3⟩,g4,_⟩:=g;obtain⟨e1,e2,e3,e4,e5,e6,e7,e8,e9,e10⟩:=zKe n;exact⟨s _ _ e4.symm g1,s _ _ e10 g2,⟨a,b,s _ _ e7.symm g3⟩,g4.go fun o e=>s _ o e9.symm e,z⟩
theorem yH.out{f0 a b:Value}{k1 k2:Bool}{l1 l2 n:Addr}{j1 j2:Nat}{h h2:Heap}(g:yH f0 k1 k2 l1 l2 n j1 j2 h)(z:IsPair h2 (n+3) a b)(s:Heap.ExtBut (n+3) h h2):yH f0 k1 k2 l1 l2 n j1 j2 h2:=by
 obtain⟨g1,g2,_,g4,g5⟩:=g;obtain⟨e1,e2,e3,e4,e5,e6,e7,_⟩:=zKe n;exact⟨s _ _ e1.symm g1,s _ _ e5 g2,⟨a,b,z⟩,g4.go fun o e=>s _ o e6 e,g5.go fun o e=>s _ o e7 e⟩
theorem zTc{k1 k2:Bool}{n l1 l2:Addr}{j:Nat}{xs ys:Array Value}{Q:PySem.Fin->Shared->Prop}(hh:A.handled=none)(b1:l1<n)(b2:l2<n)(g:yH .none k1 k2 l1 l2 n j j s.heap)(d1:tJ k1 s.heap l1 xs)(d2:tJ k2 s.heap l2 ys)
  (go:∀ x y,xs[j]?=some x->ys[j]?=some y->∀ h2,yH (rawInt s.heap.objs.size) k1 k2 l1 l2 n (j+1) (j+1) h2->IsPair h2 s.heap.objs.size x y->pA n s.heap h2->Q (.done (.ret (.ref s.heap.objs.size))) { s with heap:=h2 })
  (stop:xs[j]?=none∨ys[j]?=none->∀ h2 e,pA n s.heap h2->(∃ o,h2.get? e=some o/\o.cls=.type "StopIteration")->E (.ref e) { s with heap:=h2 }):
  wpAny (model prog w) A (Builtin.«zip.__next__» ⟨[.ref (n+4)],[]⟩) Q E s:=by
 have stopZ:∀ {h1:Heap} {e:Addr} {v:Value} {k:Nat} {R:Unit->Shared->Prop},(xs[j]?=none∨ys[j]?=none)->pA n s.heap h1->IsZip h1 (n+4) (n+2) (n+3) .ellipsis->(∃ o,h1.get? e=some o/\o.cls=.type "StopIteration")->k<5->
   (∀ h3,pA n s.heap h3->(∃ o,h3.get? e=some o/\o.cls=.type "StopIteration")->R () { s with heap:=h3 })->wpAny (model prog w) A (setField (.ref (n+4)) k v) R E { s with heap:=h1 }:=by
  intro h1 e v k R q kz z he hk fin;obtain⟨oe,e1,e2⟩:=he;have nz:e≠n+4:=fun y=>by subst y;rw[z] at e1;cases e1;simp at e2
  exact wpAny_setField_rec z (by simpa using hk) fun h3 _ s3=>fin h3 (kz.then (.eb s3.extBut (.inl rfl))) ⟨oe,s3.extBut _ _ nz e1,e2⟩
 obtain⟨z0,t0,⟨a,b,p0⟩,_⟩:=id g;refine show wpAny _ _ (field _ 2 >>= _) _ _ s from wpAny_bind (wpAny_field z0 rfl (x:=.bool false) rfl (show wpAny _ _ (field _ 3 >>= _) _ _ s from wpAny_bind (wpAny_field z0 rfl (x:=.ref (n+2)) rfl (wpAny_bind (wpAny_seqItems t0 rfl (wpAny_bind ?_))))))
 unfold Builtin.SmallTypes.ownedTupleIsFree;refine wpAny_bind (wpAny_field z0 rfl (x:=.none) rfl (wpAny_pure ?_))
 simp only[if_true];refine wpAny_bind (wpAny_rule (wpAny_bind (wpAny_field z0 rfl (x:=.ref (n+3)) rfl (wpAny_bind (wpAny_setField_rec z0 (by simp) fun h1 z1 s1=>wpAny_bind ?_)))))
 have g1:yH .ellipsis k1 k2 l1 l2 n j j h1:=g.fld z1 s1.extBut;have k1':pA n s.heap h1:=.eb s1.extBut (.inl rfl);simp only[List.zipIdx_cons,List.zipIdx_nil,List.forIn_cons,List.forIn_nil];refine wpAny_bind (wpAny_bind (wpAny_onRaise (show wpAny _ _ (Builtin.SmallTypes.nextOf _ >>= _) _ _ _ from wpAny_bind ?_)))
 cases q1:xs[j]? with
 | none=>
  refine zEU (s:={ s with heap:=h1 }) hh g1.2.2.2.1 (k1'.sq b1 d1) q1 fun h2 e x2 he=>stopZ (.inl q1) (k1'.then (.eb x2 (.inr (.inr (.inl rfl))))) (x2 _ _ (zKe n).2.2.1.symm g1.1) he (by decide) fun h3=>stop (.inl q1) h3 e
 | some x=>
  refine zDj (s:={ s with heap:=h1 }) g1.2.2.2.1 (k1'.sq b1 d1) q1 fun h2 i2 s2=>wpAny_pure ?_
  have g2:=g1.it1 i2 s2.extBut;have k2':=k1'.then (.eb s2.extBut (.inr (.inr (.inl rfl))));have p2:IsPair h2 (n+3) a b:=s2.extBut _ _ (zKe n).2.2.2.2.2.1.symm (s1.extBut _ _ (zKe n).1 p0);refine wpAny_bind (wpAny_seqItems (s:={ s with heap:=h2 }) p2 rfl (wpAny_bind (wpAny_updateSeq_pair p2 fun h3 p3 s3=>wpAny_bind (wpAny_letGo (wpAny_pure ?_)))))
  have g3:=g2.out p3 s3.extBut;have k3':=k2'.then (.eb s3.extBut (.inr (.inl rfl)));refine wpAny_bind (wpAny_bind (wpAny_onRaise (show wpAny _ _ (Builtin.SmallTypes.nextOf _ >>= _) _ _ _ from wpAny_bind ?_)))
  cases q2:ys[j]? with
  | none=>
   refine zEU (s:={ s with heap:=h3 }) hh g3.2.2.2.2 (k3'.sq b2 d2) q2 fun h4 e x4 he=>stopZ (.inr q2) (k3'.then (.eb x4 (.inr (.inr (.inr rfl))))) (x4 _ _ (zKe n).2.2.2.1.symm g3.1) he (by decide) fun h5=>stop (.inr q2) h5 e
  | some y=>
   refine zDj (s:={ s with heap:=h3 }) g3.2.2.2.2 (k3'.sq b2 d2) q2 fun h4 i4 s4=>wpAny_pure ?_
   have g4:=g3.it2 i4 s4.extBut;have p4:IsPair h4 (n+3) x b:=s4.extBut _ _ (zKe n).2.2.2.2.2.2.1.symm p3;refine wpAny_bind (wpAny_seqItems (s:={ s with heap:=h4 }) p4 rfl (wpAny_bind (wpAny_updateSeq_pair p4 fun h5 p5 s5=>wpAny_bind (wpAny_letGo (wpAny_pure (wpAny_pure ?_))))))
   have p5:IsPair h5 (n+3) x y:=p5;have g5:=g4.out p5 s5.extBut;have k5':=(k3'.then (.eb s4.extBut (.inr (.inr (.inr rfl))))).then (.eb s5.extBut (.inr (.inl rfl)));have sz:h5.objs.size=s.heap.objs.size:=s5.1.trans (s4.1.trans (s3.1.trans (s2.1.trans s1.1)));refine wpAny_bind (wpAny_seqItems (s:={ s with heap:=h5 }) p5 rfl (wpAny_bind (wpAny_newTuple (show wpAny _ _ (Builtin.SmallTypes.ownedTupleHandOut _ (.ref h5.objs.size) >>= _) _ _ _ from wpAny_bind ?_))))
   unfold Builtin.SmallTypes.ownedTupleHandOut;refine wpAny_bind (wpAny_setField_rec (Heap.get?_push_of_some _ g5.1) (by simp) fun h7 z7 s7=>wpAny_setField_rec z7 (by simp) fun h8 z8 s8=>wpAny_pure ?_)
   have nz:h5.objs.size≠n+4:=VX (Heap.lt_size g5.1);have x8:Heap.ExtBut (n+4) h5 h8:=fun c o c1 e=>s8.extBut _ _ c1 (s7.extBut _ _ c1 (Heap.get?_push_of_some _ e))
   have g8:yH (rawInt h5.objs.size) k1 k2 l1 l2 n (j+1) (j+1) h8:=g5.fld z8 x8;have t8:IsPair h8 h5.objs.size x y:=s8.extBut _ _ nz (s7.extBut _ _ nz (Heap.get?_push_size _ rfl));rw[sz] at g8 t8;show Q (.done (.ret (.ref h5.objs.size))) _
   rw[sz];exact go x y q1 q2 h8 g8 t8 (k5'.then (.eb x8 (.inl rfl)))
theorem zSk{k1 k2:Bool}{n l1 l2:Addr}{j:Nat}{xs ys:Array Value}{Q:Option Value->Shared->Prop}(hh:A.handled=none)(b1:l1<n)(b2:l2<n)(g:yH .none k1 k2 l1 l2 n j j s.heap)(d1:tJ k1 s.heap l1 xs)(d2:tJ k2 s.heap l2 ys)
  (go:∀ x y,xs[j]?=some x->ys[j]?=some y->∀ h2,yH (rawInt s.heap.objs.size) k1 k2 l1 l2 n (j+1) (j+1) h2->IsPair h2 s.heap.objs.size x y->pA n s.heap h2->Q (some (.ref s.heap.objs.size)) { s with heap:=h2 })
  (stop:xs[j]?=none∨ys[j]?=none->∀ h2,pA n s.heap h2->Q none { s with heap:=h2 }):wpAny (model prog w) A (pyNext (.ref (n+4))) Q E s:=by
 have ty:s.TypeIs (.ref (n+4)) "zip" := ⟨_,g.1,rfl⟩;unfold pyNext
 refine wpAny_bind (wpAny_attempt (wpAny_callSpecial?_slot (name:=Str.ofString "__next__") ty F.slot_zip_next (wpAny_call_entry F.slot_zip_next ty F.entry_zip_next
  (zTc hh b1 b2 g d1 d2 (fun x y q1 q2 h2 a1 a2 a3=>⟨_,rfl,wpAny_pure (go x y q1 q2 h2 a1 a2 a3)⟩) fun q h2 e k he=>?_) (F.args_zip_next_1 _))))
 obtain⟨o,eo,co⟩:=he;exact wpAny_bind (wpAny_isInstance (T := "StopIteration") (b:=true) ⟨o,eo,co⟩ isSubtype_stop (wpAny_pure (stop q h2 k)))
end
abbrev zO(k:Bool)(l:Addr):Obj:={ cls:=.type (itN k),data:=.fields #[.ref l,.int 0 0] }
abbrev zH2(k1 k2:Bool)(h:Heap)(l1 l2:Addr):Heap:=(h.push (zO k1 l1)).push (zO k2 l2)
abbrev zH3(k1 k2:Bool)(h:Heap)(l1 l2:Addr):Heap:=(zH2 k1 k2 h l1 l2).push { cls:=.type "tuple", data:=.seq #[.ref h.objs.size,.ref (h.push (zO k1 l1)).objs.size] }
abbrev zH4(k1 k2:Bool)(h:Heap)(l1 l2:Addr):Heap:=(zH3 k1 k2 h l1 l2).push { cls:=.type "tuple", data:=.seq #[.none,.none] }
abbrev zH5(k1 k2:Bool)(h:Heap)(l1 l2:Addr):Heap:=(zH4 k1 k2 h l1 l2).push { cls:=.type "zip", data:=.fields #[.none,.bool false,.bool false,.ref (zH2 k1 k2 h l1 l2).objs.size,.ref (zH3 k1 k2 h l1 l2).objs.size] }
theorem zKt(k1 k2:Bool)(l1 l2:Addr)(xs ys:Array Value):Meets (Builtin.«zip.__new__» ⟨[.type "zip", .ref l1,.ref l2],[]⟩) (fun _ R s=>tJ k1 s.heap l1 xs/\tJ k2 s.heap l2 ys/\
  R (.ok (.ret (.ref (zH4 k1 k2 s.heap l1 l2).objs.size))) { s with heap:=zH5 k1 k2 s.heap l1 l2 }):=
 .of_wp fun prog w A R s h=>by
  obtain⟨hp,g,d,tk,os⟩:=s;obtain⟨hl1,hl2,h⟩:=h;have hsub:=sub_zip;have d1:tJ k1 (Shared.heap ⟨hp,g,d,tk,os⟩) l1 xs:=hl1;have d2:tJ k2 (Shared.heap ⟨hp.push { cls:=.type (itN k1),data:=.fields #[.ref l1,.int 0 0] },g,d,tk,os⟩) l2 ys:=hl2.go fun o e=>Heap.get?_push_of_some _ e
  wp_walk using zAr d1,zAr d2
  exact⟨_,rfl,h⟩
section
variable{prog:Program}{w:World}{A:Around}{E:Value->Shared->Prop}{s:Shared}
theorem zLj{k1 k2:Bool}{l1 l2:Addr}{xs ys:Array Value}{Q:Value->Shared->Prop}(d1:tJ k1 s.heap l1 xs)(d2:tJ k2 s.heap l2 ys)
  (h:∀ h2,yH .none k1 k2 l1 l2 s.heap.objs.size 0 0 h2->(∀ c o,s.heap.get? c=some o->h2.get? c=some o)->Q (.ref (s.heap.objs.size+4)) { s with heap:=h2 }):wpAny (model prog w) A (call (.type "zip") [.ref l1,.ref l2]) Q E s:=by
 refine callType_new F.called_zip (by decide) (F.typeCall_zip_2 _ _) (F.newCall_zip_2 _ _) (fun obj=>F.args_object_init_3 obj _ _) F.entry_zip_new (zKt k1 k2 l1 l2 xs ys) ⟨d1,d2,?_⟩
 have up:∀ {h:Heap} {a:Addr} {o ob:Obj},h.get? a=some o->(h.push ob).get? a=some o:=fun e=>Heap.get?_push_of_some _ e
 have m1:(s.heap.push (zO k1 l1)).objs.size=s.heap.objs.size+1:=Heap.size_push ..;have m2:(zH2 k1 k2 s.heap l1 l2).objs.size=s.heap.objs.size+2:=(Heap.size_push ..).trans (congrArg (·+1) m1);have m3:(zH3 k1 k2 s.heap l1 l2).objs.size=s.heap.objs.size+3:=(Heap.size_push ..).trans (congrArg (·+1) m2);have m4:(zH4 k1 k2 s.heap l1 l2).objs.size=s.heap.objs.size+4:=(Heap.size_push ..).trans (congrArg (·+1) m3);have r0:(zH5 k1 k2 s.heap l1 l2).get? s.heap.objs.size=some (zO k1 l1):=up (up (up (up (Heap.get?_push_size _ rfl))));have r1:(zH5 k1 k2 s.heap l1 l2).get? (s.heap.push (zO k1 l1)).objs.size=some (zO k2 l2):=up (up (up (Heap.get?_push_size _ rfl)));have r2:(zH5 k1 k2 s.heap l1 l2).get? (zH2 k1 k2 s.heap l1 l2).objs.size=some _:=up (up (Heap.get?_push_size _ rfl));have r3:(zH5 k1 k2 s.heap l1 l2).get? (zH3 k1 k2 s.heap l1 l2).objs.size=some _:=up (Heap.get?_push_size _ rfl);have r4:(zH5 k1 k2 s.heap l1 l2).get? (zH4 k1 k2 s.heap l1 l2).objs.size=some _:=Heap.get?_push_size _ rfl;rw[m1] at r1;rw[m1,m2] at r2;rw[m3] at r3;rw[m2,m3,m4] at r4;show _/\_
 rw[m4];exact⟨⟨_,r4,rfl⟩,h _ ⟨r4,r2,⟨_,_,r3⟩,.mk r0 rfl rfl,.mk r1 rfl rfl⟩ fun c o x=>up (up (up (up (up x))))⟩
end
section
variable{X:Cx}{pins:List (Addr×Obj)}{σ:St}{H:Hp}{s:Shared}{h':Heap}{fp:List Addr}
theorem zGR{t':Nat}{p:Addr}{xs:List V}{us:List Value}(I:Inv X pins σ H s)(hf:∀ b∈fp,sT X pins H b)(k:∀ b o,b∉fp->s.heap.get? b=some o->h'.get? b=some o)
  (hp:s.heap.objs.size<=p) (ht:IsTup h' p us.toArray) (hv:dN xs us) (hz:xs.length<=sizeLine):Inv X pins σ (upd H p (.tup xs)) { s with heap:=h',toks:=t' }:=by
 have hn:H p=none:=I.hok.fresh hp;have nf:∀ b u,H b=some u->b∉fp:=fun b u e z=>by rw[(hf b z).1] at e;cases e
 have np:∀ b u,H b=some u->upd H p (.tup xs) b=some u:=fun b u e=>by rw[aX (bC e hn)];exact e
 refine I.step (g':=s.gens) (d':=s.drawn) (ch:=fp) (fun b hb=>⟨(hf b hb).2.2.2.1,(hf b hb).2.1,(hf b hb).2.2.2.2.1,(hf b hb).2.2.2.2.2⟩) (fun b o _ _ hc e _=>k b o hc e) (fun b o _ _ hc e _=>⟨o.slots,k b o hc e⟩) (fun b o _ e n=>?_)
  (fun b o hc e=>⟨o,k b o hc e⟩) (fun b xs e=>np _ _ e) (fun b o u e=>np _ _ e) (fun b ps e=>⟨#[],by rw[np _ _ e];simp⟩) (fun m hm=>?_) (fun b u e=>?_) I.bare
 ·rw[aX (Qs (Qr (Heap.lt_size e) hp))];exact n
 ·obtain⟨o,es,ep,ho,r⟩:=hm
  exact⟨o,es,ep,k _ o (fun z=>(hf _ z).2.1 rfl) ho,r⟩
 ·by_cases hb:b=p
  ·subst hb
   rw[aW] at e;cases e
   exact⟨hz,us,hv,ht⟩
  ·rw[aX hb] at e
   refine(I.hok b u e).stay (fun c v hc q=>k c v ?_ q) (fun _ q=>np _ _ q) fun _ _ q=>np _ _ q
   rcases hc with z | z
   ·rw[z];exact nf b u e
   ·exact nf c _ z
theorem zJL{t':Nat}(I:Inv X pins σ H s)(hf:∀ b∈fp,sT X pins H b)(k:∀ b o,b∉fp->s.heap.get? b=some o->h'.get? b=some o):Inv X pins σ H { s with heap:=h',toks:=t' }:=by
 have nf:∀ b u,H b=some u->b∉fp:=fun b u e z=>by rw[(hf b z).1] at e;cases e
 refine I.step (g':=s.gens) (d':=s.drawn) (ch:=fp) (fun b hb=>⟨(hf b hb).2.2.2.1,(hf b hb).2.1,(hf b hb).2.2.2.2.1,(hf b hb).2.2.2.2.2⟩) (fun b o _ _ hc e _=>k b o hc e) (fun b o _ _ hc e _=>⟨o.slots,k b o hc e⟩) (fun b o _ e n=>n)
  (fun b o hc e=>⟨o,k b o hc e⟩) (fun b xs e=>e) (fun b o u e=>e) (fun b ps e=>⟨#[],by rw[e];simp⟩) (fun m hm=>?_) (fun b u e=>?_) I.bare
 ·obtain⟨o,es,ep,ho,r⟩:=hm
  exact⟨o,es,ep,k _ o (fun z=>(hf _ z).2.1 rfl) ho,r⟩
 ·refine(I.hok b u e).stay (fun c v hc q=>k c v ?_ q) (fun _ q=>q) fun _ _ q=>q
  rcases hc with z | z
  ·rw[z];exact nf b u e
  ·exact nf c _ z
end
def SqK(k:Bool)(K:PySem.W.Frag)(H:Hp)(a:Addr)(xs:List V):Prop:=if k then SqL K H a xs else SqT K H a xs
theorem pY{k:Bool}{K:Fg_}{H H':Hp}(e:Same H H'){a:Addr}{xs:List V}(h:SqK k K H a xs):SqK k K H' a xs:=by
 cases k
 ·exact cC e h
 ·exact cE e h
section
variable{X:Cx}{pins:List (Addr×Obj)}{σ:St}{H:Hp}{s:Shared}{k:Bool}{a:Addr}{xs ys:List V}
theorem sqI(I:Inv X pins σ H s)(h:SqK k X.K H a xs):∃ its:List Value,dN xs its/\tJ k s.heap a its.toArray/\xs.length<=sizeLine:=by
 cases k
 ·obtain⟨its,rv,p,hz⟩:=I.tuple h
  exact⟨its,rv,p,hz⟩
 ·obtain⟨its,rv,p,hz⟩:=I.list h
  exact⟨its,rv,p.isList,hz⟩
theorem zDf(I:Inv X pins σ H s)(h:SqK k X.K H a xs)(h':SqK k X.K H a ys):xs=ys:=by
 cases k
 ·exact I.tuple_inj h h'
 ·exact I.list_inj h h'
theorem tJ.lt{h:Heap}{l:Addr}{xs:Array Value}(x:tJ k h l xs):l<h.objs.size:=by
 cases k<;>(obtain⟨o,e,_⟩:=x;exact Heap.lt_size e)
end
def Itz(K:PySem.W.Frag)(k1 k2:Bool)(a1 a2:Addr):It:=
  ⟨fun i H=>∃ xs ys x y,SqK k1 K H a1 xs/\SqK k2 K H a2 ys/\xs[i]?=some x/\ys[i]?=some y,
   fun i H v H'=>∃ p x y,v=.ref p/\H p=none/\H'=upd H p (.tup [x,y])/\(∀ xs,SqK k1 K H a1 xs->xs[i]?=some x)/\∀ ys,SqK k2 K H a2 ys->ys[i]?=some y,
   fun i H=>∃ xs ys,SqK k1 K H a1 xs/\SqK k2 K H a2 ys/\(xs.length<=i∨ys.length<=i)⟩
def zSU(k1 k2:Bool)(a1 a2 n:Addr)(i:Nat)(h:Heap):Prop:=yH .none k1 k2 a1 a2 n i i h
theorem pE{h:Heap}{b:Addr}{o:Obj}{d:Data}(e:h.get? b=some o)(hd:o.data=d)(nd:∀ v,d≠.cell v):∃ o,h.get? b=some o/\∀ v,o.data≠.cell v:=⟨o,e,fun v z=>nd v (hd.symm.trans z)⟩
theorem zKk{P:Program}{w:World}{K:Fg_}{elts:List Expr}{x1:Nat}{tp:Pos}(k1 k2:Bool)(a1 a2 n:Addr)(l1:a1<n)(l2:a2<n):
  Turn P w K (.Tuple elts x1 tp) (Itz K k1 k2 a1 a2) [n+4,n+2,n+3,n,n+1] (n+4) (zSU k1 k2 a1 a2 n) where
 mem:=by simp
 obj:=fun i h st b hb=>by
  obtain⟨t1,t2,⟨a,b',t3⟩,t4,t5⟩:=st;obtain⟨o4,e4,_,d4⟩:=t4.get;obtain⟨o5,e5,_,d5⟩:=t5.get;simp only[Qc,Vi,or_false] at hb;rcases hb with rfl | rfl | rfl | rfl | rfl
  ·exact pE t1 rfl fun v z=>by cases z
  ·exact pE t2 rfl fun v z=>by cases z
  ·exact pE t3 rfl fun v z=>by cases z
  ·exact pE e4 d4 fun v z=>by cases z
  ·exact pE e5 d5 fun v z=>by cases z
 keep:=fun i h h' st k=>by
  obtain⟨t1,t2,⟨a,b',t3⟩,t4,t5⟩:=st;exact⟨k _ (by simp) _ t1,k _ (by simp) _ t2,⟨a,b',k _ (by simp) _ t3⟩,t4.go fun o e=>k _ (by simp) o e,t5.go fun o e=>k _ (by simp) o e⟩
 item:=by
  intro X hP hw hK hc i pins s σ H E I hf st hg;subst hP hw hK;obtain⟨xs,ys,x,y,q1,q2,hx,hy⟩:=hg;obtain⟨us,r1,s1,z1⟩:=sqI I q1;obtain⟨ws,r2,s2,z2⟩:=sqI I q2;obtain⟨u,hu,ru⟩:=r1.get hx;obtain⟨v,hv,rv⟩:=r2.get hy;have hu':us.toArray[i]?=some u:=by simpa using hu
  have hv':ws.toArray[i]?=some v:=by simpa using hv
  have st':=st;obtain⟨t1,t2,⟨a,b,t3⟩,t4,t5⟩:=st;refine zSk (I.ok.hd hc) l1 l2 st' s1 s2 (fun x' y' f1 f2 h' g' p' kz=>?_) (fun q=>?_)
  rotate_left
  ·rw[hu',hv'] at q;rcases q with q | q<;>cases q
  rw[hu'] at f1;cases f1
  rw[hv'] at f2;cases f2
  refine⟨_,rfl,wpAny_letOwnedTupleGo_zip (s:={ s with heap:=h' }) g'.1 fun h'' c1 c2=>?_⟩
  have zl:s.heap.objs.size≠n+4:=VX (Heap.lt_size t1);have np:H s.heap.objs.size=none:=I.hok.fresh (Qh _)
  have I1:Inv X pins σ (upd H s.heap.objs.size (.tup [x,y])) { s with heap:=h'',toks:=s.toks }:=zGR (us:=[u,v]) I hf (fun b o hb e=>by
    simp only[Qc,Vi,or_false,not_or] at hb
    exact c2.extBut b o hb.1 (kz b o hb.1 hb.2.2.1 hb.2.2.2.1 hb.2.2.2.2 e)) (Qh _) ⟨_,c2.extBut _ _ zl p',rfl,_,rfl⟩ (.cons ru (.cons rv .nil)) (show 2<=sizeLine by decide)
  refine⟨.ref s.heap.objs.size,_,I1,rfl,⟨_,x,y,rfl,np,rfl,fun zs hz=>by rw[zDf I hz q1];exact hx,fun zs hz=>by rw[zDf I hz q2];exact hy⟩,g'.fld c1 c2.extBut,fun b hb=>?_⟩
  ·obtain⟨o,e,_⟩:∃ o,s.heap.get? b=some o/\True:=by
    obtain⟨o4,e4,_⟩:=t4.get;obtain⟨o5,e5,_⟩:=t5.get;simp only[Qc,Vi,or_false] at hb;rcases hb with rfl | rfl | rfl | rfl | rfl
    ·exact⟨_,t1,trivial⟩
    ·exact⟨_,t2,trivial⟩
    ·exact⟨_,t3,trivial⟩
    ·exact⟨_,e4,trivial⟩
    ·exact⟨_,e5,trivial⟩
   rw[aX (Qs (Heap.lt_size e))];exact(hf b hb).1
 done:=by
  intro X hP hw hK hc i pins s σ H E I hf st hg;subst hP hw hK;obtain⟨xs,ys,q1,q2,hl⟩:=hg;obtain⟨us,r1,s1,z1⟩:=sqI I q1;obtain⟨ws,r2,s2,z2⟩:=sqI I q2;have st':=st;obtain⟨t1,t2,⟨a,b,t3⟩,t4,t5⟩:=st;have e1:=r1.length;have e2:=r2.length;refine zSk (I.ok.hd hc) l1 l2 st' s1 s2 (fun x y f1 f2=>?_) fun _ h' b7=>⟨rfl,zJL (t':=s.toks) I hf fun b o hb e=>?_⟩
  ·have m1:=(Yu.mp f1).1
   have m2:=(Yu.mp f2).1;rw[Ql] at m1 m2;omega
  ·simp only[Qc,Vi,or_false,not_or] at hb
   exact b7 b o hb.1 hb.2.2.1 hb.2.2.2.1 hb.2.2.2.2 e
 self:=fun _ _ _ _ _ st h=>wpAny_pyIter_zip st.1 h
abbrev eO(n:Addr):Obj:={ cls:=.type "enumerate", data:=.fields #[.none,.bool false,.ref n,rawInt 0,.none,.none] }
theorem zGO(k:Bool)(l:Addr)(xs:Array Value):Meets (Builtin.«enumerate.__new__» ⟨[.type "enumerate", .ref l],[]⟩) (fun _ R s=>tJ k s.heap l xs/\
  R (.ok (.ret (.ref (s.heap.push (zO k l)).objs.size))) { s with heap:=(s.heap.push (zO k l)).push (eO s.heap.objs.size) }):=
 .of_wp fun prog w A R s h=>by
  cases s with | mk hp g d tk os=>
  have d1:tJ k (Shared.heap ⟨hp,g,d,tk,os⟩) l xs:=h.1;have fin:=h.2;have hsub:=sub_enumerate;obtain⟨ob,ho⟩:∃ ob,hp.get? l=some ob:=by cases k<;>(obtain⟨o,e,_⟩:=d1;exact⟨o,e⟩)
  clear h;wp_walk using AutoSeq1.wpAny_loadPart' ho
  refine wpAny_stack_any fun st=>wpAny_pure ?_
  split
  ·rename_i c _ _ _ _ _
   cases (c==Value.type "enumerate")<;>(wp_walk using AutoSeq1.wpAny_loadPart' ho,zAr d1;exact⟨_,rfl,fin⟩)
  ·wp_walk using AutoSeq1.wpAny_loadPart' ho,zAr d1
   exact⟨_,rfl,fin⟩
theorem zHI{prog:Program}{w:World}{A:Around}{E:Value->Shared->Prop}{s:Shared}{k:Bool}{l:Addr}{xs:Array Value}{Q:Value->Shared->Prop}(sq:tJ k s.heap l xs)
  (h:∀ h2,IsEnum h2 (s.heap.objs.size+1) s.heap.objs.size 0 .none->zCq k h2 s.heap.objs.size l 0->(∀ c o,s.heap.get? c=some o->h2.get? c=some o)->Q (.ref (s.heap.objs.size+1)) { s with heap:=h2 }):
  wpAny (model prog w) A (call (.type "enumerate") [.ref l]) Q E s:=by
 refine callType_new F.called_enumerate (by decide) (F.typeCall_enumerate_1 _) (F.newCall_enumerate_1 _) (fun obj=>F.args_object_init_2 obj _) F.entry_enumerate_new (zGO k l xs) ⟨sq,?_⟩
 have m1:(s.heap.push (zO k l)).objs.size=s.heap.objs.size+1:=Heap.size_push ..;have r0:((s.heap.push (zO k l)).push (eO s.heap.objs.size)).get? s.heap.objs.size=some (zO k l):=Heap.get?_push_of_some _ (Heap.get?_push_size _ rfl);have r1:((s.heap.push (zO k l)).push (eO s.heap.objs.size)).get? (s.heap.push (zO k l)).objs.size=some (eO s.heap.objs.size):=Heap.get?_push_size _ rfl;show _/\_
 rw[m1] at r1 ⊢
 exact⟨⟨_,r1,rfl⟩,h _ r1 (.mk r0 rfl rfl) fun c o x=>Heap.get?_push_of_some _ (Heap.get?_push_of_some _ x)⟩
def Ite(K:PySem.W.Frag)(k:Bool)(a:Addr):It:=
  ⟨fun i H=>∃ xs x,SqK k K H a xs/\xs[i]?=some x,
   fun i H v H'=>∃ p x,v=.ref p/\H p=none/\H'=upd H p (.tup [.int i,x])/\∀ xs,SqK k K H a xs->xs[i]?=some x,
   fun i H=>∃ xs,SqK k K H a xs/\xs.length<=i⟩
def EnS(k:Bool)(a n:Addr)(i:Nat)(h:Heap):Prop:=(∃ old,IsEnum h (n+1) n i old)/\zCq k h n a i
theorem zHs{P:Program}{w:World}{K:Fg_}{elts:List Expr}{x1:Nat}{tp:Pos}(k:Bool)(a n:Addr)(l1:a<n):
  Turn P w K (.Tuple elts x1 tp) (Ite K k a) [n+1,n] (n+1) (EnS k a n) where
 mem:=by simp
 obj:=fun i h st b hb=>by
  obtain⟨⟨old,t1⟩,t2⟩:=st;obtain⟨o4,e4,_,d4⟩:=t2.get;simp only[Qc,Vi,or_false] at hb;rcases hb with rfl | rfl
  ·exact pE t1 rfl fun v z=>by cases z
  ·exact pE e4 d4 fun v z=>by cases z
 keep:=fun i h h' st k=>by
  obtain⟨⟨old,t1⟩,t2⟩:=st;exact⟨⟨old,k _ (by simp) _ t1⟩,t2.go fun o e=>k _ (by simp) o e⟩
 item:=by
  intro X hP hw hK hc i pins s σ H E I hf st hg;subst hP hw hK;obtain⟨xs,x,q1,hx⟩:=hg;obtain⟨us,r1,s1,z1⟩:=sqI I q1;obtain⟨u,hu,ru⟩:=r1.get hx;obtain⟨⟨old,t1⟩,t2⟩:=st;have hi:i<us.toArray.size:=by simpa using (Qx.mp hu).1
  have en:n+1∉[n,a]:=fun z=>by
   rcases Qc.mp z with z | z
   ·exact X6 n z
   ·exact VX (Vw l1) (Qt.mp z)
  have D:=zQV (prog:=X.prog) (w:=X.w) (A:=X.A.in1) (k:=k) (I.ok.hd hc) n a (Qs l1) us.toArray;refine wpAny_pyNext_enum_itemD D t1 ⟨t2,s1⟩ hi (X6 n) en fun v h' tk b0 b1 b2 b3 _ b7=>⟨_,rfl,wpAny_letOwnedTupleGo_enum (s:={ s with heap:=h',toks:=tk+1 }) b1 fun h'' c1 c2=>?_⟩
  have hv:v=u:=by
   have:us.toArray[i]?=some u:=by simpa using hu
   rw[this] at b0;cases b0;rfl
  subst hv;have zl:s.heap.objs.size≠n+1:=VX (Heap.lt_size t1);have np:H s.heap.objs.size=none:=I.hok.fresh (Qh _)
  have I1:Inv X pins σ (upd H s.heap.objs.size (.tup [.int i,x])) { s with heap:=h'',toks:=tk+1 }:=zGR (us:=[.int i tk,v]) I hf (fun b o hb e=>by
    simp only[Qc,Vi,or_false,not_or] at hb
    exact c2.extBut b o hb.1 (b7 b o hb.1 hb.2 e)) (Qh _) ⟨_,c2.extBut _ _ zl b3,rfl,_,rfl⟩ (.cons ⟨_,rfl⟩ (.cons ru .nil)) (show 2<=sizeLine by decide)
  refine⟨.ref s.heap.objs.size,_,I1,rfl,⟨_,x,rfl,np,rfl,fun zs hz=>by rw[zDf I hz q1];exact hx⟩,⟨⟨v,by simpa using c1⟩,b2.1.go fun o e=>c2.extBut _ o (Qs (Q6 n)) e⟩,fun b hb=>?_⟩
  obtain⟨o,e,_⟩:∃ o,s.heap.get? b=some o/\True:=by
   obtain⟨o4,e4,_⟩:=t2.get;simp only[Qc,Vi,or_false] at hb;rcases hb with rfl | rfl
   ·exact⟨_,t1,trivial⟩
   ·exact⟨_,e4,trivial⟩
  rw[aX (Qs (Heap.lt_size e))];exact(hf b hb).1
 done:=by
  intro X hP hw hK hc i pins s σ H E I hf st hg;subst hP hw hK;obtain⟨xs,q1,hl⟩:=hg;obtain⟨us,r1,s1,z1⟩:=sqI I q1;obtain⟨⟨old,t1⟩,t2⟩:=st;have e1:=r1.length;have hT:s.TypeIs (.ref (n+1)) "enumerate" := ⟨_,t1,rfl⟩;unfold pyNext;refine wpAny_bind (wpAny_attempt (wpAny_callSpecial?_slot (name:=Str.ofString "__next__") hT F.slot_enumerate_next (wpAny_call_entry F.slot_enumerate_next hT F.entry_enumerate_next ?_ (F.args_enumerate_next_1 _))))
  show wpAny _ _ (field (.ref (n+1)) 2 >>= _) _ _ _
  refine wpAny_bind (wpAny_field t1 rfl (x:=.ref n) rfl ?_)
  refine wpAny_bind (zEU (I.ok.hd hc) t2 s1 (by simp;omega) fun h' x he' hx'=>?_)
  obtain⟨o,ho,hc⟩:=hx';refine wpAny_bind (wpAny_isInstance (T := "StopIteration") (b:=true) ⟨o,ho,hc⟩ isSubtype_stop ?_)
  refine wpAny_pure ⟨rfl,zJL (t':=s.toks) I hf fun b o hb e=>?_⟩
  simp only[Qc,Vi,or_false,not_or] at hb;exact he' b o hb.2 e
 self:=fun _ _ _ _ _ st h=>wpAny_pyIter_enum st.1.choose_spec h
section
unseal PEd PEf PTd PWd PAd PSd fH POd PGd jP PId PSx oI PTs PCd PCf
variable{X:Cx}{G:Gx}{fs:Fv}{f:Ev}
def iZp(K:PySem.W.Frag)(ta:TA):TI:=fun σ H R=>ta σ H fun vs H1=>∃ k1 k2 a1 a2 xs ys,vs=[.ref a1,.ref a2]/\SqK k1 K H1 a1 xs/\SqK k2 K H1 a2 ys/\R (Itz K k1 k2 a1 a2) H1
theorem zQI{a b:Expr}{ta:TA}{p pos:Pos}{elts:List Expr}{x1:Nat}{tp:Pos}(hg:Gl X "zip")(hm:X.mg "zip" = none)(ha:PA X [a,b] ta)
  (hs:starEach [a,b] X.env=[(false,eval a X.env),(false,eval b X.env)]:=by rfl) (hs2:starEach [b] X.env=[(false,eval b X.env)]:=by rfl):PI X (.Tuple elts x1 tp) (.Call (.Name "zip" p) [a,b] [] pos) (iZp X.K ta):=by
 intro pins s σ H R I h;refine Call_ (oQ I hg hm boot_zip (VJ (thn (ha pos pins s σ H _ I h) fun us s1 ⟨vs,H1,I1,r1,q1⟩=>?_) (by rw[hs,hs2]) (by rw[hs2];rfl)))
 obtain⟨k1,k2,a1,a2,xs,ys,rfl,h1,h2,q⟩:=q1
 cases r1 with
 | cons r rr=>
  cases rr with
  | cons r' rr=>
   cases rr;cases r;cases r'
   obtain⟨us,rv,p1,z1⟩:=sqI I1 h1;obtain⟨ws,rw_,p2,z2⟩:=sqI I1 h2;refine zLj p1 p2 fun h' b1 b6=>wpAny_pyIter_zip (s:={ s1 with heap:=h' }) b1.1 ?_
   refine⟨s1.heap.objs.size+4,_,_,_,H1,rfl,I1.kept (t':=s1.toks) b6,zKk k1 k2 a1 a2 s1.heap.objs.size p1.lt p2.lt,b1,fun b hb=>?_,q⟩
   have hb':s1.heap.objs.size<=b:=by
    simp only[Qc,Vi,or_false] at hb;rcases hb with rfl | rfl | rfl | rfl | rfl<;>omega
   exact I1.fpOk hb' (I1.hok.fresh hb')
theorem zBV:∀(xs ys:List D)(i:Nat)(d:D),(kO xs ys)[i]?=some d->∃ a b,xs[i]?=some a/\ys[i]?=some b/\d=.tup [a,b]
 | a::r,b::q,0,d,h=>by cases h;exact⟨a,b,rfl,rfl,rfl⟩
 | a::r,b::q,i+1,d,h=>zBV r q i d h
 | [],_,i,d,h=>by cases i<;>cases h
 | a::r,[],i,d,h=>by cases i<;>cases h
theorem zBY:∀(xs ys:List D),(kO xs ys).length=min xs.length ys.length
 | a::r,b::q=>by
  have:=zBY r q
  simp only[kO,Qm,this];omega
 | [],_=>by simp[kO]
 | a::r,[]=>by simp[kO]
theorem zJi{K:Fg_}{Hi:Hp}{k1 k2:Bool}{a1 a2:Addr}{xs ys:List V}{ds es:List D}(h1:SqK k1 K Hi a1 xs)(h2:IsDs K Hi xs ds)(h3:SqK k2 K Hi a2 ys)(h4:IsDs K Hi ys es):
  vG K Hi (Itz K k1 k2 a1 a2) (kO ds es):=fun Hi1 H1 s1 s2 i=>by
 have g1:=pY (s1.trans s2) h1;have g3:=pY (s1.trans s2) h3;refine⟨fun hl=>⟨xs,ys,g1,g3,?_⟩,fun d hd=>?_⟩
 ·rw[zBY] at hl
  have e1:=h2.length;have e2:=h4.length;omega
 ·obtain⟨a,b,ha,hb,rfl⟩:=zBV ds es i d hd
  obtain⟨v,hv,rv⟩:=h2.at ha;obtain⟨w,hw,rw_⟩:=h4.at hb;refine⟨⟨xs,ys,v,w,g1,g3,hv,hw⟩,fun x H2 y=>?_⟩
  obtain⟨p,x',y',rfl,hp,rfl,y1,y2⟩:=y;have e1:=y1 xs g1;have e2:=y2 ys g3;rw[hv] at e1;cases e1
  rw[hw] at e2;cases e2
  have hi:=s2.none hp;have sm:=cX hi (.tup [v,w]);exact⟨upd Hi1 p (.tup [v,w]),Ext.new s2 hp,.tup (.inl (.inl aW)) (.cons ((rv.mono s1).mono sm) (.cons ((rw_.mono s1).mono sm) .nil))⟩
theorem zSl{K:Fg_}{H:Hp}{v:V}{d:D}{ds:List D}(h:IsD K H v d)(e:zJW d=some ds):∃ k a xs,v=.ref a/\SqK k K H a xs/\IsDs K H xs ds:=by
 cases d with
 | lst es=>cases e;obtain⟨a,xs,rfl,h1,h2⟩:=h.lstI;exact⟨true,a,xs,rfl,h1,h2⟩
 | tup es=>cases e;obtain⟨a,xs,rfl,h1,h2⟩:=h.tupI;exact⟨false,a,xs,rfl,h1,h2⟩
 | _=>cases e
theorem zHv{a b:Expr}{p pos:Pos}{elts:List Expr}{x1:Nat}{tp:Pos}(hg:Gl X "zip")(hm:X.mg "zip" = none)(ha:PAd X G [a,b] fs)
  (hs:starEach [a,b] X.env=[(false,eval a X.env),(false,eval b X.env)]:=by rfl) (hs2:starEach [b] X.env=[(false,eval b X.env)]:=by rfl):
  PId X G (.Tuple elts x1 tp) (.Call (.Name "zip" p) [a,b] [] pos) (zMh fs):=PI.wk (zQI hg hm ha hs hs2) fun σ H Q q=>by
 obtain⟨ρ,Hi,R,ou⟩:=q;refine zJQ R ou fun vs ds Hi1 H1 e1 R1 r1 o1=>?_
 split at o1
 ·rename_i x y
  obtain⟨v,w,rfl,h,h'⟩:=r1.two;split at o1
  ·rename_i ds es q1 q2
   obtain⟨k1,a1,xs,rfl,g1,g2⟩:=zSl h q1;obtain⟨k2,a2,ys,rfl,g3,g4⟩:=zSl h' q2;exact⟨k1,k2,a1,a2,xs,ys,rfl,pY R1.s g1,pY R1.s g3,o1.here R1.s _ (zJi g1 g2 g3 g4)⟩
  ·exact o1.elim
 ·exact o1.elim
def iEn(K:PySem.W.Frag)(ta:TA):TI:=fun σ H R=>ta σ H fun vs H1=>∃ k a xs,vs=[.ref a]/\SqK k K H1 a xs/\R (Ite K k a) H1
theorem zMx{a:Expr}{ta:TA}{p pos:Pos}{elts:List Expr}{x1:Nat}{tp:Pos}(hg:Gl X "enumerate")(hm:X.mg "enumerate" = none)(ha:PA X [a] ta)(hs:starEach [a] X.env=[(false,eval a X.env)]:=by rfl):
  PI X (.Tuple elts x1 tp) (.Call (.Name "enumerate" p) [a] [] pos) (iEn X.K ta):=by
 intro pins s σ H R I h;refine Call_ (oQ I hg hm boot_enumerate (VJ (thn (ha pos pins s σ H _ I h) fun us s1 ⟨vs,H1,I1,r1,q1⟩=>?_) hs rfl))
 obtain⟨k,t,xs,rfl,hq,q⟩:=q1
 cases r1 with
 | cons r rr=>
  cases rr;cases r;obtain⟨its,rv,pt,hz⟩:=sqI I1 hq;refine zHI pt fun h' b1 b2 b6=>wpAny_pyIter_enum (s:={ s1 with heap:=h' }) b1 ?_
  refine⟨s1.heap.objs.size+1,_,_,_,H1,rfl,I1.kept (t':=s1.toks) b6,zHs k t s1.heap.objs.size pt.lt,⟨⟨_,b1⟩,b2⟩,fun b hb=>?_,q⟩
  have hb':s1.heap.objs.size<=b:=by
   simp only[Qc,Vi,or_false] at hb;rcases hb with rfl | rfl<;>omega
  exact I1.fpOk hb' (I1.hok.fresh hb')
theorem zBX:∀(xs:List D)(n i:Nat)(d:D),(pK n xs)[i]?=some d->∃ a,xs[i]?=some a/\d=.tup [.int ((n+i:Nat):Int),a]
 | a::r,n,0,d,h=>by cases h;exact⟨a,rfl,rfl⟩
 | a::r,n,i+1,d,h=>by
  obtain⟨b,h1,h2⟩:=zBX r (n+1) i d h;exact⟨b,h1,by rw[h2];congr 4;omega⟩
 | [],n,i,d,h=>by cases i<;>cases h
theorem zBQ:∀(xs:List D)(n:Nat),(pK n xs).length=xs.length
 | a::r,n=>by simp only[pK,Qm,zBQ r (n+1)]
 | [],n=>rfl
theorem yJ{K:Fg_}{Hi:Hp}{k:Bool}{a:Addr}{xs:List V}{ds:List D}(h1:SqK k K Hi a xs)(h2:IsDs K Hi xs ds):vG K Hi (Ite K k a) (pK 0 ds):=fun Hi1 H1 s1 s2 i=>by
 have g1:=pY (s1.trans s2) h1;refine⟨fun hl=>⟨xs,g1,?_⟩,fun d hd=>?_⟩
 ·rw[zBQ] at hl
  rw[h2.length];exact hl
 ·obtain⟨a,ha,rfl⟩:=zBX ds 0 i d hd
  obtain⟨v,hv,rv⟩:=h2.at ha;refine⟨⟨xs,v,g1,hv⟩,fun x H2 y=>?_⟩
  obtain⟨p,x',rfl,hp,rfl,y1⟩:=y;have e1:=y1 xs g1;rw[hv] at e1;cases e1
  have hi:=s2.none hp;rw[Vm];exact⟨upd Hi1 p (.tup [.int i,v]),Ext.new s2 hp,.tup (.inl (.inl aW)) (.cons (.int _) (.cons ((rv.mono s1).mono (cX hi _)) .nil))⟩
theorem zPE{a:Expr}{p pos:Pos}{elts:List Expr}{x1:Nat}{tp:Pos}(hg:Gl X "enumerate")(hm:X.mg "enumerate" = none)(ha:PEd X G a f)(hst:starEach [a] X.env=[(false,eval a X.env)]:=by rfl):
  PId X G (.Tuple elts x1 tp) (.Call (.Name "enumerate" p) [a] [] pos) (zJZ f):=PI.wk (zMx hg hm (lO ha qR (by rw[hst];rfl)) hst) fun σ H Q q=>by
 obtain⟨ρ,Hi,R,ou⟩:=q;refine zDU R ou fun v d Hi1 H1 e1 R1 r1 o1=>?_
 cases d with
 | lst ds=>
  obtain⟨a,xs,rfl,h1,h2⟩:=r1.lstI;exact⟨true,a,xs,rfl,cE R1.s h1,o1.here R1.s _ (yJ (k:=true) h1 h2)⟩
 | tup ds=>
  obtain⟨a,xs,rfl,h1,h2⟩:=r1.tupI;exact⟨false,a,xs,rfl,cC R1.s h1,o1.here R1.s _ (yJ (k:=false) h1 h2)⟩
 | _=>exact o1.elim
end
end L3
namespace L3
open PySem PySem.Spec PyProof.Rows L2
unseal PEd PEf PTd PWd PAd PSd fH POd PGd jP PId PSx oI PTs PCd PCf
structure BlkOk2 (X:Cx) (xs:List Str) (scope:Scope):Prop where
 kind:scope.kind=.function
 cell:∀ y∈scope.names,y.2≠.cell
 loc:∀ x∈xs,scope.names.lookup x=some .local
 names:∀ y∈scope.names,y.2=.local->scope.names.lookup y.1=some .local
 fre:∀ p∈scope.names,p.2=.free->X.env.kindOf p.1=some .cell∨X.env.kindOf p.1=some .free
 oth:∀ y∈X.N,scope.names.lookup y≠some .local
def zCN(X:Cx)(xs:List Str)(scope:Scope)(C:Addr)(s₂:Shared)(H₂:Hp)(fp:List Addr):Cx:=
  { prog:=X.prog,w:=X.w,K:=X.K,mg:=X.mg,base:=X.base,A:=X.A,N:=X.N++xs,s₀:=s₂,H₀:=H₂,env:=compEnvC scope (zDy X.env scope.names []) C X.env,outer:=X.stack,stack:=X.stack,
    ex:=fp,fn:=fun _=>false,calm:=X.calm,pn:=X.pn,xe:=fun _ _=>False }
section
variable{X:Cx}{pins:List (Addr×Obj)}{σ:St}{H:Hp}{s₂:Shared}{xs:List Str}{scope:Scope}{fp:List Addr}{D C:Addr}{h₁:Heap}
theorem BlkOk2.cl(B:BlkOk2 X xs scope)(I:Inv X pins σ H s₂):∀ p∈scope.names,p.2=.free->∃ c,X.env.cells.lookup p.1=some c:=fun p hp e=>I.ok.has p.1 (B.fre p hp e)
theorem zQS(I:Inv X pins σ H s₂)(B:BlkOk2 X xs scope)(hfp:∀ b∈fp,sT X pins H b)(hfl:∀ b∈fp,b<s₂.heap.objs.size)(hD:s₂.heap.objs.size<=D)(hC:s₂.heap.objs.size<=C)(hDC:D≠C)
  (old:∀ b o,s₂.heap.get? b=some o->h₁.get? b=some o) {n:Nat} (hacc:h₁.get? D=some { cls:=.type "list", data:=.seq ([]:List Value).toArray n }) {m:Str->Option Value} (hns:h₁.Ns C m) (t:Nat):
  Inv (zCN X xs scope C s₂ H fp) pins (σ++xs.map fun _=>none) (upd H D (.lst [])) { s₂ with heap:=h₁,toks:=t }:=by
 have sub:=vH scope.names [] (B.cl I) (fun y c e=>nomatch e)
 have old_lt:∀ {b:Addr} {o:Obj},s₂.heap.get? b=some o->b≠D/\b≠C:=fun e=>⟨Qs (Qr (Heap.lt_size e) hD),Qs (Qr (Heap.lt_size e) hC)⟩
 have free:∀ {b:Addr},b≠D->H b=none->upd H D (.lst []) b=none:=fun n e=>by rw[aX n];exact e
 refine⟨⟨I.ok.mod,B.kind,I.ok.glob,I.ok.blt,hC,fun y z c e1 e2=>I.ok.inj y z c (sub y c e1) (sub z c e2),fun y hy=>?_,fun y c e=>(nomatch e),I.ok.hd,I.ok.frames,.inl rfl,fun b hb=>⟨Qs (Qr (hfl b hb) hC),fun y c e=>(hfp b hb).2.2.2.2.1 y c (sub y c e)⟩,
  I.bs,QE I.ok.bsz I.sz,fun b o e hb=>?_,fun b hb z=>?_,I.stack,I.stkFree⟩,rfl,I.bare,Un.laid old hD (I.hok.fresh hD),⟨m,hns,fun i y v e1 e2 e3=>?_⟩,fun y c e=>?_,free (Ne.symm hDC) (I.hok.fresh hC),fun y c e=>?_,fun p hp=>?_,I.hok.laid old hD ⟨QP _,[],n,.nil,hacc⟩,?_⟩
 ·have:∃ k,(k=NameKind.cell∨k=NameKind.free)/\((relabel scope X.env).names).lookup y=some k:=hy.elim (fun h=>⟨_,.inl rfl,h⟩) fun h=>⟨_,.inr rfl,h⟩
  obtain⟨k,hk,e⟩:=this
  have e':(y,NameKind.free)∈scope.names:=by
   rcases cH e with z | ⟨_,z⟩
   ·rcases hk with rfl | rfl
    ·exact absurd rfl (B.cell _ (bW z))
    ·exact bW z
   ·exact bW z
  exact uH scope.names [] y e'
 ·rcases (hfp b hb).2.2.2.1 with z | z
  ·exact I.ok.noex b o e z
  ·exact absurd (Qr (Heap.lt_size e) (QE I.ok.bsz z)) (Q3 _)
 ·rcases Qc.mp (I.stkSub b z) with w | w
  ·exact(hfp b hb).2.1 w
  ·exact(hfp b hb).2.2.1 w
 ·
  have hi:i<σ.length:=by
   by_cases hi:i<σ.length
   ·exact hi
   ·exfalso
    rw[QX (by omega),Qu] at e2
    cases q:xs[i-σ.length]? with
    | none=>rw[q] at e2;cases e2
    | some z=>rw[q] at e2;cases e2
  rw[QN hi] at e2;have e1':(X.N++xs)[i]?=some y:=e1;rw[QN (by rw[<-I.len];exact hi)] at e1'
  cases q:X.N[i]? with
  | none=>rw[q] at e1';cases e1'
  | some z=>
   rw[q] at e1';have hy:z=y:=QL e1';have hz:z∈X.N:=Qj q;subst hy
   have fr:(z,NameKind.free)∈scope.names:=by
    rcases e3 with h | h | h
    ·rcases cH h with h | ⟨h,_⟩
     ·exact absurd h (B.oth z hz)
     ·cases h
    ·rcases cH h with h | ⟨_,h⟩
     ·exact absurd rfl (B.cell _ (bW h))
     ·exact bW h
    ·rcases cH h with h | ⟨h,_⟩
     ·exact bW h
     ·cases h
   have kd:=B.fre _ fr rfl;obtain⟨m0,hn0,hl⟩:=I.loc;obtain⟨u,ru,lk⟩:=hl i z v q e2 (kd.elim (fun h=>.inr (.inl h)) fun h=>.inr (.inr h))
   refine⟨u,ru,.inr ⟨?_,?_⟩⟩
   ·rcases e3 with h | h | h
    ·rcases cH h with h | ⟨h,_⟩
     ·exact absurd h (B.oth z hz)
     ·cases h
    ·exact .inl h
    ·exact .inr h
   ·rcases lk with⟨k1,_⟩ | ⟨_,c,hc,hcell⟩
    ·rcases kd with kd | kd<;>(rw[kd] at k1;cases k1)
    ·obtain⟨c',hc'⟩:=uH (env:=X.env) scope.names [] z fr
     have:=sub z c' hc'
     rw[hc] at this;cases this;obtain⟨o,ho,hd⟩:=hcell;exact⟨c,hc',o,old _ _ ho,hd⟩
 ·obtain⟨v,o,ho,hd⟩:=I.cell y c (sub y c e)
  exact⟨v,o,old _ _ ho,hd⟩
 ·obtain⟨v,o,ho,hd⟩:=I.cell y c (sub y c e)
  exact free (old_lt ho).1 (I.freeC y c (sub y c e))
 ·obtain⟨e,n,ne,nf,d⟩:=I.pin p hp
  refine⟨old _ _ e,free (old_lt e).1 n,(old_lt e).2,fun z=>?_,d⟩
  rcases Qc.mp (I.stkSub _ z) with w | w
  ·exact ne w
  ·exact nf w
 ·show(σ++xs.map fun _=>none).length=(X.N++xs).length
  rw[Qk,Qk,Qe,I.len]
end
theorem zDv{f:Ev}{ρ:Rho}{d:D}{ds es:List D}(h:gF f ρ (d::ds)=.ok es):
  ∃ a b e es',d=.tup [a,b]/\f (ρ++[.val a,.val b])=.ok e/\gF f ρ ds=.ok es'/\es=e::es':=by
 unfold gF at h;split at h
 ·cases ‹_=[]›
 ·rename_i a b ds' q
  cases q
  cases hf:noErr (f (ρ++[.val a,.val b])) with
  | no=>rw[hf] at h;cases h
  | err c=>rw[hf] at h;cases h
  | ok e=>
   rw[hf] at h
   cases hr:gF f ρ ds with
   | no=>simp only[Res.bind,hr] at h;cases h
   | err c=>simp only[Res.bind,hr] at h;cases h
   | ok es'=>
    simp only[Res.bind,hr] at h;cases h;exact⟨a,b,e,es',rfl,zAq hf,rfl,rfl⟩
 ·cases h
theorem zBv{f:Ev}{ρ:Rho}{c:Str}:∀ {ds:List D},gF f ρ ds≠.err c
 | []=>fun h=>by cases h
 | d::ds=>fun h=>by
  unfold gF at h;split at h
  ·cases ‹_=[]›
  ·rename_i a b ds' q
   cases q
   cases hf:noErr (f (ρ++[.val a,.val b])) with
   | no=>rw[hf] at h;cases h
   | err c=>cases q:f (ρ++[.val a,.val b])<;>(rw[q] at hf;cases hf)
   | ok e=>
    rw[hf] at h
    cases hr:gF f ρ ds with
    | no=>simp only[Res.bind,hr] at h;cases h
    | err c'=>exact zBv hr
    | ok es'=>simp only[Res.bind,hr] at h;cases h
  ·cases h
section
variable{X:Cx}{G:Gx}{elt iter:Expr}{xa xb:Str}{pa pb tp pos:Pos}{x1:Nat}{scope:Scope}{it:Fv}{f:Ev}{k:Nat}
theorem zGz(hc:X.calm=true/\TB X.K X.mg G.Bi G.B)(hr:Room k X.A)(Bk:BlkOk2 X [xa,xb] scope)(hN:(X.N++[xa,xb]).Nodup)(hi:PId X G (.Tuple [.Name xa pa,.Name xb pb] x1 tp) iter it)
  (hb:∀(C:Addr)(s₂:Shared)(H₂:Hp)(fp:List Addr)(G':Gx),Good (zCN X [xa,xb] scope C s₂ H₂ fp) G' k->PEd (zCN X [xa,xb] scope C s₂ H₂ fp) G' elt f)
  (hs:∀ x,foldedSetIterable iter X.env x=pure x:=by intro _;rfl)
  {pins:List (Addr×Obj)} {s:Shared} {σ:St} {H Hi:Hp} {ρ:Rho} {use:Option (Value->Sem Unit)} {Q':Value->Shared->Prop} {Qa:Addr->Hp->Prop} {cpos:Pos} (I:Inv X pins σ H s) (R:mO X G Hi H σ ρ)
  (ou:Out G Hi H ((vW it f) ρ) fun ds Hi' H'=>∀ a,zKo X.K H Hi' H' a ds->Qa a H') (hend:zSE X pins σ use Q' Qa):
  wpAny (model X.prog X.w) X.A (comprehension (.ListComp elt [⟨.Tuple [.Name xa pa,.Name xb pb] x1 tp,iter,[],0⟩] scope pos) scope X.env cpos (newList []) false (eval iter X.env) use) Q' X.xe s:=by
 refine wpAny_comprehension_free (use:=use) rfl hs (zLT (Bk.cl I)) Bk.kind Bk.names ?_
 refine thn (hi pins s σ H (fun J H2=>∃ ds Hi2,Ext Hi H Hi2 H2/\vG X.K Hi2 J ds/\Out G Hi2 H2 (if ds.length<=16777215 then gF f ρ ds else .no) fun ds Hi' H'=>∀ a,zKo X.K H Hi' H' a ds->Qa a H') I
  ⟨ρ,Hi,R,(Out.bind ou).imp fun ds Hi2 H2 e2 o2 J gv=>⟨ds,Hi2,e2,gv,o2⟩⟩) fun v s1 h1=>thn h1 fun itv s2 h2=>?_
 obtain⟨itA,fp,tn,J,H2,rfl,I2,T,st2,f2,ds,Hi2,e2,gv,ou2⟩:=h2
 have hlen:ds.length<=16777215:=by
  by_cases hlen:ds.length<=16777215
  ·exact hlen
  ·rw[if_neg hlen] at ou2;exact ou2.elim
 rw[if_pos hlen] at ou2
 cases hes:gF f ρ ds with
 | no=>rw[hes] at ou2;exact ou2.elim
 | err c=>exact absurd hes zBv
 | ok es=>
  rw[hes] at ou2;have R2:mO X G Hi2 H2 σ ρ:=R.grow e2;refine wpAny_newObj_type (wpAny_newFunctionEnv Bk.cell (by intro y hy;simp at hy) (fun h₁ hns₁ hsb₁=>?_) Bk.kind)
  dsimp only at hns₁ hsb₁ ⊢
  generalize hH2:s2.heap.push { cls:=.type "list", dict:=none,data:=.seq ([]:List Value).toArray }=HP at hns₁ hsb₁ ⊢;have hC:HP.objs.size=s2.heap.objs.size+1:=by rw[<-hH2,Heap.size_push]
  have hDC:s2.heap.objs.size≠HP.objs.size:=by rw[hC];omega
  have ltC:∀ {b:Addr} {o:Obj},s2.heap.get? b=some o->b≠HP.objs.size:=fun e=>by rw[hC];exact Qs (Vw (Heap.lt_size e))
  have old:∀ b o,s2.heap.get? b=some o->h₁.get? b=some o:=fun b o e=>hsb₁.extBut b o (ltC e) (Heap.get?_push_of_some _ (hH2 ▸ Heap.get?_push_of_some _ e))
  have hacc:h₁.get? s2.heap.objs.size=some { cls:=.type "list", data:=.seq ([]:List Value).toArray 0 }:=hsb₁.extBut _ _ hDC (Heap.get?_push_of_some _ (hH2 ▸ Heap.get?_push_size _ rfl));have hfl:∀ b∈fp,b<s2.heap.objs.size:=fun b hb=>by obtain⟨o,e,_⟩:=T.obj _ _ st2 b hb;exact Heap.lt_size e
  have IE:=zQS (t:=s2.toks+([]:List (Str×Value)).length) I2 Bk f2 hfl (Qh _) (by rw[hC];omega) hDC old hacc hns₁
  have sub:=vH scope.names [] (Bk.cl I2) (fun y c e=>nomatch e)
  have H2D:H2 s2.heap.objs.size=none:=I2.hok.fresh (Qh _);have HD:H s2.heap.objs.size=none:=e2.h.none H2D;have Hi2D:Hi2 s2.heap.objs.size=none:=e2.s.none H2D;generalize hX:zCN X [xa,xb] scope HP.objs.size s2 H2 fp=Y at IE
  have GY:Good Y ⟨G.B,G.Bi,fun _ _=>False⟩ k:=by
   subst hX;exact⟨hc.1,hr,fun pins σ H s e s' _ h=>by obtain⟨_,_,_,_,_,c,_,z⟩:=h;exact z.elim,PassesOwn.never,hc.2⟩
  have hel:=(hX ▸ hb HP.objs.size s2 H2 fp ⟨G.B,G.Bi,fun _ _=>False⟩ (hX.symm ▸ GY):PEd Y ⟨G.B,G.Bi,fun _ _=>False⟩ elt f)
  have stat:∀ {H':Hp},(∀ b∈fp,H' b=none)->∀ b∈fp,sT Y pins H' b:=fun hn b hb=>by
   subst hX;refine⟨hn b hb,?_,fun z=>?_,.inl hb,fun y c e=>(f2 b hb).2.2.2.2.1 y c (sub y c e),(f2 b hb).2.2.2.2.2⟩
   ·show b≠HP.objs.size
    rw[hC];exact Qs (Vw (hfl b hb))
   ·rcases Qc.mp (I2.stkSub b z) with w | w
    ·exact(f2 b hb).2.1 w
    ·exact(f2 b hb).2.2.1 w
  have YN:Y.N.Nodup:=by subst hX;exact hN
  have Ya:Y.N[σ.length]?=some xa:=by
   subst hX;show(X.N++[xa,xb])[σ.length]?=some xa
   rw[QX (by rw[I2.len];omega),I2.len,V4];rfl
  have Yb:Y.N[σ.length+1]?=some xb:=by
   subst hX;show(X.N++[xa,xb])[σ.length+1]?=some xb
   rw[QX (by rw[I2.len];omega),I2.len,Nat.add_sub_cancel_left];rfl
  have Yla:Y.env.scope.names.lookup xa=some .local:=by subst hX;exact lookup_relabel_local (Bk.loc xa (by simp))
  have Ylb:Y.env.scope.names.lookup xb=some .local:=by subst hX;exact lookup_relabel_local (Bk.loc xb (by simp))
  have asg:PG Y (.Tuple [.Name xa pa,.Name xb pb] x1 tp) (L2.zGH Y.K 2 (L2.mM (L2.gName σ.length) (L2.mM (L2.gName (σ.length+1)) L2.zGF))):=
   zLz (by subst hX;exact hc.1) (zAN (zDY YN Ya (.inl Yla) (.inr Yla)) (zAN (zDY YN Yb (.inl Ylb) (.inr Ylb)) zIc))
  have Ye:Y.env=compEnvC scope (zDy X.env scope.names []) HP.objs.size X.env:=by subst hX;rfl
  have Yxe:∀ e s,¬ Y.xe e s:=by subst hX;exact fun _ _ h=>h
  have tn1:tn 0 h₁:=T.keep _ _ _ st2 fun b _ o e=>old b o e
  have loop:∀ s3:Shared,s3={ s2 with heap:=h₁,toks:=s2.toks+([]:List (Str×Value)).length }->
    codeAny (model X.prog X.w) X.A (.compLoop (.ListComp elt [⟨.Tuple [.Name xa pa,.Name xb pb] x1 tp,iter,[],0⟩] scope pos) 0 (.ref itA) (.ref s2.heap.objs.size) Y.env) (compPost (model X.prog X.w) X.A X.xe use Q' (.ref s2.heap.objs.size) HP.objs.size) s3:=by
   rintro s3 rfl
   subst hX
   have fr0:∀ b∈fp,upd H2 s2.heap.objs.size (.lst []) b=none:=fun b hb=>by
    rw[aX (Qs (hfl b hb))];exact(f2 b hb).1
   refine PyProof.Rows.LCp.codeAny_compLoop_pair (fun n s'=>∃ c:CW,n=ds.length-c.i/\CS (zCN X [xa,xb] scope HP.objs.size s2 H2 fp) pins σ tn fp Hi2 H2 s2.heap.objs.size 2 (fun i=>gF f ρ (ds.drop i)) es c s') ?_ ds.length
    ⟨⟨0,[none,none],_,Hi2,[],[],es⟩,rfl,⟨IE,rfl,tn1,fr0,(Ext.refl e2.s).trans (Ext.newF e2.s H2D),aW,Hi2D,.nil,Qh _,hes,rfl⟩⟩
   ·rintro n s3 ⟨⟨i,vv,H3,Hi3,ys,done,rest⟩,rfl,I3,wd3,st3,fr3,e3,hD3,hiD3,rd3,hl3,hr3,hes3⟩
    dsimp only at I3 wd3 st3 fr3 e3 hD3 hiD3 rd3 hl3 hr3 hes3 ⊢
    obtain⟨v,v',rfl⟩:∃ v v',vv=[v,v']:=by
     match vv,wd3 with
     | [v,v'],_=>exact⟨v,v',rfl⟩
    obtain⟨w1,w2⟩:=gv Hi3 H3 e3.i e3.s i;have lift:∀ {α:Type} {m:Sem α} {Q':α->Shared->Prop} {E:Value->Shared->Prop} {s':Shared},wpAny (model X.prog X.w) X.A m Q' (zCN X [xa,xb] scope HP.objs.size s2 H2 fp).xe s'->wpAny (model X.prog X.w) X.A m Q' E s':=fun h=>wpAny_mono h (fun _ _ z=>z) fun e s z=>(Yxe e s z).elim
    by_cases hlt:i<ds.length
    ·obtain⟨d,hd⟩:∃ d,ds[i]?=some d:=⟨_,Qp hlt⟩
     obtain⟨go,yl⟩:=w2 d hd
     have e4:ds.drop i=d::ds.drop (i+1):=by
      rw[Qp hlt] at hd;cases hd;exact X2 hlt
     rw[e4] at hr3;refine thn (T.item (zCN X [xa,xb] scope HP.objs.size s2 H2 fp) rfl rfl rfl hc.1 i pins s3 _ H3 _ I3 (stat fr3) st3 go) fun r s4 ⟨u,hru,h4⟩=>?_
     subst hru;refine thn h4 fun _ s5 h5=>?_
     obtain⟨xv,H5,I5,r5,y5,st5,fr5⟩:=h5;obtain⟨Hi5,e5,rd5⟩:=yl xv H5 y5;have I5':=I5.pinned (stat fr5) (T.obj _ _ st5);obtain⟨a,b,e,es',rfl,hf,hr4,hee⟩:=zDv hr3;obtain⟨pa',ps,rfl,hq,hps⟩:=rd5.tupI;obtain⟨va,vb,rfl,ra,rb⟩:=hps.two;refine lift (thn (asg _ s5 _ H5 _ u (fun σ' H'=>σ'=σ++[some va,some vb]/\H'=H5) I5' r5 ⟨pa',_,rfl,cC (e3.trans e5).s hq,rfl,va,_,rfl,vb,_,rfl,rfl,?_,rfl⟩) fun _ s6 h6=>?_)
     ·rw[X3 _ _ (Qh _),V4,X3 _ _ (Nat.le_succ _),Nat.succ_sub (Qh _),V4];rfl
     obtain⟨σ6,H6,I6,rfl,rfl⟩:=h6;have E5:Ext Hi2 H2 Hi5 H6:=e3.trans e5
     have R5:mO (zCN X [xa,xb] scope HP.objs.size s2 H2 fp) ⟨G.B,G.Bi,fun _ _=>False⟩ Hi5 H6 (σ++[some va,some vb]) (ρ++[.val a,.val b]):=by
      have:=Rel.snoc (Rel.snoc (R2.grow E5) ra) rb
      rw[Vd,Vd] at this;exact this
     obtain⟨hD5,hiD5⟩:=e5.out hD3 hiD3;have rd5':=rd3.mono e5.i
     have again:∀ {H8 Hi8:Hp} {ys':List V} {done' rest':List D} {s8:Shared},Inv (zCN X [xa,xb] scope HP.objs.size s2 H2 fp) (pins++vZ fp s5.heap) (σ++[some va,some vb]) H8 s8->Ext Hi2 H2 Hi8 H8->H8 s2.heap.objs.size=some (.lst ys')->Hi8 s2.heap.objs.size=none->IsDs X.K Hi8 ys' done'->done'.length<=i+1->
       gF f ρ (ds.drop (i+1))=.ok rest'->es=done'++rest'->∃ m,m<ds.length-i/\∃ c:CW,m=ds.length-c.i/\CS (zCN X [xa,xb] scope HP.objs.size s2 H2 fp) pins σ tn fp Hi2 H2 s2.heap.objs.size 2 (fun i=>gF f ρ (ds.drop i)) es c s8:=fun {H8 Hi8 ys' done' rest' s8} I8 E8 a1 a2 a3 a4 a5 a6=>by
      refine⟨ds.length-(i+1),by omega,⟨i+1,[some va,some vb],H8,Hi8,ys',done',rest'⟩,rfl,⟨I8.unpinned,rfl,T.keep _ _ _ st5 fun b hb o e=>(I8.pin (b,o) (Qy _ (Qy _ (fM hb e)))).1,fun b hb=>?_,E8,a1,a2,a3,a4,a5,a6⟩⟩
      obtain⟨o,e,_⟩:=T.obj _ _ st5 b hb;exact(I8.pin (b,o) (Qy _ (Qy _ (fM hb e)))).2.1
     refine lift (thn (hel _ s6 _ H6 (fun w H'=>∃ Hi',Ext Hi5 H6 Hi' H'/\IsD X.K Hi' w e) I6 ⟨_,Hi5,R5,by rw[hf];exact fun Hi' H' ee w hw=>⟨Hi',ee,hw⟩⟩) fun u8 s8 h8=>?_)
     obtain⟨w8,H8,I8,r8,Hi8,e8,rw8⟩:=h8;obtain⟨hD8,hiD8⟩:=e8.out hD5 hiD5;have rdy:IsDs X.K Hi8 ys done:=rd5'.mono e8.i;refine lift (thn (uK (X:=(zCN X [xa,xb] scope HP.objs.size s2 H2 fp)) _ s8 _ H8 (.ref s2.heap.objs.size) [w8] (.ref s2.heap.objs.size) [u8] (fun _ H'=>H'=upd H8 s2.heap.objs.size (.lst (ys++[w8]))) I8 rfl (.cons r8 .nil) ⟨_,ys,w8,rfl,rfl,hD8,?_,rfl⟩) fun _ s9 h9=>?_)
     ·rw[rdy.length]
      exact Vu hl3 (Qr hlt (QE hlen (by decide)))
     ·obtain⟨_,H9,I9,_,rfl⟩:=h9
      refine again I9 (Ext.rewrite (E5.trans e8) H2D hiD8 ⟨_,hD8⟩) aW hiD8 (rdy.snoc rw8) (by rw[Qk];exact XS hl3) hr4 ?_
      rw[hes3,hee,Vd];rfl
    ·rw[Xf (by omega),gF] at hr3
     cases hr3;refine thn (T.done (zCN X [xa,xb] scope HP.objs.size s2 H2 fp) rfl rfl rfl hc.1 i pins s3 _ H3 _ I3 (stat fr3) st3 (w1 (by omega))) fun r s4 ⟨hrn,I4⟩=>?_
     subst hrn;obtain⟨m4,hn4,_⟩:=I4.loc;have fC:H3 HP.objs.size=none:=I4.free;have nC:∀ b u,H3 b=some u->b≠HP.objs.size:=fun b u e z=>by rw[z,fC] at e;cases e
     have U4:=I4.base;refine hend HP.objs.size s2.heap.objs.size m4 s4 H3 hn4 (fun h' hs'=>?_) (I2.fpOk (by rw[hC];omega) fC) ?_
     ·have kp:∀ b o,b≠HP.objs.size->s4.heap.get? b=some o->h'.get? b=some o:=fun b o hb e=>hs'.extBut b o hb e
      refine Inv.call' I2 (ch:=fp) I4.os ⟨fun b o e n hb hx=>kp b o (ltC e) (U4.keep b o e n hb hx),fun b o e n hb hx=>?_,U4.free,fun b o e hx=>?_,U4.tups,U4.frzs,U4.tbls⟩ (fun b u e=>?_) I4.bare (fun b hb=>⟨(f2 b hb).2.2.2.1,(f2 b hb).2.1,(f2 b hb).2.2.2.2.1,(f2 b hb).2.2.2.2.2⟩)
      ·obtain⟨sl,q⟩:=U4.slot b o e n hb hx
       exact⟨sl,kp b _ (ltC e) q⟩
      ·obtain⟨o',q⟩:=U4.there b o e hx
       exact⟨o',kp b _ (ltC e) q⟩
      ·refine(I4.hok b u e).stay (fun c v hc q=>kp c v ?_ q) (fun _ q=>q) fun _ _ q=>q
       rcases hc with z | z
       ·rw[z];exact nC b u e
       ·exact nC c _ z
     ·refine ou2 Hi3 H3 e3 _ ⟨HD,hiD3,ys,hD3,?_⟩
      rw[hes3,QW];exact rd3
  rw[Ye] at loop;exact codeAny_compStart_list (loop _ rfl) (T.self _ 0 _ _ _ tn1 (loop _ rfl))
theorem zLo(hc:X.calm=true/\TB X.K X.mg G.Bi G.B)(hr:Room k X.A)(Bk:BlkOk2 X [xa,xb] scope)(hN:(X.N++[xa,xb]).Nodup)(hi:PId X G (.Tuple [.Name xa pa,.Name xb pb] x1 tp) iter it)
  (hb:∀(C:Addr)(s₂:Shared)(H₂:Hp)(fp:List Addr)(G':Gx),Good (zCN X [xa,xb] scope C s₂ H₂ fp) G' k->PEd (zCN X [xa,xb] scope C s₂ H₂ fp) G' elt f)
  (hs:∀ x,foldedSetIterable iter X.env x=pure x:=by intro _;rfl):PEf X G (.ListComp elt [⟨.Tuple [.Name xa pa,.Name xb pb] x1 tp,iter,[],0⟩] scope pos) (vW it f):=by
 intro pins s σ H Q I w;obtain⟨ρ,Hi,R,ou⟩:=w;rw[eval_ListComp];refine zGz hc hr Bk hN hi hb hs (use:=none) (Qa:=fun a H'=>Q (.ref a) H') I R ou fun C A m s4 H3 hn hI _ q=>?_
 exact⟨m,hn,fun h' hs'=>⟨.ref A,H3,hI h' hs',rfl,q⟩⟩
def zOk(sc:Scope)(N:List Str)(xs:List Str)(scope:Scope):Bool:=
 scope.names.all (fun y=>y.2 != .cell) && xs.all (fun x=>scope.names.lookup x==some .local) && scope.names.all (fun y=>y.2 != .local || scope.names.lookup y.1==some .local)
  && scope.names.all (fun p=>p.2 != .free || (sc.names.lookup p.1==some .cell || sc.names.lookup p.1==some .free)) && N.all (fun y=>scope.names.lookup y != some .local)
theorem zNa{sc:Scope}{N xs:List Str}(hk:scope.kind=.function)(hsc:X.env.scope=sc)(hN:X.N=N)(h:zOk sc N xs scope=true):BlkOk2 X xs scope:=by
 unfold zOk at h;simp only[Ve] at h;obtain⟨⟨⟨⟨h1,h2⟩,h3⟩,h4⟩,h5⟩:=h;subst hN hsc;refine⟨hk,fun y hy e=>?_,fun x hx=>?_,fun y hy e=>?_,fun p hp e=>?_,fun y hy e=>?_⟩
 ·have:=Vq.mp h1 y hy
  rw[e] at this;cases this
 ·exact beq_iff_eq.mp (Vq.mp h2 x hx)
 ·have:=Vq.mp h3 y hy
  rw[e] at this;simpa using this
 ·have:=Vq.mp h4 p hp
  rw[e] at this;have q:X.env.scope.names.lookup p.1=some .cell∨X.env.scope.names.lookup p.1=some .free:=by simpa using this
  exact q
 ·have:=Vq.mp h5 y hy
  rw[e] at this;cases this
theorem uQ{sc:Scope}{N:List Str}(W:Good X G k)(hnd:(N++[xa,xb]).Nodup)(hk:scope.kind=.function)(hsc:X.env.scope=sc)(hN:X.N=N)(h:zOk sc N [xa,xb] scope=true)(hi:PId X G (.Tuple [.Name xa pa,.Name xb pb] x1 tp) iter it)
  (hb:∀(C:Addr)(s₂:Shared)(H₂:Hp)(fp:List Addr)(G':Gx),Good (zCN X [xa,xb] scope C s₂ H₂ fp) G' k->PEd (zCN X [xa,xb] scope C s₂ H₂ fp) G' elt f)
  (hs:∀ x,foldedSetIterable iter X.env x=pure x:=by intro _;rfl):PEf X G (.ListComp elt [⟨.Tuple [.Name xa pa,.Name xb pb] x1 tp,iter,[],0⟩] scope pos) (vW it f):=
 zLo ⟨W.calm,W.tb⟩ W.room (zNa hk hsc hN h) (hN ▸ hnd) hi hb hs
end
end L3
namespace L3
open PySem PySem.Spec PyProof.Rows L2
section
variable{prog:Program}{w:World}{A:Around}{E:Value->Shared->Prop}{s:Shared}
end
section
variable{X:Cx}{G:Gx}{fs:Fv}{f:Ev}
unseal PEd PEf PTd PWd PAd PSd fH POd PGd jP PId PSx oI PTs PCd PCf
end
end L3
namespace L3
open PySem PySem.Spec PyProof.Rows L2
unseal PEd PEf PTd PWd PAd PSd fH POd PGd jP PId PSx oI PTs PCd PCf
section
variable{X:Cx}{G:Gx}{f:Ev}{pos:Pos}
section
variable{o:Expr}{k:Nat}{b:Bool}{p1 p2 p3:Pos}
end
section
variable{i fo:Nat}{x y:Str}{ea eb ec ct o0 o1:Expr}{body rest:List Stmt}{a b:Fv}{cmp:Tv}{sr:Sv}{p1 p2 p3 p4 p5 p6 p7 p8 p9 p10 p11 p12 p13 p14 p15 p16:Pos}{k5 k0 k1:Nat}
end
section
variable{i j1 j2 j3:Nat}{x:Str}{tg ec c1 c2 c3 esl ev o:Expr}{b2 b3:List Stmt}{t1 t2 t3:Tv}{sl:Fv}{g:Ev}{p1 p2 p3 p4 p5 p6 p7 p8 p9:Pos}
end
end
section
variable{prog:Program}{w:World}{A:Around}{E:Value->Shared->Prop}{s:Shared}
theorem zR{r:Addr}{a b c:Int}{t u v:Tok}{n:Nat}{R:List Value->Shared->Prop}(hh:A.handled=none)(hr:IsRange s.heap r a b c t u v)(hsmall:Builtin.Range.small a b c=true)(hn:Builtin.Range.rangeSize a b c=n)(hlen:n<=2^24)
  (h:∀ h' tk acc,(∀ b o,s.heap.get? b=some o->h'.get? b=some o)->s.heap.objs.size<=h'.objs.size->ItemsOf (fun i v=>∃ t,v=.int (a+i*c) t) acc n->R acc.toList { s with heap:=h',toks:=tk }):
  wpAny (model prog w) A (collect (.ref r)) R E s:=by
 unfold collect;refine wpAny_bind (wpAny_runValue (codeAny_builtin entry_proto_collect' ?_))
 rw[Around.under_plainId PySem.F.plain_proto_collect _];show wpAny _ A.in1 (newList [] >>= fun l=>again (.builtin "list.__iadd__" ⟨[l,.ref r],[]⟩)) _ _ s
 refine wpAny_bind (wpAny_newObj_type ?_)
 refine wpAny_pure ⟨plainId_quiet Yv _,codeAny_builtin entry_list_iadd' ?_⟩
 rw[Around.under_plainId Yv _];have hS₁:(s.heap.push { cls:=.type "list", data:=.seq ([]:List Value).toArray }).get? s.heap.objs.size=some { cls:=.type "list", data:=.seq #[] }:=Heap.get?_push_size _ rfl;show wpAny _ A.in1 (Builtin.List.listExtendWith (.ref s.heap.objs.size) (.ref r) (.ref s.heap.objs.size)) _ _ _
 have key:=wpAny_extend_range (prog:=prog) (w:=w) (A:=A) (s:={ s with heap:=s.heap.push { cls:=.type "list", data:=.seq ([]:List Value).toArray } })
  (R:=fun(q:Result) (s':Shared)=>∃(h':Heap)(tk:Nat)(acc':Array Value)(c':Nat),q=.ok (.ret (.ref s.heap.objs.size))/\s'={ s with heap:=h',toks:=tk }/\
   (∀ b o,s.heap.get? b=some o->h'.get? b=some o)/\h'.get? s.heap.objs.size=some { cls:=.type "list", dict:=none,data:=.seq acc' c',slots:=#[] }/\ItemsOf (fun i v=>∃ t,v=.int (a+i*c) t) acc' n)
  hh (Heap.get?_push_of_some _ hr) hsmall hn hlen s.heap.objs.size (.ref s.heap.objs.size) 0 hS₁
  (fun h' tk acc' c' hk hS' hacc=>⟨h',tk,acc',c',rfl,rfl,fun b o e=>hk b o (Qs (Heap.lt_size e)) (Heap.get?_push_of_some _ e),hS',hacc⟩)
 refine wpAny_mono key (fun fin s' x=>?_) fun e s' x=>?_
 ·cases fin with
  | done f=>
   obtain⟨h',tk,acc',c',e,rfl,hk,hS',hacc⟩:=x;cases e;show wpAny _ A (load s.heap.objs.size >>= _) _ _ _
   refine wpAny_bind (wpAny_load hS' ?_)
   exact wpAny_pure (h h' tk acc' hk (Vr (Heap.lt_size hS')) hacc)
  | again c₁=>
   refine⟨x.1,codeAny_mono x.2 fun q s₂ y=>?_⟩
   obtain⟨h',tk,acc',c',rfl,rfl,hk,hS',hacc⟩:=y;show wpAny _ A (load s.heap.objs.size >>= _) _ _ _
   refine wpAny_bind (wpAny_load hS' ?_)
   exact wpAny_pure (h h' tk acc' hk (Vr (Heap.lt_size hS')) hacc)
 ·obtain⟨_,_,_,_,e',_⟩:=x
  cases e'
end
section
variable{X:Cx}{pins:List (Addr×Obj)}{σ:St}{H:Hp}{s:Shared}{A:Around}{E:Value->Shared->Prop}{a kS:Addr}{vs:List Value}{kz:List Int}{keys:Array Value}{e e1:Nat}{P:PySem.Fin->Shared->Prop}
theorem qN{h':Heap}{tk:Nat}(f:sT X pins H a)(I:Inv X pins σ H s)(sb:Heap.SameBut a s.heap h'):Inv X pins σ H { s with heap:=h',toks:=tk }:=by
 obtain⟨f0,f1,f2,f3,f4,f5⟩:=f;exact I.turned (fun b o hb e=>(sb.2 b hb).trans e) f0 f1 f3 f4 f5
theorem zJB{st:SortSt}(I:Inv X pins σ H s)(fa:sT X pins H a)(fk:sT X pins H kS)(hka:kS≠a)(nk:s.heap.get? kS=some (seqObj "list" keys e))(na:s.heap.get? a=some (seqObj "list" #[] e1))
  (hk:IntsAre keys.toList kz) (hlen:kz.length=vs.length) (h64:vs.length<64) (hp:(arrOf st).Perm (keys.zip vs.toArray)) (hs:SortedTo (arrOf st) (arrOf st).size) (hfl:failedOf st=none)
  (h:∀ s' out c,Inv X pins σ H s'->s'.heap.get? a=some (seqObj "list" out c)->KskOut false kz vs out.toList->P (.done (.ret .none)) s'):
  wpAny (model X.prog X.w) A (ksk_tail a false e1 (.ref kS) st) P E s:=by
 have hsz:keys.size=vs.length:=by
  have h1:=hk.length;rw[VW] at h1;omega
 have hsz2:(arrOf st).size=vs.length:=by rw[hp.size_eq,Array.size_zip,hsz,Ql,Xp]
 have hout:((arrOf st).map (·.2)).size=vs.length:=by rw[Array.size_map];exact hsz2
 have s1:=Heap.SameBut.update s.heap kS (Obj.mapSeq fun _=>(#[]:Array Value))
 have na1:(s.heap.update kS (Obj.mapSeq fun _=>(#[]:Array Value))).get? a=some (seqObj "list" #[] e1):=(s1.2 a hka.symm).trans na
 have s2:=Heap.SameBut.update (s.heap.update kS (Obj.mapSeq fun _=>(#[]:Array Value))) a (Obj.mapSeq fun _=>(arrOf st).map (·.2))
 obtain⟨c2,hc2⟩:∃ c2,((s.heap.update kS (Obj.mapSeq fun _=>(#[]:Array Value))).update a (Obj.mapSeq fun _=>(arrOf st).map (·.2))).get? a=some (seqObj "list" ((arrOf st).map (·.2)) c2):=
  ⟨_,get?_update_seq na1 fun _=>(arrOf st).map (·.2)⟩
 unfold ksk_tail;try dsimp only
 refine wpAny_bind (listUpdate_at nk rfl ?_ (by rw[hsz,sizeLine_eq];omega) (QP _))
 refine wpAny_bind (wpAny_letGo ?_)
 refine wpAny_bind (seqEpoch_at na1 rfl ?_)
 refine wpAny_bind (listUpdate_at na1 rfl ?_ (QP _) (by simp only[Vv,if_false];exact QE (Xr hout) (by rw[sizeLine_eq];omega)))
 rw[hfl];simp only[bne_self_eq_false,Vv,if_false];have I1:Inv X pins σ H { s with heap:=s.heap.update kS (Obj.mapSeq fun _=>(#[]:Array Value)) }:=qN fk (tk:=s.toks) I s1
 have I2:Inv X pins σ H { s with heap:=(s.heap.update kS (Obj.mapSeq fun _=>(#[]:Array Value))).update a (Obj.mapSeq fun _=>(arrOf st).map (·.2)) }:=(by have z:=qN (tk:=s.toks) fa I1 s2;exact z)
 exact wpAny_pure (h _ _ c2 I2 hc2 (ksk_out (b:=false) hk hp hs))
theorem zQz(I:Inv X pins σ H s)(fa:sT X pins H a)(fk:sT X pins H kS)(hka:kS≠a)(nk:s.heap.get? kS=some (seqObj "list" keys e))(na:s.heap.get? a=some (seqObj "list" #[] e1))
  (hk:IntsAre keys.toList kz) (hlen:kz.length=vs.length) (h64:vs.length<64)
  (h:∀ s' out c,Inv X pins σ H s'->s'.heap.get? a=some (seqObj "list" out c)->KskOut false kz vs out.toList->P (.done (.ret .none)) s'):
  wpAny (model X.prog X.w) A (ksk_end a false vs.toArray e1 (.ref kS) keys) P E s:=by
 have hsz:keys.size=vs.length:=by
  have h1:=hk.length;rw[VW] at h1;omega
 have hzs:(keys.zip vs.toArray).size=vs.length:=by rw[Array.size_zip,hsz,Ql,Xp]
 unfold ksk_end;try dsimp only
 simp only[Vv,if_false];by_cases h2:vs.toArray.size<2
 ·rw[if_pos h2,if_pos h2]
  refine wpAny_bind (wpAny_pure ?_)
  rw[StateT.run_pure];refine wpAny_bind (wpAny_pure ?_)
  try dsimp only
  refine zJB (st:=SortSt.mk' general' (keys.zip vs.toArray) #[] 7 none) I fa fk hka nk na hk hlen h64 (Array.Perm.refl _) ?_ rfl h
  intro i j hij hj;have hj2:j<(keys.zip vs.toArray).size:=hj;rw[hzs] at hj2;rw[Ql] at h2;have:i=j:=by omega
  subst this;exact V5 _
 ·rw[if_neg h2,if_neg h2]
  rw[Ql] at h2;rw[ksk_kind hk (by rw[hsz];omega)];refine wpAny_bind (wpAny_pure ?_)
  refine wpAny_bind (wpAny_mono (wpS_sortRuns (a₀:=keys.zip vs.toArray) (st:=SortSt.mk' oneType' (keys.zip vs.toArray) #[] 7 none)
   (Q:=fun _ st'=>(arrOf st').Perm (keys.zip vs.toArray)/\failedOf st'=none/\SortedTo (arrOf st') (keys.zip vs.toArray).size)
   (ksk_intKeys hk) ⟨Array.Perm.refl _,rfl,rfl,rfl⟩ (by rw[hzs];omega) (by rw[hzs];exact h64) fun st' a1 a2 a3=>⟨a1,a2,a3⟩) ?_ fun _ _ e=>e)
  rintro⟨⟨⟩,st'⟩ s' ⟨rfl,hp,hf,hs⟩
  try dsimp only
  exact zJB I fa fk hka nk na hk hlen h64 hp (by rw[hp.size_eq];exact hs) hf h
theorem zOB{f:Value}{e0:Nat}(I:Inv X pins σ H s)(fa:sT X pins H a)(fk:sT X pins H kS)(hka:kS≠a)(nk:s.heap.get? kS=some (seqObj "list" #[] e0))(na:s.heap.get? a=some (seqObj "list" #[] e1))
  (hlen:kz.length=vs.length) (h64:vs.length<64)
  (turn:∀(i:Nat)(v:Value)(k:Int),vs[i]?=some v->kz[i]?=some k->∀(s':Shared)(pl:List (Addr×Obj)),Inv X (pins++pl) σ H s'->
   wpAny (model X.prog X.w) A (call f [v]) (fun u s''=>(∃ t,u=.int k t)/\Inv X (pins++pl) σ H s'') (fun _ _=>False) s')
  (h:∀ s' out c,Inv X pins σ H s'->s'.heap.get? a=some (seqObj "list" out c)->KskOut false kz vs out.toList->P (.done (.ret .none)) s'):
  wpAny (model X.prog X.w) A (ksk_rest a f false vs.toArray e1 (.ref kS)) P E s:=by
 unfold ksk_rest;refine wpAny_bind (wpAny_rule ?_)
 first
  | rw[List.forIn_toArray]
  | (rw[<-Array.forIn_toList];simp only[Yw])
  | rw[<-Array.forIn_toList]
 refine wpAny_bind (ksk_fold (fun i s'=>∃ kA e,Inv X pins σ H s'/\s'.heap.get? kS=some (seqObj "list" kA e)/\s'.heap.get? a=some (seqObj "list" #[] e1)/\IntsAre kA.toList (kz.take i)) vs 0 s
  ⟨#[],e0,I,nk,na,by simpa using IntsAre.nil⟩ ?step ?done)
 case step=>
  rintro j x s' hx ⟨kA,e,I',nk',na',hk⟩
  simp only[Vm] at hk ⊢
  have hj:j<vs.length:=(Qx.mp hx).1;obtain⟨k,hkj⟩:∃ k,kz[j]?=some k:=⟨_,Qp (by omega)⟩
  have hz:kA.size<=vs.length:=by
   have h1:=hk.length;rw[VW,Vk] at h1;omega
  have pin:∀ b∈[kS,a],∃ o,s'.heap.get? b=some o/\∀ v,o.data≠.cell v:=fun b hb=>by
   rcases Qc.mp hb with rfl | hb
   ·exact⟨_,nk',fun v z=>by have z':Data.seq _ _=Data.cell v:=z;cases z'⟩
   ·rw[Qt.mp hb];exact⟨_,na',fun v z=>by have z':Data.seq _ _=Data.cell v:=z;cases z'⟩
  have Ip:Inv X (pins++vZ [kS,a] s'.heap) σ H s':=I'.pinned (fun b hb=>by
   rcases Qc.mp hb with rfl | hb
   ·exact fk
   ·rw[Qt.mp hb];exact fa) pin
  refine wpAny_bind (wpAny_attempt (wpAny_mono (turn j x k hx hkj s' _ Ip) (fun v s'' he=>?_) fun _ _ hF=>hF.elim))
  obtain⟨⟨t2,rfl⟩,I2p⟩:=he;try dsimp only
  have nk2:s''.heap.get? kS=some (seqObj "list" kA e):=(I2p.pin _ (Qy _ (Qy _ (fM (b:=kS) (by simp) nk')))).1
  have na2:s''.heap.get? a=some (seqObj "list" #[] e1):=(I2p.pin _ (Qy _ (Qy _ (fM (b:=a) (by simp) na')))).1
  have I2:Inv X pins σ H s'':=I2p.unpinned;have s1:=Heap.SameBut.update s''.heap kS (Obj.mapSeq (·.push (.int k t2)));obtain⟨c2,hc2⟩:∃ c2,(s''.heap.update kS (Obj.mapSeq (·.push (.int k t2)))).get? kS=some (seqObj "list" (kA.push (.int k t2)) c2):=⟨_,get?_update_seq nk2 (·.push (.int k t2))⟩;have ek:kz.take (j+1)=kz.take j++[k]:=by rw[List.take_add_one,hkj];simp
  have ea:(kA.push (Value.int k t2)).toList=kA.toList++[Value.int k t2]:=by simp
  refine wpAny_bind (listUpdate_at nk2 rfl ?_ (by rw[sizeLine_eq];omega) (QE (Xr (Array.size_push ..)) (by rw[sizeLine_eq];omega)))
  exact wpAny_pure ⟨rfl,kA.push (.int k t2),c2,qN fk (tk:=s''.toks) I2 s1,hc2,(s1.2 a hka.symm).trans na2,by rw[ea,ek];exact ksk_snoc hk⟩
 case done=>
  rintro s' ⟨kA,e,I',nk',na',hk⟩
  have hk':IntsAre kA.toList kz:=by
   have e3:kz.take (0+vs.length)=kz:=V0 (by omega)
   rw[e3] at hk;exact hk
  try dsimp only
  refine wpAny_bind (listItems_at nk' rfl ?_)
  exact zQz I' fa fk hka nk' na' hk' hlen h64 h
def vK(v:Value):Nat:=(numOf v).toNat
theorem zNH{out:List Value}(hlen:kz.length=vs.length)(hv:∀ (j:Nat) (v:Value),vs[j]?=some v->∃ t,v=.int j t)(h:KskOut false kz vs out):iA kz (out.map vK)/\dN ((out.map vK).map fun i:Nat=>V.int (i:Int)) out:=by
 obtain⟨ps,hp,ho,hs⟩:=h
 have at':∀ p,p∈kz.zip vs->∃(j:Nat)(t:Tok),p.2=.int j t/\kz[j]?=some p.1:=fun p hm=>by
  obtain⟨j,hj,e⟩:=List.mem_iff_getElem.mp hm;rw[X7] at hj;rw[List.getElem_zip] at e;obtain⟨t,ht⟩:=hv j (vs[j]'(by omega)) (Qp _)
  refine⟨j,t,by rw[<-e];exact ht,by rw[<-e];exact Qp _⟩
 have n1:∀(j:Nat)(t:Tok),vK (.int j t)=j:=fun j t=>by unfold vK;show(Int.toNat (j:Int))=j;rfl
 have hvs:vs.map vK=List.range kz.length:=by
  refine VU fun j=>?_
  rw[Qu];by_cases hj:j<vs.length
  ·obtain⟨t,ht⟩:=hv j _ (Qp hj)
   rw[Qp hj,ht,Vf (by omega)];show some (vK _)=_
   rw[n1]
  ·rw[QC (by omega),QC (by rw[QA];omega)];rfl
 subst ho;refine⟨⟨?_,?_⟩,?_⟩
 ·have h1:((ps.map Prod.snd).map vK).Perm (((kz.zip vs).map Prod.snd).map vK):=(hp.map _).map _
  rw[List.map_snd_zip (by omega),hvs] at h1;exact h1
 ·rw[Qv,VC]
  refine V3 (fun {p q} hm hq hr=>?_) hs
  have hr':p.1<=q.1:=by simpa using hr
  obtain⟨i,t,e1,e2⟩:=at' p (hp.mem_iff.mp hm);obtain⟨j,u,e3,e4⟩:=at' q (hp.mem_iff.mp hq);show kz.getD (vK p.2) 0<=kz.getD (vK q.2) 0
  rw[e1,e3,n1,n1,Qw,Qw,e2,e4];exact hr'
 ·have go:∀ l:List Value,(∀ v∈l,∃(j:Nat)(t:Tok),v=.int j t)->dN ((l.map vK).map fun i:Nat=>V.int (i:Int)) l:=by
   intro l
   induction l with
   | nil=>intro _;exact .nil
   | cons v r ih=>
    intro hl;obtain⟨j,t,rfl⟩:=hl v (.head _);exact .cons ⟨t,by rw[n1]⟩ (ih fun u hu=>hl u (.tail _ hu))
  refine go _ fun v hv'=>?_
  obtain⟨p,hm,rfl⟩:=Qn.mp hv';obtain⟨j,t,e1,_⟩:=at' p (hp.mem_iff.mp hm);exact⟨j,t,e1⟩
theorem zGY{r q:Addr}{n:Nat}{t u v:Tok}{Q:Value->Shared->Prop}(hc:X.calm=true)(I:Inv X pins σ H s)(hr:IsRange s.heap r 0 n 1 t u v)(h64:n<64)(hkz:kz.length=n)
  (turn:∀(j:Nat)(tk:Tok)(k:Int),kz[j]?=some k->∀(s':Shared)(pl:List (Addr×Obj)),Inv X (pins++pl) σ H s'->
   wpAny (model X.prog X.w) X.A.in1.in1 (call (.ref q) [.int j tk]) (fun u s''=>(∃ t,u=.int k t)/\Inv X (pins++pl) σ H s'') (fun _ _=>False) s')
  (h:∀ D s' out c π,Inv X pins σ H s'->sT X pins H D->s.heap.objs.size<=D->s'.heap.get? D=some (seqObj "list" out c)->iA kz π->dN (π.map fun i:Nat=>V.int (i:Int)) out.toList->Q (.ref D) s'):
  wpAny (model X.prog X.w) X.A (call (.builtin "sorted") [.ref r] [(Str.ofString "key", .ref q)]) Q E s:=by
 refine call_function_entry_kw kind_sorted plain_sorted entry_sorted (ksk_s1 _ _) ?_
 unfold Builtin.«sorted»
 refine wpAny_bind (m:=checkCount "sorted" 1 1 _) (wpAny_pure ?_)
 refine wpAny_bind (zR (n:=n) (A:=X.A.in1) (I.ok.hd hc) hr (small_one (by omega) (by omega) (by omega) (by omega)) (by rw[rangeSize_one];split<;>omega) (by omega) fun h1 tk acc hk hsz hacc=>?_)
 have hl:acc.toList.length=n:=by rw[VW];exact hacc.1
 refine wpAny_bind (wpAny_newList ?_ (by rw[hl,sizeLine_eq];omega))
 have I1:Inv X pins σ H { s with heap:=h1,toks:=tk }:=I.kept hk;have fa:sT X pins H h1.objs.size:=I1.fpOk (Qh _) (I1.hok.fresh (Qh _));have I2:Inv X pins σ H { s with heap:=h1.push (seqObj "list" acc.toList.toArray 0),toks:=tk }:=I1.kept (t':=tk) fun b o e=>Heap.get?_push_of_some _ e
 have hoL:(h1.push (seqObj "list" acc.toList.toArray 0)).get? h1.objs.size=some (seqObj "list" acc.toList.toArray 0):=Heap.get?_push_size _ rfl;show wpAny _ _ _ _ _ { s with heap:=h1.push (seqObj "list" acc.toList.toArray 0),toks:=tk }
 refine wpAny_bind (wpAny_holding (wpAny_call_entry_kw slot_list_sort ⟨_,hoL,rfl⟩ entry_list_sort ?body (ksk_l1 _ _)))
 case body=>
  show wpAny (model X.prog X.w) X.A.in1.in1 (Builtin.«list.sort» ⟨[.ref h1.objs.size],[(Str.ofString "key", .ref q)]⟩) _ _ _
  rw[ksk_t1];have s3:=Heap.SameBut.update (h1.push (seqObj "list" acc.toList.toArray 0)) h1.objs.size (Obj.mapSeq fun _=>(#[]:Array Value))
  obtain⟨e1,ho1⟩:∃ e1,((h1.push (seqObj "list" acc.toList.toArray 0)).update h1.objs.size (Obj.mapSeq fun _=>(#[]:Array Value))).get? h1.objs.size=some (seqObj "list" #[] e1):=⟨_,get?_update_seq hoL fun _=>#[]⟩
  have I3:Inv X pins σ H { s with heap:=(h1.push (seqObj "list" acc.toList.toArray 0)).update h1.objs.size (Obj.mapSeq fun _=>(#[]:Array Value)),toks:=tk }:=(by have z:=qN (tk:=tk) fa I2 s3;exact z)
  generalize hg3:(h1.push (seqObj "list" acc.toList.toArray 0)).update h1.objs.size (Obj.mapSeq fun _=>(#[]:Array Value))=h3 at s3 ho1 I3
  unfold ksk_tree;refine wpAny_bind (listItems_at hoL rfl ?_)
  refine wpAny_bind (listUpdate_at hoL rfl ?_ (by rw[Ql,sizeLine_eq];omega) (QP _))
  show wpAny _ _ _ _ _ { s with heap:=(h1.push (seqObj "list" acc.toList.toArray 0)).update h1.objs.size (Obj.mapSeq fun _=>(#[]:Array Value)),toks:=tk }
  rw[hg3];refine wpAny_bind (seqEpoch_at ho1 rfl ?_)
  refine wpAny_bind (wpAny_newTuple ?_ (by show acc.toList.toArray.toList.length<=_;rw[sizeLine_eq,Yw];omega))
  refine wpAny_bind (wpAny_newList ?_ (QP _))
  refine wpAny_holding ?_
  have I4:Inv X pins σ H { s with heap:=h3.push (seqObj "tuple" acc.toList.toArray 0),toks:=tk }:=I3.kept (t':=tk) fun b o e=>Heap.get?_push_of_some _ e
  have fk:sT X pins H (h3.push (seqObj "tuple" acc.toList.toArray 0)).objs.size:=I4.fpOk (Qh _) (I4.hok.fresh (Qh _));have I5:Inv X pins σ H { s with heap:=(h3.push (seqObj "tuple" acc.toList.toArray 0)).push (seqObj "list" #[] 0),toks:=tk }:=I4.kept (t':=tk) fun b o e=>Heap.get?_push_of_some _ e
  have ho4:(h3.push (seqObj "tuple" acc.toList.toArray 0)).get? h1.objs.size=some (seqObj "list" #[] e1):=Heap.get?_push_of_some _ ho1;refine zOB (vs:=acc.toList) (kz:=kz) (e0:=0) I5 fa fk (VX (Heap.lt_size ho4)) (Heap.get?_push_size _ rfl) (Heap.get?_push_of_some _ ho4) (by rw[hkz,hl]) (by rw[hl];exact h64) (fun i v' k hi hk' s' pl Ip=>?_) fun s' out c I' ho' ko=>?_
  ·obtain⟨tk',rfl⟩:=hacc.2 i v' (by rw[<-XJ];exact hi)
   have e3:(0:Int)+(i:Int)*1=(i:Int):=by omega
   rw[e3];exact turn i tk' k hk' s' pl Ip
  ·obtain⟨hπ,hV⟩:=zNH (by rw[hkz,hl]) (fun j v' hj=>by
    obtain⟨tk',rfl⟩:=hacc.2 j v' (by rw[<-XJ];exact hj)
    exact⟨tk',by congr 1;omega⟩) ko
   exact⟨_,rfl,wpAny_pure ⟨_,rfl,h _ s' out c _ I' fa hsz ho' hπ hV⟩⟩
end
end L3
namespace L3
open PySem PySem.Spec PyProof.Rows L2 PySem.W
unseal PEd PEf PTd PWd PAd PSd fH POd PGd jP PId PSx oI PTs PCd PCf
def zTa:CXT:=fun _ _ _ _ _ _=>False
def cxL(P:Program)(w:World)(K:PySem.W.Frag)(mg:Str->Option Value)(base:Heap)(N:List Str)(qual:Str)(scope:Scope)(f:Addr)(cd:Value)(cl:List (Str×Addr))(A:Around)(outer:List Env)(s:Shared)(H:Hp):Cx where
 prog:=P
 w:=w
 K:=K
 mg:=mg
 base:=base
 A:=A.deeper (envX qual scope s.heap.objs.size f cd cl)
 N:=N
 s₀:=s
 H₀:=H
 env:=envX qual scope s.heap.objs.size f cd cl
 outer:=outer
 stack:=envX qual scope s.heap.objs.size f cd cl::outer
 ex:=[]
 fn:=fun _=>false
 calm:=true
 pn:=[]
 xe:=fun _ _=>False
theorem zNT{P:Program}{w:World}{K:Fg_}{mg:Str->Option Value}{base:Heap}{N:List Str}{qual name:Str}{scope:Scope}{f c':Addr}{cl:List (Str×Addr)}{A:Around}{outer:List Env}{s:Shared}{H:Hp}{params:Arguments}{body:Expr}{pm ctv u:Value}{p:Str}{σ:St}{Q:VK}{E:XK}{t:TE}
  (hd:A.handled=none) (hdp:A.depth<recursionLimit) (e0:Env0 P w K mg base A outer s H) (ho:s.heap.get? f=some (kla_obj name qual params body scope cl pm c' ctv)) (hcd:s.heap.CodeRec (.ref c') qual)
  (hbind:bindArgs (kla_fn name qual params body scope cl pm (.ref c') ctv) ⟨[u],[]⟩=pure [(p,u)]) (hloc:scope.names.lookup p=some .local)
  (hco:scope.isCoroutine=false) (hgen:scope.isGenerator=false) (hk:scope.kind=.function) (hcell:∀ x∈scope.names,x.2≠.cell)
  (hfree:∀ x,scope.names.lookup x=some .free->∃ c,cl.lookup x=some c) (hinj:∀ x y c,cl.lookup x=some c->cl.lookup y=some c->x=y)
  (hcl:∀ x c,cl.lookup x=some c->(∃ v,s.heap.IsCell c v)/\H c=none) (hlen:σ.length=N.length)
  (hσ:∀(i:Nat)(x:Str)(v:V),N[i]?=some x->σ[i]?=some (some v)->(x=p/\dB v u)∨(scope.names.lookup x=some .free/\∃ c u',cl.lookup x=some c/\s.heap.IsCell c (some u')/\dB v u'))
  (hb:PE (cxL P w K mg base N qual scope f (.ref c') cl A outer s H) body t) (hq:t σ H Q):
  codeAny (model P w) A (.call (.ref f) ⟨[u],[]⟩) (CR zTa outer P w H s Q E) s:=by
 have lim:s.heap.NoLimit:=e0.mod.nolimit.keeps fun b o e=>(e0.bs b o e).1
 refine kla_callFunE hdp ho rfl hco hgen rfl hcd ?_
 rw[hbind];refine wpAny_pure (wpAny_newFunctionEnv hcell (fun y hy=>by rw[Qt.mp hy];exact hloc) (fun h₁ hns hsb=>⟨lim.fresh _ hsb,?_⟩) hk)
 have hk₁:∀ b o,s.heap.get? b=some o->h₁.get? b=some o:=fun b o e=>hsb.extBut b o (Qs (Heap.lt_size e)) (Heap.get?_push_of_some _ e)
 have noA:∀ b:Addr,b∉(cxL P w K mg base N qual scope f (.ref c') cl A outer s H).ex:=fun b z=>absurd (show b∈([]:List Addr) from z) (by simp)
 have I:Inv (cxL P w K mg base N qual scope f (.ref c') cl A outer s H) [] σ H { s with heap:=h₁,toks:=s.toks+1 }:=by
  refine⟨⟨e0.mod,hk,rfl,rfl,Qh _,hinj,fun y hy=>?_,fun y c z _=>?_,fun _=>hd,Around.frames_deeper e0.frames,.inr ⟨rfl,rfl⟩,fun b z=>absurd z (noA b),e0.bs,e0.bsz,fun b _ _=>noA b,fun b z=>absurd z (noA b),e0.funs,e0.frf⟩,
   rfl,e0.bare,Un.kept hk₁,⟨_,hns,fun i y v h1 h2 h3=>?_⟩,fun y c h=>?_,e0.hok.fresh (Qh _),fun y c h=>(hcl y c h).2,fun p hp=>absurd (show p∈([]:List (Addr×Obj)) from hp) (by simp),e0.hok.kept hk₁,hlen⟩
  ·have hy:scope.names.lookup y=some .cell∨scope.names.lookup y=some .free:=hy
   rcases hy with hy | hy
   ·exact absurd rfl (hcell _ (Vz hy))
   ·exact hfree y hy
  ·cases z
  ·rcases hσ i y v h1 h2 with⟨rfl,r⟩ | ⟨hf,c,u',h4,⟨o,h5,h6⟩,r⟩
   ·exact⟨u,r,.inl ⟨hloc,by simp[List.lookup]⟩⟩
   ·exact⟨u',r,.inr ⟨.inr hf,c,h4,o,hk₁ _ _ h5,h6⟩⟩
  ·obtain⟨⟨v,o,h5,h6⟩,_⟩:=hcl y c h
   exact⟨v,o,hk₁ _ _ h5,h6⟩
 refine kla_codeExpr (wpAny_mono (hb [] _ σ H Q I hq) (fun v s' z=>?_) fun e s' z=>False.elim z)
 obtain⟨x,H',J,r,q⟩:=z;exact⟨x,H',J.os,J.bare,J.base,J.hok,r,q⟩
theorem zKN{l:List Value}{a b:Int}{c:Value}(h:TriplesOk l):TriplesOk (l++[rawInt a,rawInt b,c]):=TriplesOk_snoc a b c l h
theorem zFN{pos q:Pos}{c x:Value}(l:List Value)(h:TriplesOk l)(e:codeAmong q (l++[rawInt pos.line,rawInt pos.col,c])=some x):codeAmong q l=some x∨x=c:=by
 fun_induction TriplesOk l with
 | case1=>
  simp only[Vt,codeAmong,rawInt] at e;split at e
  ·exact .inr (QL e).symm
  ·cases e
 | case2 a t b u y rest ih=>
  simp only[Xi,codeAmong] at e ⊢
  split at e
  ·rename_i hc;rw[if_pos hc];exact .inl e
  ·rename_i hc;rw[if_neg hc];exact ih h e
 | case3 l h1 h2=>exact h.elim
def BMn(base:Heap)(mg:Str->Option Value):Prop:=∃ bm ob,mg "__builtins__" = some (.ref bm)/\bm≠builtinsNs/\base.get? bm=some ob/\ob.cls=.type "module" /\ ob.dict=some builtinsNs/\ob.data=.plain
section
variable{X:Cx}{pins:List (Addr×Obj)}{σ:St}{H:Hp}{s:Shared}{P c c':Addr}
theorem zKd{ps more:Array Value}{h':Heap}{tk:Nat}{oc:Obj}(I:Inv X pins σ H s)(hP:H P=some (.tbl ps))(hx:Heap.ExtBut P s.heap h')(hge:s.heap.objs.size<=c')(hc:h'.get? c'=some oc)(hP':h'.get? P=some { cls:=.none,data:=.fields (ps++more) }):
  Inv X pins σ (upd (upd H P (.tbl (ps++more))) c' (.frz oc (.own 0))) { s with heap:=h',toks:=tk }:=by
 have nP:∀ {b:Addr},H b=none->b≠P:=fun e z=>by rw[z,hP] at e;cases e
 have cF:H c'=none:=I.hok.fresh hge;have nc:∀ {b:Addr} {o:Obj},s.heap.get? b=some o->b≠c':=fun e=>Qs (Qr (Heap.lt_size e) hge)
 have hPc:P≠c':=bC hP cF;have up:∀ {b:Addr},b≠P->b≠c'->upd (upd H P (.tbl (ps++more))) c' (.frz oc (.own 0)) b=H b:=fun h1 h2=>by rw[aX h2,aX h1]
 have upP:upd (upd H P (.tbl (ps++more))) c' (.frz oc (.own 0)) P=some (.tbl (ps++more)):=by rw[aX hPc,aW]
 have kd:∀ {b:Addr} {o:HO},H b=some o->(∀ qs,o≠.tbl qs)->upd (upd H P (.tbl (ps++more))) c' (.frz oc (.own 0)) b=some o:=fun {b o} e hn=>by
  rw[up (fun z=>by rw[z,hP] at e;exact hn ps (QL e).symm) (bC e cF)];exact e
 refine I.un ⟨fun b o e n _ _=>hx b o (nP n) e,fun b o e n _ _=>⟨o.slots,hx b o (nP n) e⟩,fun b o e n _=>by rw[up (nP n) (nc e)];exact n,fun b o e _=>?_,fun b xs e=>kd e fun qs z=>(by cases z),fun b o u e=>kd e fun qs z=>(by cases z),fun b qs e=>?_⟩ fun b u e=>?_
 ·by_cases hb:b=P
  ·subst hb;exact⟨_,hP'⟩
  ·exact⟨o,hx b o hb e⟩
 ·by_cases hb:b=P
  ·subst hb
   rw[hP] at e;cases e
   exact⟨more,upP⟩
  ·exact⟨#[],by rw[up hb (bC e cF),e];simp⟩
 ·by_cases h2:b=c'
  ·subst h2
   rw[aW] at e;cases e
   exact⟨hc,oc,hc⟩
  ·by_cases h1:b=P
   ·subst h1
    rw[upP] at e;cases e
    exact hP'
   ·rw[up h1 h2] at e
    refine(I.hok b u e).stay (fun d v hd q=>hx d v (fun z=>?_) q) (fun d q=>kd q fun qs z=>(by cases z)) fun d xs q=>kd q fun qs z=>(by cases z)
    rcases hd with rfl | hd
    ·exact h1 z
    ·rw[z,hP] at hd;cases hd
theorem zIg{ps:Array Value}{oc:Obj}{pos:Pos}{vs:Array Value}{t:Tok}(hP:H P=some (.tbl ps))(cF:H c'=none)(hd:oc.data=.fields vs)(hv:vs[1]?=some (.str tH t)):
  Keep H (upd (upd H P (.tbl (ps++#[rawInt pos.line,rawInt pos.col,.ref c']))) c' (.frz oc (.own 0))):=by
 have hPc:P≠c':=bC hP cF;have upP:upd (upd H P (.tbl (ps++#[rawInt pos.line,rawInt pos.col,.ref c']))) c' (.frz oc (.own 0)) P=some (.tbl (ps++#[rawInt pos.line,rawInt pos.col,.ref c'])):=by rw[aX hPc,aW]
 have kd:∀ {b:Addr} {o:HO},H b=some o->b≠P->upd (upd H P (.tbl (ps++#[rawInt pos.line,rawInt pos.col,.ref c']))) c' (.frz oc (.own 0)) b=some o:=fun {b o} e hn=>by
  rw[aX (bC e cF),aX hn];exact e
 refine⟨fun b o e=>?_,fun Q T=>?_⟩
 ·by_cases hb:b=P
  ·subst hb
   rw[hP] at e;cases e
   exact .inr ⟨_,_,rfl,upP⟩
  ·exact .inl (kd e hb)
 ·obtain⟨qs,e,ht,k⟩:=T
  have old:∀(q:Pos)(cv:Value),codeAmong q qs.toList=some cv->∃ c oc' vs t u,cv=.ref c/\upd (upd H P (.tbl (ps++#[rawInt pos.line,rawInt pos.col,.ref c']))) c' (.frz oc (.own 0)) c=some (.frz oc' u)/\oc'.data=.fields vs/\vs[1]?=some (.str tH t):=fun q cv z=>by
   obtain⟨c,oc',vs',t',u,r1,r2,r3⟩:=k q cv z;exact⟨c,oc',vs',t',u,r1,kd r2 (fun w=>by rw[w,hP] at r2;cases r2),r3⟩
  by_cases hb:Q=P
  ·subst hb
   rw[hP] at e;cases e
   have el:(ps++#[rawInt pos.line,rawInt pos.col,.ref c']).toList=ps.toList++[rawInt pos.line,rawInt pos.col,.ref c']:=by simp
   refine⟨_,upP,by rw[el];exact zKN ht,fun q cv z=>?_⟩
   rw[el] at z;rcases zFN _ ht z with z | z
   ·exact old q cv z
   ·exact⟨c',oc,vs,t,_,z,aW,hd,hv⟩
  ·exact⟨qs,kd e hb,ht,old⟩
theorem zKO{params:Arguments}{body:Expr}{scope:Scope}{pos:Pos}{clos:List (Str×Addr)}{M:Model}{A:Around}{E:Value->Shared->Prop}{Q:Value->Shared->Prop}(I:Inv X pins σ H s)(tb:zBL P H)(hC:∀ h,X.K.In h->CodeHd h c P)(hcode:X.env.code=.ref c)(hq:X.env.qual ++ "<lambda>" = tH)(hB:BMn X.base X.mg)
  (hcl:closureFor scope X.env=pure clos) (hdef:defaultsOf params X.env=([],[]))
  (h:∀ f c' ctv oc vs t u H' s',Inv X pins σ H' s'->Keep H H'->(∀ b o,H b=some o->b≠P->H' b=some o)->sT X pins H' f->s.heap.objs.size<=f->s'.heap.get? f=some (kla_obj "<lambda>" tH params body scope clos ((X.mg "__name__").getD .none) c' ctv)->
   H' c'=some (.frz oc u)->oc.data=.fields vs->vs[1]?=some (.str tH t)->Q (.ref f) s'):
  wpAny M A (eval (.Lambda params body scope pos) X.env) Q E s:=by
 obtain⟨ps,hP,ht,hk⟩:=id tb;have hPo:s.heap.get? P=some (tabObj ps):=I.hok P _ hP;have hg:s.heap.Ns mainGlobals X.mg:=I.mod.glob.keeps I.bk
 have hgP:mainGlobals≠P:=fun z=>by
  obtain⟨o,es,ep,e,_⟩:=I.mod.glob;have:=(I.bs _ _ e).2
  rw[z,hP] at this;cases this
 have hb:s.heap.BuiltinsAt X.mg P:=by
  obtain⟨bm,ob,b1,b2,b3,b4,b5,b6⟩:=hB;refine⟨bm,ob,b1,b2,fun z=>?_,fun z=>?_,(I.bs _ _ b3).1,b4,b5,b6⟩
  ·obtain⟨o,es,ep,e,d,_⟩:=I.mod.glob
   rw[z,e] at b3;cases b3;rw[d] at b6;cases b6
  ·have:=(I.bs _ _ b3).2
   rw[z,hP] at this;cases this
 refine kla_eval hdef ?_
 rw[hq]
 cases hf:codeAmong pos ps.toList with
 | some cv=>
  obtain⟨c',oc,vs,t,u,rfl,r1,r2,r3⟩:=hk pos cv hf;refine kla_makeFunctionHit hcl I.ok.glob hg hcode (hC _ I.kIn) hPo ht hf hb fun ctv h' tk hkk hsz=>?_
  have I1:Inv X pins σ H { s with heap:=h',toks:=tk }:=I.kept hkk;have I2:Inv X pins σ H { s with heap:=h'.push (kla_obj "<lambda>" tH params body scope clos ((X.mg "__name__").getD .none) c' ctv),toks:=tk }:=I1.kept (t':=tk) fun b o e=>Heap.get?_push_of_some _ e
  exact h _ c' ctv oc vs t u H _ I2 (Keep.refl _) (fun b o e _=>e) (I1.fpOk (Qh _) (I1.hok.fresh (Qh _))) hsz (Heap.get?_push_size _ rfl) r1 r2 r3
 | none=>
  refine kla_makeFunction hcl I.ok.glob hg hcode (hC _ I.kIn) hPo ht hf hgP hb fun c' ctv h' tk hx hge hlt hrec htb=>?_
  obtain⟨c₂,oc,vs,t,e2,hoc,hd,hv⟩:=hrec;cases e2;have I1:=zKd (tk:=tk) I hP hx hge hoc htb;have I2:=I1.kept (t':=tk) (h':=h'.push (kla_obj "<lambda>" tH params body scope clos ((X.mg "__name__").getD .none) c' ctv)) fun b o e=>Heap.get?_push_of_some _ e
  have cF:H c'=none:=I.hok.fresh hge;exact h _ c' ctv oc vs t _ _ _ I2 (zIg hP cF hd hv) (fun b o e hb=>by rw[aX (bC e cF),aX hb];exact e) (I1.fpOk (Qh _) (I1.hok.fresh (Qh _))) (Vr (Vu hge hlt)) (Heap.get?_push_size _ rfl) aW hd hv
end
theorem zBJ{K:Fg_}{H:Hp}:∀ π:List Nat,IsDs K H (π.map fun i:Nat=>V.int (i:Int)) (kP π)
 | []=>.nil
 | n::ns=>.cons (.int n) (zBJ ns)
def zDT(p:Pos):Arguments:={ posonlyargs:=[],args:=[{ arg := "spot", annotation:=none,pos:=p }],vararg:=none,kwonlyargs:=[],kw_defaults:=[],kwarg:=none,defaults:=[] }
def lN:Scope:={ kind:=.function,names:=[(PySem.Str.ofString "spot", .local),(PySem.Str.ofString "bottom", .free),(PySem.Str.ofString "some", .free)],isGenerator:=false,isCoroutine:=false,more:=[] }
section
variable{X:Cx}{p1 p2 p3 p4 p5 p6 p7 p8 p9 pa pb pc pd pe pf pg ph pi pj:Pos}
theorem zKT{b k:Int}{a:Addr}{xs:List V}{rows:List D}{d:D}{j:Nat}{Hi H:Hp}{Q:VK}{σ:St}(hN:X.N=(["spot","some","bottom"]:List Str))(hsc:X.env.scope=lN){pz:Pos}
  (hσ:σ=[some (.int j),some (.ref a),some (.int b)]) (hq:SqL X.K Hi a xs∨SqT X.K Hi a xs) (hs:IsDs X.K Hi xs rows) (sm:Same Hi H) (hd:rows[j]?=some d) (hk:zJV b d=.ok k) (q:Q (.int k) H):
  ∃ t,PE X (.BinOp (.Subscript (.Subscript (.Name "some" p1) (.Name "spot" p2) p3) (.Constant (.int 0) 0 p4) p5) .Mult
   (.BinOp (.Name "bottom" p6) .FloorDiv (.Subscript (.Subscript (.Name "some" p7) (.Name "spot" p8) p9) (.Constant (.int 1) 0 pa) pb) pc) pz) t/\t σ H Q:=by
 have v0:PE X (.Name "spot" p2) (zFb 0):=uY (by rw[hN];rfl) (by rw[hsc];exact .inl (by decide +kernel))
 have v0':PE X (.Name "spot" p8) (zFb 0):=uY (by rw[hN];rfl) (by rw[hsc];exact .inl (by decide +kernel))
 have v1:PE X (.Name "some" p1) (zFb 1):=uY (by rw[hN];rfl) (by rw[hsc];exact .inr (.inr (by decide +kernel)))
 have v1':PE X (.Name "some" p7) (zFb 1):=uY (by rw[hN];rfl) (by rw[hsc];exact .inr (.inr (by decide +kernel)))
 have v2:PE X (.Name "bottom" p6) (zFb 2):=uY (by rw[hN];rfl) (by rw[hsc];exact .inr (.inr (by decide +kernel)))
 refine⟨_,zIF cK (zGf aP (zGf aP v1 v0 (fun _ _=>rfl)) zIs (fun _ _=>rfl)) (zIF dQ v2 (zGf aP (zGf aP v1' v0' (fun _ _=>rfl)) zIs (fun _ _=>rfl))),?_⟩
 obtain⟨t,c,rfl,h1,h2,rfl⟩:=zOm hk;obtain⟨v,hv,r⟩:=hs.at hd;obtain⟨ra,ys,rfl,h3,h4⟩:=r.tupI;obtain⟨u1,u2,rfl,r1,r2⟩:=h4.two;have e1:=r1.intI;have e2:=r2.intI;subst e1 e2;have S3:=cC sm h3;subst hσ
 have row:∀ Q':VK,Q' (.ref ra) H->(zRb X.K (.ref a) (.int j) H Q'∨zRi X.K (.ref a) (.int j) H Q'):=fun Q' q'=>by
  rcases hq with hq | hq
  ·exact .inl ⟨a,xs,j,.ref ra,rfl,rfl,cE sm hq,zCQ hv,q'⟩
  ·exact .inr ⟨a,xs,j,.ref ra,rfl,rfl,cC sm hq,zCQ hv,q'⟩
 refine⟨.ref a,rfl,.int j,rfl,row _ (.inr ⟨ra,_,0,.int t,rfl,rfl,S3,rfl,?_⟩)⟩
 refine⟨.int b,rfl,.ref a,rfl,.int j,rfl,row _ (.inr ⟨ra,_,1,.int c,rfl,rfl,S3,rfl,?_⟩)⟩
 exact⟨b,c,rfl,rfl,h1,t,b.fdiv c,rfl,rfl,h2,q⟩
theorem zPR{a:Expr}{ta:TA}{p pos:Pos}(hg:Gl X "range")(hm:X.mg "range" = none)(ha:PA X [a] ta)(hs:starEach [a] X.env=[(false,eval a X.env)]:=by rfl):
  PE X (.Call (.Name "range" p) [a] [] pos) (fun σ H Q=>ta σ H fun vs H1=>∃ n:Nat,vs=[.int n]/\∀ r,H1 r=none->Q (.ref r) (upd H1 r (.rng 0 n))):=by
 intro pins s σ H Q I h;refine wpAny_Call_Name_kw (oQ I hg hm boot_range (VJ (thn (ha pos pins s σ H _ I h) fun us s1 ⟨vs,H1,I1,r1,q1⟩=>?_) hs rfl))
 obtain⟨n,e,q⟩:=q1;subst e;obtain⟨u,rfl,t,rfl⟩:=zCW r1;refine call_range_1 ⟨.ref s1.heap.objs.size,_,I1.laid (fun b o e=>Heap.get?_push_of_some _ e) (Qh _) ?_,rfl,q _ I1.fresh⟩
 exact⟨_,_,_,Heap.get?_push_size _ rfl⟩
structure RankCx (X:Cx) (P c:Addr):Prop where
 calm:X.calm=true
 dp:X.A.depth<recursionLimit
 n0:X.N[0]?=some ("some" : Str)
 n1:X.N[1]?=some ("bottom" : Str)
 k0:X.env.kindOf "some" = some .cell
 k1:X.env.kindOf "bottom" = some .cell
 code:X.env.code=.ref c
 hd:∀ h,X.K.In h->CodeHd h c P
 qual:X.env.qual ++ "<lambda>" = tH
 bm:BMn X.base X.mg
 clo:∃ cs cb,closureFor lN X.env=pure [(("some" : Str),cs),(("bottom" : Str),cb)]/\X.env.cells.lookup ("some" : Str)=some cs/\X.env.cells.lookup ("bottom" : Str)=some cb
 gS:Gl X "sorted"
 mS:X.mg "sorted" = none
 gR:Gl X "range"
 mR:X.mg "range" = none
 gL:Gl X "len"
 mL:X.mg "len" = none
def zPN(X:Cx)(P:Addr):TE:=fun σ H Q=>∃ Hi a xs rows b kz,σ[0]?=some (some (.ref a))/\σ[1]?=some (some (.int b))/\(SqL X.K Hi a xs∨SqT X.K Hi a xs)/\IsDs X.K Hi xs rows/\Same Hi H/\oU b rows=.ok kz/\kz.length<64/\zBL P H/\Hi P=none/\
 ∀ π r Hi' H',iA kz π->Ext Hi H Hi' H'->zKo X.K H Hi' H' r (kP π)->Q (.ref r) H'
theorem zEY{pins:List (Addr×Obj)}{σ:St}{H:Hp}{s:Shared}{i:Nat}{x:Str}{v:V}{c:Addr}(I:Inv X pins σ H s)(hi:X.N[i]?=some x)(hv:σ[i]?=some (some v))(hk:X.env.kindOf x=some .cell)(hc:X.env.cells.lookup x=some c):∃ u,dB v u/\s.heap.IsCell c (some u):=by
 obtain⟨m,hn,hl⟩:=I.loc;obtain⟨u,r,l⟩:=hl i x v hi hv (.inr (.inl hk));refine⟨u,r,?_⟩
 rcases l with⟨z,_⟩ | ⟨_,c',z,q⟩
 ·rw[hk] at z;cases z
 ·rw[hc] at z;cases z;exact q
theorem zNq{P c:Addr}(R:RankCx X P c){pk pl pm pn:Pos}(hs1:starEach [.Name "some" p3] X.env=(false,eval (.Name "some" p3) X.env)::starEach [] X.env:=by rfl)
  (hs2:starEach [.Call (.Name "len" p2) [.Name "some" p3] [] p4] X.env=[(false,eval (.Call (.Name "len" p2) [.Name "some" p3] [] p4) X.env)]:=by rfl)
  (hs3:starEach [.Call (.Name "range" p1) [.Call (.Name "len" p2) [.Name "some" p3] [] p4] [] p5] X.env=(false,eval (.Call (.Name "range" p1) [.Call (.Name "len" p2) [.Name "some" p3] [] p4] [] p5) X.env)::starEach [] X.env:=by rfl):
  PE X (.Call (.Name "sorted" pk) [.Call (.Name "range" p1) [.Call (.Name "len" p2) [.Name "some" p3] [] p4] [] p5] [⟨some "key", .Lambda (zDT p6) (.BinOp (.Subscript (.Subscript (.Name "some" p7) (.Name "spot" p8) p9) (.Constant (.int 0) 0 pa) pb) .Mult
   (.BinOp (.Name "bottom" pc) .FloorDiv (.Subscript (.Subscript (.Name "some" pd) (.Name "spot" pe) pf) (.Constant (.int 1) 0 pg) ph) pi) pj) lN pl,pm⟩] pn) (zPN X P):=by
 intro pins s σ H Q I h;obtain⟨Hi,a,xs,rows,b,kz,e0,e1,hq,hds,sm,hkz,h64,tb,hiP,q⟩:=h;obtain⟨hl1,hl2⟩:=zY hkz;have hlen:xs.length=kz.length:=by rw[hds.length,hl1]
 refine wpAny_Call_Name_kw (oQ I R.gS R.mS boot_sorted ?_ (by decide) (by decide))
 have vS:PE X (.Name "some" p3) (zFb 0):=uY R.n0 (.inr (.inl R.k0));have pR:=zPR (p:=p1) (pos:=p5) R.gR R.mR (lO (zEs (p:=p2) (pos:=p4) aR R.gL R.mL boot_len (lO vS qR hs1) (by decide) (by decide) hs1) qR (by rw[hs2];rfl)) hs2
 refine callWith_kw (thn ((lO pR qR hs3) pn pins s σ H (fun vs H1=>∃ r,vs=[.ref r]/\H r=none/\H1=upd H r (.rng 0 kz.length)) I ?reads) fun us s1 ⟨vs,H1,I1,r1,q1⟩=>?_) (by rw[hs3];rfl) (by rw[hs3];rfl)
 case reads=>
  refine⟨.ref a,e0,a,xs,rfl,hq.imp (cE sm) (cC sm),xs.length,rfl,fun r hr=>⟨r,rfl,hr,by rw[hlen]⟩⟩
 obtain⟨r,rfl,hr,rfl⟩:=q1;obtain⟨u,rfl,ru⟩:=zCW r1;cases ru;obtain⟨cs,cb,hcl,hcs,hcb⟩:=R.clo;have x1:Ext Hi H Hi (upd H r (.rng 0 kz.length)):=Ext.newF sm hr;refine kws_cons (zKO I1 (x1.h.t P tb) R.hd R.code R.qual R.bm hcl rfl fun f c' ctv oc vs t u H3 s3 I3 hkeep hsame hf hfs hfo hc1 hc2 hc3=>kws_nil ?_)
 have x2:Ext Hi H Hi H3:=x1.trans ⟨Same.refl _,hkeep,fun b o e=>hsame b o (x1.s _ _ e) (fun z=>by rw[z,hiP] at e;cases e),fun b e z=>absurd e z⟩
 have hr3:H3 r=some (.rng 0 kz.length):=hkeep.at aW;obtain⟨t1,t2,t3,hrg⟩:=I3.hok r _ hr3
 have I3p:Inv X (pins++[(f,kla_obj "<lambda>" tH (zDT p6) _ lN [("some", cs),("bottom", cb)] ((X.mg "__name__").getD .none) c' ctv)]) σ H3 s3:=I3.pins_of fun p hp=>by
  rcases QG.mp hp with hp | hp
  ·exact I3.pin p (Qy _ hp)
  ·rw[Qt.mp hp]
   exact⟨hfo,hf.1,hf.2.1,hf.2.2.1,fun v z=>by have z':Data.func _=Data.cell v:=z;cases z'⟩
 refine zGY (kz:=kz) R.calm I3p hrg h64 rfl (fun j tk k hj s' pl Ip=>?_) fun D s' out c2 π I' fD hDs hD hπ hV=>?_
 ·obtain⟨d,hd,hk⟩:=hl2 j k hj
  have hfo':=(Ip.pin _ (Qy _ (Vc _ (Qy _ (Qt.mpr rfl))))).1;obtain⟨u0,r0,ce0⟩:=zEY Ip R.n0 e0 R.k0 hcs;obtain⟨u1,r1,ce1⟩:=zEY Ip R.n1 e1 R.k1 hcb
  have look:∀ {x:Str} {c:Addr},List.lookup x [(("some" : Str),cs),(("bottom" : Str),cb)]=some c->(x = "some" /\ c=cs)∨(x = "bottom" /\ c=cb):=fun {x c} z=>by
   have z':=Vz z;rcases Qc.mp z' with z' | z'
   ·cases z';exact .inl ⟨rfl,rfl⟩
   ·cases Qt.mp z';exact .inr ⟨rfl,rfl⟩
  have hne:cs≠cb:=fun z=>by
   have:=Ip.ok.inj _ _ _ hcs (z ▸ hcb)
   exact absurd this (by decide)
  have lam:∃ t,PE (cxL X.prog X.w X.K X.mg X.base ["spot","some","bottom"] tH lN f (.ref c') [("some", cs),("bottom", cb)] X.A.in1.in1 X.stack s' H3) _ t/\t [some (.int j),some (.ref a),some (.int b)] H3 (fun v H'=>v=.int k/\H'=H3):=
   zKT (p1:=p7) (p2:=p8) (p3:=p9) (p4:=pa) (p5:=pb) (p6:=pc) (p7:=pd) (p8:=pe) (p9:=pf) (pa:=pg) (pb:=ph) (pc:=pi) (pz:=pj) rfl rfl rfl hq hds x2.s hd hk ⟨rfl,rfl⟩
  obtain⟨tt,hb,hqq⟩:=lam;refine wpAny_call (codeAny_mono (zNT (E:=fun _ _ _=>False) (p := "spot") (Ip.ok.hd R.calm) R.dp Ip.env0.in1.in1 hfo' ⟨c',oc,vs,t,rfl,(Ip.hok c' _ hc1).1,hc2,hc3⟩ rfl (by decide +kernel) rfl rfl rfl (by decide +kernel) (fun x hx=>?_) (fun x y c z1 z2=>?_) (fun x c z=>?_) rfl (fun i x v z1 z2=>?_) hb hqq) fun res s'' hres=>?_)
  ·have hx':=Vz hx
   rcases Qc.mp hx' with z | hx'
   ·cases z
   ·rcases Qc.mp hx' with z | hx'
    ·cases z;exact⟨cb,rfl⟩
    ·cases Qt.mp hx';exact⟨cs,rfl⟩
  ·rcases look z1 with⟨rfl,rfl⟩ | ⟨rfl,rfl⟩<;>rcases look z2 with⟨rfl,w⟩ | ⟨rfl,w⟩
   ·rfl
   ·exact absurd w hne
   ·exact absurd w.symm hne
   ·rfl
  ·rcases look z with⟨rfl,rfl⟩ | ⟨rfl,rfl⟩
   ·exact⟨⟨_,ce0⟩,Ip.freeC _ _ hcs⟩
   ·exact⟨⟨_,ce1⟩,Ip.freeC _ _ hcb⟩
  ·match i,z1,z2 with
   | 0,z1,z2=>cases z1;cases z2;exact .inl ⟨rfl,tk,rfl⟩
   | 1,z1,z2=>cases z1;cases z2;exact .inr ⟨by decide +kernel,cs,u0,rfl,ce0,r0⟩
   | 2,z1,z2=>cases z1;cases z2;exact .inr ⟨by decide +kernel,cb,u1,rfl,ce1,r1⟩
   | i+3,z1,z2=>simp at z2
  ·cases res with
   | error ev=>exact False.elim hres
   | ok fl=>
    cases fl with
    | ret u=>
     obtain⟨v,H',J,rv,rfl,rfl⟩:=Ip.after hres;obtain⟨t',rfl⟩:=rv;exact⟨⟨t',rfl⟩,J⟩
    | next=>exact False.elim hres
    | brk=>exact False.elim hres
    | cont=>exact False.elim hres
 ·have I'':Inv X pins σ H3 s':=I'.unpinned
  obtain⟨f0,f1,f2,f3,f4,f5⟩:=fD;have h0:X.s₀.heap.get? D=none:=Heap.get?_none_of_le (QE I3.sz hDs);have hl:=hV.length
  have okL:mK X.prog X.w (upd H3 D (.lst (π.map fun i:Nat=>V.int (i:Int)))) s'.heap D (.lst (π.map fun i:Nat=>V.int (i:Int))):=by
   refine⟨?_,out.toList,c2,hV,by rw[Array.toArray_toList];exact hD⟩
   rw[Qe,hπ.1.length_eq,QA,sizeLine_eq];omega
  have I4:=I''.track f0 h0 f1 f4 (fun p hp=>f5 p (by
   rcases QG.mp hp with hp | hp
   ·exact Vc _ hp
   ·exact Qy _ (Vc _ hp))) okL
  refine⟨.ref D,_,I4,rfl,q π D Hi _ hπ (x2.trans (Ext.newF x2.s f0)) ⟨x2.h.none f0,x2.s.none f0,_,aW,zBJ π⟩⟩
end
def spR(K:PySem.W.Frag)(mg:Str->Option Value)(kf:List D->Res (List Int)):Sp:=fun vs H Q _=>vs.length=1/\∃ Bi ds,TB K mg Bi H/\Same Bi H/\IsDs K Bi vs ds/\match kf ds with
 | .ok kz=>∀ π a Hi' H',iA kz π->Ext Bi H Hi' H'->zKo K H Hi' H' a (kP π)->Q (.ref a) H'
 | _=>False
structure CanR (P:Program) (w:World) (K:PySem.W.Frag) (mg:Str->Option Value) (base:Heap) (k:Nat) (kf:List D->Res (List Int)):Prop where
 ex:∃ f fd,FnOk P w K mg base (CX1 P w) k f fd ["some"] (spR K mg kf)/\zCc K fd ["some"] []/\PySem.W.keepIn K (.ref f)=true/\mg "ranked" = some (.ref f)
theorem CanR.mono{P:Program}{w:World}{K:Fg_}{mg:Str->Option Value}{base:Heap}{j k:Nat}{kf:List D->Res (List Int)}(c:CanR P w K mg base j kf)(h:j<=k):CanR P w K mg base k kf:=by
 obtain⟨f,fd,F,r⟩:=c.ex;exact⟨⟨f,fd,F.mono h,r⟩⟩
structure RankDef (st:Stmt):Prop where
 k0:(aG st).names.lookup ("some" : Str)=some .cell
 k1:(aG st).names.lookup ("bottom" : Str)=some .cell
 gS:(aG st).names.lookup ("sorted" : Str)=some .globalImplicit
 gR:(aG st).names.lookup ("range" : Str)=some .globalImplicit
 gL:(aG st).names.lookup ("len" : Str)=some .globalImplicit
 clo:∀ L f cdv,∃ cs cb,closureFor lN (envOfC "ranked" (aG st) L f cdv)=pure [(("some" : Str),cs),(("bottom" : Str),cb)]/\(envOfC "ranked" (aG st) L f cdv).cells.lookup ("some" : Str)=some cs/\(envOfC "ranked" (aG st) L f cdv).cells.lookup ("bottom" : Str)=some cb
section
variable{P:Program}{w:World}{K:Fg_}{mg:Str->Option Value}{base:Heap}{st s1 s2:Stmt}{f:Addr}{fd:FuncData}{k:Nat}{sa sb:Sv}{p1 p2 p3 p4 p5 p6 p7 p8 p9 pa pb pc pd pe pf pg ph pi pj pk pl pm pn po:Pos}
theorem zOl{T:Addr}(F:Fn K mg "ranked" st ["some"] f fd)(S:FnScope ["some","bottom","each"] ["some"] (aG st))(D:RankDef st)(hT:pN K mg T)(hB:BMn base mg)(mS:mg "sorted" = none)(mR:mg "range" = none)(mL:mg "len" = none)
  (hbody:fR st=[s1,s2,.Return (some (.Call (.Name "sorted" pk) [.Call (.Name "range" p1) [.Call (.Name "len" p2) [.Name "some" p3] [] p4] [] p5] [⟨some "key", .Lambda (zDT p6) (.BinOp (.Subscript (.Subscript (.Name "some" p7) (.Name "spot" p8) p9) (.Constant (.int 0) 0 pa) pb) .Mult
   (.BinOp (.Name "bottom" pc) .FloorDiv (.Subscript (.Subscript (.Name "some" pd) (.Name "spot" pe) pf) (.Constant (.int 1) 0 pg) ph) pi) pj) lN pl,pm⟩] pn)) po])
  (h:∀(cdv:Value)(A:Around)(outer:List Env)(s:Shared)(H:Hp)(E:XK)(G:Gx),Good (BX P w K mg base ["some","bottom","each"] "ranked" st f cdv A outer s H E) G k->zGN (BX P w K mg base ["some","bottom","each"] "ranked" st f cdv A outer s H E) G->
   PSd (BX P w K mg base ["some","bottom","each"] "ranked" st f cdv A outer s H E) G s1 sa/\PSd (BX P w K mg base ["some","bottom","each"] "ranked" st f cdv A outer s H E) G s2 sb):
  CanR P w K mg base (k+1) (zAA sa sb):=by
 refine⟨f,fd,?_,F.bd,F.kp,F.mg⟩
 obtain⟨f',oc',od',fd',osl',c,t1,t2,t3,t4⟩:=id hT;have ef:f'=f:=by have:=t1.symm.trans F.mg;exact Value.ref.inj (QL this)
 subst ef;obtain⟨oc,od,kV,doc,pm',an,cdv,ct,osl,rfl,lk,hcd⟩:=F.fn.ex
 have efd:cdv=.ref c:=by
  rw[lk] at t2;cases t2;exact t3
 subst efd;refine zPT lk hcd S (fun vs H Q E h=>h.1) fun A outer s H vs Q E hr hsp=>?_
 obtain⟨hl,Bi,ds,tb,sm,hd,hq⟩:=hsp;have hg:=zHk (P:=P) (w:=w) (K:=K) (mg:=mg) (base:=base) (N:=["some","bottom","each"]) (outer:=outer) (H:=H) (Bi:=Bi) (E:=E) hr tb;obtain⟨h1,h2⟩:=h (.ref c) A outer s H E _ hg zFo
 have RC:RankCx (BX P w K mg base ["some","bottom","each"] "ranked" st f' (.ref c) A outer s H E) T c:=
  ⟨rfl,hr.depth,rfl,rfl,D.k0,D.k1,rfl,t4,by show(("ranked" : Str) ++ ".<locals>.") ++ "<lambda>" = tH;decide +kernel,hB,D.clo _ _ _,D.gS,mS,D.gR,mR,D.gL,mL⟩
 have body:∀ G,PSs (BX P w K mg base ["some","bottom","each"] "ranked" st f' (.ref c) A outer s H E) [s1] (tS (BX P w K mg base ["some","bottom","each"] "ranked" st f' (.ref c) A outer s H E) G sa)->PS (BX P w K mg base ["some","bottom","each"] "ranked" st f' (.ref c) A outer s H E) s1 (tS (BX P w K mg base ["some","bottom","each"] "ranked" st f' (.ref c) A outer s H E) G sa)->PS (BX P w K mg base ["some","bottom","each"] "ranked" st f' (.ref c) A outer s H E) s2 (tS (BX P w K mg base ["some","bottom","each"] "ranked" st f' (.ref c) A outer s H E) G sb)->
   PSs (BX P w K mg base ["some","bottom","each"] "ranked" st f' (.ref c) A outer s H E) (fR st) (zRH (tS (BX P w K mg base ["some","bottom","each"] "ranked" st f' (.ref c) A outer s H E) G sa) (zRH (tS (BX P w K mg base ["some","bottom","each"] "ranked" st f' (.ref c) A outer s H E) G sb) (zSm (zPN (BX P w K mg base ["some","bottom","each"] "ranked" st f' (.ref c) A outer s H E) T)))):=fun G _ h1 h2=>by
  rw[hbody];exact tZ h1 (tZ h2 (zDS (zEV (zNq RC))))
 refine⟨_,body _ (zDS h1) h1 h2,?_⟩
 cases ek:zAA sa sb ds with
 | no=>rw[ek] at hq;exact hq.elim
 | err c=>rw[ek] at hq;exact hq.elim
 | ok kz=>
  rw[ek] at hq;unfold zAA at ek;split at ek
  case isFalse=>cases ek
  split at ek
  case h_2=>cases ek
  rename_i ρ1 e1
  split at ek
  case h_2=>cases ek
  rename_i ρ2 e2
  refine⟨L3.start 3 ds,Bi,zBH (N:=["some","bottom","each"]) sm hd,?_⟩
  rw[e1];intro σ1 Hi1 H1 sm1 R1;refine⟨ρ1,Hi1,R1,?_⟩
  rw[e2];intro σ2 Hi2 H2 sm2 R2;unfold zEL at ek;split at ek
  case h_2=>cases ek
  rename_i rows b z0 z1
  split at ek
  case isFalse=>cases ek
  rename_i h64
  obtain⟨v,q0,r0⟩:=R2.slot 0 _ z0;obtain⟨v1,q1,r1⟩:=R2.slot 1 _ z1;obtain⟨a,xs,rfl,g1,g2⟩:=r0.lstI;have r1':=r1.intI;subst r1';obtain⟨tb2,n2⟩:=hg.tb.ext R2.ext T hT;exact⟨Hi2,a,xs,rows,b,kz,q0,q1,.inl g1,g2,R2.s,ek,by rw[(zY ek).1];exact h64,tb2,n2,fun π r Hi' H' hπ x nl=>hq π r Hi' H' hπ (R2.ext.trans x) ⟨R2.ext.h.none nl.1,nl.2⟩⟩
end
section
variable{X:Cx}{G:Gx}{e:Expr}{es:List Expr}{pos p:Pos}{fs:Fv}{k:Nat}{kf:List D->Res (List Int)}{tg:Expr}{body rest:List Stmt}{g:Gv}{sa sb:Sv}
def tIr(X:Cx)(G:Gx)(fs:Fv)(kf:List D->Res (List Int)):TI:=fun σ H R=>∃ ρ Hi,mO X G Hi H σ ρ/\Out G Hi H ((fs ρ).bind kf) fun kz Hi' H'=>∀ π J,iA kz π->vG X.K Hi' J (kP π)->R J H'
theorem zOv(W:Good X G k)(c:CanR X.prog X.w X.K X.mg X.base k kf)(hkf:∀ ds c,kf ds≠.err c)(hk1:∀ ds,kf ds≠.no->ds.length=1)(hg:Gl X "ranked")(ha:PAd X G [e] fs)(he:starEach [e] X.env=(false,eval e X.env)::starEach [] X.env:=by rfl):
  PI X tg (.Call (.Name "ranked" p) [e] [] pos) (tIr X G fs kf):=by
 obtain⟨f,fd,F,b,kp,hm⟩:=c.ex;refine PI.wk (zMB (zDp F W.room hg hm kp b .nil W.pass ha (by decide) he rfl)) fun σ H R q=>?_
 obtain⟨ρ,Hi,Rl,ou⟩:=q;refine zJQ Rl ou fun vs ds Hi1 H1 e1 R1 r1 o1=>?_
 rw[QW];have hno:kf ds≠.no:=fun z=>by rw[z] at o1;exact o1
 refine⟨by rw[r1.length];exact hk1 ds hno,Hi1,ds,W.tb.ext R1.ext,R1.s,r1,?_⟩
 cases z:kf ds with
 | no=>exact absurd z hno
 | err c=>exact absurd z (hkf ds c)
 | ok kz=>
  rw[z] at o1;intro π a Hi2 H2 hπ e2 n;obtain⟨n1,n2,xs,n3,n4⟩:=n;have x3:=e2.hold n1 n3 n2;refine⟨a,rfl,⟨xs,SqL.of n3⟩,o1 _ _ x3 π _ hπ (zBt (SqL.of aW) (n4.mono (cX n2 _)))⟩
theorem zIA(W:Good X G k)(c:CanR X.prog X.w X.K X.mg X.base k kf)(hkf:∀ ds c,kf ds≠.err c)(hk1:∀ ds,kf ds≠.no->ds.length=1)(hg:Gl X "ranked")(ha:PAd X G [e] fs)(hgt:PGd X G tg g)(hge:∀ d ρ c,g d ρ≠.err c)(hb:fH X G body sa)(hr:fH X G rest sb)
  (he:starEach [e] X.env=(false,eval e X.env)::starEach [] X.env:=by rfl) {pf:Pos} (hs:∀ x,foldedSetIterable (.Call (.Name "ranked" p) [e] [] pos) X.env x=pure x:=by intro _;rfl):
  fH X G (.For tg (.Call (.Name "ranked" p) [e] [] pos) body [] pf::rest) (zJx fs kf g sa sb):=by
 refine PSs.wk (tZ (zMl W.own W.calm (zOv W c hkf hk1 hg ha he) hgt hb hs) hr) fun E σ H q=>?_
 obtain⟨ρ,Hi,R,h⟩:=q;refine⟨ρ,Hi,R,oJ R h fun kz Hi1 H1 _ e1 h1 π J hπ gv=>?_⟩
 have hn:pF kz (fun π=>bA (fun ρ=>loop g sa (kP π) ρ) sb ρ)≠.no:=fun z=>by rw[z] at h1;exact h1
 rw[<-zFS hn hπ] at h1;exact zMm hge (R.grow e1) (zPS (sa:=fun ρ=>loop g sa (kP π) ρ) h1) gv
end
def zQk(K:PySem.W.Frag)(mg:Str->Option Value):Sp:=fun vs H Q _=>∃(a:Addr)(ns:List Int)(Bi:Hp),vs=[.ref a]/\TB K mg Bi H/\Same Bi H/\SqL K Bi a (ns.map V.int)/\ns.length<=63/\(∃ m,m<=1048576/\∀ n∈ns,n.natAbs<2^m)/\∀ H',Q (.bl true) H'
theorem zNn{P:Program}{w:World}{K:Fg_}{mg:Str->Option Value}{base:Heap}{k:Nat}{m:Mir}{f:Addr}{fd:FuncData}(F:FnOk P w K mg base (CX1 P w) k f fd ["script"] (spM K mg 1 m))
  (h:∀ ns:List Int,ns.length<=63->(∃ m,m<=1048576/\∀ n∈ns,n.natAbs<2^m)->m [.lst (ns.map D.int)]=.ok (.v (.bl true))):FnOk P w K mg base (CX1 P w) k f fd ["script"] (zQk K mg):=by
 refine F.imp fun vs H Q E q=>?_
 obtain⟨a,ns,Bi,rfl,tb,sm,hS,hl,hbg,q⟩:=q;refine⟨rfl,Bi,[.lst (ns.map D.int)],tb,sm,.cons (.lst hS (zBP ns)) .nil,?_⟩
 rw[h ns hl hbg];intro v Hi' H' e r;rw[r.blI];exact q H'
theorem zOJ{P:Program}{w:World}{K:Fg_}{mg:Str->Option Value}{base:Heap}{k:Nat}{m:Mir}{f:Addr}{fd:FuncData}(F:FnOk P w K mg base (CX1 P w) k f fd ["script"] (spM K mg 1 m))
  (h:∀ ns:List Int,ns.length<=63->m [.lst (ns.map D.int)]=.ok (.v (.bl true))):FnOk P w K mg base (CX1 P w) k f fd ["script"] (zQk K mg):=zNn F fun ns hl _=>h ns hl
theorem zLh{K:Fg_}{mg:Str->Option Value}{h:Heap}{T T':Addr}(X:K.In h)(a:pN K mg T)(b:pN K mg T'):T'=T:=by
 obtain⟨f,oc,od,fd,osl,c,a1,a2,a3,a4⟩:=a;obtain⟨f',oc',od',fd',osl',c',b1,b2,b3,b4⟩:=b;rw[a1] at b1;cases b1
 rw[a2] at b2;cases b2
 rw[a3] at b3;cases b3
 obtain⟨o,vs,_,_,_,_,_,_,_,e1,_,e3,e4,_⟩:=a4 h X;obtain⟨o',vs',_,_,_,_,_,_,_,f1,_,f3,f4,_⟩:=b4 h X;rw[e1] at f1;cases f1
 rw[e3] at f3;cases f3
 rw[e4] at f4;cases f4
 rfl
theorem zHD{P:Program}{w:World}{K:Fg_}{mg mb:Str->Option Value}{CX:CXT}{k:Nat}{fa a T:Addr}{fd:FuncData}{x:Str}{s₁:Shared}{vs:List Value}{ns:List Int}
  (KX:K.In s₁.heap) (hns:s₁.heap.Ns mainGlobals mg) (hb:s₁.heap.Ns builtinsNs mb) (hbb:∀ x:Str,x ≠ "__name__" -> mb x=bootBuiltins x) (hlim:s₁.heap.NoLimit) (hg:s₁.gens=#[]) (hbm:BMn s₁.heap mg) (hT:s₁.heap.get? T=some (tabObj #[])) (hKT:K.lookup T=none) (hP:pN K mg T)
  (ha:s₁.heap.get? a=some { cls:=.type "list", data:=.seq vs.toArray }) (hi:IntsAre vs ns) (hl:ns.length<=63) (hbg:∃ m,m<=1048576/\∀ n∈ns,n.natAbs<2^m) (hr:Room k callerA)
  (F:∀ base:Heap,K.In base->base.Ns mainGlobals mg->BMn base mg->FnOk P w K mg base CX k fa fd [x] (zQk K mg)) (hbind:∀(s:Shared)(u:Value),BindsTo s fd ⟨[u],[]⟩ [(x,u)])
  (hCX:∀ H e s',CX [] H s₁ (fun _ _ _=>False) e s'->False):
  codeAny (model P w) callerA (.call (.ref fa) ⟨[.ref a],[]⟩) (fun r s'=>r=.ok (.ret (.bool true))/\OldK s₁.heap s'.heap/\s'.os=s₁.os/\AllBare s'.gens) s₁:=by
 have rv:=zCG hi;have lenV:=hi.length;have haT:a≠T:=fun z=>by rw[z,hT] at ha;cases ha
 have core:∀ Bi:Hp,zTb Bi->SqL K Bi a (ns.map V.int)->HOk P w Bi s₁.heap->(∀ b,Bi b≠none->b=a)->(Bi a≠none->K.lookup a=none)->
   codeAny (model P w) callerA (.call (.ref fa) ⟨[.ref a],[]⟩) (fun r s'=>r=.ok (.ret (.bool true))/\OldK s₁.heap s'.heap/\s'.os=s₁.os/\AllBare s'.gens) s₁:=by
  intro Bi hO hS hokB hA hK
  have hBT:Bi T=none:=by
   cases q:Bi T with
   | none=>rfl
   | some u=>exact absurd (hA T (by rw[q];simp)).symm haT
  generalize hHdef:upd Bi T (.tbl #[])=H;have HT:H T=some (.tbl #[]):=by rw[<-hHdef,aW]
  have Hne:∀ {b},b≠T->H b=Bi b:=fun z=>by rw[<-hHdef,aX z]
  have sm:Same Bi H:=fun b o e=>by rw[Hne (bC e hBT)];exact e
  have hok:HOk P w H s₁.heap:=fun b u e=>by
   by_cases hb:b=T
   ·subst hb;rw[HT] at e;cases e;exact hT
   ·rw[Hne hb] at e
    exact(hokB b u e).stay (fun c v _ q=>q) (fun c q=>sm _ _ q) fun c xs q=>sm _ _ q
  have only:∀ {b:Addr} {o:Obj},s₁.heap.get? b=some o->(∀ xs n,o.data≠.seq xs n)->(∀ vs,o.data≠.fields vs)->H b=none:=fun {b o} e d1 d2=>by
   by_cases hb:b=T
   ·subst hb;rw[hT] at e;cases e;exact absurd rfl (d2 #[])
   ·rw[Hne hb]
    cases q:Bi b with
    | none=>rfl
    | some u=>
     have e':b=a:=hA b (by rw[q];simp)
     subst e';rw[ha] at e;cases e
     exact absurd rfl (d1 _ _)
  have base_of:∀ {b:Addr} {o:Obj},s₁.heap.get? b=some o->H b=none->(zJT s₁.heap H).get? b=some o:=fun e n=>zKi e n
  have nsK:∀ {b:Addr} {m:Str->Option Value},s₁.heap.Ns b m->(zJT s₁.heap H).Ns b m:=fun {b m} ⟨o,es,ep,e,d,r⟩=>⟨o,es,ep,base_of e (only e (fun xs n z=>by rw[d] at z;cases z) (fun vs z=>by rw[d] at z;cases z)),d,r⟩
  have hKb:K.In (zJT s₁.heap H):=fun b o e=>base_of (KX b o e) (by
   by_cases hb:b=T
   ·subst hb;rw[hKT] at e;cases e
   ·rw[Hne hb]
    cases q:Bi b with
    | none=>rfl
    | some u=>
     have e':b=a:=hA b (by rw[q];simp)
     subst e'
     rw[hK (by rw[q];simp)] at e;cases e)
  have hBb:BMn (zJT s₁.heap H) mg:=by
   obtain⟨bm,ob,b1,b2,b3,b4,b5,b6⟩:=hbm;exact⟨bm,ob,b1,b2,base_of b3 (only b3 (fun xs n z=>by rw[b6] at z;cases z) (fun vs z=>by rw[b6] at z;cases z)),b4,b5,b6⟩
  have hM:Mod K mg (zJT s₁.heap H):=⟨hKb,nsK hns,⟨mb,nsK hb,hbb⟩,let ⟨mc,h1,h2⟩:=hlim;⟨mc,nsK h1,h2⟩⟩;have e0:Env0 P w K mg (zJT s₁.heap H) callerA [] s₁ H:=⟨rfl,hM,fun b o e=>zNA e,Xr (zIB _ _),trivial,fun b hb=>absurd (show b∈([]:List Addr) from hb) (by simp),hok,.of_eq hg⟩
  have htb:TB K mg Bi H:=fun T' h'=>by
   have e':=zLh KX hP h';subst e';exact⟨⟨#[],HT,trivial,fun pos cv z=>by cases z⟩,hBT⟩
  refine codeAny_mono ((F _ hKb (nsK hns) hBb).run callerA [] s₁ H ⟨[.ref a],[]⟩ [.ref a] [.ref a] (fun v _=>v=.bl true) (fun _ _ _=>False) hr e0 (hbind s₁ (.ref a)) (.cons rfl .nil) ⟨a,ns,Bi,rfl,htb,sm,hS,hl,hbg,fun _=>rfl⟩) fun r s' h=>?_
  cases r with
  | error e=>exact(hCX H e s' h).elim
  | ok fl=>
   cases fl with
   | next=>exact False.elim h
   | brk=>exact False.elim h
   | cont=>exact False.elim h
   | ret u=>
    obtain⟨v,H',os,bare,un,hok',r',q⟩:=h;have q':v=.bl true:=q;subst q';obtain rfl:u=Value.bool true:=r';refine⟨rfl,⟨fun b o e=>?_,fun b o e=>un.there b o e (by simp)⟩,os,bare⟩
    by_cases hbT:b=T
    ·subst hbT
     obtain⟨more,z⟩:=un.tbls b _ HT;have z2:s'.heap.get? b=some { cls:=.none,data:=.fields (#[]++more) }:=hok' b _ z;rw[hT] at e;cases e
     obtain⟨f,oc,od,fd',osl,c,a1,a2,a3,a4⟩:=hP;obtain⟨o,vs,_,_,_,_,_,_,_,e1,e2,e3,e4,_⟩:=a4 _ KX;exact .inr (.inl ⟨⟨c,o,vs,e1,e2,e3,e4⟩,rfl,#[],more,rfl,z2⟩)
    ·refine .inl ?_
     cases q:H b with
     | none=>exact un.keep b o e q (by intro z;exact absurd (show b∈([]:List Addr) from z) (by simp)) (by simp)
     | some u=>
      rw[Hne hbT] at q;rcases hO b with z | ⟨ob,xs,z⟩
      ·rw[q] at z;cases z
      ·have z2:=un.frzs b ob _ (by rw[Hne hbT];exact z)
       obtain⟨e1,_⟩:=hokB b _ z;obtain⟨e2,_⟩:=hok' b _ z2;rw[e] at e1;cases e1
       exact e2
 cases hk:K.lookup a with
 | some o=>
  have e:=KX a o hk;rw[ha] at e;cases e;refine core (fun _=>none) (fun _=>.inl rfl) (.inr ⟨_,vs.toArray,_,hk,rfl,rfl,rfl,by rw[Ql,lenV,sizeLine_eq];omega,by simpa using rv⟩) (fun b u z=>by have z':(none:Option HO)=some u:=z;cases z') (fun b z=>absurd rfl z) fun z=>absurd rfl z
 | none=>
  refine core (fun b=>if b=a then some (.frz { cls:=.type "list", data:=.seq vs.toArray } (.lst (ns.map V.int))) else none) (fun b=>?_) (.inl (.inr ⟨{ cls:=.type "list", data:=.seq vs.toArray },if_pos rfl⟩)) (fun b u z=>?_) (fun b z=>?_) fun _=>hk
  ·by_cases hb:b=a
   ·exact .inr ⟨_,_,if_pos hb⟩
   ·exact .inl (if_neg hb)
  ·by_cases hb:b=a
   ·have z':=(if_pos hb).symm.trans z
    cases z'
    subst hb;exact⟨ha,by rw[Qe,sizeLine_eq];omega,vs,_,rv,ha⟩
   ·have z':=(if_neg hb).symm.trans z
    cases z'
  ·by_cases hb:b=a
   ·exact hb
   ·exact absurd (if_neg hb) z
theorem zMg:∀ {ns:List Int} {n:Int},n∈ns->(WData.int n).weight<=WData.weightAll (ns.map WData.int)
 | a::r,n,h=>by
  rw[Qq,WData.weightAll];rcases Qc.mp h with rfl | h
  ·omega
  ·have:=zMg h
   omega
theorem zNK{ns:List Int}(h:WData.layableAll [WData.list (ns.map WData.int)]=true):(∃ m,m<=1048576/\∀ n∈ns,n.natAbs<2^m):=by
 refine⟨1048576,Qh _,fun n hn=>?_⟩
 have w:WData.weightAll (ns.map WData.int)<=2^20:=by
  unfold WData.layableAll WData.layable at h;simp only[List.all_cons,List.all_nil,Bool.and_true,Ve,decide_eq_true_eq] at h;have:=h.2
  rw[WData.weight] at this;exact this
 have a:=zMg hn;rw[WData.weight] at a;by_cases z:n=0
 ·subst z
  exact Nat.two_pow_pos _
 ·rw[if_neg (by simpa using z)] at a
  exact Qr Nat.lt_log2_self (QZ (by decide) (by omega))
open PySem.Calls in
theorem zCt{l:OpenLaw}{n:Nat}{q:Program}{loose:List Str}{XP:(Str->Option Value)->Heap->Prop}{YP:World->Heap->Prop}{d:DefRec}
  (hn:l.most=some n) (hdf:d.params.defaults=[])
  (call:∀(w:World)(s₀ s₁:Shared)(mg mb:Str->Option Value)(fa:Addr)(o:Obj)(pm cd doc:Value)(a:Addr)(vs:List Value)(ns:List Int),(∃ m,m<=1048576/\∀ n∈ns,n.natAbs<2^m)->
   Ground q loose [] XP w s₀ mg mb s₁.heap->YP w s₁.heap->
   s₁.heap.get? fa=some o->o.data=.func (docDef d.name d.params d.body d.scope pm cd doc)->s₁.heap.CodeRec cd d.name->mg d.name=some (.ref fa)->
   s₁.heap.get? a=some { cls:=.type "list", data:=.seq vs.toArray }->IntsAre vs ns->ns.length<=n->s₁.gens=#[]->
   codeAny (model l.prog w) callerA (.call (.ref fa) ⟨[.ref a],[]⟩) (fun r s'=>r=.ok (.ret (.bool true))/\OldK s₁.heap s'.heap/\s'.os=s₁.os/\AllBare s'.gens) s₁):
  WalkO q loose XP YP l.row.toRowW d [] (fun f vs=>PySem.call f vs):=by
 intro w s₀ s₁ mg mb G Y fa o pm cd doc dV kV ho hd hcd hD hmg hg args vals as hpre hlay hrd hwl hlo;obtain rfl:dV=.none:=Dflts.none hD hdf;obtain rfl:kV=.none:=Dflts.noKw hD;obtain⟨a,vs,ns,rfl,rfl,hobj,hints,hlen⟩:=Att.script_of hn hpre hwl;refine enter_call (codeAny_mono (call w s₀ s₁ mg mb fa o pm cd doc a vs ns (zNK hlay) G Y ho (fd_plain hd) hcd hmg hobj hints hlen hg) fun r s' hq=>?_)
 obtain⟨rfl,h2,h3,h4⟩:=hq;exact⟨.inl ⟨.bool true,.bool true,[],rfl,fun _=>rfl,.bool true,Att.post_true l _,fun _=>⟨List.Pairwise.nil,fun _ hm=>(nomatch hm)⟩⟩,h2,h3,h4⟩
theorem zSd{l:PySem.W.OpenLaw}{k:Nat}{q:Program}{loose:List Str}{XP:(Str->Option Value)->Heap->Prop}{YP:World->Heap->Prop}{d:DefRec}{K:Params->PySem.W.Frag}{T:Addr}(hn:l.most=some 63)(hdf:d.params.defaults=[])(hr:Room k callerA)
  (hY:∀(w:World)(h:Heap),YP w h->(K w.params).In h) (hT:∀(w:World)(h:Heap),YP w h->h.get? T=some (tabObj #[]))
  (F:∀(w:World)(mg:Str->Option Value)(fa:Addr)(h:Heap),(K w.params).In h->h.Ns mainGlobals mg->mg d.name=some (.ref fa)->
   (K w.params).lookup T=none/\pN (K w.params) mg T/\∃ fd:FuncData,(∀(s:Shared)(u:Value),BindsTo s fd ⟨[u],[]⟩ [("script", u)])/\∀ base:Heap,(K w.params).In base->base.Ns mainGlobals mg->BMn base mg->FnOk l.prog w (K w.params) mg base (CX1 l.prog w) k fa fd ["script"] (zQk (K w.params) mg)):
  PySem.W.WalkO q loose XP YP l.row.toRowW d [] (fun f vs=>PySem.call f vs):=by
 refine zCt hn hdf fun w s₀ s₁ mg mb fa o pm cd doc a vs ns hbg G Y ho hd hcd hmg hobj hints hlen hg=>?_
 have KX:=hY w _ Y;obtain⟨h1,h2,fd,hb,hF⟩:=F w mg fa _ KX G.T.g hmg
 exact zHD KX G.T.g G.T.b G.T.builtins G.T.nolimit hg G.T.bmain (hT w _ Y) h1 h2 hobj hints hlen hbg hr hF hb fun _ _ _ z=>by
  obtain⟨_,_,_,_,_,z⟩:=z;exact z
section
variable{X:Cx}{G:Gx}{pins:List (Addr×Obj)}{σ:St}{H Hi:Hp}{s:Shared}{ρ:Rho}{i k:Nat}{st:Stmt}{sa:Sv}
end
section
variable{X:Cx}{G:Gx}{e a:Expr}{f g:Ev}{pos:Pos}
end
section
variable{X:Cx}{G:Gx}{st:Stmt}{rest:List Stmt}{sa sb:Sv}{u:TS}
end
section
variable{P:Program}{w:World}{K:Fg_}{mg:Str->Option Value}{base:Heap}{N ps:List Str}{x:Str}{st:Stmt}{f:Addr}{fd:FuncData}{k i0 i1 i2:Nat}{sv:Sv}
end
section
variable{X:Cx}{G:Gx}{e:Expr}{es:List Expr}{pos p:Pos}{fs:Fv}{k j0 j1 j2:Nat}{kf:List D->Res Tri}{x:Str}{ps:List Str}{tg:Expr}
end
def Itq(K:PySem.W.Frag)(a:Addr)(n:Nat):It:=
 ⟨fun i H=>∃ xs x,SqL K H a xs/\xs.length=n/\xs.reverse[i]?=some x,fun i H x H'=>H'=H/\∀ xs,SqL K H a xs->xs.reverse[i]?=some x,fun i H=>∃ xs,SqL K H a xs/\n<=i⟩
def rix(n i:Nat):Int:=(n:Int)-1-((min i n:Nat):Int)
theorem zIG{P:Program}{w:World}{K:Fg_}{tg:Expr}(a it:Addr)(n:Nat):Turn P w K tg (Itq K a n) [it] it (fun i h=>h.IsRevIter it a (rix n i)) where
 mem:=by simp
 obj:=fun i h st b hb=>by
  have e:b=it:=by simpa using hb
  subst e;obtain⟨o,e,c,d⟩:=st;exact⟨o,e,fun v z=>by rw[d] at z;cases z⟩
 keep:=fun i h h' st k=>st.at fun o e=>k it (by simp) o e
 item:=by
  intro X hP hw hK hc i pins s σ H E I hf st hg;subst hP hw hK;obtain⟨xs,x,hq,hn',hx⟩:=hg;obtain⟨its,rv,p,hz⟩:=I.list hq
  have hi:i<xs.length:=by
   have:=(Qx.mp hx).1
   rwa [Q7] at this
  have hx':xs[n-1-i]?=some x:=by
   rw[X8 hi,hn'] at hx;exact hx
  obtain⟨u,hu,ru⟩:=rv.get hx';obtain⟨f0,f1,f2,f3,f4,f5⟩:=hf it (by simp)
  have st0:s.heap.IsRevIter it a ((n-1-i:Nat):Int):=by
   have e:rix n i=((n-1-i:Nat):Int):=by unfold rix;rw[VZ (by omega)];omega
   rw[<-e];exact st
  refine wpAny_pyNext_rev_item (items:=its.toArray) st0 p.isList (x:=u) (by simpa using hu) fun h' st' sb=>?_
  have I1:Inv X pins σ H { s with heap:=h' }:=I.turned (t':=s.toks) (fun b o hb e=>(sb.2 b hb).trans e) f0 f1 f3 f4 f5
  obtain⟨o,e,c,d⟩:=id st'
  have st2:h'.IsRevIter it a (rix n (i+1)):=by
   have e:rix n (i+1)=((n-1-i:Nat):Int)-1:=by unfold rix;rw[VZ (by omega)];omega
   rw[e];exact st'
  exact⟨u,rfl,zKE (s:={ s with heap:=h' }) e c d (by decide) ⟨x,H,I1,ru,⟨rfl,fun ys hy=>by rw[I.list_inj hy hq];exact hx⟩,st2,fun b hb=>(hf b hb).1⟩⟩
 done:=by
  intro X hP hw hK hc i pins s σ H E I hf st hg;subst hP hw hK;obtain⟨xs,hq,hx⟩:=hg;obtain⟨f0,f1,f2,f3,f4,f5⟩:=hf it (by simp)
  have st0:s.heap.IsRevIter it a (-1):=by
   have e:rix n i=-1:=by unfold rix;rw[Xn hx];omega
   rw[<-e];exact st
  exact wpAny_pyNext_rev_end (I.ok.hd hc) st0 fun h' eb=>⟨rfl,I.turned (t':=s.toks) (fun b o hb e=>eb b o hb e) f0 f1 f3 f4 f5⟩
 self:=fun _ _ _ _ _ st h=>wpAny_pyIter_revIter st h
section
variable{X:Cx}{G:Gx}{fs:Fv}{f:Ev}
def iRw(K:PySem.W.Frag)(ta:TA):TI:=fun σ H R=>ta σ H fun vs H1=>∃ a xs,vs=[.ref a]/\SqL K H1 a xs/\R (Itq K a xs.length) H1
theorem zMV{tg a:Expr}{ta:TA}{p pos:Pos}(hg:Gl X "reversed")(hm:X.mg "reversed" = none)(ha:PA X [a] ta)(hs:starEach [a] X.env=[(false,eval a X.env)]:=by rfl):PI X tg (.Call (.Name "reversed" p) [a] [] pos) (iRw X.K ta):=by
 intro pins s σ H R I h;refine Call_ (oQ I hg hm zLg (VJ (thn (ha pos pins s σ H _ I h) fun us s1 ⟨vs,H1,I1,r1,q1⟩=>?_) hs rfl))
 obtain⟨t,xs,rfl,hq,q⟩:=q1
 cases r1 with
 | cons r rr=>
  cases rr;cases r;obtain⟨its,rv,pt,hz⟩:=I1.list hq;have hl:=rv.length;refine call_reversed_list (items:=its.toArray) pt.isList ?_
  have hR:(s1.heap.push (revObj t ((its.toArray.size:Int)-1))).IsRevIter s1.heap.objs.size t (rix xs.length 0):=
   ⟨_,Heap.get?_push_size _ rfl,rfl,by unfold rix;rw[hl,Ql];simp[revObj]⟩
  refine wpAny_pyIter_revIter (s:={ s1 with heap:=_ }) hR ?_
  refine⟨s1.heap.objs.size,[s1.heap.objs.size],_,_,H1,rfl,I1.kept (t':=s1.toks) fun b o e=>Heap.get?_push_of_some _ e,zIG t _ xs.length,hR,fun b hb=>?_,q⟩
  have e:b=s1.heap.objs.size:=by simpa using hb
  subst e;exact I1.fpOk (Qh _) (I1.hok.fresh (Qh _))
theorem zGD{K:Fg_}{Hi:Hp}{a:Addr}{xs:List V}{ds:List D}(h1:SqL K Hi a xs)(h2:IsDs K Hi xs ds):vG K Hi (Itq K a xs.length) ds.reverse:=fun Hi1 H1 s1 s2 i=>by
 have h3:=cE (s1.trans s2) h1;have hl:=h2.length;refine⟨fun hl'=>⟨xs,h3,by rw[Q7] at hl';omega⟩,fun d hd=>?_⟩
 have hi:i<ds.length:=by
  have:=(Qx.mp hd).1
  rwa [Q7] at this
 rw[X8 hi] at hd;obtain⟨v,hv,r⟩:=h2.at hd;have hv':xs.reverse[i]?=some v:=by rw[X8 (by omega),hl];exact hv
 refine⟨⟨xs,v,h3,rfl,hv'⟩,fun x H2 y=>?_⟩
 obtain⟨e,y⟩:=y;subst e;have:=y xs h3
 rw[hv'] at this;cases this;exact⟨Hi1,Ext.refl s2,r.mono s1⟩
theorem zQh{tg a:Expr}{p pos:Pos}(hg:Gl X "reversed")(hm:X.mg "reversed" = none)(ha:PEd X G a f)(hst:starEach [a] X.env=[(false,eval a X.env)]:=by rfl):PId X G tg (.Call (.Name "reversed" p) [a] [] pos) (zKB f):=PI.wk (zMV hg hm (lO ha qR (by rw[hst];rfl)) hst) fun σ H Q q=>by
 obtain⟨ρ,Hi,R,ou⟩:=q;refine zDU R ou fun v d Hi1 H1 e1 R1 r1 o1=>?_
 cases d with
 | lst ds=>
  obtain⟨a,xs,rfl,h1,h2⟩:=r1.lstI;exact⟨a,xs,rfl,cE R1.s h1,o1.here R1.s _ (zGD h1 h2)⟩
 | _=>exact o1.elim
end
section
variable{prog:Program}{w:World}{A:Around}{E:Value->Shared->Prop}{s:Shared}
end
section
variable{X:Cx}{G:Gx}{f:Ev}
end
section
variable{X:Cx}{G:Gx}{it:Fv}{t:Tv}
end
section
variable{X:Cx}{G:Gx}
theorem bV{i:Int}{j pos}:PEd X G (.Constant (.int i) j pos) (eC (.int i)):=mH zIs fun _=>.int _
theorem aJ(i:Nat){x:Str}{pos:Pos}(hN:X.N[i]?=some x:=by rfl)(hv:Vis X.env.scope x:=by first | exact Or.inl rfl | exact Or.inr (Or.inl rfl) | exact Or.inr (Or.inr rfl))(hd:(x==("__debug__" : Str))=false:=by decide)
  (hcd:(x==("__classdict__" : Str))=false:=by decide):PEd X G (.Name x pos) (aH i):=zPy i (pv i hN hv hd hcd)
theorem lG(n:Nat){x:Str}{pos p2:Pos}{i:Int}{j p1}(hN:X.N[n]?=some x:=by rfl)(hv:Vis X.env.scope x:=by first | exact Or.inl rfl | exact Or.inr (Or.inl rfl) | exact Or.inr (Or.inr rfl))(hd:(x==("__debug__" : Str))=false:=by decide)
  (hcd:(x==("__classdict__" : Str))=false:=by decide):PEd X G (.Subscript (.Name x pos) (.Constant (.int i) j p1) p2) (eOp oIx (aH n) (eC (.int i))):=bT aP gE (aJ n hN hv hd hcd) bV (fun _ _=>rfl)
end
end L3
namespace PySem.W.Fast
def tw2246612437358091531:=0
def tw14772495102613901344:=0
def tw10288198996134451886:=0
def tw4446574675575986044:=0
def tw5804349104474545730:=0
def tw12560022880308029778:=0
def tw3637496497222528095:=0
def tw11907089307544134289:=0
def tw13994691308646030289:=0
def tw8027994124114592828:=0
def tw4508698647165919542:=0
def tw18195727776275887791:=0
def tw6485903065235834966:=0
def tw7322046220739646129:=0
def tw2396126943566317858:=0
def tw6772164525899777473:=0
def tw6140982254515680809:=0
def tw14181577737370756275:=0
def tw16259732861732046207:=0
def tw2204387324880320677:=0
def tw634635737357438292:=0
def tw2472349809883805115:=0
def tw2483339925791413078:=0
def tw6179004038816187834:=0
def tw9215021657736591026:=0
def tw17524444311931640540:=0
def tw17641477679882481966:=0
def tw11133708702111349853:=0
def tw17486065672933173260:=0
def tw12374485056401256641:=0
def tw13883588665067640810:=0
def tw13210431754185691112:=0
def tw10058832721033766973:=0
def tw6925477642832277551:=0
def tw4958427292754761694:=0
def tw6996411996593251913:=0
def tw4582270857473605563:=0
def tw5341239298211892847:=0
def tw7379543478496803475:=0
def tw9489055407998251234:=0
def tw17883717144480657756:=0
def tw344643903758897144:=0
def tw9380179202305356366:=0
def tw7134079021535997970:=0
def tw14089803981424874406:=0
def tw10426689808774786978:=0
def tw1361947478578289220:=0
def tw16666408830954269100:=0
def tw17419876680357544770:=0
def tw4027392906166095970:=0
def tw15432440991818584496:=0
def tw11708615470774091435:=0
def tw486360673465011784:=0
def tw4572018833278035399:=0
def tw4329991689382319924:=0
def tw14067402580543613116:=0
def tw16994363228897942585:=0
def tw15143909965908328153:=0
def tw9679197076304837461:=0
def tw4409481929733003590:=0
def tw2069181934805426744:=0
def tw1457825609649499002:=0
def tw8614854608274038955:=0
def tw14803352862393922591:=0
def tw16944119729282233346:=0
def tw15618656497695297583:=0
def tw13071311956197798676:=0
def tw6398329259085520972:=0
def tw14598023474458360984:=0
def tw13366222840914295633:=0
def tw9930274429381502332:=0
def tw8846595226908459004:=0
def tw10841692732395589379:=0
def tw402239453806958196:=0
def tw844790652183071739:=0
def tw10779188257480209004:=0
def tw3891582414130551866:=0
def tw5928553256125109696:=0
def tw7317280092104832101:=0
def tw16707000296040598726:=0
def tw15834795624306735217:=0
def tw10288319011162708582:=0
def tw6778487210896553394:=0
def tw8230143545218198051:=0
def tw9810268784126408683:=0
def tw15781730423526296317:=0
def tw10678368851900613939:=0
def tw12012165079529149725:=0
def tw9803372487133016068:=0
def tw13328485759021754719:=0
def tw6761251013743078319:=0
def tw2376190469255774135:=0
def tw4278640688417957431:=0
def tw15466499967733391122:=0
def tw14335823422224623941:=0
def tw12929208533631805539:=0
def tw10800192617779780653:=0
def tw18194138543146348066:=0
def tw4017359655961641972:=0
def tw12838663973876562823:=0
def tw2851427658849532852:=0
def tw1318448601913318579:=0
def tw10758876063588825612:=0
def tw4622788581867660876:=0
def tw11268357633448306431:=0
def tw9719558718555337347:=0
def tw5405306778999000525:=0
def tw1159307774569952731:=0
def tw9909734160694576893:=0
def tw3990313596520615351:=0
def tw3991643945869121083:=0
def tw5958554504690850629:=0
def tw16074776163003671589:=0
def tw9030401733664566437:=0
def tw11286957866425662196:=0
def tw13629229629116970503:=0
def tw5508708379199425587:=0
def tw9380580484657983141:=0
def tw11989693486575677067:=0
def tw4526033286557724507:=0
def tw15923860611395593725:=0
def tw1991144744597445685:=0
def tw7372877357366845128:=0
def tw14337461290042632346:=0
def tw5950781420988590833:=0
def tw13177365747438178730:=0
def tw1232134558505747063:=0
def tw15945670211844082885:=0
def tw4150684080822836152:=0
def tw4004739503437902978:=0
def tw3658094082575658526:=0
def tw15823208324844720058:=0
def tw12597271807241557110:=0
def tw16705916315240140267:=0
def tw18270616276786468606:=0
def tw5139220366233260332:=0
def tw6402069191707820235:=0
def tw1942678774745930361:=0
def tw8761576765859752730:=0
def tw3176933842838893352:=0
def tw16552519496796770673:=0
def tw10143694661466584264:=0
def tw15146774463373105945:=0
def tw16316801350224655059:=0
def tw4602751598690981061:=0
def tw3907273716794584194:=0
def tw2517850838378441841:=0
def tw6765120196314657319:=0
def tw8908190113732305134:=0
def tw9712587827056101559:=0
def tw18240485595656610620:=0
def tw10042428252950970171:=0
def tw16920297255240344364:=0
def tw7666035212265785239:=0
def tw818237240834630162:=0
def tw9255791357919773090:=0
def tw558827615252340792:=0
def tw15664674799898415596:=0
def tw17687615046414359663:=0
def tw10377200565585637261:=0
def tw3797415622656506172:=0
def tw14633685954650388911:=0
def tw17762799357889370517:=0
def tw824109759120704754:=0
def tw6436003528147985441:=0
def tw1910090422974244604:=0
def tw16742666496296046036:=0
def tw12612044780330101923:=0
def tw5965123867136368375:=0
def tw145586416877314302:=0
def tw4598971580373547169:=0
def tw507824762256105589:=0
def tw11750479717495965611:=0
def tw10089881311045038568:=0
def tw1103200776148519328:=0
def tw10553804384324792427:=0
def tw3650870595774165330:=0
def tw4715747898741071293:=0
def tw16318405532076306279:=0
def tw15905483653072047607:=0
def tw895856686632408063:=0
def tw9182167897993933969:=0
def tw2494716199611365127:=0
def tw10392958476000346430:=0
def tw15267745146995344439:=0
def tw15986336329134486314:=0
def tw11594169784711477694:=0
def tw4740734074543302989:=0
def tw11865893750077053590:=0
def tw3485227013641246340:=0
def tw834319327146416263:=0
def tw5879849172641147146:=0
def tw16071624848515542496:=0
def tw18109561355020018285:=0
def tw6092203724146529617:=0
def tw11519930407751399617:=0
def tw11962278502339122507:=0
def tw10136205341783424070:=0
def tw12624483694891839823:=0
def tw13403098956412641498:=0
def tw3077356349333544950:=0
def tw7107374322264919271:=0
def tw471320581193192393:=0
def tw16529069007039945346:=0
def tw2715019555228436233:=0
def tw5271493936033871183:=0
def tw11553112767318092681:=0
def tw10934508736209570281:=0
def tw6981186271514399739:=0
def tw4744556156215984037:=0
def tw5646297038885795807:=0
def tw4281794841603746897:=0
def tw9668894681534333258:=0
def tw7153346988495642727:=0
def tw8236358838200226359:=0
def tw15175764119512998649:=0
def tw5372160893466692863:=0
def tw9030571949088113952:=0
def tw4605649174326474765:=0
def tw7161699451618043676:=0
def tw2576615022919206972:=0
def tw9307282784034231326:=0
def tw15048983350675253341:=0
def tw6435852119902451028:=0
def tw16687620918683445856:=0
def tw16356567038842224469:=0
def tw6579140141585095308:=0
def tw1040863495916081774:=0
def tw14438826173272048941:=0
def tw14602435891190637655:=0
def tw9959881036193574447:=0
def tw4738427972658339085:=0
def tw2365026799087402179:=0
def tw4639770900074818161:=0
def tw17946805869111499958:=0
def tw14353586865472859687:=0
def tw1812101359969244352:=0
def tw3467508756678874387:=0
def tw12925911048275839571:=0
def tw6647650693368013056:=0
def tw2747913570782033321:=0
def tw9944890639070826880:=0
def tw9776513732731850986:=0
def tw10003547930771493485:=0
def tw10609917666318852925:=0
def tw3988746027165132148:=0
def tw18112017384121948508:=0
def tw17156529518364017751:=0
def tw17869974441763492161:=0
def tw1080217918876154050:=0
def tw9964689312289831232:=0
def tw12205457427795330099:=0
def tw14306324666779070389:=0
def tw6532748070494562381:=0
def tw6962980477340599446:=0
def tw11770262550682393736:=0
def tw8971819715571503540:=0
def tw9059161912904176190:=0
def tw18103448389445948907:=0
def tw13114121586724320577:=0
def tw453588318566821149:=0
def tw12146333410889534142:=0
def tw7343321755373110935:=0
def tw16981573819252982612:=0
def tw8657969912708922530:=0
def tw1066374329818342419:=0
def tw10148495660753716869:=0
def tw10352319383432442673:=0
def tw12915731470312058712:=0
def tw4234842655751076688:=0
def tw7396571210010494114:=0
def tw12216157699942432692:=0
def tw10661274350463001505:=0
def tw7229742594761023096:=0
def tw10631123826170488401:=0
def tw2952146543768679618:=0
def tw13722030107936740810:=0
def tw11870132114558854108:=0
def tw11122273591833976544:=0
def tw5153079718756923913:=0
def tw7522094333697375506:=0
def tw18301506117844274684:=0
def tw4269422911359123474:=0
def tw10864763493655638620:=0
def tw3921381415280349334:=0
def tw8401251773181374436:=0
def tw4546861150284592103:=0
def tw10553037273677475655:=0
def tw609922129808454122:=0
def tw5215613180671639993:=0
def tw16505805682722293916:=0
def tw10933936624351408010:=0
def tw9957743958709374796:=0
def tw10686157138499423357:=0
def tw15993459837629450245:=0
def tw7887666625199078274:=0
def tw8331102407153749026:=0
def tw4241297461678016425:=0
def tw5550214851813795445:=0
def tw279632636305151850:=0
def tw7390268330495346179:=0
def tw10626892814701067482:=0
def tw7400851118314519082:=0
def tw10486509726071856515:=0
def tw11620797640450675777:=0
def tw779259899885267532:=0
def tw10578331233135846855:=0
def tw13677561732313307497:=0
def tw7451084884090643266:=0
def tw4884614382985498583:=0
def tw471862754665901944:=0
def tw2867323446297684833:=0
def tw16499671905363557079:=0
def tw16901454616286632608:=0
def tw10730993303842978013:=0
def tw5159669133577191621:=0
def tw6074018674582348855:=0
def tw7520264083315882018:=0
def tw5554503350685322427:=0
def tw13161387298915815594:=0
def tw293557153386805061:=0
def tw14991792696913411114:=0
def tw3902442319499529580:=0
def tw3290693372984079943:=0
def tw4614738150683946409:=0
def tw13817839652590066298:=0
def tw4691341200992072502:=0
def tw6466282985412782883:=0
def tw15042178581376324277:=0
def tw18426075718025812022:=0
def tw10808526046824385347:=0
def tw16947158615055558210:=0
def tw16055810873668155654:=0
def tw13806739801072509329:=0
def tw9864644205964294301:=0
def tw7166503009417054359:=0
def tw13505498100503394268:=0
def tw4446196356158234202:=0
def tw7738078113208719200:=0
def tw11858375914933775332:=0
def tw9591230460037592986:=0
def tw14554448191065492927:=0
def tw13311486514601190123:=0
def tw16313820543357787470:=0
def tw624220173369270476:=0
def tw165073889769843745:=0
def tw7471904873023892662:=0
def tw9626837532822360502:=0
def tw15252662828673653543:=0
def tw3761560178851933999:=0
def tw7147057149813343188:=0
def tw7510772165957681462:=0
def tw16461674099614193654:=0
def tw12083638644078969095:=0
def tw12824638500386988471:=0
def tw11232714905201848424:=0
def tw5083777605735372220:=0
def tw2842013344459189378:=0
def tw6575231515935731575:=0
def tw723331764259242423:=0
def tw17482200324080565348:=0
def tw11339348128277212325:=0
def tw742446827080382607:=0
def tw11832382117081729312:=0
def tw4700494117783837273:=0
def tw4158661254184913243:=0
def tw2575301271710036174:=0
def tw17169976526415797849:=0
def tw5636045739087279520:=0
def tw6416128570254989759:=0
def tw5049784302191643253:=0
def tw18099582964843503561:=0
def tw9774311511622745910:=0
def tw17368033549365690428:=0
def tw11146015832726086361:=0
def tw7698110264993709520:=0
def tw16393762780425323544:=0
def tw2381355492443978821:=0
def tw7894780269564234293:=0
def tw11519189283891497509:=0
def tw13627813125095976399:=0
def tw17925316498188251600:=0
def tw11094161478949553121:=0
def tw14347900509045135712:=0
def tw6424070780271445767:=0
def tw9319223268662242102:=0
def tw11511670149924797566:=0
def tw11289392872191216501:=0
def tw10250076183174301828:=0
def tw6485449408657965289:=0
def tw12114396798466722644:=0
def tw5046708264514069857:=0
def tw4917936747219934842:=0
def tw16283540224785008720:=0
def tw4721914838635686701:=0
def tw17902122701460884348:=0
def tw17757230054036555855:=0
def tw238281210251000385:=0
def tw879078360432128761:=0
def tw1117692742350477209:=0
def tw7349245677845876223:=0
def tw4598642147940704976:=0
def tw121055604577365520:=0
def tw620035347853847959:=0
def tw4425089978577178303:=0
def tw4615531093398401841:=0
def tw14683929552686074480:=0
def tw12925902005430168751:=0
def tw11622366470107636396:=0
def tw15688153050706623009:=0
def tw16205288647630234916:=0
def tw14079397363357236305:=0
def tw7579419560927417461:=0
def tw16344783455909032683:=0
def tw16983606644774211413:=0
def tw17741770468690156620:=0
def tw17702028865242710725:=0
def tw10859261893393540935:=0
def tw14514494605730092467:=0
def tw15949618923491266380:=0
def tw10734565930115213134:=0
def tw3678491724178462904:=0
def tw12036508122769601102:=0
def tw7091026497389512347:=0
def tw2683131248224249788:=0
def tw5844759448422807063:=0
def tw1953402623639098108:=0
def tw9270403299345433258:=0
def tw13874266557134205198:=0
def tw1257830941026551305:=0
def tw7477213400352661258:=0
def tw11855361695894120606:=0
def tw17176661142015425383:=0
def tw11176444615999250212:=0
def tw12514326052917353045:=0
def tw6741265426509324106:=0
def tw11639058070662264036:=0
def tw14601569242216194024:=0
def tw14753611539986595818:=0
def tw16977577034589177700:=0
def tw471058728752050641:=0
def tw7378699994439479987:=0
def tw358166346496043924:=0
def tw15756581093402719674:=0
def tw3352911950884715633:=0
def tw448667322443227464:=0
def tw17583248255608338733:=0
def tw12545649128465447666:=0
def tw17356263800990974244:=0
def tw9699212397307240203:=0
def tw8212652403486334528:=0
def tw12776680401653542161:=0
def tw3922262893206282913:=0
def tw1503711539078885589:=0
def tw14510048296823899497:=0
def tw15832192038483128780:=0
def tw8681311587238616419:=0
def tw4178875010359717764:=0
def tw10461831915968668220:=0
def tw939083976125614204:=0
def tw2474992079205692503:=0
def tw10053736923707338380:=0
def tw11551233618448900119:=0
def tw1321262741993859494:=0
def tw10455543946115950834:=0
def tw17715806637275972144:=0
def tw8650880730382644180:=0
def tw17985379207332495421:=0
def tw4099786807797208786:=0
def tw3067076055034925556:=0
def tw17307489437385772198:=0
def tw626016287497989259:=0
def tw14863712648984528320:=0
def tw2511519390043518257:=0
def tw18087994638034622533:=0
def tw9731801536089464700:=0
def tw8609603893355131965:=0
def tw7841833847999508631:=0
def tw6517709061350948403:=0
def tw4107354457058090271:=0
def tw3951974229350843952:=0
def tw2640310814555134843:=0
def tw9960217318609476698:=0
def tw14447461908586256363:=0
def tw17706399654035807514:=0
def tw13782670894273821378:=0
def tw13946188906660307424:=0
def tw8901502777741966721:=0
def tw13204540939246495673:=0
def tw11996438863791784971:=0
def tw17651485643847296600:=0
def tw935974531856975809:=0
def tw11744883648917383434:=0
def tw5438090700988455341:=0
def tw11045220590952289920:=0
def tw1638651216788972207:=0
def tw17186875478783989144:=0
def tw6007711160862380552:=0
def tw14391058160669626651:=0
def tw12859099797694150588:=0
def tw10039420481308968811:=0
def tw4971785954417826561:=0
def tw5475991433744393063:=0
def tw12982358512437549626:=0
def tw10762155801332368482:=0
def tw2305985594360604414:=0
def tw16128825389241189591:=0
def tw959716328191371709:=0
def tw9539976306504638716:=0
def tw12723109862325333193:=0
def tw10927202376678379126:=0
def tw9173918365882222134:=0
def tw8299024153321998771:=0
def tw8206229266629469609:=0
def tw3802582314513545770:=0
def tw17584659297160212954:=0
def tw6791365782329207384:=0
def tw1068497299813931662:=0
def tw4384483841253650530:=0
def tw4261923712275574965:=0
def tw3272044794389256486:=0
def tw8320960223770401194:=0
def tw13300138591603750350:=0
def tw11198664903229030676:=0
def tw662423057147083845:=0
def tw14461352848423462328:=0
def tw14820967599320613499:=0
def tw5434122105610728003:=0
def tw16484170535516143680:=0
def tw3922112229408408851:=0
def tw10234851715220407972:=0
def tw4488905147113907875:=0
def tw17943056442706783256:=0
def tw5568748423203353533:=0
def tw11377710407908317893:=0
def tw5462503924284171199:=0
def tw3614221493169210903:=0
def tw7226127018615850954:=0
def tw4191399828047399276:=0
def tw17949909566882940597:=0
def tw1246399441137057639:=0
def tw4997630034361234312:=0
def tw17566708841982892257:=0
def tw11727517970654367114:=0
def tw18372256274681600142:=0
def tw8949449531431973407:=0
end PySem.W.Fast
namespace Lw
open L3 PySem
def tbT:List Str:=[]
def zTm:List (Str×List Str):=[]
def eY:D:=(.tup [(.int 0),(.int 1)])
def aV:List (Str×Str):=[("row","back"),("back","row"),("even","lack"),("lack","even"),("part","part"),("half","half")]
def d_WEIGHTED:D:=(.tup [(.str "even"),(.str "lack")])
def d_HALF:D:=(.tup [(.int 1),(.int 2)])
def d_BOAT:D:=(.str "boat")
def d_MOST_BOATS:D:=(.int 12)
def d_DEEPEST:D:=(.int 8)
def d_ACROSS:D:=(.int 0)
def d_UP:D:=(.int 1)
abbrev pT:Sv:=(cT 1 (aH 2))
abbrev qC:Sv:=(bA (cT 0 (aH 1)) pT)
abbrev pI:Sv:=(bA (cT 2 (eOp qD (aH 0) (aH 1))) qC)
abbrev pH:Sv:=(iJ (aH 0))
abbrev pL:Sv:=(bA (eU (dX (eOp oNe (aH 1) (eC (.int 0)))) pI) pH)
abbrev qT:Sv:=(bA (cT 1 (eB zNh (aD (aH 1) aNil))) pL)
def dL:Mir:=fn 2 3 (bA (cT 0 (eB zNh (aD (aH 0) aNil))) qT)
def bJ:Mir:=fn 1 1 (iJ (zDM (aD (aH 0) (aD (eC (.int 1)) aNil))))
def fJ:Mir:=fn 2 2 (iJ (eOp oLt (eOp qV (eOp oIx (aH 0) (eC (.int 0))) (eOp oIx (aH 1) (eC (.int 1)))) (eOp qV (eOp oIx (aH 1) (eC (.int 0))) (eOp oIx (aH 0) (eC (.int 1))))))
abbrev yD:Sv:=(cT 1 (eOp qV (aH 1) (eOp oIx (aH 2) (eC (.int 1)))))
abbrev zCx:Sv:=(cT 1 (eC (.int 1)))
abbrev vN:Sv:=(yE (sZ (aH 0)) (gName 2) yD)
def kC:List D->Res (List Int):=zAA zCx vN
def bY:Mir:=fn 1 1 (sIf (dX (eUn (qW aV) (aH 0))) (gZ "BadWay" (aD (eC (.str "no such way")) aNil)) sNext)
abbrev rS:Sv:=(sIf (dX (eOp oLt (aH 1) (eC (.int 0)))) (gZ "BadClaim" (aD (eC (.str "a claim is below nought")) aNil)) sNext)
abbrev rN:Sv:=(yE (sZ (aH 0)) (gName 1) rS)
def eG:Mir:=fn 1 2 (bA (sIf (dX (eOp oEq (eB mC (aD (aH 0) aNil)) (eC (.int 0)))) (gZ "BadClaim" (aD (eC (.str "there is no claim")) aNil)) sNext) rN)
abbrev qK:Sv:=(sIf (zJP (dX (eOp oLt (aH 4) (eC (.int 1)))) (dX (eOp oGt (aH 4) (eOp zGG (eC (.int 10)) (eC (.int 6)))))) (gZ "BadWeights" (aD (eC (.str "a weight is not from 1 to 10 ** 6")) aNil)) sNext)
abbrev gD:Sv:=(yE (sZ (aH 1)) (gName 4) qK)
abbrev jR:Sv:=(bA (sIf (dX (eOp oNe (eB mC (aD (aH 1) aNil)) (aH 3))) (gZ "BadWeights" (aD (eC (.str "more or fewer weights than are due")) aNil)) sNext) gD)
def bB:Mir:=fn 3 5 (bA (cT 3 (eIf (dX (eOp oIn (aH 0) (eC d_WEIGHTED))) (aH 2) (eC (.int 0)))) jR)
abbrev zKR:Sv:=(iJ (zDM (aD (eC d_BOAT) (aD (aH 0) aNil))))
def zCH:Mir:=fn 1 1 (bA (sIf (zJP (dX (eOp oLt (aH 0) (eC (.int 0)))) (dX (eOp oGt (aH 0) (eOp zGG (eC (.int 10)) (eC (.int 9)))))) (gZ "BadClaim" (aD (eC (.str "a boat's claim is not from 0 to 10 ** 9")) aNil)) sNext) zKR)
def cB:Mir:=fn 1 1 (iJ (eOp oEq (eOp oIx (aH 0) (eC (.int 0))) (eC d_BOAT)))
def iQ:Mir:=fn 1 1 (iJ (eOp oIx (aH 0) (eC (.int 0))))
def cW:Mir:=fn 1 1 (iJ (eOp oIx (aH 0) (eC (.int 1))))
def lP:Mir:=fn 1 1 (iJ (eOp oIx (eOp oIx (aH 0) (eUn zJR (eC (.int 1)))) (eC d_ACROSS)))
def pG:Mir:=fn 1 1 (iJ (eOp oIx (eOp oIx (aH 0) (eUn zJR (eC (.int 1)))) (eC d_UP)))
def gB:Mir:=fn 1 1 (iD (jQ (sZ (aH 0)) jM (eOp oIx (aH 1) (eC d_ACROSS))))
abbrev uF:Sv:=(iJ (eC (.int 0)))
def bH:Mir:=fn 2 2 (bA (sIf (dX (eOp oLt (aH 1) (eB mC (aD (aH 0) aNil)))) (iJ (eOp oIx (aH 0) (aH 1))) sNext) uF)
abbrev tK:Sv:=(cT 3 (aH 4))
abbrev tG:Sv:=(bA (cT 2 (aH 3)) tK)
abbrev tQ:Sv:=(bA (cT 4 (eOp qD (aH 2) (aH 3))) tG)
abbrev tE:Sv:=(iJ (zDM (aD (eOp wB (aH 0) (aH 2)) (aD (eOp wB (aH 1) (aH 2)) aNil))))
abbrev lZ:Sv:=(bA (sIf (dX (eOp oEq (aH 2) (eC (.int 0)))) (iJ (zDM (aD (eC (.int 0)) (aD (eC (.int 1)) aNil)))) sNext) tE)
abbrev sV:Sv:=(bA (eU (dX (eOp oGt (aH 3) (eC (.int 0)))) tQ) lZ)
abbrev tN:Sv:=(bA (cT 3 (aH 1)) sV)
def eR:Mir:=fn 2 5 (bA (cT 2 (eB zNh (aD (aH 0) aNil))) tN)
abbrev xI:Sv:=(cT 3 (eOp qV (aH 3) (eOp oIx (aH 4) (eC (.int 1)))))
abbrev oR:Sv:=(bA (cT 2 (eOp rB (eOp qV (aH 2) (eOp oIx (aH 4) (eC (.int 1)))) (eOp qV (eOp oIx (aH 4) (eC (.int 0))) (aH 3)))) xI)
abbrev wV:Sv:=(iJ (eOp oEq (eOp qV (aH 2) (eOp oIx (aH 1) (eC (.int 1)))) (eOp qV (eOp oIx (aH 1) (eC (.int 0))) (aH 3))))
abbrev wM:Sv:=(bA (yE (sZ (aH 0)) (gName 4) oR) wV)
abbrev xQ:Sv:=(bA (cT 3 (eC (.int 1))) wM)
def fL:Mir:=fn 2 5 (bA (cT 2 (eC (.int 0))) xQ)
abbrev zLs:Sv:=(iJ (zDM (aD (eOp wB (aH 0) (aH 2)) (aD (eOp wB (aH 1) (aH 2)) aNil))))
abbrev zKn:Sv:=(bA (sIf (dX (eOp oLt (aH 1) (eC (.int 0)))) (cT 2 (eUn zJR (aH 2))) sNext) zLs)
abbrev zKS:Sv:=(bA (cT 2 (aO dL (aD (aH 0) (aD (aH 1) aNil)))) zKn)
def jK:Mir:=fn 2 3 (bA (sIf (dX (eOp oEq (aH 1) (eC (.int 0)))) (gZ "NoFraction" (aD (eC (.str "the bottom is nought")) aNil)) sNext) zKS)
def lL:Mir:=fn 2 2 (iJ (eIf (dX (aO fJ (aD (aH 0) (aD (aH 1) aNil)))) (aH 0) (aH 1)))
def eE:Mir:=fn 2 2 (iJ (eOr (aO fJ (aD (aH 0) (aD (eC eY) aNil))) (aO fJ (aD (aH 1) (aD (aH 0) aNil)))))
abbrev zFU:Sv:=(qP (aO bB (aD (aH 0) (aD (aH 1) (aD (eB mC (aD (aH 2) aNil)) aNil)))))
abbrev zGy:Sv:=(bA (qP (aO eG (aD (aH 2) aNil))) zFU)
def lA:Mir:=fn 3 3 (bA (qP (aO bY (aD (aH 0) aNil))) zGy)
abbrev sY:Sv:=(iJ (eUn (vJ aV) (aH 0)))
def dO:Mir:=fn 1 1 (bA (qP (aO bY (aD (aH 0) aNil))) sY)
def bQ:Mir:=fn 1 1 (iJ (eIf (dX (aO cB (aD (aH 0) aNil))) (zDM aNil) (eOp oIx (aH 0) (eC (.int 2)))))
abbrev vR:Sv:=(sIf (dX (aO fJ (aD (eOp oIx (aH 3) (eC d_UP)) (aD (eOp oIx (aH 2) (eC d_UP)) aNil)))) (gZ "BadLine" (aD (eC (.str "a y is less than the one ahead")) aNil)) sNext)
abbrev wU:Sv:=(bA (sIf (zGe (dX (aO fJ (aD (eOp oIx (aH 2) (eC d_ACROSS)) (aD (eOp oIx (aH 3) (eC d_ACROSS)) aNil))))) (gZ "BadLine" (aD (eC (.str "an x is not greater than the one ahead")) aNil)) sNext) vR)
abbrev wW:Sv:=(bA (cT 3 (eOp oIx (aH 0) (aH 1))) wU)
abbrev wP:Sv:=(bA (cT 2 (eOp oIx (aH 0) (eOp zEa (aH 1) (eC (.int 1))))) wW)
abbrev wH:Sv:=(yE (zFZ (aD (eC (.int 1)) (aD (eB mC (aD (aH 0) aNil)) aNil))) (gName 1) wP)
abbrev xG:Sv:=(bA (sIf (dX (eOp oNe (eOp oIx (aH 0) (eC (.int 0))) (zDM (aD (eC eY) (aD (eC eY) aNil))))) (gZ "BadLine" (aD (eC (.str "the first point is not nought and nought")) aNil)) sNext) wH)
def gY:Mir:=fn 1 4 (bA (sIf (dX (eOp oEq (eB mC (aD (aH 0) aNil)) (eC (.int 0)))) (gZ "BadLine" (aD (eC (.str "a line has a point")) aNil)) sNext) xG)
abbrev qM:Sv:=(sIf (dX (aO fJ (aD (eOp oIx (eOp oIx (aH 0) (aH 5)) (aH 1)) (aD (aH 2) aNil)))) (cT 3 (eOp rB (aH 5) (eC (.int 1)))) (cT 4 (aH 5)))
abbrev pJ:Sv:=(bA (cT 5 (eOp wB (eOp rB (aH 3) (aH 4)) (eC (.int 2)))) qM)
abbrev kB:Sv:=(iJ (aH 3))
abbrev qJ:Sv:=(bA (eU (dX (eOp oLt (aH 3) (aH 4))) pJ) kB)
abbrev qG:Sv:=(bA (cT 4 (eOp zEa (eB mC (aD (aH 0) aNil)) (eC (.int 1)))) qJ)
def dJ:Mir:=fn 3 6 (bA (cT 3 (eC (.int 0))) qG)
abbrev zGk:Sv:=(zJU 3 zAj (eC (.int 1)))
abbrev zGs:Sv:=(bA (zGr 2 (eOp oIx (aH 1) (aH 3))) zGk)
abbrev zFM:Sv:=(zGr 2 (aH 4))
abbrev rV:Sv:=(bA (sIf (zDo (dX (eOp oLt (aH 3) (eB mC (aD (aH 1) aNil)))) (dX (eOp oEq (eOp oIx (aH 1) (aH 3)) (aH 4)))) (zJU 3 zAj (eC (.int 1))) sNext) zFM)
abbrev zGB:Sv:=(bA (eU (zDo (dX (eOp oLt (aH 3) (eB mC (aD (aH 1) aNil)))) (dX (aO fJ (aD (eOp oIx (aH 1) (aH 3)) (aD (aH 4) aNil))))) zGs) rV)
abbrev zDQ:Sv:=(fG 2)
abbrev zDm:Sv:=(bA (zMs 2 (fSl (aH 1) (oS (aH 3)) oN)) zDQ)
abbrev zFC:Sv:=(bA (yE (sZ (aH 0)) (gName 4) zGB) zDm)
abbrev zGo:Sv:=(bA (cT 3 (eC (.int 0))) zFC)
def lH:Mir:=fn 2 5 (bA (zCM 2 (qU aNil)) zGo)
abbrev xU:Sv:=(zGr 2 (aO bJ (aD (aH 1) aNil)))
abbrev oM:Sv:=(bA (zJU 1 zAj (aH 3)) xU)
abbrev xD:Sv:=(fG 2)
abbrev wX:Sv:=(bA (yE (sZ (aH 0)) (gName 3) oM) xD)
abbrev wQ:Sv:=(bA (zCM 2 (qU (aD (eC eY) aNil))) wX)
def fO:Mir:=fn 1 4 (bA (cT 1 (eC (.int 0))) wQ)
abbrev jL:Sv:=(sIf (tFrzB (dX (aO fJ (aD (eOp oIx (aH 1) (eUn zJR (eC (.int 1)))) (aD (aH 2) aNil))))) (zGr 1 (aH 2)) sNext)
abbrev oV:Sv:=(fG 1)
abbrev oX:Sv:=(bA (yE (sZ (aH 0)) (gName 2) jL) oV)
def dA:Mir:=fn 1 3 (bA (zCM 1 (fSl (aH 0) oN (oS (eC (.int 1))))) oX)
abbrev kG:Sv:=(iJ (aO eR (aD (eOp qD (eOp wB (aH 0) (eC (.int 4))) (eOp rB (eOp qV (aH 1) (aH 2)) (eC (.int 1)))) (aD (aH 2) aNil))))
abbrev wL:Sv:=(bA (cT 2 (eOp oIx (eF (qU (aD (eC (.int 1)) (aD (eC (.int 2)) (aD (eOp rB (eC (.int 1)) (eOp qD (eOp wB (aH 0) (eC (.int 4))) (eC (.int 12)))) (aD (eOp rB (eC (.int 1)) (eOp qD (eOp wB (aH 0) (eC (.int 4))) (eOp zGG (eC (.int 10)) (eC (.int 9))))) aNil)))))) (eOp qD (aH 0) (eC (.int 4))))) kG)
def hG:Mir:=fn 2 3 (bA (cT 0 (eOp qD (aH 0) (eOp zGG (eC (.int 10)) (eC (.int 40))))) wL)
abbrev xR:Sv:=(zGr 3 (eOp oIx (eF (qU (aD (eOp qD (eOp wB (aH 5) (eC (.int 3))) (eC (.int 13))) (aD (eOp qD (eOp wB (aH 5) (eC (.int 3))) (eC (.int 3))) (aD (eOp qD (eOp wB (aH 5) (eC (.int 3))) (eOp rB (eOp zGG (eC (.int 10)) (eC (.int 9))) (eC (.int 1)))) aNil))))) (eOp qD (aH 5) (eC (.int 3)))))
abbrev xK:Sv:=(bA (cT 5 (eOp qD (aO bH (aD (aH 0) (aD (eOp rB (eOp rB (aH 1) (eC (.int 1))) (aH 4)) aNil))) (eOp zGG (eC (.int 10)) (eC (.int 30))))) xR)
abbrev oO:Sv:=(fG 3)
abbrev xL:Sv:=(bA (yE (xE (aD (eOp rB (eC (.int 1)) (eOp qD (aO bH (aD (aH 0) (aD (aH 1) aNil))) (aH 2))) aNil)) (gName 4) xK) oO)
def gX:Mir:=fn 3 6 (bA (zCM 3 (qU aNil)) xL)
abbrev lY:Sv:=(zOU 1 (aH 2) (eOp rB (eOp rB (eOp qD (aH 3) (eC (.int 2))) (eOp qV (eOp qD (eOp wB (aH 3) (eC (.int 2))) (eC (.int 3))) (eC (.int 2)))) (eOp qV (eC (.int 24)) (eOp qD (eOp wB (aH 3) (eC (.int 36))) (eC (.int 2))))))
abbrev sU:Sv:=(bA (cT 3 (zNv (eOp oIx (aH 1) (aH 2)))) lY)
abbrev mE:Sv:=(fG 1)
abbrev tI:Sv:=(bA (sIf (dX (eOp oEq (eOp qD (eOp wB (aO bH (aD (aH 0) (aD (eC (.int 0)) aNil))) (eC (.int 5))) (eC (.int 3))) (eC (.int 1)))) (yE (zFZ (aD (eC (.int 6)) (aD (zNv (eB zOK (aD (eC (.int 18)) (aD (eB mC (aD (aH 1) aNil)) aNil)))) aNil))) (gName 2) sU) sNext) mE)
def eV:Mir:=fn 1 4 (bA (zCM 1 (zNQ (aD (aH 0) aNil))) tI)
def mD:Mir:=fn 2 2 (iJ (aO jK (aD (eOp rB (eOp qV (eOp oIx (aH 0) (eC (.int 0))) (eOp oIx (aH 1) (eC (.int 1)))) (eOp qV (eOp oIx (aH 1) (eC (.int 0))) (eOp oIx (aH 0) (eC (.int 1))))) (aD (eOp qV (eOp oIx (aH 0) (eC (.int 1))) (eOp oIx (aH 1) (eC (.int 1)))) aNil))))
def cS:Mir:=fn 2 2 (iJ (aO jK (aD (eOp zEa (eOp qV (eOp oIx (aH 0) (eC (.int 0))) (eOp oIx (aH 1) (eC (.int 1)))) (eOp qV (eOp oIx (aH 1) (eC (.int 0))) (eOp oIx (aH 0) (eC (.int 1))))) (aD (eOp qV (eOp oIx (aH 0) (eC (.int 1))) (eOp oIx (aH 1) (eC (.int 1)))) aNil))))
def dI:Mir:=fn 2 2 (iJ (aO jK (aD (eOp qV (eOp oIx (aH 0) (eC (.int 0))) (eOp oIx (aH 1) (eC (.int 0)))) (aD (eOp qV (eOp oIx (aH 0) (eC (.int 1))) (eOp oIx (aH 1) (eC (.int 1)))) aNil))))
def qI:Mir:=fn 2 2 (iJ (aO jK (aD (eOp qV (eOp oIx (aH 0) (eC (.int 0))) (eOp oIx (aH 1) (eC (.int 1)))) (aD (eOp qV (eOp oIx (aH 0) (eC (.int 1))) (eOp oIx (aH 1) (eC (.int 0)))) aNil))))
def bG:Mir:=fn 2 2 (sIf (dX (aO eE (aD (aH 0) (aD (aH 1) aNil)))) (gZ "Outside" (aD (eC (.str "below nought, or more than there can be")) aNil)) sNext)
def eD:Mir:=fn 2 2 (iD (vW (zMh (aD (aH 1) (aD (aH 0) aNil))) (aO jK (aD (aH 2) (aD (aH 3) aNil)))))
abbrev zAR:Sv:=(cT 2 (aO cS (aD (aH 2) (aD (aH 5) aNil))))
abbrev zAi:Sv:=(bA (zGr 3 (aH 5)) zAR)
abbrev pP:Sv:=(bA (cT 5 (aO lL (aD (aH 2) (aD (aO bJ (aD (aH 4) aNil)) aNil)))) zAi)
abbrev zAd:Sv:=(fG 3)
abbrev zQ:Sv:=(bA (yE (sZ (aH 0)) (gName 4) pP) zAd)
abbrev zAZ:Sv:=(bA (zCM 3 (qU aNil)) zQ)
def gM:Mir:=fn 2 6 (bA (cT 2 (aH 1)) zAZ)
abbrev xA:Sv:=(zJU 4 zEa (eOp oIx (aH 0) (aH 6)))
abbrev xO:Sv:=(bA (cT 3 (zNv (aO cS (aD (aH 3) (aD (eOp oIx (aH 5) (aH 6)) aNil))))) xA)
abbrev wK:Sv:=(bA (zOU 5 (aH 6) (aO lL (aD (aH 7) (aD (aO bJ (aD (eOp oIx (aH 1) (aH 6)) aNil)) aNil)))) xO)
abbrev bX:Sv:=(bA (cT 7 (aO qI (aD (aO dI (aD (aH 3) (aD (aO bJ (aD (eOp oIx (aH 0) (aH 6)) aNil)) aNil))) (aD (aO bJ (aD (aH 4) aNil)) aNil)))) wK)
abbrev kJ:Sv:=(fG 5)
abbrev oP:Sv:=(zJx (aD (eF (cD eD (aD (aH 0) (aD (aH 1) aNil)))) aNil) kC (gName 6) bX kJ)
abbrev xH:Sv:=(bA (zCM 5 (zMQ (qU (aD (eC eY) aNil)) (eB mC (aD (aH 1) aNil)))) oP)
abbrev wZ:Sv:=(bA (cT 4 (eB zCv (aD (aH 0) aNil))) xH)
def dC:Mir:=fn 3 8 (bA (cT 3 (aH 2)) wZ)
abbrev wI:Sv:=(iD (jQ (sZ (aH 0)) jM (aO dI (aD (aH 3) (aD (aO bJ (aD (aH 4) aNil)) aNil)))))
abbrev xP:Sv:=(bA (cT 3 (aO qI (aD (aH 1) (aD (aO bJ (aD (aH 2) aNil)) aNil)))) wI)
abbrev xF:Sv:=(bA (sIf (dX (eOp oEq (aH 2) (eC (.int 0)))) (iD (zMQ (qU (aD (eC eY) aNil)) (eB mC (aD (aH 0) aNil)))) sNext) xP)
def fI:Mir:=fn 2 4 (bA (cT 2 (eB zCv (aD (aH 0) aNil))) xF)
abbrev wO:Sv:=(iJ (eOp oEq (aO dI (aD (aH 3) (aD (aH 6) aNil))) (aO dI (aD (aH 4) (aD (aH 5) aNil)))))
abbrev wJ:Sv:=(bA (cT 6 (aO cS (aD (eOp oIx (aH 2) (eC d_ACROSS)) (aD (eOp oIx (aH 1) (eC d_ACROSS)) aNil)))) wO)
abbrev xS:Sv:=(bA (cT 5 (aO cS (aD (eOp oIx (aH 1) (eC d_ACROSS)) (aD (eOp oIx (aH 0) (eC d_ACROSS)) aNil)))) wJ)
abbrev wN:Sv:=(bA (cT 4 (aO cS (aD (eOp oIx (aH 2) (eC d_UP)) (aD (eOp oIx (aH 1) (eC d_UP)) aNil)))) xS)
def hZ:Mir:=fn 3 7 (bA (cT 3 (aO cS (aD (eOp oIx (aH 1) (eC d_UP)) (aD (eOp oIx (aH 0) (eC d_UP)) aNil)))) wN)
abbrev zMH:Sv:=(iJ (aO mD (aD (eOp oIx (aH 6) (aH 3)) (aD (aO dI (aD (aH 7) (aD (aO cS (aD (eOp oIx (aH 5) (aH 3)) (aD (eOp oIx (aH 6) (aH 3)) aNil))) aNil))) aNil))))
abbrev zNO:Sv:=(bA (cT 7 (aO qI (aD (aO cS (aD (aH 2) (aD (eOp oIx (aH 6) (aH 1)) aNil))) (aD (aO cS (aD (eOp oIx (aH 5) (aH 1)) (aD (eOp oIx (aH 6) (aH 1)) aNil))) aNil)))) zMH)
abbrev zNE:Sv:=(bA (cT 6 (eOp oIx (aH 0) (eOp zEa (aH 4) (eC (.int 1))))) zNO)
abbrev zNJ:Sv:=(bA (sIf (dX (eOp oEq (eOp oIx (aH 5) (aH 1)) (aH 2))) (iJ (eOp oIx (aH 5) (aH 3))) sNext) zNE)
abbrev zOC:Sv:=(bA (cT 5 (eOp oIx (aH 0) (aH 4))) zNJ)
abbrev zMF:Sv:=(bA (cT 4 (aO dJ (aD (aH 0) (aD (aH 1) (aD (aH 2) aNil))))) zOC)
def uM:Mir:=fn 3 8 (bA (cT 3 (eOp zEa (eC (.int 1)) (aH 1))) zMF)
abbrev vF:Sv:=(zJU 3 zEa (eOp oIx (aH 0) (aH 6)))
abbrev uG:Sv:=(bA (zJU 2 zAj (eOp oIx (aH 1) (aH 6))) vF)
abbrev fS:Sv:=(bA (zGr 5 (aO mD (aD (aO bJ (aD (aH 2) aNil)) (aD (aO dI (aD (eOp oIx (aH 4) (aH 6)) (aD (aO bJ (aD (aH 3) aNil)) aNil))) aNil)))) uG)
abbrev nS:Sv:=(fG 5)
abbrev mU:Sv:=(zJx (aD (aH 4) aNil) kC (gName 6) fS nS)
abbrev uU:Sv:=(bA (zCM 5 (qU (aD (eC eY) aNil))) mU)
abbrev uS:Sv:=(bA (cT 4 (eF (cD eD (aD (aH 0) (aD (aH 1) aNil))))) uU)
abbrev uX:Sv:=(bA (cT 3 (eB zCv (aD (aH 0) aNil))) uS)
def dF:Mir:=fn 2 7 (bA (cT 2 (eC (.int 0))) uX)
def gK:Mir:=fn 2 2 (iD (jQ (zKB (aH 0)) jM (aO cS (aD (aH 1) (aD (aH 2) aNil)))))
abbrev xJ:Sv:=(iD (jQ (sZ (eF (cD dC (aD (aH 2) (aD (aH 0) (aD (aO mD (aD (aH 1) (aD (aH 1) aNil))) aNil)))))) jM (aO dI (aD (aH 3) (aD (eC d_HALF) aNil)))))
def fP:Mir:=fn 2 3 (bA (cT 2 (eF (zMQ (qU (aD (eC (.int 1)) aNil)) (eB mC (aD (aH 0) aNil))))) xJ)
abbrev uW:Sv:=(zGr 1 (aH 2))
abbrev zEd:Sv:=(bA (sIf (tFrzB (zDo (dX (eOp oGt (eB mC (aD (aH 1) aNil)) (eC (.int 1)))) (dX (aO hZ (aD (eOp oIx (aH 1) (eUn zJR (eC (.int 2)))) (aD (eOp oIx (aH 1) (eUn zJR (eC (.int 1)))) (aD (aH 2) aNil))))))) (zPB 1) sNext) uW)
abbrev zDZ:Sv:=(iJ (eB zKK (aD (aH 1) aNil)))
abbrev zEb:Sv:=(bA (yE (sZ (aH 0)) (gName 2) zEd) zDZ)
abbrev zDG:Sv:=(bA (zCM 1 (qU aNil)) zEb)
def eS:Mir:=fn 1 3 (bA (qP (aO gY (aD (aH 0) aNil))) zDG)
abbrev zGP:Sv:=(iJ (aO uM (aD (aH 0) (aD (eC d_ACROSS) (aD (aH 1) aNil)))))
def iY:Mir:=fn 2 2 (bA (qP (aO bG (aD (aH 1) (aD (aO lP (aD (aH 0) aNil)) aNil)))) zGP)
abbrev zGh:Sv:=(iJ (aO eS (aD (eF (jQ (sZ (aH 3)) jM (zDM (aD (aH 4) (aD (aO iY (aD (aH 0) (aD (aO iY (aD (aH 1) (aD (aH 4) aNil))) aNil))) aNil))))) aNil)))
abbrev zFX:Sv:=(bA (cT 3 (eF (cD lH (aD (eF (cD gB (aD (aH 1) aNil))) (aD (aH 2) aNil))))) zGh)
abbrev zFQ:Sv:=(bA (cT 2 (eF (jQ (sZ (eF (cD gB (aD (aH 0) aNil)))) jM (aO uM (aD (aH 1) (aD (eC d_UP) (aD (aH 4) aNil))))))) zFX)
def gT:Mir:=fn 2 4 (bA (sIf (dX (eOp oNe (aO lP (aD (aH 0) aNil)) (aO pG (aD (aH 1) aNil)))) (gZ "Unlike" (aD (eC (.str "the first line's length is not the second one's height")) aNil)) sNext) zFQ)
def nF:Mir:=fn 3 3 (iJ (aO eS (aD (eF (vW (zMh (aD (aH 0) (aD (aH 1) aNil))) (zDM (aD (aH 3) (aD (eOp oIx (aH 4) (aH 2)) aNil))))) aNil)))
abbrev zCK:Sv:=(iJ (aO eS (aD (eF (qU (aD (aH 1) (aD (zDM (aD (aO bJ (aD (aH 0) aNil)) (aD (aO bJ (aD (aH 0) aNil)) aNil))) aNil)))) aNil)))
abbrev zBz:Sv:=(bA (sIf (dX (eOp oEq (aH 0) (eC (.int 0)))) (iJ (aO eS (aD (eF (qU (aD (aH 1) aNil))) aNil))) sNext) zCK)
def gJ:Mir:=fn 1 2 (bA (cT 1 (zDM (aD (eC eY) (aD (eC eY) aNil)))) zBz)
abbrev sW:Sv:=(iJ (eOp oIx (eF (jQ (sZ (aH 2)) (dX (eOp oNe (aO iY (aD (aH 0) (aD (aH 3) aNil))) (aO iY (aD (aH 1) (aD (aH 3) aNil))))) (aH 3))) (eC (.int 0))))
def eQ:Mir:=fn 2 3 (bA (cT 2 (eF (cD lH (aD (eF (cD gB (aD (aH 0) aNil))) (aD (eF (cD gB (aD (aH 1) aNil))) aNil))))) sW)
abbrev wY(r:Mir):Sv:=(iD (zPa (aH 4) (eF (cD gK (aD (aH 4) (aD (aH 3) aNil))))))
abbrev wT(r:Mir):Sv:=(iD (cD gK (aD (eF (cD r (aD (aO dO (aD (aH 0) aNil)) (aD (aH 1) (aD (aH 2) aNil))))) (aD (aH 3) aNil))))
abbrev zAm(r:Mir):Sv:=(bA (sIf (dX (eOp oEq (aH 0) (eC (.str "half")))) (bA (cT 4 (eF (jQ (sZ (eF (cD dF (aD (eF (zMQ (qU (aD (eC (.int 1)) aNil)) (eB mC (aD (aH 2) aNil)))) (aD (aH 2) aNil))))) jM (aO dI (aD (aH 5) (aD (eC d_HALF) aNil)))))) (wY r)) sNext) (wT r))
abbrev zAG(r:Mir):Sv:=(bA (sIf (dX (eOp oEq (aH 0) (eC (.str "part")))) (iD (qU (aD (eC eY) (aD (aH 3) aNil)))) sNext) (zAm r))
abbrev zBa(r:Mir):Sv:=(bA (sIf (dX (eOp oEq (aH 0) (eC (.str "even")))) (iD (cD dF (aD (aH 1) (aD (aH 2) aNil)))) sNext) (zAG r))
abbrev zAa(r:Mir):Sv:=(bA (sIf (dX (eOp oEq (aH 0) (eC (.str "row")))) (iD (cD fO (aD (aH 2) aNil))) sNext) (zBa r))
def cA(r:Mir):Mir:=fn 3 5 (bA (cT 3 (aO bJ (aD (eB zCv (aD (aH 2) aNil)) aNil))) (zAa r))
def bK:Nat->Mir
 | 0=>fn 3 5 sNo
 | n+1=>cA (bK n)
abbrev qH(r:Mir):Sv:=(iD (vW (zMh (aD (aH 2) (aD (aH 5) aNil))) (aO cS (aD (aO bJ (aD (aH 6) aNil)) (aD (aH 7) aNil)))))
abbrev qB(r:Mir):Sv:=(bA (cT 5 (eF (cD r (aD (eUn (vJ aV) (aH 0)) (aD (aH 1) (aD (aH 2) (aD (aO cS (aD (aH 4) (aD (aH 3) aNil))) aNil))))))) (qH r))
abbrev rY(r:Mir):Sv:=(bA (sIf (zDo (dX (eOp oEq (aH 0) (eC (.str "half")))) (zGe (dX (aO fJ (aD (aH 4) (aD (aO mD (aD (aH 3) (aD (aH 3) aNil))) aNil)))))) (iD (cD fP (aD (aH 2) (aD (aH 3) aNil)))) sNext) (qB r))
abbrev rP(r:Mir):Sv:=(bA (sIf (dX (eOp oEq (aH 0) (eC (.str "part")))) (iD (cD fI (aD (aH 2) (aD (aH 3) aNil)))) sNext) (rY r))
abbrev rL(r:Mir):Sv:=(bA (sIf (dX (eOp oEq (aH 0) (eC (.str "even")))) (iD (cD dC (aD (aH 1) (aD (aH 2) (aD (aH 3) aNil))))) sNext) (rP r))
abbrev rX(r:Mir):Sv:=(bA (sIf (dX (eOp oEq (aH 0) (eC (.str "row")))) (iD (cD gM (aD (aH 2) (aD (aH 3) aNil)))) sNext) (rL r))
def aS(r:Mir):Mir:=fn 4 6 (bA (cT 4 (aO bJ (aD (eB zCv (aD (aH 2) aNil)) aNil))) (rX r))
def aN:Nat->Mir
 | 0=>fn 4 6 sNo
 | n+1=>aS (aN n)
abbrev zJs:Sv:=(iD (cD (aN 2) (aD (aH 0) (aD (aH 1) (aD (aH 2) (aD (aH 3) aNil))))))
abbrev zHz:Sv:=(bA (qP (aO bG (aD (aH 3) (aD (aO bJ (aD (eB zCv (aD (aH 2) aNil)) aNil)) aNil)))) zJs)
def rF:Mir:=fn 4 4 (bA (qP (aO lA (aD (aH 0) (aD (aH 1) (aD (aH 2) aNil))))) zHz)
abbrev zA:Sv:=(iD (jQ (xE (aD (eB mC (aD (aH 2) aNil)) aNil)) jM (aO nF (aD (aH 3) (aD (aH 4) (aD (aH 5) aNil))))))
abbrev zD:Sv:=(bA (cT 4 (eF (jQ (sZ (aH 3)) jM (eF (cD (aN 2) (aD (aH 0) (aD (aH 1) (aD (aH 2) (aD (aH 5) aNil))))))))) zA)
abbrev zAL:Sv:=(bA (cT 3 (eF (cD dA (aD (eF (cD (bK 2) (aD (aH 0) (aD (aH 1) (aD (aH 2) aNil))))) aNil)))) zD)
def gO:Mir:=fn 3 5 (bA (qP (aO lA (aD (aH 0) (aD (aH 1) (aD (aH 2) aNil))))) zAL)
abbrev zAl(r:Mir):Sv:=(zMs 1 (cD r (aD (aH 2) aNil)))
abbrev zAg(r:Mir):Sv:=(fG 1)
abbrev yS(r:Mir):Sv:=(bA (yE (sZ (aO bQ (aD (aH 0) aNil))) (gName 2) (zAl r)) (zAg r))
abbrev zAW(r:Mir):Sv:=(bA (zCM 1 (qU aNil)) (yS r))
def lK(r:Mir):Mir:=fn 1 3 (bA (sIf (dX (aO cB (aD (aH 0) aNil))) (iD (qU (aD (eOp oIx (aH 0) (eC (.int 1))) aNil))) sNext) (zAW r))
def cN:Nat->Mir
 | 0=>fn 1 3 sNo
 | n+1=>lK (cN n)
def pS(r:Mir):Mir:=fn 1 1 (iJ (eOp rB (eC (.int 1)) (eOp (fun x y=>zDV [x,y]) (eF (jQ (sZ (aO bQ (aD (aH 0) aNil))) jM (aO r (aD (aH 1) aNil)))) (eC (.int 0)))))
def jH:Nat->Mir
 | 0=>fn 1 1 sNo
 | n+1=>pS (jH n)
abbrev zKY:Sv:=(iJ (aH 3))
abbrev zKh:Sv:=(bA (sIf (zJP (dX (eOp oEq (eB mC (aD (aH 2) aNil)) (eC (.int 0)))) (zJP (dX (eOp oGt (eB mC (aD (eF (cD (cN 10) (aD (aH 3) aNil))) aNil)) (eC d_MOST_BOATS))) (dX (eOp oGt (aO (jH 10) (aD (aH 3) aNil)) (eC d_DEEPEST))))) (gZ "TooMany" (aD (eC (.str "no kid, or too many boats, or too deep")) aNil)) sNext) zKY)
abbrev zKf:Sv:=(bA (cT 3 (zDM (aD (aH 0) (aD (eB zKK (aD (aH 1) aNil)) (aD (eB zKK (aD (aH 2) aNil)) aNil))))) zKh)
abbrev zKm:Sv:=(bA (qP (aO bB (aD (aH 0) (aD (aH 1) (aD (eB mC (aD (aH 2) aNil)) aNil))))) zKf)
def yI:Mir:=fn 3 4 (bA (qP (aO bY (aD (aH 0) aNil))) zKm)
def dP:Mir:=fn 1 1 (iJ (eB zCv (aD (eF (cD (cN 10) (aD (aH 0) aNil))) aNil)))
def cV:Mir:=fn 1 1 (iD (jQ (sZ (aO bQ (aD (aH 0) aNil))) jM (aO dP (aD (aH 1) aNil))))
abbrev sM:Sv:=(iJ (aO yI (aD (aH 2) (aD (aH 3) (aD (aH 0) aNil)))))
abbrev zCd:Sv:=(bA (sIf (zJP (dX (eOp oEq (aH 2) (eC (.str "even")))) (dX (eOp oEq (aH 2) (eC (.str "lack"))))) (cT 3 (eF (jQ (xE (aD (eB mC (aD (aH 0) aNil)) aNil)) jM (eOp rB (eC (.int 1)) (eOp qD (eOp wB (aH 1) (eOp rB (eC (.int 6)) (eOp qV (eC (.int 13)) (aH 4)))) (eC (.int 4))))))) sNext) sM)
abbrev zBg:Sv:=(bA (cT 3 (eF (qU aNil))) zCd)
def iU:Mir:=fn 2 4 (bA (cT 2 (eOp oIx (eF (qU (aD (eC (.str "row")) (aD (eC (.str "back")) (aD (eC (.str "even")) (aD (eC (.str "lack")) (aD (eC (.str "part")) (aD (eC (.str "half")) aNil)))))))) (eOp qD (aH 1) (eC (.int 6))))) zBg)
abbrev zBD:Sv:=(zCM 3 (zRe (zPa (eF (fSl (aH 3) oN (oS (eUn zJR (aH 7))))) (eF (qU (aD (aO iU (aD (eF (fSl (aH 3) (oS (eUn zJR (aH 7))) oN)) (aD (eOp wB (aH 6) (eC (.int 6))) aNil))) aNil))))))
abbrev zBK:Sv:=(sIf (dX (eOp oEq (eOp qD (aH 6) (eC (.int 2))) (eC (.int 1)))) (bA (cT 7 (zNv (eOp rB (eC (.int 1)) (eOp qD (eOp wB (aH 6) (eC (.int 2))) (eB zOK (aD (eC (.int 3)) (aD (eB mC (aD (aH 3) aNil)) aNil))))))) zBD) sNext)
abbrev zBR:Sv:=(bA (cT 6 (eOp qD (aO bH (aD (aH 1) (aD (eOp rB (aH 2) (aH 4)) aNil))) (eOp zGG (eC (.int 10)) (eC (.int 30))))) zBK)
abbrev zBT:Sv:=(bA (zGr 3 (aO zCH (aD (aH 5) aNil))) zBR)
abbrev sI:Sv:=(sFrzAt 3 (iJ (aO iU (aD (aH 3) (aD (eOp qD (aO bH (aD (aH 1) (aD (eOp rB (aH 2) (eB mC (aD (aH 0) aNil))) aNil))) (eOp zGG (eC (.int 10)) (eC (.int 30)))) aNil)))))
abbrev zBB:Sv:=(bA (yE (zJZ (aH 0)) (zGH (mM (gName 4) (mM (gName 5) zGF))) zBT) sI)
def iW:Mir:=fn 3 8 (bA (zCM 3 (qU aNil)) zBB)
abbrev sD(r:Mir):Sv:=(zMs 3 (cD r (aD (aH 4) (aD (aH 5) aNil))))
abbrev zBE(r:Mir):Sv:=(fG 3)
abbrev zCw(r:Mir):Sv:=(bA (yE (zMh (aD (aO bQ (aD (aH 0) aNil)) (aD (aH 2) aNil))) (zGH (mM (gName 4) (mM (gName 5) zGF))) (sD r)) (zBE r))
abbrev zBe(r:Mir):Sv:=(bA (zCM 3 (qU aNil)) (zCw r))
abbrev zCi(r:Mir):Sv:=(bA (cT 2 (eF (cD rF (aD (aO iQ (aD (aH 0) aNil)) (aD (aO cW (aD (aH 0) aNil)) (aD (eF (cD cV (aD (aH 0) aNil))) (aD (aH 1) aNil))))))) (zBe r))
def iV(r:Mir):Mir:=fn 2 6 (bA (sIf (dX (aO cB (aD (aH 0) aNil))) (iD (qU (aD (aH 1) aNil))) sNext) (zCi r))
def fN:Nat->Mir
 | 0=>fn 2 6 sNo
 | n+1=>iV (fN n)
abbrev sK(r:Mir):Sv:=(zMs 2 (jQ (sZ (eF (cD r (aD (aH 3) aNil)))) jM (aO gT (aD (aH 5) (aD (aH 4) aNil)))))
abbrev zBG(r:Mir):Sv:=(fG 2)
abbrev zBb(r:Mir):Sv:=(bA (yE (zMh (aD (aO bQ (aD (aH 0) aNil)) (aD (aH 1) aNil))) (zGH (mM (gName 3) (mM (gName 4) zGF))) (sK r)) (zBG r))
abbrev zCI(r:Mir):Sv:=(bA (zCM 2 (qU aNil)) (zBb r))
abbrev zBr(r:Mir):Sv:=(bA (cT 1 (eF (cD gO (aD (aO iQ (aD (aH 0) aNil)) (aD (aO cW (aD (aH 0) aNil)) (aD (eF (cD cV (aD (aH 0) aNil))) aNil)))))) (zCI r))
def iS(r:Mir):Mir:=fn 1 5 (bA (sIf (dX (aO cB (aD (aH 0) aNil))) (iD (qU (aD (aO gJ (aD (aO dP (aD (aH 0) aNil)) aNil)) aNil))) sNext) (zBr r))
def eN:Nat->Mir
 | 0=>fn 1 5 sNo
 | n+1=>iS (eN n)
abbrev zGl:Sv:=(iD (cD (fN 10) (aD (aH 0) (aD (aH 1) aNil))))
def iL:Mir:=fn 2 2 (bA (qP (aO bG (aD (aH 1) (aD (aO bJ (aD (aO dP (aD (aH 0) aNil)) aNil)) aNil)))) zGl)
abbrev zFO:Sv:=(sIf (dX (eOp oNe (eOp oIx (aH 2) (aH 4)) (eOp oIx (aH 3) (aH 4)))) (iJ (zDM (aD (aO eQ (aD (eOp oIx (aH 2) (aH 4)) (aD (eOp oIx (aH 3) (aH 4)) aNil))) (aD (aH 4) aNil)))) sNext)
abbrev yG:Sv:=(iJ (eC .non))
abbrev zGi:Sv:=(bA (yE (xE (aD (eB mC (aD (aH 2) aNil)) aNil)) (gName 4) zFO) yG)
abbrev zGg:Sv:=(bA (cT 3 (eF (cD (eN 10) (aD (aH 1) aNil)))) zGi)
abbrev zGa:Sv:=(bA (cT 2 (eF (cD (eN 10) (aD (aH 0) aNil)))) zGg)
def lC:Mir:=fn 2 5 (bA (sIf (dX (eOp oNe (eF (cD (cN 10) (aD (aH 0) aNil))) (eF (cD (cN 10) (aD (aH 1) aNil))))) (gZ "Unlike" (aD (eC (.str "the boats' claims are not the same")) aNil)) sNext) zGa)
def pD:Mir:=fn 2 2 (iJ (zRd (aO lC (aD (aH 0) (aD (aH 1) aNil)))))
abbrev zJX:Sv:=(sIf (dX (eOp oEq (eOp oIx (eF (cD iL (aD (aH 3) (aD (eOp oIx (aH 6) (eC (.int 0))) aNil)))) (aH 7)) (eOp oIx (eF (cD iL (aD (aH 4) (aD (eOp oIx (aH 6) (eC (.int 0))) aNil)))) (aH 7)))) (iJ (eC (.bl false))) sNext)
abbrev zKa:Sv:=(sIf (zJP (dX (eOp oNe (eF (fSl (aH 10) oN (oS (aH 7)))) (eF (fSl (aH 11) oN (oS (aH 7)))))) (zJP (zGe (dX (aO fL (aD (aH 10) (aD (aH 9) aNil))))) (zGe (dX (aO fL (aD (aH 11) (aD (aH 9) aNil))))))) (iJ (eC (.bl false))) sNext)
abbrev zKQ:Sv:=(bA (cT 11 (eF (cD iL (aD (aH 4) (aD (aH 9) aNil))))) zKa)
abbrev zLl:Sv:=(bA (cT 10 (eF (cD iL (aD (aH 3) (aD (aH 9) aNil))))) zKQ)
abbrev zEP:Sv:=(bA (cT 9 (aO hG (aD (aH 8) (aD (eB zCv (aD (aH 2) aNil)) aNil)))) zLl)
abbrev zEf:Sv:=(iJ (eC (.bl true)))
abbrev yU:Sv:=(bA (yE (sZ (eF (zPa (eF (qU (aD (aO bH (aD (aH 0) (aD (eC (.int 1)) aNil))) (aD (aO bH (aD (aH 0) (aD (eC (.int 2)) aNil))) aNil)))) (eF (fSl (aH 0) (oS (eC (.int 18))) (oS (eC (.int 28)))))))) (gName 8) zEP) zEf)
abbrev zFd:Sv:=(bA (sIf (dX (zKs (aH 6))) (bA (cT 7 (eOp oIx (aH 6) (eC (.int 1)))) zJX) sNext) yU)
abbrev zHC:Sv:=(bA (sIf (dX (eOp oNe (aH 5) (zRd (aH 6)))) (iJ (eC (.bl false))) sNext) zFd)
abbrev zHw:Sv:=(bA (cT 7 (eB mC (aD (aH 2) aNil))) zHC)
abbrev zJG:Sv:=(bA (cT 6 (aO lC (aD (aH 3) (aD (aH 4) aNil)))) zHw)
abbrev zII:Sv:=(bA (cT 5 (aO pD (aD (aH 3) (aD (aH 4) aNil)))) zJG)
abbrev zHr:Sv:=(bA (cT 4 (aO iW (aD (aH 2) (aD (aH 1) (aD (eC (.int 12)) aNil))))) zII)
abbrev zHy:Sv:=(bA (cT 3 (aO iW (aD (aH 2) (aD (aH 1) (aD (eC (.int 6)) aNil))))) zHr)
abbrev zJe:Sv:=(bA (cT 2 (eF (cD gX (aD (aH 1) (aD (eC (.int 0)) (aD (eC (.int 5)) aNil)))))) zHy)
def zMM:Mir:=fn 1 12 (bA (cT 1 (eF (cD eV (aD (aH 0) aNil)))) zJe)
end Lw
namespace Lw
open L3 PySem Fr Fq Ln
theorem c_NOUGHT:eY=dq 0:=rfl
local macro_rules | `(tactic| symm)=>do
 let ids:Array (Lean.TSyntax `term):=(("c_NOUGHT d_WEIGHTED d_HALF d_BOAT d_MOST_BOATS d_DEEPEST d_ACROSS d_UP fn_at enumF_t iZip_at iEnum_at enumF_l fComp2_at chO_s oEq_s oNe_s oTabNot_s L3.start sSeq_at seqF_nx seqF_ret sSet_at setF sOwn_at ownF sRet_at retF sRetF_at retFF sRetOwn_at retS sRetN sIf_at ifF_t ifF_f sNext sNo sDrop_at dropF dropG eVar_at varS eC eOp_at opF eUn eCall_at callF rtF eB eTup_at tupF aCons_at consF consG aNil tVal_at blF tNotB_at notF tAndB_at tandF_t tandF_f tOrB_at torF_t torF_f eAnd_at andF_t andF_f eOr_at orF_t orF_f eIf_at eifF_t eifF_f eF_at efF fLst_at fLstF fCall_at fcallF rtFF fList_at fListF_l fListF_t fComp_at fRep_at repF fCat_at catF catG eFrz_at frzF fFrz_at fFrzF oN oS_at oSF fSl_at fSlF fSlG fSlH eIsN_at isNF eNotN_at notNF isNon sApp_at appS appF sExt_at extS extF sAug_at augS augF setG sUnp_at unpF nxF bSum_l bSum_t gTup_at gtF_t gCons_at gNil_at gName sFor_at forF iRevL_at revL_l iSeq_at seqD_l seqD_t iRng1_at iRng2_at sFrz sFrzAt frzAt tFrzB okb erb Rt.d fin oAdd_i oAddI_i oSub_i oMul_i oDiv_i oMod_i oPow_i oEq_i oNe_i oLt_i oLe_i oGt_i oGe_i oIx_tc sPop_at popS dp_mk ty_dp len_dp ix_dp0 ix_dp1 dep_dp noL_dp oEq_dp oNe_dp noLs_dps oNeg_i oNot_b bAbs_i bLen_t bLen_l bMin_i bTup_t bTup_l eIsT_at isTF isT ty_i ty_t ty_l ty_b ty_s ty_n ofO_some atD sRaise_at raiseF Sl.frz noErr dep depS noL noLs Qq Vl Xi Vt QW List.replicate Qm Xg List.getElem?_cons_zero List.getElem?_cons_succ List.set_cons_zero List.set_cons_succ Nat.reduceAdd Nat.reduceSub Nat.reduceLeDiff Nat.reduceEqDiff Vm V4 Nat.max_self QP if_true ite_true ite_false if_false Vv Bool.not_true Bool.not_false reduceIte ite_self Int.toNat_zero Int.reduceToNat Int.reduceLE Int.reduceLT V5 decide_true decide_false Bool.or_true Bool.or_false Bool.true_or Bool.false_or Bool.and_true Bool.true_and Bool.and_false Bool.false_and String.reduceBEq String.reduceEq beq_self_eq_true ix_dq0 ix_dq1 ty_dq dep_dq noL_dq len_dq eq_dq oEq_dq oNe_dq Qe okDiv_lit okMul_litr okMul_litl okp9 okp30 okp40 p10 fdiv_pos fmod_pos Int.reduceEq Int.reduceNeg p10ne p10ne2 p10pos2 Int.reduceMul Int.reduceAdd Int.reduceSub Int.reduceDiv Int.reduceMod eqD Nat.reduceLT Nat.reducePow ne_eq not_true_eq_false not_false_eq_true".splitOn " ").map fun s=>⟨Lean.mkIdent s.toName⟩).toArray
 `(tactic| simp only[$[$ids:term],*])
theorem tL(t b:Int):dL [.int t,.int b]=.ok (.v (.int (Int.gcd t b:Int))):=by
 unfold dL;symm
 refine zFw (fun ρ=>∃(x y:Int)(r:Sl),ρ=[.val (.int x),.val (.int y),r]/\0<=x/\0<=y/\Int.gcd x y=Int.gcd t b) (fun ρ=>(slI 1 ρ).toNat)
  (fun r=>(r.bind (zGA (iJ (aH 0)))).bind fin=.ok (.v (.int (Int.gcd t b:Int)))) ⟨_,_,_,rfl,by omega,by omega,by simp[Int.gcd]⟩ ?_
 rintro ρ ⟨x,y,r,rfl,hx,hy,hg⟩
 by_cases h:y=0
 ·subst h
  refine .inl ⟨rfl,?_⟩
  have e:x=(Int.gcd t b:Int):=by
   rw[Int.gcd_zero_right] at hg;omega
  rw[<-e];rfl
 ·refine .inr ⟨?_,[.val (.int y),.val (.int (x.fmod y)),.val (.int (x.fmod y))],?_,⟨y,x.fmod y,_,rfl,hy,?_,?_⟩,?_⟩
  ·symm
   rw[decide_eq_false h];rfl
  ·symm
   rw[oMod_i h];symm
  ·rw[zDH _ hy];exact QK _ h
  ·rw[zDH _ hy];exact(Fq.zEO hx (by omega)).trans hg
  ·have:=Q2 x (show 0<y by omega)
   rw[zDH _ hy];show(x % y).toNat<y.toNat
   omega
theorem zQp{t b:Int}(hb:b≠0):(dv t b).natAbs<=b.natAbs:=Nat.le_of_dvd (by omega) (Int.natAbs_dvd_natAbs.mpr (zEB t b))
theorem zBf{t b:Int}{n:Nat}(hb:b≠0)(hn:b.natAbs<2^n)(h:n<=8999):jK [.int t,.int b]=.ok (.v (dq (Rat.divInt t b))):=by
 have hd:mJ (dv t b)=true:=tX (zNB hb) (Vu (zQp hb) hn) h;have e0:decide (b=0)=false:=decide_eq_false hb;unfold jK;symm;rw[e0];symm;rw[tL];symm;by_cases c:b<0
 ·have e:-(Int.gcd t b:Int)=dv t b:=by unfold dv;rw[if_pos c]
  rw[decide_eq_true c];symm;rw[e,oDiv_i hd];symm;rw[oDiv_i hd];symm;rw[zBm hb,zBc hb];rfl
 ·have e:(Int.gcd t b:Int)=dv t b:=by unfold dv;rw[if_neg c]
  rw[decide_eq_false c];symm;rw[e,oDiv_i hd];symm;rw[oDiv_i hd];symm;rw[zBm hb,zBc hb];rfl
theorem zRt(t:Int):jK [.int t,.int 0]=.err "NoFraction" := by
 unfold jK;symm
theorem zCr{p q:Rat}{m n:Nat}(hp:Sz m p)(hq:Sz n q)(h:m+n<=8999):mD [dq p,dq q]=.ok (.v (dq (p+q))):=by
 unfold mD;symm;rw[oMul_i (bZ hp.1 hq.d (by omega))];symm;rw[oMul_i (bZ hq.1 hp.d (by omega))];symm;rw[oMul_i (bZ hp.d hq.d (by omega))];symm;rw[zBf (VP (iI p) (iI q)) (fQ hp.d hq.d) h,zPG];symm
theorem eP{p q:Rat}{m n:Nat}(hp:Sz m p)(hq:Sz n q)(h:m+n<=8999):cS [dq p,dq q]=.ok (.v (dq (p-q))):=by
 unfold cS;symm;rw[oMul_i (bZ hp.1 hq.d (by omega))];symm;rw[oMul_i (bZ hq.1 hp.d (by omega))];symm;rw[oMul_i (bZ hp.d hq.d (by omega))];symm;rw[zBf (VP (iI p) (iI q)) (fQ hp.d hq.d) h,zLM];symm
theorem mW{p q:Rat}{m n:Nat}(hp:Sz m p)(hq:Sz n q)(h:m+n<=8999):dI [dq p,dq q]=.ok (.v (dq (p*q))):=by
 unfold dI;symm;rw[oMul_i (bZ hp.1 hq.1 (by omega))];symm;rw[oMul_i (bZ hp.d hq.d (by omega))];symm;rw[zBf (VP (iI p) (iI q)) (fQ hp.d hq.d) h,zMe];symm
theorem zGJ{p q:Rat}{m n:Nat}(hp:Sz m p)(hq:Sz n q)(h0:q≠0)(h:m+n<=8999):qI [dq p,dq q]=.ok (.v (dq (p / q))):=by
 unfold qI;symm;rw[oMul_i (bZ hp.1 hq.d (by omega))];symm;rw[oMul_i (bZ hp.d hq.1 (by omega))];symm;rw[zBf (VP (iI p) (zMq.mpr h0)) (fQ hp.d hq.1) h,zHh];symm
theorem jW{p q:Rat}{m n:Nat}(hp:Sz m p)(hq:Sz n q)(h:m+n<=99999):fJ [dq p,dq q]=.ok (.v (.bl (decide (p<q)))):=by
 unfold fJ;symm;rw[oMul_i (bZ hp.1 hq.d (by omega))];symm;rw[oMul_i (bZ hq.1 hp.d (by omega))];symm;simp only[lt_iff]
def mn(a b:Rat):Rat:=if a<b then a else b
def ps0(x:Rat):Rat:=if x<0 then 0 else x
def jF:List Int->Int->Rat->List Rat
 | [],_,_=>[]
 | c::r,a,q=>mn (ps0 (q-(a:Rat))) (c:Rat)::jF r (a+c) q
theorem zBS:∀(cs:List Int)(a:Int)(q:Rat),(jF cs a q).length=cs.length
 | [],_,_=>rfl
 | c::r,a,q=>by simp only[jF,Qm,zBS r]
theorem zNX{q:Rat}{a c:Int}(h:0<=c):ps0 (q-(a:Rat))-mn (ps0 (q-(a:Rat))) (c:Rat)=ps0 (q-((a+c:Int):Rat)):=by
 have h':(0:Rat)<=(c:Rat):=by exact_mod_cast h
 rw[QS];unfold ps0 mn;grind
theorem cU{n:Nat}{k:Int}(h:k.natAbs<2^n)(h0:0<n):Sz n (k:Rat):=by
 refine⟨h,?_⟩
 show 1<2^n
 exact Nat.one_lt_two_pow (by omega)
theorem zQi{n:Nat}{q:Rat}(h:Sz n q)(h0:0<n):Sz n (ps0 q):=by
 unfold ps0;split
 ·exact cU (k:=0) (Nat.two_pow_pos n) h0
 ·exact h
theorem zNg{n:Nat}{p q:Rat}(h:Sz n p)(h':Sz n q):Sz n (mn p q):=by
 unfold mn;split
 ·exact h
 ·exact h'
theorem bU(k:Int):bJ [.int k]=.ok (.v (dq (k:Rat))):=by
 unfold bJ;symm;rw[zPp]
theorem zEt{p q:Rat}{m n:Nat}(hp:Sz m p)(hq:Sz n q)(h:m+n<=99999):lL [dq p,dq q]=.ok (.v (dq (mn p q))):=by
 unfold lL;symm;rw[jW hp hq h];symm;unfold mn;by_cases c:p<q
 ·rw[decide_eq_true c,if_pos c]
  symm
 ·rw[decide_eq_false c,if_neg c]
  symm
structure Cl (cs:List Int):Prop where
 nn:∀ c∈cs,0<=c
 up:∀ c∈cs,c<10^30
 lo:1<=cs.length
 hi:cs.length<=12
theorem zMi:∀ {cs:List Int},(∀ c∈cs,0<=c)->(∀ c∈cs,c<10^30)->0<=cs.sum/\cs.sum<=cs.length*10^30
 | [],_,_=>by decide
 | c::r,h,h'=>by
  have ih:=zMi (fun x hx=>h x (Qd _ hx)) fun x hx=>h' x (Qd _ hx)
  have a:=h c Qb;have b:=h' c Qb;rw[QB,Qm];refine⟨by omega,?_⟩
  have:((r.length+1:Nat):Int)*10^30=(r.length:Int)*10^30+10^30:=by rw[V6,V7];rfl
  omega
theorem Cl.sum{cs:List Int}(h:Cl cs):0<=cs.sum/\cs.sum<2^104:=by
 have a:=zMi h.nn h.up;have b:=h.hi;refine⟨a.1,?_⟩
 omega
structure Haul (m:Nat) (q:Rat) (W:Int):Prop where
 nn:0<=q
 up:q<=(W:Rat)
 sz:Sz m q
theorem zEM{d:D}{q:Rat}{m:Nat}(hm:m<=3000)(hq:Sz m q):∀(cs:List Int)(a:Int)(acc:List D)(s t:Sl),(∀ c∈cs,0<=c)->(∀ c∈cs,c<10^30)->0<=a->a+cs.length*10^30<2^110->acc.length+cs.length<=100->
  ∃ l' s' t',loop (gName 4) pP (cs.map D.int) [.val d,.val (dq q),.val (dq (ps0 (q-(a:Rat)))),.own acc,s,t]=.ok (.nx [.val d,.val (dq q),l',.own (acc++(jF cs a q).map dq),s',t'])
 | [],a,acc,s,t,_,_,_,_,_=>⟨.val (dq (ps0 (q-(a:Rat)))),s,t,by rw[Vl,loop];simp[jF]⟩
 | c::r,a,acc,s,t,h1,h2,h3,h4,h5=>by
  have c0:=h1 c Qb;have c1:=h2 c Qb;rw[Qm] at h4 h5;have e4:((r.length+1:Nat):Int)*10^30=(r.length:Int)*10^30+10^30:=by rw[V6,V7];rfl
  have r0:0<=(r.length:Int)*10^30:=Xs (by omega) (by decide)
  have zl:Sz (m+111) (ps0 (q-(a:Rat))):=zQi (hq.sub (cU (n:=110) (by omega) (by decide))) (by omega)
  have zc:Sz (m+111) (c:Rat):=Sz.mono (m:=110) (cU (by omega) (by decide)) (by omega)
  obtain⟨l',s',t',e⟩:=zEM hm hq r (a+c) (acc++[dq (mn (ps0 (q-(a:Rat))) (c:Rat))]) (.val (.int c)) (.val (dq (mn (ps0 (q-(a:Rat))) (c:Rat)))) (fun x hx=>h1 x (Qd _ hx)) (fun x hx=>h2 x (Qd _ hx)) (by omega) (by omega) (by rw[Qk,XI];omega)
  refine⟨l',s',t',?_⟩
  rw[Qq,eH (ρ1:=[.val d,.val (dq q),.val (dq (ps0 (q-(a:Rat)))),.own acc,.val (.int c),t]) rfl,e]
  ·rw[jF,Qq,Vd];rfl
  ·symm
   rw[bU];symm;rw[zEt zl zc (by omega)];symm;rw[if_pos (by omega)];symm;rw[eP zl (zNg zl zc) (by omega)];symm;rw[zNX c0]
theorem zCO{d:D}{cs:List Int}{q:Rat}(hd:d=.lst (cs.map D.int)∨d=.tup (cs.map D.int)){m:Nat}(hm:m<=3000)(hc:Cl cs)(hq:Sz m q)(h0:0<=q):gM [d,dq q]=.ok (.f ((jF cs 0 q).map dq)):=by
 have sq:zLr d=.ok (cs.map D.int):=by rcases hd with rfl | rfl<;>rfl
 have:=hc.hi
 obtain⟨l',s',t',e⟩:=zEM (d:=d) hm hq cs 0 [] .un .un hc.nn hc.up (by decide) (by omega) (by rw[Xg];omega)
 have z:ps0 (q-((0:Int):Rat))=q:=by
  unfold ps0;rw[show((0:Int):Rat)=0 from rfl];grind
 rw[z] at e;unfold gM;symm;rw[sq];symm;rw[e];rfl
def zAf(cs:List Int)(q:Rat):List Rat:=cs.map fun c=>Rat.divInt (c*q.num) (max 1 cs.sum*q.den)
theorem zJy{q:Rat}{c W:Int}(h:0<W):q / (W:Rat)*(c:Rat)=Rat.divInt (c*q.num) (W*q.den):=by
 have hW:(W:Rat)≠0:=by
  intro z;have:W=0:=by exact_mod_cast z
  omega
 rw[<-zHh q (W:Rat)];show Rat.divInt (q.num*((1:Nat):Int)) (q.den*W)*(c:Rat)=_
 rw[show((1:Nat):Int)=1 from rfl,QV,<-QY (c:Rat),XQ];show Rat.divInt (q.num*c) (q.den*W*((1:Nat):Int))=_
 rw[show((1:Nat):Int)=1 from rfl,QV,X9 q.num,X9 (q.den:Int)]
theorem pX:∀ {cs:List Int},(∀ c∈cs,0<=c)->cs.sum=0->∀ c∈cs,c=0
 | [],_,_,c,h=>by cases h
 | d::r,h,e,c,hc=>by
  rw[QB] at e;have h0:=h d Qb
  have hr:0<=r.sum:=by
   have:∀ l:List Int,(∀ c∈l,0<=c)->0<=l.sum:=by
    intro l
    induction l with
    | nil=>intro _;decide
    | cons a l ih=>intro hl;rw[QB];have:=hl a Qb;have:=ih fun x hx=>hl x (Qd _ hx);omega
   exact this r fun x hx=>h x (Qd _ hx)
  rcases Qc.mp hc with rfl | hc
  ·omega
  ·exact pX (fun x hx=>h x (Qd _ hx)) (by omega) c hc
theorem zCC{d:D}{cs:List Int}{q:Rat}(hd:d=.lst (cs.map D.int)∨d=.tup (cs.map D.int)){m:Nat}(hm:m<=3000)(hc:Cl cs)(hq:Sz m q):fI [d,dq q]=.ok (.f ((zAf cs q).map dq)):=by
 have sm:=hc.sum;have hi:=hc.hi;have sq:zLr d=.ok (cs.map D.int):=by rcases hd with rfl | rfl<;>rfl
 have su:zCv [d]=.ok (.int cs.sum):=by rcases hd with rfl | rfl;exact bSum_l;exact bSum_t
 have ln:mC [d]=.ok (.int cs.length):=by rcases hd with rfl | rfl<;>(symm)
 unfold fI;symm;rw[su];symm;by_cases c0:cs.sum=0
 ·rw[decide_eq_true c0]
  symm;rw[ln];symm;rw[zEW (by omega)];symm
  have e:(zAf cs q).map dq=List.replicate cs.length (dq 0):=by
   unfold zAf;rw[Qv,<-List.map_const'];refine Q8 fun c h=>?_
   have c0:=pX hc.nn c0 c h;subst c0;show dq (Rat.divInt (0*q.num) _)=dq 0
   rw[Int.zero_mul,XV]
  rw[e]
 ·rw[decide_eq_false c0]
  symm;have W0:0<cs.sum:=by omega
  have zW:Sz 110 (cs.sum:Rat):=cU (by omega) (by decide)
  have nW:(cs.sum:Rat)≠0:=by
   intro z;have:cs.sum=0:=by exact_mod_cast z
   omega
  rw[bU];symm;rw[zGJ hq zW nW (by omega)];symm;rw[sq];symm
  rw[fT (u:=D.int) (g:=fun c=>dq (Rat.divInt (c*q.num) (max 1 cs.sum*q.den))) (by omega) (fun c h=>by
   have c0:=hc.nn c h;have c1:=hc.up c h;symm;rw[bU];symm;rw[mW (hq.div zW nW) (cU (n:=110) (k:=c) (by omega) (by decide)) (by omega)];symm
   rw[zJy W0,Int.max_eq_right (by omega)])]
  symm;unfold zAf;rw[Qv];rfl
def iT(f:Nat->Rat)(l:List Nat):Rat:=(l.map f).sum
theorem bF(f:Nat->Rat)(i:Nat)(l:List Nat):iT f (i::l)=f i+iT f l:=by unfold iT;rw[Qq,QB]
theorem iN(f:Nat->Rat):iT f []=0:=rfl
theorem rH{f g:Nat->Rat}:∀ {l:List Nat},(∀ i∈l,f i<=g i)->iT f l<=iT g l
 | [],_=>Qf
 | i::l,h=>by
  rw[bF,bF];have a:=h i Qb;have b:=rH fun j hj=>h j (Qd _ hj)
  grind
theorem qX{f g:Nat->Rat}:∀ {l:List Nat},(∀ i∈l,f i<=g i)->iT f l=iT g l->∀ i∈l,f i=g i
 | [],_,_,i,hi=>by cases hi
 | j::l,h,e,i,hi=>by
  rw[bF,bF] at e;have a:=h j Qb;have hb:∀ i∈l,f i<=g i:=fun k hk=>h k (Qd _ hk)
  have b:=rH hb;rcases Qc.mp hi with rfl | hi
  ·grind
  ·exact qX hb (by grind) i hi
theorem vU{f:Nat->Rat}{l m:List Nat}(h:l.Perm m):iT f l=iT f m:=by
 induction h with
 | nil=>rfl
 | cons x _ ih=>rw[bF,bF,ih]
 | swap x y l=>rw[bF,bF,bF,bF];grind
 | trans _ _ h1 h2=>rw[h1,h2]
theorem dM{w:Nat->Rat}{t:Rat}:∀ {l:List Nat},iT (fun i=>w i*t) l=t*iT w l
 | []=>by rw[iN,iN];grind
 | i::l=>by rw[bF,bF,dM];grind
theorem eI{f g:Nat->Rat}{l:List Nat}(h:∀ i∈l,f i=g i):iT f l=iT g l:=by unfold iT;rw[Q8 h]
theorem zKz{w:Nat->Rat}:∀ {l:List Nat},(∀ i∈l,0<w i)->0<=iT w l
 | [],_=>Qf
 | i::l,h=>by
  rw[bF];have a:=h i Qb;have b:=zKz fun j hj=>h j (Qd _ hj)
  grind
def dR(c w:Nat->Rat)(t:Rat)(i:Nat):Rat:=mn (w i*t) (c i)
theorem zRE{a b c d:Rat}(h:a<=c)(h':b<=d):mn a b<=mn c d:=by unfold mn;grind
theorem mZ{c w:Nat->Rat}{t u:Rat}{i:Nat}(hw:0<w i)(h:t<=u):dR c w t i<=dR c w u i:=
 zRE (VF h (Qg hw)) Qf
theorem yM{c w:Nat->Rat}{t u:Rat}{l:List Nat}(hw:∀ i∈l,0<w i)(h:iT (dR c w t) l=iT (dR c w u) l):∀ i∈l,dR c w t i=dR c w u i:=by
 rcases Q9 (a:=t) (b:=u) with g | g
 ·exact qX (fun i hi=>mZ (hw i hi) g) h
 ·exact fun i hi=>(qX (fun i hi=>mZ (hw i hi) g) h.symm i hi).symm
theorem zIy{L W w c:Rat}(hW:0<W)(h:L*w / W<c):mn (L*w / W) c=mn (w*(L / W)) c/\mn (w*(L / W)) c=w*(L / W):=by
 have e:L*w / W=w*(L / W):=by grind
 rw[e] at h ⊢
 exact⟨rfl,if_pos h⟩
theorem zHT{r W w c:Rat}(hW:W≠0)(h:w*r<=c):mn (r*W*w / W) c=w*r:=by
 have e:r*W*w / W=w*r:=by grind
 rw[e];unfold mn;grind
theorem zGT{ci wi cj wj r:Rat}(h1:0<wi)(h2:0<wj)(h:ci*wj<=cj*wi)(hr:wi*r<=ci):wj*r<=cj:=by
 have a:wi*r*wj<=ci*wj:=Q5 hr (Qg h2)
 have b:wj*r*wi<=cj*wi:=by
  have:wj*r*wi=wi*r*wj:=by grind
  rw[this];exact Qz a h
 exact VV b h1
theorem zGE{L W w c b:Rat}(hw:0<w)(h:¬ L*w / W<c)(hW:0<W)(hb:b*W<=L):∃ b',b<=b'/\c<=w*b'/\b' * (W-w)<=L-c:=by
 have h1:c*W<=L*w:=by
  have h':=Va.mp h;have:=Q5 h' (Qg hW)
  rwa [QT (by grind)] at this
 have e1:w*(c / w)=c:=by grind
 have e2:c / w*(W-w)=c*W / w-c:=by grind
 have e3:c*W / w<=L:=by
  have a:c*W / w*w<=L*w:=by rw[QT (by grind)];exact h1
  exact VV a hw
 rcases Q9 (a:=b) (b:=c / w) with g | g
 ·exact⟨c / w,g,by rw[e1];exact Qf,by rw[e2];grind⟩
 ·refine⟨b,Qf,?_,?_⟩
  ·have:=VF g (Qg hw)
   rwa [e1] at this
  ·have:=VF g (Qg hw)
   rw[e1] at this;grind
structure Wt (ws cs:List Int):Prop where
 len:ws.length=cs.length
 lo:∀ w∈ws,1<=w
 up:∀ w∈ws,w<=10^6
def cR(cs:List Int)(i:Nat):Rat:=((cs.getD i 0:Int):Rat)
def pU:List (Nat×Rat)->List D->List D
 | [],am=>am
 | p::r,am=>pU r (am.set p.1 (dq p.2))
def wS(ws:List Int)(π:List Nat):Int:=(π.map fun i=>ws.getD i 0).sum
theorem mT(ws:List Int)(i:Nat)(π:List Nat):wS ws (i::π)=ws.getD i 0+wS ws π:=by unfold wS;rw[Qq,QB]
theorem bR{l:List Int}{i:Nat}(h:i<l.length):l[i]?=some (l.getD i 0):=by rw[Qw,Qp h];rfl
theorem zQN{l:List Int}{i:Nat}(h:i<l.length):oIx (.lst (l.map D.int)) (.int (i:Int))=.ok (.int (l.getD i 0)):=oT (Vj i) (show l[((i:Nat):Int).toNat]?=some (l.getD i 0) from bR h)
theorem zQf{i:Nat}{k e:Ev}{ρ:Rho}{ds:List D}{d:D}{j:Nat}(h1:e ρ=.ok d)(h2:ρ[i]?=some (.own ds))(h3:k ρ=.ok (.int (j:Int)))(h4:j<ds.length):zOU i k e ρ=.ok (.nx (ρ.set i (.own (ds.set j d)))):=by
 unfold zOU;rw[h1];show(match ρ[i]? with | some (.own ds)=>_ | _=>_)=_
 rw[h2];show(k ρ).bind _=_
 rw[h3];exact if_pos ⟨Vj j,by omega⟩
theorem zQo{ds:List D}{d:D}{i:Nat}(h:i<ds.length):oIx (.lst (ds.set i d)) (.int (i:Int))=.ok d:=by
 have e:=oT (f:=id) (l:=ds.set i d) (i:=(i:Int)) (a:=d) (Vj i) (show(ds.set i d)[i]?=some d from QO h)
 rwa [List.map_id] at e
theorem Wt.at{ws cs:List Int}(h:Wt ws cs){i:Nat}(hi:i<cs.length):1<=ws.getD i 0/\ws.getD i 0<=10^6:=by
 have:=bR (l:=ws) (i:=i) (by rw[h.len];exact hi)
 exact⟨h.lo _ (Qj this),h.up _ (Qj this)⟩
theorem Wt.sum{ws cs:List Int}(h:Wt ws cs):∀ {π:List Nat},(∀ i∈π,i<cs.length)->(π.length:Int)<=wS ws π/\wS ws π<=π.length*10^6
 | [],_=>⟨V5 _,V5 _⟩
 | i::π,hi=>by
  have a:=h.at (hi i Qb);have b:=h.sum fun j hj=>hi j (Qd _ hj)
  rw[mT,Qm];omega
def Sq(d:D)(l:List Int):Prop:=d=.lst (l.map D.int)∨d=.tup (l.map D.int)
theorem Sq.ix{d:D}{l:List Int}(h:Sq d l){i:Nat}(hi:i<l.length):oIx d (.int (i:Int))=.ok (.int (l.getD i 0)):=by
 rcases h with rfl | rfl
 ·exact oT (Vj i) (bR hi)
 ·exact uN (Vj i) (bR hi)
theorem Sq.sum{d:D}{l:List Int}(h:Sq d l):zCv [d]=.ok (.int l.sum):=by
 rcases h with rfl | rfl
 ·exact bSum_l
 ·exact bSum_t
theorem Sq.len{d:D}{l:List Int}(h:Sq d l):mC [d]=.ok (.int l.length):=by
 rcases h with rfl | rfl
 ·rw[bLen_l,Qe]
 ·rw[bLen_t,Qe]
theorem Sq.seq{d:D}{l:List Int}(h:Sq d l):zLr d=.ok (l.map D.int):=by
 rcases h with rfl | rfl<;>rfl
theorem Sq.seqo{d:D}{l:List Int}(h:Sq d l):zJW d=some (l.map D.int):=by
 rcases h with rfl | rfl<;>rfl
theorem zJa{ws cs:List Int}{wd cd:D}(sw:Sq wd ws)(sc:Sq cd cs){qv s7:Sl}{L:Rat}{W:Int}{i:Nat}{am:List D}(hW:Wt ws cs)(hc:∀ c∈cs,0<=c/\c<10^30){m:Nat}(hm:m<=3000)(hL:Sz (m+250) L)(W0:0<W)(W1:W<=12*10^6)(hi:i<cs.length)(ha:am.length=cs.length){a:Rat}(ea:mn (L*cR ws i / (W:Rat)) (cR cs i)=a):
  bX [.val wd,.val cd,qv,.val (dq L),.val (.int W),.own am,.val (.int (i:Nat)),s7]=
   .ok (.nx [.val wd,.val cd,qv,.val (dq (L-a)),.val (.int (W-ws.getD i 0)),.own (am.set i (dq a)),.val (.int (i:Nat)),.val (dq (L*cR ws i / (W:Rat)))]):=by
 have hiw:i<ws.length:=by rw[hW.len];exact hi
 obtain⟨w1,w2⟩:=hW.at hi;obtain⟨c1,c2⟩:=hc _ (Qj (bR hi));have zW:Sz 24 (W:Rat):=cU (by omega) (by decide)
 have zw:Sz 20 (cR ws i):=cU (by omega) (by decide)
 have zc:Sz (m+294) (cR cs i):=Sz.mono (m:=100) (cU (by omega) (by decide)) (by omega)
 have nW:(W:Rat)≠0:=by
  intro z;have:W=0:=by exact_mod_cast z
  omega
 have fw:bJ [.int (ws.getD i 0)]=.ok (.v (dq (cR ws i))):=bU _;have fc:bJ [.int (cs.getD i 0)]=.ok (.v (dq (cR cs i))):=bU _;have zx:Sz (m+294) (L*cR ws i / (W:Rat)):=((hL.mul zw).div zW nW).mono (by omega)
 symm;rw[sw.ix hiw];symm;rw[fw];symm;rw[mW hL zw (by omega)];symm;rw[bU];symm;rw[zGJ (hL.mul zw) zW nW (by omega)];symm
 rw[zQf (j:=i) (d:=dq a) (ds:=am) (by
  symm;rw[sc.ix hi];symm;rw[fc];symm;rw[zEt zx zc (by omega),ea]
  symm) rfl rfl (by omega)]
 symm;rw[zQo (by omega)];symm;rw[eP hL (ea ▸ zNg zx zc) (by omega)];symm;rw[sw.ix hiw];symm
theorem nH(ws:List Int):∀ π:List Nat,iT (cR ws) π=(wS ws π:Rat)
 | []=>rfl
 | i::π=>by rw[bF,nH ws π,mT,QS];rfl
theorem zCD{ws cs:List Int}{wd cd:D}(sw:Sq wd ws)(sc:Sq cd cs){qv:Sl}{r:Rat}{m:Nat}(hm:m<=3000)(hW:Wt ws cs)(hc:∀ c∈cs,0<=c/\c<10^30)(hr:Sz (m+150) r):∀(π:List Nat)(am:List D)(s6 s7:Sl),(∀ i∈π,i<cs.length)->(∀ i∈π,cR ws i*r<=cR cs i)->π.length<=12->am.length=cs.length->
  ∃ l' W' s' t',loop (gName 6) bX (kP π) [.val wd,.val cd,qv,.val (dq (r*(wS ws π:Rat))),.val (.int (wS ws π)),.own am,s6,s7]=
   .ok (.nx [.val wd,.val cd,qv,l',W',.own (pU (π.map fun i=>(i,cR ws i*r)) am),s',t'])
 | [],am,s6,s7,_,_,_,_=>⟨_,_,_,_,rfl⟩
 | i::π,am,s6,s7,h1,h2,h4,h5=>by
  have hi:=h1 i Qb;obtain⟨W1,W2⟩:=hW.sum h1;rw[Qm] at h4 W1 W2;have zW:Sz 24 (wS ws (i::π):Rat):=cU (by omega) (by decide)
  have nW:(wS ws (i::π):Rat)≠0:=by
   intro z;have:wS ws (i::π)=0:=by exact_mod_cast z
   omega
  have e1:wS ws (i::π)-ws.getD i 0=wS ws π:=by rw[mT];omega
  have e2:r*(wS ws (i::π):Rat)-cR ws i*r=r*(wS ws π:Rat):=by
   rw[mT,QS];show r*(cR ws i+(wS ws π:Rat))-cR ws i*r=_
   grind
  have tn:=zJa sw sc (qv:=qv) (s7:=s7) (W:=wS ws (i::π)) (am:=am) hW hc hm ((hr.mul zW).mono (by omega)) (by omega) (by omega) hi h5 (zHT nW (h2 i Qb))
  rw[e1,e2] at tn;obtain⟨l',W',s',t',e⟩:=zCD sw sc hm hW hc hr π (am.set i (dq (cR ws i*r))) _ _ (fun j hj=>h1 j (Qd _ hj)) (fun j hj=>h2 j (Qd _ hj)) (by omega) (by rw[QI];exact h5)
  refine⟨l',W',s',t',?_⟩
  show loop _ _ (.int (i:Nat)::kP π) _=_
  rw[eH rfl tn,e];rfl
theorem zCy{ws cs:List Int}{wd cd:D}(sw:Sq wd ws)(sc:Sq cd cs){qv:Sl}{q:Rat}{m:Nat}(hm:m<=3000)(hW:Wt ws cs)(hc:∀ c∈cs,0<=c/\c<10^30)(hq:Sz m q):∀(π:List Nat)(k:Int)(b:Rat)(am:List D)(s6 s7:Sl),(∀ i∈π,i<cs.length)->π.Pairwise (fun i j=>cR cs i*cR ws j<=cR cs j*cR ws i)->π.length<=12->am.length=cs.length->
  0<=k->k+π.length*10^30<2^110->0<=q-(k:Rat)->q-(k:Rat)<=iT (cR cs) π->b*(wS ws π:Rat)<=q-(k:Rat)->
  ∃ t,b<=t/\iT (dR (cR cs) (cR ws) t) π=q-(k:Rat)/\(∀ i∈π,Sz (m+155) (dR (cR cs) (cR ws) t i))/\∃ l' W' s' t',loop (gName 6) bX (kP π) [.val wd,.val cd,qv,.val (dq (q-(k:Rat))),.val (.int (wS ws π)),.own am,s6,s7]=
   .ok (.nx [.val wd,.val cd,qv,l',W',.own (pU (π.map fun i=>(i,dR (cR cs) (cR ws) t i)) am),s',t'])
 | [],k,b,am,s6,s7,_,_,_,_,_,_,h6,h7,_=>⟨b,Qf,by rw[iN] at h7 ⊢;grind,fun i h=>by(cases h),_,_,_,_,rfl⟩
 | i::π,k,b,am,s6,s7,h1,h2,h3,h4,h5,h5',h6,h7,h8=>by
  have hi:=h1 i Qb;have h1':∀ j∈π,j<cs.length:=fun j hj=>h1 j (Qd _ hj)
  obtain⟨W1,W2⟩:=hW.sum h1;obtain⟨V1,V2⟩:=hW.sum h1';obtain⟨w1,w2⟩:=hW.at hi;obtain⟨c1,c2⟩:=hc _ (Qj (bR hi));obtain⟨p1,p2⟩:=Qo.mp h2;rw[Qm] at h3 h5' W1 W2;have ek:((π.length+1:Nat):Int)*10^30=(π.length:Int)*10^30+10^30:=by rw[V6,V7];rfl
  have k0:0<=(π.length:Int)*10^30:=Xs (by omega) (by decide)
  have zW:Sz 24 (wS ws (i::π):Rat):=cU (by omega) (by decide)
  have zk:Sz 110 (k:Rat):=cU (by omega) (by decide)
  have zL:Sz (m+111) (q-(k:Rat)):=(hq.sub zk).mono (by omega)
  have pW:(0:Rat)<(wS ws (i::π):Rat):=by exact_mod_cast (show 0<wS ws (i::π) by omega)
  have nW:(wS ws (i::π):Rat)≠0:=fun z=>by rw[z] at pW;exact absurd pW (by decide)
  have pw:∀ j,j<cs.length->0<cR ws j:=fun j hj=>by
   have:=(hW.at hj).1
   unfold cR;exact_mod_cast (show 0<ws.getD j 0 by omega)
  have e1:wS ws (i::π)-ws.getD i 0=wS ws π:=by rw[mT];omega
  have eW:(wS ws (i::π):Rat)=cR ws i+(wS ws π:Rat):=by rw[mT,QS];rfl
  have pV:(0:Rat)<=(wS ws π:Rat):=by exact_mod_cast (show 0<=wS ws π by omega)
  generalize hL:q-(k:Rat)=L at h6 h7 h8 zL ⊢
  have loop1:∀ {a:Rat} {l' W' s' t':Sl} {am':List D},mn (L*cR ws i / (wS ws (i::π):Rat)) (cR cs i)=a->loop (gName 6) bX (kP π) [.val wd,.val cd,qv,.val (dq (L-a)),.val (.int (wS ws π)),.own (am.set i (dq a)),.val (.int (i:Nat)),.val (dq (L*cR ws i / (wS ws (i::π):Rat)))]=.ok (.nx [.val wd,.val cd,qv,l',W',.own am',s',t'])->
    loop (gName 6) bX (kP (i::π)) [.val wd,.val cd,qv,.val (dq L),.val (.int (wS ws (i::π))),.own am,s6,s7]=.ok (.nx [.val wd,.val cd,qv,l',W',.own am',s',t']):=fun {a l' W' s' t' am'} ea e=>by
   have tn:=zJa sw sc (qv:=qv) (s7:=s7) (W:=wS ws (i::π)) (am:=am) hW hc hm (zL.mono (by omega)) (by omega) (by omega) hi h4 ea
   rw[e1] at tn;show loop _ _ (.int (i:Nat)::kP π) _=_
   rw[eH rfl tn];exact e
  by_cases hx:L*cR ws i / (wS ws (i::π):Rat)<cR cs i
  ·obtain⟨x1,x2⟩:=zIy pW hx
   generalize hr:L / (wS ws (i::π):Rat)=r at x1 x2;have zr:Sz (m+135) r:=hr ▸ (zL.div zW nW).mono (by omega)
   have eL:L=r*(wS ws (i::π):Rat):=by rw[<-hr,QT nW]
   have wr:cR ws i*r<=cR cs i:=by
    have e:L*cR ws i / (wS ws (i::π):Rat)=cR ws i*r:=by rw[<-hr];grind
    rw[e] at hx;exact Qg hx
   have later:∀ j∈π,cR ws j*r<=cR cs j:=fun j hj=>zGT (pw i hi) (pw j (h1' j hj)) (p1 j hj) wr
   have gj:∀ j∈i::π,dR (cR cs) (cR ws) r j=cR ws j*r:=fun j hj=>by
    have:cR ws j*r<=cR cs j:=by
     rcases Qc.mp hj with rfl | hj
     ·exact wr
     ·exact later j hj
    unfold dR mn;grind
   have e2:L-cR ws i*r=r*(wS ws π:Rat):=by rw[eL,eW];grind
   obtain⟨l',W',s',t',e⟩:=zCD sw sc (qv:=qv) hm hW hc (zr.mono (by omega)) π (am.set i (dq (cR ws i*r))) (.val (.int (i:Nat))) (.val (dq (L*cR ws i / (wS ws (i::π):Rat)))) h1' later (by omega) (by rw[QI];exact h4)
   refine⟨r,VV (by rw[<-eL];exact h8) pW,?_,fun j hj=>?_,l',W',s',t',loop1 (a:=cR ws i*r) (x1.trans x2) ?_⟩
   ·rw[eI gj,dM,nH,<-eL]
   ·rw[gj j hj]
    have v:=hW.at (h1 j hj);exact(Sz.mul (m:=20) (n:=m+135) (cU (by omega) (by decide)) zr).mono (by omega)
   ·rw[e2,e,Qq,pU,gj i Qb]
    rw[Q8 (g:=fun j=>(j,dR (cR cs) (cR ws) r j)) fun j hj=>by rw[gj j (Qd _ hj)]]
  ·have ea:mn (L*cR ws i / (wS ws (i::π):Rat)) (cR cs i)=cR cs i:=if_neg hx
   obtain⟨b',g1,g2,g3⟩:=zGE (pw i hi) hx pW h8;have ek2:q-((k+cs.getD i 0:Int):Rat)=L-cR cs i:=by rw[QS,<-hL];show q-((k:Rat)+cR cs i)=_;grind
   have c0:0<=cR cs i:=by unfold cR;exact_mod_cast c1
   have cL:cR cs i<=L:=by
    have y:=Q5 (Va.mp hx) (Qg pW);rw[QT nW] at y;have y2:L*cR ws i<=L*(wS ws (i::π):Rat):=VF (by rw[eW];grind) h6
    exact VV (Qz y y2) pW
   rw[bF] at h7
   have g3':b' * (wS ws π:Rat)<=L-cR cs i:=by
    rw[eW] at g3;have:cR ws i+(wS ws π:Rat)-cR ws i=(wS ws π:Rat):=by grind
    rw[this] at g3;exact g3
   obtain⟨t,t1,t2,tz,l',W',s',t',e⟩:=zCy sw sc (qv:=qv) hm hW hc hq π (k+cs.getD i 0) b' (am.set i (dq (cR cs i))) (.val (.int (i:Nat))) (.val (dq (L*cR ws i / (wS ws (i::π):Rat)))) h1' p2 (by omega) (by rw[QI];exact h4) (by omega) (by omega) (by rw[ek2];grind) (by rw[ek2];grind) (by rw[ek2];exact g3')
   have gi:dR (cR cs) (cR ws) t i=cR cs i:=by
    have:=VF t1 (Qg (pw i hi))
    unfold dR mn;grind
   rw[ek2] at e t2;refine⟨t,Qz g1 t1,?_,fun j hj=>?_,l',W',s',t',loop1 ea ?_⟩
   ·rw[bF,gi,t2];grind
   ·rcases Qc.mp hj with rfl | hj
    ·rw[gi];exact Sz.mono (m:=100) (cU (by omega) (by decide)) (by omega)
    ·exact tz j hj
   ·rw[e,Qq,pU,gi]
theorem yL{g:Nat->Rat}:∀(π:List Nat)(am:List D)(j:Nat),(pU (π.map fun i=>(i,g i)) am)[j]?=if j∈π then (if j<am.length then some (dq (g j)) else none) else am[j]?
 | [],am,j=>by simp[pU]
 | i::π,am,j=>by
  rw[Qq,pU,yL π,QI];by_cases h1:j∈π
  ·rw[if_pos h1,if_pos (Qd _ h1)]
  ·rw[if_neg h1]
   by_cases h2:j=i
   ·subst h2
    rw[if_pos Qb];by_cases h3:j<am.length
    ·rw[if_pos h3];exact QO h3
    ·rw[if_neg h3,QC (by rw[QI];omega)]
   ·rw[if_neg (by simp[h1,h2]),QM (fun z=>h2 z.symm)]
theorem zGu{g:Nat->Rat}{π:List Nat}{n:Nat}(h:π.Perm (List.range n)):pU (π.map fun i=>(i,g i)) (List.replicate n (dq 0))=((List.range n).map g).map dq:=by
 refine VU fun j=>?_
 rw[yL,Qu,Qu,VM];by_cases hj:j<n
 ·rw[if_pos (h.mem_iff.mpr (Qi.mpr hj)),if_pos hj,Vf hj];rfl
 ·rw[if_neg (fun z=>hj (Qi.mp (h.mem_iff.mp z))),QC (by rw[VM];omega),QC (by rw[QA];omega)];rfl
theorem zDs(kz:List Int):∃ π,iA kz π:=by
 refine⟨(List.range kz.length).mergeSort (fun i j=>decide (kz.getD i 0<=kz.getD j 0)),Yy _ _,?_⟩
 have:=Yz (le:=fun i j=>decide (kz.getD i 0<=kz.getD j 0)) (fun a b c h1 h2=>by simp only[decide_eq_true_eq] at *;omega) (fun a b=>by simp only[VQ,decide_eq_true_eq];omega) (List.range kz.length)
 exact this.imp fun h=>of_decide_eq_true h
theorem zJo{fs:Fv}{kf:List D->Res (List Int)}{g:Gv}{b r:Sv}{ρ:Rho}{kz:List Int}{x:Res Fl}(h1:(fs ρ).bind kf=.ok kz)(h:∀ π,iA kz π->bA (fun ρ=>loop g b (kP π) ρ) r ρ=x):zJx fs kf g b r ρ=x:=by
 obtain⟨π,hπ⟩:=zDs kz;unfold zJx;rw[h1];exact zFL hπ h
def tR:List Rat->Int
 | []=>1
 | x::r=>x.den*tR r
def zJO(B:Int)(x:Rat):Int:=x.num*B.fdiv x.den
theorem zFf:∀ {l:List Rat} {x:Rat},x∈l->(x.den:Int) ∣ tR l
 | y::r,x,h=>by
  rcases Qc.mp h with rfl | h
  ·exact⟨tR r,rfl⟩
  ·exact Int.dvd_trans (zFf h) ⟨y.den,X9 _ _⟩
theorem zAz:∀ l:List Rat,0<tR l
 | []=>by decide
 | x::r=>Xj (eZ x) (zAz r)
theorem zMr{l:List Rat}{x:Rat}(h:x∈l):((zJO (tR l) x:Int):Rat)=x*(tR l:Rat):=by
 obtain⟨k,hk⟩:=zFf h;have d0:=eZ x;unfold zJO;rw[fdiv_pos _ d0,hk,Int.mul_ediv_cancel_left _ (by omega),QF,QF]
 have e:x*((x.den:Int):Rat)=(x.num:Rat):=by
  have h1:=QY x;rw[Vo] at h1
  have h2:((x.den:Int):Rat)≠0:=fun z=>by
   have:(x.den:Int)=0:=by exact_mod_cast z
   omega
  rw[<-QT (a:=(x.num:Rat)) h2,h1]
 rw[<-e];grind
theorem zCL{a:Sl}:∀(l:List Rat)(B:Int)(s:Sl)(m:Nat),(∀ x∈l,(x.den:Int)<=10^6)->B.natAbs<2^m->m+20*l.length<=1000->
  ∃ s',loop (gName 2) yD (l.map dq) [a,.val (.int B),s]=.ok (.nx [a,.val (.int (B*tR l)),s'])/\(B*tR l).natAbs<2^(m+20*l.length)
 | [],B,s,m,_,h2,_=>⟨s,by rw[Vl,loop,tR,QV],by rw[tR,QV];exact h2⟩
 | x::r,B,s,m,h1,h2,h3=>by
  have d1:=h1 x Qb;have d0:=eZ x;rw[Qm] at h3;have hx:((x.den:Int)).natAbs<2^20:=by omega
  obtain⟨s',e,hb⟩:=zCL r (B*x.den) (.val (dq x)) (m+20) (fun y hy=>h1 y (Qd _ hy)) (fQ h2 hx) (by omega)
  have ed:B*tR (x::r)=B*x.den*tR r:=by rw[tR,Yc]
  refine⟨s',?_,by rw[ed,Qm,show m+20*(r.length+1)=m+20+20*r.length by omega];exact hb⟩
  rw[ed,<-e,Qq];refine eH (ρ1:=[a,.val (.int B),.val (dq x)]) rfl ?_
  symm;rw[oMul_i (bZ (m:=m) (n:=20) h2 hx (by omega))];symm
theorem zEu{B:Int}(hB:B.natAbs<2^1000):∀ {l:List Rat},(∀ x∈l,(x.den:Int)<=10^6/\Sz 500 x)->oU B (l.map dq)=.ok (l.map (zJO B))
 | [],_=>rfl
 | x::r,h=>by
  obtain⟨d1,z⟩:=h x Qb;have d0:=eZ x;have e1:mJ (x.den:Int)=true:=tX (m:=20) (by omega) (by omega) (by decide)
  have e2:kK x.num (B.fdiv x.den)=true:=by
   rw[fdiv_pos _ d0];refine bZ (m:=500) (n:=1000) z.1 (Vu ?_ hB) (by decide)
   exact Int.natAbs_ediv_le_natAbs _ _
  have k1:zJV B (dq x)=.ok (zJO B x):=by
   show(if (mJ (x.den:Int) && kK x.num (B.fdiv x.den))=true then Res.ok _ else .no)=_
   rw[e1,e2];rfl
  rw[Qq,oU,k1];show((oU B (r.map dq)).bind fun ks=>Res.ok (zJO B x::ks))=_
  rw[zEu hB fun y hy=>h y (Qd _ hy)];rfl
theorem xZ{l:List Rat}(h:∀ x∈l,(x.den:Int)<=10^6/\Sz 500 x)(hl:l.length<=12):kC [.lst (l.map dq)]=.ok (l.map (zJO (tR l))):=by
 obtain⟨s',e,hb⟩:=zCL (a:=.val (.lst (l.map dq))) l 1 .un 1 (fun x hx=>(h x hx).1) (by decide) (by omega)
 rw[XO] at e hb;have r1:zCx (start 3 [.lst (l.map dq)])=.ok (.nx [.val (.lst (l.map dq)),.val (.int 1),.un]):=rfl
 have r2:vN [.val (.lst (l.map dq)),.val (.int 1),.un]=.ok (.nx [.val (.lst (l.map dq)),.val (.int (tR l)),s']):=by
  symm;exact e
 unfold kC zAA;rw[if_pos (show [D.lst (l.map dq)].length=1 from rfl),r1];show(match vN [.val (.lst (l.map dq)),.val (.int 1),.un] with | .ok (.nx ρ')=>zEL ρ' | _=>.no)=_
 rw[r2];show(if (l.map dq).length<64 then oU (tR l) (l.map dq) else .no)=_
 rw[if_pos (by rw[Qe];omega)];exact zEu (Qr hb (QZ (by decide) (by omega))) h
def lvs(ws cs:List Int):List Rat:=(cs.zip ws).map fun p=>Rat.divInt p.1 p.2
theorem yW{ws cs:List Int}(h:ws.length=cs.length):(lvs ws cs).length=cs.length:=by unfold lvs;rw[Qe,X7,h,Xp]
theorem zHj{ws cs:List Int}{i:Nat}(h:ws.length=cs.length)(hi:i<cs.length):(lvs ws cs)[i]?=some (cR cs i / cR ws i):=by
 unfold lvs;rw[Qu]
 have:(cs.zip ws)[i]?=some (cs.getD i 0,ws.getD i 0):=by
  rw[YA];exact⟨bR hi,bR (by omega)⟩
 rw[this];show some (Rat.divInt _ _)=_
 rw[Vo];rfl
theorem zFt{t b:Int}(hb:0<b):((Rat.divInt t b).den:Int)<=b:=by
 have e:=zBc (t:=t) (b:=b) (by omega)
 have d0:0<=dv t b:=by unfold dv;rw[if_neg (by omega)];exact Vj _
 rw[<-e,zNc _ d0];exact Int.ediv_le_self _ (by omega)
theorem zLY{ws cs:List Int}(hW:Wt ws cs)(hc:∀ c∈cs,0<=c/\c<10^30):∀ x∈lvs ws cs,(x.den:Int)<=10^6/\Sz 500 x:=fun x hx=>by
 obtain⟨p,hp,rfl⟩:=Qn.mp hx;obtain⟨h1,h2⟩:=VY hp;have c:=hc _ h1;have w1:=hW.lo _ h2;have w2:=hW.up _ h2;have d:=zFt (t:=p.1) (b:=p.2) (by omega)
 exact⟨by omega,Sz.of (by omega) (by omega) (by omega)⟩
theorem vD{ws cs:List Int}{wd cd:D}(sw:Sq wd ws)(sc:Sq cd cs)(hW:Wt ws cs)(hl:cs.length<=12):eD [wd,cd]=.ok (.f ((lvs ws cs).map dq)):=by
 have hw:=hW.len;unfold eD;symm;rw[oY sc.seqo sw.seqo];symm
 rw[mP (u:=D.int) (v:=D.int) (g:=fun c w=>dq (Rat.divInt c w)) (by omega) (fun p hp=>by
  have h2:=(VY hp).2;have w1:=hW.lo _ h2;have w2:=hW.up _ h2;symm;rw[zBf (n:=20) (by omega) (by omega) (by decide)]
  symm)]
 symm;unfold lvs;rw[Qv];rfl
theorem zAF(ws:List Int):∀ n,n<=ws.length->wS ws (List.range n)=(ws.take n).sum
 | 0,_=>rfl
 | n+1,h=>by
  have e:wS ws (List.range n++[n])=wS ws (List.range n)+ws.getD n 0:=by unfold wS;rw[QH,Vx];simp
  rw[X5,e,zAF ws n (by omega),XR,Vx,bR (show n<ws.length by omega)];simp
theorem zAe{ws:List Int}{π:List Nat}(h:π.Perm (List.range ws.length)):wS ws π=ws.sum:=by
 have e:=nH ws π;rw[vU h,nH,zAF ws _ (Qh _),Vg] at e;have:=Rat.intCast_inj.mp e
 omega
theorem zLD{a b:Sv}{ρ ρ':Rho}(h:a ρ=.ok (.nx ρ')):bA a b ρ=b ρ':=by unfold bA;rw[h];rfl
def evs(ws cs:List Int)(t:Rat):List Rat:=(List.range cs.length).map (dR (cR cs) (cR ws) t)
theorem sJ{ws cs:List Int}{wd cd:D}(sw:Sq wd ws)(sc:Sq cd cs){q:Rat}{m:Nat}(hmm:m<=3000)(hW:Wt ws cs)(hc:Cl cs)(hq:Sz m q)(h0:0<=q)(h1:q<=(cs.sum:Rat)):∃ t,0<=t/\dC [wd,cd,dq q]=.ok (.f ((evs ws cs t).map dq))/\(evs ws cs t).sum=q/\∀ i,i<cs.length->Sz (m+155) (dR (cR cs) (cR ws) t i):=by
 have hcc:∀ c∈cs,0<=c/\c<10^30:=fun c h=>⟨hc.nn c h,hc.up c h⟩
 have hi:=hc.hi;have hw:=hW.len;have hkr:=xZ (zLY hW hcc) (by rw[yW hw];exact hi)
 generalize hkz:(lvs ws cs).map (zJO (tR (lvs ws cs)))=kz at hkr;have lz:kz.length=cs.length:=by rw[<-hkz,Qe,yW hw]
 have pw:∀ j,j<cs.length->0<cR ws j:=fun j hj=>by
  have:=(hW.at hj).1
  unfold cR;exact_mod_cast (show 0<ws.getD j 0 by omega)
 have one:∀ π,iA kz π->∃ t,0<=t/\iT (dR (cR cs) (cR ws) t) (List.range cs.length)=q/\(∀ i,i<cs.length->Sz (m+155) (dR (cR cs) (cR ws) t i))/\bA (fun ρ=>loop (gName 6) bX (kP π) ρ) kJ [.val wd,.val cd,.val (dq q),.val (dq q),.val (.int ws.sum),.own (List.replicate cs.length (dq 0)),.un,.un]=.ok (.ret (.f ((evs ws cs t).map dq))):=by
  intro π hπ;obtain⟨hp,ho⟩:=hπ;rw[lz] at hp;have hm:∀ i∈π,i<cs.length:=fun i h=>Qi.mp (hp.mem_iff.mp h)
  have hl:π.length=cs.length:=by rw[hp.length_eq,QA]
  have B0:=zAz (lvs ws cs);have B0':(0:Rat)<(tR (lvs ws cs):Rat):=by exact_mod_cast B0
  have kat:∀ i,i<cs.length->((kz.getD i 0:Int):Rat)=cR cs i / cR ws i*(tR (lvs ws cs):Rat):=fun i h=>by
   have e:=zHj hw h;have e2:kz.getD i 0=zJO (tR (lvs ws cs)) (cR cs i / cR ws i):=by rw[<-hkz,Qw,Qu,e];rfl
   rw[e2];exact zMr (Qj e)
  have ord:π.Pairwise (fun i j=>cR cs i*cR ws j<=cR cs j*cR ws i):=by
   refine V3 (fun {i j} h1 h2 h3=>?_) ho
   have h4:((kz.getD i 0:Int):Rat)<=((kz.getD j 0:Int):Rat):=VG.mpr h3;rw[kat i (hm i h1),kat j (hm j h2)] at h4;have h5:=VV h4 B0';have wi:=pw i (hm i h1);have wj:=pw j (hm j h2);have h6:=Q5 h5 (Qg (XT wi wj));have e1:cR cs i / cR ws i*(cR ws i*cR ws j)=cR cs i*cR ws j:=by grind
   have e2:cR cs j / cR ws j*(cR ws i*cR ws j)=cR cs j*cR ws i:=by grind
   rwa [e1,e2] at h6
  have hW':wS ws π=ws.sum:=zAe (by rw[hw];exact hp)
  have hC':iT (cR cs) π=(cs.sum:Rat):=by rw[nH,zAe hp]
  have z0:q-((0:Int):Rat)=q:=by rw[show((0:Int):Rat)=0 from rfl];grind
  obtain⟨t,t1,t2,tz,l',W',s',t',e⟩:=zCy sw sc (qv:=.val (dq q)) hmm hW hcc hq π 0 0 (List.replicate cs.length (dq 0)) .un .un hm ord (by omega) (by rw[VM]) (by decide) (by rw[hl];omega) (by rw[z0];exact h0) (by rw[z0,hC'];exact h1) (by rw[z0];grind)
  rw[z0,hW'] at e;rw[z0] at t2;refine⟨t,t1,by rw[<-vU hp];exact t2,fun i h=>tz i (hp.mem_iff.mpr (Qi.mpr h)),?_⟩
  refine(zLD (a:=fun ρ=>loop (gName 6) bX (kP π) ρ) e).trans ?_
  rw[zGu hp];rfl
 obtain⟨π0,hπ0⟩:=zDs kz;obtain⟨t,t1,t2,tz,e0⟩:=one π0 hπ0;have pw':∀ i∈List.range cs.length,0<cR ws i:=fun i h=>pw i (Qi.mp h)
 refine⟨t,t1,?_,t2,tz⟩
 unfold dC;symm;rw[sw.sum];symm;rw[sc.len];symm;rw[zEW (by omega)];symm
 have hfs:Res.bind ((aD (eF (cD eD (aD (aH 0) (aD (aH 1) aNil)))) aNil) [.val wd,.val cd,.val (dq q),.val (dq q),.val (.int ws.sum),.own (List.replicate cs.length (dq 0)),.un,.un]) kC=.ok kz:=by
  symm;rw[vD sw sc hW hi];symm;exact hkr
 have hall:∀ π,iA kz π->bA (fun ρ=>loop (gName 6) bX (kP π) ρ) kJ [.val wd,.val cd,.val (dq q),.val (dq q),.val (.int ws.sum),.own (List.replicate cs.length (dq 0)),.un,.un]=.ok (.ret (.f ((evs ws cs t).map dq))):=fun π hπ=>by
  obtain⟨u,_,u2,_,eu⟩:=one π hπ;rw[eu];unfold evs;rw[Q8 (yM pw' (u2.trans t2.symm))]
 unfold oP;rw[zJo hfs hall];rfl
def ones(cs:List Int):List Int:=List.replicate cs.length 1
theorem fF(cs:List Int):Wt (ones cs) cs:=⟨VM,fun w h=>by rw[(List.mem_replicate.mp h).2];decide,fun w h=>by rw[(List.mem_replicate.mp h).2];decide⟩
def hf:Rat:=Rat.divInt 1 2
theorem jI:hf=1 / 2:=by unfold hf;rw[Vo];rfl
theorem zPH:d_HALF=dq hf:=zQB (b:=2) (by decide)
theorem zIq:Sz 2 hf:=Sz.of (by decide) (by decide) (by decide)
theorem dbl(q:Rat):q+q=q*((2:Int):Rat):=by rw[show((2:Int):Rat)=2 from rfl];grind
theorem zHt{q:Rat}{n:Nat}(h:Sz n q):Sz (n+2) (q+q):=by rw[dbl];exact h.mul (cU (by decide) (by decide))
def hvs(cs:List Int)(t:Rat):List Rat:=(List.range cs.length).map fun i=>dR (cR cs) (cR (ones cs)) t i*hf
structure Lvl (M:Nat) (ws cs:List Int) (q t:Rat):Prop where
 nn:0<=t
 sum:(evs ws cs t).sum=q
 sz:∀ i,i<cs.length->Sz M (dR (cR cs) (cR ws) t i)
theorem zBn{cs:List Int}{cd:D}(sc:Sq cd cs){q:Rat}{m:Nat}(hm:m<=2990)(hc:Cl cs)(hq:Sz m q)(h0:0<=q)(h1:q+q<=(cs.sum:Rat)):∃ t,Lvl (m+157) (ones cs) cs (q+q) t/\fP [cd,dq q]=.ok (.f ((hvs cs t).map dq)):=by
 have hi:=hc.hi;obtain⟨t,t1,e,t2,tz⟩:=sJ (wd:=.lst ((ones cs).map D.int)) (.inl rfl) sc (m:=m+2) (by omega) (fF cs) hc (zHt hq) (by grind) h1
 refine⟨t,⟨t1,t2,fun i h=>(tz i h).mono (by omega)⟩,?_⟩
 have eo:(ones cs).map D.int=List.replicate cs.length (.int 1):=by unfold ones;rw[List.map_replicate]
 rw[eo] at e;have hh:=zPH;unfold d_HALF at hh;unfold fP;symm;rw[sc.len];symm;rw[zEW (by omega)];symm;rw[zCr hq hq (by omega)];symm;rw[e];symm;rw[show(evs (ones cs) cs t).map dq=(List.range cs.length).map (fun i=>dq (dR (cR cs) (cR (ones cs)) t i)) by unfold evs;rw[Qv];rfl]
 rw[fT (u:=fun i=>dq (dR (cR cs) (cR (ones cs)) t i)) (g:=fun i=>dq (dR (cR cs) (cR (ones cs)) t i*hf)) (by rw[QA];omega) (fun i h=>by
  have hil:=Qi.mp h;symm;rw[hh,mW (tz i hil) zIq (by omega)]
  symm)]
 symm;unfold hvs;rw[Qv];rfl
theorem Lvl.mono{M M':Nat}{ws cs:List Int}{q t:Rat}(h:Lvl M ws cs q t)(l:M<=M'):Lvl M' ws cs q t:=⟨h.nn,h.sum,fun i hi=>(h.sz i hi).mono l⟩
theorem uD{w v:Str}(h:aV.lookup w=some v):bY [.str w]=.ok (.v .non):=by
 unfold bY;symm;rw[h];rfl
theorem uZ{cs:List Int}{cd:D}(sc:Sq cd cs)(hc:Cl cs):eG [cd]=.ok (.v .non):=by
 have lo:=hc.lo;unfold eG;symm;rw[sc.len];symm;rw[decide_eq_false (by omega)];symm;rw[sc.seq];symm;refine zDX (Q:=fun r=>r=(.ok (.v .non):Res Rt)) (fun ρ=>∃ a,ρ=[.val cd,a]) ⟨_,rfl⟩ ?_ ?_
 ·rintro e ρ he ⟨a,rfl⟩
  obtain⟨c,h,rfl⟩:=Qn.mp he;have:=hc.nn c h
  refine⟨_,?_,.val (.int c),rfl⟩
  symm;rw[decide_eq_false (by omega)];symm
 ·rintro ρ ⟨a,rfl⟩
  rfl
theorem lX{q:Rat}{W:Int}{m:Nat}(hm:m<=3000)(h:Haul m q W)(hW:W.natAbs<2^110):bG [dq q,dq (W:Rat)]=.ok (.v .non):=by
 have z0:Sz 1 (0:Rat):=⟨by decide,by decide⟩
 have zW:Sz 110 (W:Rat):=cU hW (by decide)
 have n1:¬ q<0:=Va.mpr h.nn;have n2:¬ (W:Rat)<q:=Va.mpr h.up
 have io:eE [dq q,dq (W:Rat)]=.ok (.v (.bl false)):=by
  unfold eE;symm;rw[jW h.sz z0 (by omega),decide_eq_false n1];symm;rw[jW zW h.sz (by omega),decide_eq_false n2];symm
 unfold bG;symm;rw[io];symm
theorem nM{α β:Type}(l:List α)(f:Nat->β)(d:α):l.zip ((List.range l.length).map f)=(List.range l.length).map fun i=>(l.getD i d,f i):=by
 refine VU fun i=>?_
 rw[Qu];by_cases h:i<l.length
 ·rw[Vf h]
  refine YA.mpr ⟨?_,by rw[Qu,Vf h];rfl⟩
  show l[i]?=some (l.getD i d)
  rw[Qw,Qp h];rfl
 ·rw[QC (by rw[X7];omega),QC (by rw[QA];omega)];rfl
theorem jY{w:Str}{d:D}{n:Int}(hd:d=.lst []∨d=.tup [])(hw:oIn (.str w) d_WEIGHTED=.ok (.bl false)):bB [.str w,d,.int n]=.ok (.v .non):=by
 have sq:zLr d=.ok []:=by rcases hd with rfl | rfl<;>rfl
 have ln:mC [d]=.ok (.int 0):=by rcases hd with rfl | rfl<;>rfl
 unfold d_WEIGHTED at hw;unfold bB;symm;rw[hw];symm;rw[ln];symm;rw[sq];rfl
theorem zSS:rD 10 6=true:=by decide
theorem pZ{w:Str}{ws cs:List Int}{wd:D}(sw:Sq wd ws)(hW:Wt ws cs)(hw:oIn (.str w) d_WEIGHTED=.ok (.bl true)):bB [.str w,wd,.int cs.length]=.ok (.v .non):=by
 have hl:=hW.len;unfold d_WEIGHTED at hw;unfold bB;symm;rw[hw];symm;rw[sw.len];symm;rw[hl,decide_eq_true rfl];symm;rw[sw.seq];symm;refine zDX (Q:=fun r=>r=(.ok (.v .non):Res Rt)) (fun ρ=>∃ a,ρ=[.val (.str w),.val wd,.val (.int cs.length),.val (.int cs.length),a]) ⟨_,rfl⟩ ?_ ?_
 ·rintro e ρ he ⟨a,rfl⟩
  obtain⟨c,h,rfl⟩:=Qn.mp he;have h1:=hW.lo c h;have h2:=hW.up c h;refine⟨_,?_,.val (.int c),rfl⟩
  symm;rw[decide_eq_false (by omega)];symm;rw[oPow_i zSS];symm;rw[decide_eq_false (by omega)];symm
 ·rintro ρ ⟨a,rfl⟩
  rfl
theorem zSH:(Str.ofString "even" == Str.ofString "row")=false:=by decide
theorem zSF:(Str.ofString "lack" == Str.ofString "row")=false:=by decide
theorem zSA:(Str.ofString "lack" == Str.ofString "even")=false:=by decide
theorem zSn:(Str.ofString "lack" == Str.ofString "part")=false:=by decide
theorem zSv:(Str.ofString "lack" == Str.ofString "half")=false:=by decide
theorem zEH:(aV.lookup (Str.ofString "even"))=some (Str.ofString "lack"):=by decide
theorem zZ:(aV.lookup (Str.ofString "lack"))=some (Str.ofString "even"):=by decide
theorem zLG{n:Nat}{ws cs:List Int}{wd cd:D}(sw:Sq wd ws)(sc:Sq cd cs){q:Rat}{m:Nat}(hm:m<=3000)(hW:Wt ws cs)(hc:Cl cs)(hq:Sz m q)(h0:0<=q)(h1:q<=(cs.sum:Rat)):∃ t,Lvl (m+155) ws cs q t/\aN (n+1) [.str (Str.ofString "even"),wd,cd,dq q]=.ok (.f ((evs ws cs t).map dq)):=by
 obtain⟨t,t1,e,t2,tz⟩:=sJ sw sc hm hW hc hq h0 h1;refine⟨t,⟨t1,t2,tz⟩,?_⟩
 show aS (aN n) _=_
 unfold aS;symm;rw[sc.sum];symm;rw[bU];symm;rw[zSH];symm;rw[e];symm
def lks(ws cs:List Int)(t:Rat):List Rat:=(cs.zip (evs ws cs t)).map fun p=>(p.1:Rat)-p.2
theorem zQY(ws cs:List Int)(t:Rat):lks ws cs t=(List.range cs.length).map fun i=>cR cs i-dR (cR cs) (cR ws) t i:=by
 unfold lks evs;rw[nM cs _ 0,Qv];rfl
theorem zPO{n:Nat}{ws cs:List Int}{wd cd:D}(sw:Sq wd ws)(sc:Sq cd cs){q:Rat}{m:Nat}(hm:m<=2890)(hW:Wt ws cs)(hc:Cl cs)(hq:Haul m q cs.sum):∃ t,Lvl (m+261) ws cs ((cs.sum:Rat)-q) t/\aN (n+2) [.str (Str.ofString "lack"),wd,cd,dq q]=.ok (.f ((lks ws cs t).map dq)):=by
 have sm:=hc.sum;have hi:=hc.hi;have zW:Sz 105 (cs.sum:Rat):=cU (by omega) (by decide)
 have zT:Sz (m+106) ((cs.sum:Rat)-q):=(zW.sub hq.sz).mono (by omega)
 have u:=hq.up;have u':=hq.nn;obtain⟨t,tl,e⟩:=zLG sw sc (n:=n) (m:=m+106) (by omega) hW hc zT (by grind) (by grind)
 refine⟨t,tl,?_⟩
 show aS (aN (n+1)) _=_
 unfold aS;symm;rw[sc.sum];symm;rw[bU];symm;rw[zSF];symm;rw[zSA];symm;rw[zSn];symm;rw[zSv];symm;rw[show vJ aV (.str (Str.ofString "lack"))=.ok (.str (Str.ofString "even")) by show zOP (aV.lookup (Str.ofString "lack"))=_;rw[zZ];rfl];symm;rw[eP zW hq.sz (by omega)];symm;rw[e];symm;rw[oY sc.seqo rfl];symm
 rw[mP (u:=D.int) (v:=dq) (g:=fun c l=>dq ((c:Rat)-l)) (by omega) (fun p hp=>by
  have hp':=hp;unfold evs at hp';rw[nM cs _ 0] at hp';obtain⟨i,hir,rfl⟩:=Qn.mp hp';have hil:=Qi.mp hir;have c1:=hc.nn _ (Qj (bR hil));have c2:=hc.up _ (Qj (bR hil));symm;rw[bU];symm;rw[eP (m:=100) (n:=m+261) (cU (by omega) (by decide)) (tl.sz i hil) (by omega)]
  symm)]
 symm;unfold lks;rw[Qv];rfl
theorem zRW:(Str.ofString "half" == Str.ofString "row")=false:=by decide
theorem zRz:(Str.ofString "half" == Str.ofString "even")=false:=by decide
theorem zRm:(Str.ofString "half" == Str.ofString "part")=false:=by decide
theorem zE:(aV.lookup (Str.ofString "half"))=some (Str.ofString "half"):=by decide
theorem zIu{n:Nat}{e:D}{cs:List Int}{cd:D}(sc:Sq cd cs){q:Rat}{m:Nat}(hm:m<=2990)(hc:Cl cs)(hq:Sz m q)(h0:0<=q)(h1:q+q<=(cs.sum:Rat)):∃ t,Lvl (m+157) (ones cs) cs (q+q) t/\aN (n+1) [.str (Str.ofString "half"),e,cd,dq q]=.ok (.f ((hvs cs t).map dq)):=by
 have sm:=hc.sum;have zW:Sz 105 (cs.sum:Rat):=cU (by omega) (by decide)
 obtain⟨t,tl,ee⟩:=zBn sc hm hc hq h0 h1;refine⟨t,tl,?_⟩
 show aS (aN n) _=_
 unfold aS;symm;rw[sc.sum];symm;rw[bU];symm;rw[zRW];symm;rw[zRz];symm;rw[zRm];symm;rw[zCr hq hq (by omega)];symm;rw[jW zW (zHt hq) (by omega),decide_eq_false (Va.mpr h1)];symm;rw[ee];symm
def lhs(cs:List Int)(t:Rat):List Rat:=(List.range cs.length).map fun i=>cR cs i-dR (cR cs) (cR (ones cs)) t i*hf
theorem zOr{n:Nat}{e:D}{cs:List Int}{cd:D}(sc:Sq cd cs){q:Rat}{m:Nat}(hm:m<=2880)(hc:Cl cs)(hq:Haul m q cs.sum)(h1:(cs.sum:Rat)<q+q):∃ t,Lvl (m+263) (ones cs) cs (((cs.sum:Rat)-q)+((cs.sum:Rat)-q)) t/\aN (n+2) [.str (Str.ofString "half"),e,cd,dq q]=.ok (.f ((lhs cs t).map dq)):=by
 have sm:=hc.sum;have hi:=hc.hi;have zW:Sz 105 (cs.sum:Rat):=cU (by omega) (by decide)
 have zT:Sz (m+106) ((cs.sum:Rat)-q):=(zW.sub hq.sz).mono (by omega)
 have u:=hq.up;obtain⟨t,tl,ee⟩:=zIu sc (n:=n) (e:=e) (m:=m+106) (by omega) hc zT (by grind) (by grind)
 refine⟨t,tl,?_⟩
 show aS (aN (n+1)) _=_
 unfold aS;symm;rw[sc.sum];symm;rw[bU];symm;rw[zRW];symm;rw[zRz];symm;rw[zRm];symm;rw[zCr hq.sz hq.sz (by omega)];symm;rw[jW zW (zHt hq.sz) (by omega),decide_eq_true h1];symm;rw[show vJ aV (.str (Str.ofString "half"))=.ok (.str (Str.ofString "half")) by show zOP (aV.lookup (Str.ofString "half"))=_;rw[zE];rfl];symm;rw[eP zW hq.sz (by omega)];symm;rw[ee];symm;rw[oY sc.seqo rfl];symm
 rw[mP (u:=D.int) (v:=dq) (g:=fun c l=>dq ((c:Rat)-l)) (by omega) (fun p hp=>by
  have hp':=hp;unfold hvs at hp';rw[nM cs _ 0] at hp';obtain⟨i,hir,rfl⟩:=Qn.mp hp';have hil:=Qi.mp hir;have c1:=hc.nn _ (Qj (bR hil));have c2:=hc.up _ (Qj (bR hil));symm;rw[bU];symm;rw[eP (m:=100) (n:=m+263+2) (cU (by omega) (by decide)) ((tl.sz i hil).mul zIq) (by omega)]
  symm)]
 symm;unfold hvs lhs;rw[nM cs _ 0,Qv,Qv];rfl
theorem zSB:(Str.ofString "back" == Str.ofString "row")=false:=by decide
theorem zSx:(Str.ofString "back" == Str.ofString "even")=false:=by decide
theorem zSh:(Str.ofString "back" == Str.ofString "part")=false:=by decide
theorem zSj:(Str.ofString "back" == Str.ofString "half")=false:=by decide
theorem zSD:(Str.ofString "part" == Str.ofString "row")=false:=by decide
theorem zSo:(Str.ofString "part" == Str.ofString "even")=false:=by decide
theorem zJI:(aV.lookup (Str.ofString "row"))=some (Str.ofString "back"):=by decide
theorem yX:(aV.lookup (Str.ofString "back"))=some (Str.ofString "row"):=by decide
theorem zEr:(aV.lookup (Str.ofString "part"))=some (Str.ofString "part"):=by decide
theorem zQj{n:Nat}{d e:D}{cs:List Int}{q:Rat}(hd:d=.lst (cs.map D.int)∨d=.tup (cs.map D.int)){m:Nat}(hm:m<=3000)(hc:Cl cs)(hq:Sz m q)(h0:0<=q):aN (n+1) [.str (Str.ofString "row"),e,d,dq q]=.ok (.f ((jF cs 0 q).map dq)):=by
 have su:zCv [d]=.ok (.int cs.sum):=by rcases hd with rfl | rfl;exact bSum_l;exact bSum_t
 show aS (aN n) _=_
 unfold aS;symm;rw[su];symm;rw[bU];symm;rw[zCO hd hm hc hq h0];symm
theorem zQt{n:Nat}{d e:D}{cs:List Int}{q:Rat}(hd:d=.lst (cs.map D.int)∨d=.tup (cs.map D.int)){m:Nat}(hm:m<=3000)(hc:Cl cs)(hq:Sz m q):aN (n+1) [.str (Str.ofString "part"),e,d,dq q]=.ok (.f ((zAf cs q).map dq)):=by
 have su:zCv [d]=.ok (.int cs.sum):=by rcases hd with rfl | rfl;exact bSum_l;exact bSum_t
 show aS (aN n) _=_
 unfold aS;symm;rw[su];symm;rw[bU];symm;rw[zSD];symm;rw[zSo];symm;rw[zCC hd hm hc hq];symm
theorem zMv(f g:Nat->Rat):∀ n:Nat,((List.range n).map fun i=>f i-g i).sum=((List.range n).map f).sum-((List.range n).map g).sum
 | 0=>by simp only[List.range_zero,Vl,V8];grind
 | n+1=>by
  rw[X5,QH,QH,QH,Vx,Vx,Vx,zMv f g n];simp only[Qq,Vl,QB,V8];grind
theorem sQ(cs:List Int):((List.range cs.length).map (cR cs)).sum=(cs.sum:Rat):=by
 have e:=nH cs (List.range cs.length);rw[zAF cs _ (Qh _),Vg] at e;exact e
theorem pC{ws cs:List Int}{t:Rat}(hW:Wt ws cs)(hc:Cl cs)(h0:0<=t){i:Nat}(hi:i<cs.length):0<=dR (cR cs) (cR ws) t i/\dR (cR cs) (cR ws) t i<=cR cs i:=by
 have w:=(hW.at hi).1;have c:=hc.nn _ (Qj (bR hi));have w':(0:Rat)<=cR ws i:=by unfold cR;exact_mod_cast (show 0<=ws.getD i 0 by omega)
 have c':(0:Rat)<=cR cs i:=by unfold cR;exact_mod_cast c
 have:=Xt w' h0
 unfold dR mn;grind
theorem zKG(l:List Int):dep (.lst (l.map D.int))<=2:=by
 have:depS (l.map D.int)<=1:=by
  induction l with
  | nil=>exact QP _
  | cons a l ih=>rw[Qq];show max 0 (depS (l.map D.int))<=1;omega
 show depS (l.map D.int)+1<=2
 omega
theorem zMb(x:Rat):(x.num:Rat)=x*((x.den:Int):Rat):=by
 have d0:=eZ x
 have nd:((x.den:Int):Rat)≠0:=fun z=>by
  have:(x.den:Int)=0:=by exact_mod_cast z
  omega
 have h1:=QY x;rw[Vo] at h1;rw[<-QT (a:=(x.num:Rat)) nd,h1]
theorem zJD{l:List Rat}{n:Nat}(h:l.length=n):l=(List.range n).map fun i=>l.getD i 0:=by
 refine VU fun i=>?_
 rw[Qu];by_cases hi:i<n
 ·rw[Vf hi,Qp (by omega)]
  show _=some (l.getD i 0)
  rw[Qw,Qp (by omega)];rfl
 ·rw[QC (by omega),QC (by rw[QA];omega)];rfl
def zET(cs:List Int)(q:Rat)(i:Nat):Rat:=(jF cs 0 q).getD i 0
theorem zHm:∀(cs:List Int)(a:Int)(q:Rat)(i:Nat),(∀ c∈cs,0<=c)->i<cs.length->0<=(jF cs a q).getD i 0/\(jF cs a q).getD i 0<=cR cs i
 | c::r,a,q,0,h,_=>by
  have c0:(0:Rat)<=(c:Rat):=by exact_mod_cast h c Qb
  show 0<=mn (ps0 (q-(a:Rat))) (c:Rat)/\mn (ps0 (q-(a:Rat))) (c:Rat)<=(c:Rat)
  unfold mn ps0;grind
 | c::r,a,q,i+1,h,hi=>zHm r (a+c) q i (fun x hx=>h x (Qd _ hx)) (by rw[Qm] at hi;omega)
theorem wG:∀(cs:List Int)(a:Int){q q':Rat}(i:Nat),q<=q'->(jF cs a q).getD i 0<=(jF cs a q').getD i 0
 | [],_,_,_,_,_=>Qf
 | c::r,a,q,q',0,h=>by
  show mn (ps0 (q-(a:Rat))) (c:Rat)<=mn (ps0 (q' - (a:Rat))) (c:Rat)
  unfold mn ps0;grind
 | c::r,a,q,q',i+1,h=>wG r (a+c) i h
theorem zFa:∀(cs:List Int)(a:Int)(q:Rat),(∀ c∈cs,0<=c)->0<=cs.sum/\(jF cs a q).sum=mn (ps0 (q-(a:Rat))) (cs.sum:Rat)
 | [],a,q,_=>⟨V5 _,by show(0:Rat)=mn (ps0 _) ((0:Int):Rat);rw[show((0:Int):Rat)=0 from rfl];unfold mn ps0;grind⟩
 | c::r,a,q,h=>by
  have c0:=h c Qb;obtain⟨s0,e⟩:=zFa r (a+c) q fun x hx=>h x (Qd _ hx)
  have c0':(0:Rat)<=(c:Rat):=by exact_mod_cast c0
  have s0':(0:Rat)<=(r.sum:Rat):=by exact_mod_cast s0
  rw[QB];refine⟨by omega,?_⟩
  rw[jF,QB,e,QS,QS];unfold mn ps0;grind
theorem zHL{q:Rat}{m:Nat}(hq:Sz m q):∀(cs:List Int)(a:Int),(∀ c∈cs,0<=c)->(∀ c∈cs,c<10^30)->0<=a->a+cs.length*10^30<2^110->∀ x∈jF cs a q,Sz (m+111) x
 | [],_,_,_,_,_,x,hx=>by cases hx
 | c::r,a,h1,h2,h3,h4,x,hx=>by
  have c0:=h1 c Qb;have c1:=h2 c Qb;rw[Qm] at h4;have e4:((r.length+1:Nat):Int)*10^30=(r.length:Int)*10^30+10^30:=by rw[V6,V7];rfl
  have r0:0<=(r.length:Int)*10^30:=Xs (by omega) (by decide)
  rw[jF] at hx;rcases Qc.mp hx with rfl | hx
  ·exact zNg (zQi (hq.sub (cU (n:=110) (by omega) (by decide))) (by omega)) (Sz.mono (m:=100) (cU (by omega) (by decide)) (by omega))
  ·exact zHL hq r (a+c) (fun x hx=>h1 x (Qd _ hx)) (fun x hx=>h2 x (Qd _ hx)) (by omega) (by omega) x hx
theorem zDq{cs:List Int}{q:Rat}{m:Nat}(hc:Cl cs)(hq:Sz m q)(h0:0<=q)(h1:q<=(cs.sum:Rat)):(jF cs 0 q=(List.range cs.length).map (zET cs q))/\(jF cs 0 q).sum=q/\∀ x∈jF cs 0 q,Sz (m+111) x:=by
 have hi:=hc.hi;refine⟨zJD (zBS _ _ _),?_,zHL hq cs 0 hc.nn hc.up (by decide) (by omega)⟩
 rw[(zFa cs 0 q hc.nn).2,show((0:Int):Rat)=0 from rfl];unfold mn ps0;grind
theorem zQr{n:Nat}{e:D}{cs:List Int}{cd:D}(sc:Sq cd cs){q:Rat}{m:Nat}(hm:m<=2890)(hc:Cl cs)(hq:Haul m q cs.sum):aN (n+2) [.str (Str.ofString "back"),e,cd,dq q]=.ok (.f (((List.range cs.length).map fun i=>cR cs i-zET cs ((cs.sum:Rat)-q) i).map dq)):=by
 have sm:=hc.sum;have hi:=hc.hi;have zW:Sz 105 (cs.sum:Rat):=cU (by omega) (by decide)
 have zT:Sz (m+106) ((cs.sum:Rat)-q):=(zW.sub hq.sz).mono (by omega)
 have u:=hq.up;have u':=hq.nn;obtain⟨r1,r2,r3⟩:=zDq hc zT (by grind) (by grind)
 have ee:=zQj (n:=n) (e:=e) sc (m:=m+106) (by omega) hc zT (by grind)
 show aS (aN (n+1)) _=_
 unfold aS;symm;rw[sc.sum];symm;rw[bU];symm;rw[zSB];symm;rw[zSx];symm;rw[zSh];symm;rw[zSj];symm;rw[show vJ aV (.str (Str.ofString "back"))=.ok (.str (Str.ofString "row")) by show zOP (aV.lookup (Str.ofString "back"))=_;rw[yX];rfl];symm;rw[eP zW hq.sz (by omega)];symm;rw[ee];symm;rw[oY sc.seqo rfl];symm
 rw[mP (u:=D.int) (v:=dq) (g:=fun c l=>dq ((c:Rat)-l)) (by omega) (fun p hp=>by
  obtain⟨p1,p2⟩:=VY hp;have c1:=hc.nn _ p1;have c2:=hc.up _ p1;symm;rw[bU];symm;rw[eP (m:=100) (n:=m+106+111) (cU (by omega) (by decide)) (r3 _ p2) (by omega)]
  symm)]
 symm;rw[r1,nM cs _ 0,Qv,Qv];rfl
def kH(cs:List Int)(q:Rat)(i:Nat):Rat:=(zAf cs q).getD i 0
theorem zEZ{cs:List Int}{q:Rat}{i:Nat}(hi:i<cs.length):kH cs q i=Rat.divInt (cs.getD i 0*q.num) (max 1 cs.sum*q.den):=by
 unfold kH zAf;rw[Qw,Qu,bR hi];rfl
theorem jJ{cs:List Int}{q:Rat}(hc:Cl cs){i:Nat}(hi:i<cs.length):kH cs q i*(cs.sum:Rat)=q*cR cs i/\(cs.sum=0->kH cs q i=0):=by
 have sm:=hc.sum;have e:=zEZ (q:=q) hi;by_cases z:cs.sum=0
 ·have c0:=pX hc.nn z _ (Qj (bR hi))
  have p0:kH cs q i=0:=by rw[e,c0,Int.zero_mul,XV]
  refine⟨?_,fun _=>p0⟩
  rw[p0];unfold cR;rw[c0,show((0:Int):Rat)=0 from rfl];grind
 ·have W0:0<cs.sum:=by omega
  have nW:(cs.sum:Rat)≠0:=fun y=>by
   have:cs.sum=0:=by exact_mod_cast y
   omega
  refine⟨?_,fun y=>absurd y z⟩
  rw[e,Int.max_eq_right (by omega),<-zJy W0];show q / (cs.sum:Rat)*cR cs i*(cs.sum:Rat)=_
  grind
theorem zJJ{cs:List Int}{q:Rat}{m:Nat}(hc:Cl cs)(hq:Sz m q){i:Nat}(hi:i<cs.length):Sz (m+370) (kH cs q i):=by
 have sm:=hc.sum;have c1:=hc.nn _ (Qj (bR hi));have c2:=hc.up _ (Qj (bR hi));rw[zEZ hi];have d0:=eZ q;have p:=Xj (show 0<max 1 cs.sum by omega) d0
 exact Sz.of (by omega) (Qr (fQ (m:=100) (n:=m) (by omega) hq.1) (QZ (by decide) (by omega))) (Qr (fQ (m:=110) (n:=m) (by omega) hq.d) (QZ (by decide) (by omega)))
inductive Wy where
 | row | back | even | lack | part | half
def Wy.s:Wy->Str
 | .row=>Str.ofString "row"
 | .back=>Str.ofString "back"
 | .even=>Str.ofString "even"
 | .lack=>Str.ofString "lack"
 | .part=>Str.ofString "part"
 | .half=>Str.ofString "half"
def Wy.due(w:Wy)(ws cs:List Int):Prop:=match w with
 | .even=>Wt ws cs
 | .lack=>Wt ws cs
 | _=>ws=[]
def Al(M:Nat)(ws cs:List Int)(q:Rat)(f:Nat->Rat):Wy->Prop
 | .row=>∀ i,i<cs.length->f i=zET cs q i
 | .back=>∀ i,i<cs.length->f i=cR cs i-zET cs ((cs.sum:Rat)-q) i
 | .even=>∃ t,Lvl M ws cs q t/\∀ i,i<cs.length->f i=dR (cR cs) (cR ws) t i
 | .lack=>∃ t,Lvl M ws cs ((cs.sum:Rat)-q) t/\∀ i,i<cs.length->f i=cR cs i-dR (cR cs) (cR ws) t i
 | .part=>∀ i,i<cs.length->f i=kH cs q i
 | .half=>∃ t,(q+q<=(cs.sum:Rat)/\Lvl M (ones cs) cs (q+q) t/\∀ i,i<cs.length->f i=dR (cR cs) (cR (ones cs)) t i*hf)∨((cs.sum:Rat)<q+q/\Lvl M (ones cs) cs (((cs.sum:Rat)-q)+((cs.sum:Rat)-q)) t/\∀ i,i<cs.length->f i=cR cs i-dR (cR cs) (cR (ones cs)) t i*hf)
theorem zBA{w:Wy}{ws cs:List Int}{wd cd:D}(sw:Sq wd ws)(sc:Sq cd cs){q:Rat}{m:Nat}(hm:m<=2880)(hw:w.due ws cs)(hc:Cl cs)(hq:Haul m q cs.sum):∃ f,aN 2 [.str w.s,wd,cd,dq q]=.ok (.f (((List.range cs.length).map f).map dq))/\Al (m+263) ws cs q f w:=by
 have z:=hq.sz
 cases w with
 | row=>exact⟨zET cs q,by rw[<-(zDq hc z hq.nn hq.up).1];exact zQj sc (by omega) hc z hq.nn,fun i _=>rfl⟩
 | back=>exact⟨_,zQr sc (by omega) hc hq,fun i _=>rfl⟩
 | even=>
  obtain⟨t,tl,e⟩:=zLG sw sc (n:=1) (by omega) hw hc z hq.nn hq.up
  exact⟨_,e,t,tl.mono (by omega),fun i _=>rfl⟩
 | lack=>
  obtain⟨t,tl,e⟩:=zPO sw sc (n:=0) (by omega) hw hc hq
  rw[zQY] at e;exact⟨_,e,t,tl.mono (by omega),fun i _=>rfl⟩
 | part=>
  refine⟨kH cs q,?_,fun i _=>rfl⟩
  have e:zAf cs q=(List.range cs.length).map (kH cs q):=zJD (by unfold zAf;rw[Qe])
  rw[<-e];exact zQt sc (by omega) hc z
 | half=>
  by_cases h:(cs.sum:Rat)<q+q
  ·obtain⟨t,tl,e⟩:=zOr sc (n:=0) (e:=wd) (by omega) hc hq h
   exact⟨_,e,t,.inr ⟨h,tl,fun i _=>rfl⟩⟩
  ·obtain⟨t,tl,e⟩:=zIu sc (n:=1) (e:=wd) (by omega) hc z hq.nn (Va.mp h)
   exact⟨_,e,t,.inl ⟨Va.mp h,tl.mono (by omega),fun i _=>rfl⟩⟩
theorem zOt(w:Wy):∃ v,aV.lookup w.s=some v:=by
 cases w
 ·exact⟨_,zJI⟩
 ·exact⟨_,yX⟩
 ·exact⟨_,zEH⟩
 ·exact⟨_,zZ⟩
 ·exact⟨_,zEr⟩
 ·exact⟨_,zE⟩
theorem zFs{w:Wy}{ws cs:List Int}{wd cd:D}(sw:Sq wd ws)(sc:Sq cd cs)(hw:w.due ws cs)(hc:Cl cs):lA [.str w.s,wd,cd]=.ok (.v .non):=by
 have rw':bB [.str w.s,wd,.int cs.length]=.ok (.v .non):=by
  cases w with
  | even=>exact pZ sw hw rfl
  | lack=>exact pZ sw hw rfl
  | row=>have e:ws=[]:=hw;rw[e] at sw;exact jY sw rfl
  | back=>have e:ws=[]:=hw;rw[e] at sw;exact jY sw rfl
  | part=>have e:ws=[]:=hw;rw[e] at sw;exact jY sw rfl
  | half=>have e:ws=[]:=hw;rw[e] at sw;exact jY sw rfl
 obtain⟨v,hv⟩:=zOt w;unfold lA;symm;rw[uD hv];symm;rw[uZ sc hc];symm;rw[sc.len];symm;rw[rw'];symm
theorem zNZ{w:Wy}{ws cs:List Int}{wd cd:D}(sw:Sq wd ws)(sc:Sq cd cs){q:Rat}{m:Nat}(hm:m<=2880)(hw:w.due ws cs)(hc:Cl cs)(hq:Haul m q cs.sum):∃ f,rF [.str w.s,wd,cd,dq q]=.ok (.f (((List.range cs.length).map f).map dq))/\Al (m+263) ws cs q f w:=by
 obtain⟨f,rd,al⟩:=zBA sw sc hm hw hc hq;have sm:=hc.sum;refine⟨f,?_,al⟩
 unfold rF;symm;rw[zFs sw sc hw hc];symm;rw[sc.sum];symm;rw[bU];symm;rw[lX (by omega) hq (by omega)];symm;rw[rd];symm
structure Dl (M:Nat) (cs:List Int) (q:Rat) (f:Nat->Rat):Prop where
 bd:∀ i,i<cs.length->0<=f i/\f i<=cR cs i/\Sz M (f i)
 sum:((List.range cs.length).map f).sum=q
theorem zCe{f g:Nat->Rat}{n:Nat}(h:∀ i,i<n->f i=g i):((List.range n).map f).sum=((List.range n).map g).sum:=by rw[Q8 fun i hi=>h i (Qi.mp hi)]
theorem Dl.congr{M:Nat}{cs:List Int}{q:Rat}{f g:Nat->Rat}(d:Dl M cs q g)(h:∀ i,i<cs.length->f i=g i):Dl M cs q f:=⟨fun i hi=>by rw[h i hi];exact d.bd i hi,by rw[zCe h];exact d.sum⟩
theorem Dl.mono{M M':Nat}{cs:List Int}{q:Rat}{f:Nat->Rat}(d:Dl M cs q f)(h:M<=M'):Dl M' cs q f:=⟨fun i hi=>⟨(d.bd i hi).1,(d.bd i hi).2.1,(d.bd i hi).2.2.mono h⟩,d.sum⟩
theorem zJc{cs:List Int}(hc:Cl cs){i:Nat}(hi:i<cs.length):0<=cR cs i/\Sz 100 (cR cs i):=by
 have c1:=hc.nn _ (Qj (bR hi));have c2:=hc.up _ (Qj (bR hi));exact⟨by unfold cR;exact_mod_cast c1,cU (by omega) (by decide)⟩
theorem Dl.dual{M:Nat}{cs:List Int}{q q':Rat}{g:Nat->Rat}(hc:Cl cs)(d:Dl M cs q' g)(h:q'=(cs.sum:Rat)-q):Dl (100+M+1) cs q (fun i=>cR cs i-g i):=by
 refine⟨fun i hi=>?_,?_⟩
 ·obtain⟨b1,b2,b3⟩:=d.bd i hi
  exact⟨by grind,by grind,(zJc hc hi).2.sub b3⟩
 ·rw[zMv,sQ,d.sum]
  grind
theorem zLP{m:Nat}{cs:List Int}{q:Rat}(hc:Cl cs)(hq:Sz m q)(h0:0<=q)(h1:q<=(cs.sum:Rat)):Dl (m+111) cs q (zET cs q):=by
 obtain⟨e,s,z⟩:=zDq hc hq h0 h1;refine⟨fun i hi=>?_,by rw[<-e];exact s⟩
 obtain⟨b1,b2⟩:=zHm cs 0 q i hc.nn hi;exact⟨b1,b2,z _ (by rw[e];exact Qn.mpr ⟨i,Qi.mpr hi,rfl⟩)⟩
theorem zLV{M:Nat}{ws cs:List Int}{q t:Rat}(hW:Wt ws cs)(hc:Cl cs)(tl:Lvl M ws cs q t):Dl M cs q (dR (cR cs) (cR ws) t):=
 ⟨fun i hi=>⟨(pC hW hc tl.nn hi).1,(pC hW hc tl.nn hi).2,tl.sz i hi⟩,tl.sum⟩
theorem zHJ{M:Nat}{cs:List Int}{q t:Rat}(hc:Cl cs)(tl:Lvl M (ones cs) cs (q+q) t):Dl (M+2) cs q (fun i=>dR (cR cs) (cR (ones cs)) t i*hf):=by
 refine⟨fun i h=>?_,?_⟩
 ·obtain⟨b1,b2⟩:=pC (fF cs) hc tl.nn h
  exact⟨by rw[jI];grind,by rw[jI];grind,(tl.sz i h).mul zIq⟩
 ·have e:=tl.sum
  have e2:=dM (w:=dR (cR cs) (cR (ones cs)) t) (t:=hf) (l:=List.range cs.length);unfold evs at e;unfold iT at e2;rw[e2,e,jI];grind
theorem zOg{a b s:Rat}(hs:s≠0)(h:a*s=b*s):a=b:=by
 have e1:a*s / s=a:=by grind
 have e2:b*s / s=b:=by grind
 rw[<-e1,<-e2,h]
theorem uR{a b s:Rat}(hs:0<s)(h:a*s<=b*s):a<=b:=VV h hs
theorem zNz{m:Nat}{cs:List Int}{q:Rat}(hc:Cl cs)(hq:Sz m q)(h0:0<=q)(h1:q<=(cs.sum:Rat)):Dl (m+370) cs q (kH cs q):=by
 have sm:=hc.sum;have cn:∀ i,i<cs.length->0<=cR cs i:=fun i hi=>(zJc hc hi).1
 have sc:iT (fun i=>kH cs q i*(cs.sum:Rat)) (List.range cs.length)=q*(cs.sum:Rat):=by
  rw[eI (g:=fun i=>cR cs i*q) fun i hi=>by rw[(jJ hc (Qi.mp hi)).1];grind];rw[dM,show iT (cR cs) (List.range cs.length)=(cs.sum:Rat) from sQ cs]
 rw[dM] at sc;by_cases z:cs.sum=0
 ·have p0:∀ i,i<cs.length->kH cs q i=cR cs i:=fun i hi=>by
   have c0:=pX hc.nn z _ (Qj (bR hi));rw[(jJ hc hi).2 z];unfold cR;rw[c0];rfl
  refine⟨fun i hi=>⟨by rw[p0 i hi];exact cn i hi,by rw[p0 i hi];exact Qf,zJJ hc hq hi⟩,?_⟩
  rw[zCe p0,sQ];have:(cs.sum:Rat)=0:=by rw[z];rfl
  grind
 ·have W:(0:Rat)<(cs.sum:Rat):=by exact_mod_cast (show 0<cs.sum by omega)
  refine⟨fun i hi=>?_,?_⟩
  ·have e:=(jJ (q:=q) hc hi).1
   have c0:=cn i hi;refine⟨uR W (by rw[e];have:=Xt h0 c0;grind),uR W ?_,zJJ hc hq hi⟩
   rw[e];have:=Q5 h1 c0
   grind
  ·exact zOg (s:=(cs.sum:Rat)) (by grind) (by rw[Rat.mul_comm];exact sc)
theorem zNk{m:Nat}{w:Wy}{ws cs:List Int}{q:Rat}{f:Nat->Rat}(hw:w.due ws cs)(hc:Cl cs)(hq:Haul m q cs.sum)(al:Al (m+263) ws cs q f w):Dl (m+370) cs q f:=by
 have sm:=hc.sum;have zW:Sz 105 (cs.sum:Rat):=cU (by omega) (by decide)
 have z:=hq.sz;have z':Sz (m+106) ((cs.sum:Rat)-q):=(zW.sub hq.sz).mono (by omega)
 have n:=hq.nn;have u:=hq.up
 cases w with
 | row=>exact((zLP hc z n u).mono (by omega)).congr al
 | back=>exact((Dl.dual hc (zLP hc z' (by grind) (by grind)) rfl).mono (by omega)).congr al
 | even=>
  obtain⟨t,tl,e⟩:=al;exact((zLV hw hc tl).mono (by omega)).congr e
 | lack=>
  obtain⟨t,tl,e⟩:=al;exact((Dl.dual hc (zLV hw hc tl) rfl).mono (by omega)).congr e
 | part=>exact(zNz hc z n u).congr al
 | half=>
  obtain⟨t,⟨c,tl,e⟩ | ⟨c,tl,e⟩⟩:=al
  ·exact((zHJ hc tl).mono (by omega)).congr e
  ·exact((Dl.dual hc (zHJ hc tl) rfl).mono (by omega)).congr e
theorem zAn:∀(cs:List Int)(a:Int)(q:Rat)(i:Nat),i<cs.length->(jF cs a q).getD i 0=mn (ps0 (q-((a+(cs.take i).sum:Int):Rat))) (cR cs i)
 | c::r,a,q,0,_=>by simp[jF,cR]
 | c::r,a,q,i+1,h=>by
  have ih:=zAn r (a+c) q i (by simpa using h)
  rw[Xu,QB,<-Int.add_assoc];show(jF r (a+c) q).getD i 0=_
  rw[ih];rfl
def Dn(B:Int)(x:Rat):Prop:=∃ k:Int,x*(B:Rat)=(k:Rat)
theorem Dn.add{B:Int}{x y:Rat}(hx:Dn B x)(hy:Dn B y):Dn B (x+y):=by
 obtain⟨a,ha⟩:=hx;obtain⟨b,hb⟩:=hy;exact⟨a+b,by rw[QS,<-ha,<-hb];grind⟩
theorem Dn.sub{B:Int}{x y:Rat}(hx:Dn B x)(hy:Dn B y):Dn B (x-y):=by
 obtain⟨a,ha⟩:=hx;obtain⟨b,hb⟩:=hy;exact⟨a-b,by rw[Rat.intCast_sub,<-ha,<-hb];grind⟩
theorem Dn.int(B c:Int):Dn B (c:Rat):=⟨c*B,by rw[QF]⟩
theorem Dn.zero(B:Int):Dn B 0:=Dn.int B 0
theorem Dn.mn{B:Int}{x y:Rat}(hx:Dn B x)(hy:Dn B y):Dn B (Lw.mn x y):=by
 unfold Lw.mn;split
 ·exact hx
 ·exact hy
theorem Dn.ps{B:Int}{x:Rat}(hx:Dn B x):Dn B (ps0 x):=by
 unfold ps0;split
 ·exact Dn.zero B
 ·exact hx
theorem Dn.den(x:Rat):Dn (x.den:Int) x:=⟨x.num,(zMb x).symm⟩
theorem Dn.le{B:Int}{x:Rat}(h:Dn B x)(hB:0<B):(x.den:Int)<=B:=by
 obtain⟨a,ha⟩:=h
 have nB:(B:Rat)≠0:=fun z=>by
  have:B=0:=by exact_mod_cast z
  omega
 have e:x=Rat.divInt a B:=by
  rw[Vo,<-ha];grind
 rw[e];exact zFt hB
theorem Dn.sz{B c:Int}{x:Rat}{a b:Nat}(h:Dn B x)(hB:0<B)(hb:B<2^b)(h0:0<=x)(h1:x<=(c:Rat))(hc:c<2^a):Sz (a+b) x:=by
 have le:=h.le hB;have d0:=eZ x;have n0:0<=x.num:=Rat.num_nonneg.mpr h0
 have c0:0<=c:=by
  have:((0:Int):Rat)<=(c:Rat):=Qz (by rw[show((0:Int):Rat)=0 from rfl];exact h0) h1
  exact VG.mp this
 have n1:x.num<=c*x.den:=by
  have:((x.num:Int):Rat)<=((c*x.den:Int):Rat):=by
   rw[QF,zMb];exact Q5 h1 (by have z:(0:Int)<=x.den:=(by omega);exact_mod_cast z)
  exact VG.mp this
 have hb':(x.den:Int).natAbs<2^b:=by
  have:((2:Nat)^b:Nat)=((2:Int)^b):=by rw[Int.natCast_pow];rfl
  omega
 have ha':c.natAbs<2^a:=by
  have:((2:Nat)^a:Nat)=((2:Int)^a):=by rw[Int.natCast_pow];rfl
  omega
 have m:=fQ ha' hb';refine⟨by omega,?_⟩
 have:2^b<=2^(a+b):=QZ (by decide) (by omega)
 omega
theorem uT{c w:Nat->Rat}{ci wi:Nat->Int}{t:Rat}(hc:∀ i,c i=(ci i:Rat))(hw:∀ i,w i=(wi i:Rat)):∀ l:List Nat,(∀ i∈l,1<=wi i/\wi i<=10^6)->∃ F W:Int,iT (dR c w t) l=(W:Rat)*t+(F:Rat)/\0<=W/\W<=l.length*10^6/\(W=0->∀ i∈l,dR c w t i=c i)
 | [],_=>⟨0,0,by rw[iN,show((0:Int):Rat)=0 from rfl];grind,by decide,by decide,fun _ i h=>by cases h⟩
 | i::l,h=>by
  obtain⟨F,W,e,w0,w1,f⟩:=uT (t:=t) hc hw l fun j hj=>h j (Qd _ hj)
  have hi:=h i Qb;have ek:((l.length+1:Nat):Int)*10^6=(l.length:Int)*10^6+10^6:=by rw[V6,V7];rfl
  rw[bF,Qm];by_cases z:w i*t<c i
  ·have g:dR c w t i=w i*t:=if_pos z
   refine⟨F,W+wi i,?_,by omega,by omega,fun z=>by omega⟩
   rw[g,e,QS,hw];grind
  ·have g:dR c w t i=c i:=if_neg z
   refine⟨F+ci i,W,?_,w0,by omega,fun z j hj=>?_⟩
   ·rw[g,e,QS,hc]
    grind
   ·rcases Qc.mp hj with rfl | hj
    ·exact g
    ·exact f z j hj
theorem zFk{M:Nat}{ws cs:List Int}{q t:Rat}{B:Int}(hW:Wt ws cs)(hl:cs.length<=12)(tl:Lvl M ws cs q t)(hq:Dn B q):∃ E:Int,0<E/\E<=12*10^6/\∀ i,i<cs.length->Dn (B*E) (dR (cR cs) (cR ws) t i):=by
 obtain⟨F,W,e,w0,w1,f⟩:=uT (c:=cR cs) (w:=cR ws) (ci:=fun i=>cs.getD i 0) (wi:=fun i=>ws.getD i 0) (t:=t) (fun _=>rfl) (fun _=>rfl) (List.range cs.length) fun i hi=>hW.at (Qi.mp hi)
 have s:iT (dR (cR cs) (cR ws) t) (List.range cs.length)=q:=tl.sum;rw[QA] at w1;by_cases z:W=0
 ·refine⟨1,by decide,by decide,fun i hi=>?_⟩
  rw[f z i (Qi.mpr hi)];exact Dn.int _ _
 ·refine⟨W,by omega,by omega,fun i hi=>?_⟩
  unfold dR;refine Dn.mn ?_ (Dn.int _ _)
  obtain⟨k,hk⟩:=hq.sub (Dn.int B F);refine⟨ws.getD i 0*k,?_⟩
  rw[QF,QF,<-hk,<-s,e];show cR ws i*t*_=cR ws i*_
  grind
theorem zIw{B:Int}{x:Rat}(h:Dn B x):Dn (B*2) (x*hf):=by
 obtain⟨k,hk⟩:=h;refine⟨k,?_⟩
 rw[<-hk,QF,jI,show((2:Int):Rat)=2 from rfl];grind
theorem zLA{cs:List Int}{q:Rat}{B:Int}(h:Dn B q){i:Nat}(hi:i<cs.length):Dn B (zET cs q i):=by
 unfold zET;rw[zAn cs 0 q i hi];exact Dn.mn (Dn.ps (h.sub (Dn.int _ _))) (Dn.int _ _)
theorem zPl{M:Nat}{w:Wy}{ws cs:List Int}{q:Rat}{f:Nat->Rat}{B:Int}(hw:w.due ws cs)(hc:Cl cs)(hS:cs.sum<2^34)(al:Al M ws cs q f w)(hq:Dn B q):∃ E:Int,0<E/\E<2^34/\∀ i,i<cs.length->Dn (B*E) (f i):=by
 have hi:=hc.hi;have sm:=hc.sum;have hq':Dn B ((cs.sum:Rat)-q):=(Dn.int B cs.sum).sub hq
 cases w with
 | row=>exact⟨1,by decide,by decide,fun i hi=>by rw[al i hi,QV];exact zLA hq hi⟩
 | back=>exact⟨1,by decide,by decide,fun i hi=>by rw[al i hi,QV];exact(Dn.int _ _).sub (zLA hq' hi)⟩
 | even=>
  obtain⟨t,tl,e⟩:=al;obtain⟨E,e0,e1,e2⟩:=zFk hw hi tl hq;exact⟨E,e0,by omega,fun i hi=>by rw[e i hi];exact e2 i hi⟩
 | lack=>
  obtain⟨t,tl,e⟩:=al;obtain⟨E,e0,e1,e2⟩:=zFk hw hi tl hq';exact⟨E,e0,by omega,fun i hi=>by rw[e i hi];exact(Dn.int _ _).sub (e2 i hi)⟩
 | part=>
  by_cases z:cs.sum=0
  ·exact⟨1,by decide,by decide,fun i hi=>by rw[al i hi,(jJ hc hi).2 z];exact Dn.zero _⟩
  ·refine⟨cs.sum,by omega,hS,fun i hi=>?_⟩
   have p:=(jJ (q:=q) hc hi).1;rw[<-al i hi] at p;obtain⟨k,hk⟩:=hq;refine⟨k*cs.getD i 0,?_⟩
   rw[QF,QF,<-hk];show f i*((B:Rat)*(cs.sum:Rat))=q*(B:Rat)*cR cs i
   generalize (cs.sum:Rat)=S at *;generalize cR cs i=x at *;generalize f i=y at *;grind
 | half=>
  obtain⟨t,⟨c,tl,e⟩ | ⟨c,tl,e⟩⟩:=al
  ·obtain⟨E,e0,e1,e2⟩:=zFk (fF cs) hi tl (hq.add hq)
   exact⟨E*2,by omega,by omega,fun i hi=>by rw[e i hi,<-Yc];exact zIw (e2 i hi)⟩
  ·obtain⟨E,e0,e1,e2⟩:=zFk (fF cs) hi tl (hq'.add hq')
   exact⟨E*2,by omega,by omega,fun i hi=>by rw[e i hi,<-Yc];exact(Dn.int _ _).sub (zIw (e2 i hi))⟩
theorem Al.mono{M M':Nat}{w:Wy}{ws cs:List Int}{q:Rat}{f:Nat->Rat}(h:Al M ws cs q f w)(l:M<=M'):Al M' ws cs q f w:=by
 cases w with
 | row=>exact h
 | back=>exact h
 | part=>exact h
 | even=>obtain⟨t,tl,e⟩:=h;exact⟨t,tl.mono l,e⟩
 | lack=>obtain⟨t,tl,e⟩:=h;exact⟨t,tl.mono l,e⟩
 | half=>
  obtain⟨t,⟨c,tl,e⟩ | ⟨c,tl,e⟩⟩:=h
  ·exact⟨t,.inl ⟨c,tl.mono l,e⟩⟩
  ·exact⟨t,.inr ⟨c,tl.mono l,e⟩⟩
theorem zPU(q:Rat):Sz (q.num.natAbs+q.den) q:=⟨Qr YB (QZ (by decide) (by omega)),Qr YB (QZ (by decide) (by omega))⟩
theorem zPf{M:Nat}{w:Wy}{ws cs:List Int}{q:Rat}{f:Nat->Rat}(hw:w.due ws cs)(hc:Cl cs)(q0:0<=q)(q1:q<=(cs.sum:Rat))(al:Al M ws cs q f w):(∀ i,i<cs.length->0<=f i/\f i<=cR cs i)/\((List.range cs.length).map f).sum=q:=by
 have d:=zNk (m:=q.num.natAbs+q.den+M) hw hc ⟨q0,q1,(zPU q).mono (by omega)⟩ (al.mono (by omega))
 exact⟨fun i hi=>⟨(d.bd i hi).1,(d.bd i hi).2.1⟩,d.sum⟩
theorem nK{M M':Nat}{ws cs:List Int}{q q' t t':Rat}(hW:Wt ws cs)(a:Lvl M ws cs q t)(b:Lvl M' ws cs q' t')(h:q=q'){i:Nat}(hi:i<cs.length):dR (cR cs) (cR ws) t i=dR (cR cs) (cR ws) t' i:=by
 have pw:∀ j∈List.range cs.length,0<cR ws j:=fun j hj=>by
  have:=(hW.at (Qi.mp hj)).1
  unfold cR;exact_mod_cast (show 0<ws.getD j 0 by omega)
 exact yM (c:=cR cs) (w:=cR ws) pw (by show(evs ws cs t).sum=(evs ws cs t').sum;rw[a.sum,b.sum,h]) i (Qi.mpr hi)
theorem zQw{M M':Nat}{w:Wy}{ws cs:List Int}{q:Rat}{f g:Nat->Rat}(hw:w.due ws cs)(a:Al M ws cs q f w)(b:Al M' ws cs q g w){i:Nat}(hi:i<cs.length):f i=g i:=by
 cases w with
 | row=>rw[a i hi,b i hi]
 | back=>rw[a i hi,b i hi]
 | part=>rw[a i hi,b i hi]
 | even=>
  obtain⟨t,tl,e⟩:=a;obtain⟨t',tl',e'⟩:=b;rw[e i hi,e' i hi,nK hw tl tl' rfl hi]
 | lack=>
  obtain⟨t,tl,e⟩:=a;obtain⟨t',tl',e'⟩:=b;rw[e i hi,e' i hi,nK hw tl tl' rfl hi]
 | half=>
  have W:=fF cs;obtain⟨t,⟨c,tl,e⟩ | ⟨c,tl,e⟩⟩:=a
  ·obtain⟨t',⟨c',tl',e'⟩ | ⟨c',tl',e'⟩⟩:=b
   ·rw[e i hi,e' i hi,nK W tl tl' rfl hi]
   ·exact absurd c' (Va.mpr c)
  ·obtain⟨t',⟨c',tl',e'⟩ | ⟨c',tl',e'⟩⟩:=b
   ·exact absurd c (Va.mpr c')
   ·rw[e i hi,e' i hi,nK W tl tl' rfl hi]
theorem tW{M M':Nat}{ws cs:List Int}{q q' t t':Rat}(hW:Wt ws cs)(a:Lvl M ws cs q t)(b:Lvl M' ws cs q' t')(h:q<=q'){i:Nat}(hi:i<cs.length):dR (cR cs) (cR ws) t i<=dR (cR cs) (cR ws) t' i:=by
 have pw:∀ j∈List.range cs.length,0<cR ws j:=fun j hj=>by
  have:=(hW.at (Qi.mp hj)).1
  unfold cR;exact_mod_cast (show 0<ws.getD j 0 by omega)
 rcases Q9 (a:=t) (b:=t') with g | g
 ·exact mZ (pw i (Qi.mpr hi)) g
 ·have le:∀ j∈List.range cs.length,dR (cR cs) (cR ws) t' j<=dR (cR cs) (cR ws) t j:=fun j hj=>mZ (pw j hj) g
  have s1:iT (dR (cR cs) (cR ws) t') (List.range cs.length)=q':=b.sum;have s2:iT (dR (cR cs) (cR ws) t) (List.range cs.length)=q:=a.sum;have s3:=rH le;rw[qX le (by rw[s1,s2];rw[s1,s2] at s3;grind) i (Qi.mpr hi)];exact Qf
theorem zNN{M M':Nat}{w:Wy}{ws cs:List Int}{q q':Rat}{f g:Nat->Rat}(hw:w.due ws cs)(hc:Cl cs)(a:Al M ws cs q f w)(b:Al M' ws cs q' g w)(h:q<=q'){i:Nat}(hi:i<cs.length):f i<=g i:=by
 have sm:=hc.sum
 cases w with
 | row=>rw[a i hi,b i hi];exact wG cs 0 i h
 | back=>
  rw[a i hi,b i hi];have:=wG cs 0 (q:=(cs.sum:Rat)-q') (q':=(cs.sum:Rat)-q) i (by grind)
  unfold zET;grind
 | even=>
  obtain⟨t,tl,e⟩:=a;obtain⟨t',tl',e'⟩:=b;rw[e i hi,e' i hi];exact tW hw tl tl' h hi
 | lack=>
  obtain⟨t,tl,e⟩:=a;obtain⟨t',tl',e'⟩:=b;rw[e i hi,e' i hi];have:=tW hw tl' tl (by grind) hi
  grind
 | part=>
  rw[a i hi,b i hi];have c0:0<=cR cs i:=by unfold cR;exact_mod_cast hc.nn _ (Qj (bR hi))
  obtain⟨p1,p2⟩:=jJ (q:=q) hc hi;obtain⟨r1,r2⟩:=jJ (q:=q') hc hi;by_cases z:cs.sum=0
  ·rw[p2 z,r2 z];exact Qf
  ·have W:(0:Rat)<(cs.sum:Rat):=by exact_mod_cast (show 0<cs.sum by omega)
   exact uR W (by rw[p1,r1];exact Q5 h c0)
 | half=>
  have ow:=fF cs;obtain⟨t,⟨c,tl,e⟩ | ⟨c,tl,e⟩⟩:=a
  ·have b1:=(pC ow hc tl.nn hi).2
   obtain⟨t',⟨c',tl',e'⟩ | ⟨c',tl',e'⟩⟩:=b
   ·have:=tW ow tl tl' (by grind) hi
    rw[e i hi,e' i hi,jI];grind
   ·have b2:=(pC ow hc tl'.nn hi).2
    rw[e i hi,e' i hi,jI];grind
  ·obtain⟨t',⟨c',tl',e'⟩ | ⟨c',tl',e'⟩⟩:=b
   ·exfalso;grind
   ·have:=tW ow tl' tl (by grind) hi
    rw[e i hi,e' i hi,jI];grind
def Wy.con:Wy->Wy
 | .row=>.back
 | .back=>.row
 | .even=>.lack
 | .lack=>.even
 | .part=>.part
 | .half=>.half
theorem zFA{M:Nat}{ws cs:List Int}{q t:Rat}(hW:Wt ws cs)(hc:Cl cs)(a:Lvl M ws cs q t)(h:q=(cs.sum:Rat)){i:Nat}(hi:i<cs.length):dR (cR cs) (cR ws) t i=cR cs i:=by
 have s:iT (dR (cR cs) (cR ws) t) (List.range cs.length)=q:=a.sum;exact qX (fun j hj=>(pC hW hc a.nn (Qi.mp hj)).2) (by rw[s,h];exact(sQ cs).symm) i (Qi.mpr hi)
theorem zPm{M M':Nat}{w:Wy}{ws cs:List Int}{q:Rat}{f g:Nat->Rat}(hw:w.due ws cs)(hc:Cl cs)(hn:0<=q)(hu:q<=(cs.sum:Rat))(a:Al M ws cs q f w)(b:Al M' ws cs ((cs.sum:Rat)-q) g w.con){i:Nat}(hi:i<cs.length):g i=cR cs i-f i:=by
 have sm:=hc.sum;have e0:(cs.sum:Rat)-((cs.sum:Rat)-q)=q:=by grind
 cases w with
 | row=>
  have b':g i=cR cs i-zET cs ((cs.sum:Rat)-((cs.sum:Rat)-q)) i:=b i hi;rw[b',e0,a i hi]
 | back=>
  have b':g i=zET cs ((cs.sum:Rat)-q) i:=b i hi;rw[b',a i hi];grind
 | even=>
  obtain⟨t,tl,e⟩:=a;obtain⟨t',tl',e'⟩:=b;rw[e i hi,e' i hi,nK hw tl' tl e0 hi]
 | lack=>
  obtain⟨t,tl,e⟩:=a;obtain⟨t',tl',e'⟩:=b;rw[e i hi,e' i hi,nK hw tl' tl rfl hi];grind
 | part=>
  have b':g i=kH cs ((cs.sum:Rat)-q) i:=b i hi;have u:=hu;have n:=hn;obtain⟨p1,p2⟩:=jJ (q:=q) hc hi;obtain⟨r1,r2⟩:=jJ (q:=(cs.sum:Rat)-q) hc hi;rw[b',a i hi];by_cases z:cs.sum=0
  ·have c0:=pX hc.nn z _ (Qj (bR hi))
   rw[p2 z,r2 z];unfold cR;rw[c0,show((0:Int):Rat)=0 from rfl];grind
  ·have W:(0:Rat)<(cs.sum:Rat):=by exact_mod_cast (show 0<cs.sum by omega)
   have e:kH cs ((cs.sum:Rat)-q) i*(cs.sum:Rat)=(cR cs i-kH cs q i)*(cs.sum:Rat):=by rw[r1];grind
   have l1:=uR W (show kH cs ((cs.sum:Rat)-q) i*(cs.sum:Rat)<=(cR cs i-kH cs q i)*(cs.sum:Rat) by rw[e];exact Qf)
   have l2:=uR W (show(cR cs i-kH cs q i)*(cs.sum:Rat)<=kH cs ((cs.sum:Rat)-q) i*(cs.sum:Rat) by rw[e];exact Qf)
   grind
 | half=>
  have ow:=fF cs;obtain⟨t,⟨c,tl,e⟩ | ⟨c,tl,e⟩⟩:=a
  ·obtain⟨t',⟨c',tl',e'⟩ | ⟨c',tl',e'⟩⟩:=b
   ·have f1:=zFA ow hc tl (by grind) hi
    have f2:=zFA ow hc tl' (by grind) hi
    rw[e i hi,e' i hi,f1,f2,jI];grind
   ·have f1:=nK ow tl' tl (by grind) hi
    rw[e i hi,e' i hi,f1]
  ·obtain⟨t',⟨c',tl',e'⟩ | ⟨c',tl',e'⟩⟩:=b
   ·have f1:=nK ow tl' tl rfl hi
    rw[e i hi,e' i hi,f1];grind
   ·exfalso;grind
theorem zNy{w:Wy}{ws cs:List Int}(h:w.due ws cs):w.con.due ws cs:=by cases w<;>exact h
def Lin(f:Rat->Rat)(a b:Rat):Prop:=∀ x,a<=x->x<=b->(f x-f a)*(b-a)=(x-a)*(f b-f a)
def Cn(R:Rat->Rat->Prop):List Rat->Prop
 | a::b::l=>R a b/\Cn R (b::l)
 | _=>True
theorem Cn.imp{R R':Rat->Rat->Prop}(h:∀ a b,R a b->R' a b):∀ {l:List Rat},Cn R l->Cn R' l
 | [],_=>trivial
 | [_],_=>trivial
 | a::b::l,k=>⟨h a b k.1,Cn.imp h k.2⟩
theorem wF{A:List Rat}:∀ {l:List Rat},l.Pairwise (·<=·)->(∀ x∈A,x∈l∨∀ y∈l,x<=y)->Cn (fun s t=>s<=t/\∀ x∈A,x<=s∨t<=x) l
 | [],_,_=>trivial
 | [_],_,_=>trivial
 | a::b::r,h,hA=>by
  obtain⟨h1,h2⟩:=Qo.mp h;obtain⟨h3,h4⟩:=Qo.mp h2;refine⟨⟨h1 b Qb,fun x hx=>?_⟩,wF h2 fun x hx=>?_⟩
  ·rcases hA x hx with h | h
   ·rcases Qc.mp h with rfl | h
    ·exact .inl Qf
    ·rcases Qc.mp h with rfl | h
     ·exact .inr Qf
     ·exact .inr (h3 x h)
   ·exact .inl (h a Qb)
  ·rcases hA x hx with h | h
   ·rcases Qc.mp h with rfl | h
    ·exact .inr h1
    ·exact .inl h
   ·exact .inr fun y hy=>h y (Qd _ hy)
def QQ(ws cs:List Int)(t:Rat):Rat:=iT (dR (cR cs) (cR ws) t) (List.range cs.length)
def lv(ws cs:List Int)(i:Nat):Rat:=cR cs i / cR ws i
theorem Wt.pos{ws cs:List Int}(h:Wt ws cs){i:Nat}(hi:i<cs.length):0<cR ws i:=by
 have:=(h.at hi).1
 unfold cR;exact_mod_cast (show 0<ws.getD i 0 by omega)
theorem xY{ws cs:List Int}(h:Wt ws cs){i:Nat}(hi:i<cs.length):cR ws i*lv ws cs i=cR cs i:=by
 have:=h.pos hi
 unfold lv;grind
theorem zFP{ws cs:List Int}(h:Wt ws cs){i:Nat}(hi:i<cs.length){t:Rat}(l:lv ws cs i<=t):dR (cR cs) (cR ws) t i=cR cs i:=by
 have p:=h.pos hi;have e:=xY h hi;have:=VF l (Qg p)
 unfold dR mn;grind
theorem zFW{ws cs:List Int}(h:Wt ws cs){i:Nat}(hi:i<cs.length){t:Rat}(l:t<=lv ws cs i):dR (cR cs) (cR ws) t i=cR ws i*t:=by
 have p:=h.pos hi;have e:=xY h hi;have:=VF l (Qg p)
 unfold dR mn;grind
theorem zIK{ws cs:List Int}(h:Wt ws cs)(hc:Cl cs){i:Nat}(hi:i<cs.length):0<=lv ws cs i:=by
 have p:=h.pos hi;have c:=(zJc hc hi).1;have e:=xY h hi;rcases Q9 (a:=0) (b:=lv ws cs i) with z | z
 ·exact z
 ·have:=VF z (Qg p)
  have z2:cR cs i=0:=by grind
  unfold lv;rw[z2];grind
def sl(ws cs:List Int)(s:Rat)(i:Nat):Rat:=if lv ws cs i<=s then 0 else cR ws i
theorem zEA{f g:Nat->Rat}:∀ {l:List Nat},iT (fun i=>f i-g i) l=iT f l-iT g l
 | []=>by rw[iN,iN,iN];grind
 | a::l=>by rw[bF,bF,bF,zEA];grind
def zOO(ws cs:List Int)(s t:Rat):Prop:=∀ i,i<cs.length->lv ws cs i<=s∨t<=lv ws cs i
theorem zI{ws cs:List Int}(h:Wt ws cs){s t u:Rat}(n:zOO ws cs s t)(su:s<=u)(ut:u<=t){i:Nat}(hi:i<cs.length):dR (cR cs) (cR ws) u i-dR (cR cs) (cR ws) s i=sl ws cs s i*(u-s):=by
 unfold sl;by_cases z:lv ws cs i<=s
 ·rw[zFP h hi z,zFP h hi (Qz z su),if_pos z];grind
 ·rcases n i hi with k | k
  ·exact absurd k z
  ·rw[zFW h hi (Qz ut k),zFW h hi (Qz su (Qz ut k)),if_neg z];grind
theorem zBj{ws cs:List Int}(h:Wt ws cs){s t u:Rat}(n:zOO ws cs s t)(su:s<=u)(ut:u<=t):QQ ws cs u-QQ ws cs s=iT (sl ws cs s) (List.range cs.length)*(u-s):=by
 unfold QQ;rw[<-zEA,eI (g:=fun i=>sl ws cs s i*(u-s)) fun i hi=>zI h n su ut (Qi.mp hi)];rw[dM];grind
theorem lQ{ws cs:List Int}(h:Wt ws cs){s t:Rat}(l:s<=t):QQ ws cs s<=QQ ws cs t:=rH fun i hi=>mZ (h.pos (Qi.mp hi)) l
theorem zRV{ws cs:List Int}(h:Wt ws cs){s t:Rat}(e:QQ ws cs s=QQ ws cs t){i:Nat}(hi:i<cs.length):dR (cR cs) (cR ws) s i=dR (cR cs) (cR ws) t i:=yM (fun i hi=>h.pos (Qi.mp hi)) e i (Qi.mpr hi)
theorem zQm{ws cs:List Int}(h:Wt ws cs){s t:Rat}(st:s<=t)(n:zOO ws cs s t){i:Nat}(hi:i<cs.length){f:Rat->Rat}(hf:∀ x,QQ ws cs s<=x->x<=QQ ws cs t->∃ u,QQ ws cs u=x/\f x=dR (cR cs) (cR ws) u i):Lin f (QQ ws cs s) (QQ ws cs t):=by
 have ab:=lQ h st
 have at':∀ v,s<=v->v<=t->f (QQ ws cs v)=dR (cR cs) (cR ws) v i:=fun v h1 h2=>by
  obtain⟨u,e1,e2⟩:=hf _ (lQ h h1) (lQ h h2);rw[e2,zRV h e1 hi]
 have fa:=at' s Qf st;have fb:=at' t st Qf;intro x h1 h2;obtain⟨u,e1,e2⟩:=hf x h1 h2;rcases Q9 (a:=u) (b:=s) with z | z
 ·have q:=lQ h z
  have ex:x=QQ ws cs s:=by grind
  subst ex;grind
 rcases Q9 (a:=t) (b:=u) with z' | z'
 ·have q:=lQ h z'
  have ex:x=QQ ws cs t:=by grind
  subst ex;grind
 have d1:=zBj h n z z';have d2:=zBj h n st Qf;have g1:=zI h n z z' hi;have g2:=zI h n st Qf hi;rw[e1] at d1;rw[e2,fa,fb,g1,g2,d1,d2];grind
theorem zHK{ws cs:List Int}(h:Wt ws cs){q:Rat}:∀ {l:List Rat} {s:Rat},Cn (fun s t=>s<=t/\zOO ws cs s t) (s::l)->QQ ws cs s<=q->q<=QQ ws cs ((s::l).getLast (by simp))->∃ u,s<=u/\QQ ws cs u=q
 | [],s,_,h1,h2=>⟨s,Qf,by
  have h2':q<=QQ ws cs s:=h2
  grind⟩
 | t::l,s,hc,h1,h2=>by
  obtain⟨⟨st,n⟩,hc'⟩:=hc;rcases Q9 (a:=QQ ws cs t) (b:=q) with z | z
  ·obtain⟨u,u1,u2⟩:=zHK h hc' z (by simpa using h2)
   exact⟨u,Qz st u1,u2⟩
  ·by_cases e:QQ ws cs s=QQ ws cs t
   ·exact⟨s,Qf,by grind⟩
   have d2:=zBj h n st Qf;generalize iT (sl ws cs s) (List.range cs.length)=W at d2;have lt:QQ ws cs s<QQ ws cs t:=by have:=lQ h st;grind
   have p:0<QQ ws cs t-QQ ws cs s:=by grind
   have nz:QQ ws cs t-QQ ws cs s≠0:=by grind
   have lam:0<=(q-QQ ws cs s) / (QQ ws cs t-QQ ws cs s)/\(q-QQ ws cs s) / (QQ ws cs t-QQ ws cs s)<=1:=by
    refine⟨uR p ?_,uR p ?_⟩
    ·rw[QT nz];grind
    ·rw[QT nz];grind
   have le:(q-QQ ws cs s) / (QQ ws cs t-QQ ws cs s)*(QQ ws cs t-QQ ws cs s)=q-QQ ws cs s:=QT nz;generalize (q-QQ ws cs s) / (QQ ws cs t-QQ ws cs s)=k at lam le;have ts:0<=t-s:=by grind
   have m1:=Xt lam.1 ts;have m2:=Q5 lam.2 ts;refine⟨s+k*(t-s),by grind,?_⟩
   have d1:=zBj h n (u:=s+k*(t-s)) (by grind) (by grind)
   have d2':=zBj h n st Qf;grind
theorem zHF:∀(n:Nat)(g:Nat->Rat),∃ M,∀ i,i<n->Sz M (g i)
 | 0,_=>⟨0,fun i h=>by omega⟩
 | n+1,g=>by
  obtain⟨M,h⟩:=zHF n g;refine⟨M+((g n).num.natAbs+(g n).den),fun i hi=>?_⟩
  by_cases z:i=n
  ·rw[z];exact(zPU (g n)).mono (by omega)
  ·exact(h i (by omega)).mono (by omega)
theorem zRC{ws cs:List Int}(h:Wt ws cs)(hc:Cl cs){q:Rat}(q0:0<=q)(q1:q<=(cs.sum:Rat)):∃ u,0<=u/\QQ ws cs u=q:=by
 generalize hA:(List.range cs.length).map (lv ws cs)=A;have pm:(A.mergeSort fun a b=>decide (a<=b)).Perm A:=Yy A _
 have so:(A.mergeSort fun a b=>decide (a<=b)).Pairwise (·<=·):=by
  have:=Yz (le:=fun a b:Rat=>decide (a<=b)) (fun a b c h1 h2=>by
   have h1':=of_decide_eq_true h1;have h2':=of_decide_eq_true h2
   exact decide_eq_true (Qz h1' h2')) (fun a b=>by
   rcases Q9 (a:=a) (b:=b) with z | z
   ·simp[z]
   ·simp[z]) A
  exact this.imp fun h=>of_decide_eq_true h
 generalize A.mergeSort (fun a b=>decide (a<=b))=L at pm so
 have nn:∀ x∈L,0<=x:=fun x hx=>by
  have hx':=pm.mem_iff.mp hx;rw[<-hA] at hx';obtain⟨i,hi,rfl⟩:=Qn.mp hx';exact zIK h hc (Qi.mp hi)
 have so':(0::L).Pairwise (·<=·):=Qo.mpr ⟨nn,so⟩;have cn:=wF (A:=A) so' fun x hx=>.inl (Qd _ (pm.mem_iff.mpr hx))
 have cn':Cn (fun s t=>s<=t/\zOO ws cs s t) (0::L):=cn.imp fun a b hab=>⟨hab.1,fun i hi=>hab.2 _ (by rw[<-hA];exact Qn.mpr ⟨i,Qi.mpr hi,rfl⟩)⟩
 have z0:QQ ws cs 0=0:=by
  unfold QQ;rw[eI (g:=fun i=>cR ws i*0) fun i hi=>zFW h (Qi.mp hi) (zIK h hc (Qi.mp hi)),dM];grind
 have zl:QQ ws cs ((0::L).getLast (by simp))=(cs.sum:Rat):=by
  unfold QQ;rw[eI (g:=cR cs) fun i hi=>zFP h (Qi.mp hi) ?_]
  ·exact sQ cs
  ·have m:lv ws cs i∈L:=pm.mem_iff.mpr (by rw[<-hA];exact Qn.mpr ⟨i,hi,rfl⟩)
   have key:∀ {l:List Rat} (ne:l≠[]),l.Pairwise (·<=·)->∀ x∈l,x<=l.getLast ne:=by
    intro l
    induction l with
    | nil=>intro ne;exact absurd rfl ne
    | cons a r ih=>
     intro ne hp x hx;obtain⟨p1,p2⟩:=Qo.mp hp
     cases r with
     | nil=>rw[Qt.mp hx];exact Qf
     | cons b r=>
      rw[List.getLast_cons (by simp)];rcases Qc.mp hx with rfl | hx
      ·exact Qz (p1 b Qb) (ih (by simp) p2 b Qb)
      ·exact ih (by simp) p2 x hx
   exact key (by simp) so' _ (Qd _ m)
 exact zHK h cn' (by rw[z0];exact q0) (by rw[zl];exact q1)
theorem zER{ws cs:List Int}(h:Wt ws cs)(hc:Cl cs){q:Rat}(q0:0<=q)(q1:q<=(cs.sum:Rat)):∃ M t,Lvl M ws cs q t:=by
 obtain⟨u,u0,e⟩:=zRC h hc q0 q1;obtain⟨M,hM⟩:=zHF cs.length (dR (cR cs) (cR ws) u);exact⟨M,u,u0,e,hM⟩
theorem zOZ{w:Wy}{ws cs:List Int}(hw:w.due ws cs)(hc:Cl cs){q:Rat}(q0:0<=q)(q1:q<=(cs.sum:Rat)):∃ f M,Al M ws cs q f w:=by
 cases w with
 | row=>exact⟨_,0,fun i _=>rfl⟩
 | back=>exact⟨_,0,fun i _=>rfl⟩
 | part=>exact⟨_,0,fun i _=>rfl⟩
 | even=>
  obtain⟨M,t,tl⟩:=zER hw hc q0 q1;exact⟨_,M,t,tl,fun i _=>rfl⟩
 | lack=>
  obtain⟨M,t,tl⟩:=zER hw hc (q:=(cs.sum:Rat)-q) (by grind) (by grind)
  exact⟨_,M,t,tl,fun i _=>rfl⟩
 | half=>
  by_cases z:(cs.sum:Rat)<q+q
  ·obtain⟨M,t,tl⟩:=zER (fF cs) hc (q:=((cs.sum:Rat)-q)+((cs.sum:Rat)-q)) (by grind) (by grind)
   exact⟨_,M,t,.inr ⟨z,tl,fun i _=>rfl⟩⟩
  ·have z':=Va.mp z
   obtain⟨M,t,tl⟩:=zER (fF cs) hc (q:=q+q) (by grind) z'
   exact⟨_,M,t,.inl ⟨z',tl,fun i _=>rfl⟩⟩
open Classical in
def FF(w:Wy)(ws cs:List Int)(q:Rat):Nat->Rat:=if h:∃ f M,Al M ws cs q f w then Classical.choose h else fun _=>0
theorem xT{w:Wy}{ws cs:List Int}(hw:w.due ws cs)(hc:Cl cs){q:Rat}(q0:0<=q)(q1:q<=(cs.sum:Rat)):∃ M,Al M ws cs q (FF w ws cs q) w:=by
 unfold FF;rw[dif_pos (zOZ hw hc q0 q1)];exact Xv (zOZ hw hc q0 q1)
theorem zBl{M:Nat}{w:Wy}{ws cs:List Int}(hw:w.due ws cs)(hc:Cl cs){q:Rat}{f:Nat->Rat}(q0:0<=q)(q1:q<=(cs.sum:Rat))(a:Al M ws cs q f w){i:Nat}(hi:i<cs.length):f i=FF w ws cs q i:=by
 obtain⟨M',b⟩:=xT hw hc q0 q1;exact zQw hw a b hi
theorem zHx{w:Wy}{ws cs:List Int}(hw:w.due ws cs)(hc:Cl cs){q:Rat}(q0:0<=q)(q1:q<=(cs.sum:Rat)):(∀ i,i<cs.length->0<=FF w ws cs q i/\FF w ws cs q i<=cR cs i)/\((List.range cs.length).map (FF w ws cs q)).sum=q:=by
 obtain⟨M,b⟩:=xT hw hc q0 q1;exact zPf hw hc q0 q1 b
theorem zNe{w:Wy}{ws cs:List Int}(hw:w.due ws cs)(hc:Cl cs){q q':Rat}(q0:0<=q)(l:q<=q')(q1:q'<=(cs.sum:Rat)){i:Nat}(hi:i<cs.length):FF w ws cs q i<=FF w ws cs q' i:=by
 obtain⟨M,a⟩:=xT hw hc q0 (Qz l q1);obtain⟨M',b⟩:=xT hw hc (Qz q0 l) q1;exact zNN hw hc a b l hi
theorem zMn{w:Wy}{ws cs:List Int}(hw:w.due ws cs)(hc:Cl cs){q:Rat}(q0:0<=q)(q1:q<=(cs.sum:Rat)){i:Nat}(hi:i<cs.length):FF w.con ws cs ((cs.sum:Rat)-q) i=cR cs i-FF w ws cs q i:=by
 obtain⟨M,a⟩:=xT hw hc q0 q1;obtain⟨M',b⟩:=xT (zNy hw) hc (q:=(cs.sum:Rat)-q) (by grind) (by grind)
 exact zPm hw hc q0 q1 a b hi
theorem zCj{f:Nat->Rat}:∀ {l:List Nat},(∀ i∈l,0<=f i)->iT f l=0->∀ i∈l,f i=0
 | [],_,_,i,h=>by cases h
 | a::l,hn,e,i,h=>by
  have p:0<=iT f l:=by
   have:∀ {l:List Nat},(∀ i∈l,0<=f i)->0<=iT f l:=by
    intro l
    induction l with
    | nil=>intro _;rw[iN];exact Qf
    | cons b l ih=>intro hl;rw[bF];have:=hl b Qb;have:=ih fun x hx=>hl x (Qd _ hx);grind
   exact this fun x hx=>hn x (Qd _ hx)
  have a0:=hn a Qb;rw[bF] at e;rcases Qc.mp h with rfl | h
  ·grind
  ·exact zCj (fun x hx=>hn x (Qd _ hx)) (by grind) i h
theorem zHM{w:Wy}{ws cs:List Int}(hw:w.due ws cs)(hc:Cl cs){i:Nat}(hi:i<cs.length):FF w ws cs 0 i=0:=by
 have s0:(0:Rat)<=(cs.sum:Rat):=by exact_mod_cast hc.sum.1
 obtain⟨b,s⟩:=zHx hw hc Qf s0;exact zCj (fun i hi=>(b i (Qi.mp hi)).1) s i (Qi.mpr hi)
theorem zDz{w:Wy}{ws cs:List Int}(hw:w.due ws cs)(hc:Cl cs){i:Nat}(hi:i<cs.length):FF w ws cs (cs.sum:Rat) i=cR cs i:=by
 have s0:(0:Rat)<=(cs.sum:Rat):=by exact_mod_cast hc.sum.1
 obtain⟨b,s⟩:=zHx hw hc s0 Qf
 have e:=qX (f:=FF w ws cs (cs.sum:Rat)) (g:=cR cs) (l:=List.range cs.length) (fun i hi=>(b i (Qi.mp hi)).2) (by
  show((List.range cs.length).map _).sum=_
  rw[s]
  exact(sQ cs).symm)
 exact e i (Qi.mpr hi)
theorem zAb:∀ {cs:List Int} {i j:Nat},(∀ c∈cs,0<=c)->i<j->j<=cs.length->(cs.take i).sum+cs.getD i 0<=(cs.take j).sum/\0<=(cs.take i).sum
 | [],i,j,_,h,h'=>by simp at h';omega
 | c::r,i,0,_,h,_=>by omega
 | c::r,0,j+1,hn,_,_=>by
  have hr:∀ l:List Int,(∀ c∈l,0<=c)->0<=l.sum:=by
   intro l
   induction l with
   | nil=>intro _;decide
   | cons a l ih=>intro hl;rw[QB];have:=hl a Qb;have:=ih fun x hx=>hl x (Qd _ hx);omega
  have:=hr (r.take j) fun x hx=>hn x (Qd _ (V9 hx))
  rw[Xu,QB];simp
  omega
 | c::r,i+1,j+1,hn,h,h'=>by
  have ih:=zAb (cs:=r) (i:=i) (j:=j) (fun x hx=>hn x (Qd _ hx)) (by omega) (by simpa using h')
  have:=hn c Qb
  rw[Xu,QB,Xu,QB];show c+_+r.getD i 0<=_/\_
  omega
def Jt(w:Wy)(ws cs:List Int)(a b:Rat):Prop:=0<=a/\a<=b/\b<=(cs.sum:Rat)/\∀ i,i<cs.length->Lin (fun x=>FF w ws cs x i) a b
theorem Lin.const{f:Rat->Rat}{a b k:Rat}(hab:a<=b)(h:∀ x,a<=x->x<=b->f x=k):Lin f a b:=fun x h1 h2=>by
 rw[h x h1 h2,h a Qf hab,h b hab Qf];grind
theorem Lin.line{f:Rat->Rat}{a b m k:Rat}(hab:a<=b)(h:∀ x,a<=x->x<=b->f x=m*x+k):Lin f a b:=fun x h1 h2=>by
 rw[h x h1 h2,h a Qf hab,h b hab Qf];grind
def rj:List Int->Int->List Rat
 | [],a=>[(a:Rat)]
 | c::r,a=>(a:Rat)::rj r (a+c)
theorem zDN(r:List Int)(a:Int):∃ t,rj r a=(a:Rat)::t:=by cases r<;>exact⟨_,rfl⟩
theorem zHP{cs:List Int}(hc:Cl cs):∀(post pre:List Int),cs=pre++post->Cn (Jt .row [] cs) (rj post pre.sum)
 | [],_,_=>trivial
 | c::r,pre,e=>by
  have ih:=zHP hc r (pre++[c]) (by rw[e];simp)
  rw[Vx,show([c]:List Int).sum=c by simp] at ih;obtain⟨t,et⟩:=zDN r (pre.sum+c);rw[rj,et];rw[et] at ih;refine⟨?_,ih⟩
  have hk:pre.length<cs.length:=by rw[e];simp
  have tk:cs.take pre.length=pre:=by rw[e];exact List.take_left
  have ck:cs.getD pre.length 0=c:=by rw[e,Qw,QX (Qh _)];simp
  have c0:0<=c:=hc.nn c (by rw[e];simp)
  have p0:0<=pre.sum:=by
   have:∀ l:List Int,(∀ c∈l,0<=c)->0<=l.sum:=by
    intro l
    induction l with
    | nil=>intro _;decide
    | cons a l ih=>intro hl;rw[QB];have:=hl a Qb;have:=ih fun x hx=>hl x (Qd _ hx);omega
   exact this pre fun x hx=>hc.nn x (by rw[e];exact Vc _ hx)
  have r0:0<=r.sum:=by
   have:∀ l:List Int,(∀ c∈l,0<=c)->0<=l.sum:=by
    intro l
    induction l with
    | nil=>intro _;decide
    | cons a l ih=>intro hl;rw[QB];have:=hl a Qb;have:=ih fun x hx=>hl x (Qd _ hx);omega
   exact this r fun x hx=>hc.nn x (by rw[e];exact Qy _ (Qd _ hx))
  have se:cs.sum=pre.sum+c+r.sum:=by rw[e,Vx,QB];omega
  have ab:(pre.sum:Rat)<=((pre.sum+c:Int):Rat):=VG.mpr (by omega)
  have bS:((pre.sum+c:Int):Rat)<=(cs.sum:Rat):=VG.mpr (by omega)
  have a0:(0:Rat)<=(pre.sum:Rat):=by exact_mod_cast p0
  refine⟨a0,ab,bS,fun i hi=>?_⟩
  have fx:∀ x,(pre.sum:Rat)<=x->x<=((pre.sum+c:Int):Rat)->FF .row [] cs x i=mn (ps0 (x-((0+(cs.take i).sum:Int):Rat))) (cR cs i):=fun x h1 h2=>by
   rw[<-zBl (M:=0) (w:=.row) (ws:=[]) (f:=zET cs x) rfl hc (Qz a0 h1) (Qz h2 bS) (fun i _=>rfl) hi];exact zAn cs 0 x i hi
  have ci:=(zJc hc hi).1;rcases Nat.lt_trichotomy i pre.length with z | z | z
  ·have tu:=(zAb hc.nn z (Vr hk)).1
   rw[tk] at tu;refine Lin.const ab (k:=cR cs i) fun x h1 h2=>?_
   rw[fx x h1 h2]
   have tu':((0+(cs.take i).sum:Int):Rat)+cR cs i<=(pre.sum:Rat):=by
    unfold cR;rw[<-QS];exact VG.mpr (by omega)
   unfold mn ps0;grind
  ·subst z
   refine Lin.line ab (m:=1) (k:=-(pre.sum:Rat)) fun x h1 h2=>?_
   rw[fx x h1 h2,tk,Int.zero_add];have:cR cs pre.length=(c:Rat):=by unfold cR;rw[ck]
   rw[this];rw[QS] at h2;unfold mn ps0;grind
  ·have tu:=(zAb hc.nn z (Vr hi)).1
   rw[tk,ck] at tu;refine Lin.const ab (k:=0) fun x h1 h2=>?_
   rw[fx x h1 h2];have tu':((pre.sum+c:Int):Rat)<=((0+(cs.take i).sum:Int):Rat):=VG.mpr (by omega)
   unfold mn ps0;grind
theorem zPg{cs:List Int}(hc:Cl cs):Cn (Jt .row [] cs) (rj cs 0):=zHP hc cs [] rfl
theorem zNM{cs:List Int}(hc:Cl cs):Cn (Jt .part [] cs) [0,(cs.sum:Rat)]:=by
 have s0:(0:Rat)<=(cs.sum:Rat):=by exact_mod_cast hc.sum.1
 refine⟨⟨Qf,s0,Qf,fun i hi=>?_⟩,trivial⟩
 have fx:∀ x,0<=x->x<=(cs.sum:Rat)->FF .part [] cs x i*(cs.sum:Rat)=x*cR cs i:=fun x h1 h2=>by
  rw[<-zBl (M:=0) (w:=.part) (ws:=[]) (f:=kH cs x) rfl hc h1 h2 (fun i _=>rfl) hi];exact(jJ hc hi).1
 intro x h1 h2;have e0:=zHM (w:=.part) (ws:=[]) rfl hc hi;have e1:=fx x h1 h2;have e2:=zDz (w:=.part) (ws:=[]) rfl hc hi;show(FF .part [] cs x i-FF .part [] cs 0 i)*_=_*(FF .part [] cs (cs.sum:Rat) i-FF .part [] cs 0 i)
 rw[e0,e2];generalize FF Wy.part [] cs x i=y at *;generalize (cs.sum:Rat)=S at *;generalize cR cs i=c at *;grind
theorem zHA{R R':Rat->Rat->Prop}{g:Rat->Rat}(h:∀ a b,R a b->R' (g a) (g b)):∀ {l:List Rat},Cn R l->Cn R' (l.map g)
 | [],_=>trivial
 | [_],_=>trivial
 | a::b::l,k=>⟨h a b k.1,zHA h k.2⟩
theorem zJm{R:Rat->Rat->Prop}:∀ {l l':List Rat},Cn R l->Cn R l'->(∀ x y,l.getLast?=some x->l'.head?=some y->R x y)->Cn R (l++l')
 | [],_,_,h,_=>h
 | [a],[],_,_,_=>trivial
 | [a],b::l',_,h,k=>⟨k a b rfl rfl,h⟩
 | a::b::l,l',h,h',k=>⟨h.1,zJm h.2 h' fun x y hx hy=>k x y (by simpa using hx) hy⟩
theorem zIf{R R':Rat->Rat->Prop}{g:Rat->Rat}(h:∀ a b,R a b->R' (g b) (g a)):∀ {l:List Rat},Cn R l->Cn R' (l.reverse.map g)
 | [],_=>trivial
 | [_],_=>trivial
 | a::b::l,k=>by
  have ih:=zIf (l:=b::l) h k.2;rw[List.reverse_cons,QH];refine zJm ih trivial fun x y hx hy=>?_
  rw[VD,Yd] at hx;cases hx;cases hy;exact h a b k.1
theorem Lin.mir{f g:Rat->Rat}{a b S c:Rat}(hab:a<=b)(h:Lin f a b)(hg:∀ x,a<=x->x<=b->g (S-x)=c-f x):Lin g (S-b) (S-a):=fun x h1 h2=>by
 have k:=h (S-x) (by grind) (by grind)
 have e:=hg (S-x) (by grind) (by grind)
 rw[show S-(S-x)=x by grind] at e;rw[e,hg a Qf hab,hg b hab Qf];grind
theorem zMo{w:Wy}{ws cs:List Int}(hw:w.due ws cs)(hc:Cl cs){a b:Rat}(h:Jt w ws cs a b):Jt w.con ws cs ((cs.sum:Rat)-b) ((cs.sum:Rat)-a):=by
 obtain⟨h1,h2,h3,h4⟩:=h;refine⟨by grind,by grind,by grind,fun i hi=>?_⟩
 exact Lin.mir h2 (h4 i hi) (c:=cR cs i) fun x x1 x2=>zMn hw hc (Qz h1 x1) (Qz x2 h3) hi
theorem zRT{ws cs:List Int}(h:Wt ws cs)(hc:Cl cs){s t:Rat}(s0:0<=s)(st:s<=t)(n:zOO ws cs s t):Jt .even ws cs (QQ ws cs s) (QQ ws cs t):=by
 have g0:∀ i,i<cs.length->∀ t,0<=t->0<=dR (cR cs) (cR ws) t i/\dR (cR cs) (cR ws) t i<=cR cs i:=fun i hi t t0=>pC h hc t0 hi
 have q0:0<=QQ ws cs s:=by
  have:iT (fun i=>cR ws i*0) (List.range cs.length)<=QQ ws cs s:=rH fun i hi=>by
   have:=(g0 i (Qi.mp hi) s s0).1
   grind
  rw[dM] at this;grind
 have q1:QQ ws cs t<=(cs.sum:Rat):=by
  have:QQ ws cs t<=iT (cR cs) (List.range cs.length):=rH fun i hi=>(g0 i (Qi.mp hi) t (Qz s0 st)).2
  have e:iT (cR cs) (List.range cs.length)=(cs.sum:Rat):=sQ cs;rw[e] at this;exact this
 refine⟨q0,lQ h st,q1,fun i hi=>zQm h st n hi fun x x1 x2=>?_⟩
 obtain⟨M,u,tl,e⟩:=xT (w:=.even) h hc (Qz q0 x1) (Qz x2 q1);exact⟨u,tl.sum,e i hi⟩
theorem zOF{ws cs:List Int}(h:Wt ws cs)(hc:Cl cs){ls:List Rat}(so:ls.Pairwise (·<=·))(hm:∀ i,i<cs.length->lv ws cs i∈ls)(h0:∀ x∈ls,0<=x):Cn (Jt .even ws cs) ((0::ls).map (QQ ws cs)):=by
 have so':(0::ls).Pairwise (·<=·):=Qo.mpr ⟨h0,so⟩;have cn:=wF (A:=0::ls) so' fun x hx=>.inl hx
 have pos:∀ {l:List Rat},(∀ x∈l,0<=x)->Cn (fun s t=>s<=t/\∀ x∈0::ls,x<=s∨t<=x) l->Cn (fun s t=>0<=s/\s<=t/\∀ x∈0::ls,x<=s∨t<=x) l:=by
  intro l
  induction l with
  | nil=>intro _ _;trivial
  | cons a r ih=>
   intro hp k
   cases r with
   | nil=>trivial
   | cons b r=>exact⟨⟨hp a Qb,k.1⟩,ih (fun x hx=>hp x (Qd _ hx)) k.2⟩
 refine zHA (fun a b hab=>?_) (pos (fun x hx=>?_) cn)
 ·exact zRT h hc hab.1 hab.2.1 fun i hi=>hab.2.2 _ (Qd _ (hm i hi))
 ·rcases Qc.mp hx with rfl | hx
  ·exact Qf
  ·exact h0 x hx
theorem wC{cs:List Int}(hc:Cl cs){q:Rat}(q0:0<=q)(q1:q+q<=(cs.sum:Rat)){i:Nat}(hi:i<cs.length):FF .half [] cs q i=FF .even (ones cs) cs (q+q) i*hf:=by
 have s0:(0:Rat)<=(cs.sum:Rat):=by exact_mod_cast hc.sum.1
 obtain⟨M,t,tl,e⟩:=xT (w:=.even) (ws:=ones cs) (fF cs) hc (q:=q+q) (by grind) q1
 rw[<-zBl (M:=M) (w:=.half) (ws:=[]) (f:=fun i=>dR (cR cs) (cR (ones cs)) t i*hf) rfl hc q0 (by grind) ⟨t,.inl ⟨q1,tl,fun i _=>rfl⟩⟩ hi,e i hi]
theorem zOD{cs:List Int}(hc:Cl cs){a b:Rat}(h:Jt .even (ones cs) cs a b):Jt .half [] cs (a*hf) (b*hf):=by
 obtain⟨h1,h2,h3,h4⟩:=h;have tw:∀ x:Rat,x*hf+x*hf=x:=fun x=>by rw[jI];grind
 have ta:=tw a;have tb:=tw b;have p:(0:Rat)<hf:=by rw[jI];grind
 have l1:=Q5 h1 (Qg p);have l2:=Q5 h2 (Qg p);refine⟨by grind,l2,by grind,fun i hi x x1 x2=>?_⟩
 have fx:∀ y,a*hf<=y->y<=b*hf->FF .half [] cs y i=FF .even (ones cs) cs (y+y) i*hf:=fun y y1 y2=>wC hc (by grind) (by grind) hi
 show(FF .half [] cs x i-FF .half [] cs (a*hf) i)*_=_*(FF .half [] cs (b*hf) i-FF .half [] cs (a*hf) i)
 rw[fx x x1 x2,fx (a*hf) Qf l2,fx (b*hf) l2 Qf,ta,tb];have k:=h4 i hi (x+x) (by grind) (by grind)
 have k':(FF .even (ones cs) cs (x+x) i-FF .even (ones cs) cs a i)*(b-a)=(x+x-a)*(FF .even (ones cs) cs b i-FF .even (ones cs) cs a i):=k;rw[show b*hf-a*hf=(b-a)*hf by grind];have hh:hf*(1+1)=1:=by rw[jI];grind
 generalize FF Wy.even (ones cs) cs (x+x) i=u at *;generalize FF Wy.even (ones cs) cs a i=v at *;generalize FF Wy.even (ones cs) cs b i=z at *;generalize hf=H at *;grind
structure JL (w:Wy) (ws cs:List Int) (l:List Rat):Prop where
 cn:Cn (Jt w ws cs) l
 hd:l.head?=some 0
 la:l.getLast?=some (cs.sum:Rat)
def ddR:Rat->List Rat->List Rat
 | _,[]=>[]
 | k,x::l=>if k<x then x::ddR x l else ddR k l
theorem zOe{w:Wy}{ws cs:List Int}:∀ {l:List Rat} {k:Rat},Cn (Jt w ws cs) (k::l)->Cn (fun a b=>a<b/\Jt w ws cs a b) (k::ddR k l)/\(k::ddR k l).getLast?=(k::l).getLast?
 | [],k,_=>⟨trivial,rfl⟩
 | x::l,k,h=>by
  rw[ddR];by_cases z:k<x
  ·rw[if_pos z]
   obtain⟨i1,i2⟩:=zOe h.2;refine⟨⟨⟨z,h.1⟩,i1⟩,?_⟩
   rw[Xa,Xa];exact i2
  ·rw[if_neg z]
   have e:k=x:=by have:=h.1.2.1;grind
   subst e;obtain⟨i1,i2⟩:=zOe h.2;refine⟨i1,?_⟩
   rw[i2,Xa]
theorem zJA:∀(l:List Rat)(k:Rat),(ddR k l).Sublist l
 | [],_=>List.Sublist.refl _
 | x::l,k=>by
  rw[ddR];split
  ·exact(zJA l x).cons₂ x
  ·exact(zJA l k).cons x
structure JS (w:Wy) (ws cs:List Int) (l:List Rat):Prop where
 cn:Cn (fun a b=>a<b/\Jt w ws cs a b) l
 hd:l.head?=some 0
 la:l.getLast?=some (cs.sum:Rat)
theorem JL.js{w:Wy}{ws cs:List Int}{l:List Rat}(h:JL w ws cs (0::l)):JS w ws cs (0::ddR 0 l):=by
 obtain⟨a,b⟩:=zOe h.cn;exact⟨a,rfl,by rw[b];exact h.la⟩
theorem zND{R:Rat->Rat->Prop}:∀ {l:List Rat},Cn (fun a b=>a<b/\R a b) l->l.Pairwise (· < ·)
 | [],_=>.nil
 | [a],_=>Xw ..
 | a::b::l,h=>by
  have ih:=zND h.2;refine Qo.mpr ⟨fun x hx=>?_,ih⟩
  rcases Qc.mp hx with rfl | hx
  ·exact h.1.1
  ·have z1:=h.1.1
   have z2:=(Qo.mp ih).1 x hx;grind
theorem zQv{R:Rat->Rat->Prop}:∀ {l:List Rat} {k:Nat} {a b:Rat},Cn R l->l[k]?=some a->l[k+1]?=some b->R a b
 | x::y::l,0,a,b,h,e1,e2=>by cases e1;cases e2;exact h.1
 | x::y::l,k+1,a,b,h,e1,e2=>zQv (k:=k) h.2 (by simpa using e1) (by simpa using e2)
 | [x],0,a,b,h,e1,e2=>by simp at e2
 | [x],k+1,a,b,h,e1,e2=>by simp at e2
 | [],k,a,b,h,e1,e2=>by simp at e1
def jpt(w:Wy)(ws cs:List Int)(l:List Rat)(i:Nat):List Pt:=l.map fun q=>(q,FF w ws cs q i)
theorem JS.bd{w:Wy}{ws cs:List Int}{l:List Rat}(h:JS w ws cs l):∀ x∈l,0<=x/\x<=(cs.sum:Rat):=by
 have p:=zND h.cn;intro x hx;obtain⟨hd,la⟩:=(⟨h.hd,h.la⟩:_/\_)
 cases l with
 | nil=>cases hx
 | cons a r=>
  cases hd;refine⟨?_,?_⟩
  ·rcases Qc.mp hx with rfl | hx
   ·exact Qf
   ·exact Qg ((Qo.mp p).1 x hx)
  ·have key:∀ {l:List Rat} {e x:Rat},l.Pairwise (· < ·)->l.getLast?=some e->x∈l->x<=e:=by
    intro l
    induction l with
    | nil=>intro e x _ _ hx;cases hx
    | cons a r ih=>
     intro e x hp he hx;obtain⟨p1,p2⟩:=Qo.mp hp
     cases r with
     | nil=>rw[Qt.mp hx];cases he;exact Qf
     | cons b r=>
      rw[Xa] at he;rcases Qc.mp hx with rfl | hx
      ·exact Qz (Qg (p1 b Qb)) (ih p2 he Qb)
      ·exact ih p2 he hx
   exact key p la hx
theorem zEo{w:Wy}{ws cs:List Int}{l:List Rat}(hw:w.due ws cs)(hc:Cl cs)(h:JS w ws cs l){i:Nat}(hi:i<cs.length):Ok (jpt w ws cs l i)/\(jpt w ws cs l i).getLast?=some ((cs.sum:Rat),cR cs i):=by
 have b:=h.bd;refine⟨⟨?_,?_⟩,?_⟩
 ·unfold jpt
  rw[Xh,h.hd];show some ((0:Rat),FF w ws cs 0 i)=_
  rw[zHM hw hc hi]
 ·unfold jpt
  rw[VC];refine V3 (fun {x y} hx hy hxy=>?_) (zND h.cn)
  exact⟨hxy,zNe hw hc (b x hx).1 (Qg hxy) (b y hy).2 hi⟩
 ·unfold jpt
  rw[VD,h.la];show some ((cs.sum:Rat),FF w ws cs (cs.sum:Rat) i)=_
  rw[zDz hw hc hi]
theorem zNI{w:Wy}{ws cs:List Int}{l:List Rat}(hw:w.due ws cs)(hc:Cl cs)(h:JS w ws cs l){i:Nat}(hi:i<cs.length){x:Rat}(x0:0<=x)(x1:x<=(cs.sum:Rat)):aQ (jpt w ws cs l i) x=FF w ws cs x i:=by
 obtain⟨ok,la⟩:=zEo hw hc h hi
 have pt:∀ {k:Nat} {p:Pt},(jpt w ws cs l i)[k]?=some p->l[k]?=some p.1/\p.2=FF w ws cs p.1 i:=fun {k p} e=>by
  unfold jpt at e;rw[Qu] at e
  cases hk:l[k]? with
  | none=>rw[hk] at e;cases e
  | some a=>rw[hk] at e;cases e;exact⟨rfl,rfl⟩
 rcases vB ok.2 la (fun p hp=>by rw[ok.1] at hp;cases hp;exact x0) x1 with⟨k,p,e1,e2⟩ | ⟨k,p,q,e1,e2,e3,e4⟩
 ·have v:=bN ok.2 e1
  rw[(pt e1).2,e2] at v;exact v
 ·rw[cQ ok.2 e1 e2 (Qg e3) (Qg e4)]
  obtain⟨a1,a2⟩:=pt e1;obtain⟨b1,b2⟩:=pt e2;obtain⟨lt,j⟩:=zQv h.cn a1 b1;have k:=j.2.2.2 i hi x (Qg e3) (Qg e4);have k':(FF w ws cs x i-FF w ws cs p.1 i)*(q.1-p.1)=(x-p.1)*(FF w ws cs q.1 i-FF w ws cs p.1 i):=k;unfold itp;rw[a2,b2];generalize FF w ws cs x i=u at *;generalize FF w ws cs p.1 i=v at *;generalize FF w ws cs q.1 i=z at *;have nz:q.1-p.1≠0:=by grind
  refine jX nz ?_
  have e:(x-p.1) / (q.1-p.1)*(q.1-p.1)=x-p.1:=QT nz;generalize (x-p.1) / (q.1-p.1)=r at *;grind
def wln(w:Wy)(ws cs:List Int)(l:List Rat)(i:Nat):List Pt:=mG (jpt w ws cs l i)
theorem zLE{w:Wy}{ws cs:List Int}{l:List Rat}(hw:w.due ws cs)(hc:Cl cs)(h:JS w ws cs l){i:Nat}(hi:i<cs.length):zMw (wln w ws cs l i)/\(wln w ws cs l i).getLast?=some ((cs.sum:Rat),cR cs i)/\(∀ p∈wln w ws cs l i,p.1∈l/\p.2=FF w ws cs p.1 i)/\∀ x,0<=x->x<=(cs.sum:Rat)->aQ (wln w ws cs l i) x=FF w ws cs x i:=by
 obtain⟨ok,la⟩:=zEo hw hc h hi;unfold wln;refine⟨lM ok,by rw[vQ ok.2];exact la,fun p hp=>?_,fun x x0 x1=>by rw[xV ok.2];exact zNI hw hc h hi x0 x1⟩
 have m:=(nV ok.2).subset hp;unfold jpt at m;obtain⟨q,hq,rfl⟩:=Qn.mp m;exact⟨hq,rfl⟩
theorem uV:∀ {l m:List Rat},l.Perm m->l.Pairwise (·<=·)->m.Pairwise (·<=·)->l=m
 | [],m,p,_,_=>(List.nil_perm.mp p).symm
 | a::l,[],p,_,_=>by cases (List.perm_nil.mp p)
 | a::l,b::m,p,h,k=>by
  obtain⟨h1,h2⟩:=Qo.mp h;obtain⟨k1,k2⟩:=Qo.mp k
  have e:a=b:=by
   have x:a<=b:=by
    rcases Qc.mp (p.mem_iff.mpr Qb) with e | e
    ·rw[e];exact Qf
    ·exact h1 b e
   have y:b<=a:=by
    rcases Qc.mp (p.mem_iff.mp Qb) with e | e
    ·rw[e];exact Qf
    ·exact k1 a e
   grind
  subst e;rw[uV (List.perm_cons a |>.mp p) h2 k2]
theorem zBk{cs:List Int}{cd:D}(sc:Sq cd cs)(hc:Cl cs):fO [cd]=.ok (.f ((rj cs 0).map dq)):=by
 have hi:=hc.hi
 have lp:∀(r:List Int)(a:Int)(acc:List D)(s:Sl),acc.length+r.length<=1000->∃ a' s',loop (gName 3) oM (r.map D.int) [.val cd,.val (.int a),.own (acc++[dq (a:Rat)]),s]=.ok (.nx [.val cd,a',.own (acc++(rj r a).map dq),s']):=by
  intro r
  induction r with
  | nil=>intro a acc s _;exact⟨_,s,rfl⟩
  | cons c r ih=>
   intro a acc s hl;rw[Qm] at hl;obtain⟨a',s',e⟩:=ih (a+c) (acc++[dq (a:Rat)]) (.val (.int c)) (by rw[Qk];simp;omega)
   refine⟨a',s',?_⟩
   rw[Qq,eH (ρ1:=[.val cd,.val (.int a),.own (acc++[dq (a:Rat)]),.val (.int c)]) (ρ2:=[.val cd,.val (.int (a+c)),.own (acc++[dq (a:Rat)]++[dq ((a+c:Int):Rat)]),.val (.int c)]) rfl (by
    symm;rw[bU];symm
    rw[if_pos (by rw[Qk];simp;omega)]),e,rj,Qq,Vd]
   rfl
 obtain⟨a',s',e⟩:=lp cs 0 [] .un (by simp;omega)
 rw[Vt,Vt] at e;unfold fO;symm;rw[sc.seq];symm;have e0:dq ((0:Int):Rat)=dq 0:=rfl;rw[e0] at e;rw[e];symm
theorem zHO{ws cs:List Int}(h:Wt ws cs){i:Nat}{pre post:List Nat}(hm:∀ j∈pre++i::post,j<cs.length)(so:(pre++i::post).Pairwise fun a b=>lv ws cs a<=lv ws cs b)(p:(pre++i::post).Perm (List.range cs.length)):QQ ws cs (lv ws cs i)=((wS cs pre:Int):Rat)+lv ws cs i*((wS ws (i::post):Int):Rat):=by
 unfold QQ;rw[<-vU p]
 have app:∀(f:Nat->Rat)(a b:List Nat),iT f (a++b)=iT f a+iT f b:=by
  intro f a b
  induction a with
  | nil=>rw[Vt,iN,Rat.zero_add]
  | cons x a ih=>rw[Xi,bF,bF,ih];grind
 obtain⟨s1,s2,s3⟩:=Yf.mp so;rw[app,eI (g:=cR cs) (l:=pre) fun j hj=>zFP h (hm j (Vc _ hj)) (s3 j hj i Qb),nH]
 rw[eI (g:=fun j=>cR ws j*lv ws cs i) (l:=i::post) fun j hj=>zFW h (hm j (Qy _ hj)) (by
  rcases Qc.mp hj with rfl | hj
  ·exact Qf
  ·exact(Qo.mp s2).1 j hj),dM,nH]
theorem zPv{ws cs:List Int}(h:Wt ws cs)(hc:Cl cs){i:Nat}(hi:i<cs.length):Sz 104 (lv ws cs i)/\Dn (ws.getD i 0) (lv ws cs i):=by
 have w:=h.at hi;have c1:=hc.nn _ (Qj (bR hi));have c2:=hc.up _ (Qj (bR hi));refine⟨?_,cs.getD i 0,?_⟩
 ·unfold lv cR
  rw[<-Vo];exact Sz.of (by omega) (by omega) (by omega)
 ·have e:=xY h hi
  have e':((ws.getD i 0:Int):Rat)*lv ws cs i=((cs.getD i 0:Int):Rat):=e;rw[<-e'];grind
theorem zNC{cs:List Int}(hn:∀ c∈cs,0<=c):∀ {π:List Nat},(∀ i∈π,i<cs.length)->0<=wS cs π
 | [],_=>by show(0:Int)<=0;decide
 | i::π,h=>by
  rw[mT];have a:=hn _ (Qj (bR (h i Qb)));have b:=zNC hn fun j hj=>h j (Qd _ hj)
  omega
theorem zLK(cs:List Int)(a b:List Nat):wS cs (a++b)=wS cs a+wS cs b:=by unfold wS;rw[QH,Vx]
theorem qQ{ws cs:List Int}{wd cd:D}(sw:Sq wd ws)(sc:Sq cd cs)(h:Wt ws cs)(hc:Cl cs):∃ ls:List Rat,dF [wd,cd]=.ok (.f (((0::ls).map (QQ ws cs)).map dq))/\ls.Pairwise (·<=·)/\ls.Perm ((List.range cs.length).map (lv ws cs))/\QQ ws cs 0=0:=by
 have hcc:∀ c∈cs,0<=c/\c<10^30:=fun c h=>⟨hc.nn c h,hc.up c h⟩
 have hi:=hc.hi;have sm:=hc.sum;have hw:=h.len;have hkr:=xZ (zLY h hcc) (by rw[yW hw];exact hi)
 generalize hkz:(lvs ws cs).map (zJO (tR (lvs ws cs)))=kz at hkr;have lz:kz.length=cs.length:=by rw[<-hkz,Qe,yW hw]
 have B0:(0:Rat)<(tR (lvs ws cs):Rat):=by exact_mod_cast zAz (lvs ws cs)
 have kat:∀ i,i<cs.length->((kz.getD i 0:Int):Rat)=lv ws cs i*(tR (lvs ws cs):Rat):=fun i h=>by
  have e:=zHj hw h;have e2:kz.getD i 0=zJO (tR (lvs ws cs)) (cR cs i / cR ws i):=by rw[<-hkz,Qw,Qu,e];rfl
  rw[e2];exact zMr (Qj e)
 have z0:QQ ws cs 0=0:=by
  unfold QQ;rw[eI (g:=fun i=>cR ws i*0) fun i hi=>zFW h (Qi.mp hi) (zIK h hc (Qi.mp hi)),dM];grind
 have ord:∀ π,iA kz π->π.Perm (List.range cs.length)/\(∀ i∈π,i<cs.length)/\π.Pairwise fun a b=>lv ws cs a<=lv ws cs b:=by
  intro π hπ;obtain⟨hp,ho⟩:=hπ;rw[lz] at hp;have hm:∀ i∈π,i<cs.length:=fun i h=>Qi.mp (hp.mem_iff.mp h)
  refine⟨hp,hm,V3 (fun {i j} h1 h2 h3=>?_) ho⟩
  have h4:((kz.getD i 0:Int):Rat)<=((kz.getD j 0:Int):Rat):=VG.mpr h3;rw[kat i (hm i h1),kat j (hm j h2)] at h4;exact VV h4 B0
 obtain⟨π0,hπ0⟩:=zDs kz;obtain⟨p0,m0,s0⟩:=ord π0 hπ0
 have key:∀ π,iA kz π->π.map (lv ws cs)=π0.map (lv ws cs):=fun π hπ=>by
  obtain⟨p1,m1,s1⟩:=ord π hπ;exact uV ((p1.trans p0.symm).map _) (VC.mpr s1) (VC.mpr s0)
 refine⟨π0.map (lv ws cs),?_,VC.mpr s0,p0.map _,z0⟩
 have lp:∀(π:List Nat)(hπ:π.Perm (List.range cs.length))(so:π.Pairwise fun a b=>lv ws cs a<=lv ws cs b)(post pre:List Nat)(acc:List D)(s:Sl),π=pre++post->acc.length+post.length<=100->∃ a' b' s',loop (gName 6) fS (kP post) [.val wd,.val cd,.val (.int (wS cs pre)),.val (.int (wS ws post)),.val (.lst ((lvs ws cs).map dq)),.own acc,s]=.ok (.nx [.val wd,.val cd,a',b',.val (.lst ((lvs ws cs).map dq)),.own (acc++post.map fun i=>dq (QQ ws cs (lv ws cs i))),s']):=by
  intro π hπ so post
  induction post with
  | nil=>intro pre acc s _ _;exact⟨_,_,s,by rw[Vl,QW];rfl⟩
  | cons i post ih=>
   intro pre acc s e hl;have hm:∀ j∈pre++i::post,j<cs.length:=fun j hj=>Qi.mp (hπ.mem_iff.mp (by rw[e];exact hj))
   have hii:=hm i (by simp)
   have ss:=zHO h hm (by rw[<-e];exact so) (by rw[<-e];exact hπ)
   have W:=h.sum (π:=i::post) fun j hj=>hm j (Qy _ hj)
   have ln:(pre++i::post).length=cs.length:=by rw[<-e,hπ.length_eq,QA]
   rw[Qk,Qm] at ln;rw[Qm] at W hl;have F0:=zNC hc.nn (π:=pre) fun j hj=>hm j (Vc _ hj)
   have F1:wS cs pre<=cs.sum:=by
    have t:=zAe (ws:=cs) (π:=pre++i::post) (by rw[<-e];exact hπ)
    rw[zLK] at t;have:=zNC hc.nn (π:=i::post) fun j hj=>hm j (Qy _ hj)
    omega
   obtain⟨a',b',s',e'⟩:=ih (pre++[i]) (acc++[dq (QQ ws cs (lv ws cs i))]) (.val (.int (i:Nat))) (by rw[e];simp) (by rw[Qk];simp;omega)
   refine⟨a',b',s',?_⟩
   have zl:=(zPv h hc hii).1;have zW:Sz 24 ((wS ws (i::post):Int):Rat):=cU (by omega) (by decide)
   have zF:Sz 105 ((wS cs pre:Int):Rat):=cU (by omega) (by decide)
   have ixl:oIx (.lst ((lvs ws cs).map dq)) (.int (i:Int))=.ok (dq (lv ws cs i)):=oT (Vj i) (zHj hw hii);show loop _ _ (.int (i:Nat)::kP post) _=_
   rw[eH (ρ1:=[.val wd,.val cd,.val (.int (wS cs pre)),.val (.int (wS ws (i::post))),.val (.lst ((lvs ws cs).map dq)),.own acc,.val (.int (i:Nat))]) (ρ2:=[.val wd,.val cd,.val (.int (wS cs (pre++[i]))),.val (.int (wS ws post)),.val (.lst ((lvs ws cs).map dq)),.own (acc++[dq (QQ ws cs (lv ws cs i))]),.val (.int (i:Nat))]) rfl (by
    symm;rw[bU];symm;rw[ixl];symm;rw[bU];symm;rw[mW zl zW (by decide)];symm;rw[zCr zF (zl.mul zW) (by decide),<-ss];symm;rw[if_pos (by omega)];symm;rw[sc.ix hii];symm;rw[sw.ix (by omega)];symm
    rw[zLK,mT ws,show wS cs [i]=cs.getD i 0 by unfold wS;simp,show ws.getD i 0+wS ws post-ws.getD i 0=wS ws post by omega]),e',Vd]
   rfl
 have one:∀ π,iA kz π->bA (fun ρ=>loop (gName 6) fS (kP π) ρ) nS [.val wd,.val cd,.val (.int 0),.val (.int ws.sum),.val (.lst ((lvs ws cs).map dq)),.own [dq 0],.un]=.ok (.ret (.f (((0::π0.map (lv ws cs)).map (QQ ws cs)).map dq))):=by
  intro π hπ;obtain⟨p1,m1,s1⟩:=ord π hπ;have lπ:π.length=cs.length:=by rw[p1.length_eq,QA]
  obtain⟨a',b',s',e⟩:=lp π p1 s1 π [] [dq 0] .un rfl (by simp;omega)
  rw[show wS cs []=0 from rfl,zAe (ws:=ws) (π:=π) (by rw[hw];exact p1)] at e;refine(zLD (a:=fun ρ=>loop (gName 6) fS (kP π) ρ) e).trans ?_
  rw[<-key π hπ,Qq,z0,Qq,Qv,Qv];rfl
 unfold dF;symm;rw[sw.sum];symm;rw[vD sw sc h hi];symm;unfold mU;rw[zJo (kz:=kz) (by symm; exact hkr) one];rfl
theorem rT{l:List Rat}{S:Int}(hl:l.length<=1000)(hz:∀ x∈l,Sz 300 x)(hS:S.natAbs<2^105):gK [.lst (l.map dq),dq (S:Rat)]=.ok (.f ((l.reverse.map fun x=>(S:Rat)-x).map dq)):=by
 have zS:Sz 105 (S:Rat):=cU hS (by decide)
 unfold gK;symm;rw[show(l.map dq).reverse=l.reverse.map dq by rw[List.map_reverse]]
 rw[fT (u:=dq) (g:=fun x=>dq ((S:Rat)-x)) (by rw[Q7];omega) (fun x hx=>by
  symm;rw[eP zS (hz x (Yg.mp hx)) (by decide)]
  symm)]
 symm;rw[Qv];rfl
theorem rO{l:List Rat}(hl:l.length<=900)(hz:∀ x∈0::l,Sz 300 x):dA [.lst ((0::l).map dq)]=.ok (.f ((0::ddR 0 l).map dq)):=by
 have lp:∀(r:List Rat)(acc:List Rat)(k:Rat)(d:Sl)(s:Sl),(∀ x∈r,Sz 300 x)->Sz 300 k->acc.length+r.length<=1000->∃ s',loop (gName 2) jL (r.map dq) [d,.own ((acc++[k]).map dq),s]=.ok (.nx [d,.own ((acc++k::ddR k r).map dq),s']):=by
  intro r
  induction r with
  | nil=>intro acc k d s _ _ _;exact⟨s,rfl⟩
  | cons x r ih=>
   intro acc k d s hr hk hl;rw[Qm] at hl;have hx:=hr x Qb;have ixk:oIx (.lst ((acc++[k]).map dq)) (.int (-1))=.ok (dq k):=zCS (k:=1) rfl (by decide) (by rw[Qk];simp) (by rw[Qk];simp)
   have hr':∀ y∈r,Sz 300 y:=fun y hy=>hr y (Qd _ hy)
   rw[Qq,ddR];by_cases z:k<x
   ·obtain⟨s',e⟩:=ih (acc++[k]) x d (.val (dq x)) hr' hx (by rw[Qk];simp;omega)
    refine⟨s',?_⟩
    rw[if_pos z,eH (ρ1:=[d,.own ((acc++[k]).map dq),.val (dq x)]) (ρ2:=[d,.own ((acc++[k]++[x]).map dq),.val (dq x)]) rfl (by
     cases d<;>(
      symm;rw[ixk];symm;rw[jW hk hx (by decide),decide_eq_true z];symm;rw[if_pos (by rw[Qk];simp;omega),QH (l₁:=acc++[k])]
      rfl)),e,Vd]
    rfl
   ·obtain⟨s',e⟩:=ih acc k d (.val (dq x)) hr' hk (by omega)
    refine⟨s',?_⟩
    rw[if_neg z,eH (ρ1:=[d,.own ((acc++[k]).map dq),.val (dq x)]) (ρ2:=[d,.own ((acc++[k]).map dq),.val (dq x)]) rfl (by
     cases d<;>(
      symm;rw[ixk];symm;rw[jW hk hx (by decide),decide_eq_false z]
      symm)),e]
 obtain⟨s',e⟩:=lp (0::l) [] 0 (.val (.lst ((0::l).map dq))) .un hz ⟨by decide,by decide⟩ (by simp;omega)
 rw[Vt,Vt,ddR,if_neg (by decide)] at e;unfold dA;symm;rw[zAp (by decide),show((1:Int).toNat)=1 from rfl,show List.take 1 (dq 0::l.map dq)=[0].map dq from rfl];rw[Qq] at e;rw[e];rfl
theorem zRY{B S:Int}{x:Rat}(h:Dn B x)(hB:0<B)(hB':B<2^30)(h0:0<=x)(h1:x<=(S:Rat))(hS:S<2^104):Sz 300 x:=(h.sz (a:=104) (b:=30) hB hB' h0 h1 hS).mono (by decide)
def Jd(cs:List Int)(l:List Rat):Prop:=l.length<=30/\∀ x∈l,∃ B:Int,0<B/\B<=2*10^6/\Dn B x
theorem zOa{w:Wy}{ws cs:List Int}:∀ {l:List Rat},Cn (Jt w ws cs) l->2<=l.length->∀ x∈l,0<=x/\x<=(cs.sum:Rat)
 | [],_,h,x,hx=>by cases hx
 | [a],_,h,x,hx=>by simp at h
 | [a,b],h,_,x,hx=>by
  obtain⟨h1,h2,h3,_⟩:=h.1;rcases Qc.mp hx with rfl | hx
  ·exact⟨h1,Qz h2 h3⟩
  ·rw[Qt.mp hx];exact⟨Qz h1 h2,h3⟩
 | a::b::c::l,h,_,x,hx=>by
  obtain⟨h1,h2,h3,_⟩:=h.1;rcases Qc.mp hx with rfl | hx
  ·exact⟨h1,Qz h2 h3⟩
  ·exact zOa h.2 (by simp) x hx
theorem zLU:∀(r:List Int)(a:Int),∀ x∈rj r a,∃ k:Int,x=(k:Rat)
 | [],a,x,h=>⟨a,Qt.mp h⟩
 | c::r,a,x,h=>by
  rcases Qc.mp h with rfl | h
  ·exact⟨a,rfl⟩
  ·exact zLU r (a+c) x h
theorem zMd:∀(r:List Int)(a:Int),(rj r a).length=r.length+1/\(rj r a).getLast?=some ((a+r.sum:Int):Rat)
 | [],a=>⟨rfl,by show some (a:Rat)=_;rw[V8,Int.add_zero]⟩
 | c::r,a=>by
  obtain⟨h1,h2⟩:=zMd r (a+c);refine⟨by rw[rj,Qm,h1,Qm],?_⟩
  obtain⟨t,et⟩:=zDN r (a+c);rw[rj,et,Xa,<-et,h2,QB,Int.add_assoc]
theorem zNG{ws cs:List Int}(h:Wt ws cs)(hc:Cl cs){ls:List Rat}(so:ls.Pairwise (·<=·))(pm:ls.Perm ((List.range cs.length).map (lv ws cs))):∀ x∈(0::ls).map (QQ ws cs),∃ B:Int,0<B/\B<=10^6/\Dn B x:=by
 have gd:∀(t:Rat)(B:Int),Dn B t->Dn B (QQ ws cs t):=fun t B hB=>by
  have all:∀ l:List Nat,Dn B (iT (dR (cR cs) (cR ws) t) l):=by
   intro l
   induction l with
   | nil=>exact Dn.zero B
   | cons i l ih=>
    rw[bF];refine Dn.add (Dn.mn ?_ (Dn.int _ _)) ih
    obtain⟨k,hk⟩:=hB;refine⟨ws.getD i 0*k,?_⟩
    rw[QF,<-hk];show cR ws i*t*_=cR ws i*_
    grind
  exact all _
 intro x hx;obtain⟨t,ht,rfl⟩:=Qn.mp hx;rcases Qc.mp ht with rfl | ht
 ·exact⟨1,by decide,by decide,gd 0 1 (Dn.zero 1)⟩
 ·obtain⟨i,hi,rfl⟩:=Qn.mp (pm.mem_iff.mp ht)
  have hi':=Qi.mp hi;have w:=h.at hi';exact⟨ws.getD i 0,by omega,w.2,gd _ _ (zPv h hc hi').2⟩
theorem zIC(w:Wy):aV.lookup w.s=some w.con.s:=by
 cases w
 ·exact zJI
 ·exact yX
 ·exact zEH
 ·exact zZ
 ·exact zEr
 ·exact zE
theorem zIJ(w:Wy):dO [.str w.s]=.ok (.v (.str w.con.s)):=by
 have e:vJ aV (.str w.s)=.ok (.str w.con.s):=by show zOP (aV.lookup w.s)=_;rw[zIC];rfl
 unfold dO;symm;rw[uD (zIC w)];symm;rw[e];symm
theorem zAI:∀ {l:List Rat} {e x:Rat},l.Pairwise (·<=·)->l.getLast?=some e->x∈l->x<=e
 | [],_,_,_,h,_=>by cases h
 | [a],e,x,_,h,hx=>by rw[Qt.mp hx];cases h;exact Qf
 | a::b::r,e,x,hp,h,hx=>by
  obtain⟨p1,p2⟩:=Qo.mp hp;rw[Xa] at h;rcases Qc.mp hx with rfl | hx
  ·exact Qz (p1 b Qb) (zAI p2 h Qb)
  ·exact zAI p2 h hx
theorem zNt{ws cs:List Int}(h:Wt ws cs)(hc:Cl cs){ls:List Rat}(so:ls.Pairwise (·<=·))(pm:ls.Perm ((List.range cs.length).map (lv ws cs)))(z0:QQ ws cs 0=0):JL .even ws cs ((0::ls).map (QQ ws cs)):=by
 have hm:∀ i,i<cs.length->lv ws cs i∈ls:=fun i hi=>pm.mem_iff.mpr (Qn.mpr ⟨i,Qi.mpr hi,rfl⟩)
 have h0:∀ x∈ls,0<=x:=fun x hx=>by
  obtain⟨i,hi,rfl⟩:=Qn.mp (pm.mem_iff.mp hx);exact zIK h hc (Qi.mp hi)
 refine⟨zOF h hc so hm h0,by rw[Qq,z0];rfl,?_⟩
 rw[VD];obtain⟨e,he⟩:∃ e,(0::ls).getLast?=some e:=⟨_,List.getLast?_eq_some_getLast (by simp)⟩
 rw[he];have so':(0::ls).Pairwise (·<=·):=Qo.mpr ⟨h0,so⟩;refine congrArg some ?_
 unfold QQ;rw[eI (g:=cR cs) fun i hi=>zFP h (Qi.mp hi) (zAI so' he (Qd _ (hm i (Qi.mp hi))))];exact sQ cs
theorem zLN{w:Wy}{ws cs:List Int}(hw:w.due ws cs)(hc:Cl cs){l:List Rat}(h:JL w ws cs l):JL w.con ws cs (l.reverse.map fun x=>(cs.sum:Rat)-x):=by
 refine⟨zIf (fun a b k=>zMo hw hc k) h.cn,?_,?_⟩
 ·rw[Xh,List.head?_reverse,h.la]
  show some ((cs.sum:Rat)-(cs.sum:Rat))=some 0
  rw[show(cs.sum:Rat)-(cs.sum:Rat)=0 by grind]
 ·rw[VD,Yd,h.hd]
  show some ((cs.sum:Rat)-0)=_
  rw[show(cs.sum:Rat)-0=(cs.sum:Rat) by grind]
theorem zOf{cs:List Int}(hc:Cl cs){l:List Rat}(h:JL .even (ones cs) cs l):JL .half [] cs (l.map (· * hf)++(l.map (· * hf)).reverse.map fun x=>(cs.sum:Rat)-x):=by
 have c1:Cn (Jt .half [] cs) (l.map (· * hf)):=zHA (fun a b k=>zOD hc k) h.cn
 have c2:Cn (Jt .half [] cs) ((l.map (· * hf)).reverse.map fun x=>(cs.sum:Rat)-x):=zIf (fun a b k=>zMo (w:=.half) (ws:=[]) rfl hc k) c1
 have s0:(0:Rat)<=(cs.sum:Rat):=by exact_mod_cast hc.sum.1
 have hh:hf+hf=1:=by rw[jI];grind
 have h0:(0:Rat)<=hf:=by rw[jI];grind
 have m0:=Xt s0 h0;refine⟨zJm c1 c2 fun x y hx hy=>?_,?_,?_⟩
 ·rw[VD,h.la] at hx
  rw[Xh,List.head?_reverse,VD,h.la] at hy;cases hx;cases hy
  have e:(cs.sum:Rat)-(cs.sum:Rat)*hf=(cs.sum:Rat)*hf:=by
   generalize (cs.sum:Rat)=S at *;generalize hf=H at *;grind
  show Jt .half [] cs ((cs.sum:Rat)*hf) ((cs.sum:Rat)-(cs.sum:Rat)*hf)
  rw[e];refine⟨m0,Qf,by grind,fun i hi x x1 x2=>?_⟩
  have:x=(cs.sum:Rat)*hf:=by grind
  subst this;grind
 ·cases l with
  | nil=>cases h.hd
  | cons a l=>
   cases h.hd
   show some ((0:Rat)*hf)=some 0
   rw[XW]
 ·have ne:((l.map (· * hf)).reverse.map fun x=>(cs.sum:Rat)-x).getLast?=some (cs.sum:Rat):=by
   rw[VD,Yd,Xh,h.hd];show some ((cs.sum:Rat)-0*hf)=_
   rw[show(cs.sum:Rat)-0*hf=(cs.sum:Rat) by grind]
  rw[List.getLast?_append,ne];rfl
theorem zOc{w:Wy}{ws cs:List Int}(hc:Cl cs){l:List Rat}(h:JL w ws cs l)(h2:2<=l.length)(d:Jd cs l):∀ x∈l,Sz 300 x:=fun x hx=>by
 obtain⟨b0,b1⟩:=zOa h.cn h2 x hx;obtain⟨B,B0,B1,dn⟩:=d.2 x hx;exact zRY dn B0 (by omega) b0 b1 hc.sum.2
theorem zOb{w:Wy}{ws cs:List Int}{l:List Rat}(h:JL w ws cs l):∃ t,l=0::t:=by
 cases l with
 | nil=>cases h.hd
 | cons a t=>cases h.hd;exact⟨t,rfl⟩
section
variable{n:Nat}{ws cs:List Int}{wd cd e:D}
theorem zQg(sc:Sq cd cs)(hc:Cl cs):bK (n+1) [.str (Str.ofString "row"),e,cd]=.ok (.f ((rj cs 0).map dq)):=by
 show cA (bK n) _=_
 unfold cA;symm;rw[sc.sum];symm;rw[bU];symm;rw[zBk sc hc];symm
theorem zLR(sw:Sq wd ws)(sc:Sq cd cs)(h:Wt ws cs)(hc:Cl cs):∃ ls:List Rat,bK (n+1) [.str (Str.ofString "even"),wd,cd]=.ok (.f (((0::ls).map (QQ ws cs)).map dq))/\ls.Pairwise (·<=·)/\ls.Perm ((List.range cs.length).map (lv ws cs))/\QQ ws cs 0=0:=by
 obtain⟨ls,e1,e2,e3,e4⟩:=qQ sw sc h hc;refine⟨ls,?_,e2,e3,e4⟩
 show cA (bK n) _=_
 unfold cA;symm;rw[sc.sum];symm;rw[bU];symm;rw[zSH];symm;rw[e1];symm
theorem zPx(sc:Sq cd cs):bK (n+1) [.str (Str.ofString "part"),e,cd]=.ok (.f ([0,(cs.sum:Rat)].map dq)):=by
 show cA (bK n) _=_
 unfold cA;symm;rw[sc.sum];symm;rw[bU];symm;rw[zSD];symm;rw[zSo];symm
theorem zPn(sc:Sq cd cs)(hc:Cl cs):∃ ls:List Rat,bK (n+1) [.str (Str.ofString "half"),e,cd]=.ok (.f ((((0::ls).map (QQ (ones cs) cs)).map (· * hf)++(((0::ls).map (QQ (ones cs) cs)).map (· * hf)).reverse.map fun x=>(cs.sum:Rat)-x).map dq))/\ls.Pairwise (·<=·)/\ls.Perm ((List.range cs.length).map (lv (ones cs) cs))/\QQ (ones cs) cs 0=0:=by
 obtain⟨ls,e1,e2,e3,e4⟩:=qQ (wd:=.lst ((ones cs).map D.int)) (.inl rfl) sc (fF cs) hc;have hi:=hc.hi;have sm:=hc.sum;have W:=fF cs;have jl:=zNt W hc e2 e3 e4;have ll:((0::ls).map (QQ (ones cs) cs)).length=cs.length+1:=by rw[Qe,Qm,e3.length_eq,Qe,QA]
 have bd:=zOa jl.cn (by rw[ll];have:=hc.lo;omega)
 have dn:=zNG W hc e2 e3;refine⟨ls,?_,e2,e3,e4⟩
 generalize (0::ls).map (QQ (ones cs) cs)=l at *
 have zl:∀ x∈l,Sz 134 x:=fun x hx=>by
  obtain⟨B,B0,B1,d⟩:=dn x hx;exact d.sz (a:=104) (b:=30) B0 (by omega) (bd x hx).1 (bd x hx).2 sm.2
 have eo:(ones cs).map D.int=List.replicate cs.length (.int 1):=by unfold ones;rw[List.map_replicate]
 rw[eo] at e1;have hh:=zPH;unfold d_HALF at hh;show cA (bK n) _=_
 unfold cA;symm;rw[sc.sum];symm;rw[bU];symm;rw[zRW];symm;rw[zRz];symm;rw[zRm];symm;rw[sc.len];symm;rw[zEW (by omega)];symm;rw[e1];symm
 rw[fT (u:=dq) (g:=fun x=>dq (x*hf)) (by omega) (fun x hx=>by
  symm;rw[hh,mW (zl x hx) zIq (by decide)]
  symm)]
 symm;have lm:l.map (fun x=>dq (x*hf))=(l.map (· * hf)).map dq:=by rw[Qv];rfl
 rw[lm,rT (S:=cs.sum) (by rw[Qe];omega) (fun x hx=>by
  obtain⟨y,hy,rfl⟩:=Qn.mp hx
  exact((zl y hy).mul zIq).mono (by decide)) (by omega)]
 symm;rw[if_pos (by simp only[Q7,Qe];omega),QH];symm
end
def SzQ(a b:Nat)(p:Pt):Prop:=Sz a p.1/\Sz b p.2
theorem zBo{a b c:Pt}{n m:Nat}(ha:SzQ n m a)(hb:SzQ n m b)(hc:SzQ n m c)(h:2*n+2*m+2<=8999):hZ [dp a,dp b,dp c]=.ok (.v (.bl (btw a b c))):=by
 unfold hZ;symm;rw[eP hb.2 ha.2 (by omega)];symm;rw[eP hc.2 hb.2 (by omega)];symm;rw[eP hb.1 ha.1 (by omega)];symm;rw[eP hc.1 hb.1 (by omega)];symm;rw[mW (hb.2.sub ha.2) (hc.1.sub hb.1) (by omega)];symm;rw[mW (hc.2.sub hb.2) (hb.1.sub ha.1) (by omega)];symm;rfl
theorem zBU{d:D}{ps:List Pt}{n m:Nat}(hd:d=.lst (ps.map dp)∨d=.tup (ps.map dp))(hl:ps.length<=100000)(hs:∀ p∈ps,SzQ n m p)(hn:2*n+2*m+2<=8999)(hk:Ok ps):gY [d]=.ok (.v .non):=by
 obtain⟨hh,hp⟩:=hk;have ln:mC [d]=.ok (.int (ps.length:Int)):=by rcases hd with rfl | rfl<;>simp[bLen_l,bLen_t]
 have ix:∀(i:Int)(k:Nat)(a:Pt),i=(k:Int)->ps[k]?=some a->oIx d (.int i)=.ok (dp a):=by
  intro i k a hi ha;subst hi;rcases hd with rfl | rfl
  ·exact oT (by omega) (by simpa using ha)
  ·exact uN (by omega) (by simpa using ha)
 clear hd
 have hpos:0<ps.length:=by cases ps with
  | nil=>cases hh
  | cons a r=>exact VE _
 have h0:ps[0]?=some (0,0):=by rw[<-VB];exact hh
 unfold gY;symm;rw[ln];symm;rw[decide_eq_false (by omega)];symm;rw[ix 0 0 _ rfl h0];symm;rw[ln];symm;rw[zIt (by omega) (by omega) (by omega) (by omega)];symm;refine nD (Q:=fun r=>r=Res.ok (Rt.v D.non)) (fun i ρ=>∃ a b c,ρ=[.val d,a,b,c]) ⟨_,_,_,rfl⟩ ?_ ?_
 ·rintro i e ρ hd ⟨a,b,c,rfl⟩
  obtain⟨hi,rfl⟩:=zFl hd;have h1:ps[i]?=some ps[i]:=Qp _;have h2:ps[i+1]?=some ps[i+1]:=Qp _;have z1:=hs _ (Qj h1);have z2:=hs _ (Qj h2);have za:=kY hp (Q6 i) h1 h2;generalize ps[i]=u at h1 z1 za;generalize ps[i+1]=v at h2 z2 za;symm;rw[ix _ i _ (by omega) h1];symm;rw[ix _ (i+1) _ (by omega) h2];symm;rw[jW z1.1 z2.1 (by omega)];symm;rw[decide_eq_true za.1];symm;rw[jW z2.2 z1.2 (by omega)];symm;rw[decide_eq_false (by rw[Va];exact za.2)];symm;exact⟨_,rfl,_,_,_,rfl⟩
 ·rintro ρ' ⟨a,b,c,rfl⟩
  rfl
theorem pM{d:D}{ps:List Pt}{n m:Nat}(hd:d=.lst (ps.map dp)∨d=.tup (ps.map dp))(hl:ps.length<=100000)(hs:∀ p∈ps,SzQ n m p)(hn:2*n+2*m+2<=8999)(hk:Ok ps):eS [d]=.ok (.v (.tup ((mG ps).map dp))):=by
 have sq:zLr d=.ok (ps.map dp):=by rcases hd with rfl | rfl<;>rfl
 unfold eS;symm;rw[zBU hd hl hs hn hk];symm;rw[sq];symm;refine nD (Q:=fun r=>r.bind fin=.ok (.v (.tup ((mG ps).map dp)))) (fun i ρ=>∃ a,ρ=[.val d,.own (((ps.take i).foldl push []).reverse.map dp),a]/\(∀ p∈(ps.take i).foldl push [],SzQ n m p)/\((ps.take i).foldl push []).length<=i) ⟨_,rfl,fun p hp=>by(rw[X4] at hp;cases hp),by rw[X4];exact Qh _⟩ ?_ ?_
 ·rintro i e ρ hd ⟨a,rfl,hz,hlen⟩
  rw[Qu] at hd
  cases hq:ps[i]? with
  | none=>rw[hq] at hd;cases hd
  | some p=>
   rw[hq] at hd;cases hd;have hi:i<ps.length:=(Qx.mp hq).1;have zp:=hs _ (Qj hq);rw[nX hq,List.foldl_append,XH,List.foldl_nil];generalize (ps.take i).foldl push []=s at hz hlen;generalize hK:(uW:Sv)=K;symm;by_cases hc:1<s.length
   case neg=>
    rw[Q7,decide_eq_false (by omega)];subst hK;symm;rw[if_pos (by rw[Q7];omega),zFK hc];exact⟨_,rfl,.val (dp p),by simp,by intro q hq;rcases Qc.mp hq with rfl | hq;exact zp;exact hz q hq,by simp;omega⟩
   match s,hz,hlen,hc with
   | [],_,_,hc=>exact absurd hc (by decide)
   | [b],_,_,hc=>exact absurd hc (by simp)
   | b::a::s,hz,hlen,_=>
    have za:=hz a (Qd _ Qb);have zb:=hz b Qb;have zs:∀ q∈s,SzQ n m q:=fun q hq=>hz q (Qd _ (Qd _ hq))
    have e1:((b::a::s).reverse)[(b::a::s).reverse.length-1]?=some b:=by simp
    have e2:((b::a::s).reverse)[(b::a::s).reverse.length-2]?=some a:=by simp
    rw[Qm,Qm] at hlen;have hll:(b::a::s).reverse.length=s.length+2:=by simp
    rw[hll];rw[decide_eq_true (by omega)];symm;rw[zCS (i:=-2) (k:=2) rfl (by decide) (by rw[hll];omega) e2];symm;rw[zCS (i:=-1) (k:=1) rfl (by decide) (by rw[hll];omega) e1];symm;rw[zBo za zb zp hn];symm
    cases hb:btw a b p with
    | false=>
     subst hK;symm;rw[hll,if_pos (by omega)];refine⟨_,rfl,.val (dp p),?_,?_,?_⟩
     ·rw[push,hb]
      simp
     ·rw[push,hb]
      intro q hq;rcases Qc.mp hq with rfl | hq
      ·exact zp
      ·exact hz q hq
     ·rw[push,hb]
      simp;omega
    | true=>
     subst hK;symm;rw[hll,if_neg (by omega)];symm;rw[if_pos (by simp;omega)];refine⟨_,rfl,.val (dp p),?_,?_,?_⟩
     ·rw[push,hb]
      simp
     ·rw[push,hb]
      intro q hq;rcases Qc.mp hq with rfl | hq
      ·exact zp
      ·exact hz q (Qd _ hq)
     ·rw[push,hb]
      simp;omega
 ·rintro ρ' ⟨a,rfl,_,_⟩
  rw[Qe,Vg];symm;rfl
theorem zPD{w:Wy}{ws cs:List Int}{wd cd:D}{l:List Rat}(hw:w=.back∨w=.lack)(sc:Sq cd cs)(hc:Cl cs)(hl:l.length<=30)(hz:∀ x∈l,Sz 300 x)(e:bK 1 [.str w.con.s,wd,cd]=.ok (.f (l.map dq))):bK 2 [.str w.s,wd,cd]=.ok (.f ((l.reverse.map fun x=>(cs.sum:Rat)-x).map dq)):=by
 have sm:=hc.sum;have c:=zIJ w;show cA (bK 1) _=_
 unfold cA;symm;rw[sc.sum];symm;rw[bU];symm;rcases hw with rfl | rfl
 ·rw[show Wy.back.s=Str.ofString "back" from rfl,zSB]
  symm;rw[zSx];symm;rw[zSh];symm;rw[zSj];symm;rw[show Str.ofString "back" = Wy.back.s from rfl,c];symm;rw[e];symm;rw[rT (by omega) hz (by omega)];symm
 ·rw[show Wy.lack.s=Str.ofString "lack" from rfl,zSF]
  symm;rw[zSA];symm;rw[zSn];symm;rw[zSv];symm;rw[show Str.ofString "lack" = Wy.lack.s from rfl,c];symm;rw[e];symm;rw[rT (by omega) hz (by omega)];symm
theorem zLH{cs:List Int}{l:List Rat}(h:Jd cs l):Jd cs (l.reverse.map fun x=>(cs.sum:Rat)-x):=by
 refine⟨by rw[Qe,Q7];exact h.1,fun x hx=>?_⟩
 obtain⟨y,hy,rfl⟩:=Qn.mp hx;obtain⟨B,b0,b1,d⟩:=h.2 y (Yg.mp hy);exact⟨B,b0,b1,(Dn.int B cs.sum).sub d⟩
theorem zLp{w:Wy}{ws cs:List Int}{wd cd:D}(sw:Sq wd ws)(sc:Sq cd cs)(hw:w.due ws cs)(hc:Cl cs):∃ l:List Rat,bK 2 [.str w.s,wd,cd]=.ok (.f (l.map dq))/\JL w ws cs l/\Jd cs l/\2<=l.length:=by
 have hi:=hc.hi;have lo:=hc.lo
 have row:JL .row [] cs (rj cs 0)/\Jd cs (rj cs 0)/\2<=(rj cs 0).length:=by
  obtain⟨l1,l2⟩:=zMd cs 0;refine⟨⟨zPg hc,?_,by rw[l2,Int.zero_add]⟩,⟨by omega,fun x hx=>?_⟩,by omega⟩
  ·obtain⟨t,et⟩:=zDN cs 0
   rw[et];rfl
  ·obtain⟨k,rfl⟩:=zLU cs 0 x hx
   exact⟨1,by decide,by decide,Dn.int 1 k⟩
 have evn:∀ ls:List Rat,Wt ws cs->ls.Pairwise (·<=·)->ls.Perm ((List.range cs.length).map (lv ws cs))->QQ ws cs 0=0->JL .even ws cs ((0::ls).map (QQ ws cs))/\Jd cs ((0::ls).map (QQ ws cs))/\2<=((0::ls).map (QQ ws cs)).length:=fun ls W e2 e3 e4=>by
  have ll:((0::ls).map (QQ ws cs)).length=cs.length+1:=by rw[Qe,Qm,e3.length_eq,Qe,QA]
  refine⟨zNt W hc e2 e3 e4,⟨by omega,fun x hx=>?_⟩,by omega⟩
  obtain⟨B,b0,b1,d⟩:=zNG W hc e2 e3 x hx;exact⟨B,b0,by omega,d⟩
 cases w with
 | row=>
  have e:ws=[]:=hw;subst e;exact⟨_,zQg (n:=1) (e:=wd) sc hc,row⟩
 | part=>
  have e:ws=[]:=hw;subst e;refine⟨_,zPx (n:=1) (e:=wd) sc,⟨zNM hc,rfl,rfl⟩,⟨by show 2<=30;decide,fun x hx=>?_⟩,Qh 2⟩
  rcases Qc.mp hx with rfl | hx
  ·exact⟨1,by decide,by decide,Dn.zero 1⟩
  ·rw[Qt.mp hx];exact⟨1,by decide,by decide,Dn.int 1 _⟩
 | even=>
  obtain⟨ls,e1,e2,e3,e4⟩:=zLR (n:=1) sw sc hw hc;exact⟨_,e1,evn ls hw e2 e3 e4⟩
 | back=>
  have e:ws=[]:=hw;subst e;have k:=zPD (w:=.back) (ws:=[]) (.inl rfl) sc hc row.2.1.1 (zOc hc row.1 row.2.2 row.2.1) (zQg (n:=0) (e:=wd) sc hc);exact⟨_,k,zLN (w:=.row) rfl hc row.1,zLH row.2.1,by rw[Qe,Q7];exact row.2.2⟩
 | lack=>
  obtain⟨ls,e1,e2,e3,e4⟩:=zLR (n:=0) sw sc hw hc;obtain⟨r1,r2,r3⟩:=evn ls hw e2 e3 e4;have k:=zPD (w:=.lack) (ws:=ws) (.inr rfl) sc hc r2.1 (zOc hc r1 r3 r2) e1;exact⟨_,k,zLN (w:=.even) hw hc r1,zLH r2,by rw[Qe,Q7];exact r3⟩
 | half=>
  have e:ws=[]:=hw;subst e;obtain⟨ls,e1,e2,e3,e4⟩:=zPn (n:=1) (e:=wd) sc hc;have W:=fF cs;have ll:((0::ls).map (QQ (ones cs) cs)).length=cs.length+1:=by rw[Qe,Qm,e3.length_eq,Qe,QA]
  have jl:=zNt W hc e2 e3 e4;have dn:=zNG W hc e2 e3;generalize (0::ls).map (QQ (ones cs) cs)=l at *;refine⟨_,e1,zOf hc jl,⟨?_,fun x hx=>?_⟩,?_⟩
  ·simp only[Qk,Qe,Q7];omega
  ·have early:∀ y∈l.map (· * hf),∃ B:Int,0<B/\B<=2*10^6/\Dn B y:=fun y hy=>by
    obtain⟨z,hz,rfl⟩:=Qn.mp hy;obtain⟨B,b0,b1,d⟩:=dn z hz;exact⟨B*2,by omega,by omega,zIw d⟩
   rcases QG.mp hx with hx | hx
   ·exact early x hx
   ·obtain⟨y,hy,rfl⟩:=Qn.mp hx
    obtain⟨B,b0,b1,d⟩:=early y (Yg.mp hy);exact⟨B,b0,b1,(Dn.int B cs.sum).sub d⟩
  ·simp only[Qk,Qe,Q7];omega
theorem zFx{α:Type}:∀ l:List α,l.zip l=l.map fun x=>(x,x)
 | []=>rfl
 | a::l=>by rw[List.zip_cons_cons,zFx l,Qq]
theorem zDb{w:Wy}{ws cs:List Int}{wd cd:D}(sw:Sq wd ws)(sc:Sq cd cs)(hw:w.due ws cs)(hc:Cl cs):∃ J:List Rat,gO [.str w.s,wd,cd]=.ok (.f ((List.range cs.length).map fun i=>.tup ((wln w ws cs J i).map dp)))/\JS w ws cs J/\J.length<=30/\(∀ x∈J,Sz 300 x/\∀ i,i<cs.length->Sz 670 (FF w ws cs x i))/\Jd cs J:=by
 obtain⟨l,e1,jl,jd,l2⟩:=zLp sw sc hw hc;have zl:=zOc hc jl l2 jd;obtain⟨t,rfl⟩:=zOb jl;have js:=jl.js;have hi:=hc.hi;have lt:=jd.1;rw[Qm] at lt;have e2:=rO (l:=t) (by omega) zl
 have sub:=zJA t 0;have ln:(0::ddR 0 t).length<=30:=by rw[Qm];have:=sub.length_le;omega
 have zj:∀ x∈0::ddR 0 t,Sz 300 x:=fun x hx=>zl x (by
  rcases Qc.mp hx with rfl | hx
  ·exact Qb
  ·exact Qd _ (sub.subset hx))
 have dj:Jd cs (0::ddR 0 t):=⟨ln,fun x hx=>jd.2 x (by
  rcases Qc.mp hx with rfl | hx
  ·exact Qb
  ·exact Qd _ (sub.subset hx))⟩
 generalize 0::ddR 0 t=J at *;have bd:=js.bd
 have rd:∀ q∈J,aN 2 [.str w.s,wd,cd,dq q]=.ok (.f (((List.range cs.length).map (FF w ws cs q)).map dq))/\∀ i,i<cs.length->Sz 670 (FF w ws cs q i):=fun q hq=>by
  have ha:Haul 300 q cs.sum:=⟨(bd q hq).1,(bd q hq).2,zj q hq⟩;obtain⟨f,ef,af⟩:=zBA sw sc (by decide) hw hc ha
  have df:=zNk hw hc ha af;have eq:∀ i,i<cs.length->f i=FF w ws cs q i:=fun i hi=>zBl hw hc (bd q hq).1 (bd q hq).2 af hi
  refine⟨by rw[ef,Q8 (g:=FF w ws cs q) fun i hi=>eq i (Qi.mp hi)],fun i hi=>by rw[<-eq i hi];exact(df.bd i hi).2.2⟩
 refine⟨J,?_,js,ln,fun x hx=>⟨zj x hx,(rd x hx).2⟩,dj⟩
 unfold gO;symm;rw[zFs sw sc hw hc];symm;rw[e1];symm;rw[Qq] at e2;rw[e2];symm
 rw[fT (u:=dq) (g:=fun q=>D.lst (((List.range cs.length).map (FF w ws cs q)).map dq)) (by omega) (fun q hq=>by
  symm;rw[(rd q hq).1]
  symm)]
 symm;rw[sc.len];symm;rw[zAk (by omega) (by omega)];symm;rw[show rng 0 ((cs.length:Int)).toNat 1=(List.range cs.length).map fun j:Nat=>D.int (j:Int) by unfold rng;rw[Q4];exact Q8 fun j _=>by rw[show(0:Int)+(j:Int)*1=(j:Int) by omega]]
 rw[fT (u:=fun j:Nat=>D.int (j:Int)) (g:=fun i=>D.tup ((wln w ws cs J i).map dp)) (by rw[QA];omega) (fun i hi=>by
  have hi':=Qi.mp hi
  have fl:nF [.lst (J.map dq),.lst (J.map fun q=>D.lst (((List.range cs.length).map (FF w ws cs q)).map dq)),.int (i:Int)]=.ok (.v (.tup ((wln w ws cs J i).map dp))):=by
   obtain⟨ok,la⟩:=zEo hw hc js hi';unfold nF;symm;rw[oY rfl rfl];symm
   rw[mP (u:=dq) (v:=fun q=>D.lst (((List.range cs.length).map (FF w ws cs q)).map dq)) (g:=fun x y=>dp (x,FF w ws cs y i)) (by omega) (fun p hp=>by
    have e:oIx (.lst (((List.range cs.length).map (FF w ws cs p.2)).map dq)) (.int (i:Int))=.ok (dq (FF w ws cs p.2 i)):=by
     rw[Qv];exact oT (Vj i) (show(List.range cs.length)[i]?=some i from Vf hi')
    symm;rw[e]
    symm)]
   symm;rw[zFx,Qv,show(J.map ((fun p:Rat×Rat=>dp (p.1,FF w ws cs p.2 i)) ∘ fun x=>(x,x)))=(jpt w ws cs J i).map dp by unfold jpt;rw[Qv];rfl]
   rw[pM (n:=300) (m:=670) (.inl rfl) (by unfold jpt;rw[Qe];omega) (fun p hp=>by
    unfold jpt at hp;obtain⟨q,hq,rfl⟩:=Qn.mp hp
    exact⟨zj q hq,(rd q hq).2 i hi'⟩) (by decide) ok]
   symm;rfl
  symm;rw[fl]
  symm)]
 symm
theorem zFz{ps:List Pt}{p:Pt}(h:ps.getLast?=some p):lP [.tup (ps.map dp)]=.ok (.v (dq p.1)):=by
 have h0:0<ps.length:=by cases ps with
  | nil=>cases h
  | cons a r=>exact VE _
 unfold lP;symm;rw[zJK (i:=-1) (k:=1) rfl (by decide) h0 (by rw[<-QR];exact h)];symm
theorem zKx{ps:List Pt}{p:Pt}(h:ps.getLast?=some p):pG [.tup (ps.map dp)]=.ok (.v (dq p.2)):=by
 have h0:0<ps.length:=by cases ps with
  | nil=>cases h
  | cons a r=>exact VE _
 unfold pG;symm;rw[zJK (i:=-1) (k:=1) rfl (by decide) h0 (by rw[<-QR];exact h)];symm
theorem zHd(b:Bool)(p:Pt):oIx (dp p) (.int (axi b))=.ok (dq (ax b p)):=by cases b<;>rfl
theorem zFv(b:Bool)(p:Pt):oIx (dp p) (.int (1-axi b))=.ok (dq (ax (!b) p)):=by cases b<;>rfl
theorem zJj{x l:Rat}{m n:Nat}(hx:Sz m x)(hl:Sz n l)(h:m+n<=99990):eE [dq x,dq l]=.ok (.v (.bl (decide (x<0) || decide (l<x)))):=by
 unfold eE;symm;rw[jW (n:=1) hx ⟨by decide,by decide⟩ (by omega)];symm;by_cases c:x<0
 ·rw[decide_eq_true c]
  symm
 ·rw[decide_eq_false c]
  symm;rw[jW hl hx (by omega)];symm
theorem zGp{x l:Rat}{m n:Nat}(hx:Sz m x)(hl:Sz n l)(h:m+n<=99990)(h0:0<=x)(h1:x<=l):bG [dq x,dq l]=.ok (.v .non):=by
 unfold bG;symm;rw[zJj hx hl h,decide_eq_false (by grind),decide_eq_false (by grind)];symm
theorem tM{ps:List Pt}{n m:Nat}(b:Bool){y:Rat}(h0:0<ps.length)(hl:ps.length<=100000)(hs:∀ p∈ps,Sz n (ax b p))(hy:Sz m y)(hn:n+m<=99999)(hp:ps.Pairwise asc):
  ∃ k:Nat,dJ [.tup (ps.map dp),.int (axi b),dq y]=.ok (.v (.int (k:Int)))/\k<ps.length/\(∀ j p,j<k->ps[j]?=some p->ax b p<y)/\(k+1=ps.length∨∃ p,ps[k]?=some p/\y<=ax b p):=by
 unfold dJ;symm
 refine zFw (fun ρ=>∃(u v:Nat)(r:Sl),ρ=[.val (.tup (ps.map dp)),.val (.int (axi b)),.val (dq y),.val (.int (u:Int)),.val (.int (v:Int)),r]/\u<=v/\v<ps.length/\(∀ j p,j<u->ps[j]?=some p->ax b p<y)/\(v+1=ps.length∨∃ p,ps[v]?=some p/\y<=ax b p))
  (fun ρ=>(slI 4 ρ-slI 3 ρ).toNat)
  (fun r=>∃ k:Nat,(r.bind (zGA kB)).bind fin=.ok (.v (.int (k:Int)))/\k<ps.length/\(∀ j p,j<k->ps[j]?=some p->ax b p<y)/\(k+1=ps.length∨∃ p,ps[k]?=some p/\y<=ax b p))
  ⟨0,ps.length-1,_,by rw[show((ps.length-1:Nat):Int)=(ps.length:Int)-1 by omega];rfl,by omega,by omega,fun j p h=>absurd h (by omega),.inl (by omega)⟩ ?_
 rintro ρ ⟨u,v,r,rfl,h1,h2,h3,h4⟩
 by_cases c:u<v
 ·refine .inr ⟨?_,?_⟩
  ·symm
   rw[decide_eq_true (by omega)]
  ·obtain⟨mid,e,b1,b2⟩:∃ mid:Nat,((u:Int)+(v:Int)) / 2=(mid:Int)/\u<=mid/\mid<v:=⟨(u+v) / 2,by omega,by omega,by omega⟩
   have hm:mid<ps.length:=Nat.lt_trans b2 h2;have hq:ps[mid]?=some ps[mid]:=Qp hm;have hz:=hs _ (Qj hq);generalize ps[mid]=q at hq hz;symm;rw[e,uN (Vj _) (by rw[Q4];exact hq)];symm;rw[zHd];symm;rw[jW hz hy hn];symm;by_cases d:ax b q<y
   ·rw[decide_eq_true d]
    symm;refine⟨_,rfl,⟨mid+1,v,_,rfl,b2,h2,?_,h4⟩,?_⟩
    ·intro j p hj hpj
     have:=kF hp b (Nat.le_of_lt_succ hj) hpj hq
     grind
    ·show((v:Int)-((mid:Int)+1)).toNat<((v:Int)-(u:Int)).toNat
     omega
   ·rw[decide_eq_false d]
    symm;refine⟨_,rfl,⟨u,mid,_,rfl,b1,hm,h3,.inr ⟨q,hq,by grind⟩⟩,?_⟩
    show((mid:Int)-(u:Int)).toNat<((v:Int)-(u:Int)).toNat
    omega
 ·have e:u=v:=by omega
  subst e;refine .inl ⟨?_,u,?_,h2,h3,h4⟩
  ·symm
   rw[decide_eq_false (by omega)]
  ·symm
theorem zPj{ps:List Pt}{n l m:Nat}(b:Bool){y:Rat}(h0:0<ps.length)(hl:ps.length<=100000)(hs:∀ p∈ps,Sz n (ax b p)/\Sz l (ax (!b) p))(hy:Sz m y)(hn:m+3*n+3*l+4<=8999)(hp:ps.Pairwise asc)(hlo:∀ p,ps[0]?=some p->ax b p<=y)(hhi:∀ p,ps.getLast?=some p->y<=ax b p):
  ∃ r:Rat,uM [.tup (ps.map dp),.int (axi b),dq y]=.ok (.v (dq r))/\∃(k:Nat)(q:Pt),ps[k]?=some q/\(∀ j p,j<k->ps[j]?=some p->ax b p<y)/\
   ((ax b q=y/\r=ax (!b) q)∨(0<k/\y<ax b q/\∃ p,ps[k-1]?=some p/\ax b p<y/\r=ax (!b) p+(y-ax b p) / (ax b q-ax b p)*(ax (!b) q-ax (!b) p))):=by
 obtain⟨k,e,hk,h1,h2⟩:=tM b h0 hl (fun p h=>(hs p h).1) hy (by omega) hp
 have hq:ps[k]?=some ps[k]:=Qp hk;have zq:=hs _ (Qj hq);generalize ps[k]=q at hq zq
 have hyq:y<=ax b q:=by
  rcases h2 with h2 | ⟨p,hp,h2⟩
  ·refine hhi q ?_
   rw[QR,show ps.length-1=k by omega];exact hq
  ·rw[hq] at hp
   cases hp;exact h2
 unfold uM;symm;rw[e];symm;rw[uN (by omega) (by rw[Q4];exact hq)];symm;rw[zHd];symm;by_cases c:ax b q=y
 ·rw[decide_eq_true c]
  symm;rw[zFv];symm;exact⟨_,rfl,k,q,hq,h1,.inl ⟨c,rfl⟩⟩
 ·have c2:y<ax b q:=by grind
  have k0:0<k:=by
   rcases XY k with z | z
   ·subst z
    have:=hlo q hq
    grind
   ·exact z
  have hp1:ps[k-1]?=some ps[k-1]:=Qp _;have zp:=hs _ (Qj hp1);generalize ps[k-1]=p at hp1 zp;have lp:=h1 _ p (show k-1<k by omega) hp1
  have nz:ax b q-ax b p≠0:=by grind
  rw[decide_eq_false c];symm;rw[uN (by omega) (by rw[show((k:Int)-1).toNat=k-1 by omega];exact hp1)];symm;rw[zHd];symm;rw[eP hy (zp.1) (by omega)];symm;rw[zHd];symm;rw[zHd];symm;rw[eP (zq.1) (zp.1) (by omega)];symm;have z1:=hy.sub (zp.1);have z2:=(zq.1).sub (zp.1);have z3:=z1.div z2 nz;have z4:=(zq.2).sub (zp.2);rw[zGJ z1 z2 nz (by omega)];symm;rw[zFv];symm;rw[zFv];symm;rw[zFv];symm;rw[eP (zq.2) (zp.2) (by omega)];symm;rw[mW z3 z4 (by omega)];symm;rw[zCr (zp.2) (z3.mul z4) (by omega)];symm;exact⟨_,rfl,k,q,hq,h1,.inr ⟨k0,c2,p,hp1,lp,rfl⟩⟩
theorem zAv{ps:List Pt}{a b m:Nat}{x:Rat}{e:Pt}(hl:ps.length<=100000)(hs:∀ p∈ps,SzQ a b p)(hx:Sz m x)(hn:m+3*a+3*b+4<=8999)(hk:Ok ps)(he:ps.getLast?=some e)(h0:0<=x)(h1:x<=e.1):
  iY [.tup (ps.map dp),dq x]=.ok (.v (dq (aQ ps x))):=by
 obtain⟨hh,hp⟩:=hk
 have hpos:0<ps.length:=by cases ps with
  | nil=>cases hh
  | cons a r=>exact VE _
 have ze:SzQ a b e:=hs e (XX he)
 obtain⟨r,e1,k,q,hq,hj,h⟩:=zPj false hpos hl (n:=a) (l:=b) hs hx hn hp (fun p hp=>by
  rw[<-VB,hh] at hp;cases hp;exact h0) (fun p hp=>by rw[he] at hp;cases hp;exact h1)
 have er:r=aQ ps x:=by
  rcases h with⟨c,rfl⟩ | ⟨k0,c,p,hp1,lp,rfl⟩
  ·have:q.1=x:=c
   rw[<-this];exact(bN hp hq).symm
  ·exact(cQ hp hp1 (by rw[show k-1+1=k by omega];exact hq) (Qg lp) (Qg c)).symm
 subst er;unfold iY;symm;rw[zFz he];symm;rw[zGp hx ze.1 (by omega) h0 h1];symm;rw[show(0:Int)=axi false from rfl,e1];symm
theorem tT{ps:List Pt}(hl:ps.length<=100000):gB [.tup (ps.map dp)]=.ok (.f ((ps.map Prod.fst).map dq)):=by
 unfold gB;symm;rw[zBs (h:=fun d=>match d with | .tup [x,_]=>x | _=>.non) (by rw[Qe];omega) ?_]
 ·symm
  rw[Qv,Qv];rfl
 ·intro d hd
  obtain⟨p,_,rfl⟩:=Qn.mp hd;symm;rfl
structure Mg (A B:List Rat) (i s:Nat) (C:List Rat):Prop where
 asc:C.Pairwise (· < ·)
 mem:∀ y,y∈C ↔ y∈A.take i∨y∈B.take s
 below:∀(j:Nat)(b:Rat),s<=j->B[j]?=some b->∀ c∈C,c<b
 under:∀(j:Nat)(a:Rat),i<=j->A[j]?=some a->∀ c∈C,c<a
 le:s<=B.length
 len:C.length<=i+s
theorem zFe{C:List Rat}{x:Rat}(h:C.Pairwise (· < ·))(hx:∀ c∈C,c<x):(C++[x]).Pairwise (· < ·):=by
 refine Yf.mpr ⟨h,Xw _ _,fun a ha b hb=>?_⟩
 rcases Qc.mp hb with rfl | hb
 ·exact hx a ha
 ·cases hb
theorem zBI{A:List Rat}(h:A.Pairwise (· < ·)){i j:Nat}{a b:Rat}(l:i<j)(ha:A[i]?=some a)(hb:A[j]?=some b):a<b:=by
 obtain⟨hi,rfl⟩:=Qx.mp ha;obtain⟨hj,rfl⟩:=Qx.mp hb;exact Xo.mp h i j hi hj l
theorem gA{A:List Rat}{i:Nat}{a y:Rat}(h:A[i]?=some a):y∈A.take (i+1) ↔ y∈A.take i∨y=a:=by
 rw[nX h,QG,Qt]
theorem zFy{A B:List Rat}{m:Nat}(ha:A.Pairwise (· < ·))(hb:B.Pairwise (· < ·))(la:A.length<=100000)(lb:B.length<=100000)(za:∀ x∈A,Sz m x)(zb:∀ x∈B,Sz m x)(hm:m<=40000):
  ∃ C:List Rat,lH [.lst (A.map dq),.lst (B.map dq)]=.ok (.f (C.map dq))/\C.Pairwise (· < ·)/\(∀ y,y∈C ↔ y∈A∨y∈B)/\C.length<=A.length+B.length:=by
 have ix:∀(k:Nat)(a:Rat),B[k]?=some a->oIx (.lst (B.map dq)) (.int (k:Int))=.ok (dq a):=by
  intro k a h;exact oT (by omega) (by simpa using h)
 unfold lH;symm
 refine nD (Q:=fun r=>∃ C:List Rat,r.bind fin=.ok (.f (C.map dq))/\C.Pairwise (· < ·)/\(∀ y,y∈C ↔ y∈A∨y∈B)/\C.length<=A.length+B.length)
  (fun i ρ=>∃(s:Nat)(C:List Rat)(a:Sl),ρ=[.val (.lst (A.map dq)),.val (.lst (B.map dq)),.own (C.map dq),.val (.int (s:Int)),a]/\Mg A B i s C)
  ⟨0,[],_,rfl,⟨List.Pairwise.nil,by simp,by simp,by simp,by omega,by simp⟩⟩ ?_ ?_
 ·rintro i d ρ hd ⟨s,C,a,rfl,g⟩
  rw[Qu] at hd
  cases hq:A[i]? with
  | none=>rw[hq] at hd;cases hd
  | some x=>
   rw[hq] at hd;cases hd;have hi:i<A.length:=(Qx.mp hq).1;have zx:=za x (Qj hq);symm
   refine zFw (fun ρ=>∃(s:Nat)(C:List Rat),ρ=[.val (.lst (A.map dq)),.val (.lst (B.map dq)),.own (C.map dq),.val (.int (s:Int)),.val (dq x)]/\Mg A B i s C)
    (fun ρ=>B.length-(slI 3 ρ).toNat)
    (fun r=>∃ ρ2,r.bind (zGA rV)=.ok (.nx ρ2)/\∃(s:Nat)(C:List Rat)(a:Sl),ρ2=[.val (.lst (A.map dq)),.val (.lst (B.map dq)),.own (C.map dq),.val (.int (s:Int)),a]/\Mg A B (i+1) s C) ⟨s,C,rfl,g⟩ ?_
   rintro ρ ⟨s,C,rfl,g⟩
   have fin1:(s<B.length->∃ b,B[s]?=some b/\¬ b<x)->∃ ρ2,rV [.val (.lst (A.map dq)),.val (.lst (B.map dq)),.own (C.map dq),.val (.int (s:Int)),.val (dq x)]=.ok (.nx ρ2)/\∃(s:Nat)(C:List Rat)(a:Sl),ρ2=[.val (.lst (A.map dq)),.val (.lst (B.map dq)),.own (C.map dq),.val (.int (s:Int)),a]/\Mg A B (i+1) s C:=by
    intro hs
    have base:∀ s':Nat,s'<=B.length->s'<=s+1->(∀ y,(y∈A.take i∨y∈B.take s)∨y=x ↔ y∈A.take (i+1)∨y∈B.take s')->(∀(j:Nat)(b:Rat),s'<=j->B[j]?=some b->x<b/\s<=j)->C.length+1<=i+1+s'->Mg A B (i+1) s' (C++[x]):=by
     intro s' h1 h1' h2 h3 h4;have cx:∀ c∈C,c<x:=g.under i x (Qh _) hq;refine⟨zFe g.asc cx,fun y=>?_,fun j b hj hb' c hc=>?_,fun j a hj ha' c hc=>?_,h1,by rw[Qk];exact h4⟩
     ·rw[QG,Qt,g.mem y]
      exact h2 y
     ·have h5:=h3 j b hj hb'
      rcases QG.mp hc with hc | hc
      ·exact g.below j b h5.2 hb' c hc
      ·rw[Qt.mp hc]
       exact h5.1
     ·have h5:=zBI ha (show i<j by omega) hq ha'
      rcases QG.mp hc with hc | hc
      ·have:=cx c hc
       grind
      ·rw[Qt.mp hc]
       exact h5
    have len:=g.len;have le:=g.le;symm;by_cases c1:s<B.length
    ·obtain⟨b,hb1,hb2⟩:=hs c1
     rw[decide_eq_true (by omega)];symm;rw[ix s b hb1];symm;by_cases c2:b=x
     ·rw[decide_eq_true c2]
      symm;rw[if_pos (by omega)];refine⟨_,rfl,s+1,C++[x],_,by rw[QH];rfl,base (s+1) (by omega) (by omega) (fun y=>?_) (fun j b' hj hb'=>?_) (by omega)⟩
      ·rw[gA hq,gA hb1,c2]
       constructor
       ·rintro ((h | h) | h)
        ·exact .inl (.inl h)
        ·exact .inr (.inl h)
        ·exact .inl (.inr h)
       ·rintro ((h | h) | (h | h))
        ·exact .inl (.inl h)
        ·exact .inr h
        ·exact .inl (.inr h)
        ·exact .inr h
      ·have:=zBI hb (show s<j by omega) hb1 hb'
       rw[c2] at this;exact⟨this,by omega⟩
     ·rw[decide_eq_false c2]
      symm;rw[if_pos (by omega)];refine⟨_,rfl,s,C++[x],_,by rw[QH];rfl,base s le (by omega) (fun y=>?_) (fun j b' hj hb'=>?_) (by omega)⟩
      ·rw[gA hq]
       grind
      ·rcases VS hj with l | l
       ·have:=zBI hb l hb1 hb'
        exact⟨by grind,hj⟩
       ·subst l
        rw[hb1] at hb';cases hb'
        exact⟨by grind,hj⟩
    ·rw[decide_eq_false (by omega)]
     symm;rw[if_pos (by omega)];refine⟨_,rfl,s,C++[x],_,by rw[QH];rfl,base s le (by omega) (fun y=>?_) (fun j b' hj hb'=>?_) (by omega)⟩
     ·rw[gA hq]
      grind
     ·have:=(Qx.mp hb').1
      omega
   by_cases c1:s<B.length
   ·have hb1:B[s]?=some B[s]:=Qp c1
    have zb1:=zb _ (Qj hb1);generalize B[s]=b at hb1 zb1;by_cases c2:b<x
    ·refine .inr ⟨?_,?_⟩
     ·symm
      rw[decide_eq_true (by omega)];symm;rw[ix s b hb1];symm;rw[jW zb1 zx (by omega),decide_eq_true c2];symm
     ·have len:=g.len
      symm;rw[ix s b hb1];symm;rw[if_pos (by omega)];symm;refine⟨_,rfl,⟨s+1,C++[b],by rw[QH];rfl,⟨zFe g.asc (g.below s b (Qh _) hb1),fun y=>?_,fun j b' hj hb' c hc=>?_,fun j a' hj ha' c hc=>?_,c1,by rw[Qk,XI];omega⟩⟩,?_⟩
      ·rw[QG,Qt,g.mem y,gA hb1]
       grind
      ·have:=zBI hb (show s<j by omega) hb1 hb'
       rcases QG.mp hc with hc | hc
       ·exact g.below j b' (by omega) hb' c hc
       ·rw[Qt.mp hc]
        exact this
      ·rcases QG.mp hc with hc | hc
       ·exact g.under j a' hj ha' c hc
       ·rw[Qt.mp hc]
        rcases VS hj with l | l
        ·have:=zBI ha l hq ha'
         grind
        ·subst l
         rw[hq] at ha';cases ha'
         exact c2
      ·show B.length-(s+1)<B.length-s
       exact Nat.sub_lt_sub_left c1 (Q6 s)
    ·refine .inl ⟨?_,?_⟩
     ·symm
      rw[decide_eq_true (by omega)];symm;rw[ix s b hb1];symm;rw[jW zb1 zx (by omega),decide_eq_false c2];symm
     ·exact fin1 fun _=>⟨b,hb1,c2⟩
   ·refine .inl ⟨?_,?_⟩
    ·symm
     rw[decide_eq_false (by omega)];symm
    ·exact fin1 fun h=>absurd h c1
 ·rintro ρ' ⟨s,C,a,rfl,g⟩
  have len:=g.len;have le:=g.le;rw[Qe] at g len;symm;rw[zFV (by omega),<-List.map_drop,if_pos (by rw[Qe,Vs];omega)];symm;refine⟨C++B.drop s,by rw[QH,Q4],?_,fun y=>?_,by rw[Qk,Vs];omega⟩
  ·refine Yf.mpr ⟨g.asc,hb.sublist (List.drop_sublist _ _),fun c hc b hb'=>?_⟩
   obtain⟨j,hj⟩:=VT.mp hb';rw[Yh] at hj;exact g.below (s+j) b (by omega) hj c hc
  ·rw[QG,g.mem y,Vg]
   constructor
   ·rintro ((h | h) | h)
    ·exact .inl h
    ·exact .inr (V9 h)
    ·exact .inr (YC h)
   ·rintro (h | h)
    ·exact .inl (.inl h)
    ·rw[<-Xx s B,QG] at h
     rcases h with h | h
     ·exact .inl (.inr h)
     ·exact .inr h
theorem zKW{ps:List Pt}{a b m:Nat}{y:Rat}{e:Pt}(hl:ps.length<=100000)(hs:∀ p∈ps,SzQ a b p)(hy:Sz m y)(hn:m+3*a+3*b+4<=8999)(hk:Ok ps)(he:ps.getLast?=some e)(h0:0<=y)(h1:y<=e.2):
  ∃ r:Rat,uM [.tup (ps.map dp),.int 1,dq y]=.ok (.v (dq r))/\zFr ps y r:=by
 have hpos:0<ps.length:=by cases ps with
  | nil=>cases he
  | cons a r=>exact VE _
 obtain⟨r,e1,k,q,hq,hj,h⟩:=zPj true hpos hl (n:=b) (l:=a) (fun p hp=>⟨(hs p hp).2,(hs p hp).1⟩) hy (by omega) hk.2 (fun p hp=>by rw[<-VB,hk.1] at hp;cases hp;exact h0) (fun p hp=>by rw[he] at hp;cases hp;exact h1)
 exact⟨r,e1,k,q,hq,hj,h⟩
theorem zKX{ps qs:List Pt}{e f:Pt}(a b c d n m z:Nat)(hp:Ok ps)(hq:Ok qs)(he:ps.getLast?=some e)(hf:qs.getLast?=some f)(hL:e.1=f.2)(lp:ps.length<=40000)(lq:qs.length<=40000)
  (zp:∀ p∈ps,SzQ a b p) (zq:∀ p∈qs,SzQ c d p) (n1:a+3*c+3*d+4<=8999) (cm:c<=m) (n2:m+3*c+3*d+4<=8999) (n3:n+3*a+3*b+4<=8999) (n4:2*m+2*z+2<=8999)
  (hb:∀ p∈ps,∀ r,zFr qs p.1 r->Sz m r) (hv:∀ y,(∃ q∈qs,y=q.2)∨(∃ p∈ps,y=p.1)->Sz n y/\Sz z (aQ ps y)):
  ∃ R:List Pt,gT [.tup (ps.map dp),.tup (qs.map dp)]=.ok (.v (.tup (R.map dp)))/\zMw R/\R.getLast?=some (f.1,e.2)/\R.length<=ps.length+qs.length/\(∀ x,0<=x->x<=f.1->aQ R x=aQ ps (aQ qs x))/\(∀ r∈R,SzQ m z r/\((∃ q∈qs,r.1=q.1)∨∃ p∈ps,zFr qs p.1 r.1)):=by
 have bp:∀ p∈ps,0<=p.1/\p.1<=f.2:=fun p h=>by have:=eA hp he h;exact⟨this.1,by rw[<-hL];exact this.2.1⟩
 have up:∀ p∈ps,∃ r,uM [.tup (qs.map dp),.int 1,dq p.1]=.ok (.v (dq r))/\zFr qs p.1 r:=fun p h=>zKW (by omega) zq (zp p h).1 n1 hq hf (bp p h).1 (bp p h).2
 obtain⟨bf,hbf⟩:∃ bf:Pt->Rat,∀ p∈ps,uM [.tup (qs.map dp),.int 1,dq p.1]=.ok (.v (dq (bf p)))/\zFr qs p.1 (bf p):=
  ⟨fun p=>if h:p∈ps then Classical.choose (up p h) else 0,fun p h=>by simp only[dif_pos h];exact Xv (up p h)⟩
 have hval:∀ p∈ps,aQ qs (bf p)=p.1/\0<=bf p/\bf p<=f.1:=fun p h=>(hbf p h).2.val hq hf
 have hasc:(ps.map bf).Pairwise (· < ·):=by
  refine VC.mpr (V3 ?_ hp.2)
  intro a b ha hb' hab;have h1:=hval a ha;have h2:=hval b hb';rcases (Q9:bf b<=bf a∨bf a<=bf b) with l | l
  ·have:=gQ hq hf h2.2.1 l h1.2.2
   have:=hab.1
   grind
  ·have:bf a≠bf b:=by
    intro z;have:=hab.1
    rw[<-h1.1,<-h2.1,z] at this;grind
   grind
 have zb:∀ x∈ps.map bf,Sz m x:=fun x hx=>by
  obtain⟨p,h,rfl⟩:=Qn.mp hx;exact hb p h _ (hbf p h).2
 have zx:∀ x∈qs.map Prod.fst,Sz m x:=fun x hx=>by
  obtain⟨p,h,rfl⟩:=Qn.mp hx;exact(zq p h).1.mono cm
 obtain⟨C,h1,h2,h3,h4⟩:=zFy (zDJ hq.2) hasc (by rw[Qe];omega) (by rw[Qe];omega) zx zb (by omega)
 rw[Qe,Qe] at h4;have zC:∀ t∈C,Sz m t:=fun t ht=>((h3 t).mp ht).elim (zx t) (zb t)
 have from':∀ t∈C,(∃ q∈qs,t=q.1)∨∃ p∈ps,t=bf p:=by
  intro t ht;rcases (h3 t).mp ht with h | h
  ·obtain⟨q,h5,rfl⟩:=Qn.mp h
   exact .inl ⟨q,h5,rfl⟩
  ·obtain⟨q,h5,rfl⟩:=Qn.mp h
   exact .inr ⟨q,h5,rfl⟩
 have J:Joints ps qs f C:=by
  refine⟨h2,fun q h=>(h3 _).mpr (.inl (Qn.mpr ⟨q,h,rfl⟩)),fun p h=>⟨bf p,(h3 _).mpr (.inr (Qn.mpr ⟨p,h,rfl⟩)),(hval p h).1⟩,fun t ht=>?_⟩
  rcases from' t ht with⟨q,h,rfl⟩ | ⟨p,h,rfl⟩
  ·have:=eA hq hf h
   exact⟨this.1,this.2.1⟩
  ·exact(hval p h).2
 have v2:∀ t∈C,(∃ q∈qs,aQ qs t=q.2)∨∃ p∈ps,aQ qs t=p.1:=by
  intro t ht;rcases from' t ht with⟨q,h,rfl⟩ | ⟨p,h,rfl⟩
  ·obtain⟨i,hi⟩:=VT.mp h
   exact .inl ⟨q,h,bN hq.2 hi⟩
  ·exact .inr ⟨p,h,(hval p h).1⟩
 have sz:∀ t∈C,Sz n (aQ qs t)/\Sz z (aQ ps (aQ qs t)):=fun t ht=>hv _ (v2 t ht)
 obtain⟨ok,la⟩:=zEG hp hq he hf hL J;refine⟨mG (rQ ps qs C),?_,lM ok,by rw[vQ ok.2];exact la,QE (nV ok.2).length_le (by unfold rQ;rw[Qe];omega),fun x h0 h1=>by rw[xV ok.2,zHN hp hq he hf hL J h0 h1],fun r hr=>?_⟩
 rotate_left
 ·obtain⟨t,ht,rfl⟩:=Qn.mp ((nV ok.2).subset hr)
  exact⟨⟨zC t ht,(sz t ht).2⟩,(from' t ht).imp id fun ⟨p,h,e⟩=>⟨p,h,e ▸ (hbf p h).2⟩⟩
 unfold gT;symm;rw[zFz he];symm;rw[zKx hf];symm;rw[hL];symm;rw[tT (by omega)];symm
 rw[Qv,fT (u:=dq ∘ Prod.fst) (g:=fun p=>dq (bf p)) (by omega) (fun p h=>by
  show aO uM _ [_,_,_,_,.val (dq p.1)]=_
  symm;rw[(hbf p h).1]
  symm)]
 symm;rw[tT (by omega)];symm;rw[show(ps.map fun p=>dq (bf p))=(ps.map bf).map dq by rw[Qv];rfl,h1];symm
 rw[fT (u:=dq) (g:=fun t=>dp (t,aQ ps (aQ qs t))) (by omega) (fun t ht=>by
  have b2:=sE hq hf (J.bd t ht).1 (J.bd t ht).2;symm;rw[zAv (by omega) zq (zC t ht) n2 hq hf (J.bd t ht).1 (J.bd t ht).2];symm;rw[zAv (by omega) zp (sz t ht).1 n3 hp he b2.1 (by rw[hL];exact b2.2)]
  symm)]
 symm;rw[show(C.map fun t=>dp (t,aQ ps (aQ qs t)))=(rQ ps qs C).map dp by unfold rQ;rw[Qv];rfl];rw[pM (n:=m) (m:=z) (.inl rfl) (by unfold rQ;rw[Qe];omega) ?_ n4 ok]
 ·symm
 ·intro p hp1
  obtain⟨t,ht,rfl⟩:=Qn.mp hp1;exact⟨zC t ht,(sz t ht).2⟩
def wys:List Str:=["row","back","even","lack","part","half"]
def wOK(w:Str)(ws:List Int)(m:Nat):Prop:=(w = "even" ∨ w = "lack")/\ws.length=m/\(∀ x∈ws,1<=x/\x<=10^6)∨¬ (w = "even" ∨ w = "lack")/\ws=[]
def IsC:Nat->D->Prop
 | 0,_=>False
 | n+1,d=>(∃ c:Int,d=.tup [.str "boat", .int c])∨∃(w:Str)(ws:List Int)(ks:List D),d=.tup [.str w,.tup (ws.map D.int),.tup ks]/\(w == "boat")=false/\0<ks.length/\ks.length<=100/\ws.length<=100/\(w∈wys/\wOK w ws ks.length)/\∀ k∈ks,IsC n k
def clm:Nat->D->List Int
 | 0,_=>[]
 | n+1,d=>match d with
  | .tup [_,.int c]=>[c]
  | .tup [_,_,.tup ks]=>ks.flatMap (clm n)
  | _=>[]
def dpt:Nat->D->Int
 | 0,_=>0
 | n+1,d=>match d with
  | .tup [_,_,.tup ks]=>1+mx0 (ks.map (dpt n))
  | _=>1
theorem nY{c:Int}:cB [.tup [.str "boat", .int c]]=.ok (.v (.bl true)):=by
 unfold cB;symm
theorem oB{w:Str}{a b:D}(h:(w == "boat")=false):cB [.tup [.str w,a,b]]=.ok (.v (.bl false)):=by
 unfold cB;symm;rw[h]
theorem zFR{c:Int}:bQ [.tup [.str "boat", .int c]]=.ok (.v (.tup [])):=by
 unfold bQ;symm;rw[nY];symm
theorem kZ{w:Str}{a b:D}(h:(w == "boat")=false):bQ [.tup [.str w,a,b]]=.ok (.v b):=by
 unfold bQ;symm;rw[oB h];symm
theorem zMf{ks:List D}{n i:Nat}:((ks.take i).flatMap (clm n)).length<=(ks.flatMap (clm n)).length:=by
 conv=>rhs;rw[<-Xx i ks,VH,Qk]
 exact Nat.le_add_right _ _
theorem zNR{ks:List D}{n:Nat}{k:D}(h:k∈ks):(clm n k).length<=(ks.flatMap (clm n)).length:=by
 obtain⟨a,b,rfl⟩:=List.append_of_mem h;rw[VH,Vy,Qk,Qk];omega
theorem iZ:∀(n:Nat)(d:D),IsC n d->(clm n d).length<=1000->cN n [d]=.ok (.f ((clm n d).map D.int))
 | 0,d,h,_=>h.elim
 | n+1,d,h,hl=>by
  show lK (cN n) [d]=_
  unfold lK;symm;rcases h with⟨c,rfl⟩ | ⟨w,ws,ks,rfl,hw,k0,k1,w1,hy,hk⟩
  ·rw[nY]
   symm;rfl
  ·rw[oB hw]
   symm;rw[kZ hw];symm;refine nD (Q:=fun r=>r.bind fin=.ok (.f ((ks.flatMap (clm n)).map D.int))) (fun i ρ=>∃ a,ρ=[.val (.tup [.str w,.tup (ws.map D.int),.tup ks]),.own (((ks.take i).flatMap (clm n)).map D.int),a]) ⟨_,rfl⟩ ?_ ?_
   ·rintro i e ρ he ⟨a,rfl⟩
    have hm:=Qj he;have hl':(ks.flatMap (clm n)).length<=1000:=hl;have l1:=zNR (n:=n) hm;have l2:=zMf (ks:=ks) (n:=n) (i:=i);symm;rw[iZ n e (hk e hm) (by omega)];symm;rw[if_pos (by omega)];refine⟨_,rfl,.val e,?_⟩
    rw[nX he,VH,QH];simp[List.flatMap]
   ·rintro ρ' ⟨a,rfl⟩
    symm;rw[Vg]
theorem zCF:∀(n:Nat)(d:D),IsC n d->jH n [d]=.ok (.v (.int (dpt n d)))
 | 0,d,h=>h.elim
 | n+1,d,h=>by
  show pS (jH n) [d]=_
  unfold pS;symm;rcases h with⟨c,rfl⟩ | ⟨w,ws,ks,rfl,hw,k0,k1,w1,hy,hk⟩
  ·rw[zFR]
   symm;rfl
  ·rw[kZ hw]
   symm
   have e:=fT (u:=fun k=>k) (g:=fun k=>.int (dpt n k)) (l:=ks) (f:=aO (jH n) (aD (aH 1) aNil)) (ρ:=[.val (.tup [.str w,.tup (ws.map D.int),.tup ks])]) (by omega) (fun k hm=>by
    symm;rw[zCF n k (hk k hm)]
    symm)
   rw[List.map_id'] at e;rw[e];symm;rw[zHZ];symm;rfl
def dOK:Nat->D->Prop
 | 0,_=>False
 | n+1,d=>(∃ i,d=.int i)∨(∃ x,d=.str x)∨∃ ds,d=.tup ds/\ds.length<=1000/\∀ e∈ds,dOK n e
theorem zLa:∀ {n m:Nat} {d:D},dOK n d->n<=m->dOK m d
 | 0,_,_,h,_=>h.elim
 | n+1,0,_,_,l=>absurd l (by omega)
 | n+1,m+1,d,h,l=>by
  rcases h with h | h | ⟨ds,rfl,hl,he⟩
  ·exact .inl h
  ·exact .inr (.inl h)
  ·exact .inr (.inr ⟨ds,rfl,hl,fun e h=>zLa (he e h) (by omega)⟩)
theorem zEg:∀(n:Nat)(d:D),IsC n d->dOK (2*n+1) d
 | 0,d,h=>h.elim
 | n+1,d,h=>by
  rcases h with⟨c,rfl⟩ | ⟨w,ws,ks,rfl,hw,k0,k1,w1,hy,hk⟩
  ·refine .inr (.inr ⟨_,rfl,by simp,fun e he=>?_⟩)
   rcases Qc.mp he with rfl | he
   ·exact .inr (.inl ⟨_,rfl⟩)
   ·rw[Qt.mp he];exact .inl ⟨_,rfl⟩
  ·refine .inr (.inr ⟨_,rfl,by simp,fun e he=>?_⟩)
   rcases Qc.mp he with rfl | he
   ·exact .inr (.inl ⟨_,rfl⟩)
   ·rcases Qc.mp he with rfl | he
    ·refine .inr (.inr ⟨_,rfl,by rw[Qe];omega,fun x hx=>?_⟩)
     obtain⟨i,_,rfl⟩:=Qn.mp hx;exact .inl ⟨_,rfl⟩
    ·rw[Qt.mp he]
     exact .inr (.inr ⟨_,rfl,by omega,fun x hx=>zEg n x (hk x hx)⟩)
theorem zAt:∀(n:Nat)(d:D),dOK n d->noL d=true
 | 0,d,h=>h.elim
 | n+1,d,h=>by
  rcases h with⟨i,rfl⟩ | ⟨x,rfl⟩ | ⟨ds,rfl,hl,he⟩
  ·simp[noL]
  ·simp[noL]
  ·rw[noL]
   clear hl
   induction ds with
   | nil=>rfl
   | cons a r ih=>rw[noLs,zAt n a (he a Qb),ih fun e h=>he e (Qd _ h)];rfl
theorem jT:∀ {n m:Nat} {d:D},IsC n d->n<=m->IsC m d
 | 0,_,_,h,_=>h.elim
 | n+1,0,_,_,l=>absurd l (by omega)
 | n+1,m+1,d,h,l=>by
  rcases h with h | ⟨w,ws,ks,rfl,hw,k0,k1,w1,hy,hk⟩
  ·exact .inl h
  ·exact .inr ⟨w,ws,ks,rfl,hw,k0,k1,w1,hy,fun k h=>jT (hk k h) (by omega)⟩
theorem iR:∀ {n m:Nat} {d:D},IsC n d->n<=m->clm m d=clm n d
 | 0,_,_,h,_=>h.elim
 | n+1,0,_,_,l=>absurd l (by omega)
 | n+1,m+1,d,h,l=>by
  rcases h with⟨c,rfl⟩ | ⟨w,ws,ks,rfl,hw,k0,k1,w1,hy,hk⟩
  ·rfl
  ·show ks.flatMap (clm m)=ks.flatMap (clm n)
   rw[Xy,Xy];congr 1
   exact Q8 fun k h=>iR (hk k h) (by omega)
theorem zEI:∀ {n m:Nat} {d:D},IsC n d->n<=m->dpt m d=dpt n d
 | 0,_,_,h,_=>h.elim
 | n+1,0,_,_,l=>absurd l (by omega)
 | n+1,m+1,d,h,l=>by
  rcases h with⟨c,rfl⟩ | ⟨w,ws,ks,rfl,hw,k0,k1,w1,hy,hk⟩
  ·rfl
  ·show 1+mx0 (ks.map (dpt m))=1+mx0 (ks.map (dpt n))
   rw[Q8 fun k h=>zEI (hk k h) (by omega)]
theorem zQG:∀ {l:List Int} {b:Int},0<=b->(∀ x∈l,x<=b)->mx0 l<=b
 | [],b,h,_=>h
 | a::r,b,_,h=>by
  have key:∀(r:List Int)(a:Int),a<=b->(∀ x∈r,x<=b)->zP a r<=b:=by
   intro r
   induction r with
   | nil=>intro a ha _;exact ha
   | cons c r ih=>
    intro a ha hr;rw[zP];refine ih _ ?_ fun x hx=>hr x (Qd _ hx)
    split
    ·exact hr c Qb
    ·exact ha
  exact key r a (h a Qb) fun x hx=>h x (Qd _ hx)
theorem zQJ:∀ {l:List Int} {x:Int},x∈l->x<=mx0 l
 | [],_,h=>by cases h
 | a::r,x,h=>by
  have key:∀(r:List Int)(a:Int),a<=zP a r/\∀ x∈r,x<=zP a r:=by
   intro r
   induction r with
   | nil=>intro a;exact⟨V5 _,fun x h=>by cases h⟩
   | cons c r ih=>
    intro a;rw[zP];have h1:=ih (if c > a then c else a);refine⟨Vp ?_ h1.1,fun x hx=>?_⟩
    ·split<;>omega
    ·rcases Qc.mp hx with rfl | hx
     ·refine Vp ?_ h1.1;split<;>omega
     ·exact h1.2 x hx
  rcases Qc.mp h with rfl | h
  ·exact(key r x).1
  ·exact(key r a).2 x h
theorem zId:∀ {n:Nat} {d:D},IsC n d->1<=dpt n d/\dpt n d<=n
 | 0,_,h=>h.elim
 | n+1,d,h=>by
  rcases h with⟨c,rfl⟩ | ⟨w,ws,ks,rfl,hw,k0,k1,w1,hy,hk⟩
  ·exact⟨by show(1:Int)<=1;omega,by show(1:Int)<=_;omega⟩
  ·have h1:mx0 (ks.map (dpt n))<=n:=zQG (by omega) fun x hx=>by
    obtain⟨k,hk',rfl⟩:=Qn.mp hx;exact(zId (hk k hk')).2
   have h2:0<=mx0 (ks.map (dpt n)):=by
    cases ks with
    | nil=>cases k0
    | cons k r=>exact Vp (by have:=(zId (hk k Qb)).1;omega) (zQJ (x:=dpt n k) (by simp))
   exact⟨by show 1<=1+mx0 (ks.map (dpt n));omega,by show 1+mx0 (ks.map (dpt n))<=((n+1:Nat):Int);omega⟩
theorem zIm{w:Str}(h:w∈wys):(aV.lookup w).isSome=true/\(w == "boat")=false:=by
 simp only[wys,Qc,Vi,or_false] at h;rcases h with rfl | rfl | rfl | rfl | rfl | rfl<;>decide
theorem zCf{w:Str}(h:w∈wys):bY [.str w]=.ok (.v .non):=by
 unfold bY;symm;rw[(zIm h).1];symm
theorem zRS{w:Str}:oIn (.str w) (.tup [.str "even", .str "lack"])=.ok (.bl (decide (w = "even" ∨ w = "lack"))):=by
 show(if depS [D.str "even", D.str "lack"]<=50 then Res.ok (D.bl (((Str.ofString "even")==w) || (((Str.ofString "lack")==w) || false))) else .no)=_
 rw[if_pos (by decide),Bool.or_false];congr 2
 by_cases h1:w = "even"
 ·subst h1;decide
 ·by_cases h2:w = "lack"
  ·subst h2;decide
  ·rw[decide_eq_false (fun h=>h.elim h1 h2),beq_eq_false_iff_ne.mpr (Ne.symm h1),beq_eq_false_iff_ne.mpr (Ne.symm h2)];rfl
theorem tO{w:Str}{ws:List Int}{m:Nat}{d:D}(hd:d=.lst (ws.map D.int)∨d=.tup (ws.map D.int))(h:wOK w ws m):bB [.str w,d,.int m]=.ok (.v .non):=by
 have sq:zLr d=.ok (ws.map D.int):=by rcases hd with rfl | rfl<;>rfl
 have ln:mC [d]=.ok (.int (ws.length:Int)):=by rcases hd with rfl | rfl<;>simp[bLen_l,bLen_t]
 have fine:∀ x∈ws,1<=x/\x<=10^6:=by
  rcases h with⟨_,_,h⟩ | ⟨_,rfl⟩
  ·exact h
  ·intro x hx;cases hx
 have rest:∀ a:Sl,(gD [.val (.str w),.val d,.val (.int m),a,.un]).bind fin=.ok (.v .non):=by
  intro a;symm;rw[sq];symm;refine zDX (Q:=fun r:Res Rt=>r=.ok (.v .non)) (fun ρ=>∃ b,ρ=[.val (.str w),.val d,.val (.int m),a,b]) ⟨_,rfl⟩ ?_ ?_
  ·rintro e ρ he ⟨b,rfl⟩
   obtain⟨x,hx,rfl⟩:=Qn.mp he;have hf:=fine x hx;symm;rw[decide_eq_false (by omega)];symm;rw[oPow_i (by decide)];symm;rw[decide_eq_false (by omega)];symm;exact⟨_,rfl,_,rfl⟩
  ·rintro ρ' ⟨b,rfl⟩
   rfl
 unfold bB;symm;rw[zRS];unfold jR;generalize (gD:Sv)=K at rest ⊢;rcases h with⟨hw,hl,_⟩ | ⟨hw,rfl⟩
 ·rw[decide_eq_true hw]
  symm;rw[ln];symm;rw[hl];symm;exact rest _
 ·rw[decide_eq_false hw]
  symm;rw[ln];symm;rw[show decide (((0:Nat):Int)=0)=true from rfl];symm;exact rest _
theorem zOS{c:Int}(h0:0<=c)(h1:c<=10^9):zCH [.int c]=.ok (.v (.tup [.str "boat", .int c])):=by
 unfold zCH;symm;rw[decide_eq_false (by omega)];symm;rw[decide_eq_false (by omega)];symm
theorem zQy{w:Str}{ws:List Int}{ks:List D}{n:Nat}{wd:D}(hd:wd=.lst (ws.map D.int)∨wd=.tup (ws.map D.int))(hw:w∈wys)(hs:wOK w ws ks.length)(l1:ws.length<=100)(k0:0<ks.length)(k1:ks.length<=100)(hn:n<=7)(hk:∀ k∈ks,IsC n k)(hc:(ks.flatMap (clm n)).length<=12):
  yI [.str w,wd,.lst ks]=.ok (.v (.tup [.str w,.tup (ws.map D.int),.tup ks]))/\IsC (n+1) (.tup [.str w,.tup (ws.map D.int),.tup ks]):=by
 have bt:zKK [wd]=.ok (.tup (ws.map D.int)):=by rcases hd with rfl | rfl<;>rfl
 have ic:IsC (n+1) (.tup [.str w,.tup (ws.map D.int),.tup ks]):=.inr ⟨w,ws,ks,rfl,(zIm hw).2,k0,k1,l1,⟨hw,hs⟩,hk⟩;have ic':=jT ic (show n+1<=10 by omega)
 have ec:=iR ic (show n+1<=10 by omega)
 have lc:(clm 10 (.tup [.str w,.tup (ws.map D.int),.tup ks])).length<=12:=by rw[ec];exact hc
 have dd:dpt 10 (.tup [.str w,.tup (ws.map D.int),.tup ks])<=8:=by
  rw[zEI ic (show n+1<=10 by omega)];have:=(zId ic).2
  omega
 refine⟨?_,ic⟩
 unfold yI;symm;rw[zCf hw];symm;rw[tO hd hs];symm;rw[bt];symm;rw[decide_eq_false (by omega)];symm;rw[iZ 10 _ ic' (by omega)];symm;rw[decide_eq_false (by omega)];symm;rw[zCF 10 _ ic'];symm;rw[decide_eq_false (by omega)];symm
structure Pl (L:List (D×Int)) (boats:Int):Prop where
 each:∀ p∈L,1<=p.2/\p.2<=7/\IsC p.2.toNat p.1
 few:((L.flatMap fun p=>clm 7 p.1).length:Int)<=boats
 most:boats<=12
 rng:∀ c∈(L.flatMap fun p=>clm 7 p.1),0<=c/\c<=10^9
theorem zCV:∀ {l:List D},(∀ d∈l,noL d=true)->noLs l=true
 | [],_=>rfl
 | a::r,h=>by rw[noLs,h a Qb,zCV fun d hd=>h d (Qd _ hd)];rfl
theorem zLS:∀ {n:Nat} {d:D},dOK n d->dep d<=n
 | 0,_,h=>h.elim
 | n+1,d,h=>by
  rcases h with⟨i,rfl⟩ | ⟨x,rfl⟩ | ⟨ds,rfl,hl,he⟩
  ·simp[dep]
  ·simp[dep]
  ·rw[dep]
   clear hl
   have:depS ds<=n:=by
    induction ds with
    | nil=>simp[depS]
    | cons a r ih=>
     rw[depS];exact Xm.mpr ⟨zLS (he a Qb),ih fun e h=>he e (Qd _ h)⟩
   omega
theorem zMG{n:Nat}:∀ {ds:List D},(∀ d∈ds,dOK n d)->depS ds<=n
 | [],_=>by simp[depS]
 | a::r,h=>by rw[depS];exact Xm.mpr ⟨zLS (h a Qb),zMG fun e he=>h e (Qd _ he)⟩
theorem zLm{w:Str}(h:w∈wys):∃ v:Wy,v.s=w:=by
 unfold wys at h;rcases Qc.mp h with rfl | h
 ·exact⟨.row,rfl⟩
 rcases Qc.mp h with rfl | h
 ·exact⟨.back,rfl⟩
 rcases Qc.mp h with rfl | h
 ·exact⟨.even,rfl⟩
 rcases Qc.mp h with rfl | h
 ·exact⟨.lack,rfl⟩
 rcases Qc.mp h with rfl | h
 ·exact⟨.part,rfl⟩
 ·rw[Qt.mp h];exact⟨.half,rfl⟩
theorem zIz{v:Wy}{ws cs:List Int}(h:wOK v.s ws cs.length):v.due ws cs:=by
 have k:¬ (v.s = "even" ∨ v.s = "lack")->ws=[]:=fun hn=>by
  rcases h with⟨a,_⟩ | ⟨_,b⟩
  ·exact absurd a hn
  ·exact b
 have k2:(v.s = "even" ∨ v.s = "lack")->Wt ws cs:=fun hy=>by
  rcases h with⟨_,b,c⟩ | ⟨a,_⟩
  ·exact⟨b,fun x hx=>(c x hx).1,fun x hx=>(c x hx).2⟩
  ·exact absurd hy a
 cases v with
 | even=>exact k2 (.inl rfl)
 | lack=>exact k2 (.inr rfl)
 | row=>exact k (by decide)
 | back=>exact k (by decide)
 | part=>exact k (by decide)
 | half=>exact k (by decide)
def Gc(n:Nat)(d:D):Prop:=IsC n d/\(clm n d).length<=12/\∀ c∈clm n d,0<=c/\c<=10^9
theorem zLL:∀ {l:List Int},(∀ c∈l,0<=c/\c<=10^9)->0<=l.sum/\l.sum<=l.length*10^9
 | [],_=>by decide
 | c::r,h=>by
  have ih:=zLL fun x hx=>h x (Qd _ hx)
  have a:=h c Qb;rw[QB,Qm];have:((r.length+1:Nat):Int)*10^9=(r.length:Int)*10^9+10^9:=by rw[V6,V7];rfl
  omega
theorem Gc.sum{n:Nat}{d:D}(h:Gc n d):0<=(clm n d).sum/\(clm n d).sum<=12*10^9:=by
 have:=zLL h.2.2
 have:=h.2.1
 omega
theorem zCu{n:Nat}:∀ ks:List D,(ks.map fun k=>(clm n k).sum).sum=(ks.flatMap (clm n)).sum
 | []=>rfl
 | k::r=>by rw[Qq,QB,zCu r,Vy,Vx]
theorem zIZ:∀ {n:Nat} {d:D},IsC n d->1<=(clm n d).length
 | 0,_,h=>h.elim
 | n+1,d,h=>by
  rcases h with⟨c,rfl⟩ | ⟨w,ws,ks,rfl,hw,k0,k1,w1,hy,hk⟩
  ·exact Qh 1
  ·cases ks with
   | nil=>simp at k0
   | cons k r=>
    have:=zIZ (hk k Qb)
    show 1<=((k::r).flatMap (clm n)).length
    rw[Vy,Qk];omega
theorem zBy{n:Nat}:∀ {ks:List D},(∀ k∈ks,IsC n k)->ks.length<=(ks.flatMap (clm n)).length
 | [],_=>QP _
 | k::r,h=>by
  have a:=zIZ (h k Qb);have b:=zBy fun x hx=>h x (Qd _ hx)
  rw[Qm,Vy,Qk];omega
theorem zPr{n:Nat}{ks:List D}{k:D}(hk:k∈ks){c:Int}(hc:c∈clm n k):c∈ks.flatMap (clm n):=List.mem_flatMap.mpr ⟨k,hk,hc⟩
theorem Gc.kid{n:Nat}{w:D}{a ks:List D}(h:Gc (n+1) (.tup [w,.tup a,.tup ks]))(hi:∀ k∈ks,IsC n k){k:D}(hk:k∈ks):Gc n k:=
 ⟨hi k hk,QE (zNR hk) h.2.1,fun c hc=>h.2.2 c (zPr hk hc)⟩
def kcl(n:Nat)(ks:List D):List Int:=ks.map fun k=>(clm n k).sum
theorem iH(n:Nat)(ks:List D):(kcl n ks).length=ks.length:=Qe ..
theorem Gc.cl{n:Nat}{w:D}{a ks:List D}(h:Gc (n+1) (.tup [w,.tup a,.tup ks]))(hi:∀ k∈ks,IsC n k)(h0:0<ks.length):Cl (kcl n ks):=by
 have b:∀ c∈kcl n ks,0<=c/\c<=12*10^9:=fun c hc=>by
  obtain⟨k,hk,rfl⟩:=Qn.mp hc;exact(h.kid hi hk).sum
 have l:(ks.flatMap (clm n)).length<=12:=h.2.1;have:=zBy hi
 exact⟨fun c hc=>(b c hc).1,fun c hc=>by have:=(b c hc).2;omega,by rw[iH];omega,by rw[iH];omega⟩
def ShL(P:D->Rat->List Rat->Prop):List D->(Nat->Rat)->Nat->List Rat->Prop
 | [],_,_,xs=>xs=[]
 | k::ks,f,i,xs=>∃ a b,xs=a++b/\P k (f i) a/\ShL P ks f (i+1) b
def Sh:Nat->D->Rat->List Rat->Prop
 | 0,_,_,_=>False
 | n+1,d,q,xs=>(∃ c:Int,d=.tup [.str "boat", .int c]/\xs=[q])∨∃(v:Wy)(ws:List Int)(ks:List D)(f:Nat->Rat),d=.tup [.str v.s,.tup (ws.map D.int),.tup ks]/\v.due ws (kcl n ks)/\Al 3000 ws (kcl n ks) q f v/\ShL (Sh n) ks f 0 xs
theorem zIx{P:D->Rat->List Rat->Prop}{n:Nat}{f:Nat->Rat}:∀ {ks:List D} {i:Nat} {xs:List Rat},(∀ k∈ks,∀ q xs,P k q xs->xs.length=(clm n k).length)->ShL P ks f i xs->xs.length=(ks.flatMap (clm n)).length
 | [],i,xs,_,h=>by rw[show xs=[] from h];rfl
 | k::r,i,xs,hp,h=>by
  obtain⟨a,b,rfl,ha,hb⟩:=h;rw[Qk,hp k Qb _ _ ha,zIx (fun x hx=>hp x (Qd _ hx)) hb,Vy,Qk]
theorem zMk:∀ {n:Nat} {d:D} {q:Rat} {xs:List Rat},Sh n d q xs->xs.length=(clm n d).length
 | 0,_,_,_,h=>h.elim
 | n+1,d,q,xs,h=>by
  rcases h with⟨c,rfl,rfl⟩ | ⟨v,ws,ks,f,rfl,hd,al,hs⟩
  ·rfl
  ·exact zIx (fun k _ q xs h=>zMk h) hs
theorem zEh{a:D}{l:List D}:iQ [.tup (a::l)]=.ok (.v a):=by
 unfold iQ;symm
theorem sP{a b:D}{l:List D}:cW [.tup (a::b::l)]=.ok (.v b):=by
 unfold cW;symm
theorem qZ{n:Nat}{d:D}(h:IsC n d)(hn:n<=10)(hl:(clm n d).length<=1000):dP [d]=.ok (.v (.int (clm n d).sum)):=by
 have e:=iR h hn;unfold dP;symm;rw[iZ 10 d (jT h hn) (by rw[e];exact hl)];symm;rw[e]
theorem sG{n:Nat}{w:Str}{a:D}{ks:List D}(hw:(w == "boat")=false)(hi:∀ k∈ks,IsC n k)(hn:n<=10)(hl:(ks.flatMap (clm n)).length<=1000):cV [.tup [.str w,a,.tup ks]]=.ok (.f ((kcl n ks).map D.int)):=by
 unfold cV;symm;rw[kZ hw];symm
 rw[zBs (h:=fun k=>D.int (clm n k).sum) (by have:=zBy hi;omega) (fun k hk=>by
  symm;rw[qZ (hi k hk) hn (QE (zNR hk) hl)]
  symm)]
 symm;unfold kcl;rw[Qv];rfl
theorem zLO(cs:List Int):Sq (.lst (cs.map D.int)) cs:=.inl rfl
theorem xW:∀(n N m:Nat)(d:D)(q:Rat),Gc n d->n<=N->n<=9->0<=q->q<=((clm n d).sum:Rat)->(q.den:Int)<2^m->m+34*n<=2000->∃ xs,fN N [d,dq q]=.ok (.f (xs.map dq))/\Sh n d q xs
 | 0,_,_,_,_,h,_,_,_,_,_,_=>h.1.elim
 | n+1,0,_,_,_,_,hN,_,_,_,_,_=>by omega
 | n+1,N+1,m,d,q,g,hN,hn,q0,q1,qd,hm=>by
  rcases g.1 with⟨c,rfl⟩ | ⟨w,ws,ks,rfl,hw,k0,k1,w1,hy,hk⟩
  ·refine⟨[q],?_,.inl ⟨c,rfl,rfl⟩⟩
   show iV (fN N) _=_
   unfold iV;symm;rw[nY];symm
  ·obtain⟨v,rfl⟩:=zLm hy.1
   have cl:=g.cl hk k0;have l12:(ks.flatMap (clm n)).length<=12:=g.2.1;have hs:(kcl n ks).sum=(clm (n+1) (.tup [.str v.s,.tup (ws.map D.int),.tup ks])).sum:=zCu ks;have gs:=g.sum;have due:v.due ws (kcl n ks):=zIz (by rw[iH];exact hy.2)
   have sq:Sz (34+m) q:=(Dn.den q).sz (eZ q) qd q0 q1 (by omega)
   have hl:Haul (34+m) q (kcl n ks).sum:=⟨q0,by rw[hs];exact q1,sq⟩
   obtain⟨f,ef,af⟩:=zNZ (wd:=.tup (ws.map D.int)) (.inr rfl) (zLO (kcl n ks)) (by omega) due cl hl
   have df:=zNk due cl hl af;have hS:(kcl n ks).sum<2^34:=by rw[hs];omega
   obtain⟨E,e0,e1,e2⟩:=zPl due cl hS af (Dn.den q)
   have dk:∀ i,i<ks.length->((f i).den:Int)<2^(m+34):=fun i hi=>by
    have a:=(e2 i (by rw[iH];exact hi)).le (Xj (eZ q) e0)
    have b:(q.den:Int)*E<2^m*2^34:=Int.mul_lt_mul qd (VO e1) e0 (VO (Xe (by decide)))
    rw[Yi];omega
   have loopOk:∀(js:List D)(i:Nat)(acc:List Rat)(s t:Sl),(∀ k∈js,k∈ks)->i+js.length=ks.length->ks.drop i=js->acc.length+(js.flatMap (clm n)).length<=12->∃ xs s' t',ShL (Sh n) js f i xs/\
     loop (zGH (mM (gName 4) (mM (gName 5) zGF))) (sD (fN N)) (kO js ((List.range' i js.length).map fun j=>dq (f j))) [.val (.tup [.str v.s,.tup (ws.map D.int),.tup ks]),.val (dq q),.val (.lst (((List.range (kcl n ks).length).map f).map dq)),.own (acc.map dq),s,t]=
      .ok (.nx [.val (.tup [.str v.s,.tup (ws.map D.int),.tup ks]),.val (dq q),.val (.lst (((List.range (kcl n ks).length).map f).map dq)),.own ((acc++xs).map dq),s',t']):=by
    intro js
    induction js with
    | nil=>intro i acc s t _ _ _ _;exact⟨[],s,t,rfl,by rw[QW];rfl⟩
    | cons k r ih=>
     intro i acc s t hm' hl' hd' ha;have hik:i<ks.length:=by rw[Qm] at hl';omega
     have ik:k∈ks:=hm' k Qb;have gk:=g.kid hk ik;have fk:=df.bd i (by rw[iH];exact hik)
     have ck:cR (kcl n ks) i=((clm n k).sum:Rat):=by
      unfold cR kcl
      have:ks[i]?=some k:=by
       have:=Yh (xs:=ks) (i:=i) (j:=0)
       rw[hd'] at this;simpa using this.symm
      rw[Qw,Qu,this];rfl
     obtain⟨xs,ex,sx⟩:=xW n N (m+34) k (f i) gk (by omega) (by omega) fk.1 (by rw[<-ck];exact fk.2.1) (dk i hik) (by omega)
     have lx:=zMk sx;rw[Vy,Qk] at ha;obtain⟨ys,s',t',sy,ey⟩:=ih (i+1) (acc++xs) (.val k) (.val (dq (f i))) (fun x hx=>hm' x (Qd _ hx)) (by rw[Qm] at hl';omega) (by rw[<-List.drop_drop,hd'];rfl) (by rw[Qk];omega)
     refine⟨xs++ys,s',t',⟨xs,ys,rfl,sx,sy⟩,?_⟩
     rw[Qm,Yj,Qq,show kO (k::r) (dq (f i)::(List.range' (i+1) r.length).map fun j=>dq (f j))=.tup [k,dq (f i)]::kO r ((List.range' (i+1) r.length).map fun j=>dq (f j)) from rfl]
     rw[eH (ρ1:=[.val (.tup [.str v.s,.tup (ws.map D.int),.tup ks]),.val (dq q),.val (.lst (((List.range (kcl n ks).length).map f).map dq)),.own (acc.map dq),.val k,.val (dq (f i))]) (ρ2:=[.val (.tup [.str v.s,.tup (ws.map D.int),.tup ks]),.val (dq q),.val (.lst (((List.range (kcl n ks).length).map f).map dq)),.own ((acc++xs).map dq),.val k,.val (dq (f i))]) (by symm) (by
      symm;rw[ex];symm
      rw[if_pos (by omega),QH]),ey,Vd]
   obtain⟨xs,s',t',sx,ex⟩:=loopOk ks 0 [] .un .un (fun k h=>h) (by omega) rfl (by rw[Xg];omega)
   refine⟨xs,?_,.inr ⟨v,ws,ks,f,rfl,due,af.mono (by omega),sx⟩⟩
   show iV (fN N) _=_
   unfold iV;symm;rw[oB hw];symm;rw[zEh];symm;rw[sP];symm;rw[sG hw hk (by omega) (by omega)];symm;rw[ef];symm;rw[kZ hw];symm;rw[oY rfl rfl,show((List.range (kcl n ks).length).map f).map dq=(List.range' 0 ks.length).map fun j=>dq (f j) by rw[Qv,iH,Xz];rfl];symm;rw[show((List.range (kcl n ks).length).map f).map dq=(List.range' 0 ks.length).map fun j=>dq (f j) by rw[Qv,iH,Xz];rfl] at ex;rw[Vl] at ex;rw[ex];rfl
theorem zKj{n m:Nat}{d:D}{q:Rat}(g:Gc n d)(hn:n<=9)(q0:0<=q)(q1:q<=((clm n d).sum:Rat))(qd:(q.den:Int)<2^m)(hm:m+34*n<=2000):∃ xs,iL [d,dq q]=.ok (.f (xs.map dq))/\Sh n d q xs:=by
 have gs:=g.sum;obtain⟨xs,ex,sx⟩:=xW n 10 m d q g (by omega) hn q0 q1 qd hm
 refine⟨xs,?_,sx⟩
 have sq:Sz (34+m) q:=(Dn.den q).sz (eZ q) qd q0 q1 (by omega)
 unfold iL;symm;rw[qZ g.1 (by omega) (by have:=g.2.1;omega)];symm;rw[bU];symm;rw[lX (by omega) ⟨q0,q1,sq⟩ (by omega)];symm;rw[ex];symm
theorem zIL{t b:Int}{n:Nat}(hb:0<b)(hn:b.natAbs<2^n)(h:n<=8999):eR [.int t,.int b]=.ok (.v (dq (Rat.divInt t b))):=by
 have hb0:b≠0:=by omega
 have hd:mJ (dv t b)=true:=tX (zNB hb0) (Vu (zQp hb0) hn) h;have e:(Int.gcd t b:Int)=dv t b:=by unfold dv;rw[if_neg (by omega)]
 unfold eR;symm
 refine zFw (fun ρ=>∃(x y:Int)(r:Sl),ρ=[.val (.int t),.val (.int b),.val (.int x),.val (.int y),r]/\0<=x/\0<=y/\Int.gcd x y=Int.gcd t b) (fun ρ=>(slI 3 ρ).toNat)
  (fun r=>(r.bind (zGA lZ)).bind fin=.ok (.v (dq (Rat.divInt t b)))) ⟨_,_,_,rfl,by omega,by omega,by simp[Int.gcd]⟩ ?_
 rintro ρ ⟨x,y,r,rfl,hx,hy,hg⟩
 by_cases c:y=0
 ·subst c
  have e2:x=dv t b:=by
   rw[Int.gcd_zero_right] at hg;omega
  subst e2;refine .inl ⟨rfl,?_⟩
  symm;rw[decide_eq_false (zNB hb0)];symm;rw[oDiv_i hd];symm;rw[oDiv_i hd];symm;rw[zBm hb0,zBc hb0];rfl
 ·have hp:0<y:=by omega
  refine .inr ⟨?_,[.val (.int t),.val (.int b),.val (.int y),.val (.int (x % y)),.val (.int (x % y))],?_,⟨y,x % y,_,rfl,hy,QK _ c,(zEO hx hp).trans hg⟩,?_⟩
  ·symm
   rw[decide_eq_true hp]
  ·symm
   rw[oMod_i c,fmod_pos _ hp];symm
  ·have:=Q2 x hp
   show(x % y).toNat<y.toNat
   omega
theorem zRD{v v':Wy}(h:v.s=v'.s):v=v':=by cases v<;>cases v'<;>first | rfl | exact absurd h (by decide)
open Classical in
def wyS(w:Str):Wy:=if h:∃ v:Wy,v.s=w then Classical.choose h else .row
theorem zRQ(v:Wy):wyS v.s=v:=by
 have h:∃ u:Wy,u.s=v.s:=⟨v,rfl⟩;unfold wyS;rw[dif_pos h];exact zRD (Xv h)
def zRh(l:List D):List Int:=l.map fun d=>match d with | .int i=>i | _=>0
theorem zLd(ws:List Int):zRh (ws.map D.int)=ws:=by
 unfold zRh;rw[Qv];exact List.map_id _
def SFL(g:D->Rat->List Rat)(f:Nat->Rat):List D->Nat->List Rat
 | [],_=>[]
 | k::ks,i=>g k (f i)++SFL g f ks (i+1)
def SF:Nat->D->Rat->List Rat
 | 0,_,_=>[]
 | n+1,d,q=>match d with
  | .tup [.str w,.tup a,.tup ks]=>SFL (SF n) (FF (wyS w) (zRh a) (kcl n ks) q) ks 0
  | _=>[q]
theorem zAo(n:Nat)(v:Wy)(ws:List Int)(ks:List D)(q:Rat):SF (n+1) (.tup [.str v.s,.tup (ws.map D.int),.tup ks]) q=SFL (SF n) (FF v ws (kcl n ks) q) ks 0:=by
 show SFL (SF n) (FF (wyS v.s) (zRh (ws.map D.int)) (kcl n ks) q) ks 0=_
 rw[zRQ,zLd]
theorem zHe(g:D->Rat->List Rat)(f:Nat->Rat):∀(a b:List D)(i:Nat),SFL g f (a++b) i=SFL g f a i++SFL g f b (i+a.length)
 | [],b,i=>rfl
 | k::a,b,i=>by
  show g k (f i)++SFL g f (a++b) (i+1)=(g k (f i)++SFL g f a (i+1))++_
  rw[zHe g f a b (i+1),Vd,Qm,show i+1+a.length=i+(a.length+1) by omega]
theorem zDD{n:Nat}{f:Nat->Rat}:∀ {ks:List D} {i:Nat},(∀ k∈ks,∀ q,(SF n k q).length=(clm n k).length)->(SFL (SF n) f ks i).length=(ks.flatMap (clm n)).length
 | [],i,_=>rfl
 | k::r,i,h=>by
  show(SF n k (f i)++SFL (SF n) f r (i+1)).length=_
  rw[Qk,h k Qb,zDD fun x hx=>h x (Qd _ hx),Vy,Qk]
theorem yC:∀ {n:Nat} {d:D},IsC n d->∀ q:Rat,(SF n d q).length=(clm n d).length
 | 0,_,h,_=>h.elim
 | n+1,d,h,q=>by
  rcases h with⟨c,rfl⟩ | ⟨w,ws,ks,rfl,hw,k0,k1,w1,hy,hk⟩
  ·rfl
  ·obtain⟨v,rfl⟩:=zLm hy.1
   rw[zAo];exact zDD fun k hm q=>yC (hk k hm) q
theorem zHn{n:Nat}{ks:List D}{j:Nat}{k:D}(h:ks[j]?=some k):j<(kcl n ks).length/\cR (kcl n ks) j=((clm n k).sum:Rat):=by
 have hj:=(Qx.mp h).1;refine⟨by rw[iH];exact hj,?_⟩
 unfold cR kcl;rw[Qw,Qu,h];rfl
theorem zLW{P:D->Rat->List Rat->Prop}{n:Nat}{f g:Nat->Rat}:∀ {ks:List D} {i:Nat} {xs:List Rat},(∀ k∈ks,∀ q xs,P k q xs->0<=q->q<=((clm n k).sum:Rat)->xs=SF n k q)->(∀ j k,ks[j]?=some k->f (i+j)=g (i+j)/\0<=f (i+j)/\f (i+j)<=((clm n k).sum:Rat))->ShL P ks f i xs->xs=SFL (SF n) g ks i
 | [],i,xs,_,_,h=>h
 | k::r,i,xs,hp,hf,h=>by
  obtain⟨a,b,rfl,ha,hb⟩:=h;have f0:=hf 0 k rfl;rw[Yk] at f0
  rw[hp k Qb _ _ ha f0.2.1 f0.2.2,zLW (fun x hx=>hp x (Qd _ hx)) (fun j k' hj=>by
   have:=hf (j+1) k' (by simpa using hj)
   rw[show i+1+j=i+(j+1) by omega];exact this) hb,f0.1]
  rfl
theorem zPF:∀ {n:Nat} {d:D} {q:Rat} {xs:List Rat},Gc n d->Sh n d q xs->0<=q->q<=((clm n d).sum:Rat)->xs=SF n d q
 | 0,_,_,_,g,_,_,_=>g.1.elim
 | n+1,d,q,xs,g,h,q0,q1=>by
  rcases h with⟨c,rfl,rfl⟩ | ⟨v,ws,ks,f,rfl,hd,al,hs⟩
  ·rfl
  ·rcases g.1 with⟨c,e⟩ | ⟨w,ws',ks',e,hw,k0,k1,w1,hy,hk⟩
   ·simp at e
   simp only[D.tup.injEq,List.cons.injEq,and_true] at e;obtain⟨e1,e2,rfl⟩:=e;have cl:=g.cl hk k0;have se:(kcl n ks).sum=(clm (n+1) (.tup [.str v.s,.tup (ws.map D.int),.tup ks])).sum:=zCu ks;have q1':q<=((kcl n ks).sum:Rat):=by rw[se];exact q1
   obtain⟨b1,b2⟩:=zPf hd cl q0 q1' al;rw[zAo];refine zLW (P:=Sh n) (fun k hm q xs h1 h2 h3=>zPF (g.kid hk hm) h1 h2 h3) (fun j k hj=>?_) hs
   obtain⟨j1,j2⟩:=zHn (n:=n) hj;rw[Vm,<-j2];exact⟨zBl hd cl q0 q1' al j1,b1 j j1⟩
theorem zPo{ws cs:List Int}(h:Wt ws cs){t y:Rat}{i:Nat}(hi:i<cs.length)(e:cR ws i*t=y){B:Int}(hB:Dn B y):Dn (B*ws.getD i 0) (QQ ws cs t):=by
 obtain⟨F,W,e1,w0,w1,w2⟩:=uT (c:=cR cs) (w:=cR ws) (ci:=fun i=>cs.getD i 0) (wi:=fun i=>ws.getD i 0) (t:=t) (fun _=>rfl) (fun _=>rfl) (List.range cs.length) (fun j hj=>h.at (Qi.mp hj))
 obtain⟨k,hk⟩:=hB;refine⟨W*k+F*(B*ws.getD i 0),?_⟩
 have q:QQ ws cs t=(W:Rat)*t+(F:Rat):=e1;rw[q,QS,QF,QF,QF,<-hk,<-e];unfold cR;grind
theorem zHi{cs:List Int}(hc:Cl cs){q y:Rat}(q0:0<=q)(q1:q<=(cs.sum:Rat)){i:Nat}(hi:i<cs.length)(e:FF .row [] cs q i=y)(y0:0<y)(y1:y<cR cs i){B:Int}(hB:Dn B y):Dn B q:=by
 rw[<-zBl (M:=0) (w:=.row) (ws:=[]) (f:=zET cs q) rfl hc q0 q1 (fun i _=>rfl) hi] at e;have f:zET cs q i=mn (ps0 (q-((0+(cs.take i).sum:Int):Rat))) (cR cs i):=zAn cs 0 q i hi;rw[f] at e
 have:q=y+((0+(cs.take i).sum:Int):Rat):=by
  unfold mn ps0 at e;grind
 rw[this];exact hB.add (Dn.int B _)
theorem zNr{ws cs:List Int}(h:Wt ws cs)(hc:Cl cs){t:Rat}(t0:0<=t)(q1:QQ ws cs t<=(cs.sum:Rat))(q0:0<=QQ ws cs t){i:Nat}(hi:i<cs.length):FF .even ws cs (QQ ws cs t) i=dR (cR cs) (cR ws) t i:=by
 obtain⟨M,hM⟩:=zHF cs.length (dR (cR cs) (cR ws) t);exact(zBl (M:=M) (w:=.even) h hc q0 q1 ⟨t,⟨t0,rfl,hM⟩,fun _ _=>rfl⟩ hi).symm
theorem zEj{ws cs:List Int}(h:Wt ws cs)(hc:Cl cs){q:Rat}(q0:0<=q)(q1:q<=(cs.sum:Rat)):∃ t,0<=t/\QQ ws cs t=q/\∀ i,i<cs.length->FF .even ws cs q i=dR (cR cs) (cR ws) t i:=by
 obtain⟨M,t,tl,e⟩:=xT (w:=.even) h hc q0 q1;exact⟨t,tl.nn,tl.sum,e⟩
theorem zAY{ws cs:List Int}(h:Wt ws cs)(hc:Cl cs){q y:Rat}(q0:0<=q)(q1:q<=(cs.sum:Rat)){i:Nat}(hi:i<cs.length)(e:FF .even ws cs q i=y)(y1:y<cR cs i){B:Int}(hB:Dn B y):Dn (B*ws.getD i 0) q:=by
 obtain⟨t,t0,tq,ef⟩:=zEj h hc q0 q1;rw[ef i hi] at e;rw[<-tq];refine zPo h hi ?_ hB
 unfold dR mn at e;grind
theorem vV(q:Rat):(q+q)*hf=q:=by rw[jI];grind
theorem zDE{cs:List Int}{i:Nat}(hi:i<cs.length):(ones cs).getD i 0=1:=by
 unfold ones;rw[Qw,Xl,if_pos hi];rfl
theorem zIa{cs:List Int}(hc:Cl cs){q y:Rat}(q0:0<=q)(q1:q+q<=(cs.sum:Rat)){i:Nat}(hi:i<cs.length)(e:FF .half [] cs q i=y)(y1:y+y<cR cs i){B:Int}(hB:Dn B y):Dn (B*2) q:=by
 rw[wC hc q0 q1 hi] at e
 have e':FF .even (ones cs) cs (q+q) i=y+y:=by
  have:=vV (FF .even (ones cs) cs (q+q) i)
  rw[<-e];grind
 have d:=zAY (fF cs) hc (by grind) q1 hi e' y1 (hB.add hB)
 rw[zDE hi,QV] at d;have:=zIw d
 rw[vV] at this;exact this
theorem zLQ{cs:List Int}(hc:Cl cs){i:Nat}(hi:i<cs.length):cs.getD i 0<=cs.sum:=by
 have t:=zAb hc.nn hi (Qh _);rw[Vg] at t
 have:0<=(cs.take i).sum:=by
  have:∀ l:List Int,(∀ c∈l,0<=c)->0<=l.sum:=by
   intro l
   induction l with
   | nil=>intro _;decide
   | cons a l ih=>intro hl;rw[QB];have:=hl a Qb;have:=ih fun x hx=>hl x (Qd _ hx);omega
  exact this _ fun x hx=>hc.nn x (V9 hx)
 have:=t.1
 omega
theorem zQW{w:Wy}{ws cs:List Int}(hw:w.due ws cs)(hc:Cl cs)(hS:cs.sum<2^34){q y:Rat}(q0:0<=q)(q1:q<=(cs.sum:Rat)){i:Nat}(hi:i<cs.length)(e:FF w ws cs q i=y)(y0:0<y)(y1:y<cR cs i)(least:∀ t,0<=t->t<q->FF w ws cs t i<y){B:Int}(hB:Dn B y):∃ E:Int,0<E/\E<=2^34/\Dn (B*E) q:=by
 have dc:Dn B (cR cs i-y):=(Dn.int B _).sub hB;have S0:(0:Rat)<=(cs.sum:Rat):=by exact_mod_cast hc.sum.1
 have back:∀ {E:Int},Dn (B*E) ((cs.sum:Rat)-q)->Dn (B*E) q:=fun {E} d=>by
  have:=(Dn.int (B*E) cs.sum).sub d
  rw[show(cs.sum:Rat)-((cs.sum:Rat)-q)=q by grind] at this;exact this
 have con:=zMn hw hc q0 q1 hi;rw[e] at con
 cases w with
 | row=>
  have z:ws=[]:=hw;subst z;exact⟨1,by decide,by decide,by rw[QV];exact zHi hc q0 q1 hi e y0 y1 hB⟩
 | back=>
  have z:ws=[]:=hw;subst z;refine⟨1,by decide,by decide,back ?_⟩
  rw[QV];exact zHi hc (by grind) (by grind) hi con (by grind) (by grind) dc
 | even=>
  have wi:=Wt.at hw hi;exact⟨ws.getD i 0,by omega,by omega,zAY hw hc q0 q1 hi e y1 hB⟩
 | lack=>
  have wi:=Wt.at hw hi;exact⟨ws.getD i 0,by omega,by omega,back (zAY (ws:=ws) hw hc (by grind) (by grind) hi con (by grind) dc)⟩
 | part=>
  have z:ws=[]:=hw;subst z;rw[<-zBl (M:=0) (w:=.part) (ws:=[]) (f:=kH cs q) rfl hc q0 q1 (fun i _=>rfl) hi] at e;have p:=(jJ (q:=q) hc hi).1;rw[e] at p
  have c0:0<cs.getD i 0:=by
   have:(0:Rat)<cR cs i:=by grind
   unfold cR at this;exact_mod_cast this
  have:=zLQ hc hi
  obtain⟨k,hk⟩:=hB;refine⟨cs.getD i 0,c0,by omega,k*cs.sum,?_⟩
  unfold cR at p;rw[QF,QF,<-hk];grind
 | half=>
  have z:ws=[]:=hw;subst z;have W:=fF cs;refine⟨2,by decide,by decide,?_⟩
  by_cases h:q+q<=(cs.sum:Rat)
  ·by_cases l:y+y<cR cs i
   ·exact zIa hc q0 h hi e l hB
   ·have e0:=e
    rw[wC hc q0 h hi] at e;obtain⟨t,t0,tq,ef⟩:=zEj W hc (q:=q+q) (by grind) h
    have g1:=ef i hi
    have g2:FF .even (ones cs) cs (q+q) i=y+y:=by
     have:=vV (FF .even (ones cs) cs (q+q) i)
     rw[<-e];grind
    rw[g2] at g1
    have yc:y+y=cR cs i:=by
     unfold dR mn at g1;grind
    have lt:lv (ones cs) cs i<=t:=by
     rcases (Q9:t<=lv (ones cs) cs i∨lv (ones cs) cs i<=t) with u | u
     ·have:=zFW W hi u
      rw[<-g1,yc,<-xY W hi] at this;have o:cR (ones cs) i=1:=by unfold cR;rw[zDE hi];rfl
      rw[o] at this;grind
     ·exact u
    have m1:=lQ W lt;rw[tq] at m1;have l0:=zIK W hc hi
    have Q0:0<=QQ (ones cs) cs (lv (ones cs) cs i):=by
     have:=lQ (cs:=cs) W l0
     have z:QQ (ones cs) cs 0=0:=by
      have:∀ j∈List.range cs.length,dR (cR cs) (cR (ones cs)) 0 j=0:=fun j hj=>by
       have:=zJc hc (Qi.mp hj)
       unfold dR mn;grind
      unfold QQ iT;rw[Q8 (g:=fun _=>(0:Rat)) this]
      induction (List.range cs.length) with
      | nil=>rfl
      | cons a r ih=>rw[Qq,QB,ih];grind
     grind
    have eq:QQ (ones cs) cs (lv (ones cs) cs i)=q+q:=by
     rcases Rat.le_iff_lt_or_eq.mp m1 with u | u
     ·exfalso
      have hh:QQ (ones cs) cs (lv (ones cs) cs i)*hf+QQ (ones cs) cs (lv (ones cs) cs i)*hf=QQ (ones cs) cs (lv (ones cs) cs i):=by rw[jI];grind
      have v:=least (QQ (ones cs) cs (lv (ones cs) cs i)*hf) (by rw[jI];grind) (by rw[jI];grind)
      rw[wC hc (by rw[jI];grind) (by rw[hh];grind) hi,hh,zNr W hc l0 (by grind) Q0 hi,zFP W hi Qf,<-yc,vV] at v;grind
     ·exact u
    have d:=zPo (cs:=cs) W hi (xY W hi) (Dn.int B (cs.getD i 0));rw[eq,zDE hi,QV] at d;have:=zIw d
    rw[vV] at this;exact this
  ·have h':((cs.sum:Rat)-q)+((cs.sum:Rat)-q)<=(cs.sum:Rat):=by grind
   have con':FF .half [] cs ((cs.sum:Rat)-q) i=cR cs i-y:=con;by_cases l:(cR cs i-y)+(cR cs i-y)<cR cs i
   ·exact back (zIa hc (by grind) h' hi con' l dc)
   ·exfalso
    have hh:(cs.sum:Rat)*hf+(cs.sum:Rat)*hf=(cs.sum:Rat):=by rw[jI];grind
    have v:=least ((cs.sum:Rat)*hf) (by rw[jI];grind) (by rw[jI];grind)
    rw[wC hc (by rw[jI];grind) (by rw[hh];exact Qf) hi,hh,zDz (w:=.even) W hc hi,jI] at v;grind
theorem zIr{x:Rat}{B E:Int}{m:Nat}(h:Dn (B*E) x)(b0:0<B)(e0:0<E)(hb:B<=2^m)(he:E<=2^34):(x.den:Int)<=2^(m+34):=by
 have a:=h.le (Xj b0 e0);have b:B*E<=2^m*2^34:=Int.mul_le_mul hb he (VO e0) (VO (Xe (by decide)))
 rw[Yi];omega
theorem gI(m:Nat):(1:Int)<=2^m:=by
 have:(0:Int)<2^m:=Xe (by decide)
 omega
theorem vA{a b:Nat}(h:a<=b):(2:Int)^a<=2^b:=by
 have e:(2:Int)^b=2^a*2^(b-a):=by rw[<-Yi,Nat.add_sub_cancel' h]
 have p:(0:Int)<2^a:=Xe (by decide)
 have:=Int.mul_le_mul_of_nonneg_left (gI (b-a)) (VO p)
 rw[e];omega
theorem zNp{w:Wy}{ws cs:List Int}{J:List Rat}(hw:w.due ws cs)(hc:Cl cs)(hS:cs.sum<2^34)(js:JS w ws cs J)(jd:Jd cs J){i:Nat}(hi:i<cs.length){y r:Rat}(u:zFr (wln w ws cs J i) y r){m:Nat}(hy:(y.den:Int)<=2^m):(r.den:Int)<=2^(m+34):=by
 obtain⟨ln,la,pts,val⟩:=zLE hw hc js hi;obtain⟨u1,u2,u3⟩:=u.val ln.1 la;have le:=fun t (t0:0<=t) (l:t<r)=>u.least ln.1 la t0 l
 obtain⟨k,q,hq,hj,h⟩:=u;have hqm:=Qj hq;rcases h with⟨e,rfl⟩ | ⟨k0,hlt,p,hp,hp2,e⟩
 ·obtain⟨B,b0,b1,d⟩:=jd.2 _ (pts q hqm).1
  have:=d.le b0
  have:=vA (show 34<=m+34 by omega)
  omega
 ·have bp:=eA ln.1 la (Qj hp)
  have bq:=eA ln.1 la hqm;have y0:0<y:=by have:=bp.2.2.1;grind
  have y1:y<cR cs i:=by have:=bq.2.2.2;grind
  rw[val r u2 u3] at u1
  obtain⟨E,e0,e1,d⟩:=zQW hw hc hS u2 u3 hi u1 y0 y1 (fun t t0 l=>by
   have:=le t t0 l
   rw[val t t0 (by grind)] at this
   exact this) (Dn.den y)
  exact zIr d (eZ y) e0 hy e1
theorem zQc{w:Wy}{ws cs:List Int}(hw:w.due ws cs)(hc:Cl cs)(hS:cs.sum<2^34){q:Rat}(q0:0<=q)(q1:q<=(cs.sum:Rat)){i:Nat}(hi:i<cs.length){m:Nat}(hq:(q.den:Int)<=2^m):((FF w ws cs q i).den:Int)<=2^(m+34):=by
 obtain⟨M,al⟩:=xT hw hc q0 q1;obtain⟨E,e0,e1,e2⟩:=zPl hw hc hS al (Dn.den q);exact zIr (e2 i hi) (eZ q) e0 hq (VO e1)
theorem zLn{P:Nat->Prop}:∀ n,P n->∃ k,P k/\∀ j,j<k->¬ P j:=by
 intro n
 induction n using Nat.strongRecOn with
 | ind n ih=>
  intro h;by_cases c:∃ j,j<n/\P j
  ·obtain⟨j,l,hj⟩:=c
   exact ih j l hj
  ·exact⟨n,h,fun j l hj=>c ⟨j,l,hj⟩⟩
theorem zQL{ps:List Pt}{e:Pt}{y:Rat}(h:Ok ps)(he:ps.getLast?=some e)(y0:0<=y)(y1:y<=e.2):∃ r,zFr ps y r:=by
 obtain⟨k,⟨q,hq,hy⟩,hm⟩:=zLn (P:=fun k=>∃ q:Pt,ps[k]?=some q/\y<=q.2) (ps.length-1) ⟨e,by rw[<-QR];exact he,y1⟩
 have lt:∀(j:Nat)(p:Pt),j<k->ps[j]?=some p->p.2<y:=fun j p l hp=>Rat.not_le.mp fun z=>hm j l ⟨p,hp,z⟩
 by_cases c:q.2=y
 ·exact⟨q.1,k,q,hq,lt,.inl ⟨c,rfl⟩⟩
 ·have k0:0<k:=by
   rcases XY k with z | z
   ·subst z
    rw[<-VB,h.1] at hq;cases hq
    have:(0:Rat)=y:=by
     have:y<=(0:Rat):=hy
     grind
    exact absurd this c
   ·exact z
  have kl:=(Qx.mp hq).1;have hp:ps[k-1]?=some (ps[k-1]'(by omega)):=Qp _
  exact⟨_,k,q,hq,lt,.inr ⟨k0,by grind,_,hp,lt _ _ (by omega) hp,rfl⟩⟩
structure CL (S c:Int) (g:Rat->Rat) (m k:Nat) (l:List Pt):Prop where
 ln:zMw l
 la:l.getLast?=some ((S:Rat),(c:Rat))
 val:∀ x,0<=x->x<=(S:Rat)->aQ l x=g x
 len:l.length<=k
 den:∀ p∈l,(p.1.den:Int)<=2^m
 yd:∀(x:Rat)(e:Nat),0<=x->x<=(S:Rat)->(x.den:Int)<=2^e->((g x).den:Int)<=2^(e+m)
 inv:∀(y r:Rat)(e:Nat),0<=y->y<=(c:Rat)->(y.den:Int)<=2^e->zFr l y r->(r.den:Int)<=2^(e+m)
theorem yF{x:Rat}{S:Int}{m:Nat}(x0:0<=x)(x1:x<=(S:Rat))(hS:S<2^34)(h:(x.den:Int)<=2^m):Sz (35+m) x:=by
 have:=(Dn.den x).sz (a:=34) (b:=m+1) (eZ x) (by rw[Int.pow_succ];have:=gI m;omega) x0 x1 hS
 exact this.mono (by omega)
theorem CL.pt{S c:Int}{g:Rat->Rat}{m k:Nat}{l:List Pt}(h:CL S c g m k l){p:Pt}(hp:p∈l):p.2=g p.1/\0<=p.1/\p.1<=(S:Rat)/\0<=p.2/\p.2<=(c:Rat):=by
 have b:=eA h.ln.1 h.la hp;obtain⟨i,hi⟩:=VT.mp hp;exact⟨by rw[<-h.val _ b.1 b.2.1];exact(bN h.ln.1.2 hi).symm,b⟩
theorem CL.sz{S c:Int}{g:Rat->Rat}{m k:Nat}{l:List Pt}(h:CL S c g m k l)(hS:S<2^34)(hc:c<2^34):∀ p∈l,SzQ (35+m) (35+2*m) p:=fun p hp=>by
 obtain⟨e,a,b,c0,d⟩:=h.pt hp;refine⟨yF a b hS (h.den p hp),?_⟩
 have:=h.yd _ m a b (h.den p hp)
 rw[<-e] at this;exact(yF c0 d hc this).mono (by omega)
def lnD(l:List Pt):D:=.tup (l.map dp)
theorem zIn{w:Wy}{ws cs:List Int}{J:List Rat}(hw:w.due ws cs)(hc:Cl cs)(hS:cs.sum<2^34)(js:JS w ws cs J)(lJ:J.length<=30)(zJ:∀ x∈J,Sz 300 x/\∀ i,i<cs.length->Sz 670 (FF w ws cs x i))(jd:Jd cs J){i:Nat}(hi:i<cs.length){c:Int}{g:Rat->Rat}{m k:Nat}{l:List Pt}(hc2:c<2^34)(h:CL (cs.getD i 0) c g m k l)(hm:m<=272)(hk:k<=1000):
  ∃ R,gT [lnD l,lnD (wln w ws cs J i)]=.ok (.v (lnD R))/\CL cs.sum c (fun x=>g (FF w ws cs x i)) (m+34) (k+30) R:=by
 obtain⟨ln,la,pts,val⟩:=zLE hw hc js hi;have cs1:=zLQ hc hi;have zl:=h.sz (by omega) hc2
 have bl:∀ p∈l,p.1<=cR cs i:=fun p hp=>(h.pt hp).2.2.1
 have wl:(wln w ws cs J i).length<=30:=by
  have:=(nV (zEo hw hc js hi).1.2).length_le
  unfold wln;unfold jpt at this ⊢
  rw[Qe] at this;omega
 have S0:(0:Rat)<=(cs.sum:Rat):=by exact_mod_cast hc.sum.1
 obtain⟨R,e,r1,r2,r3,r4,r5⟩:=zKX (ps:=l) (qs:=wln w ws cs J i) (35+m) (35+2*m) 300 670 670 400 1000 h.ln.1 ln.1 h.la la rfl (by have:=h.len;omega) (by omega) zl
  (fun p hp=>⟨(zJ _ (pts p hp).1).1,by rw[(pts p hp).2];exact(zJ _ (pts p hp).1).2 i hi⟩) (by omega) (by decide) (by omega) (by omega) (by omega)
  (fun p hp r u=>by
   have d:=zNp hw hc hS js jd hi u (h.den p hp);obtain⟨_,v2,v3⟩:=u.val ln.1 la
   exact(yF v2 v3 hS d).mono (by omega))
  (fun y hy=>by
   have key:0<=y/\y<=cR cs i/\Sz 670 y:=by
    rcases hy with⟨q,hq,rfl⟩ | ⟨p,hp,rfl⟩
    ·have b:=eA ln.1 la hq
     exact⟨b.2.2.1,b.2.2.2,by rw[(pts q hq).2];exact(zJ _ (pts q hq).1).2 i hi⟩
    ·exact⟨(h.pt hp).2.1,bl p hp,(zl p hp).1.mono (by omega)⟩
   obtain⟨y0,y1,y2⟩:=key;refine⟨y2,?_⟩
   have v:=sE h.ln.1 h.la y0 y1;rw[h.val y y0 y1] at v ⊢
   have d:=h.yd y 670 y0 y1 (by have:=y2.2;omega)
   exact(yF v.1 v.2 hc2 d).mono (by omega))
 refine⟨R,e,r1,r2,fun x x0 x1=>?_,by have:=h.len;omega,fun p hp=>?_,fun x e x0 x1 xd=>?_,fun y r e y0 y1 yd u=>?_⟩
 ·have b:=zHx hw hc x0 x1
  rw[r4 x x0 x1,val x x0 x1,h.val _ (b.1 i hi).1 (b.1 i hi).2]
 ·rcases (r5 p hp).2 with⟨q,hq,e⟩ | ⟨q,hq,u⟩
  ·obtain⟨B,b0,b1,d⟩:=jd.2 _ (pts q hq).1
   rw[e];have:=d.le b0
   have:=vA (show 34<=m+34 by omega)
   omega
  ·exact zNp hw hc hS js jd hi u (h.den q hq)
 ·have b:=zHx hw hc x0 x1
  have:=h.yd _ (e+34) (b.1 i hi).1 (b.1 i hi).2 (zQc hw hc hS x0 x1 hi xd)
  rw[show e+(m+34)=e+34+m by omega];exact this
 ·obtain⟨z,uz⟩:=zQL h.ln.1 h.la y0 y1
  have dz:=h.inv y z e y0 y1 yd uz;obtain⟨z1,z2,z3⟩:=uz.val h.ln.1 h.la;obtain⟨x,ux⟩:=zQL ln.1 la z2 z3;have dx:=zNp hw hc hS js jd hi ux dz;obtain⟨x1,x2,x3⟩:=ux.val ln.1 la
  have er:r=x:=u.uniq r1.1 r2 (by rw[r4 x x2 x3,x1,z1]) x2 fun t t0 l=>by
   have t1:t<=(cs.sum:Rat):=Qz (Qg l) x3;rw[r4 t t0 t1];exact uz.least h.ln.1 h.la (sE ln.1 la t0 t1).1 (ux.least ln.1 la t0 l)
  rw[er,show e+(m+34)=e+m+34 by omega];exact dx
theorem dG(ns:List Int)(k:Int)(h:0<=k):bH [.lst (ns.map D.int),.int k]=.ok (.v (.int (ns.getD k.toNat 0))):=by
 unfold bH;symm;by_cases c:k<(ns.length:Int)
 ·rw[decide_eq_true c]
  symm;have hk:k.toNat<ns.length:=by omega
  rw[oT h (Qp hk),Qw,Qp hk];rfl
 ·rw[decide_eq_false c]
  symm;rw[Qw,QC (by omega)];rfl
theorem zGn{c:Int}(c0:0<=c)(c1:c<2^34):∃ l,gJ [.int c]=.ok (.v (lnD l))/\CL c c (fun x=>x) 34 32 l/\l=if c=0 then [(0,0)] else [(0,0),((c:Rat),(c:Rat))]:=by
 have yd:∀(x:Rat)(e:Nat),0<=x->x<=(c:Rat)->(x.den:Int)<=2^e->(x.den:Int)<=2^(e+34):=fun x e _ _ h=>Vp h (vA (by omega))
 have z0:SzQ 40 40 ((0:Rat),(0:Rat)):=by
  have:=(Dn.zero 1).sz (a:=34) (b:=1) (c:=0) (by decide) (by decide) Qf Qf (by decide)
  exact⟨this.mono (by decide),this.mono (by decide)⟩
 by_cases h:c=0
 ·subst h
  have ok:Ok [((0:Rat),(0:Rat))]:=⟨rfl,Xw _ _⟩;have le:mG [((0:Rat),(0:Rat))]=[((0:Rat),(0:Rat))]:=rfl;refine⟨[(0,0)],?_,⟨le ▸ lM ok,rfl,fun x x0 x1=>?_,by show 1<=32;decide,fun p hp=>?_,yd,fun y r e y0 y1 yd u=>?_⟩,by rw[if_pos rfl]⟩
  ·unfold gJ
   symm;rw[show D.lst [dp (0,0)]=.lst ([((0:Rat),(0:Rat))].map dp) from rfl,pM (n:=40) (m:=40) (.inl rfl) (by show 1<=100000;decide) (fun p hp=>by rw[Qt.mp hp];exact z0) (by decide) ok];symm;rfl
  ·have:x=0:=by rw[show((0:Int):Rat)=0 from rfl] at x1;grind
   subst this;exact bN ok.2 (i:=0) rfl
  ·rw[Qt.mp hp]
   exact gI 34
  ·obtain⟨_,r0,r1⟩:=u.val ok (e:=(0,0)) rfl
   have:r=0:=by
    have r1':r<=(0:Rat):=r1;grind
   rw[this];exact gI _
 ·have cp:(0:Rat)<(c:Rat):=by exact_mod_cast (show 0<c by omega)
  have ok:Ok [((0:Rat),(0:Rat)),((c:Rat),(c:Rat))]:=⟨rfl,Qo.mpr ⟨fun p hp=>by rw[Qt.mp hp];exact⟨cp,Qg cp⟩,Xw _ _⟩⟩
  have le:mG [((0:Rat),(0:Rat)),((c:Rat),(c:Rat))]=[((0:Rat),(0:Rat)),((c:Rat),(c:Rat))]:=rfl
  have zc:Sz 40 (c:Rat):=by
   have:=(Dn.int 1 c).sz (a:=34) (b:=1) (by decide) (by decide) (Qg cp) Qf c1
   exact this.mono (by decide)
  have val:∀ x:Rat,0<=x->x<=(c:Rat)->aQ [((0:Rat),(0:Rat)),((c:Rat),(c:Rat))] x=x:=fun x x0 x1=>by
   rw[cQ ok.2 (i:=0) rfl rfl x0 x1];unfold itp;show(0:Rat)+(x-0) / ((c:Rat)-0)*((c:Rat)-0)=x
   have:(x-0) / ((c:Rat)-0)*((c:Rat)-0)=x-0:=QT (by grind)
   rw[this];grind
  refine⟨[(0,0),((c:Rat),(c:Rat))],?_,⟨le ▸ lM ok,rfl,fun x x0 x1=>?_,by show 2<=32;decide,fun p hp=>?_,yd,fun y r e y0 y1 yd u=>?_⟩,by rw[if_neg h]⟩
  ·unfold gJ
   symm;rw[decide_eq_false h];symm;rw[bU];symm;rw[bU];symm
   rw[show D.lst [dp (0,0),dp ((c:Rat),(c:Rat))]=.lst ([((0:Rat),(0:Rat)),((c:Rat),(c:Rat))].map dp) from rfl,pM (n:=40) (m:=40) (.inl rfl) (by show 2<=100000;decide) (fun p hp=>by
    rcases Qc.mp hp with rfl | hp
    ·exact z0
    ·rw[Qt.mp hp];exact⟨zc,zc⟩) (by decide) ok]
   symm;rfl
  ·exact val x x0 x1
  ·rcases Qc.mp hp with rfl | hp
   ·exact gI 34
   ·rw[Qt.mp hp];exact gI 34
  ·obtain⟨r2,r0,r1⟩:=u.val ok (e:=((c:Rat),(c:Rat))) rfl
   rw[val r r0 r1] at r2;rw[r2];exact Vp yd (vA (by omega))
def LLg(S:Int)(A:List Int)(f:Rat->List Rat)(m k:Nat)(ls:List (List Pt)):Prop:=ls.length=A.length/\∀ j,j<A.length->CL S (A.getD j 0) (fun x=>(f x).getD j 0) m k (ls.getD j [])
theorem zHH{α:Type}{a b:List α}{j:Nat}{z:α}(h:j<a.length):(a++b).getD j z=a.getD j z:=by
 rw[Qw,Qw,QN h]
theorem zJN{α:Type}{a b:List α}{j:Nat}{z:α}(h:a.length<=j):(a++b).getD j z=b.getD (j-a.length) z:=by
 rw[Qw,Qw,QX h]
theorem zPb{S:Int}{A B:List Int}{f g:Rat->List Rat}{m k:Nat}{la lb:List (List Pt)}(ha:LLg S A f m k la)(hb:LLg S B g m k lb)(fl:∀ x,(f x).length=A.length):LLg S (A++B) (fun x=>f x++g x) m k (la++lb):=by
 refine⟨by rw[Qk,Qk,ha.1,hb.1],fun j hj=>?_⟩
 by_cases h:j<A.length
 ·have e:(fun x=>(f x++g x).getD j 0)=fun x=>(f x).getD j 0:=funext fun x=>zHH (by rw[fl];exact h)
  rw[e,zHH h,zHH (by rw[ha.1];exact h)];exact ha.2 j h
 ·have e:(fun x=>(f x++g x).getD j 0)=fun x=>(g x).getD (j-A.length) 0:=funext fun x=>by rw[zJN (by rw[fl];omega),fl]
  rw[e,zJN (by omega),zJN (by rw[ha.1];omega),ha.1];rw[Qk] at hj;exact hb.2 _ (by omega)
theorem zLe{α:Type}(l:List α)(a:α):l=(List.range l.length).map fun j=>l.getD j a:=by
 refine VU fun j=>?_
 rw[Qu];by_cases h:j<l.length
 ·rw[Vf h,Option.map_some,Qw,Qp h]
  rfl
 ·rw[QC (by omega),QC (l:=List.range l.length) (by rw[QA];omega)]
  rfl
theorem zIi{w:Wy}{ws cs:List Int}{J:List Rat}(hw:w.due ws cs)(hc:Cl cs)(hS:cs.sum<2^34)(js:JS w ws cs J)(lJ:J.length<=30)(zJ:∀ x∈J,Sz 300 x/\∀ i,i<cs.length->Sz 670 (FF w ws cs x i))(jd:Jd cs J){i:Nat}(hi:i<cs.length){A:List Int}{f:Rat->List Rat}{m k:Nat}{ls:List (List Pt)}(hA:∀ c∈A,c<2^34)(h:LLg (cs.getD i 0) A f m k ls)(hm:m<=272)(hk:k<=1000):
  ∃ bf:Nat->List Pt,(∀ j,j<A.length->gT [lnD (ls.getD j []),lnD (wln w ws cs J i)]=.ok (.v (lnD (bf j))))/\LLg cs.sum A (fun x=>f (FF w ws cs x i)) (m+34) (k+30) ((List.range A.length).map bf):=by
 have each:∀ j,j<A.length->∃ R,gT [lnD (ls.getD j []),lnD (wln w ws cs J i)]=.ok (.v (lnD R))/\CL cs.sum (A.getD j 0) (fun x=>(f (FF w ws cs x i)).getD j 0) (m+34) (k+30) R:=fun j hj=>
  zIn hw hc hS js lJ zJ jd hi (hA _ (Qj (bR hj))) (h.2 j hj) hm hk
 let bf:Nat->List Pt:=fun j=>if hj:j<A.length then Classical.choose (each j hj) else []
 have hb:∀ j (hj:j<A.length),gT [lnD (ls.getD j []),lnD (wln w ws cs J i)]=.ok (.v (lnD (bf j)))/\CL cs.sum (A.getD j 0) (fun x=>(f (FF w ws cs x i)).getD j 0) (m+34) (k+30) (bf j):=fun j hj=>by
  have e:bf j=Classical.choose (each j hj):=dif_pos hj;rw[e];exact Xv (each j hj)
 refine⟨bf,fun j hj=>(hb j hj).1,by rw[Qe,QA],fun j hj=>?_⟩
 have e:((List.range A.length).map bf).getD j []=bf j:=by rw[Qw,Qu,Vf hj];rfl
 rw[e];exact(hb j hj).2
theorem oH:∀(n N:Nat)(d:D),Gc n d->n<=N->n<=9->∃ Ls:List (List Pt),eN N [d]=.ok (.f (Ls.map lnD))/\LLg (clm n d).sum (clm n d) (SF n d) (34*n) (2+30*n) Ls
 | 0,_,_,h,_,_=>h.1.elim
 | n+1,0,_,_,hN,_=>by omega
 | n+1,N+1,d,g,hN,hn=>by
  rcases g.1 with⟨c,rfl⟩ | ⟨w,ws,ks,rfl,hw,k0,k1,w1,hy,hk⟩
  ·have c01:0<=c/\c<=10^9:=g.2.2 c Qb
   obtain⟨l,el,cl,_⟩:=zGn c01.1 (by omega)
   have se:(clm (n+1) (.tup [.str "boat", .int c])).sum=c:=by show([c]:List Int).sum=c;simp
   refine⟨[l],?_,rfl,fun j hj=>?_⟩
   ·show iS (eN N) _=_
    unfold iS;symm;rw[nY];symm;rw[qZ g.1 (by omega) (by show 1<=1000;decide),se];symm;rw[el];symm
   ·have hj':j<1:=hj
    have j0:j=0:=by omega
    subst j0;rw[se];exact⟨cl.ln,cl.la,cl.val,QE cl.len (by omega),fun p hp=>Vp (cl.den p hp) (vA (by omega)),fun x e x0 x1 xd=>Vp (cl.yd x e x0 x1 xd) (vA (by omega)),fun y r e y0 y1 yd u=>Vp (cl.inv y r e y0 y1 yd u) (vA (by omega))⟩
  ·obtain⟨v,rfl⟩:=zLm hy.1
   have cl:=g.cl hk k0;have l12:(ks.flatMap (clm n)).length<=12:=g.2.1;have hs:(kcl n ks).sum=(clm (n+1) (.tup [.str v.s,.tup (ws.map D.int),.tup ks])).sum:=zCu ks;have gs:=g.sum;have due:v.due ws (kcl n ks):=zIz (by rw[iH];exact hy.2)
   have hS:(kcl n ks).sum<2^34:=by rw[hs];omega
   obtain⟨J,eJ,js,lJ,zJ,jd⟩:=zDb (wd:=.tup (ws.map D.int)) (.inr rfl) (zLO (kcl n ks)) due cl;have ew:((List.range (kcl n ks).length).map fun i=>D.tup ((wln v ws (kcl n ks) J i).map dp))=(List.range' 0 ks.length).map fun i=>lnD (wln v ws (kcl n ks) J i):=by rw[iH,Xz];rfl
   rw[ew] at eJ
   have loopOk:∀(js':List D)(i:Nat)(acc:List (List Pt))(s t:Sl),(∀ k∈js',k∈ks)->i+js'.length=ks.length->ks.drop i=js'->LLg (kcl n ks).sum ((ks.take i).flatMap (clm n)) (fun x=>SFL (SF n) (FF v ws (kcl n ks) x) (ks.take i) 0) (34*n+34) (2+30*n+30) acc->∃ xs s' t',LLg (kcl n ks).sum (ks.flatMap (clm n)) (fun x=>SFL (SF n) (FF v ws (kcl n ks) x) ks 0) (34*n+34) (2+30*n+30) xs/\
     loop (zGH (mM (gName 3) (mM (gName 4) zGF))) (sK (eN N)) (kO js' ((List.range' i js'.length).map fun i=>lnD (wln v ws (kcl n ks) J i))) [.val (.tup [.str v.s,.tup (ws.map D.int),.tup ks]),.val (.lst ((List.range' 0 ks.length).map fun i=>lnD (wln v ws (kcl n ks) J i))),.own (acc.map lnD),s,t]=
      .ok (.nx [.val (.tup [.str v.s,.tup (ws.map D.int),.tup ks]),.val (.lst ((List.range' 0 ks.length).map fun i=>lnD (wln v ws (kcl n ks) J i))),.own (xs.map lnD),s',t']):=by
    intro js'
    induction js' with
    | nil=>
     intro i acc s t _ h1 _ h2;rw[Xg,Yk] at h1;rw[h1,Vg] at h2;exact⟨acc,s,t,h2,rfl⟩
    | cons k r ih=>
     intro i acc s t hm' hl' hd' ha;have hik:i<ks.length:=by rw[Qm] at hl';omega
     have ik:k∈ks:=hm' k Qb;have gk:=g.kid hk ik
     have ki:ks[i]?=some k:=by
      have:=Yh (xs:=ks) (i:=i) (j:=0)
      rw[hd'] at this;simpa using this.symm
     obtain⟨i1,i2⟩:=zHn (n:=n) ki
     have ci:(kcl n ks).getD i 0=(clm n k).sum:=by
      unfold kcl;rw[Qw,Qu,ki];rfl
     obtain⟨lk,ek,sk⟩:=oH n N k gk (by omega) (by omega)
     rw[<-ci] at sk;obtain⟨bf,b1,b2⟩:=zIi due cl hS js lJ zJ jd i1 (fun c hc=>by have:=(gk.2.2 c hc).2;omega) sk (by omega) (by omega)
     have tk:ks.take (i+1)=ks.take i++[k]:=by rw[List.take_add_one,ki];rfl
     have lt:(ks.take i).length=i:=by rw[Vk];omega
     have nx:LLg (kcl n ks).sum ((ks.take (i+1)).flatMap (clm n)) (fun x=>SFL (SF n) (FF v ws (kcl n ks) x) (ks.take (i+1)) 0) (34*n+34) (2+30*n+30) (acc++(List.range (clm n k).length).map bf):=by
      have q:=zPb ha b2 fun x=>zDD fun k' hk' q=>yC (hk k' (V9 hk')) q
      rw[tk,VH,Vy,List.flatMap_nil,QW]
      have e:(fun x=>SFL (SF n) (FF v ws (kcl n ks) x) (ks.take i++[k]) 0)=fun x=>SFL (SF n) (FF v ws (kcl n ks) x) (ks.take i) 0++SF n k (FF v ws (kcl n ks) x i):=funext fun x=>by
       rw[zHe,lt,Vm];show _++(SF n k (FF v ws (kcl n ks) x i)++[])=_
       rw[QW]
      rw[e];exact q
     obtain⟨xs,s',t',sy,ey⟩:=ih (i+1) (acc++(List.range (clm n k).length).map bf) (.val k) (.val (lnD (wln v ws (kcl n ks) J i))) (fun x hx=>hm' x (Qd _ hx)) (by rw[Qm] at hl';omega) (by rw[<-List.drop_drop,hd'];rfl) nx
     refine⟨xs,s',t',sy,?_⟩
     have la:=nx.1;have lf:((ks.take (i+1)).flatMap (clm n)).length<=(ks.flatMap (clm n)).length:=zMf;rw[Qk,Qe,QA] at la;have lk':lk.length=(clm n k).length:=sk.1;rw[zLe lk [],lk',Qv] at ek;rw[Qm,Yj,Qq,show kO (k::r) (lnD (wln v ws (kcl n ks) J i)::(List.range' (i+1) r.length).map fun i=>lnD (wln v ws (kcl n ks) J i))=.tup [k,lnD (wln v ws (kcl n ks) J i)]::kO r ((List.range' (i+1) r.length).map fun i=>lnD (wln v ws (kcl n ks) J i)) from rfl]
     rw[eH (ρ1:=[.val (.tup [.str v.s,.tup (ws.map D.int),.tup ks]),.val (.lst ((List.range' 0 ks.length).map fun i=>lnD (wln v ws (kcl n ks) J i))),.own (acc.map lnD),.val k,.val (lnD (wln v ws (kcl n ks) J i))]) (ρ2:=[.val (.tup [.str v.s,.tup (ws.map D.int),.tup ks]),.val (.lst ((List.range' 0 ks.length).map fun i=>lnD (wln v ws (kcl n ks) J i))),.own ((acc++(List.range (clm n k).length).map bf).map lnD),.val k,.val (lnD (wln v ws (kcl n ks) J i))]) (by symm) (by
      symm;rw[ek];symm
      rw[fT (u:=lnD ∘ fun j=>lk.getD j []) (g:=fun j=>lnD (bf j)) (by rw[QA];omega) (fun j hj=>by
       symm;rw[show(lnD ∘ fun j=>lk.getD j []) j=lnD (lk.getD j []) from rfl,b1 j (Qi.mp hj)]
       symm)]
      symm;rw[if_pos (by simp only[Qe,QA];omega),QH,Qv]
      rfl),ey]
   obtain⟨xs,s',t',sx,ex⟩:=loopOk ks 0 [] .un .un (fun k h=>h) (by omega) rfl ⟨rfl,fun j hj=>absurd hj (Nat.not_lt_zero j)⟩
   refine⟨xs,?_,?_⟩
   ·show iS (eN N) _=_
    unfold iS;symm;rw[oB hw];symm;rw[zEh];symm;rw[sP];symm;rw[sG hw hk (by omega) (by omega)];symm;rw[eJ];symm;rw[kZ hw];symm;rw[oY rfl rfl];symm;rw[Vl] at ex;rw[ex];rfl
   ·have e:(fun x=>SFL (SF n) (FF v ws (kcl n ks) x) ks 0)=SF (n+1) (.tup [.str v.s,.tup (ws.map D.int),.tup ks]):=funext fun x=>(zAo n v ws ks x).symm
    rw[e,hs] at sx;exact sx
abbrev zTl:D:=.lst [.str "row", .str "back", .str "even", .str "lack", .str "part", .str "half"]
theorem zOs(k:Int)(h0:0<=k)(h1:k<6):∃ w∈wys,oIx zTl (.int k)=.ok (.str w):=by
 have hk:k=0∨k=1∨k=2∨k=3∨k=4∨k=5:=by omega
 rcases hk with rfl | rfl | rfl | rfl | rfl | rfl
 all_goals exact⟨_,by simp[wys],rfl⟩
theorem zEk:∀ {ds:List D} {n i:Nat} {d:D},(pK n ds)[i]?=some d->∃ a,ds[i]?=some a/\d=.tup [.int ((n+i:Nat):Int),a]
 | a::r,n,0,d,h=>by cases h;exact⟨a,rfl,rfl⟩
 | a::r,n,i+1,d,h=>by
  obtain⟨b,h1,h2⟩:=zEk (ds:=r) (n:=n+1) (i:=i) h;exact⟨b,h1,by rw[h2];congr 4;omega⟩
 | [],n,i,d,h=>by cases i<;>cases h
theorem zEe:∀(ds:List D)(n:Nat),(pK n ds).length=ds.length
 | a::r,n=>by simp only[pK,Qm,zEe r (n+1)]
 | [],n=>rfl
def Nms(ns:List Str):Prop:=ns.length<=100/\∀ x∈ns,x.length<=1000
theorem zDr{ds:List D}{a:Int}(h:a<0):fV ds (some a) none=ds.drop (ds.length-(-a).toNat):=by
 unfold fV cut;simp only[if_neg (show ¬ 0<=a by omega)];rw[show((ds.length:Int)+a).toNat=ds.length-(-a).toNat by omega];exact V0 (by rw[Vs];omega)
theorem zIv{ds:List D}{a:Int}(h:a<0):fV ds none (some a)=ds.take (ds.length-(-a).toNat):=by
 unfold fV cut;simp only[if_neg (show ¬ 0<=a by omega),List.drop_zero,Nat.sub_zero];rw[show((ds.length:Int)+a).toNat=ds.length-(-a).toNat by omega]
theorem zGI(ns:List Int)(a most:Int)(a0:0<=a)(m1:1<=most)(m2:most<=100):∃ cs:List Int,gX [.lst (ns.map D.int),.int a,.int most]=.ok (.f (cs.map D.int))/\1<=cs.length/\(cs.length:Int)<=most/\∀ c∈cs,0<=c/\c<=10^9:=by
 unfold gX;symm;rw[dG ns a a0];generalize ns.getD a.toNat 0=x;have q0:=QK x (show most≠0 by omega)
 have q1:=Q2 x (show 0<most by omega)
 symm;rw[oMod_i (by omega),fmod_pos _ (by omega)];symm;generalize x % most=q at q0 q1;rw[zAk (by omega) (by omega)];symm;refine nD (Q:=fun r=>∃ cs:List Int,r.bind fin=.ok (.f (cs.map D.int))/\1<=cs.length/\(cs.length:Int)<=most/\∀ c∈cs,0<=c/\c<=10^9) (k:=zGA oO) (fun i ρ=>∃(cs:List Int)(s t:Sl),ρ=[.val (.lst (ns.map D.int)),.val (.int a),.val (.int most),.own (cs.map D.int),s,t]/\cs.length=i/\∀ c∈cs,0<=c/\c<=10^9) ⟨[],_,_,rfl,rfl,fun c h=>by cases h⟩ ?_ ?_
 ·rintro i e ρ he ⟨cs,s,t,rfl,hl,hc⟩
  obtain⟨hi,rfl⟩:=zFl he;rw[show(0:Int)+(i:Int)*1=(i:Int) by omega];symm;rw[dG ns _ (by omega)];generalize ns.getD (a+1+(i:Int)).toNat 0=y;symm;have c0:=QK y (b:=10^30) (by decide)
  generalize y % 10^30=cell at c0;have p1:(0:Int)<=cell / 3 % 13/\cell / 3 % 13<13:=⟨QK _ (by decide),Q2 _ (by decide)⟩
  have p2:(0:Int)<=cell / 3 % 3/\cell / 3 % 3<3:=⟨QK _ (by decide),Q2 _ (by decide)⟩
  have p3:(0:Int)<=cell / 3 % (10^9+1)/\cell / 3 % (10^9+1)<10^9+1:=⟨QK _ (by decide),Q2 _ (by decide)⟩
  have p4:(0:Int)<=cell % 3/\cell % 3<3:=⟨QK _ (by decide),Q2 _ (by decide)⟩
  obtain⟨u,hu,e⟩:∃ u:Int,(0<=u/\u<=10^9)/\oIx (.lst [.int (cell / 3 % 13),.int (cell / 3 % 3),.int (cell / 3 % (10^9+1))]) (.int (cell % 3))=.ok (.int u):=by
   generalize cell % 3=k at p4;have hk:k=0∨k=1∨k=2:=by omega
   rcases hk with rfl | rfl | rfl
   ·exact⟨_,by omega,rfl⟩
   ·exact⟨_,by omega,rfl⟩
   ·exact⟨_,by omega,rfl⟩
  rw[oMod_i (by omega),fmod_pos _ (by omega)];symm;rw[e];symm;rw[if_pos (by omega)];refine⟨_,rfl,cs++[u],_,_,by rw[QH];rfl,by rw[Qk,hl];rfl,fun c hc'=>?_⟩
  rcases QG.mp hc' with h | h
  ·exact hc c h
  ·rw[Qt.mp h];exact hu
 ·rintro ρ ⟨cs,s,t,rfl,hl,hc⟩
  have ll:(rng 0 (1+q).toNat 1).length=(1+q).toNat:=by unfold rng;simp
  exact⟨cs,rfl,by omega,by omega,hc⟩
theorem zHf{ks:List D}{cell:Int}{n:Nat}(c0:0<=cell)(k0:0<ks.length)(hn:n<=7)(hk:∀ k∈ks,IsC n k)(hc:(ks.flatMap (clm n)).length<=12):∃(w:Str)(ws:List Int),iU [.lst ks,.int cell]=.ok (.v (.tup [.str w,.tup (ws.map D.int),.tup ks]))/\IsC (n+1) (.tup [.str w,.tup (ws.map D.int),.tup ks]):=by
 have kl:=zBy hk;have q6:0<=cell % 6/\cell % 6<6:=⟨QK _ (by decide),Q2 _ (by decide)⟩
 obtain⟨w,hw,ew⟩:=zOs _ q6.1 q6.2;have key:∀(ws:List Int),wOK w ws ks.length->ws.length<=100->yI [.str w,.lst (ws.map D.int),.lst ks]=.ok (.v (.tup [.str w,.tup (ws.map D.int),.tup ks]))/\IsC (n+1) (.tup [.str w,.tup (ws.map D.int),.tup ks]):=fun ws hs hl=>zQy (.inl rfl) hw hs hl k0 (by omega) hn hk hc
 have nl:noLs ks=true:=zCV fun d hd=>zAt _ _ (zEg _ _ (hk d hd))
 unfold iU;symm;rw[ew];symm
 have even:(w = "even" ∨ w = "lack")->∃(w':Str)(ws:List Int),(((cT 3 (eF (jQ (xE (aD (eB mC (aD (aH 0) aNil)) aNil)) jM (eOp rB (eC (.int 1)) (eOp qD (eOp wB (aH 1) (eOp rB (eC (.int 6)) (eOp qV (eC (.int 13)) (aH 4)))) (eC (.int 4))))))) [.val (.lst ks),.val (.int cell),.val (.str w),.val (.lst [])]).bind (zGA sM)).bind fin=.ok (.v (.tup [.str w',.tup (ws.map D.int),.tup ks]))/\IsC (n+1) (.tup [.str w',.tup (ws.map D.int),.tup ks]):=fun hw2=>by
  symm;rw[zAk (by omega) (by omega)];symm;rw[show rng 0 ((ks.length:Int)).toNat 1=(List.range ks.length).map fun j:Nat=>D.int (j:Int) by unfold rng;rw[Q4];exact Q8 fun j _=>by rw[show(0:Int)+(j:Int)*1=(j:Int) by omega]]
  rw[fT (u:=fun j:Nat=>D.int (j:Int)) (g:=fun j:Nat=>D.int (1+cell / (6+13*(j:Int)) % 4)) (by rw[QA];omega) (fun j hj=>by
   symm;rw[oDiv_i (i:=cell) (j:=6+13*(j:Int)) (okDiv_lit (by omega) (by have:=Qi.mp hj;omega)),fdiv_pos _ (by omega)]
   symm)]
  symm
  obtain⟨k1,k2⟩:=key ((List.range ks.length).map fun j:Nat=>1+cell / (6+13*(j:Int)) % 4) (.inl ⟨hw2,by rw[Qe,QA],fun x hx=>by
   obtain⟨j,_,rfl⟩:=Qn.mp hx;have a:=QK (cell / (6+13*(j:Int))) (b:=4) (by decide)
   have b:=Q2 (cell / (6+13*(j:Int))) (b:=4) (by decide)
   omega⟩) (by rw[Qe,QA];omega)
  rw[Qv] at k1;rw[show((List.range ks.length).map fun j:Nat=>D.int (1+cell / (6+13*(j:Int)) % 4))=(List.range ks.length).map (D.int ∘ fun j:Nat=>1+cell / (6+13*(j:Int)) % 4) from rfl,k1];symm;exact⟨w,_,by rw[Qv],k2⟩
 have bq:∀ x:Str,(w==x)=decide (w=x):=fun x=>by
  by_cases h:w=x
  ·subst h;simp
  ·simp[h]
 generalize hA:(cT 3 (eF (jQ (xE (aD (eB mC (aD (aH 0) aNil)) aNil)) jM (eOp rB (eC (.int 1)) (eOp qD (eOp wB (aH 1) (eOp rB (eC (.int 6)) (eOp qV (eC (.int 13)) (aH 4)))) (eC (.int 4)))))):Sv)=A at even ⊢;rw[bq];by_cases h1:w = "even"
 ·rw[decide_eq_true h1]
  symm;exact even (.inl h1)
 ·rw[decide_eq_false h1]
  symm;rw[bq];by_cases h2:w = "lack"
  ·rw[decide_eq_true h2]
   symm;exact even (.inr h2)
  ·rw[decide_eq_false h2]
   symm;obtain⟨k1,k2⟩:=key [] (.inr ⟨fun z=>z.elim h1 h2,rfl⟩) (by decide)
   rw[show D.lst []=.lst (([]:List Int).map D.int) from rfl,k1];exact⟨w,[],rfl,k2⟩
structure Pt2 (cs:List Int) (i:Nat) (L:List D):Prop where
 each:∀ p∈L,IsC (i+1) p
 all:L.flatMap (clm 7)=cs.take i
 pos:0<i->0<L.length
theorem zHE{cs ns:List Int}{a:Int}(a0:0<=a)(l1:1<=cs.length)(l5:cs.length<=5)(hc:∀ c∈cs,0<=c/\c<=10^9):∃(w:Str)(ws:List Int)(ks:List D),iW [.lst (cs.map D.int),.lst (ns.map D.int),.int a]=.ok (.v (.tup [.str w,.tup (ws.map D.int),.tup ks]))/\Gc 8 (.tup [.str w,.tup (ws.map D.int),.tup ks])/\clm 8 (.tup [.str w,.tup (ws.map D.int),.tup ks])=cs:=by
 have fm:∀ {L:List D} {n:Nat},n<=7->(∀ p∈L,IsC n p)->L.flatMap (clm n)=L.flatMap (clm 7):=fun {L n} hn h=>by
  rw[Xy,Xy];congr 1
  exact Q8 fun d hd=>(iR (h d hd) hn).symm
 unfold iW;symm;refine nD (Q:=fun r=>∃(w:Str)(ws:List Int)(ks:List D),r.bind fin=.ok (.v (.tup [.str w,.tup (ws.map D.int),.tup ks]))/\Gc 8 (.tup [.str w,.tup (ws.map D.int),.tup ks])/\clm 8 (.tup [.str w,.tup (ws.map D.int),.tup ks])=cs) (k:=zGA sI) (fun i ρ=>∃(L:List D)(s4 s5 s6 s7:Sl),ρ=[.val (.lst (cs.map D.int)),.val (.lst (ns.map D.int)),.val (.int a),.own L,s4,s5,s6,s7]/\Pt2 cs i L) ⟨[],_,_,_,_,rfl,⟨fun p h=>(by cases h),by simp,fun h=>absurd h (by decide)⟩⟩ ?_ ?_
 ·rintro i e ρ he ⟨L,s4,s5,s6,s7,rfl,pt⟩
  obtain⟨x,hx,rfl⟩:=zEk he;rw[Qu] at hx
  obtain⟨c,hcx,rfl⟩:∃ c,cs[i]?=some c/\x=.int c:=by
   cases q:cs[i]? with
   | none=>rw[q] at hx;cases hx
   | some c=>rw[q] at hx;cases hx;exact⟨c,rfl,rfl⟩
  have hi:=(Qx.mp hcx).1;have cb:=hc c (Qj hcx);have tk:cs.take (i+1)=cs.take i++[c]:=nX hcx
  have allL:(L++[D.tup [.str "boat", .int c]]).flatMap (clm 7)=cs.take (i+1):=by
   rw[VH,pt.all,tk];rfl
  have eachL:∀ p∈L++[D.tup [.str "boat", .int c]],IsC (i+1) p:=fun p hp=>by
   rcases QG.mp hp with h | h
   ·exact pt.each p h
   ·rw[Qt.mp h];exact .inl ⟨c,rfl⟩
  have lenL:(L++[D.tup [.str "boat", .int c]]).length<=5:=by
   have:=zBy eachL
   rw[fm (by omega) eachL,allL,Vk] at this;omega
  have posL:0<(L++[D.tup [.str "boat", .int c]]).length:=by rw[Qk];exact VE _
  have lenL':L.length<=4:=by rw[Qk] at lenL;exact Nat.le_of_succ_le_succ lenL
  generalize hM:L++[D.tup [.str "boat", .int c]]=M at allL eachL lenL posL;symm;rw[zOS cb.1 cb.2];symm;rw[if_pos (by omega),hM];symm;rw[dG ns _ (by omega)];symm;have q0:=QK (ns.getD (a+(i:Int)).toNat 0) (b:=10^30) (by decide)
  generalize ns.getD (a+(i:Int)).toNat 0 % 10^30=cell at q0;by_cases c2:cell % 2=1
  ·rw[decide_eq_true c2]
   symm;have u0:=QK (cell / 2) (show min 3 (M.length:Int)≠0 by omega)
   have u1:=Q2 (cell / 2) (show 0<min 3 (M.length:Int) by omega)
   rw[oMod_i (by omega),fmod_pos _ (by omega)];generalize cell / 2 % min 3 (M.length:Int)=q at u0 u1;symm;rw[zIv (by omega),zDr (by omega)];have lp:0<(M.drop (M.length-(- -(1+q)).toNat)).length:=by rw[Vs];omega
   generalize hk:M.length-(- -(1+q)).toNat=k at lp;have sub:∀ d∈M.drop k,d∈M:=fun d hd=>YC hd
   obtain⟨w,ws,ew,kc⟩:=zHf (ks:=M.drop k) (cell:=cell / 6) (n:=i+1) (by omega) lp (by omega) (fun d hd=>eachL d (sub d hd)) (by
    have:((M.take k).flatMap (clm (i+1))++(M.drop k).flatMap (clm (i+1))).length<=12:=by
     rw[<-VH,Xx,fm (by omega) eachL,allL,Vk];omega
    rw[Qk] at this
    omega)
   rw[ew];symm;rw[if_pos (by rw[Vk];omega)]
   have nl:noLs (M.take k++[.tup [.str w,.tup (ws.map D.int),.tup (M.drop k)]])=true:=zCV fun d hd=>by
    rcases QG.mp hd with h | h
    ·exact zAt _ _ (zEg _ _ (eachL d (V9 h)))
    ·rw[Qt.mp h];exact zAt _ _ (zEg _ _ kc)
   symm;rw[if_pos nl];refine⟨_,rfl,_,_,_,_,_,rfl,⟨fun p hp=>?_,?_,fun _=>by rw[Qk];exact VE _⟩⟩
   ·rcases QG.mp hp with h | h
    ·exact jT (eachL p (V9 h)) (by omega)
    ·rw[Qt.mp h];exact kc
   ·rw[VH,Vy,List.flatMap_nil,QW,iR (m:=7) kc (by omega),show clm (i+1+1) (D.tup [.str w,.tup (ws.map D.int),.tup (M.drop k)])=(M.drop k).flatMap (clm (i+1)) from rfl,fm (L:=M.drop k) (by omega) (fun d hd=>eachL d (sub d hd)),<-VH,Xx,allL]
  ·rw[decide_eq_false c2]
   symm;exact⟨_,rfl,_,_,_,_,_,rfl,⟨fun p hp=>jT (eachL p hp) (by omega),allL,fun _=>posL⟩⟩
 ·rintro ρ ⟨L,s4,s5,s6,s7,rfl,pt⟩
  rw[zEe,Qe] at pt;have q0:=QK (ns.getD (a+(cs.length:Int)).toNat 0) (b:=10^30) (by decide)
  have al:L.flatMap (clm 7)=cs:=by rw[pt.all,Vg]
  have e7:∀ p∈L,IsC 7 p:=fun p hp=>jT (pt.each p hp) (by omega)
  obtain⟨w,ws,ew,kc⟩:=zHf (ks:=L) (cell:=ns.getD (a+(cs.length:Int)).toNat 0 % 10^30) (n:=7) q0 (pt.pos l1) (by decide) e7 (by rw[al];omega)
  symm;rw[dG ns _ (by omega)];symm;rw[ew];symm;refine⟨w,ws,L,rfl,⟨kc,?_,?_⟩,al⟩
  ·rw[show clm (7+1) (D.tup [.str w,.tup (ws.map D.int),.tup L])=cs from al];omega
  ·rw[show clm (7+1) (D.tup [.str w,.tup (ws.map D.int),.tup L])=cs from al];exact hc
theorem zEi{α:Type}{u:α->D}{t:Tv}{f:Ev}{ρ:Rho}{p:α->Bool}:∀ {l:List α},(∀ a∈l,t (ρ++[.val (u a)])=.ok (p a)/\f (ρ++[.val (u a)])=.ok (u a))->gG t f ρ (l.map u)=.ok ((l.filter p).map u)
 | [],_=>rfl
 | a::l,h=>by
  have ⟨h1,h2⟩:=h a Qb;have ih:=zEi (u:=u) (t:=t) (f:=f) (ρ:=ρ) (p:=p) fun x hx=>h x (Qd _ hx)
  rw[Qq,gG,h1]
  cases z:p a with
  | true=>rw[List.filter_cons_of_pos z];simp only[noErr,Res.bind,if_true,h2,ih];rfl
  | false=>rw[List.filter_cons_of_neg (by rw[z];decide)];simp only[noErr,Res.bind,ih];rfl
theorem zIV{α:Type}{u:α->D}{t:Tv}{f:Ev}{ρ:Rho}{p:α->Bool}{l:List α}(hl:l.length<=16777215)(h:∀ a∈l,t (ρ++[.val (u a)])=.ok (p a)/\f (ρ++[.val (u a)])=.ok (u a)):zCR t f ρ (l.map u)=.ok ((l.filter p).map u):=by
 unfold zCR;rw[if_pos (by rw[Qe];exact hl),zEi h]
theorem uE{x:Rat}:∀ {C:List Rat},(∃ c∈C,c<=x)->∃ a∈C,a<=x/\∀ c∈C,c<=x->c<=a
 | [],⟨c,h,_⟩=>by cases h
 | k::r,h=>by
  by_cases z:∃ c∈r,c<=x
  ·obtain⟨a,ha,ax,hm⟩:=uE z
   by_cases y:k<=x/\a<k
   ·refine⟨k,Qb,y.1,fun c hc cx=>?_⟩
    rcases Qc.mp hc with rfl | hc
    ·exact Qf
    ·exact Qz (hm c hc cx) (Qg y.2)
   ·refine⟨a,Qd _ ha,ax,fun c hc cx=>?_⟩
    rcases Qc.mp hc with rfl | hc
    ·exact Va.mp fun l=>y ⟨cx,l⟩
    ·exact hm c hc cx
  ·obtain⟨c,hc,cx⟩:=h
   rcases Qc.mp hc with rfl | hc
   ·refine⟨c,Qb,cx,fun c' hc' cx'=>?_⟩
    rcases Qc.mp hc' with rfl | hc'
    ·exact Qf
    ·exact absurd ⟨c',hc',cx'⟩ z
   ·exact absurd ⟨c,hc,cx⟩ z
theorem zHo{x:Rat}{C:List Rat}(h:∃ c∈C,x<=c):∃ b∈C,x<=b/\∀ c∈C,x<=c->b<=c:=by
 obtain⟨c,hc,xc⟩:=h;obtain⟨a,ha,ax,hm⟩:=uE (x:=-x) (C:=C.map fun c=>-c) ⟨-c,Qn.mpr ⟨c,hc,rfl⟩,by grind⟩
 obtain⟨b,hb,rfl⟩:=Qn.mp ha;refine⟨b,hb,by grind,fun c hc xc=>?_⟩
 have:=hm (-c) (Qn.mpr ⟨c,hc,rfl⟩) (by grind)
 grind
theorem zHa{l l':List Pt}{e e':Pt}(h:zMw l)(h':zMw l')(he:l.getLast?=some e)(he':l'.getLast?=some e')(ee:e.1=e'.1)(hj:∀ t,(∃ p∈l,p.1=t)∨(∃ p∈l',p.1=t)->aQ l t=aQ l' t):l=l':=by
 refine zNb h h' he he' ee fun x x0 x1=>?_
 have hd:(0:Rat)∈l.map Prod.fst:=by
  have:l.head?=some (0,0):=h.1.1
  cases l with
  | nil=>cases this
  | cons a r=>cases this;exact Qb
 have em:=XX he
 have mem:∀ t∈l.map Prod.fst++l'.map Prod.fst,aQ l t=aQ l' t/\0<=t/\t<=e.1:=fun t ht=>by
  rcases QG.mp ht with ht | ht
  ·obtain⟨p,hp,rfl⟩:=Qn.mp ht
   have b:=eA h.1 he hp;exact⟨hj _ (.inl ⟨p,hp,rfl⟩),b.1,b.2.1⟩
  ·obtain⟨p,hp,rfl⟩:=Qn.mp ht
   have b:=eA h'.1 he' hp;exact⟨hj _ (.inr ⟨p,hp,rfl⟩),b.1,by rw[ee];exact b.2.1⟩
 obtain⟨a,ha,ax,am⟩:=uE (x:=x) (C:=l.map Prod.fst++l'.map Prod.fst) ⟨0,Vc _ hd,x0⟩;obtain⟨b,hb,xb,bm⟩:=zHo (x:=x) (C:=l.map Prod.fst++l'.map Prod.fst) ⟨e.1,Vc _ (Qn.mpr ⟨e,em,rfl⟩),x1⟩;obtain⟨va,a0,a1⟩:=mem a ha;obtain⟨vb,b0,b1⟩:=mem b hb;by_cases z:a=x
 ·rw[<-z];exact va
 by_cases y:b=x
 ·rw[<-y];exact vb
 have lt:a<b:=by grind
 have n1:∀ p∈l,a<p.1->b<=p.1:=fun p hp l1=>by
  have m:p.1∈l.map Prod.fst++l'.map Prod.fst:=Vc _ (Qn.mpr ⟨p,hp,rfl⟩);rcases (Q9:p.1<=x∨x<=p.1) with w | w
  ·have:=am _ m w;grind
  ·exact bm _ m w
 have n2:∀ p∈l',a<p.1->b<=p.1:=fun p hp l1=>by
  have m:p.1∈l.map Prod.fst++l'.map Prod.fst:=Qy _ (Qn.mpr ⟨p,hp,rfl⟩);rcases (Q9:p.1<=x∨x<=p.1) with w | w
  ·have:=am _ m w;grind
  ·exact bm _ m w
 have e1:=zM h.1 he a0 lt b1 n1 ax xb;have e2:=zM h'.1 he' a0 lt (by rw[<-ee];exact b1) n2 ax xb
 rw[va,vb] at e1;have e3:(aQ l x-aQ l' a)*(b-a)=(aQ l' x-aQ l' a)*(b-a):=by rw[e1,e2]
 have:=jX (show b-a≠0 by grind) e3
 grind
structure Fu (l l':List Pt) (x:Rat):Prop where
 at':(∃ p∈l,p.1=x)∨∃ p∈l',p.1=x
 ne:aQ l x≠aQ l' x
 le:∀ t,(∃ p∈l,p.1=t)∨(∃ p∈l',p.1=t)->aQ l t≠aQ l' t->x<=t
theorem zKD{S c c':Int}{g g':Rat->Rat}{l l':List Pt}(h:CL S c g 272 242 l)(h':CL S c' g' 272 242 l')(S0:0<=S)(hS:S<2^34)(hc:c<2^34)(hc':c' < 2^34)(hn:l≠l'):∃ x,eQ [lnD l,lnD l']=.ok (.v (dq x))/\Fu l l' x:=by
 have ln:=h.len;have ln':=h'.len;have z:=h.sz hS hc;have z':=h'.sz hS hc';have zx:∀ x∈l.map Prod.fst,Sz 307 x:=fun x hx=>by obtain⟨p,hp,rfl⟩:=Qn.mp hx;exact(z p hp).1
 have zx':∀ x∈l'.map Prod.fst,Sz 307 x:=fun x hx=>by obtain⟨p,hp,rfl⟩:=Qn.mp hx;exact(z' p hp).1
 obtain⟨C,eM,c1,c2,c3⟩:=zFy (zDJ h.ln.1.2) (zDJ h'.ln.1.2) (by rw[Qe];omega) (by rw[Qe];omega) zx zx' (by decide)
 rw[Qe,Qe] at c3;have iff:∀ t,t∈C ↔ (∃ p∈l,p.1=t)∨∃ p∈l',p.1=t:=fun t=>by rw[c2,Qn,Qn]
 have bd:∀ t∈C,0<=t/\t<=(S:Rat)/\Sz 307 t:=fun t ht=>by
  rcases (iff t).mp ht with⟨p,hp,rfl⟩ | ⟨p,hp,rfl⟩
  ·exact⟨(h.pt hp).2.1,(h.pt hp).2.2.1,(z p hp).1⟩
  ·exact⟨(h'.pt hp).2.1,(h'.pt hp).2.2.1,(z' p hp).1⟩
 have ex:∃ t∈C,aQ l t≠aQ l' t:=by
  refine YD fun no=>hn (zHa h.ln h'.ln h.la h'.la rfl fun t ht=>?_)
  exact YD fun y=>no ⟨t,(iff t).mpr ht,y⟩
 have ev:∀ t∈C,iY [lnD l,dq t]=.ok (.v (dq (aQ l t)))/\iY [lnD l',dq t]=.ok (.v (dq (aQ l' t))):=fun t ht=>by
  obtain⟨t0,t1,zt⟩:=bd t ht;exact⟨zAv (a:=307) (b:=579) (m:=307) (by omega) z zt (by decide) h.ln.1 h.la t0 t1,zAv (a:=307) (b:=579) (m:=307) (by omega) z' zt (by decide) h'.ln.1 h'.la t0 t1⟩
 have ne:C.filter (fun t=>!decide (aQ l t=aQ l' t))≠[]:=by
  obtain⟨t,ht,hv⟩:=ex;exact List.ne_nil_of_mem (Xb.mpr ⟨ht,by simpa using hv⟩)
 obtain⟨x,r,er⟩:=List.exists_cons_of_ne_nil ne;have xm:x∈C.filter (fun t=>!decide (aQ l t=aQ l' t)):=by rw[er];exact Qb
 obtain⟨xC,xv⟩:=Xb.mp xm;refine⟨x,?_,⟨(iff x).mp xC,by simpa using xv,fun t ht hv=>?_⟩⟩
 ·unfold eQ
  symm;rw[show gB [lnD l]=_ from tT (by omega)];symm;rw[show gB [lnD l']=_ from tT (by omega)];symm;rw[eM];symm
  rw[zIV (u:=dq) (p:=fun t=>!decide (aQ l t=aQ l' t)) (by omega) (fun t ht=>by
   obtain⟨e1,e2⟩:=ev t ht;constructor
   ·symm
    rw[e1];symm;rw[e2];symm
   ·symm)]
  rw[er];symm;rfl
 ·have tm:t∈C.filter (fun t=>!decide (aQ l t=aQ l' t)):=Xb.mpr ⟨(iff t).mpr ht,by simpa using hv⟩
  have so:=c1.filter (fun t=>!decide (aQ l t=aQ l' t))
  rw[er] at tm so;rcases Qc.mp tm with rfl | tm
  ·exact Qf
  ·exact Qg ((Qo.mp so).1 t tm)
theorem zFg{ls:List (List Pt)}{j:Nat}(h:j<ls.length):oIx (.lst (ls.map lnD)) (.int (j:Int))=.ok (lnD (ls.getD j [])):=oT (Vj j) (by rw[Q4,Qw,Qp h];rfl)
def Pd(d e:D)(r:D):Prop:=(r=.non/\∀ j,j<(clm 8 d).length->∀ x,0<=x->x<=((clm 8 d).sum:Rat)->(SF 8 d x).getD j 0=(SF 8 e x).getD j 0)∨
 ∃(j:Nat)(l l':List Pt)(x:Rat),r=.tup [dq x,.int (j:Int)]/\j<(clm 8 d).length/\(∀ i,i<j->∀ x,0<=x->x<=((clm 8 d).sum:Rat)->(SF 8 d x).getD i 0=(SF 8 e x).getD i 0)/\CL (clm 8 d).sum ((clm 8 d).getD j 0) (fun x=>(SF 8 d x).getD j 0) 272 242 l/\CL (clm 8 d).sum ((clm 8 d).getD j 0) (fun x=>(SF 8 e x).getD j 0) 272 242 l'/\Fu l l' x
theorem zSb{l l':List Pt}:eqD (lnD l) (lnD l')=decide (l=l'):=by
 unfold lnD;rw[eqD,zMj]
theorem zRP{l l':List Pt}:oNe (lnD l) (lnD l')=.ok (.bl (!decide (l=l'))):=by
 unfold oNe;rw[if_pos (show dep (lnD l)<=50 from zNu _),zSb]
theorem zKp{d e:D}(g:Gc 8 d)(g':Gc 8 e)(hc:clm 8 d=clm 8 e):∃ r,lC [d,e]=.ok (.v r)/\Pd d e r:=by
 have gs:=g.sum;have l12:=g.2.1;have hS:(clm 8 d).sum<2^34:=by omega
 obtain⟨Ls,eL,l1,l2⟩:=oH 8 10 d g (by decide) (by decide)
 obtain⟨Lt,eT,t1,t2⟩:=oH 8 10 e g' (by decide) (by decide)
 rw[<-hc] at t1 t2;have fd:=iZ 10 d (jT g.1 (by decide)) (by rw[iR (m:=10) g.1 (by decide)];omega)
 rw[iR (m:=10) g.1 (by decide)] at fd;have fe:=iZ 10 e (jT g'.1 (by decide)) (by rw[iR (m:=10) g'.1 (by decide),<-hc];omega)
 rw[iR (m:=10) g'.1 (by decide),<-hc] at fe;unfold lC;symm;rw[fd];symm;rw[fe];symm;rw[zHW (QE (zKG _) (by decide))];symm;rw[eL];symm;rw[eT];symm;rw[l1,zAk (by omega) (by omega)];symm
 have same:∀ j,j<(clm 8 d).length->Ls.getD j []=Lt.getD j []->∀ x,0<=x->x<=((clm 8 d).sum:Rat)->(SF 8 d x).getD j 0=(SF 8 e x).getD j 0:=fun j hj eq x x0 x1=>by
  have a:=(l2 j hj).val x x0 x1;have b:=(t2 j hj).val x x0 x1;rw[eq] at a;rw[<-a,<-b]
 refine zIo (k:=zGA yG) (Q:=fun r=>∃ v,r.bind fin=.ok (.v v)/\Pd d e v) (fun i ρ=>∃ s4:Sl,ρ=[.val d,.val e,.val (.lst (Ls.map lnD)),.val (.lst (Lt.map lnD)),s4]/\∀ j,j<i->Ls.getD j []=Lt.getD j []) ⟨_,rfl,fun j h=>absurd h (Nat.not_lt_zero j)⟩ ?_ ?_
 ·rintro i x ρ he ⟨s4,rfl,al⟩
  obtain⟨hi,rfl⟩:=zFl he;have hi':i<(clm 8 d).length:=by omega
  have ci:=g.2.2 _ (Qj (bR hi'));rw[show(0:Int)+(i:Int)*1=(i:Int) by omega];symm;rw[zFg (show i<Ls.length by omega)];symm;rw[zFg (show i<Lt.length by omega)];symm;rw[zRP];symm;by_cases c:Ls.getD i []=Lt.getD i []
  ·left
   rw[decide_eq_true c];symm;refine⟨_,rfl,_,rfl,fun j hj=>?_⟩
   rcases VS (Nat.le_of_lt_succ hj) with h | h
   ·exact al j h
   ·rw[h];exact c
  ·right
   rw[decide_eq_false c];obtain⟨x,ex,fu⟩:=zKD (l2 i hi') (t2 i hi') gs.1 hS (by omega) (by omega) c
   symm;rw[zFg (show i<Ls.length by omega)];symm;rw[zFg (show i<Lt.length by omega)];symm;rw[ex];symm;exact⟨_,rfl,_,rfl,.inr ⟨i,_,_,x,rfl,hi',fun j hj x x0 x1=>same j (by omega) (al j hj) x x0 x1,l2 i hi',t2 i hi',fu⟩⟩
 ·rintro ρ ⟨s4,rfl,al⟩
  have ln:(rng 0 ((clm 8 d).length:Int).toNat 1).length=(clm 8 d).length:=by unfold rng;simp
  rw[ln] at al;exact⟨.non,rfl,.inl ⟨rfl,fun j hj x x0 x1=>same j hj (al j hj) x x0 x1⟩⟩
theorem zNd{d:D}(g:Gc 8 d){j:Nat}(hj:j<(clm 8 d).length):∃ l,CL (clm 8 d).sum ((clm 8 d).getD j 0) (fun x=>(SF 8 d x).getD j 0) 272 242 l:=by
 obtain⟨Ls,eL,ll,lg⟩:=oH 8 10 d g (by decide) (by decide)
 exact⟨_,lg j hj⟩
theorem zRq{d:D}(g:Gc 8 d){j:Nat}(hj:j<(clm 8 d).length){x:Rat}{e:Nat}(x0:0<=x)(x1:x<=((clm 8 d).sum:Rat))(xd:(x.den:Int)<=2^e):0<=(SF 8 d x).getD j 0/\(SF 8 d x).getD j 0<=(((clm 8 d).getD j 0:Int):Rat)/\(((SF 8 d x).getD j 0).den:Int)<=2^(e+272):=by
 obtain⟨l,h⟩:=zNd g hj;have v:=sE h.ln.1 h.la x0 x1;rw[h.val x x0 x1] at v;exact⟨v.1,v.2,h.yd x e x0 x1 xd⟩
theorem zRg{d:D}(g:Gc 8 d){x:Rat}{e:Nat}(x0:0<=x)(x1:x<=((clm 8 d).sum:Rat))(xd:(x.den:Int)<=2^e)(he:e<=1700):iL [d,dq x]=.ok (.f ((SF 8 d x).map dq)):=by
 obtain⟨xs,es,sh⟩:=zKj (m:=e+1) g (by decide) x0 x1 (Int.lt_of_le_of_lt xd (by rw[Int.pow_succ];have:=gI e;omega)) (by omega)
 rw[es,zPF g sh x0 x1]
theorem zQn{d:D}(g:Gc 8 d){j:Nat}(hj:j<(clm 8 d).length)(x:Rat):oIx (.lst ((SF 8 d x).map dq)) (.int (j:Int))=.ok (dq ((SF 8 d x).getD j 0)):=
 oT (Vj j) (by rw[Q4,Qw,Qp (by rw[yC g.1];exact hj)];rfl)
theorem zCp{c W:Int}(h0:0<=W)(h1:W<2^104):∃ q:Rat,hG [.int c,.int W]=.ok (.v (dq q))/\0<=q/\q<=(W:Rat)/\(q.den:Int)<=2^30:=by
 have b0:0<=c % 10^40:=QK _ (by decide)
 have b1:c % 10^40<10^40:=Q2 _ (by decide)
 generalize hk:c % 10^40=k at b0 b1
 have rest:∀ b:Int,0<b->b<=10^9->∃ q:Rat,(kG [.val (.int k),.val (.int W),.val (.int b)]).bind fin=.ok (.v (dq q))/\0<=q/\q<=(W:Rat)/\(q.den:Int)<=2^30:=by
  intro b p1 p2;have wb:0<=W*b:=Xs h0 (by omega)
  have wl:(W*b).natAbs<2^134:=fQ (m:=104) (n:=30) (by omega) (by omega)
  have t0:=QK (k / 4) (show W*b+1≠0 by omega)
  have t1:=Q2 (k / 4) (show 0<W*b+1 by omega)
  symm;rw[oMul_i (bZ (m:=104) (n:=30) (by omega) (by omega) (by decide))];symm;rw[oMod_i (show W*b+1≠0 by omega),fmod_pos _ (show 0<W*b+1 by omega)];symm;generalize k / 4 % (W*b+1)=t at t0 t1 ⊢;rw[zIL (n:=30) p1 (by omega) (by decide)];symm
  have dn:Dn b (Rat.divInt t b):=⟨t,by
   have nb:(b:Rat)≠0:=fun z=>by
    have:b=0:=by exact_mod_cast z
    omega
   rw[Vo,QT nb]⟩
  refine⟨_,rfl,zCJ t0 p1,?_,Vp (dn.le p1) (by omega)⟩
  have e:=Yr W t (show(1:Int)≠0 by decide) (show b≠0 by omega)
  rw[show Rat.divInt W 1=(W:Rat) from QY (W:Rat),QV,XO] at e;have:=zCJ (show 0<=W*b-t by omega) p1
  rw[<-e] at this;grind
 unfold hG;symm;rw[hk];rcases (show k % 4=0∨k % 4=1∨k % 4=2∨k % 4=3 by omega) with h | h | h | h<;>(simp only[h,zRF];generalize hK:(kG:Sv)=K;symm; subst hK)
 ·exact rest 1 (by decide) (by decide)
 ·exact rest 2 (by decide) (by decide)
 ·exact rest (1+k / 4 % 12) (by omega) (by omega)
 ·have a:=QK (k / 4) (show(10:Int)^9≠0 by decide)
  have b:=Q2 (k / 4) (show(0:Int)<10^9 by decide)
  exact rest (1+k / 4 % 10^9) (by omega) (by omega)
theorem zEx{a b:Sl}:∀(l:List Rat)(T B:Int)(k:Nat)(s:Sl),(∀ x∈l,Sz 510 x)->T.natAbs<2^k->B.natAbs<2^k->0<B->k+520*l.length<=10000->
  ∃ T' B' s',loop (gName 4) oR (l.map dq) [a,b,.val (.int T),.val (.int B),s]=.ok (.nx [a,b,.val (.int T'),.val (.int B'),s'])/\0<B'/\T'.natAbs<2^10000/\B'.natAbs<2^10000/\(T':Rat)=((T:Rat) / (B:Rat)+l.sum)*(B':Rat)
 | [],T,B,k,s,_,h2,h3,h4,h5=>by
  have nB:(B:Rat)≠0:=fun z=>by
   have:B=0:=by exact_mod_cast z
   omega
  have le:2^k<=2^10000:=QZ (by decide) (by omega)
  refine⟨T,B,s,by rw[Vl,loop],h4,Qr h2 le,Qr h3 le,?_⟩
  rw[V8];grind
 | x::r,T,B,k,s,h1,h2,h3,h4,h5=>by
  have zx:=h1 x Qb;have d0:=eZ x;rw[Qm] at h5;have m1:(T*x.den).natAbs<2^(k+510):=fQ h2 zx.d;have m2:(x.num*B).natAbs<2^(510+k):=fQ zx.1 h3;have m3:(B*x.den).natAbs<2^(k+510):=fQ h3 zx.d;rw[XL 510 k] at m2;have le1:2^(k+510)<=2^(k+511):=QZ (by decide) (by omega)
  have m4:(T*x.den+x.num*B).natAbs<2^(k+511):=by
   have e:2^(k+511)=2^(k+510)+2^(k+510):=by rw[show k+511=k+510+1 by omega,Nat.pow_succ];omega
   omega
  obtain⟨T',B',s',e,b1,b2,b3,b4⟩:=zEx r (T*x.den+x.num*B) (B*x.den) (k+511) (.val (dq x)) (fun y hy=>h1 y (Qd _ hy)) m4 (Qr m3 le1) (Xj h4 d0) (by omega)
  refine⟨T',B',s',?_,b1,b2,b3,?_⟩
  ·rw[<-e,Qq]
   refine eH (ρ1:=[a,b,.val (.int T),.val (.int B),.val (dq x)]) rfl ?_
   symm;rw[oMul_i (bZ h2 zx.d (by omega))];symm;rw[oMul_i (bZ zx.1 h3 (by omega))];symm;rw[oMul_i (bZ h3 zx.d (by omega))];symm
  ·have nB:(B:Rat)≠0:=fun z=>by
    have:B=0:=by exact_mod_cast z
    omega
   have nd:((x.den:Int):Rat)≠0:=fun z=>by
    have:(x.den:Int)=0:=by exact_mod_cast z
    omega
   have ex:(x.num:Rat)=x*((x.den:Int):Rat):=by
    have h1:=QY x;rw[Vo] at h1;rw[<-QT (a:=(x.num:Rat)) nd,h1]
   rw[b4,QB,QS,QF,QF,QF,ex];have:((T:Rat)*((x.den:Int):Rat)+x*((x.den:Int):Rat)*(B:Rat)) / ((B:Rat)*((x.den:Int):Rat))=(T:Rat) / (B:Rat)+x:=by grind
   rw[this];grind
theorem sR{l:List Rat}{q:Rat}(hl:∀ x∈l,Sz 510 x)(hn:l.length<=12)(hq:Sz 140 q)(hs:l.sum=q):fL [.lst (l.map dq),dq q]=.ok (.v (.bl true)):=by
 obtain⟨T',B',s',e,b1,b2,b3,b4⟩:=zEx (a:=.val (.lst (l.map dq))) (b:=.val (dq q)) l 0 1 1 .un hl (by decide) (by decide) (by decide) (by omega)
 unfold fL;symm;rw[e];symm;rw[oMul_i (bZ (m:=10000) (n:=140) b2 hq.d (by decide))];symm;rw[oMul_i (bZ (m:=140) (n:=10000) hq.1 b3 (by decide))];symm;have d0:=eZ q
 have nd:((q.den:Int):Rat)≠0:=fun z=>by
  have:(q.den:Int)=0:=by exact_mod_cast z
  omega
 have ex:(q.num:Rat)=q*((q.den:Int):Rat):=by
  have h1:=QY q;rw[Vo] at h1;rw[<-QT (a:=(q.num:Rat)) nd,h1]
 have fin':T' * q.den=q.num*B':=by
  have:((T' * q.den:Int):Rat)=((q.num*B':Int):Rat):=by
   rw[QF,QF,b4,ex,hs,show((0:Int):Rat)=0 from rfl];grind
  exact Rat.intCast_inj.mp this
 rw[decide_eq_true fin']
theorem zDR(l k:List Rat):(l++k).sum=l.sum+k.sum:=by
 induction l with
 | nil=>rw[Vt,V8];grind
 | cons a l ih=>rw[Xi,QB,QB,ih];grind
theorem zID{n:Nat}{f:Nat->Rat}:∀ {ks:List D} {i:Nat},(∀ j k,ks[j]?=some k->(SF n k (f (i+j))).sum=f (i+j))->(SFL (SF n) f ks i).sum=((List.range' i ks.length).map f).sum
 | [],i,_=>rfl
 | k::r,i,h=>by
  have h0:=h 0 k rfl;rw[Yk] at h0;show(SF n k (f i)++SFL (SF n) f r (i+1)).sum=_
  rw[zDR,h0,zID fun j k' hj=>by
   have:=h (j+1) k' (by simpa using hj)
   rw[show i+1+j=i+(j+1) by omega];exact this]
  rw[Qm,Yj,Qq,QB]
theorem zIP:∀ {n:Nat} {d:D} {q:Rat},Gc n d->0<=q->q<=((clm n d).sum:Rat)->(SF n d q).sum=q
 | 0,_,_,g,_,_=>g.1.elim
 | n+1,d,q,g,q0,q1=>by
  rcases g.1 with⟨c,rfl⟩ | ⟨w,ws,ks,rfl,hw,k0,k1,w1,hy,hk⟩
  ·show [q].sum=q
   rw[QB,V8];grind
  ·obtain⟨v,rfl⟩:=zLm hy.1
   have cl:=g.cl hk k0;have se:(kcl n ks).sum=(clm (n+1) (.tup [.str v.s,.tup (ws.map D.int),.tup ks])).sum:=zCu ks;have due:v.due ws (kcl n ks):=zIz (by rw[iH];exact hy.2)
   rw[<-se] at q1;obtain⟨b1,b2⟩:=zHx due cl q0 q1
   rw[zAo,zID fun j k hj=>by
    obtain⟨j1,j2⟩:=zHn (n:=n) hj;have b:=b1 j j1;rw[j2] at b;rw[Vm]
    exact zIP (g.kid hk (Qj hj)) b.1 b.2]
   rw[iH,Xz] at b2;exact b2
theorem zFF(ns:List Int)(a b:Int)(ha:0<=a)(hb:0<=b):∃ cs:List Int,fV (ns.map D.int) (some a) (some b)=cs.map D.int/\cs.length<=ns.length:=by
 refine⟨(ns.drop a.toNat).take (b.toNat-a.toNat),by rw[zIj ha hb,Ym,List.map_drop],?_⟩
 rw[Vk,Vs];omega
theorem zRy(ns:List Int)(hl:ns.length<=63):∃ cs:List Int,eV [.lst (ns.map D.int)]=.ok (.f (cs.map D.int)):=by
 unfold eV;symm;rw[dG ns 0 (by decide)];symm;by_cases c:ns.getD 0 0 / 5 % 3=1
 ·rw[decide_eq_true c]
  symm;rw[zIt (by omega) (by omega) (by omega) (by omega)];symm;refine nD (k:=zGA mE) (Q:=fun r=>∃ cs:List Int,r.bind fin=.ok (.f (cs.map D.int))) (fun i ρ=>∃(cs:List Int)(s2 s3:Sl),ρ=[.val (.lst (ns.map D.int)),.own (cs.map D.int),s2,s3]/\cs.length=ns.length) ⟨ns,_,_,rfl,rfl⟩ ?_ ?_
  ·rintro i e ρ he ⟨cs,s2,s3,rfl,hlc⟩
   obtain⟨hi,rfl⟩:=zFl he;have ix:(6:Int)+(i:Int)*1=((6+i:Nat):Int):=by omega
   have lt:6+i<cs.length:=by omega
   rw[ix];symm;rw[zQN lt];symm;unfold lY;rw[zQf (ds:=cs.map D.int) (d:=.int (cs.getD (6+i) 0 % 2+cs.getD (6+i) 0 / 2 % 3*2+24*(cs.getD (6+i) 0 / 36 % 2))) (j:=6+i) (by symm) rfl rfl (by rw[Qe];exact lt)];exact⟨_,rfl,cs.set (6+i) (cs.getD (6+i) 0 % 2+cs.getD (6+i) 0 / 2 % 3*2+24*(cs.getD (6+i) 0 / 36 % 2)),_,_,by rw[List.map_set];rfl,by rw[QI];exact hlc⟩
  ·rintro ρ ⟨cs,s2,s3,rfl,hlc⟩
   exact⟨cs,rfl⟩
 ·rw[decide_eq_false c]
  symm;exact⟨ns,rfl⟩
theorem zOn{a b:List Rat}{k n:Nat}(ha:a.length=n)(hb:b.length=n)(hk:k<=n)(h:∀ i,i<k->a.getD i 0=b.getD i 0):a.take k=b.take k:=by
 refine VU fun i=>?_
 by_cases l:i<k
 ·rw[XC l,XC l]
  have:=h i l
  rw[Qw,Qw,Qp (by omega),Qp (by omega)] at this;rw[Qp (by omega),Qp (by omega)];exact congrArg some this
 ·rw[QC (by rw[Vk];omega),QC (by rw[Vk];omega)]
abbrev R42(ns cl cs:List Int)(d e:D)(sm:Bool)(told:D)(k:Nat)(s8 s9 s10 s11:Sl):Rho:=[.val (.lst (ns.map D.int)),.val (.lst (cl.map D.int)),.val (.lst (cs.map D.int)),.val d,.val e,.val (.bl sm),.val told,.val (.int (k:Int)),s8,s9,s10,s11]
theorem zKl{ns cl cs:List Int}{d e told:D}{sm:Bool}{k:Nat}{cell:Int}{s9 s10 s11:Sl}(g:Gc 8 d)(g':Gc 8 e)(h:clm 8 d=cs)(h':clm 8 e=cs)(hk:k<=cs.length)(al:∀ i,i<k->∀ x,0<=x->x<=(cs.sum:Rat)->(SF 8 d x).getD i 0=(SF 8 e x).getD i 0):∃ t9 t10 t11,zEP (R42 ns cl cs d e sm told k (.val (.int cell)) s9 s10 s11)=.ok (.nx (R42 ns cl cs d e sm told k (.val (.int cell)) t9 t10 t11)):=by
 have gs:=g.sum;have l12:=g.2.1;rw[h] at gs l12;have hS:cs.sum<2^34:=by omega
 obtain⟨q,eq,q0,q1,qd⟩:=zCp (c:=cell) (W:=cs.sum) gs.1 (by omega)
 have ld:=yC g.1 q;have le:=yC g'.1 q;rw[h] at ld;rw[h'] at le;have zq:Sz 140 q:=(yF q0 q1 hS qd).mono (by decide)
 have szs:∀ {d:D},Gc 8 d->clm 8 d=cs->∀ x∈SF 8 d q,Sz 510 x:=fun {d} g h x hx=>by
  obtain⟨j,hj⟩:=VT.mp hx;have jl:=(Qx.mp hj).1;rw[yC g.1] at jl;have b:=zRq (x:=q) (e:=30) g jl q0 (by rw[h];exact q1) qd
  have e:(SF 8 d q).getD j 0=x:=by rw[Qw,hj];rfl
  have ci:=g.2.2 _ (Qj (bR jl));rw[e] at b;exact(yF b.1 b.2.1 (by omega) b.2.2).mono (by decide)
 have i1:=sR (szs g h) (by omega) zq (zIP g q0 (by rw[h];exact q1))
 have i2:=sR (szs g' h') (by omega) zq (zIP g' q0 (by rw[h'];exact q1))
 have tk:=zOn (n:=cs.length) ld le hk fun i hi=>al i hi q q0 q1
 symm;rw[eq];symm;rw[zRg g q0 (by rw[h];exact q1) qd (by decide)];symm;rw[zRg g' q0 (by rw[h'];exact q1) qd (by decide)];symm;rw[zAp (by omega),zAp (by omega),Q4,<-Ym,<-Ym,tk,zHW (zMD _)];symm;rw[i1];symm;rw[i2];symm;exact⟨_,_,_,rfl⟩
theorem law_true:∀ ns:List Int,ns.length<=63->zMM [.lst (ns.map D.int)]=.ok (.v (.bl true)):=by
 intro ns hl;obtain⟨cl,ecl⟩:=zRy ns hl;obtain⟨cs,ec,c1,c2,c3⟩:=zGI cl 0 5 (by decide) (by decide) (by decide)
 obtain⟨w,ws,ks,e1,g1,k1⟩:=zHE (cs:=cs) (ns:=cl) (a:=6) (by decide) c1 (by omega) c3
 obtain⟨w',ws',ks',e2,g2,k2⟩:=zHE (cs:=cs) (ns:=cl) (a:=12) (by decide) c1 (by omega) c3
 generalize D.tup [.str w,.tup (ws.map D.int),.tup ks]=d at e1 g1 k1;generalize D.tup [.str w',.tup (ws'.map D.int),.tup ks']=e at e2 g2 k2;have hc:clm 8 d=clm 8 e:=by rw[k1,k2]
 obtain⟨r,er,pr⟩:=zKp g1 g2 hc
 have cells:∀(sm:Bool)(told:D)(k:Nat),k<=cs.length->(∀ i,i<k->∀ x,0<=x->x<=(cs.sum:Rat)->(SF 8 d x).getD i 0=(SF 8 e x).getD i 0)->(yU (R42 ns cl cs d e sm told k .un .un .un .un)).bind fin=.ok (.v (.bl true)):=fun sm told k hk al=>by
  symm;rw[dG ns 1 (by decide)];symm;rw[dG ns 2 (by decide)];symm;obtain⟨ms,em,lm⟩:=zFF ns 18 28 (by decide) (by decide)
  rw[em];symm;rw[if_pos (by omega)];symm;refine nD (Q:=fun r=>r.bind fin=.ok (.v (.bl true))) (k:=zGA zEf) (fun i ρ=>∃ s8 s9 s10 s11:Sl,ρ=R42 ns cl cs d e sm told k s8 s9 s10 s11) ⟨_,_,_,_,rfl⟩ ?_ ?_
  ·rintro i y ρ he ⟨s8,s9,s10,s11,rfl⟩
   have he':((ns.getD 1 0::ns.getD 2 0::ms).map D.int)[i]?=some y:=he;obtain⟨c,hcm,rfl⟩:=Qn.mp (Qj he');obtain⟨t9,t10,t11,ek⟩:=zKl (ns:=ns) (cl:=cl) (sm:=sm) (told:=told) (cell:=c) (s9:=s9) (s10:=s10) (s11:=s11) g1 g2 k1 k2 hk al;exact⟨_,ek,_,_,_,_,rfl⟩
  ·rintro ρ ⟨s8,s9,s10,s11,rfl⟩
   rfl
 unfold zMM;generalize hK:(yU:Sv)=K at cells;unfold zJe zHy zHr zII zJG zHw zHC zFd;rw[hK];rcases pr with⟨rfl,al⟩ | ⟨j,l,l',x,rfl,hj,al,a,b,f⟩
 ·have ea:pD [d,e]=.ok (.v (.bl true)):=by
   unfold pD;symm;rw[er];symm
  symm;rw[ecl];symm;rw[ec];symm;rw[e1];symm;rw[e2];symm;rw[ea];symm;rw[er];symm;exact cells _ _ cs.length (Qh _) fun i hi x x0 x1=>al i (by rw[k1];exact hi) x x0 (by rw[k1];exact x1)
 ·have ea:pD [d,e]=.ok (.v (.bl false)):=by
   unfold pD;symm;rw[er];symm
  have bd:0<=x/\x<=((clm 8 d).sum:Rat)/\(x.den:Int)<=2^272:=by
   rcases f.at' with⟨p,hp,rfl⟩ | ⟨p,hp,rfl⟩
   ·exact⟨(a.pt hp).2.1,(a.pt hp).2.2.1,a.den p hp⟩
   ·exact⟨(b.pt hp).2.1,(b.pt hp).2.2.1,b.den p hp⟩
  have ne:(SF 8 d x).getD j 0≠(SF 8 e x).getD j 0:=by
   have:=f.ne
   rw[a.val x bd.1 bd.2.1,b.val x bd.1 bd.2.1] at this;exact this
  symm;rw[ecl];symm;rw[ec];symm;rw[e1];symm;rw[e2];symm;rw[ea];symm;rw[er];symm;rw[show oNe (D.bl false) (D.bl false)=.ok (.bl false) from rfl];symm;rw[zRg g1 bd.1 bd.2.1 bd.2.2 (by decide)];symm;rw[zQn g1 hj];symm;rw[zRg g2 bd.1 (by rw[<-hc];exact bd.2.1) bd.2.2 (by decide)];symm;rw[zQn g2 (by rw[<-hc];exact hj)];symm;rw[decide_eq_false ne];symm;exact cells _ _ j (by rw[<-k1];omega) fun i hi x x0 x1=>al i hi x x0 (by rw[k1];exact x1)
end Lw
namespace Lw
open PySem PySem.Spec PyProof.Rows L2 L3
local macro_rules | `(tactic| walk_at "b")=>`(tactic| (intro _ _ _ _ _ _ us hl; first | (obtain ⟨_,e⟩:=L3.ln1 hl;subst e;rfl) | (obtain ⟨_,_,e⟩:=L3.ln2 hl;subst e;rfl) | (obtain ⟨_,_,_,e⟩:=L3.ln3 hl;subst e;rfl) | (obtain ⟨_,_,_,_,e⟩:=L3.ln4 hl;subst e;rfl)))
theorem _root_.L3.CanM.mo{P:Program}{w:World}{K:Fg_}{mg:Str->Option Value}{base:Heap}{j k:Nat}{x:Str}{ps:List Str}{m:Mir}(c:CanM P w K mg base j x ps m)(h:j<=k:=by decide):CanM P w K mg base k x ps m:=c.mono h
local macro_rules | `(tactic| walk_at "s")=>`(tactic| exact⟨rfl,rfl,rfl,by decide +kernel,rfl,by decide +kernel,by decide +kernel⟩)
def top(i:Nat):Stmt:=PySem.Challenge.pw_catchhall_k42_whole_alike_at_all_catches.main.body.getD i (.Pass ⟨0,0,0,0⟩)
abbrev iC:Stmt:=top 12
theorem cI:FnScope ["one","two","rest"] ["one","two"] (aG iC):=by walk_at "s"
abbrev zGK:Stmt:=top 13
theorem zCU:FnScope ["top","bottom","divisor"] ["top","bottom"] (aG zGK):=by walk_at "s"
abbrev zDB:Stmt:=top 14
theorem zKA:FnScope ["number"] ["number"] (aG zDB):=by walk_at "s"
abbrev zGZ:Stmt:=top 15
theorem zNj:FnScope ["one","two"] ["one","two"] (aG zGZ):=by walk_at "s"
abbrev zDl:Stmt:=top 16
theorem zKq:FnScope ["one","two"] ["one","two"] (aG zDl):=by walk_at "s"
abbrev zDi:Stmt:=top 17
theorem zKF:FnScope ["one","two"] ["one","two"] (aG zDi):=by walk_at "s"
abbrev zJC:Stmt:=top 18
theorem zOo:FnScope ["one","two"] ["one","two"] (aG zJC):=by walk_at "s"
abbrev zJv:Stmt:=top 19
theorem zMz:FnScope ["one","two"] ["one","two"] (aG zJv):=by walk_at "s"
abbrev zAh:Stmt:=top 20
theorem zJh:FnScope ["one","two"] ["one","two"] (aG zAh):=by walk_at "s"
abbrev nN:Stmt:=top 21
theorem zB:FnScope ["amount","most"] ["amount","most"] (aG nN):=by walk_at "s"
abbrev iF:Stmt:=top 22
theorem rA:FnScope ["amount","most"] ["amount","most"] (aG iF):=by walk_at "s"
abbrev iO:Stmt:=top 23
theorem qA:FnScope ["some","bottom","each"] ["some"] (aG iO):=by walk_at "s"
abbrev yT:Stmt:=top 28
theorem zHB:FnScope ["way","weights","claims"] ["way","weights","claims"] (aG yT):=by walk_at "s"
abbrev nJ:Stmt:=top 29
theorem yP:FnScope ["way"] ["way"] (aG nJ):=by walk_at "s"
abbrev jG:Stmt:=top 30
theorem lV:FnScope ["claims","claim"] ["claims"] (aG jG):=by walk_at "s"
abbrev iE:Stmt:=top 31
theorem gP:FnScope ["way","weights","many","due","weight"] ["way","weights","many"] (aG iE):=by walk_at "s"
abbrev kL:Stmt:=top 32
theorem vE:FnScope ["way"] ["way"] (aG kL):=by walk_at "s"
abbrev zDW:Stmt:=top 33
theorem zLk:FnScope ["way","weights","claims","catch"] ["way","weights","claims","catch"] (aG zDW):=by walk_at "s"
abbrev dZ:Stmt:=top 34
theorem eX:FnScope ["way","weights","claims","catch","most","lacking"] ["way","weights","claims","catch"] (aG dZ):=by walk_at "s"
abbrev pB:Stmt:=top 35
theorem fK:FnScope ["claims","catch","left","amounts","claim","amount"] ["claims","catch"] (aG pB):=by walk_at "s"
abbrev nT:Stmt:=top 36
theorem cY:FnScope ["weights","claims","catch","left","weight","amounts","spot","by_weight"] ["weights","claims","catch"] (aG nT):=by walk_at "s"
abbrev lI:Stmt:=top 37
theorem zCB:FnScope ["weights","claims"] ["weights","claims"] (aG lI):=by walk_at "s"
abbrev jZ:Stmt:=top 38
theorem iP:FnScope ["claims","catch","most","part"] ["claims","catch"] (aG jZ):=by walk_at "s"
abbrev jV:Stmt:=top 39
theorem lS:FnScope ["claims","catch","ones"] ["claims","catch"] (aG jV):=by walk_at "s"
abbrev zGW:Stmt:=top 44
theorem zOA:FnScope ["claim"] ["claim"] (aG zGW):=by walk_at "s"
abbrev zJE:Stmt:=top 45
theorem zHY:FnScope ["way","weights","kids","custom"] ["way","weights","kids"] (aG zJE):=by walk_at "s"
abbrev uJ:Stmt:=top 46
theorem zFT:FnScope ["custom"] ["custom"] (aG uJ):=by walk_at "s"
abbrev zAO:Stmt:=top 47
theorem zIM:FnScope ["custom"] ["custom"] (aG zAO):=by walk_at "s"
abbrev nQ:Stmt:=top 48
theorem zAE:FnScope ["custom"] ["custom"] (aG nQ):=by walk_at "s"
abbrev uB:Stmt:=top 49
theorem zFB:FnScope ["custom"] ["custom"] (aG uB):=by walk_at "s"
abbrev lD:Stmt:=top 50
theorem kE:FnScope ["custom","claims","kid"] ["custom"] (aG lD):=by walk_at "s"
abbrev sB:Stmt:=top 51
theorem zDI:FnScope ["custom"] ["custom"] (aG sB):=by walk_at "s"
abbrev kD:Stmt:=top 52
theorem pQ:FnScope ["custom"] ["custom"] (aG kD):=by walk_at "s"
abbrev mV:Stmt:=top 53
theorem sC:FnScope ["custom"] ["custom"] (aG mV):=by walk_at "s"
abbrev zAH:Stmt:=top 54
theorem zJl:FnScope ["custom","catch"] ["custom","catch"] (aG zAH):=by walk_at "s"
abbrev oA:Stmt:=top 55
theorem gH:FnScope ["custom","catch","amounts","told","kid","amount"] ["custom","catch"] (aG oA):=by walk_at "s"
abbrev wE:Stmt:=top 59
theorem rK:FnScope ["points","kept","point"] ["points"] (aG wE):=by walk_at "s"
abbrev mX:Stmt:=top 60
theorem iK:FnScope ["points","spot","ahead","point"] ["points"] (aG mX):=by walk_at "s"
abbrev nI:Stmt:=top 61
theorem fU:FnScope ["ahead","point","later","rise","later_rise","run","later_run"] ["ahead","point","later"] (aG nI):=by walk_at "s"
abbrev yN:Stmt:=top 62
theorem zJk:FnScope ["line"] ["line"] (aG yN):=by walk_at "s"
abbrev yO:Stmt:=top 63
theorem zHq:FnScope ["line"] ["line"] (aG yO):=by walk_at "s"
abbrev zDd:Stmt:=top 64
theorem zKC:FnScope ["line","x"] ["line","x"] (aG zDd):=by walk_at "s"
abbrev iG:Stmt:=top 65
theorem cJ:FnScope ["line","axis","amount","low","high","middle"] ["line","axis","amount"] (aG iG):=by walk_at "s"
abbrev zMT:Stmt:=top 66
theorem yA:FnScope ["line","axis","amount","other","spot","there","here","part"] ["line","axis","amount"] (aG zMT):=by walk_at "s"
abbrev qS:Stmt:=top 67
theorem mY:FnScope ["one","two","bends","joints"] ["one","two"] (aG qS):=by walk_at "s"
abbrev uA:Stmt:=top 68
theorem zCb:FnScope ["line"] ["line"] (aG uA):=by walk_at "s"
abbrev zAJ:Stmt:=top 69
theorem kT:FnScope ["one","two","both","spot","x"] ["one","two"] (aG zAJ):=by walk_at "s"
abbrev jA:Stmt:=top 71
theorem iB:FnScope ["way","weights","claims","joints","dealings"] ["way","weights","claims"] (aG jA):=by walk_at "s"
abbrev qO:Stmt:=top 72
theorem zGj:FnScope ["joints","dealings","spot"] ["joints","dealings","spot"] (aG qO):=by walk_at "s"
abbrev jD:Stmt:=top 73
theorem hU:FnScope ["way","weights","claims","most","early"] ["way","weights","claims"] (aG jD):=by walk_at "s"
abbrev nL:Stmt:=top 74
theorem gC:FnScope ["claims","filled","joints","claim"] ["claims"] (aG nL):=by walk_at "s"
abbrev lE:Stmt:=top 75
theorem cG:FnScope ["weights","claims","filled","weight","levels","joints","spot"] ["weights","claims"] (aG lE):=by walk_at "s"
abbrev oF:Stmt:=top 76
theorem uL:FnScope ["joints","most"] ["joints","most"] (aG oF):=by walk_at "s"
abbrev gN:Stmt:=top 77
theorem fX:FnScope ["joints","kept","joint"] ["joints"] (aG gN):=by walk_at "s"
abbrev kW:Stmt:=top 79
theorem fB:FnScope ["custom","ways","told","kid","way_line"] ["custom"] (aG kW):=by walk_at "s"
abbrev qY:Stmt:=top 80
theorem uI:FnScope ["claim","start"] ["claim"] (aG qY):=by walk_at "s"
abbrev zCT:Stmt:=top 82
theorem zLu:FnScope ["one","two"] ["one","two"] (aG zCT):=by walk_at "s"
abbrev zAx:Stmt:=top 83
theorem pO:FnScope ["one","two","ones","twos","number"] ["one","two"] (aG zAx):=by walk_at "s"
abbrev gU:Stmt:=top 84
theorem jB:FnScope ["one","two","joints"] ["one","two"] (aG gU):=by walk_at "s"
abbrev lT:Stmt:=top 86
theorem xB:FnScope ["script","k"] ["script","k"] (aG lT):=by walk_at "s"
abbrev kN:Stmt:=top 87
theorem cZ:FnScope ["top","bottom","one","two","rest"] ["top","bottom"] (aG kN):=by walk_at "s"
abbrev nR:Stmt:=top 88
theorem lR:FnScope ["cell","whole_v","bottom"] ["cell","whole_v"] (aG nR):=by walk_at "s"
abbrev mQ:Stmt:=top 89
theorem iM:FnScope ["script","at","most","claims","k","cell"] ["script","at","most"] (aG mQ):=by walk_at "s"
abbrev nZ:Stmt:=top 90
theorem jE:FnScope ["kids","cell","way","weights"] ["kids","cell"] (aG nZ):=by walk_at "s"
abbrev rG:Stmt:=top 91
theorem fE:FnScope ["claims","script","at","pile","k","claim","cell","many"] ["claims","script","at"] (aG rG):=by walk_at "s"
abbrev nO:Stmt:=top 92
theorem eK:FnScope ["found","catch","top","bottom","share"] ["found","catch"] (aG nO):=by walk_at "s"
abbrev kI:Stmt:=top 93
theorem fY:FnScope ["script","cells","k","cell"] ["script"] (aG kI):=by walk_at "s"
abbrev vT:Stmt:=top 94
theorem kU:FnScope ["script","cells","claims","one","two","same","told","first","cell","catch","mine","yours"] ["script"] (aG vT):=by walk_at "s"
structure Bt (mg:Str->Option Value):Prop where
 abs:mg "abs" = none
 sorted:mg "sorted" = none
 range:mg "range" = none
 len:mg "len" = none
 sum:mg "sum" = none
 zip:mg "zip" = none
 tuple:mg "tuple" = none
 max:mg "max" = none
 reversed:mg "reversed" = none
 enumerate:mg "enumerate" = none
 min:mg "min" = none
 list:mg "list" = none
structure Kt (K:PySem.W.Frag):Prop where
structure Ct (K:PySem.W.Frag) (mg:Str->Option Value):Prop where
 ACROSS:∃ v u,mg "ACROSS" = some u/\dB v u/\IsD K (fun _=>none) v d_ACROSS
 BOAT:∃ v u,mg "BOAT" = some u/\dB v u/\IsD K (fun _=>none) v d_BOAT
 DEEPEST:∃ v u,mg "DEEPEST" = some u/\dB v u/\IsD K (fun _=>none) v d_DEEPEST
 HALF:∃ v u,mg "HALF" = some u/\dB v u/\IsD K (fun _=>none) v d_HALF
 MOST_BOATS:∃ v u,mg "MOST_BOATS" = some u/\dB v u/\IsD K (fun _=>none) v d_MOST_BOATS
 NOUGHT:∃ v u,mg "NOUGHT" = some u/\dB v u/\IsD K (fun _=>none) v eY
 UP:∃ v u,mg "UP" = some u/\dB v u/\IsD K (fun _=>none) v d_UP
 WEIGHTED:∃ v u,mg "WEIGHTED" = some u/\dB v u/\IsD K (fun _=>none) v d_WEIGHTED
 CONTRARY:∃ a,IsTab K mg "CONTRARY" aV a
structure Rt (K:PySem.W.Frag) (mg:Str->Option Value):Prop where
 BadClaim:∃ C,Err K mg "BadClaim" C
 BadLine:∃ C,Err K mg "BadLine" C
 BadWay:∃ C,Err K mg "BadWay" C
 BadWeights:∃ C,Err K mg "BadWeights" C
 NoFraction:∃ C,Err K mg "NoFraction" C
 Outside:∃ C,Err K mg "Outside" C
 TooMany:∃ C,Err K mg "TooMany" C
 Unlike:∃ C,Err K mg "Unlike" C
structure Et (K:PySem.W.Frag) (mg:Str->Option Value):Prop where
theorem zRn{K:Fg_}{h:Heap}{mg:Str->Option Value}{t0 t1 t2 t3 t4 t5 t6 t7 t8 t9 t10:Tok}{pHALF0:Addr}{o_pHALF0:Option Addr}{n_pHALF0:Nat}{s_pHALF0:Array (Option Value)}{pNOUGHT1:Addr}{o_pNOUGHT1:Option Addr}{n_pNOUGHT1:Nat}{s_pNOUGHT1:Array (Option Value)}{pWEIGHTED2:Addr}{o_pWEIGHTED2:Option Addr}{n_pWEIGHTED2:Nat}{s_pWEIGHTED2:Array (Option Value)}{a_CONTRARY:Addr}(X:K.In h)(G:h.Ns mainGlobals mg)(n_ACROSS:PySem.W.nsIn K mainGlobals "ACROSS" = some (some (.int (0) t0)))(n_BOAT:PySem.W.nsIn K mainGlobals "BOAT" = some (some (.str "boat" t1)))(n_DEEPEST:PySem.W.nsIn K mainGlobals "DEEPEST" = some (some (.int (8) t2)))(n_HALF:PySem.W.nsIn K mainGlobals "HALF" = some (some (.ref pHALF0)))(pHALF0_l:K.lookup pHALF0=some ⟨.type "tuple", o_pHALF0,.seq #[.int (1) t3,.int (2) t4] n_pHALF0,s_pHALF0⟩)(n_MOST_BOATS:PySem.W.nsIn K mainGlobals "MOST_BOATS" = some (some (.int (12) t5)))(n_NOUGHT:PySem.W.nsIn K mainGlobals "NOUGHT" = some (some (.ref pNOUGHT1)))(pNOUGHT1_l:K.lookup pNOUGHT1=some ⟨.type "tuple", o_pNOUGHT1,.seq #[.int (0) t6,.int (1) t7] n_pNOUGHT1,s_pNOUGHT1⟩)(n_UP:PySem.W.nsIn K mainGlobals "UP" = some (some (.int (1) t8)))(n_WEIGHTED:PySem.W.nsIn K mainGlobals "WEIGHTED" = some (some (.ref pWEIGHTED2)))(pWEIGHTED2_l:K.lookup pWEIGHTED2=some ⟨.type "tuple", o_pWEIGHTED2,.seq #[.str "even" t9,.str "lack" t10] n_pWEIGHTED2,s_pWEIGHTED2⟩)(n_CONTRARY:PySem.W.nsIn K mainGlobals "CONTRARY" = some (some (.ref a_CONTRARY)))(aV:PyProof.Rows.KTD.tabLook (PyProof.Rows.KTD.datLooks fun a=>K.lookup a) (fun a=>K.lookup a) a_CONTRARY (zLb Lw.aV)=true):Ct K mg:=⟨⟨.int (0),_,QU X G n_ACROSS,⟨_,rfl⟩,(.int _)⟩,⟨.str "boat", _,QU X G n_BOAT,⟨_,rfl⟩,(.str _)⟩,⟨.int (8),_,QU X G n_DEEPEST,⟨_,rfl⟩,(.int _)⟩,⟨.ref pHALF0,_,QU X G n_HALF,rfl,(.tup (.inr ⟨_,_,_,pHALF0_l,rfl,rfl,Yn rfl,(.cons (show dB (.int (1)) _ from ⟨_,rfl⟩) (.cons (show dB (.int (2)) _ from ⟨_,rfl⟩) .nil))⟩) (.cons (.int _) (.cons (.int _) .nil)))⟩,⟨.int (12),_,QU X G n_MOST_BOATS,⟨_,rfl⟩,(.int _)⟩,⟨.ref pNOUGHT1,_,QU X G n_NOUGHT,rfl,(.tup (.inr ⟨_,_,_,pNOUGHT1_l,rfl,rfl,Yn rfl,(.cons (show dB (.int (0)) _ from ⟨_,rfl⟩) (.cons (show dB (.int (1)) _ from ⟨_,rfl⟩) .nil))⟩) (.cons (.int _) (.cons (.int _) .nil)))⟩,⟨.int (1),_,QU X G n_UP,⟨_,rfl⟩,(.int _)⟩,⟨.ref pWEIGHTED2,_,QU X G n_WEIGHTED,rfl,(.tup (.inr ⟨_,_,_,pWEIGHTED2_l,rfl,rfl,Yn rfl,(.cons (show dB (.str "even") _ from ⟨_,rfl⟩) (.cons (show dB (.str "lack") _ from ⟨_,rfl⟩) .nil))⟩) (.cons (.str _) (.cons (.str _) .nil)))⟩,⟨a_CONTRARY,QU X G n_CONTRARY,fun h X=>PyProof.Rows.KTD.text_of_look X aV⟩⟩
theorem zSa{K:Fg_}{h:Heap}{mg:Str->Option Value}{C_BadClaim:Addr}{C_BadLine:Addr}{C_BadWay:Addr}{C_BadWeights:Addr}{C_NoFraction:Addr}{C_Outside:Addr}{C_TooMany:Addr}{C_Unlike:Addr}(X:K.In h)(G:h.Ns mainGlobals mg)(n_BadClaim:PySem.W.nsIn K mainGlobals "BadClaim" = some (some (.ref C_BadClaim)))(x_BadClaim:PySem.W.excIn K C_BadClaim [.type "ValueError", .type "Exception", .type "BaseException", .type "object"] "ValueError.__new__" = true)(n_BadLine:PySem.W.nsIn K mainGlobals "BadLine" = some (some (.ref C_BadLine)))(x_BadLine:PySem.W.excIn K C_BadLine [.type "ValueError", .type "Exception", .type "BaseException", .type "object"] "ValueError.__new__" = true)(n_BadWay:PySem.W.nsIn K mainGlobals "BadWay" = some (some (.ref C_BadWay)))(x_BadWay:PySem.W.excIn K C_BadWay [.type "ValueError", .type "Exception", .type "BaseException", .type "object"] "ValueError.__new__" = true)(n_BadWeights:PySem.W.nsIn K mainGlobals "BadWeights" = some (some (.ref C_BadWeights)))(x_BadWeights:PySem.W.excIn K C_BadWeights [.type "ValueError", .type "Exception", .type "BaseException", .type "object"] "ValueError.__new__" = true)(n_NoFraction:PySem.W.nsIn K mainGlobals "NoFraction" = some (some (.ref C_NoFraction)))(x_NoFraction:PySem.W.excIn K C_NoFraction [.type "ValueError", .type "Exception", .type "BaseException", .type "object"] "ValueError.__new__" = true)(n_Outside:PySem.W.nsIn K mainGlobals "Outside" = some (some (.ref C_Outside)))(x_Outside:PySem.W.excIn K C_Outside [.type "ValueError", .type "Exception", .type "BaseException", .type "object"] "ValueError.__new__" = true)(n_TooMany:PySem.W.nsIn K mainGlobals "TooMany" = some (some (.ref C_TooMany)))(x_TooMany:PySem.W.excIn K C_TooMany [.type "ValueError", .type "Exception", .type "BaseException", .type "object"] "ValueError.__new__" = true)(n_Unlike:PySem.W.nsIn K mainGlobals "Unlike" = some (some (.ref C_Unlike)))(x_Unlike:PySem.W.excIn K C_Unlike [.type "ValueError", .type "Exception", .type "BaseException", .type "object"] "ValueError.__new__" = true):Rt K mg:=⟨sF X G n_BadClaim x_BadClaim VI,sF X G n_BadLine x_BadLine VI,sF X G n_BadWay x_BadWay VI,sF X G n_BadWeights x_BadWeights VI,sF X G n_NoFraction x_NoFraction VI,sF X G n_Outside x_Outside VI,sF X G n_TooMany x_TooMany VI,sF X G n_Unlike x_Unlike VI⟩
theorem zRl{K:Fg_}{h:Heap}{mg:Str->Option Value}(X:K.In h)(G:h.Ns mainGlobals mg):Et K mg:=⟨⟩
section
variable(P:Program)(w:World){K:Fg_}{mg:Str->Option Value}(base:Heap)(k:Nat){f:Addr}{fd:FuncData}
theorem zIN:RankDef iO:=⟨rfl,rfl,rfl,rfl,rfl,fun _ _ _=>⟨_,_,rfl,rfl,rfl⟩⟩
section
variable(B:Bt mg)(KT:Kt K)(C:Ct K mg)(R:Rt K mg)(ET:Et K mg)
include B KT C R ET
theorem rJ(F:Fn K mg "common_divisor" iC ["one","two"] f fd):CanM P w K mg base (k+1) "common_divisor" ["one","two"] dL:=
  aM F cI fun cdv A outer s H E G W WR=>(aF (bD (i:=0) cI.nd rfl (Or.inl rfl) (aT zAP zGL rfl B.abs boot_abs (aA (aJ 0) aE aB)))
 (aF (bD (i:=1) cI.nd rfl (Or.inl rfl) (aT zAP zGL rfl B.abs boot_abs (aA (aJ 1) aE aB)))
 (aF (zAw W.own (tst (neA W.u) zKv (aJ 1) bV (bE _)) (aF (bD (i:=2) cI.nd rfl (Or.inl rfl) (aU cM iX (aJ 0) (aJ 1)))
 (aF (bD (i:=0) cI.nd rfl (Or.inl rfl) (aJ 1))
 (aK (bD (i:=1) cI.nd rfl (Or.inl rfl) (aJ 2))))))
 (aK (cO (aJ 0))))))
theorem zKU(F:Fn K mg "whole" zDB ["number"] f fd):CanM P w K mg base (k+1) "whole" ["number"] bJ:=
 aM F zKA fun cdv A outer s H E G W WR=>(aK (cO (kR (aA (aJ 0) (aA bV aE bP) aB))))
theorem zOx(F:Fn K mg "less" zJv ["one","two"] f fd):CanM P w K mg base (k+1) "less" ["one","two"] fJ:=
 aM F zMz fun cdv A outer s H E G W WR=>(aK (cO (zEN zAS zLc (aU cK jN (lG 0) (lG 1)) (aU cK jN (lG 1) (lG 0)) (bE _))))
theorem zIb(F:Fn K mg "ranked" iO ["some"] f fd){T:Addr}(hT:pN K mg T)(hB:BMn base mg):CanR P w K mg base (k+1) kC:=
 zOl F qA zIN hT hB B.sorted B.range B.len rfl fun cdv A outer s H E G W WR=>⟨(bD (i:=1) qA.nd rfl (Or.inr rfl) bV),(mI W.own W.calm (jO (aJ 0)) (dW (i:=2) qA.nd rfl (Or.inl rfl)) bO (aK (bD (i:=1) qA.nd rfl (Or.inr rfl) (aU cK jN (aJ 1) (lG 2)))))⟩
theorem zN(F:Fn K mg "refuse_way" nJ ["way"] f fd):CanM P w K mg base (k+1) "refuse_way" ["way"] bY:=
 aM F yP fun cdv A outer s H E G W WR=>(aK (jU (zKc C.CONTRARY.choose_spec rfl (aJ 0) (by with_unfolding_all rfl)) (aK (fA W WR R.BadWay rfl (aA (mH cP fun _=>.str _) aE bP))) bL))
theorem sS(F:Fn K mg "refuse_claims" jG ["claims"] f fd):CanM P w K mg base (k+1) "refuse_claims" ["claims"] eG:=
  aM F lV fun cdv A outer s H E G W WR=>(aF (jU (tst (eqA W.u) sX (aT aR dS rfl B.len QD (aA (aJ 0) aE aB)) bV (bE _)) (aK (fA W WR R.BadClaim rfl (aA (mH cP fun _=>.str _) aE bP))) bL)
 (aK (mI W.own W.calm (jO (aJ 0)) (dW (i:=1) lV.nd rfl (Or.inl rfl)) bO (aK (jU (tst zAS zLc (aJ 1) bV (bE _)) (aK (fA W WR R.BadClaim rfl (aA (mH cP fun _=>.str _) aE bP))) bL)))))
theorem rZ(F:Fn K mg "refuse_weights" iE ["way","weights","many"] f fd):CanM P w K mg base (k+1) "refuse_weights" ["way","weights","many"] bB:=
  aM F gP fun cdv A outer s H E G W WR=>(aF (bD (i:=3) gP.nd rfl (Or.inl rfl) (zNP (tst (inA W.u) zSY (aJ 0) (bI rfl C.WEIGHTED) (by with_unfolding_all rfl)) (aJ 2) bV))
 (aF (jU (tst (neA W.u) zKv (aT aR dS rfl B.len QD (aA (aJ 1) aE aB)) (aJ 3) (bE _)) (aK (fA W WR R.BadWeights rfl (aA (mH cP fun _=>.str _) aE bP))) bL)
 (aK (mI W.own W.calm (jO (aJ 1)) (dW (i:=4) gP.nd rfl (Or.inl rfl)) bO (aK (jU (PWd.pt (zNW (tst zAS zLc (aJ 4) bV (bE _)) (zJb (tst zFH zOL (aJ 4) (aU nE zCz bV bV) (bE _))))) (aK (fA W WR R.BadWeights rfl (aA (mH cP fun _=>.str _) aE bP))) bL))))))
theorem zNs(F:Fn K mg "boat" zGW ["claim"] f fd):CanM P w K mg base (k+1) "boat" ["claim"] zCH:=
  aM F zOA fun cdv A outer s H E G W WR=>(aF (jU (PWd.pt (zNW (tst zAS zLc (aJ 0) bV (bE _)) (zJb (tst zFH zOL (aJ 0) (aU nE zCz bV bV) (bE _))))) (aK (fA W WR R.BadClaim rfl (aA (mH cP fun _=>.str _) aE bP))) bL)
 (aK (cO (kR (aA (bI rfl C.BOAT) (aA (aJ 0) aE aB) aB)))))
theorem zFJ(F:Fn K mg "is_boat" uJ ["custom"] f fd):CanM P w K mg base (k+1) "is_boat" ["custom"] cB:=
 aM F zFT fun cdv A outer s H E G W WR=>(aK (cO (zEN (eqA W.u) sX (lG 0) (bI rfl C.BOAT) (bE _))))
theorem zHu(F:Fn K mg "way_of" zAO ["custom"] f fd):CanM P w K mg base (k+1) "way_of" ["custom"] iQ:=
 aM F zIM fun cdv A outer s H E G W WR=>(aK (cO (lG 0)))
theorem zAK(F:Fn K mg "weights_of" nQ ["custom"] f fd):CanM P w K mg base (k+1) "weights_of" ["custom"] cW:=
 aM F zAE fun cdv A outer s H E G W WR=>(aK (cO (lG 0)))
theorem zIO(F:Fn K mg "length" yN ["line"] f fd):CanM P w K mg base (k+1) "length" ["line"] lP:=
 aM F zJk fun cdv A outer s H E G W WR=>(aK (cO (bT aP gE (bT aP gE (aJ 0) (sO bV) (fun _ _=>rfl)) (bI rfl C.ACROSS) (fun _ _=>rfl))))
theorem zGS(F:Fn K mg "height" yO ["line"] f fd):CanM P w K mg base (k+1) "height" ["line"] pG:=
 aM F zHq fun cdv A outer s H E G W WR=>(aK (cO (bT aP gE (bT aP gE (aJ 0) (sO bV) (fun _ _=>rfl)) (bI rfl C.UP) (fun _ _=>rfl))))
theorem zHp(F:Fn K mg "places" uA ["line"] f fd):CanM P w K mg base (k+1) "places" ["line"] gB:=
 aM F zCb fun cdv A outer s H E G W WR=>(aK (dY (fZ W zCb.nd rfl (sc:=aG uA) rfl rfl (by decide +kernel) (jO (aJ 0)) (fun C2 s2 H2 fp2 G W=>⟨kX,(bT aP gE (aJ 1) (bI rfl C.ACROSS) (fun _ _=>rfl))⟩))))
theorem wR(F:Fn K mg "_law_cell_at" lT ["script","k"] f fd):CanM P w K mg base (k+1) "_law_cell_at" ["script","k"] bH:=
  aM F xB fun cdv A outer s H E G W WR=>(aF (jU (tst zAS zLc (aJ 1) (aT aR dS rfl B.len QD (aA (aJ 0) aE aB)) (bE _)) (aK (cO (bT aP gE (aJ 0) (aJ 1) (fun _ _=>rfl)))) bL)
 (aK (cO bV)))
theorem vY(F:Fn K mg "_law_fraction" kN ["top","bottom"] f fd):CanM P w K mg base (k+1) "_law_fraction" ["top","bottom"] eR:=
  aM F cZ fun cdv A outer s H E G W WR=>(aF (bD (i:=2) cZ.nd rfl (Or.inl rfl) (aT zAP zGL rfl B.abs boot_abs (aA (aJ 0) aE aB)))
 (aF (bD (i:=3) cZ.nd rfl (Or.inl rfl) (aJ 1))
 (aF (zAw W.own (tst zFH zOL (aJ 3) bV (bE _)) (aF (bD (i:=4) cZ.nd rfl (Or.inl rfl) (aU cM iX (aJ 2) (aJ 3)))
 (aF (bD (i:=2) cZ.nd rfl (Or.inl rfl) (aJ 3))
 (aK (bD (i:=3) cZ.nd rfl (Or.inl rfl) (aJ 4))))))
 (aF (jU (tst (eqA W.u) sX (aJ 2) bV (bE _)) (aK (cO (kR (aA bV (aA bV aE bP) bP)))) bL)
 (aK (cO (kR (aA (aU dQ nG (aJ 0) (aJ 2)) (aA (aU dQ nG (aJ 1) (aJ 2)) aE bM) bM))))))))
theorem zAX(F:Fn K mg "_law_sum_is" nO ["found","catch"] f fd):CanM P w K mg base (k+1) "_law_sum_is" ["found","catch"] fL:=
  aM F eK fun cdv A outer s H E G W WR=>(aF (bD (i:=2) eK.nd rfl (Or.inl rfl) bV)
 (aF (bD (i:=3) eK.nd rfl (Or.inl rfl) bV)
 (aF (mI W.own W.calm (jO (aJ 0)) (dW (i:=4) eK.nd rfl (Or.inl rfl)) bO (aF (bD (i:=2) eK.nd rfl (Or.inl rfl) (aU dE lF (aU cK jN (aJ 2) (lG 4)) (aU cK jN (lG 4) (aJ 3))))
 (aK (bD (i:=3) eK.nd rfl (Or.inl rfl) (aU cK jN (aJ 3) (lG 4))))))
 (aK (cO (zEN (eqA W.u) sX (aU cK jN (aJ 2) (lG 1)) (aU cK jN (lG 1) (aJ 3)) (bE _)))))))
theorem zMW(F:Fn K mg "made" zGK ["top","bottom"] f fd)(YF:CanM P w K mg base k "common_divisor" ["one","two"] dL):CanM P w K mg base (k+1) "made" ["top","bottom"] jK:=
  aM F zCU fun cdv A outer s H E G W WR=>(aF (jU (tst (eqA W.u) sX (aJ 1) bV (bE _)) (aK (fA W WR R.NoFraction rfl (aA (mH cP fun _=>.str _) aE bP))) bL)
 (aF (bD (i:=2) zCU.nd rfl (Or.inl rfl) (aI W YF rfl (aA (aJ 0) (aA (aJ 1) aE aB) aB)))
 (aF (jU (tst zAS zLc (aJ 1) bV (bE _)) (aK (bD (i:=2) zCU.nd rfl (Or.inl rfl) (sO (aJ 2)))) bL)
 (aK (cO (kR (aA (aU dQ nG (aJ 0) (aJ 2)) (aA (aU dQ nG (aJ 1) (aJ 2)) aE bM) bM)))))))
theorem zHl(F:Fn K mg "lesser" zAh ["one","two"] f fd)(UH:CanM P w K mg base k "less" ["one","two"] fJ):CanM P w K mg base (k+1) "lesser" ["one","two"] lL:=
 aM F zJh fun cdv A outer s H E G W WR=>(aK (cO (zNP (zDh (aI W UH rfl (aA (aJ 0) (aA (aJ 1) aE aB) aB))) (aJ 0) (aJ 1))))
theorem yQ(F:Fn K mg "is_outside" nN ["amount","most"] f fd)(UH:CanM P w K mg base k "less" ["one","two"] fJ):CanM P w K mg base (k+1) "is_outside" ["amount","most"] eE:=
 aM F zB fun cdv A outer s H E G W WR=>(aK (cO (zRG (aI W UH rfl (aA (aJ 0) (aA (bI rfl C.NOUGHT) aE aB) aB)) (zQb (aI W UH rfl (aA (aJ 1) (aA (aJ 0) aE aB) aB))))))
theorem zHg(F:Fn K mg "looked" yT ["way","weights","claims"] f fd)(YW:CanM P w K mg base k "refuse_way" ["way"] bY)(YK:CanM P w K mg base k "refuse_claims" ["claims"] eG)(YH:CanM P w K mg base k "refuse_weights" ["way","weights","many"] bB):CanM P w K mg base (k+1) "looked" ["way","weights","claims"] lA:=
  aM F zHB fun cdv A outer s H E G W WR=>(aF (mF (aI W YW rfl (aA (aJ 0) aE aB)))
 (aF (mF (aI W YK rfl (aA (aJ 2) aE aB)))
 (aK (mF (aI W YH rfl (aA (aJ 0) (aA (aJ 1) (aA (aT aR dS rfl B.len QD (aA (aJ 2) aE aB)) aE aL) aB) aB))))))
theorem vX(F:Fn K mg "contrary_way" kL ["way"] f fd)(YW:CanM P w K mg base k "refuse_way" ["way"] bY):CanM P w K mg base (k+1) "contrary_way" ["way"] dO:=
  aM F vE fun cdv A outer s H E G W WR=>(aF (mF (aI W YW rfl (aA (aJ 0) aE aB)))
 (aK (cO (zMc C.CONTRARY.choose_spec rfl (aJ 0) (fun _ _=>rfl)))))
theorem zFD(F:Fn K mg "kids_of" uB ["custom"] f fd)(Um:CanM P w K mg base k "is_boat" ["custom"] cB):CanM P w K mg base (k+1) "kids_of" ["custom"] bQ:=
 aM F zFB fun cdv A outer s H E G W WR=>(aK (cO (zNP (zDh (aI W Um rfl (aA (aJ 0) aE aB))) (kR aE) (lG 0))))
theorem zAQ(F:Fn K mg "refuse_bad" mX ["points"] f fd)(UH:CanM P w K mg base k "less" ["one","two"] fJ):CanM P w K mg base (k+1) "refuse_bad" ["points"] gY:=
  aM F iK fun cdv A outer s H E G W WR=>(aF (jU (tst (eqA W.u) sX (aT aR dS rfl B.len QD (aA (aJ 0) aE aB)) bV (bE _)) (aK (fA W WR R.BadLine rfl (aA (mH cP fun _=>.str _) aE bP))) bL)
 (aF (jU (tst (neA W.u) zKv (lG 0) (kR (aA (bI rfl C.NOUGHT) (aA (bI rfl C.NOUGHT) aE aB) aB)) (bE _)) (aK (fA W WR R.BadLine rfl (aA (mH cP fun _=>.str _) aE bP))) bL)
 (aK (mI W.own W.calm (zMa rfl B.range (aA bV (aA (aT aR dS rfl B.len QD (aA (aJ 0) aE aB)) aE aL) bP)) (dW (i:=1) iK.nd rfl (Or.inl rfl)) bO (aF (bD (i:=2) iK.nd rfl (Or.inl rfl) (bT aP gE (aJ 0) (aU zCn zIk (aJ 1) bV) (fun _ _=>rfl)))
 (aF (bD (i:=3) iK.nd rfl (Or.inl rfl) (bT aP gE (aJ 0) (aJ 1) (fun _ _=>rfl)))
 (aF (jU (zRf (zDh (aI W UH rfl (aA (bT aP gE (aJ 2) (bI rfl C.ACROSS) (fun _ _=>rfl)) (aA (bT aP gE (aJ 3) (bI rfl C.ACROSS) (fun _ _=>rfl)) aE aZ) aZ)))) (aK (fA W WR R.BadLine rfl (aA (mH cP fun _=>.str _) aE bP))) bL)
 (aK (jU (zDh (aI W UH rfl (aA (bT aP gE (aJ 3) (bI rfl C.UP) (fun _ _=>rfl)) (aA (bT aP gE (aJ 2) (bI rfl C.UP) (fun _ _=>rfl)) aE aZ) aZ))) (aK (fA W WR R.BadLine rfl (aA (mH cP fun _=>.str _) aE bP))) bL)))))))))
theorem rC(F:Fn K mg "first_reaching" iG ["line","axis","amount"] f fd)(UH:CanM P w K mg base k "less" ["one","two"] fJ):CanM P w K mg base (k+1) "first_reaching" ["line","axis","amount"] dJ:=
  aM F cJ fun cdv A outer s H E G W WR=>(aF (bD (i:=3) cJ.nd rfl (Or.inl rfl) bV)
 (aF (bD (i:=4) cJ.nd rfl (Or.inl rfl) (aU zCn zIk (aT aR dS rfl B.len QD (aA (aJ 0) aE aB)) bV))
 (aF (zAw W.own (tst zAS zLc (aJ 3) (aJ 4) (bE _)) (aF (bD (i:=5) cJ.nd rfl (Or.inl rfl) (aU dQ nG (aU dE lF (aJ 3) (aJ 4)) bV))
 (aK (jU (zDh (aI W UH rfl (aA (bT aP gE (bT aP gE (aJ 0) (aJ 5) (fun _ _=>rfl)) (aJ 1) (fun _ _=>rfl)) (aA (aJ 2) aE aB) aZ))) (aK (bD (i:=3) cJ.nd rfl (Or.inl rfl) (aU dE lF (aJ 5) bV))) (aK (bD (i:=4) cJ.nd rfl (Or.inl rfl) (aJ 5)))))))
 (aK (cO (aJ 3))))))
theorem zIH(F:Fn K mg "merged" zAJ ["one","two"] f fd)(UH:CanM P w K mg base k "less" ["one","two"] fJ):CanM P w K mg base (k+1) "merged" ["one","two"] lH:=
  aM F kT fun cdv A outer s H E G W WR=>(aF (qE (i:=2) kT.nd rfl (Or.inl rfl) (dD aE))
 (aF (bD (i:=3) kT.nd rfl (Or.inl rfl) bV)
 (aF (mI W.own W.calm (jO (aJ 0)) (dW (i:=4) kT.nd rfl (Or.inl rfl)) bO (aF (zAw W.own (PWd.pt (zKZ (tst zAS zLc (aJ 3) (aT aR dS rfl B.len QD (aA (aJ 1) aE aB)) (bE _)) (zEl (zDh (aI W UH rfl (aA (bT aP gE (aJ 1) (aJ 3) (fun _ _=>rfl)) (aA (aJ 4) aE aB) aZ)))))) (aF (zAT (i:=2) (pv 2) (bT aP gE (aJ 1) (aJ 3) (fun _ _=>rfl)))
 (aK (zGx (i:=3) kT.nd rfl (Or.inl rfl) bV zES zAs tV))))
 (aF (jU (PWd.pt (zKZ (tst zAS zLc (aJ 3) (aT aR dS rfl B.len QD (aA (aJ 1) aE aB)) (bE _)) (zEl (tst (eqA W.u) sX (bT aP gE (aJ 1) (aJ 3) (fun _ _=>rfl)) (aJ 4) (bE _))))) (aK (zGx (i:=3) kT.nd rfl (Or.inl rfl) bV zES zAs tV)) bL)
 (aK (zAT (i:=2) (pv 2) (aJ 4))))))
 (aF (zKV (i:=2) (pv 2) (lB (aJ 1) (nU (aJ 3)) rE))
 (aK (fW 2 (pv 2)))))))
theorem zAM(F:Fn K mg "row_joints" nL ["claims"] f fd)(UC:CanM P w K mg base k "whole" ["number"] bJ):CanM P w K mg base (k+1) "row_joints" ["claims"] fO:=
  aM F gC fun cdv A outer s H E G W WR=>(aF (bD (i:=1) gC.nd rfl (Or.inl rfl) bV)
 (aF (qE (i:=2) gC.nd rfl (Or.inl rfl) (dD (aA (bI rfl C.NOUGHT) aE aB)))
 (aF (mI W.own W.calm (jO (aJ 0)) (dW (i:=3) gC.nd rfl (Or.inl rfl)) bO (aF (zGx (i:=1) gC.nd rfl (Or.inl rfl) (aJ 3) zES zAs tV)
 (aK (zAT (i:=2) (pv 2) (aI W UC rfl (aA (aJ 1) aE aB))))))
 (aK (fW 2 (pv 2))))))
theorem qL(F:Fn K mg "without_doubles" gN ["joints"] f fd)(UH:CanM P w K mg base k "less" ["one","two"] fJ):CanM P w K mg base (k+1) "without_doubles" ["joints"] dA:=
  aM F fX fun cdv A outer s H E G W WR=>(aF (qE (i:=1) fX.nd rfl (Or.inl rfl) (lB (aJ 0) rE (nU bV)))
 (aF (mI W.own W.calm (jO (aJ 0)) (dW (i:=2) fX.nd rfl (Or.inl rfl)) bO (aK (jU (PTd.frz (zDh (aI W UH rfl (aA (bT aP gE (aJ 1) (sO bV) (fun _ _=>rfl)) (aA (aJ 2) aE aB) aZ)))) (aK (zAT (i:=1) (pv 1) (aJ 2))) bL)))
 (aK (fW 1 (pv 1)))))
theorem zU(F:Fn K mg "_law_caught" nR ["cell","whole_v"] f fd)(YQ:CanM P w K mg base k "_law_fraction" ["top","bottom"] eR):CanM P w K mg base (k+1) "_law_caught" ["cell","whole_v"] hG:=
  aM F lR fun cdv A outer s H E G W WR=>(aF (bD (i:=0) lR.nd rfl (Or.inl rfl) (aU cM iX (aJ 0) (aU nE zCz bV bV)))
 (aF (bD (i:=2) lR.nd rfl (Or.inl rfl) (bT aP gE (PEf.d (dD (aA bV (aA bV (aA (aU dE lF bV (aU cM iX (aU dQ nG (aJ 0) bV) bV)) (aA (aU dE lF bV (aU cM iX (aU dQ nG (aJ 0) bV) (aU nE zCz bV bV))) aE bM) bM) bP) bP))) (aU cM iX (aJ 0) bV) (fun _ _=>rfl)))
 (aK (cO (aI W YQ rfl (aA (aU cM iX (aU dQ nG (aJ 0) bV) (aU dE lF (aU cK jN (aJ 1) (aJ 2)) bV)) (aA (aJ 2) aE aB) bM))))))
theorem yV(F:Fn K mg "_law_claims" mQ ["script","at","most"] f fd)(YS:CanM P w K mg base k "_law_cell_at" ["script","k"] bH):CanM P w K mg base (k+1) "_law_claims" ["script","at","most"] gX:=
  aM F iM fun cdv A outer s H E G W WR=>(aF (qE (i:=3) iM.nd rfl (Or.inl rfl) (dD aE))
 (aF (mI W.own W.calm (zEm rfl B.range (aA (aU dE lF bV (aU cM iX (aI W YS rfl (aA (aJ 0) (aA (aJ 1) aE aB) aB)) (aJ 2))) aE bM)) (dW (i:=4) iM.nd rfl (Or.inl rfl)) bO (aF (bD (i:=5) iM.nd rfl (Or.inl rfl) (aU cM iX (aI W YS rfl (aA (aJ 0) (aA (aU dE lF (aU dE lF (aJ 1) bV) (aJ 4)) aE bM) aB)) (aU nE zCz bV bV)))
 (aK (zAT (i:=3) (pv 3) (bT aP gE (PEf.d (dD (aA (aU cM iX (aU dQ nG (aJ 5) bV) bV) (aA (aU cM iX (aU dQ nG (aJ 5) bV) bV) (aA (aU cM iX (aU dQ nG (aJ 5) bV) (aU dE lF (aU nE zCz bV bV) bV)) aE bM) bM) bM))) (aU cM iX (aJ 5) bV) (fun _ _=>rfl))))))
 (aK (fW 3 (pv 3)))))
theorem vO(F:Fn K mg "_law_few_ways" kI ["script"] f fd)(YS:CanM P w K mg base k "_law_cell_at" ["script","k"] bH):CanM P w K mg base (k+1) "_law_few_ways" ["script"] eV:=
  aM F fY fun cdv A outer s H E G W WR=>(aF (qE (i:=1) fY.nd rfl (Or.inl rfl) (zMA rfl B.list boot_list (aA (aJ 0) aE aB)))
 (aF (jU (tst (eqA W.u) sX (aU cM iX (aU dQ nG (aI W YS rfl (aA (aJ 0) (aA bV aE bP) aB)) bV) bV) bV (bE _)) (aK (mI W.own W.calm (zMa rfl B.range (aA bV (aA (PEd.frz (aT (zCk W.calm) zLC rfl B.min boot_min (aA bV (aA (aT aR dS rfl B.len QD (aA (aJ 1) aE aB)) aE aL) bP))) aE aL) bP)) (dW (i:=2) fY.nd rfl (Or.inl rfl)) bO (aF (bD (i:=3) fY.nd rfl (Or.inl rfl) (PEd.frz (bT aP gE (aJ 1) (aJ 2) (fun _ _=>rfl))))
 (aK (zQA (i:=1) (pv 1) (aJ 2) (aU dE lF (aU dE lF (aU cM iX (aJ 3) bV) (aU cK jN (aU cM iX (aU dQ nG (aJ 3) bV) bV) bV)) (aU cK jN bV (aU cM iX (aU dQ nG (aJ 3) bV) bV)))))))) bL)
 (aK (fW 1 (pv 1)))))
theorem zMN(F:Fn K mg "plus" zGZ ["one","two"] f fd)(UJ:CanM P w K mg base k "made" ["top","bottom"] jK):CanM P w K mg base (k+1) "plus" ["one","two"] mD:=
 aM F zNj fun cdv A outer s H E G W WR=>(aK (cO (aI W UJ rfl (aA (aU dE lF (aU cK jN (lG 0) (lG 1)) (aU cK jN (lG 1) (lG 0))) (aA (aU cK jN (lG 0) (lG 1)) aE bM) bM))))
theorem zKH(F:Fn K mg "minus" zDl ["one","two"] f fd)(UJ:CanM P w K mg base k "made" ["top","bottom"] jK):CanM P w K mg base (k+1) "minus" ["one","two"] cS:=
 aM F zKq fun cdv A outer s H E G W WR=>(aK (cO (aI W UJ rfl (aA (aU zCn zIk (aU cK jN (lG 0) (lG 1)) (aU cK jN (lG 1) (lG 0))) (aA (aU cK jN (lG 0) (lG 1)) aE bM) bM))))
theorem zKJ(F:Fn K mg "times" zDi ["one","two"] f fd)(UJ:CanM P w K mg base k "made" ["top","bottom"] jK):CanM P w K mg base (k+1) "times" ["one","two"] dI:=
 aM F zKF fun cdv A outer s H E G W WR=>(aK (cO (aI W UJ rfl (aA (aU cK jN (lG 0) (lG 1)) (aA (aU cK jN (lG 0) (lG 1)) aE bM) bM))))
theorem zMX(F:Fn K mg "over" zJC ["one","two"] f fd)(UJ:CanM P w K mg base k "made" ["top","bottom"] jK):CanM P w K mg base (k+1) "over" ["one","two"] qI:=
 aM F zOo fun cdv A outer s H E G W WR=>(aK (cO (aI W UJ rfl (aA (aU cK jN (lG 0) (lG 1)) (aA (aU cK jN (lG 0) (lG 1)) aE bM) bM))))
theorem rR(F:Fn K mg "refuse_outside" iF ["amount","most"] f fd)(YZ:CanM P w K mg base k "is_outside" ["amount","most"] eE):CanM P w K mg base (k+1) "refuse_outside" ["amount","most"] bG:=
 aM F rA fun cdv A outer s H E G W WR=>(aK (jU (zDh (aI W YZ rfl (aA (aJ 0) (aA (aJ 1) aE aB) aB))) (aK (fA W WR R.Outside rfl (aA (mH cP fun _=>.str _) aE bP))) bL))
theorem zBd(F:Fn K mg "levels_of" lI ["weights","claims"] f fd)(UJ:CanM P w K mg base k "made" ["top","bottom"] jK):CanM P w K mg base (k+1) "levels_of" ["weights","claims"] eD:=
 aM F zCB fun cdv A outer s H E G W WR=>(aK (dY (uQ (N:=["weights","claims"]) W (by decide +kernel) rfl (sc:=aG lI) rfl rfl (by decide +kernel) (zHv rfl B.zip (aA (aJ 1) (aA (aJ 0) aE aB) aB)) (fun C2 s2 H2 fp2 G W=>(aI W UJ rfl (aA (aJ 2) (aA (aJ 3) aE aB) aB))))))
theorem zCE(F:Fn K mg "row_dealt" pB ["claims","catch"] f fd)(Us:CanM P w K mg base k "lesser" ["one","two"] lL)(UD:CanM P w K mg base k "minus" ["one","two"] cS)(UC:CanM P w K mg base k "whole" ["number"] bJ):CanM P w K mg base (k+1) "row_dealt" ["claims","catch"] gM:=
  aM F fK fun cdv A outer s H E G W WR=>(aF (bD (i:=2) fK.nd rfl (Or.inl rfl) (aJ 1))
 (aF (qE (i:=3) fK.nd rfl (Or.inl rfl) (dD aE))
 (aF (mI W.own W.calm (jO (aJ 0)) (dW (i:=4) fK.nd rfl (Or.inl rfl)) bO (aF (bD (i:=5) fK.nd rfl (Or.inl rfl) (aI W Us rfl (aA (aJ 2) (aA (aI W UC rfl (aA (aJ 4) aE aB)) aE aL) aB)))
 (aF (zAT (i:=3) (pv 3) (aJ 5))
 (aK (bD (i:=2) fK.nd rfl (Or.inl rfl) (aI W UD rfl (aA (aJ 2) (aA (aJ 5) aE aB) aB)))))))
 (aK (fW 3 (pv 3))))))
theorem zV(F:Fn K mg "even_dealt" nT ["weights","claims","catch"] f fd)(Ux:CanR P w K mg base k kC)(Y6:CanM P w K mg base k "levels_of" ["weights","claims"] eD)(UG:CanM P w K mg base k "over" ["one","two"] qI)(Us:CanM P w K mg base k "lesser" ["one","two"] lL)(UD:CanM P w K mg base k "minus" ["one","two"] cS)(UA:CanM P w K mg base k "times" ["one","two"] dI)(UC:CanM P w K mg base k "whole" ["number"] bJ):CanM P w K mg base (k+1) "even_dealt" ["weights","claims","catch"] dC:=
  aM F cY fun cdv A outer s H E G W WR=>(aF (bD (i:=3) cY.nd rfl (Or.inl rfl) (aJ 2))
 (aF (bD (i:=4) cY.nd rfl (Or.inl rfl) (aT (jS W.calm) sN rfl B.sum hJ (aA (aJ 0) aE aB)))
 (aF (qE (i:=5) cY.nd rfl (Or.inl rfl) (zFh (dD (aA (bI rfl C.NOUGHT) aE aB)) (aT aR dS rfl B.len QD (aA (aJ 1) aE aB))))
 (zIA W Ux zQT zMu rfl (aA (PEf.d (aY W Y6 rfl (aA (aJ 0) (aA (aJ 1) aE aB) aB))) aE aL) (dW (i:=6) cY.nd rfl (Or.inl rfl)) bO (aF (bD (i:=7) cY.nd rfl (Or.inl rfl) (aI W UG rfl (aA (aI W UA rfl (aA (aJ 3) (aA (aI W UC rfl (aA (bT aP gE (aJ 0) (aJ 6) (fun _ _=>rfl)) aE aZ)) aE aL) aB)) (aA (aI W UC rfl (aA (aJ 4) aE aB)) aE aL) aL)))
 (aF (zQA (i:=5) (pv 5) (aJ 6) (aI W Us rfl (aA (aJ 7) (aA (aI W UC rfl (aA (bT aP gE (aJ 1) (aJ 6) (fun _ _=>rfl)) aE aZ)) aE aL) aB)))
 (aF (bD (i:=3) cY.nd rfl (Or.inl rfl) (PEd.frz (aI W UD rfl (aA (aJ 3) (aA (bT aP gE (aJ 5) (aJ 6) (fun _ _=>rfl)) aE aZ) aB))))
 (aK (zGx (i:=4) cY.nd rfl (Or.inl rfl) (bT aP gE (aJ 0) (aJ 6) (fun _ _=>rfl)) zLy zIl zFq))))) (aK (fW 5 (pv 5)))))))
theorem zAy(F:Fn K mg "part_dealt" jZ ["claims","catch"] f fd)(UG:CanM P w K mg base k "over" ["one","two"] qI)(UC:CanM P w K mg base k "whole" ["number"] bJ)(UA:CanM P w K mg base k "times" ["one","two"] dI):CanM P w K mg base (k+1) "part_dealt" ["claims","catch"] fI:=
  aM F iP fun cdv A outer s H E G W WR=>(aF (bD (i:=2) iP.nd rfl (Or.inl rfl) (aT (jS W.calm) sN rfl B.sum hJ (aA (aJ 0) aE aB)))
 (aF (jU (tst (eqA W.u) sX (aJ 2) bV (bE _)) (aK (dY (zFh (dD (aA (bI rfl C.NOUGHT) aE aB)) (aT aR dS rfl B.len QD (aA (aJ 0) aE aB))))) bL)
 (aF (bD (i:=3) iP.nd rfl (Or.inr rfl) (aI W UG rfl (aA (aJ 1) (aA (aI W UC rfl (aA (aJ 2) aE aB)) aE aL) aB)))
 (aK (dY (fZ W iP.nd rfl (sc:=aG jZ) rfl rfl (by decide +kernel) (jO (aJ 0)) (fun C2 s2 H2 fp2 G W=>⟨kX,(aI W UA rfl (aA (aJ 3) (aA (aI W UC rfl (aA (aJ 4) aE aB)) aE aL) aB))⟩)))))))
theorem zK(F:Fn K mg "is_between" nI ["ahead","point","later"] f fd)(UD:CanM P w K mg base k "minus" ["one","two"] cS)(UA:CanM P w K mg base k "times" ["one","two"] dI):CanM P w K mg base (k+1) "is_between" ["ahead","point","later"] hZ:=
  aM F fU fun cdv A outer s H E G W WR=>(aF (bD (i:=3) fU.nd rfl (Or.inl rfl) (aI W UD rfl (aA (bT aP gE (aJ 1) (bI rfl C.UP) (fun _ _=>rfl)) (aA (bT aP gE (aJ 0) (bI rfl C.UP) (fun _ _=>rfl)) aE aZ) aZ)))
 (aF (bD (i:=4) fU.nd rfl (Or.inl rfl) (aI W UD rfl (aA (bT aP gE (aJ 2) (bI rfl C.UP) (fun _ _=>rfl)) (aA (bT aP gE (aJ 1) (bI rfl C.UP) (fun _ _=>rfl)) aE aZ) aZ)))
 (aF (bD (i:=5) fU.nd rfl (Or.inl rfl) (aI W UD rfl (aA (bT aP gE (aJ 1) (bI rfl C.ACROSS) (fun _ _=>rfl)) (aA (bT aP gE (aJ 0) (bI rfl C.ACROSS) (fun _ _=>rfl)) aE aZ) aZ)))
 (aF (bD (i:=6) fU.nd rfl (Or.inl rfl) (aI W UD rfl (aA (bT aP gE (aJ 2) (bI rfl C.ACROSS) (fun _ _=>rfl)) (aA (bT aP gE (aJ 1) (bI rfl C.ACROSS) (fun _ _=>rfl)) aE aZ) aZ)))
 (aK (cO (zEN (eqA W.u) sX (aI W UA rfl (aA (aJ 3) (aA (aJ 6) aE aB) aB)) (aI W UA rfl (aA (aJ 4) (aA (aJ 5) aE aB) aB)) (bE _))))))))
theorem zPX(F:Fn K mg "met" zMT ["line","axis","amount"] f fd)(YG:CanM P w K mg base k "first_reaching" ["line","axis","amount"] dJ)(UG:CanM P w K mg base k "over" ["one","two"] qI)(UK:CanM P w K mg base k "plus" ["one","two"] mD)(UD:CanM P w K mg base k "minus" ["one","two"] cS)(UA:CanM P w K mg base k "times" ["one","two"] dI):CanM P w K mg base (k+1) "met" ["line","axis","amount"] uM:=
  aM F yA fun cdv A outer s H E G W WR=>(aF (bD (i:=3) yA.nd rfl (Or.inl rfl) (aU zCn zIk bV (aJ 1)))
 (aF (bD (i:=4) yA.nd rfl (Or.inl rfl) (aI W YG rfl (aA (aJ 0) (aA (aJ 1) (aA (aJ 2) aE aB) aB) aB)))
 (aF (bD (i:=5) yA.nd rfl (Or.inl rfl) (bT aP gE (aJ 0) (aJ 4) (fun _ _=>rfl)))
 (aF (jU (tst (eqA W.u) sX (bT aP gE (aJ 5) (aJ 1) (fun _ _=>rfl)) (aJ 2) (bE _)) (aK (cO (bT aP gE (aJ 5) (aJ 3) (fun _ _=>rfl)))) bL)
 (aF (bD (i:=6) yA.nd rfl (Or.inl rfl) (bT aP gE (aJ 0) (aU zCn zIk (aJ 4) bV) (fun _ _=>rfl)))
 (aF (bD (i:=7) yA.nd rfl (Or.inl rfl) (aI W UG rfl (aA (aI W UD rfl (aA (aJ 2) (aA (bT aP gE (aJ 6) (aJ 1) (fun _ _=>rfl)) aE aZ) aB)) (aA (aI W UD rfl (aA (bT aP gE (aJ 5) (aJ 1) (fun _ _=>rfl)) (aA (bT aP gE (aJ 6) (aJ 1) (fun _ _=>rfl)) aE aZ) aZ)) aE aL) aL)))
 (aK (cO (aI W UK rfl (aA (bT aP gE (aJ 6) (aJ 3) (fun _ _=>rfl)) (aA (aI W UA rfl (aA (aJ 7) (aA (aI W UD rfl (aA (bT aP gE (aJ 5) (aJ 3) (fun _ _=>rfl)) (aA (bT aP gE (aJ 6) (aJ 3) (fun _ _=>rfl)) aE aZ) aZ)) aE aL) aB)) aE aL) aZ))))))))))
theorem xM(F:Fn K mg "even_joints" lE ["weights","claims"] f fd)(Y6:CanM P w K mg base k "levels_of" ["weights","claims"] eD)(Ux:CanR P w K mg base k kC)(UK:CanM P w K mg base k "plus" ["one","two"] mD)(UC:CanM P w K mg base k "whole" ["number"] bJ)(UA:CanM P w K mg base k "times" ["one","two"] dI):CanM P w K mg base (k+1) "even_joints" ["weights","claims"] dF:=
  aM F cG fun cdv A outer s H E G W WR=>(aF (bD (i:=2) cG.nd rfl (Or.inl rfl) bV)
 (aF (bD (i:=3) cG.nd rfl (Or.inl rfl) (aT (jS W.calm) sN rfl B.sum hJ (aA (aJ 0) aE aB)))
 (aF (bD (i:=4) cG.nd rfl (Or.inl rfl) (PEf.d (aY W Y6 rfl (aA (aJ 0) (aA (aJ 1) aE aB) aB))))
 (aF (qE (i:=5) cG.nd rfl (Or.inl rfl) (dD (aA (bI rfl C.NOUGHT) aE aB)))
 (zIA W Ux zQT zMu rfl (aA (aJ 4) aE aB) (dW (i:=6) cG.nd rfl (Or.inl rfl)) bO (aF (zAT (i:=5) (pv 5) (aI W UK rfl (aA (aI W UC rfl (aA (aJ 2) aE aB)) (aA (aI W UA rfl (aA (bT aP gE (aJ 4) (aJ 6) (fun _ _=>rfl)) (aA (aI W UC rfl (aA (aJ 3) aE aB)) aE aL) aZ)) aE aL) aL)))
 (aF (zGx (i:=2) cG.nd rfl (Or.inl rfl) (bT aP gE (aJ 1) (aJ 6) (fun _ _=>rfl)) zES zAs tV)
 (aK (zGx (i:=3) cG.nd rfl (Or.inl rfl) (bT aP gE (aJ 0) (aJ 6) (fun _ _=>rfl)) zLy zIl zFq)))) (aK (fW 5 (pv 5))))))))
theorem zDe(F:Fn K mg "mirrored" oF ["joints","most"] f fd)(UD:CanM P w K mg base k "minus" ["one","two"] cS):CanM P w K mg base (k+1) "mirrored" ["joints","most"] gK:=
 aM F uL fun cdv A outer s H E G W WR=>(aK (dY (fZ W uL.nd rfl (sc:=aG oF) rfl rfl (by decide +kernel) (zQh rfl B.reversed (aJ 0)) (fun C2 s2 H2 fp2 G W=>⟨kX,(aI W UD rfl (aA (aJ 1) (aA (aJ 2) aE aB) aB))⟩))))
theorem yY(F:Fn K mg "half_dealt" jV ["claims","catch"] f fd)(UA:CanM P w K mg base k "times" ["one","two"] dI)(YT:CanM P w K mg base k "even_dealt" ["weights","claims","catch"] dC)(UK:CanM P w K mg base k "plus" ["one","two"] mD):CanM P w K mg base (k+1) "half_dealt" ["claims","catch"] fP:=
  aM F lS fun cdv A outer s H E G W WR=>(aF (bD (i:=2) lS.nd rfl (Or.inl rfl) (PEf.d (zFh (dD (aA bV aE bP)) (aT aR dS rfl B.len QD (aA (aJ 0) aE aB)))))
 (aK (dY (fZ W lS.nd rfl (sc:=aG jV) rfl rfl (by decide +kernel) (jO (PEf.d (aY W YT rfl (aA (aJ 2) (aA (aJ 0) (aA (aI W UK rfl (aA (aJ 1) (aA (aJ 1) aE aB) aB)) aE aL) aB) aB)))) (fun C2 s2 H2 fp2 G W=>⟨kX,(aI W UA rfl (aA (aJ 3) (aA (bI rfl C.HALF) aE aB) aB))⟩)))))
theorem zGc(F:Fn K mg "line_of" wE ["points"] f fd)(YX:CanM P w K mg base k "refuse_bad" ["points"] gY)(Y2:CanM P w K mg base k "is_between" ["ahead","point","later"] hZ):CanM P w K mg base (k+1) "line_of" ["points"] eS:=
  aM F rK fun cdv A outer s H E G W WR=>(aF (mF (aI W YX rfl (aA (aJ 0) aE aB)))
 (aF (qE (i:=1) rK.nd rfl (Or.inl rfl) (dD aE))
 (aF (mI W.own W.calm (jO (aJ 0)) (dW (i:=2) rK.nd rfl (Or.inl rfl)) bO (aF (jU (PTd.frz (PWd.pt (zKZ (tst zFH zOL (aT aR dS rfl B.len QD (aA (aJ 1) aE aB)) bV (bE _)) (zEl (zDh (aI W Y2 rfl (aA (bT aP gE (aJ 1) (sO bV) (fun _ _=>rfl)) (aA (bT aP gE (aJ 1) (sO bV) (fun _ _=>rfl)) (aA (aJ 2) aE aB) aZ) aZ))))))) (aK (zRM (i:=1) (pv 1))) bL)
 (aK (zAT (i:=1) (pv 1) (aJ 2)))))
 (aK (cO (vI lU zHG rfl B.tuple boot_tuple (aA (aJ 1) aE aB)))))))
theorem zKr(F:Fn K mg "value" zDd ["line","x"] f fd)(YI:CanM P w K mg base k "refuse_outside" ["amount","most"] bG)(UL:CanM P w K mg base k "met" ["line","axis","amount"] uM)(Uu:CanM P w K mg base k "length" ["line"] lP):CanM P w K mg base (k+1) "value" ["line","x"] iY:=
  aM F zKC fun cdv A outer s H E G W WR=>(aF (mF (aI W YI rfl (aA (aJ 1) (aA (aI W Uu rfl (aA (aJ 0) aE aB)) aE aL) aB)))
 (aK (cO (aI W UL rfl (aA (aJ 0) (aA (bI rfl C.ACROSS) (aA (aJ 1) aE aB) aB) aB)))))
theorem zIX(F:Fn K mg "behind" qS ["one","two"] f fd)(Uq:CanM P w K mg base k "merged" ["one","two"] lH)(Uj:CanM P w K mg base k "line_of" ["points"] eS)(Uu:CanM P w K mg base k "length" ["line"] lP)(Up:CanM P w K mg base k "height" ["line"] pG)(UL:CanM P w K mg base k "met" ["line","axis","amount"] uM)(Uy:CanM P w K mg base k "places" ["line"] gB)(UB:CanM P w K mg base k "value" ["line","x"] iY):CanM P w K mg base (k+1) "behind" ["one","two"] gT:=
  aM F mY fun cdv A outer s H E G W WR=>(aF (jU (tst (neA W.u) zKv (aI W Uu rfl (aA (aJ 0) aE aB)) (aI W Up rfl (aA (aJ 1) aE aB)) (bE _)) (aK (fA W WR R.Unlike rfl (aA (mH cP fun _=>.str _) aE bP))) bL)
 (aF (zIS (i:=2) mY.nd rfl (Or.inl rfl) (PCf.d (yR W mY.nd rfl (sc:=aG qS) rfl rfl (by decide +kernel) (jO (PEf.d (aY W Uy rfl (aA (aJ 0) aE aB)))) (fun C2 s2 H2 fp2 G W=>⟨kX,(aI W UL rfl (aA (aJ 1) (aA (bI rfl C.UP) (aA (aJ 4) aE aB) aB) aB))⟩))) rfl)
 (aF (bD (i:=3) mY.nd rfl (Or.inl rfl) (PEf.d (aY W Uq rfl (aA (PEf.d (aY W Uy rfl (aA (aJ 1) aE aB))) (aA (aJ 2) aE aB) aL))))
 (aK (cO (aI W Uj rfl (aA (PEf.d (fZ W mY.nd rfl (sc:=aG qS) rfl rfl (by decide +kernel) (jO (aJ 3)) (fun C2 s2 H2 fp2 G W=>⟨kX,(kR (aA (aJ 4) (aA (aI W UB rfl (aA (aJ 0) (aA (aI W UB rfl (aA (aJ 1) (aA (aJ 4) aE aB) aB)) aE aL) aB)) aE aL) aB))⟩))) aE)))))))
theorem zGb(F:Fn K mg "line_at" qO ["joints","dealings","spot"] f fd)(Uj:CanM P w K mg base k "line_of" ["points"] eS):CanM P w K mg base (k+1) "line_at" ["joints","dealings","spot"] nF:=
 aM F zGj fun cdv A outer s H E G W WR=>(aK (cO (aI W Uj rfl (aA (PEf.d (uQ (N:=["joints","dealings","spot"]) W (by decide +kernel) rfl (sc:=aG qO) rfl rfl (by decide +kernel) (zHv rfl B.zip (aA (aJ 0) (aA (aJ 1) aE aB) aB)) (fun C2 s2 H2 fp2 G W=>(kR (aA (aJ 3) (aA (bT aP gE (aJ 4) (aJ 2) (fun _ _=>rfl)) aE aZ) aB))))) aE))))
theorem zDn(F:Fn K mg "straight" qY ["claim"] f fd)(Uj:CanM P w K mg base k "line_of" ["points"] eS)(UC:CanM P w K mg base k "whole" ["number"] bJ):CanM P w K mg base (k+1) "straight" ["claim"] gJ:=
  aM F uI fun cdv A outer s H E G W WR=>(aF (bD (i:=1) uI.nd rfl (Or.inl rfl) (kR (aA (bI rfl C.NOUGHT) (aA (bI rfl C.NOUGHT) aE aB) aB)))
 (aF (jU (tst (eqA W.u) sX (aJ 0) bV (bE _)) (aK (cO (aI W Uj rfl (aA (PEf.d (dD (aA (aJ 1) aE aB))) aE zEq)))) bL)
 (aK (cO (aI W Uj rfl (aA (PEf.d (dD (aA (aJ 1) (aA (kR (aA (aI W UC rfl (aA (aJ 0) aE aB)) (aA (aI W UC rfl (aA (aJ 0) aE aB)) aE aL) aL)) aE zKg) aB))) aE zEq))))))
theorem vM(F:Fn K mg "first_unlike" gU ["one","two"] f fd)(Uq:CanM P w K mg base k "merged" ["one","two"] lH)(Uy:CanM P w K mg base k "places" ["line"] gB)(UB:CanM P w K mg base k "value" ["line","x"] iY):CanM P w K mg base (k+1) "first_unlike" ["one","two"] eQ:=
  aM F jB fun cdv A outer s H E G W WR=>(aF (bD (i:=2) jB.nd rfl (Or.inl rfl) (PEf.d (aY W Uq rfl (aA (PEf.d (aY W Uy rfl (aA (aJ 0) aE aB))) (aA (PEf.d (aY W Uy rfl (aA (aJ 1) aE aB))) aE aL) aL))))
 (aK (cO (bT aP gE (PEf.d (fZ W jB.nd rfl (sc:=aG gU) rfl rfl (by decide +kernel) (jO (aJ 2)) (fun C2 s2 H2 fp2 G W=>⟨(zQQ (tst (neA W.u) zKv (aI W UB rfl (aA (aJ 0) (aA (aJ 3) aE aB) aB)) (aI W UB rfl (aA (aJ 1) (aA (aJ 3) aE aB) aB)) (bE _))),(aJ 3)⟩))) bV (fun _ _=>rfl)))))
theorem zBq{r:Mir}(F:Fn K mg "joints_of" jD ["way","weights","claims"] f fd)(UC:CanM P w K mg base k "whole" ["number"] bJ)(Uh:CanM P w K mg base k "mirrored" ["joints","most"] gK)(Y3:CanM P w K mg base k "row_joints" ["claims"] fO)(YR:CanM P w K mg base k "even_joints" ["weights","claims"] dF)(UA:CanM P w K mg base k "times" ["one","two"] dI)(YO:CanM P w K mg base k "contrary_way" ["way"] dO)(Ua:CanM P w K mg base k "joints_of" ["way","weights","claims"] r):CanM P w K mg base (k+1) "joints_of" ["way","weights","claims"] (cA r):=
  aM F hU fun cdv A outer s H E G W WR=>(aF (bD (i:=3) hU.nd rfl (Or.inl rfl) (aI W UC rfl (aA (aT (jS W.calm) sN rfl B.sum hJ (aA (aJ 2) aE aB)) aE aL)))
 (aF (jU (tst (eqA W.u) sX (aJ 0) (mH cP fun _=>.str _) (bE _)) (aK (dY (aY W Y3 rfl (aA (aJ 2) aE aB)))) bL)
 (aF (jU (tst (eqA W.u) sX (aJ 0) (mH cP fun _=>.str _) (bE _)) (aK (dY (aY W YR rfl (aA (aJ 1) (aA (aJ 2) aE aB) aB)))) bL)
 (aF (jU (tst (eqA W.u) sX (aJ 0) (mH cP fun _=>.str _) (bE _)) (aK (dY (dD (aA (bI rfl C.NOUGHT) (aA (aJ 3) aE aB) aB)))) bL)
 (aF (jU (tst (eqA W.u) sX (aJ 0) (mH cP fun _=>.str _) (bE _)) (aF (zIS (i:=4) hU.nd rfl (Or.inl rfl) (PCf.d (yR W hU.nd rfl (sc:=aG jD) rfl rfl (by decide +kernel) (jO (PEf.d (aY W YR rfl (aA (PEf.d (zFh (dD (aA bV aE bP)) (aT aR dS rfl B.len QD (aA (aJ 2) aE aB)))) (aA (aJ 2) aE aB) bM)))) (fun C2 s2 H2 fp2 G W=>⟨kX,(aI W UA rfl (aA (aJ 5) (aA (bI rfl C.HALF) aE aB) aB))⟩))) rfl)
 (aK (dY (zJM (aJ 4) (PEf.d (aY W Uh rfl (aA (aJ 4) (aA (aJ 3) aE aB) aB))))))) bL)
 (aK (dY (aY W Uh rfl (aA (PEf.d (aY W Ua rfl (aA (aI W YO rfl (aA (aJ 0) aE aB)) (aA (aJ 1) (aA (aJ 2) aE aB) aB) aL))) (aA (aJ 3) aE aB) aL)))))))))
theorem sH(F:Fn K mg "joints_of" jD ["way","weights","claims"] f fd)(UC:CanM P w K mg base k "whole" ["number"] bJ)(Uh:CanM P w K mg base k "mirrored" ["joints","most"] gK)(Y3:CanM P w K mg base k "row_joints" ["claims"] fO)(YR:CanM P w K mg base k "even_joints" ["weights","claims"] dF)(UA:CanM P w K mg base k "times" ["one","two"] dI)(YO:CanM P w K mg base k "contrary_way" ["way"] dO):∀ n:Nat,CanM P w K mg base (k+1+n) "joints_of" ["way","weights","claims"] (bK n)
 | 0=>aM F hU fun cdv A outer s H E G W WR=>zGm
 | n+1=>zBq _ _ _ (k+1+n) B KT C R ET F (UC:=UC.mono (by omega)) (Uh:=Uh.mono (by omega)) (Y3:=Y3.mono (by omega)) (YR:=YR.mono (by omega)) (UA:=UA.mono (by omega)) (YO:=YO.mono (by omega)) (Ua:=sH F (UC:=UC) (Uh:=Uh) (Y3:=Y3) (YR:=YR) (UA:=UA) (YO:=YO) n)
theorem tP{r:Mir}(F:Fn K mg "rightly_dealt" dZ ["way","weights","claims","catch"] f fd)(UC:CanM P w K mg base k "whole" ["number"] bJ)(Y9:CanM P w K mg base k "row_dealt" ["claims","catch"] gM)(YT:CanM P w K mg base k "even_dealt" ["weights","claims","catch"] dC)(YY:CanM P w K mg base k "part_dealt" ["claims","catch"] fI)(YU:CanM P w K mg base k "half_dealt" ["claims","catch"] fP)(UD:CanM P w K mg base k "minus" ["one","two"] cS)(UH:CanM P w K mg base k "less" ["one","two"] fJ)(UK:CanM P w K mg base k "plus" ["one","two"] mD)(YJ:CanM P w K mg base k "rightly_dealt" ["way","weights","claims","catch"] r):CanM P w K mg base (k+1) "rightly_dealt" ["way","weights","claims","catch"] (aS r):=
  aM F eX fun cdv A outer s H E G W WR=>(aF (bD (i:=4) eX.nd rfl (Or.inl rfl) (aI W UC rfl (aA (aT (jS W.calm) sN rfl B.sum hJ (aA (aJ 2) aE aB)) aE aL)))
 (aF (jU (tst (eqA W.u) sX (aJ 0) (mH cP fun _=>.str _) (bE _)) (aK (dY (aY W Y9 rfl (aA (aJ 2) (aA (aJ 3) aE aB) aB)))) bL)
 (aF (jU (tst (eqA W.u) sX (aJ 0) (mH cP fun _=>.str _) (bE _)) (aK (dY (aY W YT rfl (aA (aJ 1) (aA (aJ 2) (aA (aJ 3) aE aB) aB) aB)))) bL)
 (aF (jU (tst (eqA W.u) sX (aJ 0) (mH cP fun _=>.str _) (bE _)) (aK (dY (aY W YY rfl (aA (aJ 2) (aA (aJ 3) aE aB) aB)))) bL)
 (aF (jU (PWd.pt (zKZ (tst (eqA W.u) sX (aJ 0) (mH cP fun _=>.str _) (bE _)) (zEl (zRf (zDh (aI W UH rfl (aA (aJ 4) (aA (aI W UK rfl (aA (aJ 3) (aA (aJ 3) aE aB) aB)) aE aL) aB))))))) (aK (dY (aY W YU rfl (aA (aJ 2) (aA (aJ 3) aE aB) aB)))) bL)
 (aF (bD (i:=5) eX.nd rfl (Or.inl rfl) (PEf.d (aY W YJ rfl (aA (zMc C.CONTRARY.choose_spec rfl (aJ 0) (fun _ _=>rfl)) (aA (aJ 1) (aA (aJ 2) (aA (aI W UD rfl (aA (aJ 4) (aA (aJ 3) aE aB) aB)) aE aL) aB) aB) aZ))))
 (aK (dY (uQ (N:=["way","weights","claims","catch","most","lacking"]) W (by decide +kernel) rfl (sc:=aG dZ) rfl rfl (by decide +kernel) (zHv rfl B.zip (aA (aJ 2) (aA (aJ 5) aE aB) aB)) (fun C2 s2 H2 fp2 G W=>(aI W UD rfl (aA (aI W UC rfl (aA (aJ 6) aE aB)) (aA (aJ 7) aE aB) aL))))))))))))
theorem lW(F:Fn K mg "rightly_dealt" dZ ["way","weights","claims","catch"] f fd)(UC:CanM P w K mg base k "whole" ["number"] bJ)(Y9:CanM P w K mg base k "row_dealt" ["claims","catch"] gM)(YT:CanM P w K mg base k "even_dealt" ["weights","claims","catch"] dC)(YY:CanM P w K mg base k "part_dealt" ["claims","catch"] fI)(YU:CanM P w K mg base k "half_dealt" ["claims","catch"] fP)(UD:CanM P w K mg base k "minus" ["one","two"] cS)(UH:CanM P w K mg base k "less" ["one","two"] fJ)(UK:CanM P w K mg base k "plus" ["one","two"] mD):∀ n:Nat,CanM P w K mg base (k+1+n) "rightly_dealt" ["way","weights","claims","catch"] (aN n)
 | 0=>aM F eX fun cdv A outer s H E G W WR=>zGm
 | n+1=>tP _ _ _ (k+1+n) B KT C R ET F (UC:=UC.mono (by omega)) (Y9:=Y9.mono (by omega)) (YT:=YT.mono (by omega)) (YY:=YY.mono (by omega)) (YU:=YU.mono (by omega)) (UD:=UD.mono (by omega)) (UH:=UH.mono (by omega)) (UK:=UK.mono (by omega)) (YJ:=lW F (UC:=UC) (Y9:=Y9) (YT:=YT) (YY:=YY) (YU:=YU) (UD:=UD) (UH:=UH) (UK:=UK) n)
theorem zLq(F:Fn K mg "dealt" zDW ["way","weights","claims","catch"] f fd)(Uv:CanM P w K mg base k "looked" ["way","weights","claims"] lA)(YI:CanM P w K mg base k "refuse_outside" ["amount","most"] bG)(YJ:CanM P w K mg base k "rightly_dealt" ["way","weights","claims","catch"] (aN 2))(UC:CanM P w K mg base k "whole" ["number"] bJ):CanM P w K mg base (k+1) "dealt" ["way","weights","claims","catch"] rF:=
  aM F zLk fun cdv A outer s H E G W WR=>(aF (mF (aI W Uv rfl (aA (aJ 0) (aA (aJ 1) (aA (aJ 2) aE aB) aB) aB)))
 (aF (mF (aI W YI rfl (aA (aJ 3) (aA (aI W UC rfl (aA (aT (jS W.calm) sN rfl B.sum hJ (aA (aJ 2) aE aB)) aE aL)) aE aL) aB)))
 (aK (dY (aY W YJ rfl (aA (aJ 0) (aA (aJ 1) (aA (aJ 2) (aA (aJ 3) aE aB) aB) aB) aB))))))
theorem zBp(F:Fn K mg "way_lines" jA ["way","weights","claims"] f fd)(Uv:CanM P w K mg base k "looked" ["way","weights","claims"] lA)(YE:CanM P w K mg base k "without_doubles" ["joints"] dA)(Ua:CanM P w K mg base k "joints_of" ["way","weights","claims"] (bK 2))(YJ:CanM P w K mg base k "rightly_dealt" ["way","weights","claims","catch"] (aN 2))(Ul:CanM P w K mg base k "line_at" ["joints","dealings","spot"] nF):CanM P w K mg base (k+1) "way_lines" ["way","weights","claims"] gO:=
  aM F iB fun cdv A outer s H E G W WR=>(aF (mF (aI W Uv rfl (aA (aJ 0) (aA (aJ 1) (aA (aJ 2) aE aB) aB) aB)))
 (aF (bD (i:=3) iB.nd rfl (Or.inr rfl) (PEf.d (aY W YE rfl (aA (PEf.d (aY W Ua rfl (aA (aJ 0) (aA (aJ 1) (aA (aJ 2) aE aB) aB) aB))) aE aL))))
 (aF (bD (i:=4) iB.nd rfl (Or.inr rfl) (PEf.d (fZ W iB.nd rfl (sc:=aG jA) rfl rfl (by decide +kernel) (jO (aJ 3)) (fun C2 s2 H2 fp2 G W=>⟨kX,(PEf.d (aY W YJ rfl (aA (aJ 0) (aA (aJ 1) (aA (aJ 2) (aA (aJ 5) aE aB) aB) aB) aB)))⟩))))
 (aK (dY (fZ W iB.nd rfl (sc:=aG jA) rfl rfl (by decide +kernel) (zEm rfl B.range (aA (aT aR dS rfl B.len QD (aA (aJ 2) aE aB)) aE aL)) (fun C2 s2 H2 fp2 G W=>⟨kX,(aI W Ul rfl (aA (aJ 3) (aA (aJ 4) (aA (aJ 5) aE aB) aB) aB))⟩)))))))
theorem zCg{r:Mir}(F:Fn K mg "claims_of" lD ["custom"] f fd)(Um:CanM P w K mg base k "is_boat" ["custom"] cB)(Uk:CanM P w K mg base k "kids_of" ["custom"] bQ)(Y8:CanM P w K mg base k "claims_of" ["custom"] r):CanM P w K mg base (k+1) "claims_of" ["custom"] (lK r):=
  aM F kE fun cdv A outer s H E G W WR=>(aF (jU (zDh (aI W Um rfl (aA (aJ 0) aE aB))) (aK (dY (dD (aA (lG 0) aE aZ)))) bL)
 (aF (qE (i:=1) kE.nd rfl (Or.inl rfl) (dD aE))
 (aF (mI W.own W.calm (jO (aI W Uk rfl (aA (aJ 0) aE aB))) (dW (i:=2) kE.nd rfl (Or.inl rfl)) bO (aK (zKV (i:=1) (pv 1) (aY W Y8 rfl (aA (aJ 2) aE aB)))))
 (aK (fW 1 (pv 1))))))
theorem sL(F:Fn K mg "claims_of" lD ["custom"] f fd)(Um:CanM P w K mg base k "is_boat" ["custom"] cB)(Uk:CanM P w K mg base k "kids_of" ["custom"] bQ):∀ n:Nat,CanM P w K mg base (k+1+n) "claims_of" ["custom"] (cN n)
 | 0=>aM F kE fun cdv A outer s H E G W WR=>zGm
 | n+1=>zCg _ _ _ (k+1+n) B KT C R ET F (Um:=Um.mono (by omega)) (Uk:=Uk.mono (by omega)) (Y8:=sL F (Um:=Um) (Uk:=Uk) n)
theorem zFG{r:Mir}(F:Fn K mg "deep_of" mV ["custom"] f fd)(Uk:CanM P w K mg base k "kids_of" ["custom"] bQ)(Ui:CanM P w K mg base k "deep_of" ["custom"] r):CanM P w K mg base (k+1) "deep_of" ["custom"] (pS r):=
 aM F sC fun cdv A outer s H E G W WR=>(aK (cO (aU dE lF bV (zNx W.calm rfl B.max (PEf.d (fZ W sC.nd rfl (sc:=aG mV) rfl rfl (by decide +kernel) (jO (aI W Uk rfl (aA (aJ 0) aE aB))) (fun C2 s2 H2 fp2 G W=>⟨kX,(aI W Ui rfl (aA (aJ 1) aE aB))⟩))) bV))))
theorem yB(F:Fn K mg "deep_of" mV ["custom"] f fd)(Uk:CanM P w K mg base k "kids_of" ["custom"] bQ):∀ n:Nat,CanM P w K mg base (k+1+n) "deep_of" ["custom"] (jH n)
 | 0=>aM F sC fun cdv A outer s H E G W WR=>zGm
 | n+1=>zFG _ _ _ (k+1+n) B KT C R ET F (Uk:=Uk.mono (by omega)) (Ui:=yB F (Uk:=Uk) n)
theorem zOh(F:Fn K mg "knot" zJE ["way","weights","kids"] f fd)(YW:CanM P w K mg base k "refuse_way" ["way"] bY)(YH:CanM P w K mg base k "refuse_weights" ["way","weights","many"] bB)(Ui:CanM P w K mg base k "deep_of" ["custom"] (jH 10))(Y8:CanM P w K mg base k "claims_of" ["custom"] (cN 10)):CanM P w K mg base (k+1) "knot" ["way","weights","kids"] yI:=
  aM F zHY fun cdv A outer s H E G W WR=>(aF (mF (aI W YW rfl (aA (aJ 0) aE aB)))
 (aF (mF (aI W YH rfl (aA (aJ 0) (aA (aJ 1) (aA (aT aR dS rfl B.len QD (aA (aJ 2) aE aB)) aE aL) aB) aB)))
 (aF (bD (i:=3) zHY.nd rfl (Or.inl rfl) (kR (aA (aJ 0) (aA (vI lU zHG rfl B.tuple boot_tuple (aA (aJ 1) aE aB)) (aA (vI lU zHG rfl B.tuple boot_tuple (aA (aJ 2) aE aB)) aE aL) aL) aB)))
 (aF (jU (PWd.pt (zNW (tst (eqA W.u) sX (aT aR dS rfl B.len QD (aA (aJ 2) aE aB)) bV (bE _)) (zNW (tst zFH zOL (aT aR dS rfl B.len QD (aA (PEf.d (aY W Y8 rfl (aA (aJ 3) aE aB))) aE aL)) (bI rfl C.MOST_BOATS) (bE _)) (zJb (tst zFH zOL (aI W Ui rfl (aA (aJ 3) aE aB)) (bI rfl C.DEEPEST) (bE _)))))) (aK (fA W WR R.TooMany rfl (aA (mH cP fun _=>.str _) aE bP))) bL)
 (aK (cO (aJ 3)))))))
theorem zDP(F:Fn K mg "claim_of" sB ["custom"] f fd)(Y8:CanM P w K mg base k "claims_of" ["custom"] (cN 10)):CanM P w K mg base (k+1) "claim_of" ["custom"] dP:=
 aM F zDI fun cdv A outer s H E G W WR=>(aK (cO (aT (jS W.calm) sN rfl B.sum hJ (aA (PEf.d (aY W Y8 rfl (aA (aJ 0) aE aB))) aE aL))))
theorem zAc(F:Fn K mg "kid_claims" kD ["custom"] f fd)(Ug:CanM P w K mg base k "claim_of" ["custom"] dP)(Uk:CanM P w K mg base k "kids_of" ["custom"] bQ):CanM P w K mg base (k+1) "kid_claims" ["custom"] cV:=
 aM F pQ fun cdv A outer s H E G W WR=>(aK (dY (fZ W pQ.nd rfl (sc:=aG kD) rfl rfl (by decide +kernel) (jO (aI W Uk rfl (aA (aJ 0) aE aB))) (fun C2 s2 H2 fp2 G W=>⟨kX,(aI W Ug rfl (aA (aJ 1) aE aB))⟩))))
theorem zCY(F:Fn K mg "_law_knot" nZ ["kids","cell"] f fd)(UI:CanM P w K mg base k "knot" ["way","weights","kids"] yI):CanM P w K mg base (k+1) "_law_knot" ["kids","cell"] iU:=
  aM F jE fun cdv A outer s H E G W WR=>(aF (bD (i:=2) jE.nd rfl (Or.inl rfl) (bT aP gE (PEf.d (dD (aA (mH cP fun _=>.str _) (aA (mH cP fun _=>.str _) (aA (mH cP fun _=>.str _) (aA (mH cP fun _=>.str _) (aA (mH cP fun _=>.str _) (aA (mH cP fun _=>.str _) aE bP) bP) bP) bP) bP) bP))) (aU cM iX (aJ 1) bV) (fun _ _=>rfl)))
 (aF (bD (i:=3) jE.nd rfl (Or.inl rfl) (PEf.d (dD aE)))
 (aF (jU (PWd.pt (zNW (tst (eqA W.u) sX (aJ 2) (mH cP fun _=>.str _) (bE _)) (zJb (tst (eqA W.u) sX (aJ 2) (mH cP fun _=>.str _) (bE _))))) (aK (zIS (i:=3) jE.nd rfl (Or.inl rfl) (PCf.d (yR W jE.nd rfl (sc:=aG nZ) rfl rfl (by decide +kernel) (zEm rfl B.range (aA (aT aR dS rfl B.len QD (aA (aJ 0) aE aB)) aE aL)) (fun C2 s2 H2 fp2 G W=>⟨kX,(aU dE lF bV (aU cM iX (aU dQ nG (aJ 1) (aU dE lF bV (aU cK jN bV (aJ 4)))) bV))⟩))) rfl)) bL)
 (aK (cO (aI W UI rfl (aA (aJ 2) (aA (aJ 3) (aA (aJ 0) aE aB) aB) aB)))))))
theorem zCP(F:Fn K mg "_law_tree" rG ["claims","script","at"] f fd)(Uc:CanM P w K mg base k "_law_knot" ["kids","cell"] iU)(UF:CanM P w K mg base k "boat" ["claim"] zCH)(YS:CanM P w K mg base k "_law_cell_at" ["script","k"] bH):CanM P w K mg base (k+1) "_law_tree" ["claims","script","at"] iW:=
  aM F fE fun cdv A outer s H E G W WR=>(aF (qE (i:=3) fE.nd rfl (Or.inl rfl) (dD aE))
 (aF (mI W.own W.calm (zPE rfl B.enumerate (aJ 0)) (zNo W.calm (rW (dW (i:=4) fE.nd rfl (Or.inl rfl)) (rW (dW (i:=5) fE.nd rfl (Or.inl rfl)) zHb)) (sA (sA zJH))) (zDc (oC bO (oC bO zDK))) (aF (zAT (i:=3) (pv 3) (aI W UF rfl (aA (aJ 5) aE aB)))
 (aF (bD (i:=6) fE.nd rfl (Or.inl rfl) (aU cM iX (aI W YS rfl (aA (aJ 1) (aA (aU dE lF (aJ 2) (aJ 4)) aE bM) aB)) (aU nE zCz bV bV)))
 (aK (jU (tst (eqA W.u) sX (aU cM iX (aJ 6) bV) bV (bE _)) (aF (bD (i:=7) fE.nd rfl (Or.inl rfl) (PEd.frz (aU dE lF bV (aU cM iX (aU dQ nG (aJ 6) bV) (aT (zCk W.calm) zLC rfl B.min boot_min (aA bV (aA (aT aR dS rfl B.len QD (aA (aJ 3) aE aB)) aE aL) bP))))))
 (aK (qE (i:=3) fE.nd rfl (Or.inl rfl) (PEf.frz (zJM (PEf.d (lB (aJ 3) rE (nU (sO (aJ 7))))) (PEf.d (dD (aA (aI W Uc rfl (aA (PEf.d (lB (aJ 3) (nU (sO (aJ 7))) rE)) (aA (aU dQ nG (aJ 6) bV) aE bM) aZ)) aE aL)))))))) bL)))))
 (fH.frzAt 3 (aK (cO (aI W Uc rfl (aA (aJ 3) (aA (aU cM iX (aI W YS rfl (aA (aJ 1) (aA (aU dE lF (aJ 2) (aT aR dS rfl B.len QD (aA (aJ 0) aE aB))) aE bM) aB)) (aU nE zCz bV bV)) aE bM) aB)))))))
theorem zDw{r:Mir}(F:Fn K mg "dealt_on" oA ["custom","catch"] f fd)(Um:CanM P w K mg base k "is_boat" ["custom"] cB)(Uz:CanM P w K mg base k "dealt" ["way","weights","claims","catch"] rF)(Ur:CanM P w K mg base k "way_of" ["custom"] iQ)(YV:CanM P w K mg base k "weights_of" ["custom"] cW)(Y0:CanM P w K mg base k "kid_claims" ["custom"] cV)(Uk:CanM P w K mg base k "kids_of" ["custom"] bQ)(Uf:CanM P w K mg base k "dealt_on" ["custom","catch"] r):CanM P w K mg base (k+1) "dealt_on" ["custom","catch"] (iV r):=
  aM F gH fun cdv A outer s H E G W WR=>(aF (jU (zDh (aI W Um rfl (aA (aJ 0) aE aB))) (aK (dY (dD (aA (aJ 1) aE aB)))) bL)
 (aF (bD (i:=2) gH.nd rfl (Or.inl rfl) (PEf.d (aY W Uz rfl (aA (aI W Ur rfl (aA (aJ 0) aE aB)) (aA (aI W YV rfl (aA (aJ 0) aE aB)) (aA (PEf.d (aY W Y0 rfl (aA (aJ 0) aE aB))) (aA (aJ 1) aE aB) aL) aL) aL))))
 (aF (qE (i:=3) gH.nd rfl (Or.inl rfl) (dD aE))
 (aF (mI W.own W.calm (zHv rfl B.zip (aA (aI W Uk rfl (aA (aJ 0) aE aB)) (aA (aJ 2) aE aB) aL)) (zNo W.calm (rW (dW (i:=4) gH.nd rfl (Or.inl rfl)) (rW (dW (i:=5) gH.nd rfl (Or.inl rfl)) zHb)) (sA (sA zJH))) (zDc (oC bO (oC bO zDK))) (aK (zKV (i:=3) (pv 3) (aY W Uf rfl (aA (aJ 4) (aA (aJ 5) aE aB) aB)))))
 (aK (fW 3 (pv 3)))))))
theorem vP(F:Fn K mg "dealt_on" oA ["custom","catch"] f fd)(Um:CanM P w K mg base k "is_boat" ["custom"] cB)(Uz:CanM P w K mg base k "dealt" ["way","weights","claims","catch"] rF)(Ur:CanM P w K mg base k "way_of" ["custom"] iQ)(YV:CanM P w K mg base k "weights_of" ["custom"] cW)(Y0:CanM P w K mg base k "kid_claims" ["custom"] cV)(Uk:CanM P w K mg base k "kids_of" ["custom"] bQ):∀ n:Nat,CanM P w K mg base (k+1+n) "dealt_on" ["custom","catch"] (fN n)
 | 0=>aM F gH fun cdv A outer s H E G W WR=>zGm
 | n+1=>zDw _ _ _ (k+1+n) B KT C R ET F (Um:=Um.mono (by omega)) (Uz:=Uz.mono (by omega)) (Ur:=Ur.mono (by omega)) (YV:=YV.mono (by omega)) (Y0:=Y0.mono (by omega)) (Uk:=Uk.mono (by omega)) (Uf:=vP F (Um:=Um) (Uz:=Uz) (Ur:=Ur) (YV:=YV) (Y0:=Y0) (Uk:=Uk) n)
theorem zDF{r:Mir}(F:Fn K mg "lines_of" kW ["custom"] f fd)(Um:CanM P w K mg base k "is_boat" ["custom"] cB)(Y7:CanM P w K mg base k "way_lines" ["way","weights","claims"] gO)(Ur:CanM P w K mg base k "way_of" ["custom"] iQ)(YV:CanM P w K mg base k "weights_of" ["custom"] cW)(Y0:CanM P w K mg base k "kid_claims" ["custom"] cV)(Uk:CanM P w K mg base k "kids_of" ["custom"] bQ)(Ud:CanM P w K mg base k "straight" ["claim"] gJ)(Ug:CanM P w K mg base k "claim_of" ["custom"] dP)(Uw:CanM P w K mg base k "behind" ["one","two"] gT)(Ue:CanM P w K mg base k "lines_of" ["custom"] r):CanM P w K mg base (k+1) "lines_of" ["custom"] (iS r):=
  aM F fB fun cdv A outer s H E G W WR=>(aF (jU (zDh (aI W Um rfl (aA (aJ 0) aE aB))) (aK (dY (dD (aA (aI W Ud rfl (aA (aI W Ug rfl (aA (aJ 0) aE aB)) aE aL)) aE aL)))) bL)
 (aF (bD (i:=1) fB.nd rfl (Or.inl rfl) (PEf.d (aY W Y7 rfl (aA (aI W Ur rfl (aA (aJ 0) aE aB)) (aA (aI W YV rfl (aA (aJ 0) aE aB)) (aA (PEf.d (aY W Y0 rfl (aA (aJ 0) aE aB))) aE aL) aL) aL))))
 (aF (qE (i:=2) fB.nd rfl (Or.inl rfl) (dD aE))
 (aF (mI W.own W.calm (zHv rfl B.zip (aA (aI W Uk rfl (aA (aJ 0) aE aB)) (aA (aJ 1) aE aB) aL)) (zNo W.calm (rW (dW (i:=3) fB.nd rfl (Or.inl rfl)) (rW (dW (i:=4) fB.nd rfl (Or.inr rfl)) zHb)) (sA (sA zJH))) (zDc (oC bO (oC bO zDK))) (aK (zKV (i:=2) (pv 2) (fZ W fB.nd rfl (sc:=aG kW) rfl rfl (by decide +kernel) (jO (PEf.d (aY W Ue rfl (aA (aJ 3) aE aB)))) (fun C2 s2 H2 fp2 G W=>⟨kX,(aI W Uw rfl (aA (aJ 5) (aA (aJ 4) aE aB) aB))⟩)))))
 (aK (fW 2 (pv 2)))))))
theorem uC(F:Fn K mg "lines_of" kW ["custom"] f fd)(Um:CanM P w K mg base k "is_boat" ["custom"] cB)(Y7:CanM P w K mg base k "way_lines" ["way","weights","claims"] gO)(Ur:CanM P w K mg base k "way_of" ["custom"] iQ)(YV:CanM P w K mg base k "weights_of" ["custom"] cW)(Y0:CanM P w K mg base k "kid_claims" ["custom"] cV)(Uk:CanM P w K mg base k "kids_of" ["custom"] bQ)(Ud:CanM P w K mg base k "straight" ["claim"] gJ)(Ug:CanM P w K mg base k "claim_of" ["custom"] dP)(Uw:CanM P w K mg base k "behind" ["one","two"] gT):∀ n:Nat,CanM P w K mg base (k+1+n) "lines_of" ["custom"] (eN n)
 | 0=>aM F fB fun cdv A outer s H E G W WR=>zGm
 | n+1=>zDF _ _ _ (k+1+n) B KT C R ET F (Um:=Um.mono (by omega)) (Y7:=Y7.mono (by omega)) (Ur:=Ur.mono (by omega)) (YV:=YV.mono (by omega)) (Y0:=Y0.mono (by omega)) (Uk:=Uk.mono (by omega)) (Ud:=Ud.mono (by omega)) (Ug:=Ug.mono (by omega)) (Uw:=Uw.mono (by omega)) (Ue:=uC F (Um:=Um) (Y7:=Y7) (Ur:=Ur) (YV:=YV) (Y0:=Y0) (Uk:=Uk) (Ud:=Ud) (Ug:=Ug) (Uw:=Uw) n)
theorem zJg(F:Fn K mg "shares" zAH ["custom","catch"] f fd)(YI:CanM P w K mg base k "refuse_outside" ["amount","most"] bG)(Uf:CanM P w K mg base k "dealt_on" ["custom","catch"] (fN 10))(UC:CanM P w K mg base k "whole" ["number"] bJ)(Ug:CanM P w K mg base k "claim_of" ["custom"] dP):CanM P w K mg base (k+1) "shares" ["custom","catch"] iL:=
  aM F zJl fun cdv A outer s H E G W WR=>(aF (mF (aI W YI rfl (aA (aJ 1) (aA (aI W UC rfl (aA (aI W Ug rfl (aA (aJ 0) aE aB)) aE aL)) aE aL) aB)))
 (aK (dY (aY W Uf rfl (aA (aJ 0) (aA (aJ 1) aE aB) aB)))))
theorem zJF(F:Fn K mg "parted" zAx ["one","two"] f fd)(Ue:CanM P w K mg base k "lines_of" ["custom"] (eN 10))(Y8:CanM P w K mg base k "claims_of" ["custom"] (cN 10))(YM:CanM P w K mg base k "first_unlike" ["one","two"] eQ):CanM P w K mg base (k+1) "parted" ["one","two"] lC:=
  aM F pO fun cdv A outer s H E G W WR=>(aF (jU (tst (neA W.u) zKv (PEf.d (aY W Y8 rfl (aA (aJ 0) aE aB))) (PEf.d (aY W Y8 rfl (aA (aJ 1) aE aB))) (bE _)) (aK (fA W WR R.Unlike rfl (aA (mH cP fun _=>.str _) aE bP))) bL)
 (aF (bD (i:=2) pO.nd rfl (Or.inl rfl) (PEf.d (aY W Ue rfl (aA (aJ 0) aE aB))))
 (aF (bD (i:=3) pO.nd rfl (Or.inl rfl) (PEf.d (aY W Ue rfl (aA (aJ 1) aE aB))))
 (aF (mI W.own W.calm (zEm rfl B.range (aA (aT aR dS rfl B.len QD (aA (aJ 2) aE aB)) aE aL)) (dW (i:=4) pO.nd rfl (Or.inl rfl)) bO (aK (jU (tst (neA W.u) zKv (bT aP gE (aJ 2) (aJ 4) (fun _ _=>rfl)) (bT aP gE (aJ 3) (aJ 4) (fun _ _=>rfl)) (bE _)) (aK (cO (kR (aA (aI W YM rfl (aA (bT aP gE (aJ 2) (aJ 4) (fun _ _=>rfl)) (aA (bT aP gE (aJ 3) (aJ 4) (fun _ _=>rfl)) aE aZ) aZ)) (aA (aJ 4) aE aB) aL)))) bL)))
 (aK (cO (mH zFj fun _=>.non)))))))
theorem zKw(F:Fn K mg "alike" zCT ["one","two"] f fd)(Uo:CanM P w K mg base k "parted" ["one","two"] lC):CanM P w K mg base (k+1) "alike" ["one","two"] pD:=
 aM F zLu fun cdv A outer s H E G W WR=>(aK (cO (zLJ (aI W Uo rfl (aA (aJ 0) (aA (aJ 1) aE aB) aB)) zFj (bE _))))
theorem zQx(F:Fn K mg "law" vT ["script"] f fd)(YL:CanM P w K mg base k "_law_few_ways" ["script"] eV)(Y1:CanM P w K mg base k "_law_claims" ["script","at","most"] gX)(Ub:CanM P w K mg base k "_law_tree" ["claims","script","at"] iW)(UE:CanM P w K mg base k "alike" ["one","two"] pD)(Uo:CanM P w K mg base k "parted" ["one","two"] lC)(Y5:CanM P w K mg base k "_law_caught" ["cell","whole_v"] hG)(Ut:CanM P w K mg base k "shares" ["custom","catch"] iL)(YS:CanM P w K mg base k "_law_cell_at" ["script","k"] bH)(Y4:CanM P w K mg base k "_law_sum_is" ["found","catch"] fL):FnOk P w K mg base (CX1 P w) (k+1) f fd ["script"] (spM K mg 1 zMM):=
  zPw F kU fun cdv A outer s H E G W WR=>(aF (bD (i:=1) kU.nd rfl (Or.inl rfl) (PEf.d (aY W YL rfl (aA (aJ 0) aE aB))))
 (aF (bD (i:=2) kU.nd rfl (Or.inl rfl) (PEf.d (aY W Y1 rfl (aA (aJ 1) (aA bV (aA bV aE bP) bP) aB))))
 (aF (bD (i:=3) kU.nd rfl (Or.inl rfl) (aI W Ub rfl (aA (aJ 2) (aA (aJ 1) (aA bV aE bP) aB) aB)))
 (aF (bD (i:=4) kU.nd rfl (Or.inl rfl) (aI W Ub rfl (aA (aJ 2) (aA (aJ 1) (aA bV aE bP) aB) aB)))
 (aF (bD (i:=5) kU.nd rfl (Or.inl rfl) (aI W UE rfl (aA (aJ 3) (aA (aJ 4) aE aB) aB)))
 (aF (bD (i:=6) kU.nd rfl (Or.inl rfl) (aI W Uo rfl (aA (aJ 3) (aA (aJ 4) aE aB) aB)))
 (aF (bD (i:=7) kU.nd rfl (Or.inl rfl) (aT aR dS rfl B.len QD (aA (aJ 2) aE aB)))
 (aF (jU (tst (neA W.u) zKv (aJ 5) (zLJ (aJ 6) zFj (bE _)) (bE _)) (aK (cO (mH zKL fun _=>.bl _))) bL)
 (aF (jU (zKu (aJ 6) zFj (bE _)) (aF (bD (i:=7) kU.nd rfl (Or.inl rfl) (lG 6))
 (aK (jU (tst (eqA W.u) sX (bT aP gE (PEf.d (aY W Ut rfl (aA (aJ 3) (aA (lG 6) aE aZ) aB))) (aJ 7) (fun _ _=>rfl)) (bT aP gE (PEf.d (aY W Ut rfl (aA (aJ 4) (aA (lG 6) aE aZ) aB))) (aJ 7) (fun _ _=>rfl)) (bE _)) (aK (cO (mH zKL fun _=>.bl _))) bL))) bL)
 (aF (mI W.own W.calm (jO (PEf.d (zJM (PEf.d (dD (aA (aI W YS rfl (aA (aJ 0) (aA bV aE bP) aB)) (aA (aI W YS rfl (aA (aJ 0) (aA bV aE bP) aB)) aE aL) aL))) (PEf.d (lB (aJ 0) (nU bV) (nU bV)))))) (dW (i:=8) kU.nd rfl (Or.inl rfl)) bO (aF (bD (i:=9) kU.nd rfl (Or.inl rfl) (aI W Y5 rfl (aA (aJ 8) (aA (aT (jS W.calm) sN rfl B.sum hJ (aA (aJ 2) aE aB)) aE aL) aB)))
 (aF (bD (i:=10) kU.nd rfl (Or.inl rfl) (PEf.d (aY W Ut rfl (aA (aJ 3) (aA (aJ 9) aE aB) aB))))
 (aF (bD (i:=11) kU.nd rfl (Or.inl rfl) (PEf.d (aY W Ut rfl (aA (aJ 4) (aA (aJ 9) aE aB) aB))))
 (aK (jU (PWd.pt (zNW (tst (neA W.u) zKv (PEf.d (lB (aJ 10) rE (nU (aJ 7)))) (PEf.d (lB (aJ 11) rE (nU (aJ 7)))) (bE _)) (zNW (zRf (zDh (aI W Y4 rfl (aA (aJ 10) (aA (aJ 9) aE aB) aB)))) (zJb (zRf (zDh (aI W Y4 rfl (aA (aJ 11) (aA (aJ 9) aE aB) aB)))))))) (aK (cO (mH zKL fun _=>.bl _))) bL))))))
 (aK (cO (mH zKL fun _=>.bl _)))))))))))))
end
end
def FnK(K:PySem.W.Frag)(x:Str)(st:Stmt):Prop:=∃ f oc od sl kV dc pm an cd ct,PySem.W.nsIn K mainGlobals x=some (some (.ref f))/\K.lookup f=some ⟨oc,od,.func (PySem.W.fnOf x x (kM st) (fR st) (aG st) .none kV dc pm an cd ct),sl⟩/\PySem.W.codeIn K cd x=true/\PySem.W.keepIn K (.ref f)=true
theorem fk{K:Fg_}{h:Heap}{mg:Str->Option Value}{x:Str}{st:Stmt}(X:K.In h)(G:h.Ns mainGlobals mg)(d:FnK K x st)(ps:List Str)(hb:∀ (kV doc pm:Value) (an:Option Addr) (cdv ct:Value) (us:List Value),us.length=ps.length->bindArgs (PySem.W.fnOf x x (kM st) (fR st) (aG st) .none kV doc pm an cdv ct) ⟨us,[]⟩=pure (ps.zip us)):∃ f fd,Fn K mg x st ps f fd:=by
 obtain⟨f,oc,od,sl,kV,dc,pm,an,cd,ct,a,l,c,k⟩:=d;exact⟨f,_,xX (st:=st) l c k,(xX (st:=st) l c k).binds (ps:=ps) hb,k,QU X G a⟩
theorem fkm{K:Fg_}{x:Str}{st:Stmt}{f:Addr}{oc:Value}{od an:Option Addr}{sl:Array (Option Value)}{kV dc pm cd ct:Value}(a:PySem.W.nsIn K mainGlobals x=some (some (.ref f)))(l:K.lookup f=some ⟨oc,od,.func (PySem.W.fnOf x x (kM st) (fR st) (aG st) .none kV dc pm an cd ct),sl⟩)(c:PySem.W.codeIn K cd x=true)(k:PySem.W.keepIn K (.ref f)=true):FnK K x st:=⟨f,oc,od,sl,kV,dc,pm,an,cd,ct,a,l,c,k⟩
theorem zPQ{l:PySem.W.OpenLaw}{w:World}{K:Fg_}{h:Heap}{mg:Str->Option Value}{fa f11 f67:Addr}(X:K.In h)(G:h.Ns mainGlobals mg)(hfa:mg "law" = some (.ref fa))
  {od11 an11:Option Addr} {sl11:Array (Option Value)} {oc11 kV11 dc11 pm11 ct11:Value}
  {od67 an67:Option Addr} {sl67:Array (Option Value)} {oc67 kV67 dc67 pm67 cd67 ct67:Value}
  (d0:FnK K "common_divisor" iC)
  (d1:FnK K "made" zGK)
  (d2:FnK K "whole" zDB)
  (d3:FnK K "plus" zGZ)
  (d4:FnK K "minus" zDl)
  (d5:FnK K "times" zDi)
  (d6:FnK K "over" zJC)
  (d7:FnK K "less" zJv)
  (d8:FnK K "lesser" zAh)
  (d9:FnK K "is_outside" nN)
  (d10:FnK K "refuse_outside" iF)
  {cR T:Addr}
  (a11:PySem.W.nsIn K mainGlobals "ranked" = some (some (.ref f11))) (l11:K.lookup f11=some ⟨oc11,od11,.func (PySem.W.fnOf "ranked" "ranked" (kM iO) (fR iO) (aG iO) .none kV11 dc11 pm11 an11 (.ref cR) ct11),sl11⟩) (c11:PySem.W.codeIn K (.ref cR) "ranked" = true) (k11:PySem.W.keepIn K (.ref f11)=true)
  (tq:PySem.W.codeHdIn K cR T=true) (tn:K.lookup T=none)
  (d12:FnK K "looked" yT)
  (d13:FnK K "refuse_way" nJ)
  (d14:FnK K "refuse_claims" jG)
  (d15:FnK K "refuse_weights" iE)
  (d16:FnK K "contrary_way" kL)
  (d17:FnK K "dealt" zDW)
  (d18:FnK K "rightly_dealt" dZ)
  (d19:FnK K "row_dealt" pB)
  (d20:FnK K "even_dealt" nT)
  (d21:FnK K "levels_of" lI)
  (d22:FnK K "part_dealt" jZ)
  (d23:FnK K "half_dealt" jV)
  (d24:FnK K "boat" zGW)
  (d25:FnK K "knot" zJE)
  (d26:FnK K "is_boat" uJ)
  (d27:FnK K "way_of" zAO)
  (d28:FnK K "weights_of" nQ)
  (d29:FnK K "kids_of" uB)
  (d30:FnK K "claims_of" lD)
  (d31:FnK K "claim_of" sB)
  (d32:FnK K "kid_claims" kD)
  (d33:FnK K "deep_of" mV)
  (d34:FnK K "shares" zAH)
  (d35:FnK K "dealt_on" oA)
  (d36:FnK K "line_of" wE)
  (d37:FnK K "refuse_bad" mX)
  (d38:FnK K "is_between" nI)
  (d39:FnK K "length" yN)
  (d40:FnK K "height" yO)
  (d41:FnK K "value" zDd)
  (d42:FnK K "first_reaching" iG)
  (d43:FnK K "met" zMT)
  (d44:FnK K "behind" qS)
  (d45:FnK K "places" uA)
  (d46:FnK K "merged" zAJ)
  (d47:FnK K "way_lines" jA)
  (d48:FnK K "line_at" qO)
  (d49:FnK K "joints_of" jD)
  (d50:FnK K "row_joints" nL)
  (d51:FnK K "even_joints" lE)
  (d52:FnK K "mirrored" oF)
  (d53:FnK K "without_doubles" gN)
  (d54:FnK K "lines_of" kW)
  (d55:FnK K "straight" qY)
  (d56:FnK K "alike" zCT)
  (d57:FnK K "parted" zAx)
  (d58:FnK K "first_unlike" gU)
  (d59:FnK K "_law_cell_at" lT)
  (d60:FnK K "_law_fraction" kN)
  (d61:FnK K "_law_caught" nR)
  (d62:FnK K "_law_claims" mQ)
  (d63:FnK K "_law_knot" nZ)
  (d64:FnK K "_law_tree" rG)
  (d65:FnK K "_law_sum_is" nO)
  (d66:FnK K "_law_few_ways" kI)
  (a67:PySem.W.nsIn K mainGlobals "law" = some (some (.ref f67))) (l67:K.lookup f67=some ⟨oc67,od67,.func (PySem.W.fnOf "law" "law" (kM vT) (fR vT) (aG vT) .none kV67 dc67 pm67 an67 cd67 ct67),sl67⟩) (c67:PySem.W.codeIn K cd67 "law" = true) (k67:PySem.W.keepIn K (.ref f67)=true)
  (z_abs:PySem.W.nsIn K mainGlobals "abs" = some none)
  (z_sorted:PySem.W.nsIn K mainGlobals "sorted" = some none)
  (z_range:PySem.W.nsIn K mainGlobals "range" = some none)
  (z_len:PySem.W.nsIn K mainGlobals "len" = some none)
  (z_sum:PySem.W.nsIn K mainGlobals "sum" = some none)
  (z_zip:PySem.W.nsIn K mainGlobals "zip" = some none)
  (z_tuple:PySem.W.nsIn K mainGlobals "tuple" = some none)
  (z_max:PySem.W.nsIn K mainGlobals "max" = some none)
  (z_reversed:PySem.W.nsIn K mainGlobals "reversed" = some none)
  (z_enumerate:PySem.W.nsIn K mainGlobals "enumerate" = some none)
  (z_min:PySem.W.nsIn K mainGlobals "min" = some none)
  (z_list:PySem.W.nsIn K mainGlobals "list" = some none)
  (KT:Kt K) (CC:∀(h:Heap)(mg:Str->Option Value),K.In h->h.Ns mainGlobals mg->Ct K mg) (RR:∀(h:Heap)(mg:Str->Option Value),K.In h->h.Ns mainGlobals mg->Rt K mg) (EE:∀(h:Heap)(mg:Str->Option Value),K.In h->h.Ns mainGlobals mg->Et K mg)
  : K.lookup T=none/\pN K mg T/\∃ fd:FuncData,(∀(s:Shared)(v:Value),BindsTo s fd ⟨[v],[]⟩ [("script", v)])/\∀ base:Heap,K.In base->base.Ns mainGlobals mg->BMn base mg->FnOk l.prog w K mg base (CX1 l.prog w) 29 fa fd ["script"] (zQk K mg):=by
 have e:=hfa.symm.trans (QU X G a67);cases e;have B:Bt mg:=⟨Vb X G z_abs,Vb X G z_sorted,Vb X G z_range,Vb X G z_len,Vb X G z_sum,Vb X G z_zip,Vb X G z_tuple,Vb X G z_max,Vb X G z_reversed,Vb X G z_enumerate,Vb X G z_min,Vb X G z_list⟩;have C:Ct K mg:=CC h mg X G;have R:Rt K mg:=RR h mg X G;have ET:Et K mg:=EE h mg X G;have hT:pN K mg T:=⟨f11,_,_,_,_,cR,QU X G a11,l11,rfl,fun h X=>PySem.W.codeHd_of_K X tq⟩
 refine⟨tn,hT,?_⟩
 refine⟨PySem.W.fnOf "law" "law" (kM vT) (fR vT) (aG vT) .none kV67 dc67 pm67 an67 cd67 ct67,fun s v=>.of_eq rfl,fun base _ _ hB=>?_⟩
 obtain⟨_,_,F0⟩:=fk X G d0 ["one","two"] (by walk_at "b")
 have YF:=rJ l.prog w base 0 B KT C R ET F0;obtain⟨_,_,F2⟩:=fk X G d2 ["number"] (by walk_at "b")
 have UC:=zKU l.prog w base 0 B KT C R ET F2;obtain⟨_,_,F7⟩:=fk X G d7 ["one","two"] (by walk_at "b")
 have UH:=zOx l.prog w base 0 B KT C R ET F7;have F11:Fn K mg "ranked" iO ["some"] _ _:=⟨xX (st:=iO) l11 c11 k11,(xX (st:=iO) l11 c11 k11).binds (ps:=["some"]) (by walk_at "b"),k11,QU X G a11⟩
 have Ux:=zIb l.prog w base 0 B KT C R ET F11 hT hB;obtain⟨_,_,F13⟩:=fk X G d13 ["way"] (by walk_at "b")
 have YW:=zN l.prog w base 0 B KT C R ET F13;obtain⟨_,_,F14⟩:=fk X G d14 ["claims"] (by walk_at "b")
 have YK:=sS l.prog w base 0 B KT C R ET F14;obtain⟨_,_,F15⟩:=fk X G d15 ["way","weights","many"] (by walk_at "b")
 have YH:=rZ l.prog w base 0 B KT C R ET F15;obtain⟨_,_,F24⟩:=fk X G d24 ["claim"] (by walk_at "b")
 have UF:=zNs l.prog w base 0 B KT C R ET F24;obtain⟨_,_,F26⟩:=fk X G d26 ["custom"] (by walk_at "b")
 have Um:=zFJ l.prog w base 0 B KT C R ET F26;obtain⟨_,_,F27⟩:=fk X G d27 ["custom"] (by walk_at "b")
 have Ur:=zHu l.prog w base 0 B KT C R ET F27;obtain⟨_,_,F28⟩:=fk X G d28 ["custom"] (by walk_at "b")
 have YV:=zAK l.prog w base 0 B KT C R ET F28;obtain⟨_,_,F39⟩:=fk X G d39 ["line"] (by walk_at "b")
 have Uu:=zIO l.prog w base 0 B KT C R ET F39;obtain⟨_,_,F40⟩:=fk X G d40 ["line"] (by walk_at "b")
 have Up:=zGS l.prog w base 0 B KT C R ET F40;obtain⟨_,_,F45⟩:=fk X G d45 ["line"] (by walk_at "b")
 have Uy:=zHp l.prog w base 0 B KT C R ET F45;obtain⟨_,_,F59⟩:=fk X G d59 ["script","k"] (by walk_at "b")
 have YS:=wR l.prog w base 0 B KT C R ET F59;obtain⟨_,_,F60⟩:=fk X G d60 ["top","bottom"] (by walk_at "b")
 have YQ:=vY l.prog w base 0 B KT C R ET F60;obtain⟨_,_,F65⟩:=fk X G d65 ["found","catch"] (by walk_at "b")
 have Y4:=zAX l.prog w base 0 B KT C R ET F65;obtain⟨_,_,F1⟩:=fk X G d1 ["top","bottom"] (by walk_at "b")
 have UJ:=zMW l.prog w base 1 B KT C R ET F1 (YF:=YF.mo);obtain⟨_,_,F8⟩:=fk X G d8 ["one","two"] (by walk_at "b")
 have Us:=zHl l.prog w base 1 B KT C R ET F8 (UH:=UH.mo);obtain⟨_,_,F9⟩:=fk X G d9 ["amount","most"] (by walk_at "b")
 have YZ:=yQ l.prog w base 1 B KT C R ET F9 (UH:=UH.mo);obtain⟨_,_,F12⟩:=fk X G d12 ["way","weights","claims"] (by walk_at "b")
 have Uv:=zHg l.prog w base 1 B KT C R ET F12 (YW:=YW.mo) (YK:=YK.mo) (YH:=YH.mo);obtain⟨_,_,F16⟩:=fk X G d16 ["way"] (by walk_at "b")
 have YO:=vX l.prog w base 1 B KT C R ET F16 (YW:=YW.mo);obtain⟨_,_,F29⟩:=fk X G d29 ["custom"] (by walk_at "b")
 have Uk:=zFD l.prog w base 1 B KT C R ET F29 (Um:=Um.mo);obtain⟨_,_,F37⟩:=fk X G d37 ["points"] (by walk_at "b")
 have YX:=zAQ l.prog w base 1 B KT C R ET F37 (UH:=UH.mo);obtain⟨_,_,F42⟩:=fk X G d42 ["line","axis","amount"] (by walk_at "b")
 have YG:=rC l.prog w base 1 B KT C R ET F42 (UH:=UH.mo);obtain⟨_,_,F46⟩:=fk X G d46 ["one","two"] (by walk_at "b")
 have Uq:=zIH l.prog w base 1 B KT C R ET F46 (UH:=UH.mo);obtain⟨_,_,F50⟩:=fk X G d50 ["claims"] (by walk_at "b")
 have Y3:=zAM l.prog w base 1 B KT C R ET F50 (UC:=UC.mo);obtain⟨_,_,F53⟩:=fk X G d53 ["joints"] (by walk_at "b")
 have YE:=qL l.prog w base 1 B KT C R ET F53 (UH:=UH.mo);obtain⟨_,_,F61⟩:=fk X G d61 ["cell","whole_v"] (by walk_at "b")
 have Y5:=zU l.prog w base 1 B KT C R ET F61 (YQ:=YQ.mo);obtain⟨_,_,F62⟩:=fk X G d62 ["script","at","most"] (by walk_at "b")
 have Y1:=yV l.prog w base 1 B KT C R ET F62 (YS:=YS.mo);obtain⟨_,_,F66⟩:=fk X G d66 ["script"] (by walk_at "b")
 have YL:=vO l.prog w base 1 B KT C R ET F66 (YS:=YS.mo);obtain⟨_,_,F3⟩:=fk X G d3 ["one","two"] (by walk_at "b")
 have UK:=zMN l.prog w base 2 B KT C R ET F3 (UJ:=UJ.mo);obtain⟨_,_,F4⟩:=fk X G d4 ["one","two"] (by walk_at "b")
 have UD:=zKH l.prog w base 2 B KT C R ET F4 (UJ:=UJ.mo);obtain⟨_,_,F5⟩:=fk X G d5 ["one","two"] (by walk_at "b")
 have UA:=zKJ l.prog w base 2 B KT C R ET F5 (UJ:=UJ.mo);obtain⟨_,_,F6⟩:=fk X G d6 ["one","two"] (by walk_at "b")
 have UG:=zMX l.prog w base 2 B KT C R ET F6 (UJ:=UJ.mo);obtain⟨_,_,F10⟩:=fk X G d10 ["amount","most"] (by walk_at "b")
 have YI:=rR l.prog w base 2 B KT C R ET F10 (YZ:=YZ.mo);obtain⟨_,_,F21⟩:=fk X G d21 ["weights","claims"] (by walk_at "b")
 have Y6:=zBd l.prog w base 2 B KT C R ET F21 (UJ:=UJ.mo);obtain⟨_,_,F19⟩:=fk X G d19 ["claims","catch"] (by walk_at "b")
 have Y9:=zCE l.prog w base 3 B KT C R ET F19 (Us:=Us.mo) (UD:=UD.mo) (UC:=UC.mo);obtain⟨_,_,F20⟩:=fk X G d20 ["weights","claims","catch"] (by walk_at "b")
 have YT:=zV l.prog w base 3 B KT C R ET F20 (Ux:=Ux.mono (by decide)) (Y6:=Y6.mo) (UG:=UG.mo) (Us:=Us.mo) (UD:=UD.mo) (UA:=UA.mo) (UC:=UC.mo)
 obtain⟨_,_,F22⟩:=fk X G d22 ["claims","catch"] (by walk_at "b")
 have YY:=zAy l.prog w base 3 B KT C R ET F22 (UG:=UG.mo) (UC:=UC.mo) (UA:=UA.mo);obtain⟨_,_,F38⟩:=fk X G d38 ["ahead","point","later"] (by walk_at "b")
 have Y2:=zK l.prog w base 3 B KT C R ET F38 (UD:=UD.mo) (UA:=UA.mo);obtain⟨_,_,F43⟩:=fk X G d43 ["line","axis","amount"] (by walk_at "b")
 have UL:=zPX l.prog w base 3 B KT C R ET F43 (YG:=YG.mo) (UG:=UG.mo) (UK:=UK.mo) (UD:=UD.mo) (UA:=UA.mo);obtain⟨_,_,F51⟩:=fk X G d51 ["weights","claims"] (by walk_at "b")
 have YR:=xM l.prog w base 3 B KT C R ET F51 (Y6:=Y6.mo) (Ux:=Ux.mono (by decide)) (UK:=UK.mo) (UC:=UC.mo) (UA:=UA.mo)
 obtain⟨_,_,F52⟩:=fk X G d52 ["joints","most"] (by walk_at "b")
 have Uh:=zDe l.prog w base 3 B KT C R ET F52 (UD:=UD.mo);obtain⟨_,_,F23⟩:=fk X G d23 ["claims","catch"] (by walk_at "b")
 have YU:=yY l.prog w base 4 B KT C R ET F23 (UA:=UA.mo) (YT:=YT.mo) (UK:=UK.mo);obtain⟨_,_,F36⟩:=fk X G d36 ["points"] (by walk_at "b")
 have Uj:=zGc l.prog w base 4 B KT C R ET F36 (YX:=YX.mo) (Y2:=Y2.mo);obtain⟨_,_,F41⟩:=fk X G d41 ["line","x"] (by walk_at "b")
 have UB:=zKr l.prog w base 4 B KT C R ET F41 (YI:=YI.mo) (UL:=UL.mo) (Uu:=Uu.mo);obtain⟨_,_,F44⟩:=fk X G d44 ["one","two"] (by walk_at "b")
 have Uw:=zIX l.prog w base 5 B KT C R ET F44 (Uq:=Uq.mo) (Uj:=Uj.mo) (Uu:=Uu.mo) (Up:=Up.mo) (UL:=UL.mo) (Uy:=Uy.mo) (UB:=UB.mo);obtain⟨_,_,F48⟩:=fk X G d48 ["joints","dealings","spot"] (by walk_at "b")
 have Ul:=zGb l.prog w base 5 B KT C R ET F48 (Uj:=Uj.mo);obtain⟨_,_,F55⟩:=fk X G d55 ["claim"] (by walk_at "b")
 have Ud:=zDn l.prog w base 5 B KT C R ET F55 (Uj:=Uj.mo) (UC:=UC.mo);obtain⟨_,_,F58⟩:=fk X G d58 ["one","two"] (by walk_at "b")
 have YM:=vM l.prog w base 5 B KT C R ET F58 (Uq:=Uq.mo) (Uy:=Uy.mo) (UB:=UB.mo);obtain⟨_,_,F49⟩:=fk X G d49 ["way","weights","claims"] (by walk_at "b")
 have Ua:=sH l.prog w base 4 B KT C R ET F49 (UC:=UC.mo) (Uh:=Uh.mo) (Y3:=Y3.mo) (YR:=YR.mo) (UA:=UA.mo) (YO:=YO.mo) 2;obtain⟨_,_,F18⟩:=fk X G d18 ["way","weights","claims","catch"] (by walk_at "b")
 have YJ:=lW l.prog w base 5 B KT C R ET F18 (UC:=UC.mo) (Y9:=Y9.mo) (YT:=YT.mo) (YY:=YY.mo) (YU:=YU.mo) (UD:=UD.mo) (UH:=UH.mo) (UK:=UK.mo) 2;obtain⟨_,_,F17⟩:=fk X G d17 ["way","weights","claims","catch"] (by walk_at "b")
 have Uz:=zLq l.prog w base 8 B KT C R ET F17 (Uv:=Uv.mo) (YI:=YI.mo) (YJ:=YJ.mo) (UC:=UC.mo);obtain⟨_,_,F47⟩:=fk X G d47 ["way","weights","claims"] (by walk_at "b")
 have Y7:=zBp l.prog w base 8 B KT C R ET F47 (Uv:=Uv.mo) (YE:=YE.mo) (Ua:=Ua.mo) (YJ:=YJ.mo) (Ul:=Ul.mo);obtain⟨_,_,F30⟩:=fk X G d30 ["custom"] (by walk_at "b")
 have Y8:=sL l.prog w base 2 B KT C R ET F30 (Um:=Um.mo) (Uk:=Uk.mo) 10;obtain⟨_,_,F33⟩:=fk X G d33 ["custom"] (by walk_at "b")
 have Ui:=yB l.prog w base 2 B KT C R ET F33 (Uk:=Uk.mo) 10;obtain⟨_,_,F25⟩:=fk X G d25 ["way","weights","kids"] (by walk_at "b")
 have UI:=zOh l.prog w base 13 B KT C R ET F25 (YW:=YW.mo) (YH:=YH.mo) (Ui:=Ui.mo) (Y8:=Y8.mo);obtain⟨_,_,F31⟩:=fk X G d31 ["custom"] (by walk_at "b")
 have Ug:=zDP l.prog w base 13 B KT C R ET F31 (Y8:=Y8.mo);obtain⟨_,_,F32⟩:=fk X G d32 ["custom"] (by walk_at "b")
 have Y0:=zAc l.prog w base 14 B KT C R ET F32 (Ug:=Ug.mo) (Uk:=Uk.mo);obtain⟨_,_,F63⟩:=fk X G d63 ["kids","cell"] (by walk_at "b")
 have Uc:=zCY l.prog w base 14 B KT C R ET F63 (UI:=UI.mo);obtain⟨_,_,F64⟩:=fk X G d64 ["claims","script","at"] (by walk_at "b")
 have Ub:=zCP l.prog w base 15 B KT C R ET F64 (Uc:=Uc.mo) (UF:=UF.mo) (YS:=YS.mo);obtain⟨_,_,F35⟩:=fk X G d35 ["custom","catch"] (by walk_at "b")
 have Uf:=vP l.prog w base 15 B KT C R ET F35 (Um:=Um.mo) (Uz:=Uz.mo) (Ur:=Ur.mo) (YV:=YV.mo) (Y0:=Y0.mo) (Uk:=Uk.mo) 10;obtain⟨_,_,F54⟩:=fk X G d54 ["custom"] (by walk_at "b")
 have Ue:=uC l.prog w base 15 B KT C R ET F54 (Um:=Um.mo) (Y7:=Y7.mo) (Ur:=Ur.mo) (YV:=YV.mo) (Y0:=Y0.mo) (Uk:=Uk.mo) (Ud:=Ud.mo) (Ug:=Ug.mo) (Uw:=Uw.mo) 10;obtain⟨_,_,F34⟩:=fk X G d34 ["custom","catch"] (by walk_at "b")
 have Ut:=zJg l.prog w base 26 B KT C R ET F34 (YI:=YI.mo) (Uf:=Uf.mo) (UC:=UC.mo) (Ug:=Ug.mo);obtain⟨_,_,F57⟩:=fk X G d57 ["one","two"] (by walk_at "b")
 have Uo:=zJF l.prog w base 26 B KT C R ET F57 (Ue:=Ue.mo) (Y8:=Y8.mo) (YM:=YM.mo);obtain⟨_,_,F56⟩:=fk X G d56 ["one","two"] (by walk_at "b")
 have UE:=zKw l.prog w base 27 B KT C R ET F56 (Uo:=Uo.mo);have F67:Fn K mg "law" vT ["script"] _ _:=⟨xX (st:=vT) l67 c67 k67,(xX (st:=vT) l67 c67 k67).binds (ps:=["script"]) (by walk_at "b"),k67,QU X G a67⟩
 have UM:=zQx l.prog w base 28 B KT C R ET F67 (YL:=YL.mo) (Y1:=Y1.mo) (Ub:=Ub.mo) (UE:=UE.mo) (Uo:=Uo.mo) (Y5:=Y5.mo) (Ut:=Ut.mo) (YS:=YS.mo) (Y4:=Y4.mo);exact zOJ UM law_true
end Lw
open PySem PySem.W PyProof.Rows
local macro_rules | `(tactic| walk_at "fk")=>`(tactic| (refine' Lw.fkm ?a ?l ?c ?k;(case a=>k_is);(case l=>k_is);(case c=>k_is);(case k=>k_is)))
set_option maxRecDepth 100000 in
set_option maxHeartbeats 0 in
theorem PySem.Challenge.cw_catchhall_k42_whole_alike_at_all_catches_holds : PySem.Challenge.rw_catchhall_k42_whole_alike_at_all_catches.Holds := by
 w_on;o_law;k_head;(case hw=>w_witness2)
 k_fill
 refine L3.zSd (l:=PySem.Challenge.rw_catchhall_k42_whole_alike_at_all_catches) (k:=29) rfl rfl ⟨rfl,by decide,by decide⟩ (fun w h Y=>PySem.W.km_in_of Y) (fun w h Y=>PySem.W.km_tabs_of Y _ (.head _)) ?F
 case F=>
  intro w mg fa h KX G hmg
  refine' Lw.zPQ KX G hmg ?d0 ?d1 ?d2 ?d3 ?d4 ?d5 ?d6 ?d7 ?d8 ?d9 ?d10 ?a11 ?l11 ?c11 ?k11 ?tq ?tn ?d12 ?d13 ?d14 ?d15 ?d16 ?d17 ?d18 ?d19 ?d20 ?d21 ?d22 ?d23 ?d24 ?d25 ?d26 ?d27 ?d28 ?d29 ?d30 ?d31 ?d32 ?d33 ?d34 ?d35 ?d36 ?d37 ?d38 ?d39 ?d40 ?d41 ?d42 ?d43 ?d44 ?d45 ?d46 ?d47 ?d48 ?d49 ?d50 ?d51 ?d52 ?d53 ?d54 ?d55 ?d56 ?d57 ?d58 ?d59 ?d60 ?d61 ?d62 ?d63 ?d64 ?d65 ?d66 ?a67 ?l67 ?c67 ?k67 ?z_abs ?z_sorted ?z_range ?z_len ?z_sum ?z_zip ?z_tuple ?z_max ?z_reversed ?z_enumerate ?z_min ?z_list ?KT ?CC ?RR ?EE
  (case a11=>k_is)
  (case l11=>k_is)
  (case c11=>k_is)
  (case k11=>k_is)
  (case tq=>first | k_is | kernel_rfl | kn_code | decide +kernel)
  (case tn=>first | k_is | kernel_rfl | kn_code | decide +kernel)
  (case a67=>k_is)
  (case l67=>k_is)
  (case c67=>k_is)
  (case k67=>k_is)
  (case d0=>walk_at "fk")
  (case d1=>walk_at "fk")
  (case d2=>walk_at "fk")
  (case d3=>walk_at "fk")
  (case d4=>walk_at "fk")
  (case d5=>walk_at "fk")
  (case d6=>walk_at "fk")
  (case d7=>walk_at "fk")
  (case d8=>walk_at "fk")
  (case d9=>walk_at "fk")
  (case d10=>walk_at "fk")
  (case d12=>walk_at "fk")
  (case d13=>walk_at "fk")
  (case d14=>walk_at "fk")
  (case d15=>walk_at "fk")
  (case d16=>walk_at "fk")
  (case d17=>walk_at "fk")
  (case d18=>walk_at "fk")
  (case d19=>walk_at "fk")
  (case d20=>walk_at "fk")
  (case d21=>walk_at "fk")
  (case d22=>walk_at "fk")
  (case d23=>walk_at "fk")
  (case d24=>walk_at "fk")
  (case d25=>walk_at "fk")
  (case d26=>walk_at "fk")
  (case d27=>walk_at "fk")
  (case d28=>walk_at "fk")
  (case d29=>walk_at "fk")
  (case d30=>walk_at "fk")
  (case d31=>walk_at "fk")
  (case d32=>walk_at "fk")
  (case d33=>walk_at "fk")
  (case d34=>walk_at "fk")
  (case d35=>walk_at "fk")
  (case d36=>walk_at "fk")
  (case d37=>walk_at "fk")
  (case d38=>walk_at "fk")
  (case d39=>walk_at "fk")
  (case d40=>walk_at "fk")
  (case d41=>walk_at "fk")
  (case d42=>walk_at "fk")
  (case d43=>walk_at "fk")
  (case d44=>walk_at "fk")
  (case d45=>walk_at "fk")
  (case d46=>walk_at "fk")
  (case d47=>walk_at "fk")
  (case d48=>walk_at "fk")
  (case d49=>walk_at "fk")
  (case d50=>walk_at "fk")
  (case d51=>walk_at "fk")
  (case d52=>walk_at "fk")
  (case d53=>walk_at "fk")
  (case d54=>walk_at "fk")
  (case d55=>walk_at "fk")
  (case d56=>walk_at "fk")
  (case d57=>walk_at "fk")
  (case d58=>walk_at "fk")
  (case d59=>walk_at "fk")
  (case d60=>walk_at "fk")
  (case d61=>walk_at "fk")
  (case d62=>walk_at "fk")
  (case d63=>walk_at "fk")
  (case d64=>walk_at "fk")
  (case d65=>walk_at "fk")
  (case d66=>walk_at "fk")
  (case z_abs=>k_is)
  (case z_sorted=>k_is)
  (case z_range=>k_is)
  (case z_len=>k_is)
  (case z_sum=>k_is)
  (case z_zip=>k_is)
  (case z_tuple=>k_is)
  (case z_max=>k_is)
  (case z_reversed=>k_is)
  (case z_enumerate=>k_is)
  (case z_min=>k_is)
  (case z_list=>k_is)
  (case KT=>refine' ⟨⟩<;>(first | kit_is | (show _=some true;kit_is) | (show _=some false;kit_is) | rfl | decide +kernel))
  (case CC=>
   intro h mg X G
   refine' Lw.zRn X G ?n_ACROSS ?n_BOAT ?n_DEEPEST ?n_HALF ?pHALF0_l ?n_MOST_BOATS ?n_NOUGHT ?pNOUGHT1_l ?n_UP ?n_WEIGHTED ?pWEIGHTED2_l ?n_CONTRARY ?aV<;>try first | k_is | kit_is | k_exc | rfl | decide +kernel | kernel_rfl)
  (case RR=>
   intro h mg X G
   refine' Lw.zSa X G ?n_BadClaim ?x_BadClaim ?n_BadLine ?x_BadLine ?n_BadWay ?x_BadWay ?n_BadWeights ?x_BadWeights ?n_NoFraction ?x_NoFraction ?n_Outside ?x_Outside ?n_TooMany ?x_TooMany ?n_Unlike ?x_Unlike<;>try first | k_is | kit_is | k_exc | rfl | decide +kernel | kernel_rfl)
  (case EE=>
   intro h mg X G
   refine' Lw.zRl X G )
