import PyProof.Rows.All
import Wide.All
import OpenK.AllK
import Wide.FinOn
import Lean
import PyProof.EqAt
import PyProof.EqKinds
import PyProof.TupleCall
import PyProof.NeKinds
import KE.KRevIter
import PyProof.Rows.SumAny
import PySem.Challenge.RW_catchhall_k38_whole_plain_deals_alike
noncomputable section
set_option Elab.async false
set_option linter.all false
set_option maxRecDepth 100000
def Qb:=@List.mem_cons_self
def Qc:=@List.mem_cons_of_mem
def Qd:=@List.length_map
def Qe:=@List.mem_cons
def Qf:=@Nat.le_refl
def Qg:=@Rat.le_of_lt
def Qh:=@Rat.le_refl
def Qi:=@List.length_append
def Qj:=@List.mem_map
def Qk:=@List.mem_range
def Ql:=@List.size_toArray
def Qm:=@List.mem_of_getElem?
def Qn:=@List.length_cons
def Qo:=@List.pairwise_cons
def Qp:=@List.mem_singleton
def Qq:=@List.map_cons
def Qr:=@List.getElem?_map
def Qs:=@Nat.lt_of_lt_of_le
def Qt:=@Nat.ne_of_lt
def Qu:=@List.getElem?_eq_getElem
def Qv:=@Nat.le_trans
def Qw:=@List.map_map
def Qx:=@List.sum_cons
def Qy:=@PySem.boot_len
def Qz:=@List.getElem?_eq_some_iff
def QA:=@List.mem_append_right
def QB:=@List.getD_eq_getElem?_getD
def QC:=@List.map_append
def QD:=@Rat.le_trans
def QE:=@List.length_range
def QF:=@List.mem_append
def QG:=@List.map_congr_left
def QH:=@List.getElem?_eq_none
def QI:=@Rat.div_def
def QJ:=@Rat.intCast_add
def QK:=@Option.some.inj
def QL:=@Rat.intCast_mul
def QM:=@List.length_set
def QN:=@List.getElem?_set_ne
def QO:=@List.getElem?_append_left
def QP:=@Int.emod_nonneg
def QR:=@Int.emod_lt_of_pos
def QS:=@List.flatMap_append
def QT:=@List.flatMap_cons
def QU:=@PySem.W.mg_of
def QV:=@List.getElem?_set_self
def QW:=@List.append_nil
def QX:=@List.getElem?_append_right
def QY:=@Nat.zero_le
def QZ:=@List.getLast?_eq_getElem?
def Q2:=@Rat.div_mul_cancel
def Q3:=@Nat.lt_irrefl
def Q4:=@List.append_assoc
def Q5:=@Rat.mul_le_mul_of_nonneg_right
def Q6:=@Int.le_trans
def Q7:=@Int.mul_one
def Q8:=@Bool.and_eq_true
def Q9:=@List.take_length
def Va:=@Nat.lt_succ_self
def Vb:=@Int.le_refl
def Vc:=@List.length_reverse
def Vd:=@Rat.intCast_le_intCast
def Ve:=@List.flatMap_def
def Vf:=@Nat.pow_le_pow_right
def Vg:=@List.getElem?_range
def Vh:=@List.length_nil
def Vi:=@Rat.mul_inv_cancel
def Vj:=@List.lookup_cons
def Vk:=@Rat.not_lt
def Vl:=@List.sum_append
def Vm:=@List.map_nil
def Vn:=@Rat.num_divInt_den
def Vo:=@Int.toNat_natCast
def Vp:=@List.all_eq_true
def Vq:=@Rat.le_total
def Vr:=@PySem.W.mg_none_of
def Vs:=@Nat.le_of_lt
def Vt:=@List.length_take
def Vu:=@Nat.lt_of_le_of_lt
def Vv:=@Bool.false_eq_true
def Vw:=@Nat.lt_succ_of_lt
def Vx:=@Int.natCast_nonneg
def Vy:=@List.mem_append_left
def Vz:=@PySem.mem_of_lookup
def VA:=@List.replicate_succ
def VB:=@List.nil_append
def VC:=@Nat.zero_add
def VD:=@Rat.divInt_eq_div
def VE:=@List.head?_eq_getElem?
def VF:=@List.pairwise_map
def VG:=@List.getLast?_map
def VH:=@Rat.mul_le_mul_of_nonneg_left
def VI:=@List.mem_of_mem_take
def VJ:=@PySem.F.excBase_ValueError
def VL:=@List.nodup_cons
def VM:=@List.length_replicate
def VN:=@List.flatten_cons
def VO:=@Int.le_of_lt
def VP:=@Int.mul_ne_zero
def VQ:=@Bool.or_eq_true
def VR:=@List.getLast?_cons
def VS:=@Nat.sub_self
def VT:=@Nat.succ_pos
def VU:=@Nat.le_succ
def VV:=@Rat.le_of_mul_le_mul_right
def VW:=@List.take_append_drop
def VX:=@Array.length_toList
def VY:=@Bool.false_ne_true
def VZ:=@PyProof.Rows.callWith_type1
def V0:=@List.of_mem_zip
def V3:=@List.length_drop
def V4:=@Nat.lt_or_eq_of_le
def V5:=@List.mem_iff_getElem?
def V6:=@List.Pairwise.imp_of_mem
def V7:=@List.ext_getElem?
def V8:=@List.not_mem_nil
def V9:=@Int.natCast_add
def Xa:=@Int.add_mul
def Xb:=@Rat.mul_nonneg
def Xc:=@List.getLast?_cons_cons
def Xd:=@List.map_drop
def Xe:=@List.flatMap_map
def Xf:=@List.map_take
def Xg:=@Rat.intCast_nonneg
def Xh:=@Int.pow_pos
def Xi:=@Nat.max_le
def Xj:=@List.head?_map
def Xk:=@List.filterMap_cons
def Xl:=@Nat.ne_of_gt
def Xm:=@List.getElem?_replicate
def Xn:=@Int.gcd_dvd_left
def Xo:=@Int.gcd_dvd_right
def Xp:=@Nat.min_eq_left
def Xq:=@List.drop_eq_nil_of_le
def Xr:=@List.pairwise_iff_getElem
def Xs:=@List.eq_nil_of_length_eq_zero
def Xt:=@Nat.min_self
def Xu:=@List.any_toArray
def Xv:=@PySem.F.plainAttrs_list
def Xw:=@List.drop_eq_getElem_cons
def Xx:=@Nat.succ.inj
def Xy:=@List.cons_append
def Xz:=@Nat.le_of_eq
def XA:=@Int.mul_nonneg
def XB:=@List.map_id
def XC:=@Int.mul_pos
def XD:=@List.sum_nil
def XF:=@List.take_succ_cons
def XG:=@Int.add_assoc
def XH:=@Classical.choose_spec
def XI:=@Int.zero_add
def XJ:=@List.pairwise_singleton
def XL:=@Nat.le_of_ble_eq_true
def XM:=@PySem.W.hideAll_get
def XN:=@List.mem_filterMap
def XO:=@PySem.F.slot_tuple_add
def XQ:=@PySem.F.entry_tuple_add
def XR:=@PySem.F.args_tuple_add_2
def XS:=@List.foldl_cons
def XT:=@List.length_singleton
def XU:=@Bool.and_false
def XV:=@Array.getElem?_toList
def XW:=@Nat.le_total
def XX:=@Rat.divInt_mul_divInt
def XY:=@Int.fdiv_eq_ediv_of_nonneg
def XZ:=@List.take_succ
def X0:=@Nat.min_eq_right
def X1:=@List.take_of_length_le
def X2:=@Nat.succ_le_succ
def X3:=@Rat.mul_assoc
def X4:=@Rat.mul_pos
def X5:=@Rat.inv_pos
def X6:=@Rat.zero_divInt
def X7:=@Rat.zero_mul
def X8:=@Nat.eq_zero_or_pos
def X9:=@PySem.intBits_le_iff
def Yc:=@List.set_append_right
def Yd:=@List.take_zero
def Yf:=@List.range_succ
def Yg:=@List.length_zip
def Yh:=@List.getElem?_reverse
def Yi:=@Bool.or_false
def Yj:=@Int.mul_comm
def Yk:=@Int.dvd_trans
def Ym:=@Int.mul_assoc
def Yn:=@Rat.intCast_sub
def Yo:=@List.getLast?_reverse
def Yp:=@List.pairwise_append
def Yq:=@List.mem_reverse
def Yr:=@Int.add_zero
def Ys:=@List.getElem?_drop
def Yt:=@List.mem_of_mem_drop
def Yu:=@List.map_id'
def Yv:=@List.mem_flatMap
def Yw:=@Int.pow_add
def Yy:=@List.range_eq_range'
def Yz:=@Nat.add_zero
def YA:=@Int.le_of_dvd
def YB:=@PySem.W.cellsFrom_some
def YC:=@Int.eq_ofNat_of_zero_le
def YD:=@Int.neg_ediv_of_dvd
def YE:=@Int.fmod_eq_emod_of_nonneg
def YF:=@List.mem_of_getLast?
def YG:=@PySem.F.slot_list_extend
def YH:=@PySem.F.type_list_extend
def YI:=@Array.getElem?_eq_some_iff
def YJ:=@PySem.F.plain_list_iadd
def YK:=@List.toList_toArray
def YL:=@List.mergeSort_perm
def YM:=@List.pairwise_mergeSort
def YO:=@List.getElem?_zip_eq_some
def YQ:=@Nat.lt_two_pow_self
def YR:=@Int.mul_le_mul_of_nonneg_left
abbrev Fg_:=PySem.W.Frag
namespace L2
open PySem PySem.Spec PyProof.Rows
abbrev Key:=Sum Int Str
def zPL:Key->Value->Bool
 | .inl k,v=>Value.isInt k v
 | .inr x,v=>Value.isStrOf x v
def zSM(w:World):Key->Int
 | .inl k=>hashInt k
 | .inr x=>hashStr w x
theorem dG:∀ {k:Key} {v:Value},zPL k v=true->(∃ i t,k=Sum.inl i/\v=Value.int i t)∨(∃ x t,k=Sum.inr x/\v=Value.str x t)
 | .inl i,v,h=>by
  obtain⟨t,e⟩:=Value.isInt_shape (k:=i) (v:=v) h;exact .inl ⟨i,t,rfl,e⟩
 | .inr x,v,h=>by
  obtain⟨t,e⟩:=Value.isStrOf_shape (x:=x) (v:=v) h;exact .inr ⟨x,t,rfl,e⟩
theorem zPn(a b:Int):decide ((Sum.inl a:Key)=Sum.inl b)=(a==b):=by
 by_cases e:a=b
 ·subst e;simp
 ·have h:¬ (Sum.inl a:Key)=Sum.inl b:=fun q=>e (Sum.inl.inj q)
  rw[decide_eq_false h];exact(beq_eq_false_iff_ne.mpr e).symm
theorem zPk(a b:Str):decide ((Sum.inr a:Key)=Sum.inr b)=decide (a=b):=by
 by_cases e:a=b
 ·subst e;simp
 ·have h:¬ (Sum.inr a:Key)=Sum.inr b:=fun q=>e (Sum.inr.inj q)
  rw[decide_eq_false h,decide_eq_false e]
theorem zPg(a:Int)(b:Str):decide ((Sum.inl a:Key)=Sum.inr b)=false:=decide_eq_false (fun q=>nomatch q)
theorem zQd(a:Str)(b:Int):decide ((Sum.inr a:Key)=Sum.inl b)=false:=decide_eq_false (fun q=>nomatch q)
def zJk(prog:Program)(w:World):PySem.KeyKind prog w Key where
 is:=zPL
 hash:=zSM w
 inj:=fun v a b ha hb=>by
  rcases dG ha with⟨i,t,rfl,rfl⟩ | ⟨x,t,rfl,rfl⟩
  ·rcases dG hb with⟨j,u,rfl,e⟩ | ⟨y,u,rfl,e⟩
   ·injection e with e1 _;rw[e1]
   ·exact nomatch e
  ·rcases dG hb with⟨j,u,rfl,e⟩ | ⟨y,u,rfl,e⟩
   ·exact nomatch e
   ·injection e with e1 _;rw[e1]
 byValue:=fun k v h=>by
  rcases dG h with⟨i,t,rfl,rfl⟩ | ⟨x,t,rfl,rfl⟩<;>rfl
 pyHash:=fun hv h=>by
  rcases dG hv with⟨i,t,rfl,rfl⟩ | ⟨x,t,rfl,rfl⟩
  ·exact wpAny_pyHash_int h
  ·exact wpAny_pyHash_str h
 eqBool:=fun hu hv h=>by
  rcases dG hu with⟨i,t,rfl,rfl⟩ | ⟨x,t,rfl,rfl⟩
  ·rcases dG hv with⟨j,u,rfl,rfl⟩ | ⟨y,u,rfl,rfl⟩
   ·rw[zPn] at h;exact wpAny_eqBool_int h
   ·rw[zPg] at h;exact SeqAt.EqAt.int_str i t y u _ _ _ _ h
  ·rcases dG hv with⟨j,u,rfl,rfl⟩ | ⟨y,u,rfl,rfl⟩
   ·rw[zQd] at h;exact SeqAt.EqAt.str_int x t j u _ _ _ _ h
   ·rw[zPk] at h;exact wpAny_eqBool_str h
 «strs» := fun k x t v h=>by
  rcases dG h with⟨i,u,rfl,e⟩ | ⟨y,u,rfl,e⟩
  ·exact nomatch e
  ·injection e with e1 _
   subst e1;cases v<;>rfl
inductive V where
 | non | bl (b:Bool) | int (i:Int) | str (x:Str) | byt (b:Array UInt8) | flt (b:UInt64) | ref (a:Addr) | ty (n:String)
 deriving DecidableEq
def cV:V->Value->Prop
 | .non,u=>u=Value.none
 | .bl b,u=>u=Value.bool b
 | .int i,u=>∃ t,u=Value.int i t
 | .str x,u=>∃ t,u=Value.str x t
 | .byt b,u=>∃ t,u=Value.bytes b t
 | .flt b,u=>∃ t,u=Value.float b t
 | .ref a,u=>u=Value.ref a
 | .ty n,u=>u=Value.type n
abbrev dN:List V->List Value->Prop:=Paired cV
theorem dN.length{xs:List V}{us:List Value}(r:dN xs us):xs.length=us.length:=Paired.length r
theorem dN.get:∀ {xs:List V} {us:List Value} {i:Nat} {x:V},dN xs us->xs[i]?=some x->∃ u,us[i]?=some u/\cV x u
 | _,_,_,_,.nil,e=>by simp at e
 | _,_,0,_,.cons r _,e=>by simp at e;subst e;exact⟨_,rfl,r⟩
 | _,_,i+1,x,.cons _ t,e=>by
  obtain⟨u,h1,h2⟩:=dN.get (i:=i) (x:=x) t (by simpa using e)
  exact⟨u,by simpa using h1,h2⟩
theorem dN.set{x:V}{u:Value}(r:cV x u):∀ {xs:List V} {us:List Value} (i:Nat),dN xs us->dN (xs.set i x) (us.set i u)
 | _,_,_,.nil=>.nil
 | _,_,0,.cons _ t=>.cons r t
 | _,_,i+1,.cons q t=>.cons q (dN.set r i t)
theorem dN.append:∀ {xs ys:List V} {us ws:List Value},dN xs us->dN ys ws->dN (xs++ys) (us++ws)
 | _,_,_,_,.nil,s=>s
 | _,_,_,_,.cons r t,s=>.cons r (dN.append t s)
theorem dN.take:∀ {xs:List V} {us:List Value} (n:Nat),dN xs us->dN (xs.take n) (us.take n)
 | _,_,0,_=>.nil
 | _,_,_+1,.nil=>.nil
 | _,_,n+1,.cons r t=>.cons r (dN.take n t)
theorem dN.drop:∀ {xs:List V} {us:List Value} (n:Nat),dN xs us->dN (xs.drop n) (us.drop n)
 | _,_,0,r=>r
 | _,_,_+1,.nil=>.nil
 | _,_,n+1,.cons _ t=>dN.drop n t
def zRS:Option V->Option Value->Prop
 | some v,some u=>cV v u
 | none,none=>True
 | _,_=>False
def KV{κ:Type}:List (κ×V)->List (κ×Value)->Prop:=Paired fun(p:κ×V) (q:κ×Value)=>p.1=q.1/\cV p.2 q.2
def kV:Key->V
 | .inl i=>.int i
 | .inr x=>.str x
inductive HO where
 | lst (xs:List V)
 | tup (xs:List V)
 | dK (kvs:List (Key×V)) | dT (kvs:List (List Key×V))
 | set (S:Int->Bool) (n:Nat)
 | ins (C dx:Addr) (fs:List (Str×V))
 | own (x:Addr)
 | xd (fs:List (Str×V))
 | met (f x:Addr)
 | rng (lo hi:Int)
 | frz (o:Obj) (u:HO)
 | tbl (ps:Array Value)
 | ext (φ:Heap->Prop)
abbrev Hp:=Addr->Option HO
def upd(H:Hp)(a:Addr)(o:HO):Hp:=fun b=>if b=a then some o else H b
theorem aY{H:Hp}{a:Addr}{o:HO}:upd H a o a=some o:=by unfold upd;rw[if_pos rfl]
theorem aW{H:Hp}{a b:Addr}{o:HO}(h:b≠a):upd H a o b=H b:=by unfold upd;rw[if_neg h]
theorem zPH{H:Hp}{a b:Addr}{o u:HO}(h:H a=some o)(h':H b=some u)(d:o≠u):a≠b:=by
 intro e;subst e;rw[h] at h';exact d (QK h')
theorem bB{H:Hp}{a b:Addr}{o:HO}(h:H a=some o)(h':H b=none):a≠b:=by
 intro e;subst e;rw[h] at h';cases h'
section
variable(P:Program)(w:World)
def mK(H:Hp)(h:Heap)(a:Addr):HO->Prop
 | .lst xs=>xs.length<=sizeLine/\∃(its:List Value)(n:Nat),dN xs its/\h.get? a=some { cls:=.type "list", data:=.seq its.toArray n }
 | .tup xs=>xs.length<=sizeLine/\∃ its:List Value,dN xs its/\IsTup h a its.toArray
 | .dK kvs=>kvs.length<=sizeLine/\(a==sysModules)=false/\∃ vs,KV kvs vs/\h.DictOf (zJk P w) a vs
 | .dT kvs=>kvs.length<=sizeLine/\(a==sysModules)=false/\∃ xs:List (List Key×Addr×Value),
   Paired (fun(p:List Key×V) (q:List Key×Addr×Value)=>p.1=q.1/\H q.2.1=some (.tup (p.1.map kV))/\cV p.2 q.2.2) kvs xs/\
   ∃ o es ep,h.get? a=some o/\o.ExactDict/\o.data=.dict es ep/\es.toList=xs.map (entryOfKey (tupleKind (zJk P w)))/\(xs.map (·.1)).Nodup
 | .set S n=>h.SetOf (intKind P w) a S n
 | .ins C dx fs=>H dx=some (.own a)/\fs.length<=1000/\dx≠a/\h.get? a=some (PySem.W.instObj C dx)/\
   ∃ mA,h.Ns1 dx mA/\(∀ f,zRS (fs.lookup f) (mA f))/\PySem.Within mA (fs.map (·.1))
 | .own _=>∃ o,h.get? a=some o
 | .xd fs=>∃ mA,h.Ns1 a mA/\∀ f,zRS (fs.lookup f) (mA f)
 | .rng lo hi=>∃ t u v,h.get? a=some { cls:=.type "range", data:=.fields #[.int lo t,.int hi u,.int 1 v] }
 | .frz o u=>h.get? a=some o/\mK H h a u
 | .tbl ps=>h.get? a=some { cls:=.none,data:=.fields ps }
 | .met f x=>h.get? a=some (PySem.W.methodObj (.ref f) (.ref x))
 | .ext φ=>φ h/\(∃ o,h.get? a=some o)/\∀ h1 h2:Heap,φ h1->(∀ o,h1.get? a=some o->h2.get? a=some o)->φ h2
def HOk(H:Hp)(h:Heap):Prop:=∀ a o,H a=some o->mK P w H h a o
end
section
variable{P:Program}{w:World}{H H':Hp}{h h':Heap}{a:Addr}{o:HO}
theorem mK.lt(x:mK P w H h a o):a<h.objs.size:=by
 cases o with
 | lst xs=>obtain⟨_,_,_,_,e⟩:=x;exact Heap.lt_size e
 | tup xs=>obtain⟨_,_,_,p⟩:=x;exact p.lt
 | dK kvs=>obtain⟨_,_,_,_,o,_,_,e,_⟩:=x;exact Heap.lt_size e
 | dT kvs=>obtain⟨_,_,_,_,o,_,_,e,_⟩:=x;exact Heap.lt_size e
 | set S n=>obtain⟨o,_,_,_,e,_⟩:=x;exact Heap.lt_size e
 | ins C dx fs=>obtain⟨_,_,_,e,_⟩:=x;exact Heap.lt_size e
 | own y=>obtain⟨_,e⟩:=x;exact Heap.lt_size e
 | xd fs=>obtain⟨_,⟨_,_,_,e,_⟩,_⟩:=x;exact Heap.lt_size e
 | rng lo hi=>obtain⟨_,_,_,e⟩:=x;exact Heap.lt_size e
 | frz ob u=>obtain⟨e,_⟩:=x;exact Heap.lt_size e
 | tbl ps=>exact Heap.lt_size (show h.get? a=some _ from x)
 | met f y=>exact Heap.lt_size (show h.get? a=some _ from x)
 | ext φ=>obtain⟨_,⟨_,e⟩,_⟩:=x;exact Heap.lt_size e
theorem Paired.mapP{α β:Type}{F G:α->β->Prop}:∀ {l₁:List α} {l₂:List β},Paired F l₁ l₂->(∀ a b,F a b->G a b)->Paired G l₁ l₂
 | _,_,.nil,_=>.nil
 | _,_,.cons r t,f=>.cons (f _ _ r) (Paired.mapP t f)
theorem mK.stay(x:mK P w H h a o)(k:∀ b u,(b=a∨H b=some (.own a))->h.get? b=some u->h'.get? b=some u)
  (ho:∀ b,H b=some (.own a)->H' b=some (.own a)) (ht:∀ b xs,H b=some (.tup xs)->H' b=some (.tup xs)):mK P w H' h' a o:=by
 induction o with
 | lst xs=>obtain⟨z,its,n,r,e⟩:=x;exact⟨z,its,n,r,k _ _ (.inl rfl) e⟩
 | tup xs=>obtain⟨z,its,r,ob,e,c⟩:=x;exact⟨z,its,r,ob,k _ _ (.inl rfl) e,c⟩
 | dK kvs=>obtain⟨z,y,vs,r,ob,es,ep,e,c⟩:=x;exact⟨z,y,vs,r,ob,es,ep,k _ _ (.inl rfl) e,c⟩
 | dT kvs=>
  obtain⟨z,y,xs,r,ob,es,ep,e,c⟩:=x;exact⟨z,y,xs,Paired.mapP r fun p q z=>⟨z.1,ht _ _ z.2.1,z.2.2⟩,ob,es,ep,k _ _ (.inl rfl) e,c⟩
 | set S n=>obtain⟨ob,es,ep,t,e,c⟩:=x;exact⟨ob,es,ep,t,k _ _ (.inl rfl) e,c⟩
 | ins C dx fs=>
  obtain⟨d,z,ne,e,mA,⟨od,es,ep,e2,c⟩,r⟩:=x;exact⟨ho _ d,z,ne,k _ _ (.inl rfl) e,mA,⟨od,es,ep,k _ _ (.inr d) e2,c⟩,r⟩
 | own y=>obtain⟨ob,e⟩:=x;exact⟨ob,k _ _ (.inl rfl) e⟩
 | xd fs=>obtain⟨mA,⟨od,es,ep,e,c⟩,r⟩:=x;exact⟨mA,⟨od,es,ep,k _ _ (.inl rfl) e,c⟩,r⟩
 | rng lo hi=>obtain⟨t,u,v,e⟩:=x;exact⟨t,u,v,k _ _ (.inl rfl) e⟩
 | frz ob u ih=>obtain⟨e,q⟩:=x;exact⟨k _ _ (.inl rfl) e,ih q⟩
 | tbl ps=>
  have e:h.get? a=some { cls:=.none,data:=.fields ps }:=x;show h'.get? a=some { cls:=.none,data:=.fields ps }
  exact k a _ (.inl rfl) e
 | met f y=>
  have e:h.get? a=some (PySem.W.methodObj (.ref f) (.ref y)):=x;show h'.get? a=some (PySem.W.methodObj (.ref f) (.ref y))
  exact k a _ (.inl rfl) e
 | ext φ=>obtain⟨p,⟨o,e⟩,st⟩:=x;exact⟨st _ _ p fun o q=>k _ _ (.inl rfl) q,⟨o,k _ _ (.inl rfl) e⟩,st⟩
theorem HOk.lt(x:HOk P w H h)(e:H a=some o):a<h.objs.size:=(x a o e).lt
theorem HOk.fresh(x:HOk P w H h)(e:h.objs.size<=a):H a=none:=by
 cases q:H a with
 | none=>rfl
 | some u=>exact absurd (Qs (x.lt q) e) (Q3 _)
theorem HOk.kept(x:HOk P w H h)(k:∀ b u,h.get? b=some u->h'.get? b=some u):HOk P w H h':=fun a o e=>
 (x a o e).stay (fun b u _ q=>k b u q) (fun _ q=>q) fun _ _ q=>q
theorem HOk.laid(x:HOk P w H h)(k:∀ b u,h.get? b=some u->h'.get? b=some u)(hp:h.objs.size<=a)(new:mK P w (upd H a o) h' a o):HOk P w (upd H a o) h':=fun b u e=>by
 have hn:=x.fresh hp;by_cases hb:b=a
 ·subst hb;rw[aY] at e;cases e;exact new
 ·rw[aW hb] at e
  exact(x b u e).stay (fun c v _ q=>k c v q) (fun c q=>by rw[aW (bB q hn)];exact q) fun c xs q=>by rw[aW (bB q hn)];exact q
end
def Rd(H:Hp)(a:Addr)(u:HO):Prop:=H a=some u∨∃ o,H a=some (.frz o u)
theorem Rd.ok{P:Program}{w:World}{H:Hp}{h:Heap}{a:Addr}{u:HO}(r:Rd H a u)(x:HOk P w H h):mK P w H h a u:=by
 rcases r with r | ⟨o,r⟩
 ·exact x a u r
 ·obtain⟨_,q⟩:=x a _ r
  exact q
def Mut:Option HO->Prop
 | some (.lst _)=>True
 | some (.dK _)=>True
 | some (.dT _)=>True
 | some (.set _ _)=>True
 | some (.ins _ _ _)=>True
 | some (.ext _)=>True
 | _=>False
section
variable{P:Program}{w:World}{H:Hp}{h h':Heap}{x e:Addr}{o':HO}
theorem HOk.write(ok:HOk P w H h)(mu:Mut (H x))(he:e=x∨H e=some (.own x))(k:∀ b u,b≠e->h.get? b=some u->h'.get? b=some u)(heo:∃ u,h'.get? e=some u)
  (new:mK P w (upd H x o') h' x o'):HOk P w (upd H x o') h':=fun b u q=>by
 have nown:∀ c y,H c=some (.own y)->c≠x:=fun c y r z=>by subst z;rw[r] at mu;exact mu
 have ntup:∀ c xs,H c=some (.tup xs)->c≠x:=fun c xs r z=>by subst z;rw[r] at mu;exact mu
 by_cases hb:b=x
 ·subst hb;rw[aY] at q;cases q;exact new
 ·rw[aW hb] at q
  by_cases hbe:b=e
  ·have q':H b=some (.own x):=by
    rcases he with z | z
    ·exact absurd (hbe.trans z) hb
    ·rw[hbe];exact z
   rw[q] at q';cases q'
   obtain⟨v,hv⟩:=heo;exact⟨v,by rw[hbe];exact hv⟩
  ·refine(ok b u q).stay (fun c v hc r=>k c v ?_ r) (fun c r=>by rw[aW (nown c b r)];exact r) fun c xs r=>by rw[aW (ntup c xs r)];exact r
   rcases hc with rfl | hc
   ·exact hbe
   ·rintro rfl
    rcases he with z | z
    ·exact nown c b hc z
    ·rw[hc] at z;cases z;exact hb rfl
end
structure Un (fs ex:List Addr) (H H':Hp) (h h':Heap):Prop where
 keep:∀ b o,h.get? b=some o->H b=none->b∉fs->b∉ex->h'.get? b=some o
 slot:∀ b o,h.get? b=some o->H b=none->b∈fs->b∉ex->∃ sl,h'.get? b=some { o with slots:=sl }
 free:∀ b o,h.get? b=some o->H b=none->b∉ex->H' b=none
 there:∀ b o,h.get? b=some o->b∉ex->∃ o',h'.get? b=some o'
 tups:∀ b xs,H b=some (.tup xs)->H' b=some (.tup xs)
 frzs:∀ b o u,H b=some (.frz o u)->H' b=some (.frz o u)
 tbls:∀ b ps,H b=some (.tbl ps)->∃ more,H' b=some (.tbl (ps++more))
section
variable{fs fs' ex ex':List Addr}{H H1 H2:Hp}{h h1 h2 h':Heap}{a x e:Addr}{o:HO}
theorem Un.any(u:Un fs ex H H1 h h1){b:Addr}{ob:Obj}(q:h.get? b=some ob)(n:H b=none)(hx:b∉ex):∃ sl,h1.get? b=some { ob with slots:=sl }:=by
 by_cases hb:b∈fs
 ·exact u.slot b ob q n hb hx
 ·exact⟨ob.slots,u.keep b ob q n hb hx⟩
theorem Un.kept(k:∀ b u,h.get? b=some u->h'.get? b=some u):Un fs ex H H h h':=
 ⟨fun b ob q _ _ _=>k b ob q,fun b ob q _ _ _=>⟨ob.slots,k b ob q⟩,fun _ _ _ n _=>n,fun b ob q _=>⟨ob,k b ob q⟩,fun _ _ q=>q,fun _ _ _ q=>q,fun _ ps q=>⟨#[],by rw[q];simp⟩⟩
theorem Un.refl:Un fs ex H H h h:=Un.kept fun _ _ q=>q
theorem Un.laid(k:∀ b u,h.get? b=some u->h'.get? b=some u)(hp:h.objs.size<=a)(hn:H a=none):Un fs ex H (upd H a o) h h' where
 keep:=fun b u q _ _ _=>k b u q
 slot:=fun b u q _ _ _=>⟨u.slots,k b u q⟩
 free:=fun b u q n _=>by rw[aW (Qt (Qs (Heap.lt_size q) hp))];exact n
 there:=fun b u q _=>⟨u,k b u q⟩
 tups:=fun b xs q=>by rw[aW (bB q hn)];exact q
 frzs:=fun b u xs q=>by rw[aW (bB q hn)];exact q
 tbls:=fun b ps q=>⟨#[],by rw[aW (bB q hn),q];simp⟩
theorem Un.write(mu:Mut (H x))(he:e=x∨H e=some (.own x))(k:∀ b u,b≠e->h.get? b=some u->h'.get? b=some u)(heo:∃ u,h'.get? e=some u):Un fs ex H (upd H x o) h h':=by
 have hx:∀ b,H b=none->b≠x:=fun b n z=>by subst z;rw[n] at mu;exact mu
 have hb:∀ b,H b=none->b≠e:=fun b n z=>by
  subst z;rcases he with r | r
  ·exact hx b n r
  ·rw[n] at r;cases r
 have hm:∀ b u,H b=some u->¬ Mut (some u)->b≠x:=fun b u q nm z=>by subst z;rw[q] at mu;exact nm mu
 refine⟨fun b u q n _ _=>k b u (hb b n) q,fun b u q n _ _=>⟨u.slots,k b u (hb b n) q⟩,fun b u q n _=>by rw[aW (hx b n)];exact n,fun b u q _=>?_,
  fun b xs q=>by rw[aW (hm b _ q fun z=>z)];exact q,fun b u xs q=>by rw[aW (hm b _ q fun z=>z)];exact q,fun b ps q=>⟨#[],by rw[aW (hm b _ q fun z=>z),q];simp⟩⟩
 by_cases hbe:b=e
 ·subst hbe;exact heo
 ·exact⟨u,k b u hbe q⟩
end
def trk(h:Heap)(H:Hp):List Addr:=(List.range h.objs.size).filter fun a=>(H a).isSome
def zJm(h:Heap)(H:Hp):Heap:=PySem.W.hideAll h (trk h H)
theorem zHx(h:Heap)(H:Hp):(zJm h H).objs.size=h.objs.size:=PySem.W.hideAll_size _ _
theorem zKe{h:Heap}{H:Hp}{b:Addr}{o:Obj}(e:h.get? b=some o)(n:H b=none):(zJm h H).get? b=some o:=
 XM _ e fun hm=>by
  have q:(H b).isSome=true:=(List.mem_filter.mp hm).2;rw[n] at q;simp at q
theorem zMA{h:Heap}{H:Hp}{b:Addr}{o:Obj}(e:(zJm h H).get? b=some o):h.get? b=some o/\H b=none:=by
 have e':h.get? b=some o:=PySem.W.of_hideAll (trk h H) e;refine⟨e',?_⟩
 cases q:H b with
 | none=>rfl
 | some x=>
  have hm:b∈trk h H:=List.mem_filter.mpr ⟨Qk.mpr (Heap.lt_size e'),by simp[q]⟩
  have z:(zJm h H).get? b=none:=PySem.W.hideAll_none (trk h H) hm;rw[z] at e;cases e
def zMg(g h:Heap)(L:Addr):List (Addr×Obj):=(List.range h.objs.size).filterMap fun a=>if a=L∨(g.get? a).isSome=true then none else (h.get? a).map fun o=>(a,o)
def rest(g h:Heap)(L d:Addr):List (Addr×Obj):=(zMg g h L).filter fun p=>decide (p.1≠d)
structure Mod (K:PySem.W.Frag) (mg:Str->Option Value) (base:Heap):Prop where
 kin:K.In base
 glob:base.Ns mainGlobals mg
 blt:∃ mb,base.Ns builtinsNs mb/\∀ x:Str,x ≠ "__name__" -> mb x=bootBuiltins x
 nolimit:base.NoLimit
structure Cx where
 prog:Program
 w:World
 K:PySem.W.Frag
 mg:Str->Option Value
 base:Heap
 A:Around
 N:List Str
 s₀:Shared
 H₀:Hp
 env:Env
 outer:List Env
 stack:List Env
 ex:List Addr
 fn:Str->Bool
 calm:Bool
 pn:List (Addr×Obj)
 xe:Value->Shared->Prop
def frs(l:List Env):List Addr:=l.filterMap (·.frame)
abbrev Cx.fs(X:Cx):List Addr:=frs X.outer
def Vis(sc:Scope)(x:Str):Prop:=sc.names.lookup x=some .local∨sc.names.lookup x=some .cell∨sc.names.lookup x=some .free
def Loc(sc:Scope)(x:Str):Prop:=sc.names.lookup x=some .local∨sc.names.lookup x=some .cell
def zSJ(env:Env)(h:Heap)(m:Str->Option Value)(x:Str)(u:Value):Prop:=
 (env.kindOf x=some .local/\m x=some u)∨((env.kindOf x=some .cell∨env.kindOf x=some .free)/\∃ c,env.cells.lookup x=some c/\h.IsCell c (some u))
structure Cx.Ok (X:Cx):Prop where
 mod:Mod X.K X.mg X.base
 kind:X.env.scope.kind=.function
 glob:X.env.globals=mainGlobals
 blt:X.env.builtins=builtinsNs
 above:X.s₀.heap.objs.size<=X.env.locals
 inj:∀ x y c,X.env.cells.lookup x=some c->X.env.cells.lookup y=some c->x=y
 has:∀ x,(X.env.kindOf x=some .cell∨X.env.kindOf x=some .free)->∃ c,X.env.cells.lookup x=some c
 cab:∀ x c,X.fn x=true->X.env.cells.lookup x=some c->X.s₀.heap.objs.size<=c
 hd:X.calm=true->X.A.handled=none
 frames:X.A.frames=some X.stack
 stk:X.stack=X.outer∨(X.stack=X.env::X.outer/\X.env.frame=some X.env.locals)
 exf:∀ b∈X.ex,b≠X.env.locals/\∀ x c,X.env.cells.lookup x=some c->c≠b
 bs:∀ b o,X.base.get? b=some o->X.s₀.heap.get? b=some o/\X.H₀ b=none
 bsz:X.base.objs.size<=X.s₀.heap.objs.size
 noex:∀ b o,X.base.get? b=some o->b∉X.ex
 exfs:∀ b∈X.ex,b∉X.fs
 funs:X.s₀.heap.FunFrames X.base X.outer
 frf:∀ b∈X.fs,X.H₀ b=none
structure Inv (X:Cx) (pins:List (Addr×Obj)) (σ:List (Option V)) (H:Hp) (s:Shared):Prop where
 ok:X.Ok
 os:s.os=X.s₀.os
 bare:AllBare s.gens
 base:Un X.fs X.ex X.H₀ H X.s₀.heap s.heap
 loc:∃ m,s.heap.Ns X.env.locals m/\∀(i:Nat)(x:Str)(v:V),X.N[i]?=some x->σ[i]?=some (some v)->Vis X.env.scope x->∃ u,cV v u/\zSJ X.env s.heap m x u
 cell:∀ x c,X.env.cells.lookup x=some c->∃ v,s.heap.IsCell c v
 free:H X.env.locals=none
 freeC:∀ x c,X.env.cells.lookup x=some c->H c=none
 pin:∀ p∈X.pn++pins,s.heap.get? p.1=some p.2/\H p.1=none/\p.1≠X.env.locals/\p.1∉X.fs/\∀ v,p.2.data≠.cell v
 hok:HOk X.prog X.w H s.heap
 len:σ.length=X.N.length
section
variable{X:Cx}{pins:List (Addr×Obj)}{σ:List (Option V)}{H H':Hp}{s:Shared}{h':Heap}
theorem Cx.Ok.nofr(ok:X.Ok){b:Addr}{o:Obj}(e:X.base.get? b=some o):b∉X.fs:=fun hb=>by
 have:=(ok.funs.mem hb).1
 rw[e] at this;cases this
theorem Inv.bs(I:Inv X pins σ H s):∀ b o,X.base.get? b=some o->s.heap.get? b=some o/\H b=none:=fun b o e=>
 ⟨I.base.keep b o (I.ok.bs b o e).1 (I.ok.bs b o e).2 (I.ok.nofr e) (I.ok.noex b o e),I.base.free b o (I.ok.bs b o e).1 (I.ok.bs b o e).2 (I.ok.noex b o e)⟩
theorem Inv.bk(I:Inv X pins σ H s):∀ b o,X.base.get? b=some o->s.heap.get? b=some o:=fun b o e=>(I.bs b o e).1
theorem Inv.mod(I:Inv X pins σ H s):Mod X.K X.mg X.base:=I.ok.mod
theorem Inv.kIn(I:Inv X pins σ H s):X.K.In s.heap:=I.ok.mod.kin.keeps I.bk
theorem Inv.lt(I:Inv X pins σ H s):X.env.locals<s.heap.objs.size:=let ⟨_,hn,_⟩:=I.loc;hn.lt
theorem Inv.sz(I:Inv X pins σ H s):X.s₀.heap.objs.size<=s.heap.objs.size:=Qv I.ok.above (Vs I.lt)
theorem Inv.nofs(I:Inv X pins σ H s){a:Addr}(h:s.heap.objs.size<=a):a∉X.fs:=fun hb=>by
 obtain⟨_,o,ho,_⟩:=I.ok.funs.mem hb;exact absurd (Qs (Heap.lt_size ho) (Qv I.sz h)) (Q3 _)
theorem Inv.cne(I:Inv X pins σ H s):∀ x c,X.env.cells.lookup x=some c->c≠X.env.locals:=fun x c e z=>by
 obtain⟨v,o,ho,hd⟩:=I.cell x c e;obtain⟨m,⟨o',es,ep,ho',hd',_⟩,_⟩:=I.loc;rw[z,ho'] at ho;cases ho;rw[hd'] at hd;cases hd
theorem Inv.funs(I:Inv X pins σ H s):s.heap.FunFrames X.base X.outer:=by
 have all:∀(l:List Env),(∀ b∈frs l,b∈X.fs)->X.s₀.heap.FunFrames X.base l->s.heap.FunFrames X.base l:=by
  intro l
  induction l with
  | nil=>intro _ _;trivial
  | cons env r ih=>
   intro hs hl;obtain⟨hk,⟨L,o,hf,hn,ho,hd⟩,hr⟩:=hl;have hL:L∈X.fs:=hs L (by unfold frs;rw[Xk,hf];exact Qb)
   obtain⟨sl,e⟩:=I.base.slot L o ho (I.ok.frf L hL) hL fun z=>I.ok.exfs L z hL
   exact⟨hk,⟨L,_,hf,hn,e,hd⟩,ih (fun b hb=>hs b (by unfold frs;rw[Xk,hf];exact Qc _ hb)) hr⟩
 exact all X.outer (fun _ hb=>hb) I.ok.funs
theorem Inv.stack(I:Inv X pins σ H s):s.heap.FunFrames X.base X.stack:=by
 rcases I.ok.stk with e | ⟨e,hf⟩
 ·rw[e];exact I.funs
 ·rw[e]
  obtain⟨m,hn,_⟩:=I.loc;refine .cons (by rw[I.ok.kind];decide) hf hn ?_ I.funs
  exact Heap.get?_none_of_le (Qv I.ok.bsz I.ok.above)
theorem Inv.stkSub(I:Inv X pins σ H s):∀ b∈frs X.stack,b∈X.env.locals::X.fs:=fun b hb=>by
 rcases I.ok.stk with e | ⟨e,hf⟩
 ·rw[e] at hb;exact Qc _ hb
 ·rw[e] at hb
  unfold frs at hb;rw[Xk,hf] at hb;exact hb
theorem Inv.stkFree(I:Inv X pins σ H s):∀ b∈frs X.stack,H b=none:=fun b hb=>by
 rcases Qe.mp (I.stkSub b hb) with e | hb
 ·rw[e];exact I.free
 ·obtain⟨_,o,ho,_⟩:=I.ok.funs.mem hb
  exact I.base.free b o ho (I.ok.frf b hb) fun z=>I.ok.exfs b z hb
theorem Inv.step{g':Array GenState}{t':Nat}{d':Drawn}{ch:List Addr}(I:Inv X pins σ H s)
  (hch:∀ b∈ch,(b∈X.ex∨X.s₀.heap.objs.size<=b)/\b≠X.env.locals/\(∀ x c,X.env.cells.lookup x=some c->c≠b)/\∀ p∈X.pn++pins,p.1≠b)
  (keep:∀ b o,b≠X.env.locals->b∉X.fs->b∉ch->s.heap.get? b=some o->H b=none->h'.get? b=some o)
  (slot:∀ b o,b≠X.env.locals->b∈X.fs->b∉ch->s.heap.get? b=some o->H b=none->∃ sl,h'.get? b=some { o with slots:=sl }) (free:∀ b o,b∉ch->s.heap.get? b=some o->H b=none->H' b=none)
  (there:∀ b o,b∉ch->s.heap.get? b=some o->∃ o',h'.get? b=some o')
  (tups:∀ b xs,H b=some (.tup xs)->H' b=some (.tup xs)) (frzs:∀ b o u,H b=some (.frz o u)->H' b=some (.frz o u)) (tbls:∀ b ps,H b=some (.tbl ps)->∃ more,H' b=some (.tbl (ps++more)))
  (ns:∀ m,s.heap.Ns X.env.locals m->h'.Ns X.env.locals m) (hok:HOk X.prog X.w H' h') (hg:AllBare g'):
  Inv X pins σ H' { s with heap:=h',gens:=g',drawn:=d',toks:=t' }:=by
 have neL:∀ b o,X.s₀.heap.get? b=some o->b≠X.env.locals:=fun b o e=>Qt (Qs (Heap.lt_size e) I.ok.above)
 have neC:∀ b o,X.s₀.heap.get? b=some o->b∉X.ex->b∉ch:=fun b o e hx hb=>by
  rcases (hch b hb).1 with z | z
  ·exact hx z
  ·exact absurd (Qs (Heap.lt_size e) z) (Q3 _)
 have cellK:∀ x c,X.env.cells.lookup x=some c->∀ v,s.heap.IsCell c v->h'.IsCell c v:=fun x c e v ⟨o,ho,hd⟩=>by
  have nch:c∉ch:=fun z=>(hch c z).2.2.1 x c e rfl
  by_cases hc:c∈X.fs
  ·obtain⟨sl,q⟩:=slot c o (I.cne x c e) hc nch ho (I.freeC x c e)
   exact⟨_,q,hd⟩
  ·exact⟨o,keep c o (I.cne x c e) hc nch ho (I.freeC x c e),hd⟩
 refine⟨I.ok,I.os,hg,⟨fun b o e n hb hx=>?_,fun b o e n hb hx=>?_,fun b o e n hx=>?_,fun b o e hx=>?_,fun b xs e=>tups b xs (I.base.tups b xs e),fun b o xs e=>frzs b o xs (I.base.frzs b o xs e),fun b ps e=>?_⟩,?_,fun x c e=>?_,?_,fun x c e=>?_,fun p hp=>?_,hok,I.len⟩
 ·exact keep b o (neL b o e) hb (neC b o e hx) (I.base.keep b o e n hb hx) (I.base.free b o e n hx)
 ·obtain⟨sl,e1⟩:=I.base.slot b o e n hb hx
  obtain⟨sl',e2⟩:=slot b _ (neL b o e) hb (neC b o e hx) e1 (I.base.free b o e n hx);exact⟨sl',e2⟩
 ·obtain⟨o',e1⟩:=I.base.there b o e hx
  exact free b o' (neC b o e hx) e1 (I.base.free b o e n hx)
 ·obtain⟨o',e1⟩:=I.base.there b o e hx
  exact there b o' (neC b o e hx) e1
 ·obtain⟨m1,e1⟩:=I.base.tbls b ps e
  obtain⟨m2,e2⟩:=tbls b _ e1;exact⟨m1++m2,by rw[e2,Array.append_assoc]⟩
 ·obtain⟨m,hn,hl⟩:=I.loc
  refine⟨m,ns m hn,fun i x v e1 e2 e3=>?_⟩
  obtain⟨u,r,l⟩:=hl i x v e1 e2 e3;refine⟨u,r,?_⟩
  rcases l with l | ⟨k,c,e,z⟩
  ·exact .inl l
  ·exact .inr ⟨k,c,e,cellK x c e _ z⟩
 ·obtain⟨v,z⟩:=I.cell x c e
  exact⟨v,cellK x c e v z⟩
 ·obtain⟨m,⟨o,_,_,ho,_⟩,_⟩:=I.loc
  exact free _ o (fun z=>(hch _ z).2.1 rfl) ho I.free
 ·obtain⟨v,o,ho,hd⟩:=I.cell x c e
  exact free c o (fun z=>(hch c z).2.2.1 x c e rfl) ho (I.freeC x c e)
 ·obtain⟨e,n,ne,nf,d⟩:=I.pin p hp
  have nch:p.1∉ch:=fun z=>(hch p.1 z).2.2.2 p hp rfl
  exact⟨keep p.1 p.2 ne nf nch e n,free p.1 p.2 nch e n,ne,nf,d⟩
theorem Inv.un{t':Nat}(I:Inv X pins σ H s)(u:Un X.fs [] H H' s.heap h')(hok:HOk X.prog X.w H' h'):Inv X pins σ H' { s with heap:=h',toks:=t' }:=by
 obtain⟨m,⟨o,es,ep,ho,r⟩,_⟩:=id I.loc;obtain⟨sl,hL⟩:=u.any ho I.free (by simp)
 exact I.step (g':=s.gens) (d':=s.drawn) (ch:=[]) (fun _ z=>nomatch z) (fun b o _ hb _ e n=>u.keep b o e n hb (by simp)) (fun b o _ hb _ e n=>u.slot b o e n hb (by simp)) (fun b o _ e n=>u.free b o e n (by simp)) (fun b o _ e=>u.there b o e (by simp)) u.tups u.frzs u.tbls (fun m' hm=>by
  obtain⟨o',es',ep',ho',r'⟩:=hm;rw[ho] at ho';cases ho'
  exact⟨_,es',ep',hL,r'⟩) hok I.bare
theorem Inv.call{g':Array GenState}{t':Nat}{d':Drawn}{ch:List Addr}(I:Inv X pins σ H s)(u:Un (frs X.stack) ch H H' s.heap h')(hok:HOk X.prog X.w H' h')(hg:AllBare g')
  (hch:∀ b∈ch,(b∈X.ex∨X.s₀.heap.objs.size<=b)/\b≠X.env.locals/\(∀ x c,X.env.cells.lookup x=some c->c≠b)/\∀ p∈X.pn++pins,p.1≠b):
  Inv X pins σ H' { s with heap:=h',gens:=g',drawn:=d',toks:=t' }:=by
 obtain⟨m,⟨o,es,ep,ho,r⟩,_⟩:=id I.loc;obtain⟨sl,hL⟩:=u.any ho I.free fun z=>(hch _ z).2.1 rfl
 exact I.step (ch:=ch) hch (fun b o hL hb hc e n=>u.keep b o e n (fun z=>(Qe.mp (I.stkSub b z)).elim hL hb) hc) (fun b o _ _ hc e n=>u.any e n hc) (fun b o hc e n=>u.free b o e n hc) (fun b o hc e=>u.there b o e hc) u.tups u.frzs u.tbls (fun m' hm=>by
  obtain⟨o',es',ep',ho',r'⟩:=hm;rw[ho] at ho';cases ho'
  exact⟨_,es',ep',hL,r'⟩) hok hg
theorem Inv.turned{t':Nat}{it:Addr}(I:Inv X pins σ H s)(k:∀ b o,b≠it->s.heap.get? b=some o->h'.get? b=some o)(hn:H it=none)(hL:it≠X.env.locals)
  (h1:it∈X.ex∨X.s₀.heap.objs.size<=it) (h2:∀ x c,X.env.cells.lookup x=some c->c≠it) (h3:∀ p∈X.pn++pins,p.1≠it):Inv X pins σ H { s with heap:=h',toks:=t' }:=by
 have nit:∀ b u,H b=some u->b≠it:=fun b u e z=>by rw[z,hn] at e;cases e
 refine I.step (g':=s.gens) (d':=s.drawn) (ch:=[it]) (fun b hb=>?_) (fun b o _ _ hc e _=>k b o (fun z=>hc (by simp[z])) e) (fun b o _ _ hc e _=>⟨o.slots,k b o (fun z=>hc (by simp[z])) e⟩) (fun _ _ _ _ n=>n)
  (fun b o hc e=>⟨o,k b o (fun z=>hc (by simp[z])) e⟩) (fun _ _ e=>e) (fun _ _ _ e=>e) (fun b ps e=>⟨#[],by rw[e];simp⟩) (fun m hm=>?_) (fun b u e=>?_) I.bare
 ·have e:b=it:=by simpa using hb
  subst e;exact⟨h1,hL,h2,h3⟩
 ·obtain⟨o,es,ep,ho,r⟩:=hm
  exact⟨o,es,ep,k _ o (Ne.symm hL) ho,r⟩
 ·refine(I.hok b u e).stay (fun c v hc q=>k c v ?_ q) (fun _ q=>q) fun _ _ q=>q
  rcases hc with z | z
  ·rw[z];exact nit b u e
  ·exact nit c _ z
theorem Inv.tok(I:Inv X pins σ H s)(t:Nat):Inv X pins σ H { s with toks:=t }:=I.un (h':=s.heap) (t':=t) Un.refl I.hok
theorem Inv.kept{t':Nat}(I:Inv X pins σ H s)(k:∀ b u,s.heap.get? b=some u->h'.get? b=some u):Inv X pins σ H { s with heap:=h',toks:=t' }:=I.un (Un.kept k) (I.hok.kept k)
theorem Inv.laid{a:Addr}{o:HO}{t':Nat}(I:Inv X pins σ H s)(k:∀ b u,s.heap.get? b=some u->h'.get? b=some u)(hp:s.heap.objs.size<=a)(new:mK X.prog X.w (upd H a o) h' a o):
  Inv X pins σ (upd H a o) { s with heap:=h',toks:=t' }:=I.un (Un.laid k hp (I.hok.fresh hp)) (I.hok.laid k hp new)
theorem Inv.write{x e:Addr}{o:HO}{t':Nat}(I:Inv X pins σ H s)(mu:Mut (H x))(he:e=x∨H e=some (.own x))(k:∀ b u,b≠e->s.heap.get? b=some u->h'.get? b=some u)(heo:∃ u,h'.get? e=some u)
  (new:mK X.prog X.w (upd H x o) h' x o):Inv X pins σ (upd H x o) { s with heap:=h',toks:=t' }:=I.un (Un.write mu he k heo) (I.hok.write mu he k heo new)
theorem Inv.pins_of{pins':List (Addr×Obj)}(I:Inv X pins σ H s)(h:∀ p∈pins',s.heap.get? p.1=some p.2/\H p.1=none/\p.1≠X.env.locals/\p.1∉X.fs/\∀ v,p.2.data≠.cell v):Inv X pins' σ H s:=
 ⟨I.ok,I.os,I.bare,I.base,I.loc,I.cell,I.free,I.freeC,fun p hp=>(QF.mp hp).elim (fun z=>I.pin p (Vy _ z)) (h p),I.hok,I.len⟩
theorem zEO{N:List Str}(hN:N.Nodup){i j:Nat}{x:Str}(a:N[i]?=some x)(b:N[j]?=some x):i=j:=by
 obtain⟨h1,e1⟩:=Qz.mp a;obtain⟨h2,e2⟩:=Qz.mp b;exact(List.getElem_inj hN).mp (e1.trans e2.symm)
theorem zCB{M:Model}{A:Around}{E:Value->Shared->Prop}{i:Nat}{x:Str}{v:V}{u:Value}{Q:Unit->Shared->Prop}(I:Inv X pins σ H s)(hN:X.N.Nodup)(hi:X.N[i]?=some x)(hx:Loc X.env.scope x)(r:cV v u)
  (h:∀ s',Inv X pins (σ.set i (some v)) H s'->(∃ a,Heap.SameBut a s.heap s'.heap/\(a=X.env.locals∨X.env.cells.lookup x=some a))->Q () s') (hf:X.fn x=true∨X.env.scope.names.lookup x=some .local:=by first | exact .inl rfl | exact .inr rfl | assumption):wpAny M A (storeName X.env x u) Q E s:=by
 obtain⟨m,hn,hl⟩:=id I.loc;have hcls:(X.env.scope.kind==.class || (X.env.scope.kind==.module && X.env.locals != X.env.globals))=false:=by rw[I.ok.kind];rfl
 have hiσ:i<σ.length:=by rw[I.len];exact(Qz.mp hi).1
 have cne:=I.cne
 have tracked:∀ {a:Addr} {h':Heap},(∃ o,s.heap.get? a=some o/\H a=none)->Heap.SameBut a s.heap h'->HOk X.prog X.w H h':=fun {a h'} ha hs b ob e=>by
  obtain⟨_,_,hfree⟩:=ha;refine(I.hok b ob e).stay (fun c w' hc q=>(hs.2 c ?_).trans q) (fun _ q=>q) fun _ _ q=>q
  rintro rfl
  rcases hc with rfl | hc
  ·rw[hfree] at e;cases e
  ·rw[hfree] at hc;cases hc
 rcases hx with hk | hk
 ·refine wpAny_storeName_local hk hn (fun h' hn' hs=>?_) hcls
  obtain⟨oL,_,_,hoL,_⟩:=id hn;refine h _ ⟨I.ok,I.os,I.bare,⟨fun b o e n hb hx=>?_,fun b o e n hb hx=>?_,I.base.free,fun b o e hx=>?_,I.base.tups,I.base.frzs,I.base.tbls⟩,⟨_,hn',fun j y v' e1 e2 e3=>?_⟩,fun y c e=>?_,I.free,I.freeC,fun p hp=>?_,tracked ⟨oL,hoL,I.free⟩ hs,by simpa using I.len⟩ ⟨_,hs,.inl rfl⟩
  ·exact(hs.2 b (Qt (Qs (Heap.lt_size e) I.ok.above))).trans (I.base.keep b o e n hb hx)
  ·obtain⟨sl,e1⟩:=I.base.slot b o e n hb hx
   exact⟨sl,(hs.2 b (Qt (Qs (Heap.lt_size e) I.ok.above))).trans e1⟩
  ·obtain⟨o',e1⟩:=I.base.there b o e hx
   exact⟨o',(hs.2 b (Qt (Qs (Heap.lt_size e) I.ok.above))).trans e1⟩
  ·by_cases hj:j=i
   ·subst hj
    rw[hi] at e1;cases e1
    rw[QV hiσ] at e2;cases e2;exact⟨u,r,.inl ⟨hk,by simp⟩⟩
   ·rw[QN (Ne.symm hj)] at e2
    obtain⟨u',r',q⟩:=hl j y v' e1 e2 e3;refine⟨u',r',?_⟩
    rcases q with⟨k,e⟩ | ⟨k,c,e,z⟩
    ·refine .inl ⟨k,?_⟩
     have:y≠x:=fun e=>hj (zEO hN e1 (e ▸ hi))
     simp[this,e]
    ·exact .inr ⟨k,c,e,z.sameBut hs (cne y c e)⟩
  ·obtain⟨w',z⟩:=I.cell y c e
   exact⟨w',z.sameBut hs (cne y c e)⟩
  ·obtain⟨e,n,ne,nf,d⟩:=I.pin p hp
   exact⟨(hs.2 p.1 ne).trans e,n,ne,nf,d⟩
 ·have hfn:X.fn x=true:=by
   rcases hf with z | z
   ·exact z
   ·rw[z] at hk;cases hk
  obtain⟨c,hc⟩:=I.ok.has x (.inl hk);obtain⟨w',z⟩:=I.cell x c hc;refine wpAny_storeName_cell I.ok.kind hk hc z (fun h' hc' hs=>?_)
  obtain⟨oc,hoc,hocd⟩:=id z;refine h { s with heap:=h' } ⟨I.ok,I.os,I.bare,⟨fun b o e n hb hx=>?_,fun b o e n hb hx=>?_,I.base.free,fun b o e hx=>?_,I.base.tups,I.base.frzs,I.base.tbls⟩,⟨m,hn.sameBut hs (Ne.symm (cne x c hc)),fun j y v' e1 e2 e3=>?_⟩,fun y c' e=>?_,I.free,I.freeC,fun p hp=>?_,tracked ⟨oc,hoc,I.freeC x c hc⟩ hs,by simpa using I.len⟩ ⟨c,hs,.inr hc⟩
  ·exact(hs.2 b (Qt (Qs (Heap.lt_size e) (I.ok.cab x c hfn hc)))).trans (I.base.keep b o e n hb hx)
  ·obtain⟨sl,e1⟩:=I.base.slot b o e n hb hx
   exact⟨sl,(hs.2 b (Qt (Qs (Heap.lt_size e) (I.ok.cab x c hfn hc)))).trans e1⟩
  ·obtain⟨o',e1⟩:=I.base.there b o e hx
   exact⟨o',(hs.2 b (Qt (Qs (Heap.lt_size e) (I.ok.cab x c hfn hc)))).trans e1⟩
  ·by_cases hj:j=i
   ·subst hj
    rw[hi] at e1;cases e1
    rw[QV hiσ] at e2;cases e2;exact⟨u,r,.inr ⟨.inl hk,c,hc,hc'⟩⟩
   ·rw[QN (Ne.symm hj)] at e2
    obtain⟨u',r',q⟩:=hl j y v' e1 e2 e3;refine⟨u',r',?_⟩
    rcases q with q | ⟨k,c',e,z'⟩
    ·exact .inl q
    ·refine .inr ⟨k,c',e,z'.sameBut hs ?_⟩
     rintro rfl
     exact hj (zEO hN e1 (I.ok.inj _ _ _ e hc ▸ hi))
  ·by_cases hcc:c'=c
   ·subst hcc;exact⟨_,hc'⟩
   ·obtain⟨w2,z2⟩:=I.cell y c' e
    exact⟨w2,z2.sameBut hs hcc⟩
  ·obtain⟨e,n,ne,nf,d⟩:=I.pin p hp
   refine⟨(hs.2 p.1 ?_).trans e,n,ne,nf,d⟩
   intro q;rw[q,hoc] at e;have q':oc=p.2:=QK e;exact d w' (by rw[<-q'];exact hocd)
theorem sV{M:Model}{A:Around}{E:Value->Shared->Prop}{i:Nat}{x:Str}{v:V}{u:Value}{Q:Unit->Shared->Prop}(I:Inv X pins σ H s)(hN:X.N.Nodup)(hi:X.N[i]?=some x)(hx:Loc X.env.scope x)(r:cV v u)
  (h:∀ s',Inv X pins (σ.set i (some v)) H s'->Q () s') (hf:X.fn x=true∨X.env.scope.names.lookup x=some .local:=by first | exact .inl rfl | exact .inr rfl | assumption):wpAny M A (storeName X.env x u) Q E s:=
 zCB I hN hi hx r (fun s' I' _=>h s' I') hf
theorem Inv.call'{s':Shared}{ch:List Addr}(I:Inv X pins σ H s)(ho:s'.os=s.os)(u:Un (frs X.stack) ch H H' s.heap s'.heap)(hok:HOk X.prog X.w H' s'.heap)(hg:AllBare s'.gens)
  (hch:∀ b∈ch,(b∈X.ex∨X.s₀.heap.objs.size<=b)/\b≠X.env.locals/\(∀ x c,X.env.cells.lookup x=some c->c≠b)/\∀ p∈X.pn++pins,p.1≠b):Inv X pins σ H' s':=by
 obtain⟨h',g',d',t',o'⟩:=s';have e:o'=s.os:=ho;subst e;exact I.call (g':=g') (t':=t') (d':=d') u hok hg hch
end
abbrev XK:=Value->Option Addr->Hp->Prop
abbrev St:=List (Option V)
abbrev VK:=V->Hp->Prop
abbrev TE:=St->Hp->VK->Prop
abbrev TT:=St->Hp->(Bool->Hp->Prop)->Prop
abbrev TA:=St->Hp->(List V->Hp->Prop)->Prop
structure Ends where
 nx:St->Hp->Prop
 rt:VK
 bk:St->Hp->Prop:=fun _ _=>False
 ct:St->Hp->Prop:=fun _ _=>False
abbrev TS:=Ends->St->Hp->Prop
def EP(X:Cx)(pins:List (Addr×Obj))(σ:St)(Q:VK)(u:Value)(s':Shared):Prop:=∃ v H',Inv X pins σ H' s'/\cV v u/\Q v H'
def TP(X:Cx)(pins:List (Addr×Obj))(σ:St)(Q:Bool->Hp->Prop)(b:Bool)(s':Shared):Prop:=∃ H',Inv X pins σ H' s'/\Q b H'
def AP(X:Cx)(pins:List (Addr×Obj))(σ:St)(Q:List V->Hp->Prop)(us:List Value)(s':Shared):Prop:=∃ vs H',Inv X pins σ H' s'/\dN vs us/\Q vs H'
def SP(X:Cx)(pins:List (Addr×Obj))(D:Ends)(f:Flow)(s':Shared):Prop:=
 match f with
 | .next=>∃ σ' H',Inv X pins σ' H' s'/\D.nx σ' H'
 | .brk=>∃ σ' H',Inv X pins σ' H' s'/\D.bk σ' H'
 | .cont=>∃ σ' H',Inv X pins σ' H' s'/\D.ct σ' H'
 | .ret u=>∃ v σ' H',Inv X pins σ' H' s'/\cV v u/\D.rt v H'
def PE(X:Cx)(e:Expr)(t:TE):Prop:=
 ∀(pins:List (Addr×Obj))(s:Shared)(σ:St)(H:Hp)(Q:VK),Inv X pins σ H s->t σ H Q->wpAny (model X.prog X.w) X.A (eval e X.env) (EP X pins σ Q) X.xe s
def PT(X:Cx)(e:Expr)(t:TT):Prop:=
 ∀(pins:List (Addr×Obj))(s:Shared)(σ:St)(H:Hp)(Q:Bool->Hp->Prop),Inv X pins σ H s->t σ H Q->wpAny (model X.prog X.w) X.A (isTrue e X.env (eval e X.env)) (TP X pins σ Q) X.xe s
def PW(X:Cx)(e:Expr)(t:TT):Prop:=
 ∀(whole:Sem Value)(pins:List (Addr×Obj))(s:Shared)(σ:St)(H:Hp)(Q:Bool->Hp->Prop),Inv X pins σ H s->t σ H Q->wpAny (model X.prog X.w) X.A (isTrue e X.env whole) (TP X pins σ Q) X.xe s
theorem PW.pt{X:Cx}{e:Expr}{t:TT}(h:PW X e t):PT X e t:=h _
def PA(X:Cx)(es:List Expr)(t:TA):Prop:=
 ∀(pos:Pos)(pins:List (Addr×Obj))(s:Shared)(σ:St)(H:Hp)(Q:List V->Hp->Prop),Inv X pins σ H s->t σ H Q->wpAny (model X.prog X.w) X.A (spliced (backTo pos (starEach es X.env))) (AP X pins σ Q) X.xe s
def PS(X:Cx)(st:Stmt)(t:TS):Prop:=
 ∀(pins:List (Addr×Obj))(s:Shared)(σ:St)(H:Hp)(D:Ends),Inv X pins σ H s->t D σ H->wpAny (model X.prog X.w) X.A (exec st X.env) (SP X pins D) X.xe s
def PSs(X:Cx)(st:List Stmt)(t:TS):Prop:=
 ∀(pins:List (Addr×Obj))(s:Shared)(σ:St)(H:Hp)(D:Ends),Inv X pins σ H s->t D σ H->wpAny (model X.prog X.w) X.A (execs st X.env) (SP X pins D) X.xe s
theorem thn{α:Type}{t:Sem α}{Q Q':α->Shared->Prop}{M:Model}{A:Around}{E:Value->Shared->Prop}{s:Shared}(h:wpAny M A t Q E s)(hQ:∀ a s,Q a s->Q' a s):wpAny M A t Q' E s:=wpAny_mono h hQ fun _ _ x=>x
section
variable{X:Cx}
theorem bin{a b:Expr}{ta tb:TE}(ha:PE X a ta)(hb:PE X b tb){pins:List (Addr×Obj)}{s:Shared}{σ:St}{H:Hp}{R:V->V->Hp->Prop}(I:Inv X pins σ H s)(h:ta σ H fun x H1=>tb σ H1 fun y H2=>R x y H2)
  {α:Type} {Q:α->Shared->Prop} {f:Value->Value->Sem α}
  (hf:∀ v u s2 x y H2,Inv X pins σ H2 s2->cV x v->cV y u->R x y H2->wpAny (model X.prog X.w) X.A (f v u) Q X.xe s2):
  wpAny (model X.prog X.w) X.A (eval a X.env) (fun v s₁=>wpAny (model X.prog X.w) X.A (eval b X.env) (fun u s₂=>wpAny (model X.prog X.w) X.A (f v u) Q X.xe s₂) X.xe s₁) X.xe s:=by
 refine thn (ha pins s σ H _ I h) fun v s1 ⟨x,H1,I1,r1,q1⟩=>?_
 refine thn (hb pins s1 σ H1 _ I1 q1) fun u s2 ⟨y,H2,I2,r2,q2⟩=>?_
 exact hf v u s2 x y H2 I2 r1 r2 q2
abbrev zDu(i:Nat):TE:=fun σ H Q=>∃ v,σ[i]?=some (some v)/\Q v H
abbrev tC(v:V):TE:=fun _ H Q=>Q v H
theorem wG{i:Nat}{x:Str}{pos:Pos}(hN:X.N[i]?=some x)(hv:Vis X.env.scope x)(hd:(x==("__debug__" : Str))=false:=by decide)(hcd:(x==("__classdict__" : Str))=false:=by decide):PE X (.Name x pos) (zDu i):=by
 intro pins s σ H Q I h;obtain⟨v,e,h⟩:=h;obtain⟨m,hn,hl⟩:=I.loc;obtain⟨u,r,l⟩:=hl i x v hN e hv;have fin:EP X pins σ Q u s:=⟨v,H,I,r,h⟩;rcases l with⟨hk,hm⟩ | ⟨hk,c,hc,hcell⟩
 ·exact wpAny_Name (wpAny_loadName_local I.ok.kind hk hn hm fin) hd
 ·rcases hk with hk | hk
  ·exact wpAny_Name (wpAny_loadName_cell I.ok.kind hk hc hcell fin) hd
  ·exact wpAny_Name (wpAny_loadName_free I.ok.kind hk hc hcell fin hcd) hd
theorem zIJ{i j pos}:PE X (.Constant (.int i) j pos) (tC (.int i)):=fun _ _ _ H _ I h=>wpAny_Constant_int ⟨.int i,H,I.tok _,⟨_,rfl⟩,h⟩
theorem zLV{b j pos}:PE X (.Constant (.bool b) j pos) (tC (.bl b)):=fun _ _ _ H _ I h=>Constant_bool ⟨.bl b,H,I,rfl,h⟩
theorem cM{x j pos}:PE X (.Constant (.str x) j pos) (tC (.str x)):=fun _ _ _ H _ I h=>Calls.Constant_str ⟨.str x,H,I.tok _,⟨_,rfl⟩,h⟩
def Gl(X:Cx)(x:Str):Prop:=X.env.kindOf x=some .globalImplicit
theorem zDk{E:Value->Shared->Prop}{pins:List (Addr×Obj)}{s:Shared}{σ:St}{H:Hp}{x:Str}{u:Value}{pos:Pos}{Q:Value->Shared->Prop}(I:Inv X pins σ H s)(hg:Gl X x)(hm:X.mg x=some u)(h:Q u s)
  (hd:(x==("__debug__" : Str))=false:=by decide):wpAny (model X.prog X.w) X.A (eval (.Name x pos) X.env) Q E s:=
 Calls.Name_function_global I.ok.kind hg (Calls.loadGlobal_global (by rw[I.ok.glob];exact I.mod.glob.keeps I.bk) hm h) hd
theorem pO{E:Value->Shared->Prop}{pins:List (Addr×Obj)}{s:Shared}{σ:St}{H:Hp}{x:Str}{u:Value}{pos:Pos}{Q:Value->Shared->Prop}(I:Inv X pins σ H s)(hg:Gl X x)(hm:X.mg x=none)(hv:bootBuiltins x=some u)(h:Q u s)
  (hn:x ≠ "__name__" := by decide) (hd:(x==("__debug__" : Str))=false:=by decide):wpAny (model X.prog X.w) X.A (eval (.Name x pos) X.env) Q E s:=by
 obtain⟨mb,h1,h2⟩:=I.mod.blt;exact Calls.Name_function_global I.ok.kind hg (Calls.loadGlobal_builtin (by rw[I.ok.glob];exact I.mod.glob.keeps I.bk) hm (by rw[I.ok.blt];exact h1.keeps I.bk) ((h2 x hn).trans hv) h) hd
theorem zIK{x:Str}{v:V}{u:Value}{pos:Pos}(hg:Gl X x)(hm:X.mg x=some u)(r:cV v u)(hd:(x==("__debug__" : Str))=false:=by decide):PE X (.Name x pos) (tC v):=
 fun _ _ _ H _ I h=>zDk I hg hm ⟨v,H,I,r,h⟩ hd
variable{a b:Expr}{ta tb:TE}{pos:Pos}
def PC(X:Cx)(op:CmpOp)(a b:Expr)(t:TE):Prop:=
 ∀(pins:List (Addr×Obj))(s:Shared)(σ:St)(H:Hp)(Q:VK),Inv X pins σ H s->t σ H Q->
  wpAny (model X.prog X.w) X.A (eval a X.env) (fun v s₁=>wpAny (model X.prog X.w) X.A (eval b X.env) (fun u s₂=>wpAny (model X.prog X.w) X.A (compareOp op v u) (EP X pins σ Q) X.xe s₂) X.xe s₁) X.xe s
theorem zJY(b:Expr){op:CmpOp}(h:op≠.In)(h2:op≠.NotIn):behindInMarks op b=false:=by
 have e1:(op==CmpOp.In)=false:=by cases op<;>first | rfl | exact absurd rfl h
 have e2:(op==CmpOp.NotIn)=false:=by cases op<;>first | rfl | exact absurd rfl h2
 cases b<;>simp[behindInMarks,e1,e2]
abbrev tB(t:TE):TT:=fun σ H Q=>t σ H fun x H1=>∃ c,x=.bl c/\Q c H1
theorem zSg{op:CmpOp}{t:TE}(h:PC X op a b t)(h1:behindInMarks op b=false:=by first | exact zJY _ (by decide) (by decide) | rfl):PT X (.Compare a [op] [b] pos) (tB t):=by
 intro pins s σ H Q I hw;refine wpAny_isTrue_Compare1 (thn (h pins s σ H _ I hw) fun v s1 h1=>thn h1 fun u s2 h2=>thn h2 fun c s3 ⟨x,H1,I1,r1,q1⟩=>?_) h1
 obtain⟨d,rfl,q⟩:=q1;cases r1;exact wpAny_truthy_bool ⟨H1,I1,q⟩
theorem zOT{e:Expr}{t:TE}(h:PE X e t)(he:∀ whole,isTrue e X.env whole=(do let v <-whole;standAt e.pos;holding [v] (truthy v)):=by intro _;rfl):PT X e (tB t):=by
 intro pins s σ H Q I hw;refine isTrue_plain (thn (h pins s σ H _ I hw) fun v s1 ⟨x,H1,I1,r1,q1⟩=>?_) (he _)
 obtain⟨d,rfl,q⟩:=q1;cases r1;exact wpAny_truthy_bool ⟨H1,I1,q⟩
variable{tA tB':TT}{rest:List Expr}
abbrev zSy(t u:TT):TT:=fun σ H Q=>t σ H fun c H1=>if c=true then u σ H1 Q else Q false H1
abbrev tOr(t u:TT):TT:=fun σ H Q=>t σ H fun c H1=>if c=true then Q true H1 else u σ H1 Q
abbrev zSC(t:TT):TT:=fun σ H Q=>t σ H fun c H1=>Q (!c) H1
theorem zNG(ha:PT X a tA):PW X (.BoolOp .And [a] pos) tA:=by
 intro wh pins s σ H Q I h;refine isTrue_and (thn (ha pins s σ H Q I h) fun c s1 e=>?_)
 cases c with
 | true=>exact isTrue_and_nil e
 | false=>exact e
theorem zQx(ha:PT X a tA):PW X (.BoolOp .Or [a] pos) tA:=by
 intro wh pins s σ H Q I h;refine isTrue_or (thn (ha pins s σ H Q I h) fun c s1 e=>?_)
 cases c with
 | false=>exact isTrue_or_nil e
 | true=>exact e
theorem zQz(ha:PT X a tA)(hb:PW X (.BoolOp .And (b::rest) pos) tB'):PW X (.BoolOp .And (a::b::rest) pos) (zSy tA tB'):=by
 intro wh pins s σ H Q I h;refine isTrue_and (thn (ha pins s σ H _ I h) fun c s1 ⟨H1,I1,q1⟩=>?_)
 cases c with
 | true=>exact hb wh pins s1 σ H1 Q I1 q1
 | false=>exact⟨H1,I1,q1⟩
theorem zRk(ha:PT X a tA)(hb:PW X (.BoolOp .Or (b::rest) pos) tB'):PW X (.BoolOp .Or (a::b::rest) pos) (tOr tA tB'):=by
 intro wh pins s σ H Q I h;refine isTrue_or (thn (ha pins s σ H _ I h) fun c s1 ⟨H1,I1,q1⟩=>?_)
 cases c with
 | true=>exact⟨H1,I1,q1⟩
 | false=>exact hb wh pins s1 σ H1 Q I1 q1
theorem zQa(ha:PT X a tA):PT X (.UnaryOp .Not a pos) (zSC tA):=by
 intro pins s σ H Q I h;exact isTrue_not (ha pins s σ H (fun c H1=>Q (!c) H1) I h)
abbrev zSI(ta tb:TE):TE:=fun σ H Q=>ta σ H fun x H1=>∃ c,x=.bl c/\if c=true then Q (.bl true) H1 else tb σ H1 Q
theorem zPZ{op}{t:TE}(h:PE X a t):PE X (.BoolOp op [a] pos) t:=fun pins s σ H Q I hw=>BoolOp_one (h pins s σ H Q I hw)
theorem zRe(ha:PE X a ta)(hb:PE X (.BoolOp .Or (b::rest) pos) tb):PE X (.BoolOp .Or (a::b::rest) pos) (zSI ta tb):=by
 intro pins s σ H Q I h;refine BoolOp_or (thn (ha pins s σ H _ I h) fun v s1 ⟨x,H1,I1,r1,q1⟩=>?_)
 obtain⟨c,rfl,q1⟩:=q1;cases r1;refine wpAny_truthy_bool ?_
 cases c with
 | false=>exact hb pins s1 σ H1 Q I1 q1
 | true=>exact⟨.bl true,H1,I1,rfl,q1⟩
abbrev tIf(t:TT)(ta tb:TE):TE:=fun σ H Q=>t σ H fun c H1=>if c=true then ta σ H1 Q else tb σ H1 Q
theorem zJG{c:Expr}(hc:PT X c tA)(ha:PE X a ta)(hb:PE X b tb):PE X (.IfExp c a b pos) (tIf tA ta tb):=by
 intro pins s σ H Q I h;refine wpAny_IfExp (thn (hc pins s σ H _ I h) fun d s1 ⟨H1,I1,q1⟩=>?_)
 cases d with
 | true=>exact ha pins s1 σ H1 Q I1 q1
 | false=>exact hb pins s1 σ H1 Q I1 q1
end
def SqL(K:PySem.W.Frag)(H:Hp)(a:Addr)(xs:List V):Prop:=
 Rd H a (.lst xs)∨
  ∃(o:Obj)(its:Array Value)(n:Nat),K.lookup a=some o/\o.cls=.type "list" /\ o.dict=none/\o.data=.seq its n/\its.size<=sizeLine/\dN xs its.toList
def SqT(K:PySem.W.Frag)(H:Hp)(a:Addr)(xs:List V):Prop:=
 Rd H a (.tup xs)∨
  ∃(o:Obj)(its:Array Value)(n:Nat),K.lookup a=some o/\o.cls=.type "tuple" /\ o.data=.seq its n/\its.size<=sizeLine/\dN xs its.toList
def zSD:Value->Option V
 | .none=>some .non
 | .bool b=>some (.bl b)
 | .int i _=>some (.int i)
 | .str x _=>some (.str x)
 | .bytes b _=>some (.byt b)
 | .float b _=>some (.flt b)
 | .ref a=>some (.ref a)
 | .type n=>some (.ty n)
 | _=>none
theorem cV.abs{x:V}{u:Value}(r:cV x u):zSD u=some x:=by
 cases x with
 | non=>cases r;rfl
 | bl _=>cases r;rfl
 | int _=>obtain⟨t,rfl⟩:=r;rfl
 | str _=>obtain⟨t,rfl⟩:=r;rfl
 | byt _=>obtain⟨t,rfl⟩:=r;rfl
 | flt _=>obtain⟨t,rfl⟩:=r;rfl
 | ref _=>cases r;rfl
 | ty _=>cases r;rfl
theorem cV.inj{x y:V}{u:Value}(r:cV x u)(q:cV y u):x=y:=QK (r.abs.symm.trans q.abs)
theorem dN.inj:∀ {xs ys:List V} {us:List Value},dN xs us->dN ys us->xs=ys
 | _,_,_,.nil,.nil=>rfl
 | _,_,_,.cons r t,.cons r' t'=>by rw[r.inj r',dN.inj t t']
section
variable{X:Cx}{pins:List (Addr×Obj)}{σ:St}{H:Hp}{s:Shared}{a:Addr}{xs ys:List V}
theorem SqL.of{K:Fg_}(h:H a=some (.lst xs)):SqL K H a xs:=.inl (.inl h)
theorem SqT.of{K:Fg_}(h:H a=some (.tup xs)):SqT K H a xs:=.inl (.inl h)
theorem Inv.list(I:Inv X pins σ H s)(h:SqL X.K H a xs):∃ its:List Value,dN xs its/\PlainL s.heap a its.toArray/\xs.length<=sizeLine:=by
 rcases h with h | ⟨o,its,n,hk,hc,hd,hs,hz,r⟩
 ·obtain⟨z,its,n,r,e⟩:=h.ok I.hok
  exact⟨its,r,⟨_,n,e,rfl,rfl,rfl⟩,z⟩
 ·refine⟨its.toList,r,⟨o,n,I.kIn a o hk,hc,hd,by simpa using hs⟩,?_⟩
  have e:=r.length;simp only[VX] at e;omega
theorem Inv.tuple(I:Inv X pins σ H s)(h:SqT X.K H a xs):∃ its:List Value,dN xs its/\IsTup s.heap a its.toArray/\xs.length<=sizeLine:=by
 rcases h with h | ⟨o,its,n,hk,hc,hs,hz,r⟩
 ·obtain⟨z,its,r,p⟩:=h.ok I.hok
  exact⟨its,r,p,z⟩
 ·refine⟨its.toList,r,⟨o,I.kIn a o hk,hc,n,by simpa using hs⟩,?_⟩
  have e:=r.length;simp only[VX] at e;omega
theorem Inv.list_inj(I:Inv X pins σ H s)(h:SqL X.K H a xs)(h':SqL X.K H a ys):xs=ys:=by
 obtain⟨its,r,⟨o,n,e,_,_,d⟩,_⟩:=I.list h;obtain⟨its',r',⟨o',n',e',_,_,d'⟩,_⟩:=I.list h';rw[e] at e';cases e'
 rw[d] at d';injection d' with d1 _
 have:its=its':=by simpa using congrArg Array.toList d1
 subst this;exact r.inj r'
theorem Inv.tuple_inj(I:Inv X pins σ H s)(h:SqT X.K H a xs)(h':SqT X.K H a ys):xs=ys:=by
 obtain⟨its,r,⟨o,e,_,n,d⟩,_⟩:=I.tuple h;obtain⟨its',r',⟨o',e',_,n',d'⟩,_⟩:=I.tuple h';rw[e] at e';cases e'
 rw[d] at d';injection d' with d1 _
 have:its=its':=by simpa using congrArg Array.toList d1
 subst this;exact r.inj r'
end
section
variable{X:Cx}{pins:List (Addr×Obj)}{σ:St}{H:Hp}{s:Shared}{E:Value->Shared->Prop}
end
section
variable{X:Cx}{st:Stmt}{rest:List Stmt}{t u:TS}{e:Expr}{te:TE}{pos:Pos}
abbrev zRb:TS:=fun D σ H=>D.nx σ H
abbrev zRa(t u:TS):TS:=fun D σ H=>t { D with nx:=u D } σ H
theorem zMw:PSs X [] zRb:=fun _ _ σ H _ I h=>wpAny_execs_nil ⟨σ,H,I,h⟩
theorem tE(h1:PS X st t)(h2:PSs X rest u):PSs X (st::rest) (zRa t u):=by
 intro pins s σ H D I h;refine wpAny_execs_cons (thn (h1 pins s σ H { D with nx:=u D } I h) fun f s1 q=>?_)
 cases f with
 | next=>
  obtain⟨σ',H',I',q⟩:=q;exact h2 pins s1 σ' H' D I' q
 | ret v=>exact q
 | brk=>exact q
 | cont=>exact q
theorem zDx(h1:PS X st t):PSs X [st] t:=by
 intro pins s σ H D I h;refine wpAny_execs_cons (thn (h1 pins s σ H D I h) fun f s1 q=>?_)
 cases f with
 | next=>exact wpAny_execs_nil q
 | ret v=>exact q
 | brk=>exact q
 | cont=>exact q
theorem Inv.quiet{pins:List (Addr×Obj)}{σ:St}{H:Hp}{s:Shared}(I:Inv X pins σ H s):interactive X.env=false:=by simp[interactive,I.ok.kind]
abbrev zRL(te:TE):TS:=fun D σ H=>te σ H fun _ H1=>D.nx σ H1
theorem vF(he:PE X e te)(hs:swapsWith e none pos.line X.env=pure false:=by rfl):PS X (.Expr e pos) (zRL te):=by
 intro pins s σ H D I h;exact wpAny_Expr_any (thn (he pins s σ H _ I h) fun v s1 ⟨x,H1,I1,r1,q1⟩=>⟨σ,H1,I1,q1⟩) I.quiet hs
abbrev zSl(te:TE):TS:=fun D σ H=>te σ H D.rt
theorem zEu(he:PE X e te):PS X (.Return (some e) pos) (zSl te):=by
 intro pins s σ H D I h;exact wpAny_Return_some (thn (he pins s σ H _ I h) fun v s1 ⟨x,H1,I1,r1,q1⟩=>⟨x,σ,H1,I1,r1,q1⟩)
abbrev zSG(c:TT)(t u:TS):TS:=fun D σ H=>c σ H fun b H1=>if b=true then t D σ H1 else u D σ H1
theorem zRj{c:Expr}{a b:List Stmt}{tc:TT}(hc:PT X c tc)(ha:PSs X a t)(hb:PSs X b u):PS X (.If c a b pos) (zSG tc t u):=by
 intro pins s σ H D I h;refine wpAny_If (thn (hc pins s σ H _ I h) fun d s1 ⟨H1,I1,q1⟩=>?_)
 cases d with
 | true=>exact ha pins s1 σ H1 D I1 q1
 | false=>exact hb pins s1 σ H1 D I1 q1
end
abbrev TG:=V->St->Hp->(St->Hp->Prop)->Prop
abbrev TGs:=List V->St->Hp->(St->Hp->Prop)->Prop
def PG(X:Cx)(target:Expr)(t:TG):Prop:=
 ∀(pins:List (Addr×Obj))(s:Shared)(σ:St)(H:Hp)(v:V)(u:Value)(Q:St->Hp->Prop),Inv X pins σ H s->cV v u->t v σ H Q->
  wpAny (model X.prog X.w) X.A (assign target X.env u) (fun _ s'=>∃ σ' H',Inv X pins σ' H' s'/\Q σ' H') X.xe s
def PGs(X:Cx)(ts:List Expr)(t:TGs):Prop:=
 ∀(pins:List (Addr×Obj))(s:Shared)(σ:St)(H:Hp)(vs:List V)(us:List Value)(Q:St->Hp->Prop),Inv X pins σ H s->dN vs us->t vs σ H Q->
  wpAny (model X.prog X.w) X.A (assignInOrder ((assignEach ts X.env).map (·.2)) us) (fun _ s'=>∃ σ' H',Inv X pins σ' H' s'/\Q σ' H') X.xe s
abbrev zRM:=V->V->V->Hp->(Hp->Prop)->Prop
def zSd(X:Cx)(t:zRM):Prop:=
 ∀(pins:List (Addr×Obj))(s:Shared)(σ:St)(H:Hp)(o i v:V)(ov iv u:Value)(Q:Hp->Prop),Inv X pins σ H s->cV o ov->cV i iv->cV v u->t o i v H Q->
  wpAny (model X.prog X.w) X.A (setItem ov iv u) (fun _ s'=>∃ H',Inv X pins σ H' s'/\Q H') X.xe s
abbrev TIp:=V->V->Hp->VK->Prop
def PIp(X:Cx)(op:Operator)(t:TIp):Prop:=
 ∀(pins:List (Addr×Obj))(s:Shared)(σ:St)(H:Hp)(x y:V)(v u:Value)(Q:VK),Inv X pins σ H s->cV x v->cV y u->t x y H Q->
  wpAny (model X.prog X.w) X.A (inplaceOp op v u) (EP X pins σ Q) X.xe s
section
variable{X:Cx}{pos:Pos}
abbrev gName(i:Nat):TG:=fun v σ H Q=>Q (σ.set i (some v)) H
theorem zDJ{i:Nat}{x:Str}(hN:X.N.Nodup)(hi:X.N[i]?=some x)(hx:Loc X.env.scope x)(hf:X.fn x=true∨X.env.scope.names.lookup x=some .local:=by first | exact .inl rfl | exact .inr rfl | assumption):PG X (.Name x pos) (gName i):=by
 intro pins s σ H v u Q I r h;exact wpAny_assign_Name (sV I hN hi hx r (fun s' I'=>⟨_,H,I',h⟩) hf)
def zHJ:TGs:=fun vs σ H Q=>vs=[]/\Q σ H
def nX(t:TG)(u:TGs):TGs:=fun vs σ H Q=>∃ v r,vs=v::r/\t v σ H fun σ' H'=>u r σ' H' Q
theorem zGw:PGs X [] zHJ:=by
 intro pins s σ H vs us Q I r h;obtain⟨e,h⟩:=h;subst e;cases r;exact assignInOrder_nil ⟨σ,H,I,h⟩
theorem zAz{e:Expr}{es:List Expr}{t:TG}{u:TGs}(h1:PG X e t)(h2:PGs X es u)
  (hs:(assignEach (e::es) X.env).map (·.2)=assign e X.env::(assignEach es X.env).map (·.2):=by rfl):PGs X (e::es) (nX t u):=by
 intro pins s σ H vs us Q I r h;obtain⟨v,vr,e1,h⟩:=h;subst e1
 cases r with
 | cons r rr=>
  rw[hs];refine assignInOrder_cons (thn (h1 pins s σ H _ _ _ I r h) fun _ s1 ⟨σ1,H1,I1,q1⟩=>?_)
  exact h2 pins s1 σ1 H1 _ _ Q I1 rr q1
def zGK(K:PySem.W.Frag)(n:Nat)(t:TGs):TG:=fun v σ H Q=>∃ a xs,v=.ref a/\SqT K H a xs/\xs.length=n/\t xs σ H Q
theorem zLM{es:List Expr}{k:Nat}{t:TGs}{n:Nat}(hc:X.calm=true)(h:PGs X es t)
  (hn:(assignEach es X.env).length=n:=by rfl) (hst:(assignEach es X.env).findIdx? (·.1)=none:=by rfl):PG X (.Tuple es k pos) (zGK X.K n t):=by
 intro pins s σ H v u Q I r hw;obtain⟨a,xs,e1,hq,hl,hw⟩:=hw;subst e1;cases r;obtain⟨its,rv,ht,hz⟩:=I.tuple hq;refine assign_Tuple_tuple (I.ok.hd hc) ht (by simp[hn,<-hl,rv.length]) hst fun h' hx=>?_
 have I1:Inv X pins σ H { s with heap:=h' }:=I.kept (t':=s.toks) fun b o e=>hx b o (Qt (Heap.lt_size e)) e
 exact h pins _ σ H xs _ Q I1 (by simpa using rv) hw
def zSV(to ti:TE)(t:zRM):TG:=fun v σ H Q=>to σ H fun o H1=>ti σ H1 fun i H2=>t o i v H2 fun H3=>Q σ H3
theorem zOx{o i:Expr}{to ti:TE}{t:zRM}(ho:PE X o to)(hi:PE X i ti)(hs:zSd X t)
  (ha:∀ v,assign (.Subscript o i pos) X.env v=(do
   let ov <-holding [v] (eval o X.env)
   let iv <-holding [v,ov] (eval i X.env)
   standAt pos
   holding [v,ov,iv] (setItem ov iv v)
   release [v,ov,iv] []):=by intro _;rfl):PG X (.Subscript o i pos) (zSV to ti t):=by
 intro pins s σ H v u Q I r h;rw[ha];refine wpAny_bind (wpAny_holding (thn (ho pins s σ H _ I h) fun ov s1 ⟨x,H1,I1,r1,q1⟩=>?_))
 refine wpAny_bind (wpAny_holding (thn (hi pins s1 σ H1 _ I1 q1) fun iv s2 ⟨y,H2,I2,r2,q2⟩=>?_))
 refine wpAny_bind (wpAny_standAt (wpAny_bind (wpAny_holding (thn (hs pins s2 σ H2 x y v ov iv u _ I2 r1 r2 r q2) fun _ s3 ⟨H3,I3,q3⟩=>?_))))
 exact wpAny_release ⟨σ,H3,I3,q3⟩
abbrev zRG(te:TE)(g:TG):TS:=fun D σ H=>te σ H fun x H1=>g x σ H1 D.nx
theorem zPa{tg e:Expr}{te:TE}{g:TG}(he:PE X e te)(hg:PG X tg g)(hs:swapsWithSole [tg] e pos.line X.env=pure false:=by rfl)(hw:swappedStores [tg] e X.env=pure none:=by rfl)
  (h1:(assignEach [tg] X.env).map (·.2)=[assign tg X.env]:=by rfl):PS X (.Assign [tg] e pos) (zRG te g):=by
 intro pins s σ H D I h;refine wpAny_Assign_stores (thn (he pins s σ H _ I h) fun v s1 ⟨x,H1,I1,r1,q1⟩=>?_) hs hw
 rw[h1];exact thn (hg pins s1 σ H1 x v _ I1 r1 q1) fun _ s2 q=>q
theorem zLJ{i:Nat}{x:Str}{e:Expr}{te:TE}{pos':Pos}(hN:X.N.Nodup)(hi:X.N[i]?=some x)(hx:Loc X.env.scope x)(he:PE X e te)(hs:swapsWith e (some (.Name x pos')) pos.line X.env=pure false:=by rfl)(hf:X.fn x=true∨X.env.scope.names.lookup x=some .local:=by first | exact .inl rfl | exact .inr rfl | assumption):
  PS X (.Assign [.Name x pos'] e pos) (zRG te (gName i)):=by
 intro pins s σ H D I h;refine wpAny_Assign_Name (thn (he pins s σ H _ I h) fun v s1 ⟨y,H1,I1,r1,q1⟩=>?_) hs
 exact sV I1 hN hi hx r1 (fun s2 I2=>⟨_,H1,I2,q1⟩) hf
abbrev zSH(i:Nat)(te:TE)(ti:TIp):TS:=fun D σ H=>∃ x,σ[i]?=some (some x)/\te σ H fun y H1=>ti x y H1 fun z H2=>D.nx (σ.set i (some z)) H2
theorem zPX{i:Nat}{x:Str}{e:Expr}{te:TE}{op:Operator}{ti:TIp}{pos':Pos}(hN:X.N.Nodup)(hi:X.N[i]?=some x)(hx:Loc X.env.scope x)(he:PE X e te)(ho:PIp X op ti)(hf:X.fn x=true∨X.env.scope.names.lookup x=some .local:=by first | exact .inl rfl | exact .inr rfl | assumption):
  PS X (.AugAssign (.Name x pos') op e pos) (zSH i te ti):=by
 intro pins s σ H D I h;obtain⟨v,e1,h⟩:=h;obtain⟨m,hn,hl⟩:=I.loc;have vis:Vis X.env.scope x:=by rcases hx with k | k;exact .inl k;exact .inr (.inl k)
 obtain⟨u,r,l⟩:=hl i x v hi e1 vis;refine wpAny_AugAssign_Name ?_
 have go:wpAny (model X.prog X.w) X.A (eval e X.env) (fun w s₂=>wpAny (model X.prog X.w) X.A (inplaceOp op u w) (fun r s₃=>wpAny (model X.prog X.w) X.A (storeName X.env x r) (fun _=>SP X pins D .next) X.xe s₃) X.xe s₂) X.xe s:=by
  refine thn (he pins s σ H _ I h) fun w s1 ⟨y,H1,I1,r1,q1⟩=>?_
  refine thn (ho pins s1 σ H1 v y u w _ I1 r r1 q1) fun z s2 ⟨zv,H2,I2,r2,q2⟩=>?_
  exact sV I2 hN hi hx r2 (fun s3 I3=>⟨_,H2,I3,q2⟩) hf
 rcases l with⟨hk,hm⟩ | ⟨hk,c,hc,hcell⟩
 ·exact wpAny_loadName_local I.ok.kind hk hn hm go
 ·rcases hk with hk | hk
  ·exact wpAny_loadName_cell I.ok.kind hk hc hcell go
  ·rcases hx with k | k
   ·have:X.env.scope.names.lookup x=some .free:=hk
    rw[k] at this;cases this
   ·have:X.env.scope.names.lookup x=some .free:=hk
    rw[k] at this;cases this
def ipI(f:Int->Int->Int):TIp:=fun x y H Q=>∃ i j,x=.int i/\y=.int j/\Q (.int (f i j)) H
theorem zEo:PIp X .Add (ipI fun i j=>i+j):=by
 intro pins s σ H x y v u Q I r1 r2 h;obtain⟨i,j,e1,e2,q⟩:=h;subst e1;subst e2
 obtain⟨t,rfl⟩:=r1;obtain⟨t',rfl⟩:=r2;exact iadd_int ⟨.int _,H,I.tok _,⟨_,rfl⟩,q⟩
theorem zLq:PIp X .Sub (ipI fun i j=>i-j):=by
 intro pins s σ H x y v u Q I r1 r2 h;obtain⟨i,j,e1,e2,q⟩:=h;subst e1;subst e2
 obtain⟨t,rfl⟩:=r1;obtain⟨t',rfl⟩:=r2;exact isub_int ⟨.int _,H,I.tok _,⟨_,rfl⟩,q⟩
end
section
variable{X:Cx}{pos:Pos}
def zPv(c:TT)(tb:TS):TS:=fun D σ H=>∃ W:Nat->St->Hp->Prop,(∃ m,W m σ H)/\∀ m σ H,W m σ H->
 c σ H fun b H1=>if b=true then ∃ N:St->Hp->Prop,(∀ σ' H',N σ' H'->∃ m',m' < m/\W m' σ' H')/\tb { D with nx:=N,ct:=N,bk:=D.nx } σ H1 else D.nx σ H1
theorem zKx{c:Expr}{body:List Stmt}{tc:TT}{tb:TS}(hp:PassesOwn (model X.prog X.w) X.A X.env X.xe)(hc:PT X c tc)(hb:PSs X body tb):PS X (.While c body [] pos) (zPv tc tb):=by
 intro pins s σ H D I h;obtain⟨W,⟨m0,w0⟩,turn⟩:=h;refine wpAny_While (codeAny_whileLoop (fun n s'=>∃ σ' H',Inv X pins σ' H' s'/\W n σ' H') ?_ m0 ⟨σ,H,I,w0⟩)
 rintro n s1 ⟨σ1,H1,I1,w1⟩
 refine wpAny_passesOwn hp (thn (hc pins s1 σ1 H1 _ I1 (turn n σ1 H1 w1)) fun b s2 ⟨H2,I2,q2⟩=>?_)
 cases b with
 | true=>
  obtain⟨N,hN,q2⟩:=q2;rw[if_pos rfl];refine wpAny_passesOwn hp (thn (hb pins s2 σ1 H2 _ I2 q2) fun f s3 q3=>?_)
  cases f with
  | next=>
   obtain⟨σ3,H3,I3,n3⟩:=q3;obtain⟨m',hm,w3⟩:=hN σ3 H3 n3;exact⟨m',hm,σ3,H3,I3,w3⟩
  | cont=>
   obtain⟨σ3,H3,I3,n3⟩:=q3;obtain⟨m',hm,w3⟩:=hN σ3 H3 n3;exact⟨m',hm,σ3,H3,I3,w3⟩
  | brk=>exact q3
  | ret v=>exact q3
 | false=>
  rw[if_neg VY];exact wpAny_execs_nil ⟨σ1,H2,I2,q2⟩
end
structure It where
 go:Nat->Hp->Prop
 yld:Nat->Hp->V->Hp->Prop
 stop:Nat->Hp->Prop
def sL(X:Cx)(pins:List (Addr×Obj))(H:Hp)(b:Addr):Prop:=
 H b=none/\b≠X.env.locals/\b∉X.fs/\(b∈X.ex∨X.s₀.heap.objs.size<=b)/\(∀ x c,X.env.cells.lookup x=some c->c≠b)/\∀ p∈X.pn++pins,p.1≠b
theorem Inv.fpOk{X:Cx}{pins:List (Addr×Obj)}{σ:St}{H H':Hp}{s:Shared}{b:Addr}(I:Inv X pins σ H s)(hb:s.heap.objs.size<=b)(hn:H' b=none):sL X pins H' b:=by
 refine⟨hn,Xl (Qs I.lt hb),I.nofs hb,.inr (Qv I.sz hb),fun x c e z=>?_,fun p hp z=>?_⟩
 ·obtain⟨v,q⟩:=I.cell x c e
  exact absurd (Qs q.lt (by rw[z];exact hb)) (Q3 _)
 ·exact absurd (Qs (Heap.lt_size (I.pin p hp).1) (by rw[z];exact hb)) (Q3 _)
structure Turn (P:Program) (w:World) (K:PySem.W.Frag) (tg:Expr) (J:It) (fp:List Addr) (it:Addr) (tn:Nat->Heap->Prop):Prop where
 mem:it∈fp
 obj:∀ i h,tn i h->∀ b∈fp,∃ o,h.get? b=some o/\∀ v,o.data≠.cell v
 keep:∀ i h h',tn i h->(∀ b∈fp,∀ o,h.get? b=some o->h'.get? b=some o)->tn i h'
 item:∀(X:Cx),X.prog=P->X.w=w->X.K=K->X.calm=true->∀(i:Nat)(pins:List (Addr×Obj))(s:Shared)(σ:St)(H:Hp)(E:Value->Shared->Prop),Inv X pins σ H s->(∀ b∈fp,sL X pins H b)->tn i s.heap->J.go i H->
  wpAny (model P w) X.A (pyNext (.ref it)) (fun r s1=>∃ u,r=some u/\
   wpAny (model P w) X.A (letOwnedTupleGo tg (.ref it) u) (fun _ s2=>∃ x H',Inv X pins σ H' s2/\cV x u/\J.yld i H x H'/\tn (i+1) s2.heap/\∀ b∈fp,H' b=none) E s1) E s
 done:∀(X:Cx),X.prog=P->X.w=w->X.K=K->X.calm=true->∀(i:Nat)(pins:List (Addr×Obj))(s:Shared)(σ:St)(H:Hp)(E:Value->Shared->Prop),Inv X pins σ H s->(∀ b∈fp,sL X pins H b)->tn i s.heap->J.stop i H->
  wpAny (model P w) X.A (pyNext (.ref it)) (fun r s1=>r=none/\Inv X pins σ H s1) E s
 self:∀(A:Around)(i:Nat)(s:Shared)(Q:Value->Shared->Prop)(E:Value->Shared->Prop),tn i s.heap->Q (.ref it) s->wpAny (model P w) A (pyIter (.ref it)) Q E s
abbrev TI:=St->Hp->(It->Hp->Prop)->Prop
def PIE(X:Cx)(pins:List (Addr×Obj))(σ:St)(tg:Expr)(R:It->Hp->Prop)(itv:Value)(s2:Shared):Prop:=
 ∃(it:Addr)(fp:List Addr)(tn:Nat->Heap->Prop)(J:It)(H':Hp),itv=.ref it/\Inv X pins σ H' s2/\Turn X.prog X.w X.K tg J fp it tn/\tn 0 s2.heap/\(∀ b∈fp,sL X pins H' b)/\R J H'
def PI(X:Cx)(tg iter:Expr)(wi:TI):Prop:=
 ∀(pins:List (Addr×Obj))(s:Shared)(σ:St)(H:Hp)(R:It->Hp->Prop),Inv X pins σ H s->wi σ H R->
  wpAny (model X.prog X.w) X.A (eval iter X.env) (fun v s1=>wpAny (model X.prog X.w) X.A (pyIter v) (PIE X pins σ tg R) X.xe s1) X.xe s
theorem zJZ{M:Model}{A:Around}{E:Value->Shared->Prop}{s:Shared}{tg:Expr}{it:Addr}{u:Value}{o:Obj}{n:String}{vs:Array Value}{Q:Unit->Shared->Prop}(ho:s.heap.get? it=some o)(hc:o.cls=.type n)(hd:o.data=.fields vs)
    (hn:["enumerate","zip","dict_itemiterator","dict_reverseitemiterator","odict_iterator","itertools.zip_longest","itertools.pairwise"].contains n=false) (hQ:Q () s):wpAny M A (letOwnedTupleGo tg (.ref it) u) Q E s:=by
  unfold letOwnedTupleGo
  cases tg<;>first
    | exact wpAny_pure hQ
    | (cases u<;>first
        | exact wpAny_pure hQ
        | (refine wpAny_bind (wpAny_load ho ?_)
           rw[hc,hd];show wpAny M A (if (["enumerate","zip","dict_itemiterator","dict_reverseitemiterator","odict_iterator","itertools.zip_longest","itertools.pairwise"].contains n && vs[0]?==some (rawInt _))=true then _ else _) Q E s
           rw[if_neg (by intro h;rw[hn,Bool.false_and] at h;cases h)]
           exact wpAny_pure hQ))
def Itl(K:PySem.W.Frag)(a:Addr):It:=
 ⟨fun i H=>∃ xs x,SqL K H a xs/\xs[i]?=some x,fun i H x H'=>H'=H/\∀ xs,SqL K H a xs->xs[i]?=some x,fun i H=>∃ xs,SqL K H a xs/\xs.length<=i⟩
def Itt(K:PySem.W.Frag)(a:Addr):It:=
 ⟨fun i H=>∃ xs x,SqT K H a xs/\xs[i]?=some x,fun i H x H'=>H'=H/\∀ xs,SqT K H a xs->xs[i]?=some x,fun i H=>∃ xs,SqT K H a xs/\xs.length<=i⟩
def Itr(lo:Int)(n:Nat):It:=⟨fun i _=>i<n,fun i H x H'=>H'=H/\x=.int (lo+i),fun i _=>n<=i⟩
theorem zBt{P:Program}{w:World}{K:Fg_}{tg:Expr}(a it:Addr):Turn P w K tg (Itl K a) [it] it (fun i h=>h.IsListIter it a i) where
 mem:=by simp
 obj:=fun i h st b hb=>by
  have e:b=it:=by simpa using hb
  subst e;obtain⟨o,e,c,d⟩:=st;exact⟨o,e,fun v z=>by rw[d] at z;cases z⟩
 keep:=fun i h h' st k=>st.at fun o e=>k it (by simp) o e
 item:=by
  intro X hP hw hK hc i pins s σ H E I hf st hg;subst hP hw hK;obtain⟨xs,x,hq,hx⟩:=hg;obtain⟨its,rv,p,hz⟩:=I.list hq;obtain⟨u,hu,ru⟩:=rv.get hx;obtain⟨f0,f1,f2,f3,f4,f5⟩:=hf it (by simp)
  refine wpAny_pyNext_list_item st p.isList (x:=u) (by simpa using hu) fun h' st' sb=>?_
  have I1:Inv X pins σ H { s with heap:=h' }:=I.turned (t':=s.toks) (fun b o hb e=>(sb.2 b hb).trans e) f0 f1 f3 f4 f5
  obtain⟨o,e,c,d⟩:=id st';exact⟨u,rfl,zJZ (s:={ s with heap:=h' }) e c d (by decide) ⟨x,H,I1,ru,⟨rfl,fun ys hy=>by rw[I.list_inj hy hq];exact hx⟩,st',fun b hb=>(hf b hb).1⟩⟩
 done:=by
  intro X hP hw hK hc i pins s σ H E I hf st hg;subst hP hw hK;obtain⟨xs,hq,hx⟩:=hg;obtain⟨its,rv,p,hz⟩:=I.list hq;obtain⟨f0,f1,f2,f3,f4,f5⟩:=hf it (by simp)
  have hl:=rv.length;exact wpAny_pyNext_list_end (I.ok.hd hc) st p.isList (by simp;omega) fun h' eb=>⟨rfl,I.turned (t':=s.toks) (fun b o hb e=>eb b o hb e) f0 f1 f3 f4 f5⟩
 self:=fun _ _ _ _ _ st h=>wpAny_pyIter_listiter st h
theorem zFo{P:Program}{w:World}{K:Fg_}{tg:Expr}(a it:Addr):Turn P w K tg (Itt K a) [it] it (fun i h=>h.IsTupleIter it a i) where
 mem:=by simp
 obj:=fun i h st b hb=>by
  have e:b=it:=by simpa using hb
  subst e;obtain⟨o,e,c,d⟩:=st;exact⟨o,e,fun v z=>by rw[d] at z;cases z⟩
 keep:=fun i h h' st k=>st.at fun o e=>k it (by simp) o e
 item:=by
  intro X hP hw hK hc i pins s σ H E I hf st hg;subst hP hw hK;obtain⟨xs,x,hq,hx⟩:=hg;obtain⟨its,rv,p,hz⟩:=I.tuple hq;obtain⟨u,hu,ru⟩:=rv.get hx;obtain⟨f0,f1,f2,f3,f4,f5⟩:=hf it (by simp)
  refine wpAny_pyNext_tuple_item st (show s.heap.IsTuple a its.toArray from p) (x:=u) (by simpa using hu) fun h' st' sb=>?_
  have I1:Inv X pins σ H { s with heap:=h' }:=I.turned (t':=s.toks) (fun b o hb e=>(sb.2 b hb).trans e) f0 f1 f3 f4 f5
  obtain⟨o,e,c,d⟩:=id st';exact⟨u,rfl,zJZ (s:={ s with heap:=h' }) e c d (by decide) ⟨x,H,I1,ru,⟨rfl,fun ys hy=>by rw[I.tuple_inj hy hq];exact hx⟩,st',fun b hb=>(hf b hb).1⟩⟩
 done:=by
  intro X hP hw hK hc i pins s σ H E I hf st hg;subst hP hw hK;obtain⟨xs,hq,hx⟩:=hg;obtain⟨its,rv,p,hz⟩:=I.tuple hq;obtain⟨f0,f1,f2,f3,f4,f5⟩:=hf it (by simp)
  have hl:=rv.length;exact wpAny_pyNext_tuple_end (I.ok.hd hc) st (show s.heap.IsTuple a its.toArray from p) (by simp;omega) fun h' eb=>⟨rfl,I.turned (t':=s.toks) (fun b o hb e=>eb b o hb e) f0 f1 f3 f4 f5⟩
 self:=fun _ _ _ _ _ st h=>wpAny_pyIter_tupleiter st h
theorem zFC{P:Program}{w:World}{K:Fg_}{tg:Expr}(it:Addr)(lo:Int)(n:Nat):Turn P w K tg (Itr lo n) [it] it (fun i h=>IsRangeIter h it (lo+(i:Nat)*1) ((n:Int)-(i:Nat)) 1) where
 mem:=by simp
 obj:=fun i h st b hb=>by
  have e:b=it:=by simpa using hb
  subst e
  exact⟨_,st,fun v z=>by
   have z':Data.fields _=Data.cell v:=z
   cases z'⟩
 keep:=fun i h h' st k=>k it (by simp) _ st
 item:=by
  intro X hP hw hK hc i pins s σ H E I hf st hg;subst hP hw hK;obtain⟨f0,f1,f2,f3,f4,f5⟩:=hf it (by simp)
  have W:=Walks.range (prog:=X.prog) (w:=X.w) (I.ok.hd hc) it lo 1 n;refine W.item i s _ _ hg st fun v h' tk hv st' kk=>?_
  obtain⟨t,rfl⟩:=hv;have I1:Inv X pins σ H { s with heap:=h',toks:=tk }:=I.turned (fun b o hb e=>kk b o (by simpa using hb) e) f0 f1 f3 f4 f5
  refine⟨_,rfl,zJZ (s:={ s with heap:=h',toks:=tk }) (n := "range_iterator") st' rfl rfl (by decide) ⟨.int (lo+i),H,I1,⟨t,?_⟩,⟨rfl,rfl⟩,st',fun b hb=>(hf b hb).1⟩⟩
  rw[Q7]
 done:=by
  intro X hP hw hK hc i pins s σ H E I hf st hg;subst hP hw hK;obtain⟨f0,f1,f2,f3,f4,f5⟩:=hf it (by simp)
  exact wpAny_pyNext_range_end (I.ok.hd hc) st (by have:n<=i:=hg;omega) fun h' eb=>⟨rfl,I.turned (t':=s.toks) (fun b o hb e=>eb b o hb e) f0 f1 f3 f4 f5⟩
 self:=fun _ _ _ _ _ st h=>wpAny_pyIter_rangeiter st h
section
variable{X:Cx}{tg:Expr}
abbrev zRq(K:PySem.W.Frag)(tl:TE):TI:=fun σ H R=>tl σ H fun x H1=>∃ a,x=.ref a/\(∃ xs,SqL K H1 a xs)/\R (Itl K a) H1
theorem zNN{l:Expr}{tl:TE}(hl:PE X l tl):PI X tg l (zRq X.K tl):=by
 intro pins s σ H R I h;refine thn (hl pins s σ H _ I h) fun v s1 ⟨x,H1,I1,r1,q1⟩=>?_
 obtain⟨a,e,⟨xs,hq⟩,q⟩:=q1;subst e;cases r1;obtain⟨its,rv,p,hz⟩:=I1.list hq;refine wpAny_pyIter_list p.isList ?_
 refine⟨s1.heap.objs.size,[s1.heap.objs.size],_,_,H1,rfl,I1.kept (t':=s1.toks) fun b o e=>Heap.get?_push_of_some _ e,zBt a _,⟨_,Heap.get?_push_size _ rfl,rfl,rfl⟩,fun b hb=>?_,q⟩
 have e:b=s1.heap.objs.size:=by simpa using hb
 subst e;exact I1.fpOk (Qf _) (I1.hok.fresh (Qf _))
theorem zEn{pins:List (Addr×Obj)}{σ:St}{H:Hp}{s:Shared}{R:It->Hp->Prop}{E:Value->Shared->Prop}{lo hi:Int}{t u v:Tok}{tk:Nat}(I:Inv X pins σ H s)(h1:-(2^62)<=lo)(h2:lo<2^62)(h3:-(2^62)<=hi)(h4:hi<2^62)
  (q:R (Itr lo (hi-lo).toNat) H):wpAny (model X.prog X.w) X.A (pyIter (.ref s.heap.objs.size)) (PIE X pins σ tg R) E { s with heap:=s.heap.push { cls:=.type "range", data:=.fields #[.int lo t,.int hi u,.int 1 v] },toks:=tk }:=by
 refine wpAny_pyIter_range (IsRange.new ..) (small_one h1 h2 h3 h4) ?_
 have I1:Inv X pins σ H { s with heap:=s.heap.push { cls:=.type "range", data:=.fields #[.int lo t,.int hi u,.int 1 v] },toks:=tk }:=I.kept fun b o e=>Heap.get?_push_of_some _ e
 refine⟨(s.heap.push { cls:=.type "range", data:=.fields #[.int lo t,.int hi u,.int 1 v] }).objs.size,[(s.heap.push { cls:=.type "range", data:=.fields #[.int lo t,.int hi u,.int 1 v] }).objs.size],_,_,H,rfl,
  I1.kept (t':=tk) fun b o e=>Heap.get?_push_of_some _ e,zFC _ lo (hi-lo).toNat,?_,fun b hb=>?_,q⟩
 ·have e1:lo+((0:Nat):Int)*1=lo:=by simp
  have e2:(((hi-lo).toNat:Nat):Int)-((0:Nat):Int)=Builtin.Range.rangeSize lo hi 1:=by rw[rangeSize_one];split<;>omega
  show IsRangeIter _ _ (lo+((0:Nat):Int)*1) ((((hi-lo).toNat:Nat):Int)-((0:Nat):Int)) 1
  rw[e1,e2];exact Heap.get?_push_size _ rfl
 ·have e:b=(s.heap.push { cls:=.type "range", data:=.fields #[.int lo t,.int hi u,.int 1 v] }).objs.size:=by simpa using hb
  subst e;exact I1.fpOk (Qf _) (I1.hok.fresh (Qf _))
abbrev zFe(ta:TA):TI:=fun σ H R=>ta σ H fun vs H1=>∃ j:Int,vs=[.int j]/\-(2^62)<=j/\j<2^62/\R (Itr 0 j.toNat) H1
abbrev zGU(ta:TA):TI:=fun σ H R=>ta σ H fun vs H1=>∃ i j:Int,vs=[.int i,.int j]/\(-(2^62)<=i/\i<2^62/\-(2^62)<=j/\j<2^62)/\R (Itr i (j-i).toNat) H1
theorem zHC{a:Expr}{ta:TA}{p pos:Pos}(hg:Gl X "range")(hm:X.mg "range" = none)(ha:PA X [a] ta)(hs:starEach [a] X.env=[(false,eval a X.env)]:=by rfl):PI X tg (.Call (.Name "range" p) [a] [] pos) (zFe ta):=by
 intro pins s σ H R I h;refine Call_ (pO I hg hm boot_range (VZ (thn (ha pos pins s σ H _ I h) fun us s1 ⟨vs,H1,I1,r1,q1⟩=>?_) hs rfl))
 obtain⟨j,e,q1,q2,q⟩:=q1;subst e
 cases r1 with
 | cons r rr=>
  cases rr;obtain⟨t,rfl⟩:=r;exact call_range_1 (zEn I1 (by omega) (by omega) q1 q2 (by simpa using q))
theorem zGE{a b:Expr}{ta:TA}{p pos:Pos}(hg:Gl X "range")(hm:X.mg "range" = none)(ha:PA X [a,b] ta)(hs:starEach [a,b] X.env=[(false,eval a X.env),(false,eval b X.env)]:=by rfl)(hs2:starEach [b] X.env=[(false,eval b X.env)]:=by rfl):
  PI X tg (.Call (.Name "range" p) [a,b] [] pos) (zGU ta):=by
 intro pins s σ H R I h;refine Call_ (pO I hg hm boot_range (VZ (thn (ha pos pins s σ H _ I h) fun us s1 ⟨vs,H1,I1,r1,q1⟩=>?_) (by rw[hs,hs2]) (by rw[hs2];rfl)))
 obtain⟨i,j,e,⟨q1,q2,q3,q4⟩,q⟩:=q1;subst e
 cases r1 with
 | cons r rr=>
  cases rr with
  | cons r' rr=>
   cases rr;obtain⟨t,rfl⟩:=r;obtain⟨t',rfl⟩:=r';exact call_range_2 (zEn I1 q1 q2 q3 q4 q)
abbrev zSc(wi:TI)(g:TG)(tb:TS):TS:=fun D σ H=>wi σ H fun J H1=>∃ W:Nat->Nat->St->Hp->Prop,(∃ m,W 0 m σ H1)/\∀ i m σ H,W i m σ H->
 (J.stop i H/\D.nx σ H)∨(J.go i H/\∃ N:St->Hp->Prop,(∀ σ' H',N σ' H'->∃ m',m' < m/\W (i+1) m' σ' H')/\∀ x H',J.yld i H x H'->g x σ H' fun σ2 H2=>tb { D with nx:=N,ct:=N,bk:=D.nx } σ2 H2)
def uP(fp:List Addr)(h:Heap):List (Addr×Obj):=fp.filterMap fun b=>(h.get? b).map fun o=>(b,o)
theorem fI{fp:List Addr}{h:Heap}{b:Addr}{o:Obj}(hb:b∈fp)(e:h.get? b=some o):(b,o)∈uP fp h:=XN.mpr ⟨b,hb,by rw[e];rfl⟩
theorem zIp{fp:List Addr}{h:Heap}{p:Addr×Obj}(hp:p∈uP fp h):p.1∈fp/\h.get? p.1=some p.2:=by
 obtain⟨b,hb,e⟩:=XN.mp hp
 cases q:h.get? b with
 | none=>rw[q] at e;cases e
 | some o=>
  rw[q] at e;have e':(b,o)=p:=QK e;subst e';exact⟨hb,q⟩
theorem Inv.pinned{pins:List (Addr×Obj)}{σ:St}{H:Hp}{s:Shared}{fp:List Addr}(I:Inv X pins σ H s)(hf:∀ b∈fp,sL X pins H b)(ho:∀ b∈fp,∃ o,s.heap.get? b=some o/\∀ v,o.data≠.cell v):Inv X (pins++uP fp s.heap) σ H s:=
 I.pins_of fun p hp=>(QF.mp hp).elim (fun z=>I.pin p (QA _ z)) fun z=>by
  obtain⟨hb,e⟩:=zIp z;obtain⟨f0,f1,f2,_⟩:=hf p.1 hb;obtain⟨o,e',d⟩:=ho p.1 hb;rw[e] at e';cases e'
  exact⟨e,f0,f1,f2,d⟩
theorem Inv.unpinned{pins pl:List (Addr×Obj)}{σ:St}{H:Hp}{s:Shared}(I:Inv X (pins++pl) σ H s):Inv X pins σ H s:=I.pins_of fun p hp=>I.pin p (QA _ (Vy _ hp))
theorem zLN{iter:Expr}{body:List Stmt}{wi:TI}{g:TG}{tb:TS}{pos:Pos}(hp:PassesOwn (model X.prog X.w) X.A X.env X.xe)(hc:X.calm=true)(hi:PI X tg iter wi)(hg:PG X tg g)(hb:PSs X body tb)
  (hs:∀ x,foldedSetIterable iter X.env x=pure x:=by intro _;rfl):PS X (.For tg iter body [] pos) (zSc wi g tb):=by
 intro pins s σ H D I h;refine wpAny_For (thn (hi pins s σ H _ I h) fun v s1 h1=>thn h1 fun itv s2 h2=>?_) hs
 obtain⟨it,fp,tn,J,H2,e,I2,T,st2,f2,W,⟨m0,w0⟩,turn⟩:=h2;subst e;have stat:∀ {H':Hp},(∀ b∈fp,H' b=none)->∀ b∈fp,sL X pins H' b:=fun hn b hb=>⟨hn b hb,(f2 b hb).2⟩
 refine codeAny_forLoop_any (fun n s'=>∃ i σ' H',Inv X pins σ' H' s'/\tn i s'.heap/\(∀ b∈fp,H' b=none)/\W i n σ' H') ?_ m0 ⟨0,σ,H2,I2,st2,fun b hb=>(f2 b hb).1,w0⟩
 rintro n s3 ⟨i,σ3,H3,I3,st3,fr3,w3⟩
 rcases turn i n σ3 H3 w3 with⟨stop,qn⟩ | ⟨go,N,hN,step⟩
 ·refine wpAny_passesOwn hp (thn (T.done X rfl rfl rfl hc i pins s3 σ3 H3 X.xe I3 (stat fr3) st3 stop) fun r s4 ⟨hr,I4⟩=>?_)
  subst hr;exact wpAny_execs_nil ⟨σ3,H3,I4,qn⟩
 ·refine wpAny_passesOwn hp (thn (T.item X rfl rfl rfl hc i pins s3 σ3 H3 X.xe I3 (stat fr3) st3 go) fun r s4 ⟨u,hr,h4⟩=>?_)
  subst hr;refine wpAny_passesOwn hp (thn h4 fun _ s5 ⟨x,H5,I5,r5,y5,st5,fr5⟩=>?_)
  have I5':=I5.pinned (stat fr5) (T.obj _ _ st5);refine wpAny_passesOwn hp (thn (hg _ s5 σ3 H5 x u _ I5' r5 (step x H5 y5)) fun _ s6 ⟨σ6,H6,I6,q6⟩=>?_)
  refine wpAny_passesOwn hp (thn (hb _ s6 σ6 H6 _ I6 q6) fun f s7 q7=>?_)
  have again:∀ {σ7:St} {H7:Hp},Inv X (pins++uP fp s5.heap) σ7 H7 s7->N σ7 H7->∃ m,m<n/\∃ i σ' H',Inv X pins σ' H' s7/\tn i s7.heap/\(∀ b∈fp,H' b=none)/\W i m σ' H':=fun {σ7 H7} I7 n7=>by
   obtain⟨m',hm,w7⟩:=hN σ7 H7 n7;refine⟨m',hm,i+1,σ7,H7,I7.unpinned,T.keep _ _ _ st5 fun b hb o e=>(I7.pin (b,o) (QA _ (QA _ (fI hb e)))).1,fun b hb=>?_,w7⟩
   obtain⟨o,e,d⟩:=T.obj _ _ st5 b hb;exact(I7.pin (b,o) (QA _ (QA _ (fI hb e)))).2.1
  cases f with
  | next=>obtain⟨σ7,H7,I7,n7⟩:=q7;exact again I7 n7
  | cont=>obtain⟨σ7,H7,I7,n7⟩:=q7;exact again I7 n7
  | brk=>obtain⟨σ7,H7,I7,q7⟩:=q7;exact⟨σ7,H7,I7.unpinned,q7⟩
  | ret v=>obtain⟨x7,σ7,H7,I7,r7,q7⟩:=q7;exact⟨x7,σ7,H7,I7.unpinned,r7,q7⟩
end
abbrev R2:=V->V->Hp->VK->Prop
def OpR(X:Cx)(f:Value->Value->Sem Value)(r:R2):Prop:=
 ∀(pins:List (Addr×Obj))(s:Shared)(σ:St)(H:Hp)(x y:V)(v u:Value)(Q:VK),Inv X pins σ H s->cV x v->cV y u->r x y H Q->
  wpAny (model X.prog X.w) X.A (f v u) (EP X pins σ Q) X.xe s
def UnR(X:Cx)(f:Value->Sem Value)(r:V->Hp->VK->Prop):Prop:=
 ∀(pins:List (Addr×Obj))(s:Shared)(σ:St)(H:Hp)(x:V)(v:Value)(Q:VK),Inv X pins σ H s->cV x v->r x H Q->
  wpAny (model X.prog X.w) X.A (f v) (EP X pins σ Q) X.xe s
def vA(X:Cx)(f:Value)(r:List V->Hp->VK->Prop):Prop:=
 ∀(pins:List (Addr×Obj))(s:Shared)(σ:St)(H:Hp)(xs:List V)(us:List Value)(Q:VK),Inv X pins σ H s->dN xs us->r xs H Q->
  wpAny (model X.prog X.w) X.A (call f us) (EP X pins σ Q) X.xe s
abbrev tOp(r:R2)(ta tb:TE):TE:=fun σ H Q=>ta σ H fun x H1=>tb σ H1 fun y H2=>r x y H2 Q
abbrev tUn(r:V->Hp->VK->Prop)(ta:TE):TE:=fun σ H Q=>ta σ H fun x H1=>r x H1 Q
def rI(C:Int->Int->Prop)(g:Int->Int->V):R2:=fun x y H Q=>∃ i j,x=.int i/\y=.int j/\C i j/\Q (g i j) H
def rI0(g:Int->Int->V):R2:=fun x y H Q=>∃ i j,x=.int i/\y=.int j/\Q (g i j) H
def rU(g:Int->V):V->Hp->VK->Prop:=fun x H Q=>∃ i,x=.int i/\Q (g i) H
section
variable{X:Cx}{a b c:Expr}{ta tb tc:TE}{pos:Pos}
theorem zRy(ha:PE X a ta)(hb:PE X b tb){pins:List (Addr×Obj)}{s:Shared}{σ:St}{H:Hp}{R:V->V->Hp->Prop}(I:Inv X pins σ H s)
  (h:ta σ H fun x H1=>tb σ H1 fun y H2=>R x y H2) {Q:Value->Shared->Prop} {f:Value->Value->Sem Value}
  (hf:∀ v u s2 x y H2,Inv X pins σ H2 s2->cV x v->cV y u->R x y H2->wpAny (model X.prog X.w) X.A (f v u) Q X.xe s2):
  wpAny (model X.prog X.w) X.A (eval a X.env) (fun v s₁=>wpAny (model X.prog X.w) X.A (eval b X.env) (fun u s₂=>wpAny (model X.prog X.w) X.A (f v u) Q X.xe s₂) X.xe s₁) X.xe s:=by
 refine thn (ha pins s σ H _ I h) fun v s1 ⟨x,H1,I1,r1,q1⟩=>?_
 refine thn (hb pins s1 σ H1 _ I1 q1) fun u s2 ⟨y,H2,I2,r2,q2⟩=>?_
 exact hf v u s2 x y H2 I2 r1 r2 q2
theorem zIv{op:Operator}{r:R2}(ho:OpR X (binaryOp op) r)(ha:PE X a ta)(hb:PE X b tb):PE X (.BinOp a op b pos) (tOp r ta tb):=by
 intro pins s σ H Q I h;exact wpAny_BinOp (zRy ha hb I h fun v u s2 x y H2 I2 rx ry q=>ho pins s2 σ H2 x y v u Q I2 rx ry q)
theorem zQX{op:UnaryOp}{r:V->Hp->VK->Prop}(ho:UnR X (unaryOp op) r)(ha:PE X a ta):PE X (.UnaryOp op a pos) (tUn r ta):=by
 intro pins s σ H Q I h;exact UnaryOp_ (thn (ha pins s σ H _ I h) fun v s1 ⟨x,H1,I1,r1,q1⟩=>ho pins s1 σ H1 x v Q I1 r1 q1)
theorem opI{f:Value->Value->Sem Value}{C:Int->Int->Prop}{g:Int->Int->Int}
  (rule:∀(i j:Int)(t u:Tok)(s:Shared)(Q:Value->Shared->Prop)(E:Value->Shared->Prop),C i j->Q (.int (g i j) s.toks) { s with toks:=s.toks+1 }->wpAny (model X.prog X.w) X.A (f (.int i t) (.int j u)) Q E s):
  OpR X f (rI C fun i j=>.int (g i j)):=by
 intro pins s σ H x y v u Q I rx ry h;obtain⟨i,j,rfl,rfl,hc,q⟩:=h;obtain⟨t,rfl⟩:=rx;obtain⟨t',rfl⟩:=ry;exact rule i j t t' s _ _ hc ⟨.int (g i j),H,I.tok _,⟨_,rfl⟩,q⟩
theorem zSe{f:Value->Value->Sem Value}{g:Int->Int->Int}
  (rule:∀(i j:Int)(t u:Tok)(s:Shared)(Q:Value->Shared->Prop)(E:Value->Shared->Prop),Q (.int (g i j) s.toks) { s with toks:=s.toks+1 }->wpAny (model X.prog X.w) X.A (f (.int i t) (.int j u)) Q E s):
  OpR X f (rI0 fun i j=>.int (g i j)):=by
 intro pins s σ H x y v u Q I rx ry h;obtain⟨i,j,rfl,rfl,q⟩:=h;obtain⟨t,rfl⟩:=rx;obtain⟨t',rfl⟩:=ry;exact rule i j t t' s _ _ ⟨.int (g i j),H,I.tok _,⟨_,rfl⟩,q⟩
theorem zSm{f:Value->Value->Sem Value}{g:Int->Int->Bool}
  (rule:∀(i j:Int)(t u:Tok)(s:Shared)(Q:Value->Shared->Prop)(E:Value->Shared->Prop),Q (.bool (g i j)) s->wpAny (model X.prog X.w) X.A (f (.int i t) (.int j u)) Q E s):
  OpR X f (rI0 fun i j=>.bl (g i j)):=by
 intro pins s σ H x y v u Q I rx ry h;obtain⟨i,j,rfl,rfl,q⟩:=h;obtain⟨t,rfl⟩:=rx;obtain⟨t',rfl⟩:=ry;exact rule i j t t' s _ _ ⟨.bl (g i j),H,I,rfl,q⟩
def zQM(i j:Int):Prop:=(-(2^64)<i/\i<2^64)∨(-(2^64)<j/\j<2^64)
theorem zQM.ok{i j:Int}(h:zQM i j):IntMulOk i j:=by
 rcases h with⟨h1,h2⟩ | ⟨h1,h2⟩
 ·exact .of_left (intBits_le_64 h1 h2)
 ·exact .of_right (intBits_le_64 h1 h2)
theorem zOO:OpR X (binaryOp .Add) (rI0 fun i j=>.int (i+j)):=zSe fun _ _ _ _ _ _ _ q=>add_int q
theorem mO:OpR X (binaryOp .Sub) (rI0 fun i j=>.int (i-j)):=zSe fun _ _ _ _ _ _ _ q=>sub_int q
theorem dO:OpR X (binaryOp .Mod) (rI (fun _ j=>j≠0) fun i j=>.int (i.fmod j)):=opI fun _ _ _ _ _ _ _ hc q=>mod_int' hc q
theorem unI{f:Value->Sem Value}{g:Int->Int}
  (rule:∀(i:Int)(t:Tok)(s:Shared)(Q:Value->Shared->Prop)(E:Value->Shared->Prop),Q (.int (g i) s.toks) { s with toks:=s.toks+1 }->wpAny (model X.prog X.w) X.A (f (.int i t)) Q E s):
  UnR X f (rU fun i=>.int (g i)):=by
 intro pins s σ H x v Q I rx h;obtain⟨i,rfl,q⟩:=h;obtain⟨t,rfl⟩:=rx;exact rule i t s _ _ ⟨.int (g i),H,I.tok _,⟨_,rfl⟩,q⟩
theorem zPM:UnR X (unaryOp .USub) (rU fun i=>.int (-i)):=unI fun _ _ _ _ _ q=>neg_int q
end
section
variable{X:Cx}{a b c:Expr}{ta tb tc:TE}{pos:Pos}
theorem xG:OpR X (compareOp .Lt) (rI0 fun i j=>.bl (decide (i<j))):=zSm fun _ _ _ _ _ _ _ q=>lt_int q
theorem zBo:OpR X (compareOp .Gt) (rI0 fun i j=>.bl (decide (j<i))):=zSm fun _ _ _ _ _ _ _ q=>gt_int q
theorem OpR.or{f:Value->Value->Sem Value}{r r':R2}(h:OpR X f r)(h':OpR X f r'):OpR X f (fun x y H Q=>r x y H Q∨r' x y H Q):=by
 intro pins s σ H x y v u Q I rx ry q;rcases q with q | q
 ·exact h pins s σ H x y v u Q I rx ry q
 ·exact h' pins s σ H x y v u Q I rx ry q
theorem bG(b:Expr){op:CmpOp}(h:op≠.In:=by decide)(h2:op≠.NotIn:=by decide):behindInMarks op b=false:=by
 have e1:(op==CmpOp.In)=false:=by cases op<;>first | rfl | exact absurd rfl h
 have e2:(op==CmpOp.NotIn)=false:=by cases op<;>first | rfl | exact absurd rfl h2
 cases b<;>simp[behindInMarks,e1,e2]
theorem zNC{op:CmpOp}{r:R2}(ho:OpR X (compareOp op) r)(ha:PE X a ta)(hb:PE X b tb)(hm:behindInMarks op b=false):PE X (.Compare a [op] [b] pos) (tOp r ta tb):=by
 intro pins s σ H Q I h;exact wpAny_Compare1 (zRy ha hb I h fun v u s2 x y H2 I2 rx ry q=>ho pins s2 σ H2 x y v u Q I2 rx ry q) hm
abbrev zQH(t:TE):TT:=fun σ H Q=>t σ H fun x H'=>∃ k,x=.bl k/\Q k H'
theorem zHr{op:CmpOp}{r:R2}(ho:OpR X (compareOp op) r)(ha:PE X a ta)(hb:PE X b tb)(hm:behindInMarks op b=false):PT X (.Compare a [op] [b] pos) (zQH (tOp r ta tb)):=by
 intro pins s σ H Q I h
 refine wpAny_isTrue_Compare1 (thn (ha pins s σ H _ I h) fun v s1 ⟨x,H1,I1,r1,q1⟩=>thn (hb pins s1 σ H1 _ I1 q1) fun u s2 ⟨y,H2,I2,r2,q2⟩=>
  thn (ho pins s2 σ H2 x y v u _ I2 r1 r2 q2) fun c s3 ⟨z,H3,I3,r3,k,e,q3⟩=>?_) hm
 subst e;cases r3;exact wpAny_truthy_bool ⟨H3,I3,q3⟩
theorem zEH:(sizeLine:Nat)<2^63:=by rw[sizeLine_eq];decide
theorem zCy{x:V}{us:List Value}(r:dN [x] us):∃ u,us=[u]/\cV x u:=by
 cases r with
 | cons r1 r2=>cases r2;exact⟨_,rfl,r1⟩
theorem zPY{x y:V}{us:List Value}(r:dN [x,y] us):∃ u w',us=[u,w']/\cV x u/\cV y w':=by
 cases r with
 | cons r1 r2=>
  cases r2 with
  | cons r3 r4=>cases r4;exact⟨_,_,rfl,r1,r3⟩
theorem zAY:vA X (.builtin "abs") (fun xs H Q=>∃ i,xs=[.int i]/\Q (.int (if i<0 then -i else i)) H):=by
 intro pins s σ H xs us Q I r h;obtain⟨i,rfl,q⟩:=h;obtain⟨u,rfl,t,rfl⟩:=zCy r;exact call_abs_int fun u tk=>⟨.int (if i<0 then -i else i),H,I.tok _,⟨_,rfl⟩,q⟩
theorem zIi(hc:X.calm=true):vA X (.builtin "max") (fun xs H Q=>∃ i j,xs=[.int i,.int j]/\Q (.int (if j > i then j else i)) H):=by
 intro pins s σ H xs us Q I r h;obtain⟨i,j,rfl,q⟩:=h;obtain⟨u,w',rfl,⟨t,rfl⟩,⟨t',rfl⟩⟩:=zPY r;refine max_two_ints (I.ok.hd hc) fun h' tk k=>⟨_,H,I.kept k,?_,q⟩
 by_cases hj:j > i
 ·rw[if_pos hj,if_pos hj];exact⟨_,rfl⟩
 ·rw[if_neg hj,if_neg hj];exact⟨_,rfl⟩
theorem zJb(hc:X.calm=true):vA X (.builtin "min") (fun xs H Q=>∃ i j,xs=[.int i,.int j]/\Q (.int (if j<i then j else i)) H):=by
 intro pins s σ H xs us Q I r h;obtain⟨i,j,rfl,q⟩:=h;obtain⟨u,w',rfl,⟨t,rfl⟩,⟨t',rfl⟩⟩:=zPY r;refine min_two_ints (I.ok.hd hc) fun h' tk k=>⟨_,H,I.kept k,?_,q⟩
 by_cases hj:j<i
 ·rw[if_pos hj,if_pos hj];exact⟨_,rfl⟩
 ·rw[if_neg hj,if_neg hj];exact⟨_,rfl⟩
end
section
variable{prog:Program}{w:World}{A:Around}{E:Value->Shared->Prop}{s:Shared}{K:Fg_}{x dx C f:Addr}{mA:Str->Option Value}{name:Str}{v:Value}
end
section
variable{P:Program}{w:World}{H H':Hp}{h h':Heap}{a C dx:Addr}{fs fs':List (Str×V)}
end
section
variable{X:Cx}{pins:List (Addr×Obj)}{σ:St}{H:Hp}{s:Shared}{a C dx:Addr}{fs:List (Str×V)}{f:Str}{v:V}{A:Around}{E:Value->Shared->Prop}
end
section
variable{X:Cx}{o e value:Expr}{f:Str}{pos pos' tpos:Pos}{ta tv:TE}
end
section
variable{X:Cx}{pins:List (Addr×Obj)}{σ:St}{H:Hp}{s:Shared}{A:Around}{E:Value->Shared->Prop}{Q:Value->Shared->Prop}{c:Value}{b:Bool}
end
structure Room (k:Nat) (A:Around):Prop where
 hd:A.handled=none
 dp:A.depth+3*k+5<recursionLimit
 un:A.units+16*k+200<cLine
theorem Room.mono{j k:Nat}{A:Around}(r:Room k A)(h:j<=k):Room j A:=⟨r.hd,by have:=r.dp;omega,by have:=r.un;omega⟩
theorem Room.deeper{k:Nat}{A:Around}(r:Room (k+1) A)(env:Env):Room k (A.deeper env):=
 ⟨r.hd,by have:=r.dp;show A.depth+1+3*k+5<_;omega,by have:=r.un;show A.units+3+16*k+200<_;omega⟩
theorem Room.depth{k:Nat}{A:Around}(r:Room k A):A.depth<recursionLimit:=by have:=r.dp;omega
theorem Room.units{k:Nat}{A:Around}(r:Room k A):A.units+64<cLine:=by have:=r.un;omega
abbrev zSR:TA:=fun _ H Q=>Q [] H
abbrev zRP(ta:TE)(tr:TA):TA:=fun σ H Q=>ta σ H fun x H1=>tr σ H1 fun xs H2=>Q (x::xs) H2
section
variable{X:Cx}{e:Expr}{es:List Expr}{te:TE}{t:TA}{pos:Pos}
theorem oT:PA X [] zSR:=fun _ _ _ _ H Q I h=>Calls.spliced_nil ⟨[],H,I,.nil,h⟩
theorem kR(ha:PE X e te)(hr:PA X es t)(hs:starEach (e::es) X.env=(false,eval e X.env)::starEach es X.env:=by rfl):PA X (e::es) (zRP te t):=by
 intro pos pins s σ H Q I h;rw[hs];show wpAny _ _ (spliced ((false,eval e X.env)::backTo pos (starEach es X.env))) _ _ s
 refine Calls.spliced_cons (thn (ha pins s σ H _ I h) fun u s1 ⟨x,H1,I1,r1,q1⟩=>?_)
 exact thn (hr pos pins s1 σ H1 _ I1 q1) fun us s2 ⟨xs,H2,I2,r2,q2⟩=>⟨x::xs,H2,I2,.cons r1 r2,q2⟩
abbrev zSA(t:TA):TE:=fun σ H Q=>t σ H fun xs H1=>xs.length<=sizeLine/\∀ p,H1 p=none->Q (.ref p) (upd H1 p (.tup xs))
abbrev zSL(t:TA):TE:=fun σ H Q=>t σ H fun xs H1=>xs.length<=sizeLine/\∀ p,H1 p=none->Q (.ref p) (upd H1 p (.lst xs))
theorem zQo{x1}(h:PA X es t):PE X (.Tuple es x1 pos) (zSA t):=by
 intro pins s σ H Q I hq;refine wpAny_Tuple_spliced (thn (h pos pins s σ H _ I hq) fun us s1 ⟨xs,H1,I1,r,z,q⟩=>⟨by rw[<-r.length];exact z,?_⟩)
 have hf:H1 s1.heap.objs.size=none:=I1.hok.fresh (Qf _);refine⟨.ref s1.heap.objs.size,upd H1 s1.heap.objs.size (.tup xs),I1.laid (t':=s1.toks) (fun b u e=>Heap.get?_push_of_some _ e) (Qf _) ?_,rfl,q _ hf⟩
 exact⟨z,us,r,⟨_,Heap.get?_push_size _ rfl,rfl,_,rfl⟩⟩
theorem zQq(h:PA X es t):PE X (.List es pos) (zSL t):=by
 intro pins s σ H Q I hq;refine wpAny_List_spliced (thn (h pos pins s σ H _ I hq) fun us s1 ⟨xs,H1,I1,r,z,q⟩=>⟨by rw[<-r.length];exact z,?_⟩)
 have hf:H1 s1.heap.objs.size=none:=I1.hok.fresh (Qf _);refine⟨.ref s1.heap.objs.size,upd H1 s1.heap.objs.size (.lst xs),I1.laid (t':=s1.toks) (fun b u e=>Heap.get?_push_of_some _ e) (Qf _) ?_,rfl,q _ hf⟩
 exact⟨z,us,0,r,Heap.get?_push_size _ rfl⟩
end
abbrev Sp:=List V->Hp->VK->XK->Prop
abbrev CXT:=List Env->Hp->Shared->XK->Value->Shared->Prop
structure Env0 (P:Program) (w:World) (K:PySem.W.Frag) (mg:Str->Option Value) (base:Heap) (A:Around) (outer:List Env) (s:Shared) (H:Hp):Prop where
 frames:A.frames=some outer
 mod:Mod K mg base
 bs:∀ b o,base.get? b=some o->s.heap.get? b=some o/\H b=none
 bsz:base.objs.size<=s.heap.objs.size
 funs:s.heap.FunFrames base outer
 frf:∀ b∈frs outer,H b=none
 hok:HOk P w H s.heap
 bare:AllBare s.gens
def CE(outer:List Env)(P:Program)(w:World)(H:Hp)(s:Shared)(Q:VK)(u:Value)(s':Shared):Prop:=
 ∃ v H',s'.os=s.os/\AllBare s'.gens/\Un (frs outer) [] H H' s.heap s'.heap/\HOk P w H' s'.heap/\cV v u/\Q v H'
def CR(CX:CXT)(outer:List Env)(P:Program)(w:World)(H:Hp)(s:Shared)(Q:VK)(E:XK)(r:Result)(s':Shared):Prop:=
 match r with
 | .ok (.ret u)=>CE outer P w H s Q u s'
 | .ok _=>False
 | .error e=>CX outer H s E e s'
structure FnOk (P:Program) (w:World) (K:PySem.W.Frag) (mg:Str->Option Value) (base:Heap) (CX:CXT) (k:Nat) (f:Addr) (fd:FuncData) (ps:List Str) (sp:Sp):Prop where
 len:∀ vs H Q E,sp vs H Q E->vs.length=ps.length
 run:∀(A:Around)(outer:List Env)(s:Shared)(H:Hp)(args:Args)(us:List Value)(vs:List V)(Q:VK)(E:XK),Room k A->Env0 P w K mg base A outer s H->BindsTo s fd args (ps.zip us)->dN vs us->sp vs H Q E->
  codeAny (model P w) A (.call (.ref f) args) (CR CX outer P w H s Q E) s
theorem FnOk.mono{P:Program}{w:World}{K:Fg_}{mg:Str->Option Value}{base:Heap}{CX:CXT}{j k:Nat}{f:Addr}{fd:FuncData}{ps:List Str}{sp:Sp}(F:FnOk P w K mg base CX j f fd ps sp)(h:j<=k):
  FnOk P w K mg base CX k f fd ps sp:=⟨F.len,fun A outer s H args us vs Q E hr=>F.run A outer s H args us vs Q E (hr.mono h)⟩
theorem FnOk.imp{P:Program}{w:World}{K:Fg_}{mg:Str->Option Value}{base:Heap}{CX:CXT}{k:Nat}{f:Addr}{fd:FuncData}{ps:List Str}{sp sp':Sp}(F:FnOk P w K mg base CX k f fd ps sp)
  (h:∀ vs H Q E,sp' vs H Q E->sp vs H Q E):FnOk P w K mg base CX k f fd ps sp':=
 ⟨fun vs H Q E q=>F.len vs H Q E (h _ _ _ _ q),fun A outer s H args us vs Q E hr he hb hv hs=>F.run A outer s H args us vs Q E hr he hb hv (h _ _ _ _ hs)⟩
theorem Env0.in1{P:Program}{w:World}{K:Fg_}{mg:Str->Option Value}{base:Heap}{A:Around}{outer:List Env}{s:Shared}{H:Hp}(e:Env0 P w K mg base A outer s H):
  Env0 P w K mg base A.in1 outer s H:=⟨e.frames,e.mod,e.bs,e.bsz,e.funs,e.frf,e.hok,e.bare⟩
section
variable{X:Cx}{pins:List (Addr×Obj)}{σ:St}{H:Hp}{s s':Shared}
theorem Inv.env0(I:Inv X pins σ H s):Env0 X.prog X.w X.K X.mg X.base X.A X.stack s H:=
 ⟨I.ok.frames,I.ok.mod,I.bs,Qv I.ok.bsz I.sz,I.stack,I.stkFree,I.hok,I.bare⟩
theorem Inv.after{Q:VK}{u:Value}(I:Inv X pins σ H s)(h:CE X.stack X.prog X.w H s Q u s'):EP X pins σ Q u s':=by
 obtain⟨v,H',os,bare,un,hok,r,q⟩:=h;obtain⟨hh,g,d,t,os'⟩:=s';obtain rfl:os'=s.os:=os;exact⟨v,H',I.call (h':=hh) (g':=g) (d':=d) (t':=t) (ch:=[]) un hok bare (fun b z=>absurd z (by simp)),r,q⟩
end
abbrev zMa(sp:Sp)(dvs:List V)(E:XK)(t:TA):TE:=fun σ H Q=>t σ H fun vs H1=>sp (vs++dvs) H1 Q E
def zCu(K:PySem.W.Frag)(fd:FuncData)(ps:List Str)(ds:List Value):Prop:=
 ∀(s:Shared)(us:List Value),K.In s.heap->(us++ds).length=ps.length->BindsTo s fd ⟨us,[]⟩ (ps.zip (us++ds))
theorem zCu.all{K:Fg_}{fd:FuncData}{ps:List Str}(h:∀ us:List Value,us.length=ps.length->bindArgs fd ⟨us,[]⟩=pure (ps.zip us)):zCu K fd ps []:=fun s us _ hl=>by
 rw[QW] at hl ⊢
 exact .of_eq (h us hl)
def zEI(CX:CXT)(X:Cx)(E:XK):Prop:=∀(pins:List (Addr×Obj))(σ:St)(H:Hp)(s:Shared)(e:Value)(s':Shared),Inv X pins σ H s->CX X.stack H s E e s'->X.xe e s'
section
variable{X:Cx}{CX:CXT}{k:Nat}{f C:Addr}{fd:FuncData}{ps:List Str}{sp:Sp}{dvs:List V}{ds:List Value}{E:XK}{x m:Str}{p pos apos:Pos}{e o:Expr}{es:List Expr}{ta:TE}{t:TA}
theorem zOZ{pins:List (Addr×Obj)}{σ:St}{H:Hp}{s:Shared}{Q:VK}{us:List Value}{vs:List V}(F:FnOk X.prog X.w X.K X.mg X.base CX k f fd ps sp)(hr:Room k X.A)(hb:zCu X.K fd ps ds)(hd:dN dvs ds)(hx:zEI CX X E)
  (I:Inv X pins σ H s) (r:dN vs us) (h:sp (vs++dvs) H Q E):wpAny (model X.prog X.w) X.A (call (.ref f) us) (EP X pins σ Q) X.xe s:=by
 have r2:dN (vs++dvs) (us++ds):=r.append hd;have hl:(us++ds).length=ps.length:=by rw[<-r2.length];exact F.len _ _ _ _ h
 refine wpAny_call (codeAny_mono (F.run X.A X.stack s H ⟨us,[]⟩ (us++ds) (vs++dvs) Q E hr I.env0 (hb s us I.kIn hl) r2 h) fun r s' hq=>?_)
 cases r with
 | error e=>exact hx pins σ H s e s' I hq
 | ok fl=>
  cases fl with
  | ret u=>exact I.after hq
  | next=>exact False.elim hq
  | brk=>exact False.elim hq
  | cont=>exact False.elim hq
theorem zDA(F:FnOk X.prog X.w X.K X.mg X.base CX k f fd ps sp)(hr:Room k X.A)(hg:Gl X x)(hm:X.mg x=some (.ref f))(hk:PySem.W.keepIn X.K (.ref f)=true)(hb:zCu X.K fd ps ds)(hd:dN dvs ds)(hx:zEI CX X E)
  (ha:PA X (e::es) t) (hdb:(x==("__debug__" : Str))=false:=by decide) (he:starEach (e::es) X.env=(false,eval e X.env)::starEach es X.env:=by rfl) (hpl:(backTo pos (starEach es X.env)).any (·.1)=false:=by rfl):
  PE X (.Call (.Name x p) (e::es) [] pos) (zMa sp dvs E t):=by
 intro pins s σ H Q I h;refine wpAny_Call_Name_kw (zDk I hg hm ?_ hdb)
 refine PySem.W.callWith_K (h₀:=X.base) I.ok.mod.kin hk (thn (ha pos pins s σ H _ I h) fun us s1 ⟨vs,H1,I1,r,q⟩=>⟨I1.kIn,?_⟩) he hpl
 exact zOZ F hr hb hd hx I1 r q
end
section
variable{X:Cx}{CX:CXT}{k:Nat}{f C:Addr}{fd:FuncData}{ps ks:List Str}{sp:Sp}{E:XK}{x m:Str}{p pos apos kpos:Pos}{e o:Expr}{es:List Expr}{kws:List Keyword}{te ta:TE}{t tk:TA}{nm:Option Str}
variable{g:List Value->List Value->List Value}{gV:List V->List V->List V}
end
structure FnScope (N P:List Str) (sc:Scope):Prop where
 kind:sc.kind=.function
 co:sc.isCoroutine=false
 gen:sc.isGenerator=false
 nd:N.Nodup
 pre:N.take P.length=P
 par:∀ x∈P,sc.names.lookup x=some .local∨sc.names.lookup x=some .cell
 nofree:∀ y∈sc.names,y.2≠.free
theorem zBf{kindOf:Str->Option NameKind}{x:Str}:∀ {binds:List (Str×Value)} {m:Str->Option Value},(∀ v,(x,v)∉binds)->bindL kindOf binds m x=m x
 | [],_,_=>rfl
 | (n,v)::r,m,h=>by
  unfold bindL;rw[zBf fun w hw=>h w (Qc _ hw)];split
  ·have:x≠n:=by rintro rfl;exact h v Qb
   simp[this]
  ·rfl
theorem zBZ{kindOf:Str->Option NameKind}{x:Str}:∀ {binds:List (Str×Value)} {m:Str->Option Value},(∀ v,(x,v)∉binds)->bindC kindOf binds m x=m x
 | [],_,_=>rfl
 | (n,v)::r,m,h=>by
  unfold bindC;rw[zBZ fun w hw=>h w (Qc _ hw)];split
  ·rfl
  ·have:x≠n:=by rintro rfl;exact h v Qb
   simp[this]
theorem zBX{kindOf:Str->Option NameKind}{x:Str}{v:Value}:∀ {P:List Str} {vs:List Value} {i:Nat} {m:Str->Option Value},P.Nodup->P[i]?=some x->vs[i]?=some v->kindOf x=some .local->
  bindL kindOf (P.zip vs) m x=some v
 | [],_,_,_,_,h,_,_=>by simp at h
 | _::_,[],_,_,_,_,h,_=>by simp at h
 | p::P,w::vs,0,m,nd,h1,h2,hk=>by
  simp at h1 h2;subst h1;subst h2
  show bindL kindOf ((p,w)::P.zip vs) m p=_
  unfold bindL;rw[zBf fun v hv=>(VL.mp nd).1 (V0 hv).1,if_pos hk];simp
 | p::P,w::vs,i+1,m,nd,h1,h2,hk=>by
  show bindL kindOf ((p,w)::P.zip vs) m x=_
  unfold bindL;exact zBX (i:=i) (VL.mp nd).2 (by simpa using h1) (by simpa using h2) hk
theorem zBd{kindOf:Str->Option NameKind}{x:Str}{v:Value}:∀ {P:List Str} {vs:List Value} {i:Nat} {m:Str->Option Value},P.Nodup->P[i]?=some x->vs[i]?=some v->kindOf x≠some .local->
  bindC kindOf (P.zip vs) m x=some v
 | [],_,_,_,_,h,_,_=>by simp at h
 | _::_,[],_,_,_,_,h,_=>by simp at h
 | p::P,w::vs,0,m,nd,h1,h2,hk=>by
  simp at h1 h2;subst h1;subst h2
  show bindC kindOf ((p,w)::P.zip vs) m p=_
  unfold bindC;rw[zBZ fun v hv=>(VL.mp nd).1 (V0 hv).1,if_neg hk];simp
 | p::P,w::vs,i+1,m,nd,h1,h2,hk=>by
  show bindC kindOf ((p,w)::P.zip vs) m x=_
  unfold bindC;exact zBd (i:=i) (VL.mp nd).2 (by simpa using h1) (by simpa using h2) hk
def start(N:List Str)(vs:List V):St:=vs.map some++List.replicate (N.length-vs.length) none
def zFs(CX:CXT)(P:Program)(w:World)(K:PySem.W.Frag)(mg:Str->Option Value)(base:Heap)(N:List Str)(qual:Str)(scope:Scope)(f:Addr)(cd:Value)(A:Around)(outer:List Env)(s:Shared)(H:Hp)(E:XK):Cx where
 prog:=P
 w:=w
 K:=K
 mg:=mg
 base:=base
 A:=A.deeper (envOfC qual scope s.heap.objs.size f cd)
 N:=N
 s₀:=s
 H₀:=H
 env:=envOfC qual scope s.heap.objs.size f cd
 outer:=outer
 stack:=envOfC qual scope s.heap.objs.size f cd::outer
 ex:=[]
 calm:=true
 fn:=fun _=>true
 pn:=[]
 xe:=fun e s'=>wpAny (model P w) (A.deeper (envOfC qual scope s.heap.objs.size f cd)) (leaving (envOfC qual scope s.heap.objs.size f cd) e) (fun _ s''=>CX outer H s E e s'') (fun e' s''=>CX outer H s E e' s'') s'
theorem zEF{sc:Scope}{n:Nat}{x:Str}(h:sc.names.lookup x=some .cell):∃ c,(cellsFrom n sc.names []).lookup x=some c:=by
 have q:=YB sc.names n [] (.inl h);exact Option.isSome_iff_exists.mp q
theorem zGB{CX:CXT}{P:Program}{w:World}{K:Fg_}{mg:Str->Option Value}{base:Heap}{N ps:List Str}{qual:Str}{scope:Scope}{f:Addr}{cd:Value}{A:Around}{outer:List Env}{s s1:Shared}{H:Hp}{E:XK}{us:List Value}{vs:List V}
  (S:FnScope N ps scope) (hd:A.handled=none) (e0:Env0 P w K mg base A outer s H) (hl:vs.length=ps.length) (r:dN vs us)
  (x:InCallC s s.heap.objs.size (bindL (envOfC qual scope s.heap.objs.size f cd).kindOf (ps.zip us) fun _=>none) (cellsFrom (s.heap.objs.size+1) scope.names []) (bindC (envOfC qual scope s.heap.objs.size f cd).kindOf (ps.zip us) fun _=>none) s1):
  Inv (zFs CX P w K mg base N qual scope f cd A outer s H E) [] (start N vs) H s1:=by
 have hpl:ps.length<=N.length:=by have:=congrArg List.length S.pre;rw[Vt] at this;omega
 obtain⟨h1,tk,rfl,hk⟩:=x.done;have noA:∀ b:Addr,b∉(zFs CX P w K mg base N qual scope f cd A outer s H E).ex:=fun b z=>absurd (show b∈([]:List Addr) from z) (by simp)
 refine⟨⟨e0.mod,S.kind,rfl,rfl,Qf _,fun y z c h1 h2=>?_,fun y hy=>?_,fun y c _ h=>?_,fun _=>hd,Around.frames_deeper e0.frames,.inr ⟨rfl,rfl⟩,fun b z=>absurd z (noA b),e0.bs,e0.bsz,fun b _ _=>noA b,fun b z=>absurd z (noA b),e0.funs,e0.frf⟩,
  rfl,e0.bare,Un.kept hk,⟨_,x.toInCall.ns,fun i y v h1 h2 h3=>?_⟩,fun y c h=>⟨_,x.cell y c h⟩,e0.hok.fresh (Qf _),fun y c h=>?_,fun p hp=>absurd (show p∈([]:List (Addr×Obj)) from hp) (by simp),e0.hok.kept hk,?_⟩
 ·exact name_of_addr x.apart (Vz h1) (Vz h2)
 ·have hy:scope.names.lookup y=some .cell∨scope.names.lookup y=some .free:=hy
  rcases hy with hy | hy
  ·exact zEF hy
  ·exact absurd rfl (S.nofree _ (Vz hy))
 ·exact Vs (x.above y c (Vz h))
 ·have hi:i<vs.length:=by
   unfold start at h2;by_cases hi:i<vs.length
   ·exact hi
   ·rw[QX (by simpa using hi)] at h2
    rw[Xm] at h2;split at h2<;>cases h2
  have ha:vs[i]?=some v:=by
   unfold start at h2;rw[QO (by simpa using hi),Qr] at h2
   cases e:vs[i]? with
   | none=>rw[e] at h2;cases h2
   | some a=>rw[e] at h2;cases h2;rfl
  obtain⟨u,hu,rv⟩:=r.get ha
  have hp:ps[i]?=some y:=by
   rw[<-S.pre,List.getElem?_take_of_lt (by omega)];exact h1
  have ndP:ps.Nodup:=by rw[<-S.pre];exact S.nd.sublist (List.take_sublist _ _)
  refine⟨u,rv,?_⟩
  rcases S.par y (Qm hp) with k | k
  ·exact .inl ⟨k,zBX ndP hp hu k⟩
  ·obtain⟨c,e⟩:=zEF (n:=s.heap.objs.size+1) k
   refine .inr ⟨.inl k,c,e,?_⟩
   have q:=x.cell y c e;rw[zBd ndP hp hu (by show scope.names.lookup y≠_;rw[k];decide)] at q;exact q
 ·exact e0.hok.fresh (Vs (x.above y c (Vz h)))
 ·unfold start
  show _=N.length
  rw[Qi,Qd,VM];omega
theorem zPq{CX:CXT}{P:Program}{w:World}{K:Fg_}{mg:Str->Option Value}{base:Heap}{k:Nat}{f:Addr}{name qual:Str}{params:Arguments}{body:List Stmt}{scope:Scope}{dV kV doc pm cdv ct oc:Value}{an od:Option Addr}
  {osl:Array (Option Value)} {N ps:List Str} {sp:Sp} (lk:K.lookup f=some ⟨oc,od,.func (PySem.W.fnOf name qual params body scope dV kV doc pm an cdv ct),osl⟩) (hcd:PySem.W.codeIn K cdv qual=true) (S:FnScope N ps scope)
  (len:∀ vs H Q E,sp vs H Q E->vs.length=ps.length)
  (hbody:∀(A:Around)(outer:List Env)(s:Shared)(H:Hp)(vs:List V)(Q:VK)(E:XK),Room k (A.deeper (envOfC qual scope s.heap.objs.size f cdv))->sp vs H Q E->
   ∃ t,PSs (zFs CX P w K mg base N qual scope f cdv A outer s H E) body t/\t { nx:=fun _ H'=>Q .non H',rt:=Q } (start N vs) H):
  FnOk P w K mg base CX (k+1) f (PySem.W.fnOf name qual params body scope dV kV doc pm an cdv ct) ps sp:=by
 refine⟨len,fun A outer s H args us vs Q E hr e0 hb r hsp=>?_⟩
 have hl:=len _ _ _ _ hsp;have KX:K.In s.heap:=e0.mod.kin.keeps fun b o e=>(e0.bs b o e).1
 have lim:s.heap.NoLimit:=e0.mod.nolimit.keeps fun b o e=>(e0.bs b o e).1
 have hkind:∀ y∈ps.zip us,scope.names.lookup y.1=some .local∨(scope.names.lookup y.1=some .cell/\((cellsFrom (s.heap.objs.size+1) scope.names []).lookup y.1).isSome=true):=fun ⟨n,v⟩ hy=>by
  rcases S.par n (V0 hy).1 with q | q
  ·exact .inl q
  ·exact .inr ⟨q,YB _ _ _ (.inl q)⟩
 refine codeAny_call_function hr.depth (KX _ _ lk) rfl S.co S.gen rfl (PySem.W.codeRec_of KX hcd) (hb _ _ _ _ ?_)
 refine wpAny_newFunctionEnv_cells S.kind hkind fun env he s1 x=>?_
 subst he;refine⟨lim.keeps x.toInCall.keep,codeAny_func ?_⟩
 obtain⟨t,ht,hq⟩:=hbody A outer s H vs Q E (hr.deeper _) hsp;have I:Inv (zFs CX P w K mg base N qual scope f cdv A outer s H E) [] (start N vs) H s1:=zGB S hr.hd e0 hl r x;refine wpAny_mono (ht [] s1 (start N vs) H _ I hq) (fun fl s' hs=>?_) fun e s' hs=>hs
 have fin:∀ {σ':St} {H':Hp} {v:V} {u:Value},Inv (zFs CX P w K mg base N qual scope f cdv A outer s H E) [] σ' H' s'->cV v u->Q v H'->CE outer P w H s Q u s':=
  fun {σ' H' v u} J rv q=>⟨v,H',J.os,J.bare,J.base,J.hok,rv,q⟩
 cases fl with
 | ret u=>
  obtain⟨v,σ',H',J,rv,q⟩:=hs;exact fin J rv q
 | next=>
  obtain⟨σ',H',J,q⟩:=hs;exact fin (v:=V.non) (u:=Value.none) J rfl q
 | brk=>
  obtain⟨_,_,_,q⟩:=hs;exact False.elim q
 | cont=>
  obtain⟨_,_,_,q⟩:=hs;exact False.elim q
section
variable{X:Cx}{x:Str}{p pos:Pos}{e:Expr}{es:List Expr}{t:TA}{id T:String}{r:List V->Hp->VK->Prop}
abbrev tCB(r:List V->Hp->VK->Prop)(t:TA):TE:=fun σ H Q=>t σ H fun vs H1=>r vs H1 Q
theorem zES(hc:vA X (.builtin id) r)(hg:Gl X x)(hm:X.mg x=none)(hv:bootBuiltins x=some (.builtin id))(ha:PA X (e::es) t)(hn:x ≠ "__name__" := by decide)(hdb:(x==("__debug__" : Str))=false:=by decide)
  (he:starEach (e::es) X.env=(false,eval e X.env)::starEach es X.env:=by rfl) (hpl:(backTo pos (starEach es X.env)).any (·.1)=false:=by rfl):PE X (.Call (.Name x p) (e::es) [] pos) (tCB r t):=by
 intro pins s σ H Q I h;refine wpAny_Call_Name_kw (pO I hg hm hv ?_ hn hdb)
 exact PyProof.Rows.callWith_builtin1 (thn (ha pos pins s σ H _ I h) fun us s1 ⟨vs,H1,I1,r1,q1⟩=>hc pins s1 σ H1 vs us Q I1 r1 q1) he hpl
theorem zGI(hc:vA X (.type T) r)(hg:Gl X x)(hm:X.mg x=none)(hv:bootBuiltins x=some (.type T))(ha:PA X (e::es) t)(hn:x ≠ "__name__" := by decide)(hdb:(x==("__debug__" : Str))=false:=by decide)
  (he:starEach (e::es) X.env=(false,eval e X.env)::starEach es X.env:=by rfl) (hpl:(backTo pos (starEach es X.env)).any (·.1)=false:=by rfl):PE X (.Call (.Name x p) (e::es) [] pos) (tCB r t):=by
 intro pins s σ H Q I h;refine wpAny_Call_Name_kw (pO I hg hm hv ?_ hn hdb)
 exact VZ (thn (ha pos pins s σ H _ I h) fun us s1 ⟨vs,H1,I1,r1,q1⟩=>hc pins s1 σ H1 vs us Q I1 r1 q1) he hpl
end
end L2
namespace HT
open PySem PyProof.Rows
section
open PySem.SeqAt
open PySem.AutoSeq1 (wpAny_loadPart')
open PySem.MeetsSeq PySem.MeetsSeq2 PySem.MeetsSeq3
end
section
variable{prog:Program}{w:World}{A:Around}{E:Value->Shared->Prop}{s:Shared}
theorem cat_tup{t b:Addr}{vs ws:List Value}{Q:Value->Shared->Prop}(ht:IsTup s.heap t vs.toArray)(hb:IsTup s.heap b ws.toArray)(hv:vs≠[])
  (h1:ws=[]->Q (.ref t) s) (h2:ws≠[]->Q (.ref s.heap.objs.size) { s with heap:=s.heap.push { cls:=.type "tuple", data:=.seq (vs++ws).toArray } })
  (hsz:vs.length+ws.length<=sizeLine):wpAny (model prog w) A (binaryOp .Add (.ref t) (.ref b)) Q E s:=by
 obtain⟨⟨cls,dd,data,sl⟩,ho,hc,n,hd⟩:=id ht;obtain⟨⟨cls2,dd2,data2,sl2⟩,ho2,hc2,n2,hd2⟩:=id hb;simp only at hc hd hc2 hd2
 subst hc hd hc2 hd2;have e:vs.toArray++ws.toArray=(vs++ws).toArray:=by simp
 by_cases hw:ws=[]
 ·exact concat_meets ⟨_,ho,rfl⟩ ⟨_,ho2,rfl⟩ noFill_tuple_add seq_tuple_add XO XQ (XR _ _)
   (tuple_addW1 t b vs.toArray ws.toArray n n2 dd dd2 sl sl2 (by simpa using hv) (by simp[hw])) ⟨ho,ho2,h1 hw⟩
 ·refine concat_meets ⟨_,ho,rfl⟩ ⟨_,ho2,rfl⟩ noFill_tuple_add seq_tuple_add XO XQ (XR _ _)
   (tuple_addW2 t b vs.toArray ws.toArray n n2 dd dd2 sl sl2 (by simpa using hv) (by simpa using hw) (by rw[Ql,Ql];exact hsz)) ⟨ho,ho2,?_⟩
  rw[e];exact h2 hw
def sIx(n d:Nat):Option Int->Nat
 | none=>d
 | some v=>if v<0 then (v+(n:Int)).toNat else min v.toNat n
end
end HT
namespace L2
open PySem PySem.Spec PyProof.Rows
abbrev TO:=St->Hp->(Option Int->Hp->Prop)->Prop
def PO(X:Cx)(e:Option Expr)(t:TO):Prop:=
 ∀(pins:List (Addr×Obj))(s:Shared)(σ:St)(H:Hp)(Q:Option Int->Hp->Prop),Inv X pins σ H s->t σ H Q->
  wpAny (model X.prog X.w) X.A (evalPart e X.env) (fun u s'=>∃ o H',Inv X pins σ H' s'/\IsPart u o/\Q o H') X.xe s
abbrev zMo:TO:=fun _ H Q=>Q none H
abbrev zQW(t:TE):TO:=fun σ H Q=>t σ H fun x H1=>∃ i,x=.int i/\Q (some i) H1
section
variable{X:Cx}{e:Expr}{te:TE}{lo hi:Option Expr}{tl th:TO}{pos p2:Pos}
theorem zLT:PO X none zMo:=by
 intro pins s σ H Q I h;rw[evalPart_none];exact wpAny_pure ⟨none,H,I,.none,h⟩
theorem zMz(h:PE X e te):PO X (some e) (zQW te):=by
 intro pins s σ H Q I hw;rw[evalPart_some];refine thn (h pins s σ H _ I hw) fun u s1 ⟨x,H1,I1,r1,q1⟩=>?_
 obtain⟨i,rfl,q⟩:=q1;obtain⟨t,rfl⟩:=r1;exact⟨some i,H1,I1,.int i t,q⟩
def SlR(X:Cx)(r:V->Option Int->Option Int->Hp->VK->Prop):Prop:=
 ∀(pins:List (Addr×Obj))(s:Shared)(σ:St)(H:Hp)(x:V)(v vl vu:Value)(lo hi:Option Int)(sl:Addr)(Q:VK),Inv X pins σ H s->cV x v->s.heap.IsSliceOf sl vl vu .none->IsPart vl lo->IsPart vu hi->r x lo hi H Q->
  ∃ T id,typeLookup (.type T) "__getitem__" = pure (some (.builtin id))/\s.TypeIs v T/\wpAny (model X.prog X.w) X.A (getItem v (.ref sl)) (EP X pins σ Q) X.xe s
abbrev tSl(r:V->Option Int->Option Int->Hp->VK->Prop)(te:TE)(tl th:TO):TE:=fun σ H Q=>te σ H fun x H1=>tl σ H1 fun l H2=>th σ H2 fun u H3=>r x l u H3 Q
theorem zJP{r:V->Option Int->Option Int->Hp->VK->Prop}(hr:SlR X r)(he:PE X e te)(hl:PO X lo tl)(hu:PO X hi th):PE X (.Subscript e (.Slice lo hi none p2) pos) (tSl r te tl th):=by
 intro pins s σ H Q I h;refine Subscript_ (thn (he pins s σ H _ I h) fun v s1 ⟨x,H1,I1,r1,q1⟩=>?_)
 refine wpAny_Slice (thn (hl pins s1 σ H1 _ I1 q1) fun vl s2 ⟨l,H2,I2,pl,q2⟩=>thn (hu pins s2 σ H2 _ I2 q2) fun vu s3 ⟨u,H3,I3,pu,q3⟩=>?_)
 rw[evalPart_none];refine wpAny_pure ?_
 have I4:Inv X pins σ H3 { s3 with heap:=s3.heap.push { cls:=.type "slice", data:=.fields #[vl,vu,.none] } }:=I3.kept (t':=s3.toks) fun b ob q=>Heap.get?_push_of_some _ q
 obtain⟨T,id,hT,ht,hg⟩:=hr pins { s3 with heap:=s3.heap.push { cls:=.type "slice", data:=.fields #[vl,vu,.none] } } σ H3 x v vl vu l u s3.heap.objs.size Q I4 r1 (Heap.IsSliceOf.new ..) pl pu q3;show wpAny (model X.prog X.w) X.A (subscriptTail e (.Slice lo hi none p2) v (.ref s3.heap.objs.size)) (EP X pins σ Q) X.xe { s3 with heap:=s3.heap.push { cls:=.type "slice", data:=.fields #[vl,vu,.none] } }
 exact tail_any (ops:=[.ref s3.heap.objs.size,v]) ht hT hg (by with_unfolding_all rfl)
def zOr(xs:List V)(lo hi:Option Int):List V:=(xs.drop (HT.sIx xs.length 0 lo)).take (HT.sIx xs.length xs.length hi-HT.sIx xs.length 0 lo)
theorem zDs(xs:List V)(lo hi:Option Int):(zOr xs lo hi).length<=xs.length:=by
 unfold zOr;rw[Vt,V3];omega
def zOD(K:PySem.W.Frag):R2:=fun x y H Q=>∃ a b xs ys,x=.ref a/\y=.ref b/\SqT K H a xs/\SqT K H b ys/\xs≠[]/\xs.length+ys.length<=sizeLine/\
 (ys=[]->Q (.ref a) H)/\(ys≠[]->∀ p,H p=none->Q (.ref p) (upd H p (.tup (xs++ys))))
theorem dN.nil_iff{xs:List V}{us:List Value}(r:dN xs us):us=[] ↔ xs=[]:=by
 cases r with
 | nil=>simp
 | cons _ _=>simp
theorem zMs:OpR X (binaryOp .Add) (zOD X.K):=by
 intro pins s σ H x y v u Q I rx ry h;obtain⟨a,b,xs,ys,rfl,rfl,ha,hb,hx,hz,q1,q2⟩:=h;cases rx;cases ry;obtain⟨its,r1,p1,_⟩:=I.tuple ha;obtain⟨its2,r2,p2,_⟩:=I.tuple hb;refine HT.cat_tup p1 p2 (fun z=>hx (r1.nil_iff.mp z)) (fun z=>⟨.ref a,H,I,rfl,q1 (r2.nil_iff.mp z)⟩) (fun z=>?_) (by rw[<-r1.length,<-r2.length];exact hz)
 refine⟨.ref s.heap.objs.size,_,I.laid (t':=s.toks) (o:=.tup (xs++ys)) (fun b ob q=>Heap.get?_push_of_some _ q) (Qf _) ?_,rfl,q2 (fun w=>z (r2.nil_iff.mpr w)) _ (I.hok.fresh (Qf _))⟩
 exact⟨by rw[Qi];exact hz,_,r1.append r2,IsTup.new _ _⟩
end
def ixN(n:Nat)(i:Int):Option Nat:=if 0<=i then (if i<n then some i.toNat else none) else if -(n:Int)<=i then some (i+n).toNat else none
def atI{α:Type}(xs:List α)(i:Int):Option α:=(ixN xs.length i).bind fun j=>xs[j]?
theorem zHH{n:Nat}{i:Int}{j:Nat}(h:ixN n i=some j):seqIndex? i n=some j/\j<n/\-(n:Int)<=i/\i<n:=by
 unfold ixN at h;by_cases h0:0<=i
 ·rw[if_pos h0] at h
  by_cases h1:i<n
  ·rw[if_pos h1] at h
   have e:i.toNat=j:=QK h;exact⟨by rw[seqIndex_of h0 h1,e],by omega,by omega,h1⟩
  ·rw[if_neg h1] at h;cases h
 ·rw[if_neg h0] at h
  by_cases h1:-(n:Int)<=i
  ·rw[if_pos h1] at h
   have e:(i+n).toNat=j:=QK h;exact⟨by rw[seqIndex_neg (by omega) h1,e],by omega,h1,by omega⟩
  ·rw[if_neg h1] at h;cases h
theorem zIS{α:Type}{xs:List α}{i:Int}{v:α}(h:atI xs i=some v):∃ j,seqIndex? i xs.length=some j/\xs[j]?=some v/\j<xs.length/\-(xs.length:Int)<=i/\i<xs.length:=by
 unfold atI at h
 cases e:ixN xs.length i with
 | none=>rw[e] at h;cases h
 | some j=>
  rw[e] at h;obtain⟨h1,h2,h3,h4⟩:=zHH e;exact⟨j,h1,h,h2,h3,h4⟩
theorem zDd{α:Type}{xs:List α}{j:Nat}{v:α}(h:xs[j]?=some v):atI xs (j:Int)=some v:=by
 have hj:j<xs.length:=(Qz.mp h).1
 have e:ixN xs.length (j:Int)=some j:=by
  unfold ixN;rw[if_pos (by omega),if_pos (by omega)];simp
 unfold atI;rw[e];exact h
def zDG(b:Expr):Prop:=∀ o i,subscripted b false o i=operate [o,i] (getItem o i)
def IxR(X:Cx)(r:R2):Prop:=
 ∀(value slice:Expr)(pins:List (Addr×Obj))(s:Shared)(σ:St)(H:Hp)(x y:V)(v u:Value)(Q:VK),Inv X pins σ H s->cV x v->cV y u->r x y H Q->
  subscripted slice false v u=operate [v,u] (getItem v u)->wpAny (model X.prog X.w) X.A (subscriptTail value slice v u) (EP X pins σ Q) X.xe s
def MtR(X:Cx)(id:String)(r:V->List V->Hp->VK->Prop):Prop:=
 ∀(pins:List (Addr×Obj))(s:Shared)(σ:St)(H:Hp)(x:V)(xs:List V)(v:Value)(us:List Value)(Q:VK),Inv X pins σ H s->cV x v->dN xs us->r x xs H Q->
  wpAny (model X.prog X.w) X.A (call (.builtin id) (v::us)) (EP X pins σ Q) X.xe s
section
variable{X:Cx}{a b:Expr}{ta tb:TE}{pos:Pos}
theorem IxR.or{r r':R2}(h:IxR X r)(h':IxR X r'):IxR X (fun x y H Q=>r x y H Q∨r' x y H Q):=by
 intro value slice pins s σ H x y v u Q I rx ry q hs;rcases q with q | q
 ·exact h value slice pins s σ H x y v u Q I rx ry q hs
 ·exact h' value slice pins s σ H x y v u Q I rx ry q hs
theorem zFV{r:R2}(hr:IxR X r)(ha:PE X a ta)(hb:PE X b tb)(hs:zDG b):PE X (.Subscript a b pos) (tOp r ta tb):=by
 intro pins s σ H Q I h;exact Subscript_ (zRy ha hb I h fun v u s2 x y H2 I2 rx ry q=>hr a b pins s2 σ H2 x y v u Q I2 rx ry q (hs _ _))
def zQP(K:PySem.W.Frag):R2:=fun x y H Q=>∃ p xs i v,x=.ref p/\y=.int i/\SqL K H p xs/\atI xs i=some v/\Q v H
def zQR(K:PySem.W.Frag):R2:=fun x y H Q=>∃ p xs i v,x=.ref p/\y=.int i/\SqT K H p xs/\atI xs i=some v/\Q v H
theorem zNj:IxR X (zQP X.K):=by
 intro value slice pins s σ H x y v u Q I rx ry h hs;obtain⟨p,xs,i,z,rfl,rfl,hq,he,q⟩:=h;cases rx;obtain⟨t,rfl⟩:=ry;obtain⟨its,r,pl,hz⟩:=I.list hq;obtain⟨j,h1,h2,h3,h4,h5⟩:=zIS he;obtain⟨w,ew,rw'⟩:=r.get h2;have hl:=r.length;have hn:=zEH;have fin:EP X pins σ Q w s:=⟨z,H,I,rw',q⟩;by_cases h0:0<=i
 ·have hj:i.toNat=j:=by
   rw[seqIndex_of h0 h5] at h1;exact QK h1
  exact item_listR pl.isList h0 (by omega) (by rw[hj];simpa using ew) fin hs
 ·have hj:(i+(its.toArray.size:Int)).toNat=j:=by
   rw[seqIndex_neg (by omega) h4] at h1;rw[Ql,<-hl];exact QK h1
  exact subscriptTail_builtinR (x:=w) pl.isList.typeIs slot_list_getitem.lookup
   (wpAny_getItem_list_neg (Q:=fun r s'=>r=w/\EP X pins σ Q r s') pl.isList (by omega) (by rw[Ql]<;>omega) (by omega) (by rw[hj];simpa using ew) ⟨rfl,fin⟩) hs
theorem zPs:IxR X (zQR X.K):=by
 intro value slice pins s σ H x y v u Q I rx ry h hs;obtain⟨p,xs,i,z,rfl,rfl,hq,he,q⟩:=h;cases rx;obtain⟨t,rfl⟩:=ry;obtain⟨its,r,pl,hz⟩:=I.tuple hq;obtain⟨j,h1,h2,h3,h4,h5⟩:=zIS he;obtain⟨w,ew,rw'⟩:=r.get h2;have hl:=r.length;have hn:=zEH;have fin:EP X pins σ Q w s:=⟨z,H,I,rw',q⟩
 exact subscriptTail_builtinR (x:=w) pl.typeIs slot_tuple_getitem.lookup
  (getItem_tuple (j:=j) (Q:=fun r s'=>r=w/\EP X pins σ Q r s') pl (by omega) (by omega) (by rw[Ql,<-hl];exact h1) (by simpa using ew) ⟨rfl,fin⟩) hs
theorem zFI(its:List Value)(n j:Nat)(u:Value):Obj.mapSeq (·.setIfInBounds j u) { cls:=.type "list", data:=.seq its.toArray n }={ cls:=.type "list", data:=.seq (its.set j u).toArray n }:=by
 simp[Obj.mapSeq]
theorem Inv.lst{pins:List (Addr×Obj)}{σ:St}{H:Hp}{s:Shared}{p:Addr}{xs:List V}(I:Inv X pins σ H s)(h:H p=some (.lst xs)):
  ∃(its:List Value)(n:Nat),dN xs its/\s.heap.get? p=some { cls:=.type "list", data:=.seq its.toArray n }/\xs.length<=sizeLine:=by
 obtain⟨z,its,n,r,e⟩:=I.hok p _ h;exact⟨its,n,r,e,z⟩
theorem Inv.lstUpd{pins:List (Addr×Obj)}{σ:St}{H:Hp}{s:Shared}{p:Addr}{xs ys:List V}{its its':List Value}{n n':Nat}{f:Obj->Obj}(I:Inv X pins σ H s)(h:H p=some (.lst xs))
  (ho:s.heap.get? p=some { cls:=.type "list", data:=.seq its.toArray n }) (hf:f { cls:=.type "list", data:=.seq its.toArray n }={ cls:=.type "list", data:=.seq its'.toArray n' }) (r:dN ys its') (hz:ys.length<=sizeLine) (t:Nat):
  Inv X pins σ (upd H p (.lst ys)) { s with heap:=s.heap.update p f,toks:=t }:=by
 have e:(s.heap.update p f).get? p=some { cls:=.type "list", data:=.seq its'.toArray n' }:=by
  rw[Heap.get?_update_self f ho (by rw[hf]<;>rfl),hf]
 refine I.write (x:=p) (e:=p) (by rw[h];trivial) (.inl rfl) (fun b u hb q=>(Heap.get?_update_other _ _ (Ne.symm hb)).trans q) ⟨_,e⟩ ?_
 exact⟨hz,its',n',r,e⟩
def zRK:V->V->V->Hp->(Hp->Prop)->Prop:=fun o i v H Q=>∃ p xs k j,o=.ref p/\i=.int k/\H p=some (.lst xs)/\ixN xs.length k=some j/\Q (upd H p (.lst (xs.set j v)))
theorem zKf:zSd X zRK:=by
 intro pins s σ H o i v ov iv u Q I ro ri rv h;obtain⟨p,xs,k,j,rfl,rfl,hp,hj,q⟩:=h;cases ro;obtain⟨t,rfl⟩:=ri;obtain⟨its,n,r,ho,hz⟩:=I.lst hp;obtain⟨h1,h2,h3,h4⟩:=zHH hj;have hl:=r.length;have hn:=zEH
 have I':Inv X pins σ (upd H p (.lst (xs.set j v))) { s with heap:=s.heap.update p (Obj.mapSeq (·.setIfInBounds j u)) }:=
  I.lstUpd hp ho (zFI its n j u) (r.set rv j) (by rw[QM];exact hz) s.toks
 by_cases h0:0<=k
 ·have hk:k.toNat=j:=by
   rw[seqIndex_of h0 h4] at h1;exact QK h1
  exact PySem.W.ki_setAt ho h0 (by omega) (by rw[Ql,<-hl];exact h4) (by rw[hk];exact⟨_,I',q⟩)
 ·have hk:(k+(its.toArray.size:Int)).toNat=j:=by
   rw[seqIndex_neg (by omega) h3] at h1;rw[Ql,<-hl];exact QK h1
  exact PySem.W.ki_setBack ho (by omega) (by rw[Ql,<-hl];exact h3) (by omega) (by rw[hk];exact⟨_,I',q⟩)
theorem zCd(lo hi:Option Int)(n:Nat):(sliceBounds lo hi none n).1=((HT.sIx n 0 lo:Nat):Int)/\(sliceBounds lo hi none n).2.1=((HT.sIx n n hi:Nat):Int)/\(sliceBounds lo hi none n).2.2=1:=by
 refine⟨?_,?_,rfl⟩
 ·cases lo with
  | none=>simp[sliceBounds,HT.sIx]
  | some i=>
   simp only[sliceBounds,HT.sIx,Option.getD_none,show(1:Int) > 0 by decide,if_true];by_cases h:i<0
   ·simp only[h,if_true]<;>omega
   ·simp only[h,if_false]<;>omega
 ·cases hi with
  | none=>simp[sliceBounds,HT.sIx]
  | some i=>
   simp only[sliceBounds,HT.sIx,Option.getD_none,show(1:Int) > 0 by decide,if_true];by_cases h:i<0
   ·simp only[h,if_true]<;>omega
   ·simp only[h,if_false]<;>omega
theorem yR(its:List Value)(lo hi:Option Int):slicePick its.toArray lo hi none=((its.drop (HT.sIx its.length 0 lo)).take (HT.sIx its.length its.length hi-HT.sIx its.length 0 lo)).toArray:=by
 obtain⟨h1,h2,h3⟩:=zCd lo hi its.toArray.size;unfold slicePick;rw[h1,h2,h3];simp only[sliceRange_one,pick_run,Ql]<;>rfl
def zSF(K:PySem.W.Frag):V->Option Int->Option Int->Hp->VK->Prop:=fun x lo hi H Q=>∃ a xs,x=.ref a/\SqL K H a xs/\∀ p,H p=none->Q (.ref p) (upd H p (.lst (zOr xs lo hi)))
theorem zOl:SlR X (zSF X.K):=by
 intro pins s σ H x v vl vu lo hi sl Q I rx hs pl pu h;obtain⟨a,xs,rfl,hx,q⟩:=h;cases rx;obtain⟨its,r,ht,hz⟩:=I.list hx;have hlen:=r.length;refine⟨"list", _,slot_list_getitem.lookup,ht.isList.typeIs,?_⟩
 refine wpAny_getItem_list_slice ht.isList hs pl pu .none (by simp) ?_ (by rw[Ql]<;>omega)
 rw[yR,<-hlen];refine⟨.ref s.heap.objs.size,_,I.laid (t':=s.toks) (o:=.lst (zOr xs lo hi)) (fun b ob q=>Heap.get?_push_of_some _ q) (Qf _) ?_,rfl,q _ (I.hok.fresh (Qf _))⟩
 exact⟨Qv (zDs xs lo hi) hz,_,0,(r.drop (HT.sIx xs.length 0 lo)).take (HT.sIx xs.length xs.length hi-HT.sIx xs.length 0 lo),Heap.get?_push_size _ rfl⟩
theorem aP:vA X (.builtin "len") (fun xs H Q=>∃ p ys,xs=[.ref p]/\(SqL X.K H p ys∨SqT X.K H p ys)/\Q (.int ys.length) H):=by
 intro pins s σ H xs us Q I r h;obtain⟨p,ys,rfl,hq,q⟩:=h;obtain⟨u,rfl,rx⟩:=zCy r;cases rx;have hn:=zEH;rcases hq with hq | hq
 ·obtain⟨its,r',pl,hz⟩:=I.list hq
  have hlen:=r'.length;exact Calls.call_len_list pl.isList (by simp only[Ql]<;>omega) ⟨.int ys.length,H,I.tok _,⟨s.toks+1,by rw[Ql,hlen]⟩,q⟩
 ·obtain⟨its,r',pl,hz⟩:=I.tuple hq
  have hlen:=r'.length;exact len_tuple pl (by simp only[Ql]<;>omega) ⟨.int ys.length,H,I.tok _,⟨s.toks+1,by rw[Ql,hlen]⟩,q⟩
theorem kO:vA X (.type "tuple") (fun xs H Q=>∃ p ys,xs=[.ref p]/\((SqL X.K H p ys/\∀ l,H l=none->Q (.ref l) (upd H l (.tup ys)))∨(SqT X.K H p ys/\Q (.ref p) H))):=by
 intro pins s σ H xs us Q I r h;obtain⟨p,ys,rfl,h⟩:=h;obtain⟨u,rfl,rx⟩:=zCy r;cases rx;rcases h with⟨hq,q⟩ | ⟨hq,q⟩
 ·obtain⟨its,r',pl,hz⟩:=I.list hq
  have hlen:=r'.length;refine call_tuple_list pl.isList (fun h' kp=>?_) (by simp only[Ql]<;>omega)
  have I1:Inv X pins σ H { s with heap:=h' }:=I.kept (t':=s.toks) kp
  have I2:Inv X pins σ (upd H h'.objs.size (.tup ys)) { s with heap:=h'.push { cls:=.type "tuple", data:=.seq its.toArray } }:=
   I1.laid (t':=s.toks) (fun b o e=>Heap.get?_push_of_some _ e) (Qf _) (show mK X.prog X.w _ _ _ (.tup ys) from ⟨hz,its,r',IsTup.new _ _⟩)
  exact⟨.ref h'.objs.size,_,I2,rfl,q _ (I1.hok.fresh (Qf _))⟩
 ·obtain⟨its,r',pl,hz⟩:=I.tuple hq
  exact call_tuple_same pl ⟨.ref p,H,I,rfl,q⟩
def tyV(K:PySem.W.Frag)(T:String)(x:V)(H:Hp):Prop:=match x with
 | .str _=>T = "str"
 | .int _=>T = "int"
 | .ref p=>(T = "list" /\ ∃ xs,SqL K H p xs)∨(T = "tuple" /\ ∃ o,K.lookup p=some o/\o.cls=.type "tuple" /\ o.dict=none)∨
   (T = "dict" /\ ((∃ kvs,H p=some (.dK kvs))∨∃ kvs,H p=some (.dT kvs)))∨(T = "set" /\ ∃ S n,H p=some (.set S n))
 | _=>False
theorem zLQ{pins:List (Addr×Obj)}{σ:St}{H:Hp}{s:Shared}{T:String}{x:V}{v:Value}(I:Inv X pins σ H s)(r:cV x v)(ty:tyV X.K T x H):
  s.TypeIs v T/\∀ a,v=.ref a->∃ ob,s.heap.get? a=some ob/\ob.dict=none:=by
 cases x with
 | str z=>
  obtain⟨t,rfl⟩:=r;cases (show T = "str" from ty)
  exact⟨typeIs_str s z t,fun _ e=>nomatch e⟩
 | int i=>
  obtain⟨t,rfl⟩:=r;cases (show T = "int" from ty)
  exact⟨typeIs_int s i t,fun _ e=>nomatch e⟩
 | ref p=>
  cases r;rcases ty with⟨rfl,xs,hq⟩ | ⟨rfl,o,hk,hc,hd⟩ | ⟨rfl,hk⟩ | ⟨rfl,S,n,hk⟩
  ·obtain⟨its,_,pl,_⟩:=I.list hq
   refine⟨pl.isList.typeIs,fun a e=>?_⟩
   cases e;obtain⟨o,n,e,c,hd,_⟩:=pl;exact⟨o,e,hd⟩
  ·refine⟨⟨o,I.kIn p o hk,hc⟩,fun a e=>?_⟩
   cases e;exact⟨o,I.kIn _ o hk,hd⟩
  ·have z:∃ o,s.heap.get? p=some o/\o.ExactDict:=by
    rcases hk with⟨kvs,hk⟩ | ⟨kvs,hk⟩
    ·obtain⟨_,_,_,_,o,_,_,e,ex,_⟩:=I.hok p _ hk
     exact⟨o,e,ex⟩
    ·obtain⟨_,_,_,_,o,_,_,e,ex,_⟩:=I.hok p _ hk
     exact⟨o,e,ex⟩
   obtain⟨o,e,ex⟩:=z;refine⟨⟨o,e,ex.1⟩,fun a e2=>?_⟩
   cases e2;exact⟨o,e,ex.2.1⟩
  ·obtain⟨o,_,_,_,e,ex,_⟩:=I.hok p _ hk
   refine⟨⟨o,e,ex.1⟩,fun a e2=>?_⟩
   cases e2;exact⟨o,e,ex.2.1⟩
 | _=>exact False.elim ty
abbrev zSQ(K:PySem.W.Frag)(T:String)(r:V->List V->Hp->VK->Prop)(to:TE):TE:=fun σ H Q=>to σ H fun x H1=>tyV K T x H1/\r x [] H1 Q
abbrev tBM(K:PySem.W.Frag)(T:String)(r:V->List V->Hp->VK->Prop)(to:TE)(t:TA):TE:=fun σ H Q=>to σ H fun x H1=>tyV K T x H1/\t σ H1 fun xs H2=>r x xs H2 Q
variable{o e:Expr}{es:List Expr}{to:TE}{t:TA}{name:Str}{apos cpos:Pos}{T id:String}{r:V->List V->Hp->VK->Prop}
theorem zOV(pa:PlainAttrs T)(slot:Slot T name id)(hty:typeOf (.builtin id)=pure (.type "method_descriptor"))(hm:MtR X id r)(ho:PE X o to)
  (hbase:attributeBase o name X.env (eval o X.env)=eval o X.env:=by rfl) (hline:(apos.endLine==cpos.line)=true:=by rfl):PE X (.Call (.Attribute o name apos) [] [] cpos) (zSQ X.K T r to):=by
 intro pins s σ H Q I h;refine wpAny_Call_method0_late hbase hline (thn (ho pins s σ H _ I h) fun v s1 ⟨x,H1,I1,r1,ty,q1⟩=>?_)
 obtain⟨h1,h2⟩:=zLQ I1 r1 ty;exact⟨T,id,pa,slot,hty,h1,h2,Calls.callWith_builtin rfl (PySem.evalArgs_none (hm pins s1 σ H1 x [] v [] Q I1 r1 .nil q1))⟩
theorem zMN(pa:PlainAttrs T)(slot:Slot T name id)(hty:typeOf (.builtin id)=pure (.type "method_descriptor"))(hm:MtR X id r)(ho:PE X o to)(ha:PA X (e::es) t)
  (hbase:attributeBase o name X.env (eval o X.env)=eval o X.env:=by rfl)
  (hfew:((backTo cpos (starEach (e::es) X.env)).all (fun x=>!x.1) && (backToKw cpos (keywordEach [] X.env)).all (fun x=>x.1.isSome)
   && decide ((e::es).length+([]:List Keyword).length+(if ([]:List Keyword).isEmpty then 0 else 1)<30))=true:=by rfl)
  (hline:(apos.endLine==cpos.line)=true:=by rfl) (hs:starEach (e::es) X.env=(false,eval e X.env)::starEach es X.env:=by rfl) (hplain:(backTo cpos (starEach es X.env)).any (·.1)=false:=by rfl):
  PE X (.Call (.Attribute o name apos) (e::es) [] cpos) (tBM X.K T r to t):=by
 intro pins s σ H Q I h;refine wpAny_Call_method_late hbase hfew hline rfl (thn (ho pins s σ H _ I h) fun v s1 ⟨x,H1,I1,r1,ty,q1⟩=>?_)
 obtain⟨h1,h2⟩:=zLQ I1 r1 ty;refine⟨T,id,pa,slot,hty,h1,h2,?_⟩
 have hA:=ha cpos pins s1 σ H1 _ I1 q1;rw[hs] at hA ⊢
 refine Calls.callWith_builtin (by show(false || (backTo cpos (starEach es X.env)).any (·.1))=false;rw[hplain]<;>rfl) (Calls.evalArgs_plain ?_)
 exact thn hA fun us s2 ⟨vs,H2,I2,r2,q2⟩=>hm pins s2 σ H2 x vs v us Q I2 r1 r2 q2
end
def MtM(X:Cx)(id:String)(r:V->List V->Hp->VK->Prop):Prop:=
 ∀(pins:List (Addr×Obj))(s:Shared)(σ:St)(H:Hp)(x:V)(xs:List V)(v:Value)(us:List Value)(Q:VK),Inv X pins σ H s->cV x v->dN xs us->r x xs H Q->
  wpAny (model X.prog X.w) X.A (call (.builtin id) (v::us)) (EP X pins σ Q) X.xe s
theorem dN.one:∀ {x:V} {us:List Value},dN [x] us->∃ u,us=[u]/\cV x u
 | _,_,.cons r .nil=>⟨_,rfl,r⟩
theorem dN.zero:∀ {us:List Value},dN [] us->us=[]
 | _,.nil=>rfl
theorem dN.dropLast{xs:List V}{us:List Value}(h:dN xs us):dN xs.dropLast us.dropLast:=by
 induction h with
 | nil=>exact .nil
 | cons r t ih=>
  cases t with
  | nil=>exact .nil
  | cons q t'=>exact .cons r ih
theorem dN.rep{xs:List V}{us:List Value}(h:dN xs us):∀ k:Nat,dN (List.replicate k xs).flatten (List.replicate k us).flatten
 | 0=>.nil
 | k+1=>by
  rw[VA,VA,VN,VN];exact dN.append h (dN.rep h k)
theorem zFx{α:Type}(l:List α):l.eraseIdx (l.length-1)=l.dropLast:=by
 induction l with
 | nil=>rfl
 | cons a r ih=>
  cases r with
  | nil=>rfl
  | cons b r=>
   have e:(a::b::r).length-1=((b::r).length-1)+1:=by
    have h1:(a::b::r).length=r.length+2:=rfl;have h2:(b::r).length=r.length+1:=rfl;omega
   rw[e,List.eraseIdx_cons_succ,ih]
   all_goals rfl
theorem zCw(its:List Value):∀(k:Nat)(acc:List Value),
  List.foldl (fun x1 x2=>x1++x2) acc.toArray (List.replicate k its.toArray)=(acc++(List.replicate k its).flatten).toArray
 | 0,acc=>by simp
 | k+1,acc=>by
  have e:acc.toArray++its.toArray=(acc++its).toArray:=by simp
  have e2:(acc++its)++(List.replicate k its).flatten=acc++(List.replicate (k+1) its).flatten:=by
   rw[VA,VN,Q4]
  rw[<-e2,<-zCw its k (acc++its),<-e,VA,XS]
section
variable{X:Cx}{pins:List (Addr×Obj)}{σ:St}{H:Hp}{s:Shared}{l b:Addr}{xs ys zs:List V}
theorem Inv.lset{its its':List Value}{n:Nat}{f:Array Value->Array Value}{t':Nat}(I:Inv X pins σ H s)(hH:H l=some (.lst xs))
  (e:s.heap.get? l=some { cls:=.type "list", data:=.seq its.toArray n }) (hf:f its.toArray=its'.toArray) (hv:dN ys its') (hz:ys.length<=sizeLine):
  Inv X pins σ (upd H l (.lst ys)) { s with heap:=s.heap.update l (Obj.mapSeq f),toks:=t' }:=by
 have q:=PySem.IsL.update e f;rw[hf] at q;refine I.write (x:=l) (e:=l) (by rw[hH];exact trivial) (.inl rfl) (fun b' u hb hu=>(Heap.get?_update_other s.heap (Obj.mapSeq f) (Ne.symm hb)).trans hu) ⟨_,q⟩ ?_
 exact⟨hz,its',_,hv,q⟩
theorem Inv.lnew{its:List Value}{t':Nat}(I:Inv X pins σ H s)(hv:dN ys its)(hz:ys.length<=sizeLine):
  Inv X pins σ (upd H s.heap.objs.size (.lst ys)) { s with heap:=s.heap.push { cls:=.type "list", data:=.seq its.toArray },toks:=t' }:=
 I.laid (fun _ _ q=>Heap.get?_push_of_some _ q) (Qf _) ⟨hz,its,0,hv,Heap.get?_push_size _ rfl⟩
theorem Inv.fresh(I:Inv X pins σ H s):H s.heap.objs.size=none:=I.hok.fresh (Qf _)
theorem Inv.lstM(I:Inv X pins σ H s)(hH:H l=some (.lst xs)):xs.length<=sizeLine/\∃(its:List Value)(n:Nat),dN xs its/\xs.length=its.length/\s.heap.get? l=some { cls:=.type "list", data:=.seq its.toArray n }:=by
 obtain⟨z,its,n,r,e⟩:=I.hok l _ hH;exact⟨z,its,n,r,r.length,e⟩
theorem zR{n:Nat}(h:n<=sizeLine):Builtin.List.listTooLong n=false:=by
 unfold Builtin.List.listTooLong;exact decide_eq_false (by omega)
end
section
variable{X:Cx}
def zMK:V->List V->Hp->VK->Prop:=fun x vs H Q=>∃ l xs y,x=.ref l/\vs=[y]/\H l=some (.lst xs)/\xs.length<sizeLine/\Q .non (upd H l (.lst (xs++[y])))
theorem uH:MtM X "list.append" zMK:=by
 intro pins s σ H x vs v us Q I rx rv h;obtain⟨l,xs,y,rfl,rfl,hH,hz,q⟩:=h;cases rx;obtain⟨u,rfl,ru⟩:=rv.one;obtain⟨z,its,n,r,hl,e⟩:=I.lstM hH;refine call_meets F.slot_list_append ⟨_,e,rfl⟩ F.entry_list_append (F.args_list_append_2 _ _) (PySem.list_append l its.toArray n u (by rw[Ql];omega)) ⟨e,?_⟩
 refine⟨.non,_,I.lset (its':=its++[u]) hH e (by simp) (r.append (.cons ru .nil)) ?_,rfl,q⟩
 rw[Qi,XT];omega
def zNl:V->List V->Hp->VK->Prop:=fun x vs H Q=>∃ l b xs zs,x=.ref l/\vs=[.ref b]/\H l=some (.lst xs)/\H b=some (.lst zs)/\xs.length+zs.length<=sizeLine/\Q .non (upd H l (.lst (xs++zs)))
theorem zID:MtM X "list.extend" zNl:=by
 intro pins s σ H x vs v us Q I rx rv h;obtain⟨l,b,xs,zs,rfl,rfl,hH,hB,hz,q⟩:=h;cases rx;obtain⟨u,rfl,ru⟩:=rv.one;cases ru;obtain⟨z,its,n,r,hl,e⟩:=I.lstM hH;obtain⟨z2,its2,n2,r2,hl2,e2⟩:=I.lstM hB;have hsz:its.toArray.size+its2.toArray.size<=sizeLine:=by rw[Ql,Ql];omega
 have hlong:¬ (!its.toArray.isEmpty && Builtin.List.listTooLong (its.toArray.size+its2.toArray.size))=true:=by
  rw[zR hsz,XU];exact VY
 refine call_meets F.slot_list_extend ⟨_,e,rfl⟩ F.entry_list_extend (F.args_list_extend_2 _ _)
  (AutoSeq1.list_extend_list_list_0 l its.toArray n b its2.toArray n2 hlong (by rw[Ql];omega) (by omega)) ⟨e,e2,?_⟩
 refine⟨.non,_,I.lset (its':=its++its2) hH e (by simp) (r.append r2) ?_,rfl,q⟩
 rw[Qi];omega
def zSO:V->List V->Hp->VK->Prop:=fun x vs H Q=>∃ l xs y,x=.ref l/\vs=[]/\H l=some (.lst xs)/\xs[xs.length-1]?=some y/\Q y (upd H l (.lst xs.dropLast))
theorem zQG:MtM X "list.pop" zSO:=by
 intro pins s σ H x vs v us Q I rx rv h;obtain⟨l,xs,y,rfl,rfl,hH,hy,q⟩:=h;cases rx;have hus:=rv.zero;subst hus;obtain⟨z,its,n,r,hl,e⟩:=I.lstM hH;obtain⟨u,hu,ru⟩:=r.get hy
 have hy':its.toArray[its.toArray.size-1]?=some u:=by
  show its.toArray[its.length-1]?=some u
  rw[<-XV,<-hl];exact hu
 refine call_meets F.slot_list_pop ⟨_,e,rfl⟩ F.entry_list_pop (F.args_list_pop_1 _) (MeetsSeq.list_pop_last l its.toArray n u hy' (by rw[Ql];omega)) ⟨e,?_⟩
 refine⟨y,_,I.lset (its':=its.dropLast) hH e ?_ r.dropLast ?_,ru,q⟩
 ·show its.toArray.eraseIdxIfInBounds (its.toArray.size-1)=its.dropLast.toArray
  rw[Ql,List.eraseIdxIfInBounds_toArray,zFx]
 ·rw[List.length_dropLast]
  omega
def zSS:R2:=fun x y H Q=>∃ l k xs,x=.ref l/\y=.int k/\H l=some (.lst xs)/\-(2^63)<=k/\k<2^63/\xs.length*k.toNat<=sizeLine/\
 ∀ p,H p=none->Q (.ref p) (upd H p (.lst (List.replicate k.toNat xs).flatten))
theorem zMx{α:Type}(xs:List α)(k:Nat):(List.replicate k xs).flatten.length=k*xs.length:=by
 induction k with
 | zero=>simp
 | succ k ih=>rw[VA,VN,Qi,ih,Nat.succ_mul,Nat.add_comm]
theorem zPl:OpR X (binaryOp .Mult) zSS:=by
 intro pins s σ H x y v u Q I rx ry h;obtain⟨l,k,xs,rfl,rfl,hH,h1,h2,hz,q⟩:=h;cases rx;obtain⟨t,rfl⟩:=ry;obtain⟨z,its,n,r,hl,e⟩:=I.lstM hH;have hlen:its.toArray.size*k.toNat<=sizeLine:=by rw[Ql,<-hl];exact hz
 have hcap:¬ its.toArray.size*k.toNat > (2^63-1) / 8:=by
  have:(sizeLine:Nat)<=(2^63-1) / 8:=by decide
  omega
 have hfit:¬ (!Builtin.List.listFitsIndex k)=true:=by
  rw[fitsIndex_both h1 h2];exact VY
 have hlong:¬ Builtin.List.listTooLong (its.toArray.size*k.toNat)=true:=by
  rw[zR hlen];exact VY
 have hnew:List.foldl (fun x1 x2=>x1++x2) #[] (List.replicate (if its.toArray.isEmpty=true then 0 else k.toNat) its.toArray)=(List.replicate k.toNat its).flatten.toArray:=by
  have f0:∀ m:Nat,List.foldl (fun x1 x2=>x1++x2) #[] (List.replicate m its.toArray)=(List.replicate m its).flatten.toArray:=fun m=>by
   have:=zCw its m []
   rw[VB] at this;exact this
  rw[f0]
  cases its with
  | nil=>simp
  | cons a r'=>rw[if_neg (by simp)]
 refine wpAny_binaryOp_repeat_ref (T := "list") (U := "int") (by decide) ⟨_,e,rfl⟩ (fun s'=>typeIs_int s' k t) noFill_list_mul F.fills_int_mul F.slot_int_rmul repeat_list F.slot_int_index.lookup
  (call_meets F.slot_int_rmul (typeIs_int s k t) F.entry_int_rmul (F.args_int_rmul_2 _ _) (int___rmul___int_list k t l its.toArray n)
   ⟨e,rfl,⟨_,e,rfl⟩,call_meets F.slot_list_mul ⟨_,e,rfl⟩ F.entry_list_mul (F.args_list_mul_2 _ _) (AutoListH.list___mul___list_int_3 l its.toArray n k t hfit hcap hlong) ⟨e,?_⟩⟩)
 rw[hnew];exact⟨.ref _,_,I.lnew (t':=s.toks) (r.rep k.toNat) (by rw[zMx,Nat.mul_comm];exact hz),rfl,q _ I.fresh⟩
end
section
variable{prog:Program}{w:World}{A:Around}{E:Value->Shared->Prop}{s:Shared}
set_option maxRecDepth 100000 in
end
section
variable{X:Cx}
end
end L2
namespace Att
open PySem PySem.W PySem.Calls PyProof.Rows
theorem tT{P:Params}{h:Heap}:∀(ns:List Int)(vs:List Value),WellAll P h vs (ns.map WData.int)->IntsAre vs ns:=by
 intro ns
 induction ns with
 | nil=>
  intro vs w;rw[Vm] at w;cases w;exact .nil
 | cons n ns ih=>
  intro vs w;rw[Qq] at w
  cases w with
  | cons a b=>
   cases a;exact .cons _ _ (ih _ b)
theorem script_of{l:OpenLaw}{n:Nat}(hn:l.most=some n){P:Params}{h:Heap}{args:List WData}{vals:List Value}
  (hpre:l.row.toRowW.claim.pre args=true) (hwl:WellAll P h vals args):
  ∃ a vs ns,vals=[Value.ref a]/\args=[WData.list (ns.map WData.int)]/\h.get? a=some { cls:=.type "list", data:=.seq vs.toArray }/\IntsAre vs ns/\ns.length<=n:=by
 have hsh:WShape.hasAll [] args [.list .int]=true:=(pre_splitW hpre).1;have hc:l.pre.holds [] { args:=args }=true:=(pre_splitW hpre).2;obtain⟨d,r,rfl,h1,h2⟩:=hasAllW_cons hsh;obtain rfl:=hasAllW_nil h2;obtain⟨xs,rfl,h3⟩:=hasW_list h1;obtain⟨ns,rfl⟩:=items_int h3
 have hlen:ns.length<=n:=by
  unfold OpenLaw.pre at hc
  have h4:(WTm.not (.lt (.lit (.int (n:Int))) (.len (.arg 0)))).holds [] { args:=[.list (ns.map .int)] }=true:=by
   have h4:=(holds_andW hc).1;rw[hn] at h4;exact h4
  have h5:=condW_of h4 (w_not (w_lt w_lit (w_len_list (w_arg rfl))));rw[Qd] at h5;refine Nat.le_of_not_lt fun q=>?_
  have q':(n:Int)<((ns.length:Nat):Int):=by omega
  first
   | (rw[decide_eq_true q'] at h5;exact absurd h5 (by decide))
   | (simp at h5;omega)
 cases hwl with
 | cons w1 w2=>
  cases w2
  cases w1 with
  | list ho hall=>exact⟨_,_,ns,rfl,rfl,ho,tT ns _ hall,hlen⟩
theorem post_true(l:OpenLaw)(args:List WData):l.row.toRowW.claim.post args (.bool true) args=true:=
 postW_of (r:=l.row.toRowW) (X:=(true==true))
  (show WShape.has [] (.bool true) .bool=true by first | rfl | decide | simp[WShape.has,WShape.arms,WShape.armsAll])
  (show(WTm.eq .res (.lit (.bool true))).value [] { args:=args,res:=some (.bool true),after:=args }=some (.bool (true==true)) from w_eq_bool (w_res rfl) w_lit) rfl
section
variable{prog:Program}{w:World}{A:Around}{E:Value->Shared->Prop}{s:Shared}{K:Frag}
end
end Att
namespace L2
open PySem PySem.Spec PyProof.Rows
theorem zBF:∀ {vs:List Value} {ns:List Int},IntsAre vs ns->dN (ns.map V.int) vs
 | _,_,.nil=>.nil
 | _,_,.cons n t h=>.cons ⟨t,rfl⟩ (zBF h)
def zSP(H:Hp):Prop:=∀ b,H b=none∨∃ o xs,H b=some (.frz o (.lst xs))
def jT(s:Stmt):Arguments:=match s with
 | .FunctionDef _ a _ _ _ _ _ _ _ _=>a
 | _=>{ posonlyargs:=[],args:=[],vararg:=none,kwonlyargs:=[],kw_defaults:=[],kwarg:=none,defaults:=[] }
def fS(s:Stmt):List Stmt:=match s with
 | .FunctionDef _ _ b _ _ _ _ _ _ _=>b
 | _=>[]
def aH(s:Stmt):Scope:=match s with
 | .FunctionDef _ _ _ _ _ _ sc _ _ _=>sc
 | _=>{ kind:=.function,names:=[],isGenerator:=false,isCoroutine:=false }
structure Fun (K:PySem.W.Frag) (x qual:Str) (st:Stmt) (f:Addr) (fd:FuncData):Prop where
 ex:∃(oc:Value)(od:Option Addr)(kV doc pm:Value)(an:Option Addr)(cdv ct:Value)(osl:Array (Option Value)),
  fd=PySem.W.fnOf x qual (jT st) (fS st) (aH st) .none kV doc pm an cdv ct/\K.lookup f=some ⟨oc,od,.func fd,osl⟩/\PySem.W.codeIn K cdv qual=true
 kp:PySem.W.keepIn K (.ref f)=true
section
variable{P:Program}{w:World}{K:Fg_}{mg:Str->Option Value}{base:Heap}
theorem Fun.binds{x qual:Str}{st:Stmt}{f:Addr}{fd:FuncData}{ps:List Str}(F:Fun K x qual st f fd)
  (h:∀(kV doc pm:Value)(an:Option Addr)(cdv ct:Value)(us:List Value),us.length=ps.length->bindArgs (PySem.W.fnOf x qual (jT st) (fS st) (aH st) .none kV doc pm an cdv ct) ⟨us,[]⟩=pure (ps.zip us)):zCu K fd ps []:=by
 obtain⟨oc,od,kV,doc,pm,an,cdv,ct,osl,rfl,lk,hcd⟩:=F.ex;exact .all (h kV doc pm an cdv ct)
theorem yF{x qual:Str}{st:Stmt}{f:Addr}{oc:Value}{od an:Option Addr}{osl:Array (Option Value)}{kV doc pm cdv ct:Value}(l:K.lookup f=some ⟨oc,od,.func (PySem.W.fnOf x qual (jT st) (fS st) (aH st) .none kV doc pm an cdv ct),osl⟩)
  (c:PySem.W.codeIn K cdv qual=true) (k:PySem.W.keepIn K (.ref f)=true):Fun K x qual st f (PySem.W.fnOf x qual (jT st) (fS st) (aH st) .none kV doc pm an cdv ct):=⟨⟨oc,od,kV,doc,pm,an,cdv,ct,osl,rfl,l,c⟩,k⟩
end
section
variable{X:Cx}
theorem pv(i:Nat){x:Str}{pos:Pos}(hN:X.N[i]?=some x:=by rfl)(hv:Vis X.env.scope x:=by first | exact Or.inl rfl | exact Or.inr (Or.inl rfl) | exact Or.inr (Or.inr rfl))(hd:(x==("__debug__" : Str))=false:=by decide)
  (hcd:(x==("__classdict__" : Str))=false:=by decide):PE X (.Name x pos) (zDu i):=wG hN hv hd hcd
end
def Same(H H':Hp):Prop:=∀ b o,H b=some o->H' b=some o
theorem Same.refl(H:Hp):Same H H:=fun _ _ h=>h
theorem Same.trans{H H1 H2:Hp}(a:Same H H1)(b:Same H1 H2):Same H H2:=fun c o h=>b c o (a c o h)
end L2
set_option maxHeartbeats 4000000
set_option exponentiation.threshold 20000
namespace L2
open PySem PySem.Spec PyProof.Rows
section
variable{X:Cx}
variable{tg:Expr}
end
section
variable{P:Program}{w:World}{H H':Hp}{h:Heap}{a:Addr}{o:HO}
theorem mK.here(x:mK P w H h a o):∃ ob,h.get? a=some ob:=by
 cases o with
 | lst xs=>obtain⟨_,_,_,_,e⟩:=x;exact⟨_,e⟩
 | tup xs=>obtain⟨_,_,_,e⟩:=x;obtain⟨ob,e,_⟩:=e;exact⟨_,e⟩
 | dK kvs=>obtain⟨_,_,_,_,e⟩:=x;obtain⟨ob,_,_,e,_⟩:=e;exact⟨_,e⟩
 | dT kvs=>obtain⟨_,_,_,_,ob,_,_,e,_⟩:=x;exact⟨_,e⟩
 | set S n=>obtain⟨ob,_,_,_,e,_⟩:=x;exact⟨_,e⟩
 | ins C dx fs=>obtain⟨_,_,_,e,_⟩:=x;exact⟨_,e⟩
 | own y=>exact x
 | xd fs=>obtain⟨_,⟨ob,_,_,e,_⟩,_⟩:=x;exact⟨_,e⟩
 | met f y=>exact⟨_,x⟩
 | rng lo hi=>obtain⟨_,_,_,e⟩:=x;exact⟨_,e⟩
 | frz ob u=>exact⟨_,x.1⟩
 | tbl ps=>exact⟨_,x⟩
 | ext φ=>exact x.2.1
theorem HOk.none_of(ok:HOk P w H h)(e:h.get? a=none):H a=none:=by
 cases q:H a with
 | none=>rfl
 | some o=>
  obtain⟨ob,z⟩:=(ok a o q).here;rw[e] at z;cases z
end
structure Fly (P:Program) (w:World) (l:List Env) (H H':Hp) (s:Shared) (ea:Addr) (cls:Value) (s':Shared):Prop where
 os:s'.os=s.os
 bare:AllBare s'.gens
 un:Un (frs l) [] H H' s.heap s'.heap
 hok:HOk P w H' s'.heap
 ne:H' ea=none
 new:s.heap.get? ea=none
 fly:∃ B a0,Heap.FlyingW B l ea cls a0 s'.heap/\(∀ b o,s'.heap.get? b=some o->((∃ o',s.heap.get? b=some o')∨H' b≠none)->b∉frs l->B.get? b=some o)
def CX1(P:Program)(w:World):CXT:=fun outer H s E e s'=>∃ ea cls H',e=.ref ea/\Fly P w outer H H' s ea cls s'/\E cls none H'
structure Own (X:Cx):Prop where
 stk:X.stack=X.env::X.outer
 fr:X.env.frame=some X.env.locals
 ex:X.ex=[]
section
variable{X:Cx}{pins:List (Addr×Obj)}{σ:St}{H H':Hp}{s s':Shared}{ea:Addr}{cls:Value}
theorem zEs(O:Own X):frs X.stack=X.env.locals::X.fs:=by
 rw[O.stk];show List.filterMap _ (_::_)=_
 rw[Xk,O.fr];rfl
theorem Inv.there0(I:Inv X pins σ H s)(O:Own X){b:Addr}{o:Obj}(e:X.s₀.heap.get? b=some o):∃ o',s.heap.get? b=some o':=I.base.there b o e (by rw[O.ex];simp)
theorem Inv.ne0(I:Inv X pins σ H s){b:Addr}{o:Obj}(e:X.s₀.heap.get? b=some o):b≠X.env.locals:=Qt (Qs (Heap.lt_size e) I.ok.above)
theorem Fly.leave(I:Inv X pins σ H s)(O:Own X)(F:Fly X.prog X.w X.stack H H' s ea cls s'){h':Heap}{B:Heap}{a0:Value}
  (hf:Heap.FlyingW B X.stack ea cls a0 s'.heap) (cov:∀ b o,s'.heap.get? b=some o->((∃ o',s.heap.get? b=some o')∨H' b≠none)->b∉frs X.stack->B.get? b=some o)
  (hf':Heap.FlyingW B X.outer ea cls a0 h') (up:s'.heap.UpToSlots h'):Fly X.prog X.w X.outer X.H₀ H' X.s₀ ea cls { s' with heap:=h' }:=by
 have fst:frs X.stack=X.env.locals::X.fs:=zEs O;have nin:∀ {b:Addr},b≠X.env.locals->b∉X.fs->b∉frs X.stack:=fun h1 h2=>by rw[fst];simp[h1,h2]
 have trk:∀ {b:Addr},H' b≠none->b∉frs X.stack:=fun {b} hb hm=>by
  have h1:=I.stkFree b hm;obtain⟨_,o,ho,_⟩:=I.stack.mem hm;exact hb (F.un.free b o ho h1 (by simp))
 have keepB:∀ {b:Addr} {o:Obj},s'.heap.get? b=some o->((∃ o',s.heap.get? b=some o')∨H' b≠none)->b∉frs X.stack->h'.get? b=some o:=fun e1 e2 e3=>hf'.1 _ _ (cov _ _ e1 e2 e3)
 have slotOf:∀ {b:Addr} {o:Obj},b∈frs X.stack->s'.heap.get? b=some o->∃ sl,h'.get? b=some { o with slots:=sl }:=fun {b o} hm e=>by
  obtain⟨_,o',ho',hn⟩:=hf.2.2.1.mem hm;rw[e] at ho';cases ho'
  exact up b o e hn
 refine⟨F.os.trans I.os,F.bare,⟨?_,?_,?_,?_,?_,?_,?_⟩,?_,F.ne,?_,⟨B,a0,hf',?_⟩⟩
 ·intro b o e n hb hx
  have e1:=I.base.keep b o e n hb (by rw[O.ex];simp)
  have n1:=I.base.free b o e n (by rw[O.ex];simp)
  have hs:b∉frs X.stack:=nin (I.ne0 e) hb;exact keepB (F.un.keep b o e1 n1 hs (by simp)) (.inl ⟨o,e1⟩) hs
 ·intro b o e n hb hx
  obtain⟨sl,e1⟩:=I.base.slot b o e n hb (by rw[O.ex];simp)
  have n1:=I.base.free b o e n (by rw[O.ex];simp)
  have hs:b∈frs X.stack:=by rw[fst];exact Qc _ hb
  obtain⟨sl2,e2⟩:=F.un.slot b _ e1 n1 hs (by simp)
  obtain⟨sl3,e3⟩:=slotOf hs e2;exact⟨sl3,e3⟩
 ·intro b o e n hx
  obtain⟨o1,e1⟩:=I.there0 O e;exact F.un.free b o1 e1 (I.base.free b o e n (by rw[O.ex];simp)) (by simp)
 ·intro b o e hx
  obtain⟨o1,e1⟩:=I.there0 O e;obtain⟨o2,e2⟩:=F.un.there b o1 e1 (by simp)
  by_cases hs:b∈frs X.stack
  ·obtain⟨sl,e3⟩:=slotOf hs e2
   exact⟨_,e3⟩
  ·exact⟨o2,keepB e2 (.inl ⟨o1,e1⟩) hs⟩
 ·exact fun b xs e=>F.un.tups b xs (I.base.tups b xs e)
 ·exact fun b o u e=>F.un.frzs b o u (I.base.frzs b o u e)
 ·intro b ps e
  obtain⟨m1,e1⟩:=I.base.tbls b ps e;obtain⟨m2,e2⟩:=F.un.tbls b _ e1;exact⟨m1++m2,by rw[e2,Array.append_assoc]⟩
 ·intro a o e
  refine(F.hok a o e).stay (fun b u hb z=>?_) (fun b z=>z) (fun b xs z=>z)
  have hb':H' b≠none:=by
   rcases hb with rfl | hb
   ·rw[e];simp
   ·rw[hb];simp
  exact keepB z (.inr hb') (trk hb')
 ·show X.s₀.heap.get? ea=none
  cases q:X.s₀.heap.get? ea with
  | none=>rfl
  | some o=>
   obtain⟨o1,e1⟩:=I.there0 O q;rw[F.new] at e1;cases e1
 ·intro b o e c hb
  have c':(∃ o',s.heap.get? b=some o')∨H' b≠none:=by
   rcases c with⟨o',c⟩ | c
   ·exact .inl (I.there0 O c)
   ·exact .inr c
  have hs:b∉frs X.stack:=by
   rcases c with⟨o',c⟩ | c
   ·exact nin (I.ne0 c) hb
   ·exact trk c
  have ex:∃ o2,s'.heap.get? b=some o2:=by
   rcases c' with⟨o',c1⟩ | c1
   ·exact F.un.there b o' c1 (by simp)
   ·cases q:H' b with
    | none=>exact absurd q c1
    | some u=>exact(F.hok b u q).here
  obtain⟨o2,e2⟩:=ex;have z:=keepB e2 c' hs;have z':h'.get? b=some o:=e;rw[z] at z';cases z'
  exact cov b o e2 c' hs
end
section
variable{X:Cx}{pins:List (Addr×Obj)}{σ:St}{H H':Hp}{s s':Shared}{ea:Addr}{cls:Value}
theorem zPy(l:List Env):∀ env∈l,∀ b,env.frame=some b->b∈frs l:=fun env he b hb=>XN.mpr ⟨env,he,hb⟩
theorem Fly.made(I:Inv X pins σ H s)(O:Own X){vs:List Value}(hx:Heap.MadeExcOf s.heap s'.heap ea cls vs)(hos:s'.os=s.os)(hg:AllBare s'.gens){h':Heap}{t:Addr}
  (hf':Heap.FlyingW (PySem.W.hideAll s.heap (frs X.stack)) X.outer ea cls (.ref t) h') (up:s'.heap.UpToSlots h'):Fly X.prog X.w X.outer X.H₀ H X.s₀ ea cls { s' with heap:=h' }:=by
 have fst:frs X.stack=X.env.locals::X.fs:=zEs O;have nin:∀ {b:Addr},b≠X.env.locals->b∉X.fs->b∉frs X.stack:=fun h1 h2=>by rw[fst];simp[h1,h2]
 have trk:∀ {b:Addr},H b≠none->b∉frs X.stack:=fun {b} hb hm=>hb (I.stkFree b hm)
 have keepB:∀ {b:Addr} {o:Obj},s.heap.get? b=some o->b∉frs X.stack->h'.get? b=some o:=fun e1 e3=>hf'.1 _ _ (XM _ e1 e3)
 have slotOf:∀ {b:Addr} {o:Obj},b∈frs X.stack->s.heap.get? b=some o->∃ sl,h'.get? b=some { o with slots:=sl }:=fun {b o} hm e=>by
  obtain⟨_,o',ho',hn⟩:=I.stack.mem hm;rw[e] at ho';cases ho'
  exact up b o (hx.keeps b o e) hn
 refine⟨hos.trans I.os,hg,⟨?_,?_,?_,?_,?_,?_,?_⟩,?_,?_,?_,⟨_,_,hf',?_⟩⟩
 ·intro b o e n hb hx'
  exact keepB (I.base.keep b o e n hb (by rw[O.ex];simp)) (nin (I.ne0 e) hb)
 ·intro b o e n hb hx'
  obtain⟨sl,e1⟩:=I.base.slot b o e n hb (by rw[O.ex];simp)
  have hs:b∈frs X.stack:=by rw[fst];exact Qc _ hb
  obtain⟨sl3,e3⟩:=slotOf hs e1;exact⟨sl3,e3⟩
 ·exact fun b o e n hx'=>I.base.free b o e n (by rw[O.ex];simp)
 ·intro b o e hx'
  obtain⟨o1,e1⟩:=I.there0 O e;by_cases hs:b∈frs X.stack
  ·obtain⟨sl,e3⟩:=slotOf hs e1
   exact⟨_,e3⟩
  ·exact⟨o1,keepB e1 hs⟩
 ·exact fun b xs e=>I.base.tups b xs e
 ·exact fun b o u e=>I.base.frzs b o u e
 ·exact fun b ps e=>I.base.tbls b ps e
 ·intro a o e
  refine(I.hok a o e).stay (fun b u hb z=>?_) (fun b z=>z) (fun b xs z=>z)
  have hb':H b≠none:=by
   rcases hb with rfl | hb
   ·rw[e];simp
   ·rw[hb];simp
  exact keepB z (trk hb')
 ·exact I.hok.none_of hx.new
 ·show X.s₀.heap.get? ea=none
  cases q:X.s₀.heap.get? ea with
  | none=>rfl
  | some o=>
   obtain⟨o1,e1⟩:=I.there0 O q;rw[hx.new] at e1;cases e1
 ·intro b o e c hb
  have hs:b∉frs X.stack:=by
   rcases c with⟨o',c⟩ | c
   ·exact nin (I.ne0 c) hb
   ·exact trk c
  have ex:∃ o2,s.heap.get? b=some o2:=by
   rcases c with⟨o',c1⟩ | c1
   ·exact I.there0 O c1
   ·cases q:H b with
    | none=>exact absurd q c1
    | some u=>exact(I.hok b u q).here
  obtain⟨o2,e2⟩:=ex;have z:=keepB e2 hs;have z':h'.get? b=some o:=e;rw[z] at z';cases z'
  exact XM _ e2 hs
end
section
variable{CX:CXT}{P:Program}{w:World}{K:Fg_}{mg:Str->Option Value}{base:Heap}{N:List Str}{qual:Str}{scope:Scope}{f:Addr}{cd:Value}{A:Around}{outer:List Env}{s₀:Shared}{H₀:Hp}{E:XK}
theorem zLa:Own (zFs CX P w K mg base N qual scope f cd A outer s₀ H₀ E):=⟨rfl,rfl,rfl⟩
theorem zQT{E':XK}(h:∀ c H',E' c none H'->E c none H'):zEI (CX1 P w) (zFs (CX1 P w) P w K mg base N qual scope f cd A outer s₀ H₀ E) E':=by
 intro pins σ H s e s' I hc;obtain⟨ea,cls,H',rfl,F,q⟩:=hc;obtain⟨B,a0,hf,cov⟩:=F.fly;have O:Own (zFs (CX1 P w) P w K mg base N qual scope f cd A outer s₀ H₀ E):=zLa;exact wpAny_leaves_onW (I.ok.frames.trans (congrArg some O.stk)) O.fr hf fun h' hf' up=>⟨ea,cls,H',rfl,F.leave I O hf cov hf' up,h _ _ q⟩
theorem zCJ{pins:List (Addr×Obj)}{σ:St}{H:Hp}{s s':Shared}{ea:Addr}{cls:Value}{vs:List Value}(I:Inv (zFs (CX1 P w) P w K mg base N qual scope f cd A outer s₀ H₀ E) pins σ H s)
  (hx:Heap.MadeExcOf s.heap s'.heap ea cls vs) (hos:s'.os=s.os) (hg:AllBare s'.gens) (q:E cls none H):(zFs (CX1 P w) P w K mg base N qual scope f cd A outer s₀ H₀ E).xe (.ref ea) s':=by
 have O:Own (zFs (CX1 P w) P w K mg base N qual scope f cd A outer s₀ H₀ E):=zLa;have hst:=O.stk
 exact wpAny_leaves_madeW (base:=PySem.W.hideAll s.heap (frs (zFs (CX1 P w) P w K mg base N qual scope f cd A outer s₀ H₀ E).stack)) (h:=s.heap) (I.ok.frames.trans (congrArg some O.stk)) O.fr (fun b o z=>PySem.W.of_hideAll _ z)
  (PySem.W.funFrames_hide (I.stack) (zPy _)) hx fun h' t hf' _ _ up=>⟨ea,cls,H,rfl,Fly.made I O hx hos hg hf' up,q⟩
end
structure Err (K:PySem.W.Frag) (mg:Str->Option Value) (x:Str) (C:Addr):Prop where
 own:∀ h:Heap,K.In h->∃ bm newId B initId,OwnCls x C bm newId mg h/\ExcBaseFacts B newId initId bm
end L2
namespace L3
open PySem
inductive D where
 | non | bl (b:Bool) | int (i:Int) | str (x:Str) | tup (ds:List D) | lst (ds:List D)
inductive Res (α:Type) where
 | ok (a:α) | err (c:Str) | no
def Res.bind{α β:Type}(x:Res α)(f:α->Res β):Res β:=match x with
 | .ok a=>f a
 | .err c=>.err c
 | .no=>.no
inductive Sl where
 | un | val (d:D) | own (ds:List D) | exc (c:Str) | tab (T:List (Str×Str))
abbrev Rho:=List Sl
inductive Rt where
 | v (d:D) | f (ds:List D)
def Rt.d:Rt->D
 | .v d=>d
 | .f ds=>.lst ds
inductive Fl where
 | nx (ρ:Rho) | ret (r:Rt) | brk (ρ:Rho) | ctn (ρ:Rho)
abbrev Ev:=Rho->Res D
abbrev Fv:=Rho->Res (List D)
abbrev Tv:=Rho->Res Bool
abbrev Sv:=Rho->Res Fl
abbrev Mir:=List D->Res Rt
mutual
def eqD:D->D->Bool
 | .non,.non=>true
 | .bl a,.bl b=>a==b
 | .bl a,.int b=>(if a then 1 else 0)==b
 | .int a,.bl b=>a==(if b then 1 else 0)
 | .int a,.int b=>a==b
 | .str a,.str b=>a==b
 | .tup ds,.tup es=>zDO ds es
 | .lst ds,.lst es=>zDO ds es
 | _,_=>false
def zDO:List D->List D->Bool
 | [],[]=>true
 | d::ds,e::es=>eqD d e && zDO ds es
 | _,_=>false
end
mutual
def dep:D->Nat
 | .tup ds=>depS ds+1
 | .lst ds=>depS ds+1
 | _=>0
def depS:List D->Nat
 | []=>0
 | d::ds=>max (dep d) (depS ds)
end
mutual
def noL:D->Bool
 | .tup ds=>noLs ds
 | .lst _=>false
 | _=>true
def noLs:List D->Bool
 | []=>true
 | d::ds=>noL d && noLs ds
end
theorem rM:∀ {ds:List D} {d:D},d∈ds->dep d<=depS ds
 | e::ds,d,h=>by
  rw[depS];rcases Qe.mp h with rfl | h
  ·exact Nat.le_max_left ..
  ·exact Qv (rM h) (Nat.le_max_right ..)
theorem zKo:∀ {ds:List D},noLs ds=true ↔ ∀ d∈ds,noL d=true
 | []=>by simp[noLs]
 | d::ds=>by rw[noLs,Q8,zKo];simp
theorem nH:∀(ds es:List D),zDO ds es=((List.range (min ds.length es.length)).all (fun j=>eqD (ds.getD j .non) (es.getD j .non)) && ds.length==es.length)
 | [],[]=>rfl
 | [],e::es=>by simp[zDO]
 | d::ds,[]=>by simp[zDO]
 | d::ds,e::es=>by
  rw[zDO,nH ds es];have h:min (d::ds).length (e::es).length=min ds.length es.length+1:=by simp only[Qn];omega
  rw[h,List.range_succ_eq_map];simp[List.all_map,Function.comp_def,Bool.and_assoc]
mutual
theorem sZ:∀ d:D,eqD d d=true
 | .non=>rfl
 | .bl b=>by simp[eqD]
 | .int i=>by simp[eqD]
 | .str x=>by simp[eqD]
 | .tup ds=>by rw[eqD];exact uS ds
 | .lst ds=>by rw[eqD];exact uS ds
theorem uS:∀ ds:List D,zDO ds ds=true
 | []=>rfl
 | d::ds=>by rw[zDO,sZ d,uS ds];rfl
end
def nb(i:Int):Nat:=i.natAbs.log2+1
theorem zMF(i:Int):i.natAbs<2^nb i:=Nat.lt_log2_self
theorem zRh{i:Int}{m:Nat}(h:i.natAbs<2^m)(hm:0<m):nb i<=m:=by
 unfold nb;by_cases h0:i.natAbs=0
 ·rw[h0];exact hm
 ·exact(Nat.log2_lt h0).mpr h
def jQ(i j:Int):Bool:=(decide (-(2^64)<i) && decide (i<2^64)) || (decide (-(2^64)<j) && decide (j<2^64)) || decide (nb i+nb j<=134217728)
def lN(j:Int):Bool:=decide (j≠0) && decide (nb j<=9000)
def uY(i j:Int):Bool:=decide (0<=j) && decide ((nb i:Int)*j<=2^27)
abbrev Op2:=D->D->Res D
def xS:Op2
 | .int i,.int j=>.ok (.int (i+j))
 | .tup a,.tup b=>if a.length+b.length<=16777216 then .ok (.tup (a++b)) else .no
 | _,_=>.no
def zAX:Op2
 | .int i,.int j=>.ok (.int (i+j))
 | _,_=>.no
def wI:Op2
 | .int i,.int j=>.ok (.int (i-j))
 | _,_=>.no
def wH:Op2
 | .int i,.int j=>if jQ i j=true then .ok (.int (i*j)) else .no
 | _,_=>.no
def uV:Op2
 | .int i,.int j=>if lN j=true then .ok (.int (i.fdiv j)) else .no
 | _,_=>.no
def sN:Op2
 | .int i,.int j=>if j≠0 then .ok (.int (i.fmod j)) else .no
 | _,_=>.no
def zJu:Op2
 | .int i,.int j=>if uY i j=true then .ok (.int (i^j.toNat)) else .no
 | _,_=>.no
def oEq(x y:D):Res D:=if dep x<=50 then .ok (.bl (eqD x y)) else .no
def oNe(x y:D):Res D:=if dep x<=50 then .ok (.bl (!eqD x y)) else .no
def oLt:Op2
 | .int i,.int j=>.ok (.bl (decide (i<j)))
 | _,_=>.no
def oLe:Op2
 | .int i,.int j=>.ok (.bl (decide (i<=j)))
 | _,_=>.no
def oGt:Op2
 | .int i,.int j=>.ok (.bl (decide (j<i)))
 | _,_=>.no
def oGe:Op2
 | .int i,.int j=>.ok (.bl (decide (j<=i)))
 | _,_=>.no
def atD(ds:List D)(i:Int):Option D:=if 0<=i then ds[i.toNat]? else if 0<=(ds.length:Int)+i then ds[((ds.length:Int)+i).toNat]? else none
def ofO{α:Type}:Option α->Res α
 | some a=>.ok a
 | none=>.no
def oIx:Op2
 | .tup ds,.int i=>ofO (atD ds i)
 | .lst ds,.int i=>ofO (atD ds i)
 | _,_=>.no
def oIn:Op2
 | d,.lst ds=>if depS ds<=50 then .ok (.bl (ds.any fun e=>eqD e d)) else .no
 | d,.tup ds=>if depS ds<=50 then .ok (.bl (ds.any fun e=>eqD e d)) else .no
 | _,_=>.no
def xX:Op2
 | d,.lst ds=>if depS ds<=50 then .ok (.bl (!(ds.any fun e=>eqD e d))) else .no
 | d,.tup ds=>if depS ds<=50 then .ok (.bl (!(ds.any fun e=>eqD e d))) else .no
 | _,_=>.no
def zKM:D->Res D
 | .int i=>.ok (.int (-i))
 | _=>.no
def zSB:D->Res D
 | .bl b=>.ok (.bl (!b))
 | _=>.no
def aI(i:Nat)(ρ:Rho):Res D:=match ρ[i]? with
 | some (.val d)=>.ok d
 | _=>.no
def eC(d:D)(_ρ:Rho):Res D:=.ok d
def eOp(o:Op2)(a b:Ev)(ρ:Rho):Res D:=(a ρ).bind fun x=>(b ρ).bind fun y=>o x y
def eUn(o:D->Res D)(a:Ev)(ρ:Rho):Res D:=(a ρ).bind o
def zSr(a b:Ev)(ρ:Rho):Res D:=(a ρ).bind fun x=>match x with
 | .bl c=>if c=true then b ρ else .ok (.bl false)
 | _=>.no
def eOr(a b:Ev)(ρ:Rho):Res D:=(a ρ).bind fun x=>match x with
 | .bl c=>if c=true then .ok (.bl true) else b ρ
 | _=>.no
def eIf(t:Tv)(a b:Ev)(ρ:Rho):Res D:=(t ρ).bind fun c=>if c=true then a ρ else b ρ
def aNil(_ρ:Rho):Res (List D):=.ok []
def aD(e:Ev)(r:Fv)(ρ:Rho):Res (List D):=(e ρ).bind fun d=>(r ρ).bind fun ds=>.ok (d::ds)
def zFz(a:Fv)(ρ:Rho):Res D:=(a ρ).bind fun ds=>if ds.length<=16777216 then .ok (.tup ds) else .no
def aN(m:Mir)(a:Fv)(ρ:Rho):Res D:=(a ρ).bind fun ds=>(m ds).bind fun r=>.ok r.d
def kU:List D->Res D
 | [.lst ds]=>.ok (.int ds.length)
 | [.tup ds]=>.ok (.int ds.length)
 | _=>.no
def zOi:List D->Res D
 | [.int i]=>.ok (.int (if i<0 then -i else i))
 | _=>.no
def zPA:List D->Res D
 | [.int i,.int j]=>.ok (.int (if j > i then j else i))
 | _=>.no
def zQh:List D->Res D
 | [.int i,.int j]=>.ok (.int (if j<i then j else i))
 | _=>.no
def zKu:List D->Res D
 | [.lst ds]=>.ok (.tup ds)
 | [.tup ds]=>.ok (.tup ds)
 | _=>.no
def eB(b:List D->Res D)(a:Fv)(ρ:Rho):Res D:=(a ρ).bind b
def tyN:D->String
 | .non => "NoneType" | .bl _ => "bool" | .int _ => "int" | .str _ => "str" | .tup _ => "tuple" | .lst _ => "list"
def isT(T:String)(d:D):Bool:=tyN d==T || (T == "int" && tyN d == "bool")
def zST(T:String)(a:Ev)(ρ:Rho):Res D:=(a ρ).bind fun d=>.ok (.bl (isT T d))
def isNon:D->Bool
 | .non=>true
 | _=>false
def Sl.frz:Sl->Sl
 | .own ds=>.val (.lst ds)
 | s=>s
def zOt(e:Ev)(ρ:Rho):Res D:=(e (ρ.map Sl.frz)).bind fun d=>if noL d=true then .ok d else .no
def lQ(a:Fv)(ρ:Rho):Res (List D):=(a ρ).bind fun ds=>if ds.length<=16777216 then .ok ds else .no
def cU(m:Mir)(a:Fv)(ρ:Rho):Res (List D):=(a ρ).bind fun ds=>(m ds).bind fun r=>match r with
 | .f ds=>.ok ds
 | .v _=>.no
def zRD(a:Fv)(ρ:Rho):Res (List D):=(a ρ).bind fun ds=>match ds with
 | [.lst ds]=>.ok ds
 | [.tup ds]=>.ok ds
 | _=>.no
def zOp(a b:Ev)(ρ:Rho):Res (List D):=(a ρ).bind fun x=>(b ρ).bind fun y=>match x,y with
 | .lst ds,.lst es=>if ds.length+es.length<=16777216 then .ok (ds++es) else .no
 | _,_=>.no
def eF(f:Fv)(ρ:Rho):Res D:=(f ρ).bind fun ds=>.ok (.lst ds)
def zOu(f:Fv)(ρ:Rho):Res (List D):=(f (ρ.map Sl.frz)).bind fun ds=>if noLs ds=true then .ok ds else .no
def cut(n:Nat)(i:Option Int)(d:Nat):Nat:=match i with
 | none=>d
 | some i=>if 0<=i then min i.toNat n else ((n:Int)+i).toNat
def lF(ds:List D)(lo hi:Option Int):List D:=(ds.drop (cut ds.length lo 0)).take (cut ds.length hi ds.length-cut ds.length lo 0)
abbrev Ov:=Rho->Res (Option Int)
def oN(_ρ:Rho):Res (Option Int):=.ok none
def oS(e:Ev)(ρ:Rho):Res (Option Int):=(e ρ).bind fun d=>match d with
 | .int i=>.ok (some i)
 | _=>.no
def fSl(a:Ev)(lo hi:Ov)(ρ:Rho):Res (List D):=(a ρ).bind fun x=>(lo ρ).bind fun l=>(hi ρ).bind fun h=>match x with
 | .lst ds=>.ok (lF ds l h)
 | _=>.no
def zSZ(a:Ev)(lo hi:Ov)(ρ:Rho):Res D:=(a ρ).bind fun x=>(lo ρ).bind fun l=>(hi ρ).bind fun h=>match x with
 | .tup ds=>if (lF ds l h).length<ds.length then .ok (.tup (lF ds l h)) else .no
 | _=>.no
def dY(e:Ev)(ρ:Rho):Res Bool:=(e ρ).bind fun d=>match d with
 | .bl b=>.ok b
 | _=>.no
def tFrzB(t:Tv)(ρ:Rho):Res Bool:=t (ρ.map Sl.frz)
def zKC(t:Tv)(ρ:Rho):Res Bool:=(t ρ).bind fun b=>.ok (!b)
def zAK(t u:Tv)(ρ:Rho):Res Bool:=(t ρ).bind fun b=>if b=true then u ρ else .ok false
def zJt(t u:Tv)(ρ:Rho):Res Bool:=(t ρ).bind fun b=>if b=true then .ok true else u ρ
def sNext(ρ:Rho):Res Fl:=.ok (.nx ρ)
def aZ(a b:Sv)(ρ:Rho):Res Fl:=(a ρ).bind fun f=>match f with
 | .nx ρ'=>b ρ'
 | f=>.ok f
def sIf(t:Tv)(a b:Sv)(ρ:Rho):Res Fl:=(t ρ).bind fun c=>if c=true then a ρ else b ρ
def cZ(i:Nat)(e:Ev)(ρ:Rho):Res Fl:=(e ρ).bind fun d=>.ok (.nx (ρ.set i (.val d)))
def zH(i:Nat)(f:Fv)(ρ:Rho):Res Fl:=(f ρ).bind fun ds=>.ok (.nx (ρ.set i (.own ds)))
def pH(e:Ev)(ρ:Rho):Res Fl:=(e ρ).bind fun _=>.ok (.nx ρ)
def iX(e:Ev)(ρ:Rho):Res Fl:=(e (ρ.map Sl.frz)).bind fun d=>.ok (.ret (.v d))
def gH(f:Fv)(ρ:Rho):Res Fl:=(f (ρ.map Sl.frz)).bind fun ds=>.ok (.ret (.f ds))
def fA(i:Nat)(ρ:Rho):Res Fl:=match ρ[i]? with
 | some (.own ds)=>.ok (.ret (.f ds))
 | _=>.no
def sRetN(_ρ:Rho):Res Fl:=.ok (.ret (.v .non))
def iA(c:Str)(a:Fv)(ρ:Rho):Res Fl:=(a ρ).bind fun ds=>if ds.length<=16777216 then .err c else .no
def sNo(_ρ:Rho):Res Fl:=.no
def zCW(i:Nat)(e:Ev)(ρ:Rho):Res Fl:=match ρ[i]? with
 | some (.own ds)=>(e ρ).bind fun d=>if ds.length<16777216 then .ok (.nx (ρ.set i (.own (ds++[d])))) else .no
 | _=>.no
def zIl(i:Nat)(e:Fv)(ρ:Rho):Res Fl:=match ρ[i]? with
 | some (.own ds)=>(e ρ).bind fun es=>if ds.length+es.length<=16777216 then .ok (.nx (ρ.set i (.own (ds++es)))) else .no
 | _=>.no
def zQL(i:Nat)(k e:Ev)(ρ:Rho):Res Fl:=(e ρ).bind fun d=>match ρ[i]? with
 | some (.own ds)=>(k ρ).bind fun j=>match j with
  | .int j=>if 0<=j/\j<ds.length then .ok (.nx (ρ.set i (.own (ds.set j.toNat d)))) else if -(ds.length:Int)<=j/\j<0 then .ok (.nx (ρ.set i (.own (ds.set (j+ds.length).toNat d)))) else .no
  | _=>.no
 | _=>.no
def zOS(i:Nat)(ρ:Rho):Res Fl:=match ρ[i]? with
 | some (.own ds)=>if ds.length=0 then .no else .ok (.nx (ρ.set i (.own ds.dropLast)))
 | _=>.no
def zJv(i:Nat)(o:Op2)(e:Ev)(ρ:Rho):Res Fl:=match ρ[i]? with
 | some (.val x)=>(e ρ).bind fun y=>(o x y).bind fun d=>.ok (.nx (ρ.set i (.val d)))
 | _=>.no
def sFrz(s:Sv)(ρ:Rho):Res Fl:=s (ρ.map Sl.frz)
def frzAt(i:Nat)(ρ:Rho):Rho:=match ρ[i]? with
 | some (.own ds)=>ρ.set i (.val (.lst ds))
 | _=>ρ
def sFrzAt(i:Nat)(s:Sv)(ρ:Rho):Res Fl:=s (frzAt i ρ)
def noErr{α:Type}:Res α->Res α
 | .err _=>.no
 | r=>r
abbrev Gv:=D->Rho->Res Rho
def gName(i:Nat)(d:D)(ρ:Rho):Res Rho:=.ok (ρ.set i (.val d))
def zGK(gs:List D->Rho->Res Rho)(d:D)(ρ:Rho):Res Rho:=match d with
 | .tup ds=>gs ds ρ
 | _=>.no
def zHJ(ds:List D)(ρ:Rho):Res Rho:=match ds with
 | []=>.ok ρ
 | _=>.no
def nX(g:Gv)(r:List D->Rho->Res Rho)(ds:List D)(ρ:Rho):Res Rho:=match ds with
 | d::ds=>(g d ρ).bind fun ρ'=>r ds ρ'
 | []=>.no
def zSE(g:Gv)(f:Ev)(ρ:Rho):Res Fl:=(f ρ).bind fun d=>(g d ρ).bind fun ρ'=>.ok (.nx ρ')
def loop(g:Gv)(b:Sv):List D->Rho->Res Fl
 | [],ρ=>.ok (.nx ρ)
 | d::ds,ρ=>(g d ρ).bind fun ρ1=>(b ρ1).bind fun f=>match f with
  | .nx ρ2=>loop g b ds ρ2
  | .ctn ρ2=>loop g b ds ρ2
  | .brk ρ2=>.ok (.nx ρ2)
  | .ret r=>.ok (.ret r)
def zAO(it:Fv)(g:Gv)(b:Sv)(ρ:Rho):Res Fl:=(it ρ).bind fun ds=>loop g b ds ρ
def qE(e:Ev)(ρ:Rho):Res (List D):=(e ρ).bind fun d=>match d with
 | .lst ds=>.ok ds
 | .tup ds=>.ok ds
 | _=>.no
def zOq(e:Ev)(ρ:Rho):Res (List D):=(e ρ).bind fun d=>match d with
 | .tup ds=>.ok ds
 | _=>.no
def rng(lo:Int)(n:Nat)(c:Int):List D:=(List.range n).map fun(i:Nat)=>D.int (lo+(i:Int)*c)
def zFe(a:Fv)(ρ:Rho):Res (List D):=(a ρ).bind fun ds=>match ds with
 | [.int j]=>if -(2^62)<=j/\j<2^62 then .ok (rng 0 j.toNat 1) else .no
 | _=>.no
def zGU(a:Fv)(ρ:Rho):Res (List D):=(a ρ).bind fun ds=>match ds with
 | [.int i,.int j]=>if -(2^62)<=i/\i<2^62/\-(2^62)<=j/\j<2^62 then .ok (rng i (j-i).toNat 1) else .no
 | _=>.no
def wh(t:Tv)(b:Sv):Nat->Rho->Res Fl
 | 0,_=>.no
 | n+1,ρ=>(t ρ).bind fun c=>if c=true then (b ρ).bind fun f=>match f with
   | .nx ρ2=>wh t b n ρ2
   | .ctn ρ2=>wh t b n ρ2
   | .brk ρ2=>.ok (.nx ρ2)
   | .ret r=>.ok (.ret r)
  else .ok (.nx ρ)
open Classical in
def eQ(t:Tv)(b:Sv)(ρ:Rho):Res Fl:=if h:∃ n,wh t b n ρ≠.no then wh t b h.choose ρ else .no
theorem zAu{t:Tv}{b:Sv}:∀ {n:Nat} {ρ:Rho} {k:Nat},wh t b n ρ≠.no->n<=k->wh t b k ρ=wh t b n ρ
 | 0,ρ,k,h,_=>absurd rfl h
 | n+1,ρ,0,h,l=>absurd l (by omega)
 | n+1,ρ,k+1,h,l=>by
  rw[wh,wh];rw[wh] at h
  cases ht:t ρ with
  | no=>rfl
  | err c=>rfl
  | ok c=>
   rw[ht] at h;simp only[Res.bind] at h ⊢
   cases c with
   | false=>rfl
   | true=>
    simp only[if_true] at h ⊢
    cases hb:b ρ with
    | no=>rfl
    | err c=>rfl
    | ok f=>
     rw[hb] at h
     cases f with
     | nx ρ2=>exact zAu h (by omega)
     | ctn ρ2=>exact zAu h (by omega)
     | brk ρ2=>rfl
     | ret r=>rfl
theorem gM{t:Tv}{b:Sv}{n:Nat}{ρ:Rho}(h:wh t b n ρ≠.no):eQ t b ρ=wh t b n ρ:=by
 have hx:∃ n,wh t b n ρ≠.no:=⟨n,h⟩;unfold eQ;rw[dif_pos hx];rcases XW n hx.choose with l | l
 ·exact zAu h l
 ·exact(zAu hx.choose_spec l).symm
theorem oJ{t:Tv}{b:Sv}{ρ:Rho}(h:eQ t b ρ≠.no):∃ n,eQ t b ρ=wh t b n ρ:=by
 unfold eQ at h ⊢
 split
 ·exact⟨_,rfl⟩
 ·rename_i hx;rw[dif_neg hx] at h;exact absurd rfl h
theorem zBJ{t:Tv}{b:Sv}{ρ:Rho}:eQ t b ρ=((t ρ).bind fun c=>if c=true then (b ρ).bind fun f=>match f with
   | .nx ρ2=>eQ t b ρ2
   | .ctn ρ2=>eQ t b ρ2
   | .brk ρ2=>.ok (.nx ρ2)
   | .ret r=>.ok (.ret r)
  else .ok (.nx ρ)):=by
 have key:∀ n,wh t b (n+1) ρ≠.no->wh t b (n+1) ρ=((t ρ).bind fun c=>if c=true then (b ρ).bind fun f=>match f with
   | .nx ρ2=>eQ t b ρ2
   | .ctn ρ2=>eQ t b ρ2
   | .brk ρ2=>.ok (.nx ρ2)
   | .ret r=>.ok (.ret r)
  else .ok (.nx ρ)):=by
  intro n h;rw[wh] at h ⊢
  cases ht:t ρ with
  | no=>rfl
  | err c=>rfl
  | ok c=>
   rw[ht] at h;simp only[Res.bind] at h ⊢
   cases c with
   | false=>rfl
   | true=>
    simp only[if_true] at h ⊢
    cases hb:b ρ with
    | no=>rfl
    | err c=>rfl
    | ok f=>
     rw[hb] at h
     cases f with
     | nx ρ2=>exact(gM h).symm
     | ctn ρ2=>exact(gM h).symm
     | brk ρ2=>rfl
     | ret r=>rfl
 by_cases h:eQ t b ρ=.no
 ·rw[h]
  cases ht:t ρ with
  | no=>rfl
  | err c=>
   exfalso
   have q:wh t b 1 ρ=.err c:=by rw[wh,ht];rfl
   have:=gM (t:=t) (b:=b) (ρ:=ρ) (n:=1) (by rw[q];exact fun z=>by cases z)
   rw[h,q] at this;cases this
  | ok c=>
   simp only[Res.bind]
   cases c with
   | false=>
    exfalso
    have q:wh t b 1 ρ=.ok (.nx ρ):=by rw[wh,ht];rfl
    have:=gM (t:=t) (b:=b) (ρ:=ρ) (n:=1) (by rw[q];exact fun z=>by cases z)
    rw[h,q] at this;cases this
   | true=>
    simp only[if_true]
    cases hb:b ρ with
    | no=>rfl
    | err c=>
     exfalso
     have q:wh t b 1 ρ=.err c:=by rw[wh,ht];simp[Res.bind,hb]
     have:=gM (t:=t) (b:=b) (ρ:=ρ) (n:=1) (by rw[q];exact fun z=>by cases z)
     rw[h,q] at this;cases this
    | ok f=>
     have again:∀ ρ2,(f=.nx ρ2∨f=.ctn ρ2)->eQ t b ρ2=.no:=by
      intro ρ2 hf;by_cases h2:eQ t b ρ2=.no
      ·exact h2
      ·exfalso
       obtain⟨n,e⟩:=oJ h2
       have q:wh t b (n+1) ρ=wh t b n ρ2:=by
        rw[wh,ht];simp only[Res.bind,if_true,hb];rcases hf with rfl | rfl<;>rfl
       have h3:wh t b (n+1) ρ≠.no:=by rw[q,<-e];exact h2
       have:=gM h3
       rw[h] at this;exact h3 this.symm
     cases f with
     | nx ρ2=>exact(again ρ2 (.inl rfl)).symm
     | ctn ρ2=>exact(again ρ2 (.inr rfl)).symm
     | brk ρ2=>
      exfalso
      have q:wh t b 1 ρ=.ok (.nx ρ2):=by rw[wh,ht];simp[Res.bind,hb]
      have:=gM (t:=t) (b:=b) (ρ:=ρ) (n:=1) (by rw[q];exact fun z=>by cases z)
      rw[h,q] at this;cases this
     | ret r=>
      exfalso
      have q:wh t b 1 ρ=.ok (.ret r):=by rw[wh,ht];simp[Res.bind,hb]
      have:=gM (t:=t) (b:=b) (ρ:=ρ) (n:=1) (by rw[q];exact fun z=>by cases z)
      rw[h,q] at this;cases this
 ·obtain⟨n,e⟩:=oJ h
  cases n with
  | zero=>rw[e] at h;exact absurd rfl h
  | succ n=>rw[e];exact key n (by rw[<-e];exact h)
def zMb(f:Fv)(g:Ev)(ρ:Rho):Res (List D):=(f ρ).bind fun ds=>(g ρ).bind fun d=>match d with
 | .int k=>if 0<=k/\k<2^62/\ds.length*k.toNat<=16777216 then .ok (List.replicate k.toNat ds).flatten else .no
 | _=>.no
def iZ(_ρ:Rho):Res Bool:=.ok true
def hG(t:Tv)(f:Ev)(ρ:Rho):List D->Res (List D)
 | []=>.ok []
 | d::ds=>(noErr (t (ρ++[.val d]))).bind fun c=>if c=true then (noErr (f (ρ++[.val d]))).bind fun e=>(hG t f ρ ds).bind fun es=>.ok (e::es) else hG t f ρ ds
def jR(it:Fv)(t:Tv)(f:Ev)(ρ:Rho):Res (List D):=(it ρ).bind fun ds=>if ds.length<=16777215 then hG t f ρ ds else .no
def start(n:Nat)(ds:List D):Rho:=ds.map Sl.val++List.replicate (n-ds.length) .un
def fin:Fl->Res Rt
 | .nx _=>.ok (.v .non)
 | .ret r=>.ok r
 | .brk _=>.no
 | .ctn _=>.no
def fn(p n:Nat)(b:Sv)(ds:List D):Res Rt:=if ds.length=p then (b (start n ds)).bind fin else .no
def zJn:D->Option (List D)
 | .lst ds=>some ds
 | .tup ds=>some ds
 | _=>none
def jV:List D->List D->List D
 | a::r,b::q=>.tup [a,b]::jV r q
 | _,_=>[]
def zLy(a:Fv)(ρ:Rho):Res (List D):=(a ρ).bind fun ds=>match ds with
 | [x,y]=>match zJn x,zJn y with
  | some xs,some ys=>.ok (jV xs ys)
  | _,_=>.no
 | _=>.no
def fW(f:Ev)(ρ:Rho):List D->Res (List D)
 | []=>.ok []
 | .tup [a,b]::ds=>(noErr (f (ρ++[.val a,.val b]))).bind fun e=>(fW f ρ ds).bind fun es=>.ok (e::es)
 | _::_=>.no
def tH(it:Fv)(f:Ev)(ρ:Rho):Res (List D):=(it ρ).bind fun ds=>if ds.length<=16777215 then fW f ρ ds else .no
def zSN:D->Option Str
 | .str x=>some x
 | .int i=>if i.natAbs.log2<1920 then some (toString i) else none
 | _=>none
def zSv:Str->List D->Option Str
 | a,[]=>some a
 | a,d::r=>match zSN d with
  | some x=>if x.length<=sizeLine/\(a++x).length<=sizeLine then zSv (a++x) r else none
  | none=>none
def jX:List D->Option (List Int)
 | []=>some []
 | .int i::ds=>match jX ds with
  | some ns=>some (i::ns)
  | none=>none
 | _::_=>none
def zBR:List D->Res D
 | [.lst ds]=>(match jX ds with
  | some ns=>.ok (.int ns.sum)
  | none=>.no)
 | [.tup ds]=>(match jX ds with
  | some ns=>.ok (.int ns.sum)
  | none=>.no)
 | _=>.no
def chO:Option Nat->Res D
 | some c=>.ok (.str ⟨#[c]⟩)
 | none=>.no
def zKT:List D->Option (List Bool)
 | []=>some []
 | .bl b::r=>(zKT r).map (b::·)
 | _=>none
def zSY:List D->Res D
 | [.lst ds]=>(match zKT ds with | some bs=>.ok (.bl (bs.all id)) | none=>.no)
 | _=>.no
def slS(l u:Option Int):D->Res D
 | .str x=>if x.length<=sizeLine then .ok (.str (Txt.slice x l u)) else .no
 | _=>.no
def rD(T:List (Str×Str)):D->Res D
 | .str x=>.ok (.bl (!(T.lookup x).isSome))
 | _=>.no
def zOv:Option Str->Res D
 | some y=>.ok (.str y)
 | none=>.no
def tL(T:List (Str×Str)):D->Res D
 | .str x=>zOv (T.lookup x)
 | _=>.no
def uC:Int->List Int->Int
 | a,[]=>a
 | a,b::r=>uC (if b > a then b else a) r
def zBv:List D->Res D
 | [.lst ds]=>(match jX ds with | some (a::r)=>.ok (.int (uC a r)) | _=>.no)
 | _=>.no
def zDo:List D->Res D
 | [.lst ds,.int d]=>(match jX ds with | some (a::r)=>.ok (.int (uC a r)) | some []=>.ok (.int d) | none=>.no)
 | _=>.no
end L3
namespace L3
open PySem
def gP(kz:List Int)(π:List Nat):Prop:=π.Perm (List.range kz.length)/\π.Pairwise (fun i j=>kz.getD i 0<=kz.getD j 0)
def zJq(b:Int):D->Res Int
 | .tup [.int t,.int d]=>if lN d && jQ t (b.fdiv d) then .ok (t*b.fdiv d) else .no
 | _=>.no
def oK(b:Int):List D->Res (List Int)
 | []=>.ok []
 | d::r=>(zJq b d).bind fun k=>(oK b r).bind fun ks=>.ok (k::ks)
def jU(π:List Nat):List D:=π.map fun i:Nat=>D.int (i:Int)
theorem zNX{b k:Int}{d:D}(h:zJq b d=.ok k):∃ t c,d=.tup [.int t,.int c]/\lN c=true/\jQ t (b.fdiv c)=true/\k=t*b.fdiv c:=by
 unfold zJq at h;split at h
 ·rename_i t c
  split at h
  ·rename_i hc
   rw[Q8] at hc;cases h;exact⟨t,c,rfl,hc.1,hc.2,rfl⟩
  ·cases h
 ·cases h
theorem zY{b:Int}:∀ {rows:List D} {kz:List Int},oK b rows=.ok kz->kz.length=rows.length/\∀(j:Nat)(k:Int),kz[j]?=some k->∃ d,rows[j]?=some d/\zJq b d=.ok k
 | [],kz,h=>by cases h;exact⟨rfl,fun j k z=>by simp at z⟩
 | d::r,kz,h=>by
  unfold oK at h
  cases e:zJq b d with
  | no=>rw[e] at h;cases h
  | err c=>rw[e] at h;cases h
  | ok k0=>
   rw[e] at h;have h':(oK b r).bind (fun ks=>Res.ok (k0::ks))=.ok kz:=h
   cases e2:oK b r with
   | no=>rw[e2] at h';cases h'
   | err c=>rw[e2] at h';cases h'
   | ok ks=>
    rw[e2] at h';cases h'
    obtain⟨h1,h2⟩:=zY e2;refine⟨by rw[Qn,Qn,h1],fun j k z=>?_⟩
    cases j with
    | zero=>simp at z;subst z;exact⟨d,rfl,e⟩
    | succ j=>exact h2 j k (by simpa using z)
def zEY(ρ:Rho):Res (List Int):=match ρ[0]?,ρ[1]? with
 | some (Sl.val (.lst rows)),some (Sl.val (.int b))=>if rows.length<64 then oK b rows else .no
 | _,_=>.no
def zAB(sa sb:Sv)(ds:List D):Res (List Int):=if ds.length=1 then (match sa (L3.start 3 ds) with
 | .ok (.nx ρ)=>(match sb ρ with
  | .ok (.nx ρ')=>zEY ρ'
  | _=>.no)
 | _=>.no) else .no
theorem zEm{b:Int}:∀ {rows:List D} {c:Str},oK b rows≠.err c
 | [],c,h=>by cases h
 | d::r,c,h=>by
  unfold oK at h
  have k0:∀ c,zJq b d≠.err c:=fun c z=>by
   unfold zJq at z;split at z
   ·split at z<;>cases z
   ·cases z
  cases e:zJq b d with
  | no=>rw[e] at h;cases h
  | err c'=>exact k0 _ e
  | ok k=>
   rw[e] at h;have h':(oK b r).bind (fun ks=>Res.ok (k::ks))=.err c:=h
   cases e2:oK b r with
   | no=>rw[e2] at h';cases h'
   | err c'=>exact zEm e2
   | ok ks=>rw[e2] at h';cases h'
theorem zPG{sa sb:Sv}(ds:List D)(c:Str):zAB sa sb ds≠.err c:=fun h=>by
 unfold zAB zEY at h;split at h
 ·split at h
  ·split at h
   ·split at h
    ·split at h
     ·exact zEm h
     ·cases h
    ·cases h
   ·cases h
  ·cases h
 ·cases h
theorem zLu{sa sb:Sv}(ds:List D)(h:zAB sa sb ds≠.no):ds.length=1:=by
 unfold zAB at h;split at h
 ·assumption
 ·exact absurd rfl h
open Classical in
def oD(kz:List Int)(F:List Nat->Res Fl):Res Fl:=if h:∃ x,∀ π,gP kz π->F π=x then h.choose else .no
theorem zFK{kz:List Int}{F:List Nat->Res Fl}{π:List Nat}(h:oD kz F≠.no)(hπ:gP kz π):F π=oD kz F:=by
 unfold oD at h ⊢
 split at h
 ·rename_i z;rw[dif_pos z];exact z.choose_spec π hπ
 ·exact absurd rfl h
theorem zFS{kz:List Int}{F:List Nat->Res Fl}{x:Res Fl}{π:List Nat}(hπ:gP kz π)(h:∀ π,gP kz π->F π=x):oD kz F=x:=by
 have z:∃ x,∀ π,gP kz π->F π=x:=⟨x,h⟩;unfold oD;rw[dif_pos z,<-z.choose_spec π hπ];exact h π hπ
def zHh(fs:Fv)(kf:List D->Res (List Int))(g:Gv)(b r:Sv):Sv:=fun ρ=>((fs ρ).bind kf).bind fun kz=>oD kz fun π=>aZ (fun ρ=>loop g b (jU π) ρ) r ρ
abbrev Tri:=D×List D×List D
def zKw(e:Ev):Fv:=fun ρ=>(e ρ).bind fun d=>match d with
 | .lst ds=>.ok ds.reverse
 | _=>.no
def zRR:D->Res (List D)
 | .lst ds=>.ok ds.reverse
 | _=>.no
theorem revL_l{ds:List D}:zRR (.lst ds)=.ok ds.reverse:=rfl
theorem iRevL_at{e:Ev}{ρ:Rho}:zKw e ρ=(e ρ).bind zRR:=by
 unfold zKw;congr
end L3
namespace Fq
theorem zDT{a b:Int}(ha:0<=a)(hb:0<b):Int.gcd b (a % b)=Int.gcd a b:=by
 obtain⟨m,rfl⟩:=YC ha;obtain⟨n,rfl⟩:=YC (VO hb);show Nat.gcd n (m % n)=Nat.gcd m n
 rw[Nat.gcd_comm n (m % n),Nat.gcd_comm m n,Nat.gcd_rec n m]
def dv(t b:Int):Int:=if b<0 then -(Int.gcd t b:Int) else (Int.gcd t b:Int)
theorem zMH{t b:Int}(hb:b≠0):0<(Int.gcd t b:Int):=by
 have h:Int.gcd t b≠0:=fun h=>hb (Int.gcd_eq_zero_iff.mp h).2
 omega
theorem zOR{t b:Int}(hb:b≠0):dv t b≠0:=by
 have:=zMH (t:=t) hb
 unfold dv;split<;>omega
theorem yP(t b:Int):dv t b ∣ t:=by
 unfold dv;split
 ·exact Int.neg_dvd.mpr (Xn ..)
 ·exact Xn ..
theorem zDP(t b:Int):dv t b ∣ b:=by
 unfold dv;split
 ·exact Int.neg_dvd.mpr (Xo ..)
 ·exact Xo ..
theorem oQ{t d:Int}(h:d ∣ t):t.fdiv d=t / d:=by
 rw[Int.fdiv_eq_ediv];simp[h]
theorem zCo{t b:Int}(hb:b≠0):t.fdiv (dv t b)=(Rat.divInt t b).num:=by
 rw[oQ (yP t b),Rat.num_divInt,Int.gcd_comm b t];unfold dv;rcases Int.lt_trichotomy b 0 with h | h | h
 ·rw[if_pos h,Int.sign_eq_neg_one_of_neg h,Int.ediv_neg]
  have:(-1:Int)*t=-t:=by omega
  rw[this,YD (Xn ..)]
 ·exact absurd h hb
 ·rw[if_neg (by omega),Int.sign_eq_one_of_pos h,Int.one_mul]
theorem zCm{t b:Int}(hb:b≠0):b.fdiv (dv t b)=((Rat.divInt t b).den:Int):=by
 rw[oQ (zDP t b),Rat.den_divInt,if_neg hb,Int.gcd_comm b t];unfold dv;rcases Int.lt_trichotomy b 0 with h | h | h
 ·rw[if_pos h,Int.ediv_neg,Int.natCast_ediv]
  have e:((b.natAbs:Nat):Int)=-b:=by omega
  rw[e,YD (Xo ..)]
 ·exact absurd h hb
 ·rw[if_neg (by omega),Int.natCast_ediv]
  have e:((b.natAbs:Nat):Int)=b:=by omega
  rw[e]
theorem iB(q:Rat):(q.den:Int)≠0:=by have:=q.den_nz;omega
theorem gC(q:Rat):(0:Int)<(q.den:Int):=by have:=q.den_nz;omega
theorem zPd(p q:Rat):Rat.divInt (p.num*q.den+q.num*p.den) (p.den*q.den)=p+q:=by
 rw[<-Rat.divInt_add_divInt _ _ (iB p) (iB q),Vn,Vn]
theorem zLh(p q:Rat):Rat.divInt (p.num*q.den-q.num*p.den) (p.den*q.den)=p-q:=by
 rw[<-Rat.divInt_sub_divInt _ _ (iB p) (iB q),Vn,Vn]
theorem zLx(p q:Rat):Rat.divInt (p.num*q.num) (p.den*q.den)=p*q:=by
 rw[<-XX,Vn,Vn]
theorem zGP(p q:Rat):Rat.divInt (p.num*q.den) (p.den*q.num)=p / q:=by
 rw[<-XX,Vn,QI,Rat.inv_def]
theorem zKO{q:Rat}:q.num≠0 ↔ q≠0:=by
 constructor
 ·intro h e;exact h (by rw[e];rfl)
 ·intro h e;exact h (Rat.num_eq_zero.mp e)
def Sz(n:Nat)(q:Rat):Prop:=q.num.natAbs<2^n/\q.den<2^n
theorem Sz.mono{m n:Nat}{q:Rat}(h:Sz m q)(l:m<=n):Sz n q:=
 ⟨Qs h.1 (Vf (by decide) l),Qs h.2 (Vf (by decide) l)⟩
theorem zPU{t b:Int}(hb:b≠0):(Rat.divInt t b).num.natAbs<=t.natAbs:=by
 rw[<-zCo hb,oQ (yP t b),Int.natAbs_ediv_of_dvd (yP t b)];exact Nat.div_le_self ..
theorem zCz{t b:Int}(hb:b≠0):(Rat.divInt t b).den<=b.natAbs:=by
 rw[Rat.den_divInt,if_neg hb];exact Nat.div_le_self ..
theorem Sz.of{n:Nat}{t b:Int}(hb:b≠0)(ht:t.natAbs<2^n)(h:b.natAbs<2^n):Sz n (Rat.divInt t b):=
 ⟨Vu (zPU hb) ht,Vu (zCz hb) h⟩
theorem iT{a b:Int}{m n:Nat}(ha:a.natAbs<2^m)(hb:b.natAbs<2^n):(a*b).natAbs<2^(m+n):=by
 rw[Int.natAbs_mul,Nat.pow_add];exact Nat.mul_lt_mul'' ha hb
theorem zQp{a b:Int}{m:Nat}(ha:a.natAbs<2^m)(hb:b.natAbs<2^m):(a-b).natAbs<2^(m+1):=by
 rw[Nat.pow_succ];omega
theorem Sz.d{n:Nat}{q:Rat}(h:Sz n q):((q.den:Int)).natAbs<2^n:=h.2
theorem Sz.sub{m n:Nat}{p q:Rat}(hp:Sz m p)(hq:Sz n q):Sz (m+n+1) (p-q):=by
 rw[<-zLh];refine Sz.of (VP (iB p) (iB q)) (zQp (iT hp.1 hq.d) ?_) ?_
 ·rw[Nat.add_comm m n];exact iT hq.1 hp.d
 ·exact Qs (iT hp.d hq.d) (Vf (by decide) (by omega))
theorem Sz.mul{m n:Nat}{p q:Rat}(hp:Sz m p)(hq:Sz n q):Sz (m+n) (p*q):=by
 rw[<-zLx];exact Sz.of (VP (iB p) (iB q)) (iT hp.1 hq.1) (iT hp.d hq.d)
theorem Sz.div{m n:Nat}{p q:Rat}(hp:Sz m p)(hq:Sz n q)(h:q≠0):Sz (m+n) (p / q):=by
 rw[<-zGP];exact Sz.of (VP (iB p) (zKO.mpr h)) (iT hp.1 hq.d) (iT hp.d hq.1)
end Fq
namespace Fr
open L3 PySem Fq
theorem zDN{t:Tv}{b:Sv}{ρ:Rho}(P:Rho->Prop)(μ:Rho->Nat)(Q:Res Fl->Prop)(h0:P ρ)
  (step:∀ ρ,P ρ->(t ρ=.ok false/\Q (.ok (.nx ρ)))∨(t ρ=.ok true/\∃ ρ',b ρ=.ok (.nx ρ')/\P ρ'/\μ ρ' < μ ρ)):Q (eQ t b ρ):=by
 have main:∀ n ρ,μ ρ<=n->P ρ->Q (eQ t b ρ):=by
  intro n
  induction n with
  | zero=>
   intro ρ hn hp;rw[zBJ];rcases step ρ hp with⟨h1,h2⟩ | ⟨h1,ρ',h2,h3,h4⟩
   ·rw[h1];exact h2
   ·omega
  | succ n ih=>
   intro ρ hn hp;rw[zBJ];rcases step ρ hp with⟨h1,h2⟩ | ⟨h1,ρ',h2,h3,h4⟩
   ·rw[h1];exact h2
   ·rw[h1]
    simp only[Res.bind,if_true,h2];exact ih ρ' (by omega) h3
 exact main _ ρ (Qf _) h0
theorem zIG{i:Int}{m:Nat}(h:i.natAbs<2^m):nb i<=m+1:=zRh (Qs h (Vf (by decide) (by omega))) (by omega)
theorem dH{i j:Int}{m n:Nat}(hi:i.natAbs<2^m)(hj:j.natAbs<2^n)(h:m+n<=100000000):jQ i j=true:=by
 unfold jQ;have h1:=zIG hi;have h2:=zIG hj;rw[VQ];exact .inr (decide_eq_true (by omega))
theorem zNu{i j:Int}(h1:-(2^64)<j)(h2:j<2^64):jQ i j=true:=by
 unfold jQ;rw[VQ,VQ];exact .inl (.inr (by rw[decide_eq_true h1,decide_eq_true h2];rfl))
theorem zMO{i j:Int}(h1:-(2^64)<i)(h2:i<2^64):jQ i j=true:=by
 unfold jQ;rw[VQ,VQ];exact .inl (.inl (by rw[decide_eq_true h1,decide_eq_true h2];rfl))
theorem sW{j:Int}{m:Nat}(h0:j≠0)(hj:j.natAbs<2^m)(h:m<=8999):lN j=true:=by
 unfold lN;have h1:=zIG hj;rw[decide_eq_true h0,decide_eq_true (show nb j<=9000 by omega)];rfl
theorem okDiv_lit{j:Int}(h0:0<j)(h:j<1000000000000000000):lN j=true:=sW (m:=64) (by omega) (by omega) (by decide)
theorem okMul_litr{i j:Int}(h1:-1000000000000000000<j)(h2:j<1000000000000000000):jQ i j=true:=zNu (by omega) (by omega)
theorem okMul_litl{i j:Int}(h1:-1000000000000000000<i)(h2:i<1000000000000000000):jQ i j=true:=zMO (by omega) (by omega)
theorem p10(n:Nat):(0:Int)<10^n:=Xh (by decide)
theorem p10ne(n:Nat):((10:Int)^n=0)=False:=eq_false (by have:=p10 n;omega)
theorem p10pos2(n:Nat):(0:Int)<2*10^n:=by have:=p10 n;omega
theorem p10ne2(n:Nat):((2:Int)*10^n=0)=False:=eq_false (by have:=p10 n;omega)
theorem okp9:uY 10 9=true:=by decide
def dq(q:Rat):D:=.tup [.int q.num,.int (q.den:Int)]
def dp(p:Rat×Rat):D:=.tup [dq p.1,dq p.2]
theorem eq_dq(p q:Rat):eqD (dq p) (dq q)=decide (p=q):=by
 show((p.num==q.num) && (((p.den:Int)==(q.den:Int)) && true))=decide (p=q)
 by_cases h:p=q
 ·subst h;simp
 ·rw[decide_eq_false h]
  by_cases h1:p.num=q.num
  ·have h2:p.den≠q.den:=fun e=>h (Rat.ext h1 e)
   have:((p.den:Int)==(q.den:Int))=false:=by simp;omega
   rw[this];simp
  ·simp[h1]
theorem dep_dq(q:Rat):dep (dq q)=1:=rfl
theorem ix_dq0(q:Rat):oIx (dq q) (.int 0)=.ok (.int q.num):=rfl
theorem ix_dq1(q:Rat):oIx (dq q) (.int 1)=.ok (.int (q.den:Int)):=rfl
theorem ty_dq(q:Rat):tyN (dq q) = "tuple" := rfl
theorem len_dq(q:Rat):kU [dq q]=.ok (.int 2):=rfl
theorem oEq_dq(p q:Rat):oEq (dq p) (dq q)=.ok (.bl (decide (p=q))):=by
 rw[<-eq_dq];rfl
theorem oNe_dq(p q:Rat):oNe (dq p) (dq q)=.ok (.bl (!decide (p=q))):=by
 rw[<-eq_dq];rfl
theorem noL_dq(q:Rat):noL (dq q)=true:=rfl
theorem zOW(p q:Rat×Rat):eqD (dp p) (dp q)=decide (p=q):=by
 show(eqD (dq p.1) (dq q.1) && (eqD (dq p.2) (dq q.2) && true))=decide (p=q)
 rw[eq_dq,eq_dq];obtain⟨a,b⟩:=p;obtain⟨c,d⟩:=q;simp
theorem dp_mk(a b:Rat):(.tup [dq a,dq b]:D)=dp (a,b):=rfl
theorem ix_dp0(p:Rat×Rat):oIx (dp p) (.int 0)=.ok (dq p.1):=rfl
theorem ix_dp1(p:Rat×Rat):oIx (dp p) (.int 1)=.ok (dq p.2):=rfl
theorem ty_dp(p:Rat×Rat):tyN (dp p) = "tuple" := rfl
theorem len_dp(p:Rat×Rat):kU [dp p]=.ok (.int 2):=rfl
theorem dep_dp(p:Rat×Rat):dep (dp p)=2:=rfl
theorem noL_dp(p:Rat×Rat):noL (dp p)=true:=rfl
theorem oEq_dp(p q:Rat×Rat):oEq (dp p) (dp q)=.ok (.bl (decide (p=q))):=by
 rw[<-zOW];rfl
theorem oNe_dp(p q:Rat×Rat):oNe (dp p) (dp q)=.ok (.bl (!decide (p=q))):=by
 rw[<-zOW];rfl
theorem fdiv_pos(a:Int){b:Int}(h:0<b):a.fdiv b=a / b:=XY a (by omega)
theorem fmod_pos(a:Int){b:Int}(h:0<b):a.fmod b=a % b:=YE a (by omega)
theorem zNr(a:Int){b:Int}(h:0<=b):a.fdiv b=a / b:=XY a h
theorem uQ(a:Int){b:Int}(h:0<=b):a.fmod b=a % b:=YE a h
theorem zDY:∀ l:List Rat,depS (l.map dq)<=1
 | []=>QY _
 | q::l=>by rw[Qq,depS];exact Xi.mpr ⟨Qf _,zDY l⟩
theorem zOf(l:List Rat):dep (.lst (l.map dq))<=50:=by rw[dep];have:=zDY l;omega
theorem zEK:∀ l:List (Rat×Rat),depS (l.map dp)<=2
 | []=>QY _
 | q::l=>by rw[Qq,depS];exact Xi.mpr ⟨Qf _,zEK l⟩
theorem noLs_dps:∀ l:List (Rat×Rat),noLs (l.map dp)=true
 | []=>rfl
 | q::l=>by rw[Qq,noLs,noL_dp,noLs_dps l];rfl
theorem kD{α:Type}{l:List α}{i:Nat}{a:α}(h:l[i]?=some a):l.take (i+1)=l.take i++[a]:=by rw[XZ,h];rfl
theorem zQI{b:Int}(h:0<b):(.tup [.int 1,.int b]:D)=dq (Rat.divInt 1 b):=by
 have hb:b≠0:=by omega
 have e:Fq.dv 1 b=1:=by unfold Fq.dv;rw[if_neg (by omega)];simp
 unfold dq;rw[<-Fq.zCo hb,<-Fq.zCm hb,e];simp
theorem zQf(k:Int):(.tup [.int k,.int 1]:D)=dq (k:Rat):=rfl
end Fr
namespace L3
open PySem
def zKg(b:Sv):Fl->Res Fl
 | .nx ρ=>b ρ
 | .ret r=>.ok (.ret r)
 | .brk ρ=>.ok (.brk ρ)
 | .ctn ρ=>.ok (.ctn ρ)
theorem sSeq_at{a b:Sv}{ρ:Rho}:aZ a b ρ=(a ρ).bind (zKg b):=by
 unfold aZ;congr;funext f;cases f<;>rfl
def ifF(a b:Sv)(ρ:Rho):Bool->Res Fl
 | true=>a ρ
 | false=>b ρ
theorem sIf_at{t:Tv}{a b:Sv}{ρ:Rho}:sIf t a b ρ=(t ρ).bind (ifF a b ρ):=by
 unfold sIf;congr;funext c;cases c<;>rfl
def zRJ(a b:Ev)(ρ:Rho):Bool->Res D
 | true=>a ρ
 | false=>b ρ
theorem eIf_at{t:Tv}{a b:Ev}{ρ:Rho}:eIf t a b ρ=(t ρ).bind (zRJ a b ρ):=by
 unfold eIf;congr;funext c;cases c<;>rfl
def zRt(b:Ev)(ρ:Rho):D->Res D
 | .bl true=>b ρ
 | .bl false=>.ok (.bl false)
 | _=>.no
theorem eAnd_at{a b:Ev}{ρ:Rho}:zSr a b ρ=(a ρ).bind (zRt b ρ):=by
 unfold zSr;congr;funext c;cases c<;>try rfl
 rename_i c;cases c<;>rfl
def orF(b:Ev)(ρ:Rho):D->Res D
 | .bl true=>.ok (.bl true)
 | .bl false=>b ρ
 | _=>.no
theorem eOr_at{a b:Ev}{ρ:Rho}:eOr a b ρ=(a ρ).bind (orF b ρ):=by
 unfold eOr;congr;funext c;cases c<;>try rfl
 rename_i c;cases c<;>rfl
def opF(o:Op2)(b:Ev)(ρ:Rho)(x:D):Res D:=(b ρ).bind (o x)
theorem eOp_at{o:Op2}{a b:Ev}{ρ:Rho}:eOp o a b ρ=(a ρ).bind (opF o b ρ):=rfl
def consG(d:D)(ds:List D):Res (List D):=.ok (d::ds)
def consF(r:Fv)(ρ:Rho)(d:D):Res (List D):=(r ρ).bind (consG d)
theorem aCons_at{e:Ev}{r:Fv}{ρ:Rho}:aD e r ρ=(e ρ).bind (consF r ρ):=rfl
def tupF(ds:List D):Res D:=if ds.length<=16777216 then .ok (.tup ds) else .no
theorem eTup_at{a:Fv}{ρ:Rho}:zFz a ρ=(a ρ).bind tupF:=rfl
def rtF(r:Rt):Res D:=.ok r.d
def callF(m:Mir)(ds:List D):Res D:=(m ds).bind rtF
theorem eCall_at{m:Mir}{a:Fv}{ρ:Rho}:aN m a ρ=(a ρ).bind (callF m):=rfl
def isTF(T:String)(d:D):Res D:=.ok (.bl (isT T d))
theorem eIsT_at{T:String}{a:Ev}{ρ:Rho}:zST T a ρ=(a ρ).bind (isTF T):=rfl
def frzF(d:D):Res D:=if noL d=true then .ok d else .no
theorem eFrz_at{e:Ev}{ρ:Rho}:zOt e ρ=(e (ρ.map Sl.frz)).bind frzF:=rfl
def fLstF(ds:List D):Res (List D):=if ds.length<=16777216 then .ok ds else .no
theorem fLst_at{a:Fv}{ρ:Rho}:lQ a ρ=(a ρ).bind fLstF:=rfl
def rtFF:Rt->Res (List D)
 | .f ds=>.ok ds
 | .v _=>.no
def fcallF(m:Mir)(ds:List D):Res (List D):=(m ds).bind rtFF
theorem fCall_at{m:Mir}{a:Fv}{ρ:Rho}:cU m a ρ=(a ρ).bind (fcallF m):=by
 unfold cU fcallF;congr
def zHI:List D->Res (List D)
 | [.lst ds]=>.ok ds
 | [.tup ds]=>.ok ds
 | _=>.no
theorem fListF_l{ds:List D}:zHI [.lst ds]=.ok ds:=rfl
theorem fListF_t{ds:List D}:zHI [.tup ds]=.ok ds:=rfl
theorem fList_at{a:Fv}{ρ:Rho}:zRD a ρ=(a ρ).bind zHI:=rfl
def catG(x y:D):Res (List D):=match x,y with
 | .lst ds,.lst es=>if ds.length+es.length<=16777216 then .ok (ds++es) else .no
 | _,_=>.no
def catF(b:Ev)(ρ:Rho)(x:D):Res (List D):=(b ρ).bind (catG x)
theorem fCat_at{a b:Ev}{ρ:Rho}:zOp a b ρ=(a ρ).bind (catF b ρ):=rfl
def efF(ds:List D):Res D:=.ok (.lst ds)
theorem eF_at{f:Fv}{ρ:Rho}:eF f ρ=(f ρ).bind efF:=rfl
def fFrzF(ds:List D):Res (List D):=if noLs ds=true then .ok ds else .no
theorem fFrz_at{f:Fv}{ρ:Rho}:zOu f ρ=(f (ρ.map Sl.frz)).bind fFrzF:=rfl
def oSF:D->Res (Option Int)
 | .int i=>.ok (some i)
 | _=>.no
theorem oS_at{e:Ev}{ρ:Rho}:oS e ρ=(e ρ).bind oSF:=by
 unfold oS;congr
def fSlH(x:D)(l h:Option Int):Res (List D):=match x with
 | .lst ds=>.ok (lF ds l h)
 | _=>.no
def fSlG(hi:Ov)(ρ:Rho)(x:D)(l:Option Int):Res (List D):=(hi ρ).bind (fSlH x l)
def fSlF(lo hi:Ov)(ρ:Rho)(x:D):Res (List D):=(lo ρ).bind (fSlG hi ρ x)
theorem fSl_at{a:Ev}{lo hi:Ov}{ρ:Rho}:fSl a lo hi ρ=(a ρ).bind (fSlF lo hi ρ):=rfl
def zSX(x:D)(l h:Option Int):Res D:=match x with
 | .tup ds=>if (lF ds l h).length<ds.length then .ok (.tup (lF ds l h)) else .no
 | _=>.no
def blF:D->Res Bool
 | .bl b=>.ok b
 | _=>.no
theorem tVal_at{e:Ev}{ρ:Rho}:dY e ρ=(e ρ).bind blF:=by
 unfold dY;congr
def notF(b:Bool):Res Bool:=.ok (!b)
theorem tNotB_at{t:Tv}{ρ:Rho}:zKC t ρ=(t ρ).bind notF:=rfl
def zNs(u:Tv)(ρ:Rho):Bool->Res Bool
 | true=>u ρ
 | false=>.ok false
theorem tAndB_at{t u:Tv}{ρ:Rho}:zAK t u ρ=(t ρ).bind (zNs u ρ):=by
 unfold zAK;congr;funext c;cases c<;>rfl
def zQU(u:Tv)(ρ:Rho):Bool->Res Bool
 | true=>.ok true
 | false=>u ρ
theorem tOrB_at{t u:Tv}{ρ:Rho}:zJt t u ρ=(t ρ).bind (zQU u ρ):=by
 unfold zJt;congr;funext c;cases c<;>rfl
def setF(i:Nat)(ρ:Rho)(d:D):Res Fl:=.ok (.nx (ρ.set i (.val d)))
theorem sSet_at{i:Nat}{e:Ev}{ρ:Rho}:cZ i e ρ=(e ρ).bind (setF i ρ):=rfl
def ownF(i:Nat)(ρ:Rho)(ds:List D):Res Fl:=.ok (.nx (ρ.set i (.own ds)))
theorem sOwn_at{i:Nat}{f:Fv}{ρ:Rho}:zH i f ρ=(f ρ).bind (ownF i ρ):=rfl
def dropF(ρ:Rho)(_d:D):Res Fl:=.ok (.nx ρ)
theorem sDrop_at{e:Ev}{ρ:Rho}:pH e ρ=(e ρ).bind (dropF ρ):=rfl
def retF(d:D):Res Fl:=.ok (.ret (.v d))
theorem sRet_at{e:Ev}{ρ:Rho}:iX e ρ=(e (ρ.map Sl.frz)).bind retF:=rfl
def retFF(ds:List D):Res Fl:=.ok (.ret (.f ds))
theorem sRetF_at{f:Fv}{ρ:Rho}:gH f ρ=(f (ρ.map Sl.frz)).bind retFF:=rfl
def raiseF(c:Str)(ds:List D):Res Fl:=if ds.length<=16777216 then .err c else .no
theorem sRaise_at{c:Str}{a:Fv}{ρ:Rho}:iA c a ρ=(a ρ).bind (raiseF c):=rfl
def appF(i:Nat)(ρ:Rho)(ds:List D)(d:D):Res Fl:=if ds.length<16777216 then .ok (.nx (ρ.set i (.own (ds++[d])))) else .no
def appS(i:Nat)(e:Ev)(ρ:Rho):Option Sl->Res Fl
 | some (.own ds)=>(e ρ).bind (appF i ρ ds)
 | _=>.no
theorem sApp_at{i:Nat}{e:Ev}{ρ:Rho}:zCW i e ρ=appS i e ρ ρ[i]?:=by
 unfold zCW appS;rfl
def extF(i:Nat)(ρ:Rho)(ds:List D)(es:List D):Res Fl:=if ds.length+es.length<=16777216 then .ok (.nx (ρ.set i (.own (ds++es)))) else .no
def extS(i:Nat)(e:Fv)(ρ:Rho):Option Sl->Res Fl
 | some (.own ds)=>(e ρ).bind (extF i ρ ds)
 | _=>.no
theorem sExt_at{i:Nat}{e:Fv}{ρ:Rho}:zIl i e ρ=extS i e ρ ρ[i]?:=by
 unfold zIl extS;rfl
def augF(i:Nat)(ρ:Rho)(o:Op2)(x y:D):Res Fl:=(o x y).bind (setF i ρ)
def augS(i:Nat)(o:Op2)(e:Ev)(ρ:Rho):Option Sl->Res Fl
 | some (.val x)=>(e ρ).bind (augF i ρ o x)
 | _=>.no
theorem sAug_at{i:Nat}{o:Op2}{e:Ev}{ρ:Rho}:zJv i o e ρ=augS i o e ρ ρ[i]?:=by
 unfold zJv augS;rfl
def dropG(ρ:Rho)(_r:Rt):Res Fl:=.ok (.nx ρ)
def setG(i:Nat)(ρ:Rho)(r:Rt):Res Fl:=.ok (.nx (ρ.set i (.val r.d)))
def varS:Option Sl->Res D
 | some (.val d)=>.ok d
 | _=>.no
theorem eVar_at{i:Nat}{ρ:Rho}:aI i ρ=varS ρ[i]?:=by
 unfold aI varS;rfl
def retS:Option Sl->Res Fl
 | some (.own ds)=>.ok (.ret (.f ds))
 | _=>.no
theorem sRetOwn_at{i:Nat}{ρ:Rho}:fA i ρ=retS ρ[i]?:=by
 unfold fA retS;rfl
def nxF(ρ:Rho):Res Fl:=.ok (.nx ρ)
def unpF(g:Gv)(ρ:Rho)(d:D):Res Fl:=(g d ρ).bind nxF
theorem sUnp_at{g:Gv}{f:Ev}{ρ:Rho}:zSE g f ρ=(f ρ).bind (unpF g ρ):=rfl
def gtF(gs:List D->Rho->Res Rho)(ρ:Rho):D->Res Rho
 | .tup ds=>gs ds ρ
 | _=>.no
theorem gTup_at{gs:List D->Rho->Res Rho}{d:D}{ρ:Rho}:zGK gs d ρ=gtF gs ρ d:=by
 unfold zGK gtF;rfl
theorem gCons_at{g:Gv}{r:List D->Rho->Res Rho}{d:D}{ds:List D}{ρ:Rho}:nX g r (d::ds) ρ=(g d ρ).bind (r ds):=rfl
theorem gNil_at{ρ:Rho}:zHJ [] ρ=.ok ρ:=rfl
def forF(g:Gv)(b:Sv)(ρ:Rho)(ds:List D):Res Fl:=loop g b ds ρ
theorem sFor_at{it:Fv}{g:Gv}{b:Sv}{ρ:Rho}:zAO it g b ρ=(it ρ).bind (forF g b ρ):=rfl
def zJp:D->Res (List D)
 | .lst ds=>.ok ds
 | .tup ds=>.ok ds
 | _=>.no
theorem seqD_l{ds:List D}:zJp (.lst ds)=.ok ds:=rfl
theorem seqD_t{ds:List D}:zJp (.tup ds)=.ok ds:=rfl
theorem iSeq_at{e:Ev}{ρ:Rho}:qE e ρ=(e ρ).bind zJp:=by
 unfold qE;congr
def tplD:D->Res (List D)
 | .tup ds=>.ok ds
 | _=>.no
theorem iTpl_at{e:Ev}{ρ:Rho}:zOq e ρ=(e ρ).bind tplD:=by
 unfold zOq;congr
def zPD:List D->Res (List D)
 | [.int j]=>if -(2^62)<=j/\j<2^62 then .ok (rng 0 j.toNat 1) else .no
 | _=>.no
theorem iRng1_at{a:Fv}{ρ:Rho}:zFe a ρ=(a ρ).bind zPD:=rfl
def zQb:List D->Res (List D)
 | [.int i,.int j]=>if -(2^62)<=i/\i<2^62/\-(2^62)<=j/\j<2^62 then .ok (rng i (j-i).toNat 1) else .no
 | _=>.no
theorem iRng2_at{a:Fv}{ρ:Rho}:zGU a ρ=(a ρ).bind zQb:=rfl
theorem fn_at{p n:Nat}{b:Sv}{ds:List D}(h:ds.length=p):fn p n b ds=(b (start n ds)).bind fin:=by
 unfold fn;rw[if_pos h]
theorem nr{α:Sort _}{a b:α}(h:a=b):a=b:=h
theorem okb{α β:Type}{a:α}{f:α->Res β}:(Res.ok a).bind f=f a:=nr rfl
theorem erb{α β:Type}{c:Str}{f:α->Res β}:(Res.err c).bind f=.err c:=nr rfl
theorem seqF_nx{b:Sv}{ρ:Rho}:zKg b (.nx ρ)=b ρ:=nr rfl
theorem seqF_ret{b:Sv}{r:Rt}:zKg b (.ret r)=.ok (.ret r):=nr rfl
theorem gtF_t{gs:List D->Rho->Res Rho}{ρ:Rho}{ds:List D}:gtF gs ρ (.tup ds)=gs ds ρ:=nr rfl
theorem ifF_t{a b:Sv}{ρ:Rho}:ifF a b ρ true=a ρ:=nr rfl
theorem ifF_f{a b:Sv}{ρ:Rho}:ifF a b ρ false=b ρ:=nr rfl
theorem eifF_t{a b:Ev}{ρ:Rho}:zRJ a b ρ true=a ρ:=nr rfl
theorem eifF_f{a b:Ev}{ρ:Rho}:zRJ a b ρ false=b ρ:=nr rfl
theorem andF_t{b:Ev}{ρ:Rho}:zRt b ρ (.bl true)=b ρ:=nr rfl
theorem andF_f{b:Ev}{ρ:Rho}:zRt b ρ (.bl false)=.ok (.bl false):=nr rfl
theorem orF_t{b:Ev}{ρ:Rho}:orF b ρ (.bl true)=.ok (.bl true):=nr rfl
theorem orF_f{b:Ev}{ρ:Rho}:orF b ρ (.bl false)=b ρ:=nr rfl
theorem tandF_t{u:Tv}{ρ:Rho}:zNs u ρ true=u ρ:=nr rfl
theorem tandF_f{u:Tv}{ρ:Rho}:zNs u ρ false=.ok false:=nr rfl
theorem torF_t{u:Tv}{ρ:Rho}:zQU u ρ true=.ok true:=nr rfl
theorem torF_f{u:Tv}{ρ:Rho}:zQU u ρ false=u ρ:=nr rfl
theorem oAdd_i{i j:Int}:xS (.int i) (.int j)=.ok (.int (i+j)):=rfl
theorem oAddI_i{i j:Int}:zAX (.int i) (.int j)=.ok (.int (i+j)):=rfl
theorem oSub_i{i j:Int}:wI (.int i) (.int j)=.ok (.int (i-j)):=rfl
theorem oMul_i{i j:Int}(h:jQ i j=true):wH (.int i) (.int j)=.ok (.int (i*j)):=if_pos h
theorem oDiv_i{i j:Int}(h:lN j=true):uV (.int i) (.int j)=.ok (.int (i.fdiv j)):=if_pos h
theorem oMod_i{i j:Int}(h:j≠0):sN (.int i) (.int j)=.ok (.int (i.fmod j)):=if_pos h
theorem oPow_i{i j:Int}(h:uY i j=true):zJu (.int i) (.int j)=.ok (.int (i^j.toNat)):=if_pos h
theorem oEq_i{i j:Int}:oEq (.int i) (.int j)=.ok (.bl (decide (i=j))):=rfl
theorem oNe_i{i j:Int}:oNe (.int i) (.int j)=.ok (.bl (!decide (i=j))):=rfl
theorem oLt_i{i j:Int}:oLt (.int i) (.int j)=.ok (.bl (decide (i<j))):=rfl
theorem oLe_i{i j:Int}:oLe (.int i) (.int j)=.ok (.bl (decide (i<=j))):=rfl
theorem oGt_i{i j:Int}:oGt (.int i) (.int j)=.ok (.bl (decide (j<i))):=rfl
theorem oGe_i{i j:Int}:oGe (.int i) (.int j)=.ok (.bl (decide (j<=i))):=rfl
theorem zRz{ds:List D}{i:Int}:oIx (.lst ds) (.int i)=ofO (atD ds i):=rfl
theorem ofO_some{α:Type}{a:α}:ofO (some a)=.ok a:=rfl
theorem oNeg_i{i:Int}:zKM (.int i)=.ok (.int (-i)):=rfl
theorem oNot_b{b:Bool}:zSB (.bl b)=.ok (.bl (!b)):=rfl
theorem bAbs_i{i:Int}:zOi [.int i]=.ok (.int (i.natAbs:Int)):=by
 show Res.ok (D.int (if i<0 then -i else i))=_
 congr 2;split<;>omega
theorem bMax_i{i j:Int}:zPA [.int i,.int j]=.ok (.int (max i j)):=by
 show Res.ok (D.int (if j > i then j else i))=_
 congr 2;split<;>omega
theorem bMin_i{i j:Int}:zQh [.int i,.int j]=.ok (.int (min i j)):=by
 show Res.ok (D.int (if j<i then j else i))=_
 congr 2;split<;>omega
theorem zDl{j:Int}(h1:-(2^62)<=j)(h2:j<2^62):zPD [.int j]=.ok (rng 0 j.toNat 1):=if_pos ⟨h1,h2⟩
theorem zNo{i j:Int}(h1:-(2^62)<=i)(h2:i<2^62)(h3:-(2^62)<=j)(h4:j<2^62):zQb [.int i,.int j]=.ok (rng i (j-i).toNat 1):=if_pos ⟨h1,h2,h3,h4⟩
theorem zDE{α:Type}{g:Gv}{b:Sv}{ds:List D}{ρ:Rho}{k:Fl->Res α}{Q:Res α->Prop}(P:Rho->Prop)(h0:P ρ)
  (st:∀ d ρ,d∈ds->P ρ->∃ ρ2,(g d ρ).bind b=.ok (.nx ρ2)/\P ρ2) (fi:∀ ρ',P ρ'->Q (k (.nx ρ'))):Q ((loop g b ds ρ).bind k):=by
 suffices h:∃ ρ',loop g b ds ρ=.ok (.nx ρ')/\P ρ' by
  obtain⟨ρ',e,hp⟩:=h;rw[e];exact fi ρ' hp
 clear fi
 induction ds generalizing ρ with
 | nil=>exact⟨ρ,rfl,h0⟩
 | cons d ds ih=>
  obtain⟨ρ2,e,hp⟩:=st d ρ Qb h0;obtain⟨ρ',e',hp'⟩:=ih hp fun d' ρ' hd=>st d' ρ' (Qc _ hd)
  refine⟨ρ',?_,hp'⟩
  rw[loop]
  cases hg:g d ρ with
  | no=>rw[hg] at e;cases e
  | err c=>rw[hg] at e;cases e
  | ok ρ1=>
   rw[hg] at e;have e2:b ρ1=.ok (.nx ρ2):=e;simp only[Res.bind,e2];exact e'
theorem ty_i{i:Int}:tyN (.int i) = "int" := rfl
theorem ty_b{b:Bool}:tyN (.bl b) = "bool" := rfl
theorem ty_t{ds:List D}:tyN (.tup ds) = "tuple" := rfl
theorem ty_l{ds:List D}:tyN (.lst ds) = "list" := rfl
theorem ty_s{x:Str}:tyN (.str x) = "str" := rfl
theorem ty_n:tyN .non = "NoneType" := rfl
theorem bLen_t{ds:List D}:kU [.tup ds]=.ok (.int ds.length):=rfl
theorem bLen_l{ds:List D}:kU [.lst ds]=.ok (.int ds.length):=rfl
theorem bTup_t{ds:List D}:zKu [.tup ds]=.ok (.tup ds):=rfl
theorem bTup_l{ds:List D}:zKu [.lst ds]=.ok (.tup ds):=rfl
theorem kJ{α:Type}{g:Gv}{b:Sv}{ds:List D}{ρ:Rho}{k:Fl->Res α}{Q:Res α->Prop}(P:Nat->Rho->Prop)(h0:P 0 ρ)
  (st:∀ i d ρ,ds[i]?=some d->P i ρ->∃ ρ2,(g d ρ).bind b=.ok (.nx ρ2)/\P (i+1) ρ2) (fi:∀ ρ',P ds.length ρ'->Q (k (.nx ρ'))):Q ((loop g b ds ρ).bind k):=by
 suffices h:∀(ds:List D)(j:Nat)(ρ:Rho),P j ρ->(∀ i d ρ,ds[i]?=some d->P (j+i) ρ->∃ ρ2,(g d ρ).bind b=.ok (.nx ρ2)/\P (j+i+1) ρ2)->∃ ρ',loop g b ds ρ=.ok (.nx ρ')/\P (j+ds.length) ρ' by
  obtain⟨ρ',e,hp⟩:=h ds 0 ρ h0 (fun i d ρ hd hp=>by rw[VC] at hp ⊢;exact st i d ρ hd hp)
  rw[e];exact fi ρ' (by rw[VC] at hp;exact hp)
 intro ds
 induction ds with
 | nil=>intro j ρ hp _;exact⟨ρ,rfl,hp⟩
 | cons d ds ih=>
  intro j ρ hp st;obtain⟨ρ2,e,hp2⟩:=st 0 d ρ rfl hp
  obtain⟨ρ',e',hp'⟩:=ih (j+1) ρ2 hp2 fun i d' ρ' hd hp=>by
   have:=st (i+1) d' ρ' (by simpa using hd) (by rw[show j+(i+1)=j+1+i by omega];exact hp)
   rw[show j+(i+1)=j+1+i by omega] at this;exact this
  refine⟨ρ',?_,by rw[Qn,show j+(ds.length+1)=j+1+ds.length by omega];exact hp'⟩
  rw[loop]
  cases hg:g d ρ with
  | no=>rw[hg] at e;cases e
  | err c=>rw[hg] at e;cases e
  | ok ρ1=>
   rw[hg] at e;have e2:b ρ1=.ok (.nx ρ2):=e;simp only[Res.bind,e2];exact e'
theorem zKK{lo c:Int}{n i:Nat}{d:D}(h:(rng lo n c)[i]?=some d):i<n/\d=.int (lo+(i:Int)*c):=by
 unfold rng at h;rw[Qr] at h;by_cases hi:i<n
 ·rw[Vg hi] at h
  cases h;exact⟨hi,rfl⟩
 ·rw[QH (by rw[QE];omega)] at h
  cases h
theorem zEp{f:Ev}{ρ:Rho}{h:D->D}:∀ {ds:List D},(∀ d∈ds,f (ρ++[.val d])=.ok (h d))->hG iZ f ρ ds=.ok (ds.map h)
 | [],_=>rfl
 | d::ds,hf=>by
  rw[hG,hf d Qb];simp only[iZ,noErr,Res.bind,if_true];rw[zEp fun e he=>hf e (Qc _ he)];rfl
def zHe(t:Tv)(f:Ev)(ρ:Rho)(ds:List D):Res (List D):=if ds.length<=16777215 then hG t f ρ ds else .no
theorem fComp_at{it:Fv}{t:Tv}{f:Ev}{ρ:Rho}:jR it t f ρ=(it ρ).bind (zHe t f ρ):=rfl
theorem zCf{f:Ev}{ρ:Rho}{h:D->D}{ds:List D}(hl:ds.length<=16777215)(hf:∀ d∈ds,f (ρ++[.val d])=.ok (h d)):zHe iZ f ρ ds=.ok (ds.map h):=by
 unfold zHe;rw[if_pos hl,zEp hf]
theorem zDL{d:D}(h:dep d<=50):oNe d d=.ok (.bl false):=by unfold oNe;rw[if_pos h,sZ];rfl
theorem pD{ds:List D}{k:Int}(h:0<=k):lF ds none (some k)=ds.take k.toNat:=by
 unfold lF cut;simp only[h,if_true,List.drop_zero,Nat.sub_zero];rcases XW k.toNat ds.length with l | l
 ·rw[Xp l]
 ·rw[X0 l,Q9,X1 l]
theorem zJS{α:Type}(l:List α)(a:Nat):l.drop (min a l.length)=l.drop a:=by
 rcases XW a l.length with h | h
 ·rw[Xp h]
 ·rw[X0 h,List.drop_length,Xq h]
theorem nN{ds:List D}{a:Int}(h1:0<=a):lF ds (some a) none=ds.drop a.toNat:=by
 unfold lF cut;simp only[h1,if_true];rw[zJS,X1 (by rw[V3];omega)]
theorem yC{α:Type}{f:α->D}{l:List α}{i:Int}{a:α}(h0:0<=i)(h:l[i.toNat]?=some a):oIx (.lst (l.map f)) (.int i)=.ok (f a):=by
 show ofO (atD (l.map f) i)=_
 unfold atD;rw[if_pos h0,Qr,h];rfl
def popS(i:Nat)(ρ:Rho):Option Sl->Res Fl
 | some (.own ds)=>if ds.length=0 then .no else .ok (.nx (ρ.set i (.own ds.dropLast)))
 | _=>.no
theorem sPop_at{i:Nat}{ρ:Rho}:zOS i ρ=popS i ρ ρ[i]?:=by unfold zOS popS;rfl
theorem oIx_tc{d:D}{ds:List D}{i:Int}:oIx (.tup (d::ds)) (.int i)=ofO (atD (d::ds) i):=rfl
theorem wF{α:Type}{f:α->D}{l:List α}{i:Int}{a:α}(h0:0<=i)(h:l[i.toNat]?=some a):oIx (.tup (l.map f)) (.int i)=.ok (f a):=by
 show ofO (atD (l.map f) i)=_
 unfold atD;rw[if_pos h0,Qr,h];rfl
theorem zLB{α:Type}{f:α->D}{l:List α}{k:Nat}{a:α}(h0:0<k)(h:k<=l.length)(h2:l[l.length-k]?=some a):atD (l.map f) (-(k:Int))=some (f a):=by
 unfold atD;rw[if_neg (by omega),Qd,if_pos (by omega),show((l.length:Int)+-(k:Int)).toNat=l.length-k by omega,Qr,h2];rfl
theorem zDK{α:Type}{f:α->D}{l:List α}{k:Nat}{i:Int}{a:α}(hi:i=-(k:Int))(h0:0<k)(h:k<=l.length)(h2:l[l.length-k]?=some a):oIx (.lst (l.map f)) (.int i)=.ok (f a):=by
 show ofO (atD (l.map f) i)=_
 rw[hi,zLB h0 h h2];rfl
theorem zHV{α:Type}{f:α->D}{l:List α}{k:Nat}{i:Int}{a:α}(hi:i=-(k:Int))(h0:0<k)(h:k<=l.length)(h2:l[l.length-k]?=some a):oIx (.tup (l.map f)) (.int i)=.ok (f a):=by
 show ofO (atD (l.map f) i)=_
 rw[hi,zLB h0 h h2];rfl
def zQV(ds:List D):D->Res (List D)
 | .int k=>if 0<=k/\k<2^62/\ds.length*k.toNat<=16777216 then .ok (List.replicate k.toNat ds).flatten else .no
 | _=>.no
def repF(g:Ev)(ρ:Rho)(ds:List D):Res (List D):=(g ρ).bind (zQV ds)
theorem fRep_at{f:Fv}{g:Ev}{ρ:Rho}:zMb f g ρ=(f ρ).bind (repF g ρ):=by
 unfold zMb repF;congr
theorem zEZ{d:D}{k:Nat}(h:k<=16777216):zQV [d] (.int (k:Int))=.ok (List.replicate k d):=by
 have e:∀ n,(List.replicate n [d]).flatten=List.replicate n d:=by
  intro n
  induction n with
  | zero=>rfl
  | succ n ih=>rw[VA,VN,ih];rfl
 unfold zQV;dsimp only
 rw[if_pos ⟨by omega,by omega,by simp only[Qn,Vh,Vo];omega⟩,Vo,e]
theorem zJl{α:Type}{u:α->D}{f:Ev}{ρ:Rho}{g:α->D}:∀ {l:List α},(∀ a∈l,f (ρ++[.val (u a)])=.ok (g a))->hG iZ f ρ (l.map u)=.ok (l.map g)
 | [],_=>rfl
 | a::l,h=>by
  rw[Qq,hG,h a Qb];simp only[iZ,noErr,Res.bind,if_true];rw[zJl fun b hb=>h b (Qc _ hb)];rfl
theorem eR{α:Type}{u:α->D}{f:Ev}{ρ:Rho}{g:α->D}{l:List α}(hl:l.length<=16777215)(h:∀ a∈l,f (ρ++[.val (u a)])=.ok (g a)):zHe iZ f ρ (l.map u)=.ok (l.map g):=by
 unfold zHe;rw[if_pos (by rw[Qd];exact hl),zJl h]
theorem bSum_l{ns:List Int}:zBR [.lst (ns.map D.int)]=.ok (.int ns.sum):=by
 have e:∀ ns:List Int,jX (ns.map D.int)=some ns:=by
  intro ns
  induction ns with
  | nil=>rfl
  | cons i ns ih=>rw[Qq,jX,ih]
 show(match jX (ns.map D.int) with | some ns=>Res.ok (D.int ns.sum) | none=>.no)=_
 rw[e]
theorem bSum_t{ns:List Int}:zBR [.tup (ns.map D.int)]=.ok (.int ns.sum):=by
 have e:∀ ns:List Int,jX (ns.map D.int)=some ns:=by
  intro ns
  induction ns with
  | nil=>rfl
  | cons i ns ih=>rw[Qq,jX,ih]
 show(match jX (ns.map D.int) with | some ns=>Res.ok (D.int ns.sum) | none=>.no)=_
 rw[e]
def slI(i:Nat)(ρ:Rho):Int:=match ρ[i]? with
 | some (.val (.int x))=>x
 | _=>0
theorem chO_s{c:Nat}:chO (some c)=.ok (.str ⟨#[c]⟩):=rfl
theorem zOC{x:Str}:dep (.str x)<=50:=by simp[dep]
theorem oEq_s{x y:Str}:oEq (.str x) (.str y)=.ok (.bl (x==y)):=by
 unfold oEq;rw[if_pos zOC,eqD]
theorem oNe_s{x y:Str}:oNe (.str x) (.str y)=.ok (.bl (!(x==y))):=by
 unfold oNe;rw[if_pos zOC,eqD]
theorem eM{g:Gv}{b:Sv}{d:D}{ds:List D}{ρ ρ1 ρ2:Rho}(hg:g d ρ=.ok ρ1)(hb:b ρ1=.ok (.nx ρ2)):loop g b (d::ds) ρ=loop g b ds ρ2:=by
 rw[loop];simp only[hg,Res.bind,hb]
theorem oTabNot_s{T:List (Str×Str)}{x:Str}:rD T (.str x)=.ok (.bl (!(T.lookup x).isSome)):=rfl
theorem qI{α:Type}(p:α->Int):∀ l:List α,jX (l.map fun a=>D.int (p a))=some (l.map p)
 | []=>rfl
 | a::l=>by rw[Qq,jX,qI p l];rfl
def mx0:List Int->Int
 | []=>0
 | a::r=>uC a r
theorem zIT{α:Type}{p:α->Int}{l:List α}:zDo [.lst (l.map fun a=>D.int (p a)),.int 0]=.ok (.int (mx0 (l.map p))):=by
 show(match jX (l.map fun a=>D.int (p a)) with | some (a::r)=>Res.ok (D.int (uC a r)) | some []=>.ok (.int 0) | none=>.no)=_
 rw[qI];cases l<;>rfl
theorem zBP{α:Type}{p:α->Int}{l:List α}(h:0<l.length):zBv [.lst (l.map fun a=>D.int (p a))]=.ok (.int (mx0 (l.map p))):=by
 show(match jX (l.map fun a=>D.int (p a)) with | some (a::r)=>Res.ok (D.int (uC a r)) | _=>.no)=_
 rw[qI]
 cases l with
 | nil=>cases h
 | cons a r=>rfl
def zRT:List D->Res (List D)
 | [x,y]=>match zJn x,zJn y with
  | some xs,some ys=>.ok (jV xs ys)
  | _,_=>.no
 | _=>.no
theorem iZip_at{a:Fv}{ρ:Rho}:zLy a ρ=(a ρ).bind zRT:=by
 unfold zLy;congr
theorem oR{x y:D}{xs ys:List D}(hx:zJn x=some xs)(hy:zJn y=some ys):zRT [x,y]=.ok (jV xs ys):=by
 show(match zJn x,zJn y with | some xs,some ys=>Res.ok (jV xs ys) | _,_=>.no)=_
 rw[hx,hy]
def zGd(f:Ev)(ρ:Rho)(ds:List D):Res (List D):=if ds.length<=16777215 then fW f ρ ds else .no
theorem fComp2_at{it:Fv}{f:Ev}{ρ:Rho}:tH it f ρ=(it ρ).bind (zGd f ρ):=rfl
theorem zEN{α β:Type}{u:α->D}{v:β->D}{f:Ev}{ρ:Rho}{g:α->β->D}:∀ {l:List α} {m:List β},(∀ p∈l.zip m,f (ρ++[.val (u p.1),.val (v p.2)])=.ok (g p.1 p.2))->
  fW f ρ (jV (l.map u) (m.map v))=.ok ((l.zip m).map fun p=>g p.1 p.2)
 | [],m,h=>by cases m<;>rfl
 | a::l,[],h=>rfl
 | a::l,b::m,h=>by
  have h1:=h (a,b) Qb;have h2:=zEN (l:=l) (m:=m) (u:=u) (v:=v) (g:=g) fun p hp=>h p (Qc _ hp)
  show(noErr (f (ρ++[.val (u a),.val (v b)]))).bind (fun e=>(fW f ρ (jV (l.map u) (m.map v))).bind fun es=>.ok (e::es))=_
  rw[h1,h2];rfl
theorem lT{α β:Type}{u:α->D}{v:β->D}{f:Ev}{ρ:Rho}{g:α->β->D}{l:List α}{m:List β}(hl:l.length<=16777215)(h:∀ p∈l.zip m,f (ρ++[.val (u p.1),.val (v p.2)])=.ok (g p.1 p.2)):
  zGd f ρ (jV (l.map u) (m.map v))=.ok ((l.zip m).map fun p=>g p.1 p.2):=by
 unfold zGd;rw[if_pos,zEN h]
 have:∀(a b:List D),(jV a b).length<=a.length:=by
  intro a
  induction a with
  | nil=>intro b;cases b<;>exact Qf _
  | cons x a ih=>intro b;cases b with
   | nil=>exact QY _
   | cons y b=>exact X2 (ih b)
 exact Qv (this _ _) (by rw[Qd];exact hl)
end L3
namespace Ln
open Fq
abbrev Pt:=Rat×Rat
def asc(a b:Pt):Prop:=a.1<b.1/\a.2<=b.2
def btw(a b c:Pt):Bool:=decide ((b.2-a.2)*(c.1-b.1)=(c.2-b.2)*(b.1-a.1))
def push:List Pt->Pt->List Pt
 | b::a::s,c=>if btw a b c=true then c::a::s else c::b::a::s
 | s,c=>c::s
theorem zFi{s:List Pt}{c:Pt}(h:¬ 1<s.length):push s c=c::s:=by
 match s,h with
 | [],_=>rfl
 | [b],_=>rfl
 | b::a::s,h=>exact absurd (show 1<s.length+2 by omega) h
def lD(ps:List Pt):List Pt:=(ps.foldl push []).reverse
def few:Pt->List Pt->List Pt
 | _,[]=>[]
 | _,[b]=>[b]
 | a,b::c::r=>if btw a b c=true then few b (c::r) else b::few b (c::r)
def zCF:List Pt->List Pt
 | []=>[]
 | a::r=>a::few a r
def dir(a p b:Pt):Prop:=a.1<b.1/\p.1<b.1/\(b.2-a.2)*(b.1-p.1)=(b.2-p.2)*(b.1-a.1)
theorem jH{x a b:Rat}(h:x≠0)(e:a*x=b*x):a=b:=by
 have:a*x*x⁻¹=b*x*x⁻¹:=by rw[e]
 rw[X3,X3,Vi _ h,Rat.mul_one,Rat.mul_one] at this;exact this
theorem vQ{a p b c:Pt}(h:dir a p b):btw a b c=btw p b c:=by
 obtain⟨h1,h2,h3⟩:=h;unfold btw;have n1:b.1-a.1≠0:=by grind
 have n2:b.1-p.1≠0:=by grind
 congr 1
 apply propext
 constructor
 ·intro e
  refine jH n1 ?_
  grind
 ·intro e
  refine jH n2 ?_
  grind
theorem zDC{a b c:Pt}(h:a.1<b.1)(k:b.1<c.1)(e:btw a b c=true):dir a b c:=by
 have e:=of_decide_eq_true e;refine⟨by grind,k,?_⟩
 grind
theorem zU:∀(r:List Pt)(p b a:Pt)(s:List Pt),dir a p b->(b::r).Pairwise asc->(r.foldl push (b::a::s)).reverse=(a::s).reverse++few p (b::r)
 | [],p,b,a,s,_,_=>by simp[few]
 | c::r,p,b,a,s,h,hp=>by
  have hbc:asc b c:=(Qo.mp hp).1 c Qb;have hr:=(Qo.mp hp).2;rw[XS,push,few,vQ h];by_cases e:btw p b c=true
  ·rw[if_pos e,if_pos e]
   exact zU r b c a s (zDC h.1 hbc.1 (by rw[vQ h];exact e)) hr
  ·rw[if_neg e,if_neg e,zU r b c b (a::s) ⟨hbc.1,hbc.1,rfl⟩ hr]
   simp
theorem qB{ps:List Pt}(h:ps.Pairwise asc):lD ps=zCF ps:=by
 unfold lD
 match ps,h with
 | [],_=>rfl
 | [a],_=>rfl
 | a::b::r,h=>
  have hab:=(Qo.mp h).1 b Qb;show(r.foldl push [b,a]).reverse=_
  rw[zU r a b a [] ⟨hab.1,hab.1,rfl⟩ (Qo.mp h).2];rfl
theorem zDI:∀(r:List Pt)(a:Pt),(few a r).Sublist r
 | [],_=>List.Sublist.slnil
 | [b],_=>List.Sublist.refl _
 | b::c::r,a=>by
  rw[few];split
  ·exact(zDI (c::r) b).cons b
  ·exact(zDI (c::r) b).cons₂ b
theorem yE(ps:List Pt):(zCF ps).Sublist ps:=by
 cases ps with
 | nil=>exact List.Sublist.slnil
 | cons a r=>exact(zDI r a).cons₂ a
theorem zEL:∀(r:List Pt)(a:Pt),(few a r).getLast?=r.getLast?
 | [],_=>rfl
 | [b],_=>rfl
 | b::c::r,a=>by
  have ih:=zEL (c::r) b;rw[few];split
  ·rw[ih];rfl
  ·rw[VR,ih]
   simp[VR]
theorem zCO(ps:List Pt):(zCF ps).getLast?=ps.getLast?:=by
 cases ps with
 | nil=>rfl
 | cons a r=>rw[zCF,VR,zEL,VR]
def zJr:List Pt->Prop
 | a::b::c::r=>btw a b c=false/\zJr (b::c::r)
 | _=>True
theorem zEq:∀(r:List Pt)(p b:Pt),(p::b::r).Pairwise asc->∃ d t,few p (b::r)=d::t/\b.1<=d.1/\(d.2-p.2)*(b.1-p.1)=(b.2-p.2)*(d.1-p.1)
 | [],p,b,_=>⟨b,[],rfl,Qh,rfl⟩
 | c::r,p,b,h=>by
  have h1:=Qo.mp h;have h2:=Qo.mp h1.2;have pb:=h1.1 b Qb;have bc:=h2.1 c Qb;rw[few];by_cases e:btw p b c=true
  ·rw[if_pos e]
   obtain⟨d,t,e1,l,e2⟩:=zEq r b c h1.2;have e3:=of_decide_eq_true e;refine⟨d,t,e1,by grind [asc],?_⟩
   have n:c.1-b.1≠0:=by grind [asc]
   refine jH n ?_
   have e4:(d.2-b.2)*(b.1-p.1)=(b.2-p.2)*(d.1-b.1):=by
    refine jH n ?_
    grind
   grind
  ·rw[if_neg e]
   exact⟨b,_,rfl,Qh,rfl⟩
theorem yZ:∀(r:List Pt)(a p b:Pt),dir a p b->(b::r).Pairwise asc->(p::b::r).Pairwise asc->zJr (a::few p (b::r))
 | [],a,p,b,_,_,_=>by simp[few,zJr]
 | c::r,a,p,b,h,hb,hp=>by
  have bc:=(Qo.mp hb).1 c Qb;have hc:=(Qo.mp hb).2;rw[few];by_cases e:btw p b c=true
  ·rw[if_pos e]
   exact yZ r a b c (zDC h.1 bc.1 (by rw[vQ h];exact e)) hc hb
  ·rw[if_neg e]
   have ih:=yZ r b b c ⟨bc.1,bc.1,rfl⟩ hc hb;obtain⟨d,t,e1,l,e2⟩:=zEq r b c hb;rw[e1] at ih ⊢
   refine⟨?_,ih⟩
   rw[vQ h];rw[Bool.eq_false_iff];intro z;apply e
   have z:=of_decide_eq_true z;refine decide_eq_true ?_
   have n:d.1-b.1≠0:=by grind [asc]
   refine jH n ?_
   grind
theorem zCL{ps:List Pt}(h:ps.Pairwise asc):zJr (zCF ps):=by
 match ps,h with
 | [],_=>trivial
 | [a],_=>trivial
 | a::b::r,h=>
  have hab:=(Qo.mp h).1 b Qb;exact yZ r a a b ⟨hab.1,hab.1,rfl⟩ (Qo.mp h).2 h
def Ok(ps:List Pt):Prop:=ps.head?=some (0,0)/\ps.Pairwise asc
def zOs(ps:List Pt):Prop:=Ok ps/\zJr ps
theorem kH{ps:List Pt}(h:Ok ps):zOs (lD ps):=by
 rw[qB h.2];refine⟨⟨?_,h.2.sublist (yE ps)⟩,zCL h.2⟩
 obtain⟨h,_⟩:=h
 cases ps with
 | nil=>cases h
 | cons a r=>exact h
theorem jZ{ps:List Pt}(h:ps.Pairwise asc){i j:Nat}{a b:Pt}(l:i<j)(ha:ps[i]?=some a)(hb:ps[j]?=some b):asc a b:=by
 obtain⟨hi,rfl⟩:=Qz.mp ha;obtain⟨hj,rfl⟩:=Qz.mp hb;exact Xr.mp h i j hi hj l
theorem lt_iff{p q:Rat}:p.num*q.den<q.num*p.den ↔ p<q:=Rat.lt_iff p q |>.symm
theorem zFP{t b:Int}(ht:0<t)(hb:0<b):0<Rat.divInt t b:=by
 rw[VD];have h1:(0:Rat)<(t:Rat):=by exact_mod_cast ht
 have h2:(0:Rat)<(b:Rat):=by exact_mod_cast hb
 rw[QI];exact X4 h1 (X5.mpr h2)
theorem zIA{t b:Int}(ht:0<=t)(hb:0<b):0<=Rat.divInt t b:=by
 rcases Int.lt_or_eq_of_le ht with h | h
 ·exact Qg (zFP h hb)
 ·rw[<-h,X6];exact Qh
def itp(p q:Pt)(x:Rat):Rat:=p.2+(x-p.1) / (q.1-p.1)*(q.2-p.2)
def aV:List Pt->Rat->Rat
 | [],_=>0
 | [p],_=>p.2
 | p::q::r,x=>if x<=q.1 then itp p q x else aV (q::r) x
theorem zNd(p q:Pt):itp p q p.1=p.2:=by
 unfold itp;rw[Rat.sub_self,QI,X7,X7,Rat.add_zero]
theorem zNV{p q:Pt}(h:p.1<q.1):itp p q q.1=q.2:=by
 unfold itp;have n:q.1-p.1≠0:=by grind
 rw[QI,Vi _ n,Rat.one_mul];grind
theorem bN:∀ {ps:List Pt},ps.Pairwise asc->∀ {i:Nat} {p:Pt},ps[i]?=some p->aV ps p.1=p.2
 | [],_,i,p,hp=>by cases hp
 | [a],_,i,p,hp=>by
  cases i with
  | zero=>cases hp;rfl
  | succ i=>cases hp
 | a::b::r,h,i,p,hp=>by
  have hab:=(Qo.mp h).1 b Qb;rw[aV]
  match i,hp with
  | 0,hp=>
   cases hp;rw[if_pos (Qg hab.1),zNd]
  | 1,hp=>
   cases hp;rw[if_pos Qh,zNV hab.1]
  | i+2,hp=>
   have hb:asc b p:=jZ h (show 1<i+2 by omega) rfl hp
   rw[if_neg (by have:=hb.1;grind)];exact bN (Qo.mp h).2 (i:=i+1) hp
theorem cI:∀ {ps:List Pt},ps.Pairwise asc->∀ {i:Nat} {p q:Pt} {x:Rat},ps[i]?=some p->ps[i+1]?=some q->p.1<=x->x<=q.1->aV ps x=itp p q x
 | [],_,i,p,q,x,hp,_,_,_=>by cases hp
 | [a],_,i,p,q,x,hp,hq,_,_=>by cases hq
 | a::b::r,h,i,p,q,x,hp,hq,h1,h2=>by
  have hab:=(Qo.mp h).1 b Qb
  cases i with
  | zero=>
   cases hp;cases hq;rw[aV,if_pos h2]
  | succ i=>
   have hr:=(Qo.mp h).2;by_cases c:x=p.1
   ·subst c
    rw[zNd];exact bN h hp
   ·rw[aV,if_neg]
    ·exact cI hr (i:=i) hp hq h1 h2
    ·intro z
     cases i with
     | zero=>
      cases hp;exact c (by grind)
     | succ i=>
      have hb:asc b p:=jZ h (show 1<i+1+1 by omega) rfl hp
      have:=hb.1
      grind
def ax:Bool->Pt->Rat
 | false,p=>p.1
 | true,p=>p.2
def axi:Bool->Int
 | false=>0
 | true=>1
theorem jS{ps:List Pt}(h:ps.Pairwise asc)(b:Bool){i j:Nat}{p q:Pt}(l:i<=j)(hp:ps[i]?=some p)(hq:ps[j]?=some q):ax b p<=ax b q:=by
 rcases V4 l with l | l
 ·have:=jZ h l hp hq
  cases b
  ·exact Qg this.1
  ·exact this.2
 ·subst l
  rw[hp] at hq;cases hq;exact Qh
theorem tQ:∀ {ps:List Pt} {e:Pt} {x:Rat},ps.Pairwise asc->ps.getLast?=some e->(∀ p,ps.head?=some p->p.1<=x)->x<=e.1->
  (∃(i:Nat)(p:Pt),ps[i]?=some p/\p.1=x)∨∃(i:Nat)(p q:Pt),ps[i]?=some p/\ps[i+1]?=some q/\p.1<x/\x<q.1
 | [],e,x,_,he,_,_=>by cases he
 | [a],e,x,_,he,h0,h1=>by
  cases he;have:=h0 a rfl
  exact .inl ⟨0,a,rfl,by grind⟩
 | a::b::r,e,x,h,he,h0,h1=>by
  have ha:=h0 a rfl;by_cases c:a.1=x
  ·exact .inl ⟨0,a,rfl,c⟩
  by_cases d:x<b.1
  ·exact .inr ⟨0,a,b,rfl,rfl,by grind,d⟩
  ·rcases tQ (Qo.mp h).2 (by rw[<-he];simp[VR]) (fun p hp=>by cases hp;grind) h1 with⟨i,p,h2,h3⟩ | ⟨i,p,q,h2,h3,h4⟩
   ·exact .inl ⟨i+1,p,h2,h3⟩
   ·exact .inr ⟨i+1,p,q,h2,h3,h4⟩
theorem zAw{p q:Pt}(h:asc p q){x y:Rat}(l:x<=y):itp p q x<=itp p q y:=by
 unfold itp;have n:0<(q.1-p.1)⁻¹:=X5.mpr (by have:=h.1;grind)
 rw[QI,QI];have m1:(x-p.1)*(q.1-p.1)⁻¹<=(y-p.1)*(q.1-p.1)⁻¹:=Q5 (by grind) (Qg n)
 have m2:=Q5 m1 (show 0<=q.2-p.2 by have:=h.2;grind)
 grind
theorem qV{p q:Pt}(h:asc p q){x:Rat}(h1:p.1<=x)(h2:x<=q.1):p.2<=itp p q x/\itp p q x<=q.2:=by
 have a:=zAw h h1;have b:=zAw h h2;rw[zNd] at a;rw[zNV h.1] at b;exact⟨a,b⟩
theorem gJ{ps:List Pt}{e:Pt}(h:Ok ps)(he:ps.getLast?=some e){x y:Rat}(h0:0<=x)(l:x<=y)(h1:y<=e.1):aV ps x<=aV ps y:=by
 obtain⟨hh,hp⟩:=h;have hd:∀ z,0<=z->∀ p,ps.head?=some p->p.1<=z:=fun z hz p hp=>by rw[hh] at hp;cases hp;exact hz
 have key:∀ {i j:Nat} {p q:Pt},i<=j->ps[i]?=some p->ps[j]?=some q->p.2<=q.2:=fun l hp' hq'=>jS hp true l hp' hq'
 have kx:∀ {i j:Nat} {p q:Pt},ps[i]?=some p->ps[j]?=some q->p.1<q.1->i<j:=by
  intro i j p q hp' hq' l;rcases Nat.lt_or_ge i j with g | g
  ·exact g
  ·have:=jS hp false g hq' hp'
   exact absurd (show q.1<=p.1 from this) (by grind)
 rcases tQ hp he (hd x h0) (by grind) with⟨i,p,ip,ep⟩ | ⟨i,p,q,ip,iq,lp,lq⟩
 ·rcases tQ hp he (hd y (by grind)) h1 with⟨j,u,ju,eu⟩ | ⟨j,u,v,ju,jv,lu,lv⟩
  ·rw[<-ep,<-eu,bN hp ip,bN hp ju]
   by_cases c:p.1=u.1
   ·have a1:=bN hp ip
    have a2:=bN hp ju;rw[c,a2] at a1;rw[a1];exact Qh
   ·exact key (Vs (kx ip ju (by grind))) ip ju
  ·rw[<-ep,bN hp ip,cI hp ju jv (Qg lu) (Qg lv)]
   have huv:=jZ hp (Va j) ju jv;have b:=qV huv (Qg lu) (Qg lv);have:i<j+1:=kx ip jv (by grind)
   have:=key (show i<=j by omega) ip ju
   grind
 ·rcases tQ hp he (hd y (by grind)) h1 with⟨j,u,ju,eu⟩ | ⟨j,u,v,ju,jv,lu,lv⟩
  ·rw[<-eu,bN hp ju,cI hp ip iq (Qg lp) (Qg lq)]
   have hpq:=jZ hp (Va i) ip iq;have b:=qV hpq (Qg lp) (Qg lq);have:i<j:=kx ip ju (by grind)
   have:=key (show i+1<=j by omega) iq ju
   grind
  ·rw[cI hp ip iq (Qg lp) (Qg lq),cI hp ju jv (Qg lu) (Qg lv)]
   have hpq:=jZ hp (Va i) ip iq;have huv:=jZ hp (Va j) ju jv;have g1:i<j+1:=kx ip jv (by grind)
   rcases V4 (show i<=j by omega) with g | g
   ·have b1:=qV hpq (Qg lp) (Qg lq)
    have b2:=qV huv (Qg lu) (Qg lv);have:=key (show i+1<=j by omega) iq ju
    grind
   ·subst g
    rw[ip] at ju;rw[iq] at jv;cases ju;cases jv;exact zAw hpq l
theorem vO{ps:List Pt}{e:Pt}(h:Ok ps)(he:ps.getLast?=some e){x:Rat}(h0:0<=x)(h1:x<=e.1):0<=aV ps x/\aV ps x<=e.2:=by
 have z:aV ps 0=0:=bN h.2 (i:=0) (p:=(0,0)) (by rw[<-VE];exact h.1)
 have t:aV ps e.1=e.2:=bN h.2 (i:=ps.length-1) (by rw[<-QZ];exact he)
 have e0:0<=e.1:=by grind
 have a:=gJ h he (Qh) h0 h1;have b:=gJ h he h0 h1 Qh;grind
theorem zFZ{a b c:Pt}(h1:a.1<b.1)(h2:b.1<c.1)(e:btw a b c=true):(b.2-a.2) / (b.1-a.1)=(c.2-a.2) / (c.1-a.1)/\(c.2-b.2) / (c.1-b.1)=(c.2-a.2) / (c.1-a.1):=by
 have e:=of_decide_eq_true e;have n1:b.1-a.1≠0:=by grind
 have n2:c.1-b.1≠0:=by grind
 have n3:c.1-a.1≠0:=by grind
 have i1:=Vi _ n1;have i2:=Vi _ n2;have i3:=Vi _ n3;rw[QI,QI,QI];constructor
 ·refine jH n1 (jH n3 ?_)
  grind
 ·refine jH n2 (jH n3 ?_)
  grind
theorem dS(p q:Pt)(x:Rat):itp p q x=p.2+(x-p.1)*((q.2-p.2) / (q.1-p.1)):=by
 unfold itp;rw[QI,QI];grind
theorem zKt{a b c:Pt}(h1:a.1<b.1)(h2:b.1<c.1)(e:btw a b c=true)(x:Rat):itp a b x=itp a c x/\itp b c x=itp a c x:=by
 obtain⟨s1,s2⟩:=zFZ h1 h2 e;rw[dS,dS,dS,s1,s2];refine⟨rfl,?_⟩
 have n1:b.1-a.1≠0:=by grind
 have i1:=Vi _ n1;rw[<-s1,QI];generalize (b.1-a.1)⁻¹=u at i1;grind
theorem zJT{a b c:Pt}{r:List Pt}(h1:a.1<b.1)(h2:b.1<c.1)(e:btw a b c=true)(x:Rat):aV (a::b::c::r) x=aV (a::c::r) x:=by
 obtain⟨e1,e2⟩:=zKt h1 h2 e x;rw[aV,aV,aV,e1,e2];by_cases c1:x<=b.1
 ·rw[if_pos c1,if_pos (by grind)]
 ·rw[if_neg c1]
theorem zCU:∀(r:List Pt)(a p b:Pt)(x:Rat),dir a p b->(b::r).Pairwise asc->aV (a::few p (b::r)) x=aV (a::b::r) x
 | [],a,p,b,x,_,_=>rfl
 | c::r,a,p,b,x,h,hb=>by
  have bc:=(Qo.mp hb).1 c Qb;have hc:=(Qo.mp hb).2;rw[few];by_cases e:btw p b c=true
  ·have e':btw a b c=true:=by rw[vQ h];exact e
   rw[if_pos e,zCU r a b c x (zDC h.1 bc.1 e') hc,zJT h.1 bc.1 e']
  ·show _=(if x<=b.1 then itp a b x else aV (b::c::r) x)
   rw[if_neg e,aV,zCU r b b c x ⟨bc.1,bc.1,rfl⟩ hc]
theorem yJ{ps:List Pt}(h:ps.Pairwise asc)(x:Rat):aV (lD ps) x=aV ps x:=by
 rw[qB h]
 match ps,h with
 | [],_=>rfl
 | [a],_=>rfl
 | a::b::r,h=>
  have hab:=(Qo.mp h).1 b Qb;exact zCU r a a b x ⟨hab.1,hab.1,rfl⟩ (Qo.mp h).2
theorem uN{ps:List Pt}(h:ps.Pairwise asc):(lD ps).getLast?=ps.getLast?:=by rw[qB h,zCO]
theorem nL{ps:List Pt}(h:ps.Pairwise asc):(lD ps).Sublist ps:=by rw[qB h];exact yE ps
theorem zIy{C:List Rat}(h:C.Pairwise (· < ·))(h0:(0:Rat)∈C)(hn:∀ x∈C,0<=x):C.head?=some 0:=by
 cases C with
 | nil=>cases h0
 | cons a C=>
  rcases Qe.mp h0 with e | e
  ·rw[<-e];rfl
  ·have h1:=(Qo.mp h).1 0 e
   have h2:=hn a Qb;grind
theorem zMM{C:List Rat}{e L:Rat}(h:C.Pairwise (· < ·))(he:C.getLast?=some e)(hL:L∈C)(hn:∀ x∈C,x<=L):e=L:=by
 obtain⟨j,hj⟩:=V5.mp hL;rw[QZ] at he;have hjl:=(Qz.mp hj).1;have h1:=hn e (Qm he);rcases V4 (show j<=C.length-1 by omega) with l | l
 ·obtain⟨hi,e1⟩:=Qz.mp hj
  obtain⟨hi2,e2⟩:=Qz.mp he;have:=Xr.mp h j (C.length-1) hi hi2 l
  rw[e1,e2] at this;grind
 ·subst l
  rw[he] at hj;cases hj;rfl
theorem zMd{ps:List Pt}(h:ps.Pairwise asc):(ps.map Prod.fst).Pairwise (· < ·):=VF.mpr (h.imp fun a=>a.1)
theorem fP{ps:List Pt}{e p:Pt}(h:Ok ps)(he:ps.getLast?=some e)(hp:p∈ps):0<=p.1/\p.1<=e.1/\0<=p.2/\p.2<=e.2:=by
 obtain⟨i,hi⟩:=V5.mp hp;have hil:=(Qz.mp hi).1;have h0:ps[0]?=some (0,0):=by rw[<-VE];exact h.1
 rw[QZ] at he;have a1:(0:Rat)<=p.1:=jS h.2 false (QY i) h0 hi;have a2:(0:Rat)<=p.2:=jS h.2 true (QY i) h0 hi;have b1:p.1<=e.1:=jS h.2 false (show i<=ps.length-1 by omega) hi he
 have b2:p.2<=e.2:=jS h.2 true (show i<=ps.length-1 by omega) hi he
 exact⟨a1,b1,a2,b2⟩
theorem zHw{ps:List Pt}{e:Pt}{a b x:Rat}(h:Ok ps)(he:ps.getLast?=some e)(h0:0<=a)(hab:a<b)(hb:b<=e.1)(hno:∀ p∈ps,a<p.1->b<=p.1)(hx:a<=x)(xb:x<=b):
  (aV ps x-aV ps a)*(b-a)=(aV ps b-aV ps a)*(x-a):=by
 have key:∃(i:Nat)(p q:Pt),ps[i]?=some p/\ps[i+1]?=some q/\p.1<=a/\b<=q.1:=by
  rcases tQ h.2 he (fun p hp=>by rw[h.1] at hp;cases hp;exact h0) (show a<=e.1 by grind) with⟨i,p,ip,ep⟩ | ⟨i,p,q,ip,iq,lp,lq⟩
  ·have hi:=(Qz.mp ip).1
   have hl:i+1<ps.length:=by
    rcases Nat.lt_or_ge (i+1) ps.length with l | l
    ·exact l
    ·rw[QZ,show ps.length-1=i by omega,ip] at he
     cases he;grind
   have iq:ps[i+1]?=some ps[i+1]:=Qu hl;have:=(jZ h.2 (Va i) ip iq).1
   exact⟨i,p,ps[i+1],ip,iq,by grind,hno _ (Qm iq) (by grind)⟩
  ·exact⟨i,p,q,ip,iq,Qg lp,hno _ (Qm iq) lq⟩
 obtain⟨i,p,q,ip,iq,l1,l2⟩:=key;rw[cI h.2 ip iq l1 (by grind),cI h.2 ip iq (show p.1<=x by grind) (by grind),cI h.2 ip iq (show p.1<=b by grind) l2];rw[dS,dS,dS];grind
def rH(ps qs:List Pt)(C:List Rat):List Pt:=C.map fun t=>(t,aV ps (aV qs t))
structure Joints (ps qs:List Pt) (f:Pt) (C:List Rat):Prop where
 asc:C.Pairwise (· < ·)
 own:∀ q∈qs,q.1∈C
 hit:∀ p∈ps,∃ t∈C,aV qs t=p.1
 bd:∀ t∈C,0<=t/\t<=f.1
theorem zEt{ps qs:List Pt}{e f:Pt}{C:List Rat}(hp:Ok ps)(hq:Ok qs)(he:ps.getLast?=some e)(hf:qs.getLast?=some f)(hL:e.1=f.2)(J:Joints ps qs f C):
  Ok (rH ps qs C)/\(rH ps qs C).getLast?=some (f.1,e.2):=by
 have z0:(0:Rat)∈C:=J.own (0,0) (List.mem_of_mem_head? (by rw[hq.1];rfl))
 have zL:f.1∈C:=J.own f (YF hf);have v0:∀ {ls:List Pt},Ok ls->aV ls 0=0:=fun {ls} h=>bN h.2 (i:=0) (p:=(0,0)) (by rw[<-VE];exact h.1)
 have vL:∀ {ls:List Pt} {u:Pt},Ok ls->ls.getLast?=some u->aV ls u.1=u.2:=fun {ls u} h hu=>bN h.2 (i:=ls.length-1) (by rw[<-QZ];exact hu)
 refine⟨⟨?_,?_⟩,?_⟩
 ·unfold rH
  rw[Xj,zIy J.asc z0 fun x hx=>(J.bd x hx).1];show some (0,aV ps (aV qs 0))=_
  rw[v0 hq,v0 hp]
 ·unfold rH
  refine VF.mpr (V6 ?_ J.asc)
  intro a b ha hb hab;have b1:=vO hq hf (J.bd a ha).1 (J.bd a ha).2;have b2:=vO hq hf (J.bd b hb).1 (J.bd b hb).2;exact⟨hab,gJ hp he b1.1 (gJ hq hf (J.bd a ha).1 (Qg hab) (J.bd b hb).2) (by rw[hL];exact b2.2)⟩
 ·unfold rH
  rw[VG]
  cases hc:C.getLast? with
  | none=>rw[List.getLast?_eq_none_iff] at hc;rw[hc] at z0;cases z0
  | some u=>
   have:u=f.1:=zMM J.asc hc zL fun x hx=>(J.bd x hx).2
   subst this;show some (f.1,aV ps (aV qs f.1))=_
   rw[vL hq hf,<-hL,vL hp he]
theorem zHT{ps qs:List Pt}{e f:Pt}{C:List Rat}(hp:Ok ps)(hq:Ok qs)(he:ps.getLast?=some e)(hf:qs.getLast?=some f)(hL:e.1=f.2)(J:Joints ps qs f C){x:Rat}(h0:0<=x)(h1:x<=f.1):
  aV (rH ps qs C) x=aV ps (aV qs x):=by
 obtain⟨ok,la⟩:=zEt hp hq he hf hL J
 have at':∀ {i:Nat} {u:Pt},(rH ps qs C)[i]?=some u->C[i]?=some u.1/\u.2=aV ps (aV qs u.1):=by
  intro i u hu;unfold rH at hu;rw[Qr] at hu
  cases hc:C[i]? with
  | none=>rw[hc] at hu;cases hu
  | some c=>rw[hc] at hu;cases hu;exact⟨rfl,rfl⟩
 rcases tQ ok.2 la (fun p hp=>by rw[ok.1] at hp;cases hp;exact h0) h1 with⟨i,u,iu,eu⟩ | ⟨i,u,v,iu,iv,lu,lv⟩
 ·obtain⟨_,e2⟩:=at' iu
  rw[<-eu,bN ok.2 iu,e2]
 ·obtain⟨c1,e1⟩:=at' iu
  obtain⟨d1,e2⟩:=at' iv;rw[cI ok.2 iu iv (Qg lu) (Qg lv)];have hC:=J.asc
  have out:∀ t∈C,t<=u.1∨v.1<=t:=by
   intro t ht;obtain⟨j,hj⟩:=V5.mp ht
   have lt:∀ {i j:Nat} {a b:Rat},i<j->C[i]?=some a->C[j]?=some b->a<b:=by
    intro i j a b l ha hb;obtain⟨hi,rfl⟩:=Qz.mp ha;obtain⟨hj,rfl⟩:=Qz.mp hb;exact Xr.mp hC i j hi hj l
   rcases Nat.lt_trichotomy j i with l | l | l
   ·exact .inl (Qg (lt l hj c1))
   ·subst l;rw[hj] at c1;cases c1;exact .inl Qh
   ·rcases V4 (show i+1<=j by omega) with l | l
    ·exact .inr (Qg (lt l d1 hj))
    ·subst l;rw[hj] at d1;cases d1;exact .inr Qh
  have bu:=J.bd u.1 (Qm c1);have bv:=J.bd v.1 (Qm d1);have luv:u.1<v.1:=by grind
  have l2:=zHw hq hf bu.1 luv bv.2 (fun p hp l=>by
   rcases out p.1 (J.own p hp) with z | z
   ·grind
   ·exact z) (Qg lu) (Qg lv)
  have mA:=gJ hq hf bu.1 (Qg lu) (show x<=f.1 by grind)
  have mB:=gJ hq hf (show 0<=x by grind) (Qg lv) bv.2
  have nA:=vO hq hf bu.1 bu.2;have nB:=vO hq hf bv.1 bv.2;have n:v.1-u.1≠0:=by grind
  have i1:=Vi _ n;unfold itp;rw[e1,e2,QI]
  have fin:(aV ps (aV qs x)-aV ps (aV qs u.1))*(v.1-u.1)=(aV ps (aV qs v.1)-aV ps (aV qs u.1))*(x-u.1):=by
   by_cases c:aV qs u.1=aV qs v.1
   ·have:aV qs x=aV qs u.1:=by grind
    rw[this,<-c];grind
   ·have AB:aV qs u.1<aV qs v.1:=by grind
    have l1:=zHw hp he nA.1 AB (by rw[hL];exact nB.2) (fun p hp' l=>by
     obtain⟨t,ht,et⟩:=J.hit p hp';have bt:=J.bd t ht;rcases out t ht with z | z
     ·have:=gJ hq hf bt.1 z bu.2
      grind
     ·have:=gJ hq hf bv.1 z bt.2
      grind) mA mB
    have nn:aV qs v.1-aV qs u.1≠0:=by grind
    refine jH nn ?_
    grind
  generalize (v.1-u.1)⁻¹=w at i1;refine jH n ?_
  grind
def zER(ps:List Pt)(y r:Rat):Prop:=∃(k:Nat)(q:Pt),ps[k]?=some q/\(∀(j:Nat)(p:Pt),j<k->ps[j]?=some p->p.2<y)/\
 ((q.2=y/\r=q.1)∨(0<k/\y<q.2/\∃ p:Pt,ps[k-1]?=some p/\p.2<y/\r=itp (p.2,p.1) (q.2,q.1) y))
theorem zER.val{ps:List Pt}{e:Pt}{y r:Rat}(h:Ok ps)(he:ps.getLast?=some e)(u:zER ps y r):aV ps r=y/\0<=r/\r<=e.1:=by
 obtain⟨k,q,hq,hj,c⟩:=u;have bq:=fP h he (Qm hq);rcases c with⟨c1,rfl⟩ | ⟨k0,l,p,hp,lp,rfl⟩
 ·exact⟨by rw[bN h.2 hq,c1],bq.1,bq.2.1⟩
 ·have bp:=fP h he (Qm hp)
  have hq':ps[k-1+1]?=some q:=by rw[show k-1+1=k by omega];exact hq
  have pq:=jZ h.2 (Va (k-1)) hp hq';have sw:asc (p.2,p.1) (q.2,q.1):=⟨by show p.2<q.2;grind,Qg pq.1⟩
  have b:=qV sw (x:=y) (Qg lp) (Qg l);have b1:p.1<=itp (p.2,p.1) (q.2,q.1) y:=b.1;have b2:itp (p.2,p.1) (q.2,q.1) y<=q.1:=b.2;refine⟨?_,by grind,by grind⟩
  rw[cI h.2 hp hq' b1 b2];have n1:q.1-p.1≠0:=by have:=pq.1;grind
  have n2:q.2-p.2≠0:=by grind
  have i1:=Vi _ n1;have i2:=Vi _ n2;unfold itp;dsimp only
  rw[QI,QI];generalize (q.1-p.1)⁻¹=a at i1;generalize (q.2-p.2)⁻¹=b at i2;grind
theorem nT{a p:Pt}{r:List Pt}(h:(a::p::r).Pairwise asc){x:Rat}(hx:p.1<=x):aV (a::p::r) x=aV (p::r) x:=by
 have hp:=(Qo.mp h).2;have ap:=(Qo.mp h).1 p Qb;rw[aV];by_cases c:x<=p.1
 ·have e:x=p.1:=by grind
  rw[if_pos c,e,zNV ap.1];exact(bN hp (i:=0) rfl).symm
 ·rw[if_neg c]
theorem zBU{a p q e f:Pt}{r s:List Pt}(hr:(a::p::r).Pairwise asc)(hs:(a::q::s).Pairwise asc)(br:zJr (a::p::r))(er:(a::p::r).getLast?=some e)(es:(a::q::s).getLast?=some f)(ef:e.1=f.1)
  (hv:∀ x,a.1<=x->x<=e.1->aV (a::p::r) x=aV (a::q::s) x):¬ p.1<q.1:=by
 intro l;have ap:=(Qo.mp hr).1 p Qb;have aq:=(Qo.mp hs).1 q Qb
 have qf:q.1<=f.1:=by
  rw[QZ] at es;exact jS hs false (i:=1) (show 1<=(a::q::s).length-1 by simp) rfl es
 cases r with
 | nil=>
  cases er;have:p.1=f.1:=ef
  grind
 | cons u r=>
  have hp:=(Qo.mp hr).2;have pu:=(Qo.mp hp).1 u Qb
  have ue:u.1<=e.1:=by
   rw[QZ] at er;exact jS hr false (i:=2) (show 2<=(a::p::u::r).length-1 by simp) rfl er
  have key:∀ x,p.1<x->x<=u.1->x<=q.1->btw a p u=true:=by
   intro x h1 h2 h3;have v1:=hv p.1 (Qg ap.1) (by grind)
   have v2:=hv x (by have:=ap.1;grind) (by grind)
   rw[nT hr Qh,bN hp (i:=0) rfl,aV,if_pos (Qg l)] at v1;rw[nT hr (Qg h1),aV,if_pos h2,aV,if_pos h3] at v2;rw[dS] at v1;rw[dS,dS] at v2;generalize (q.2-a.2) / (q.1-a.1)=k at v1 v2;have n1:x-p.1≠0:=by grind
   have n2:u.1-p.1≠0:=by have:=pu.1;grind
   have i2:=Vi _ n2;rw[QI] at v2;generalize (u.1-p.1)⁻¹=w at i2 v2
   have s1:(u.2-p.2)*w=k:=by
    refine jH n1 ?_
    grind
   refine decide_eq_true ?_
   have s2:u.2-p.2=k*(u.1-p.1):=by
    have:(u.2-p.2)*w*(u.1-p.1)=k*(u.1-p.1):=by rw[s1]
    grind
   grind
  have nb:=br.1;by_cases c:u.1<=q.1
  ·rw[key u.1 pu.1 Qh c] at nb
   cases nb
  ·rw[key q.1 l (by grind) Qh] at nb
   cases nb
theorem zEk:∀(r s:List Pt)(a e f:Pt),(a::r).Pairwise asc->(a::s).Pairwise asc->zJr (a::r)->zJr (a::s)->(a::r).getLast?=some e->(a::s).getLast?=some f->e.1=f.1->
  (∀ x,a.1<=x->x<=e.1->aV (a::r) x=aV (a::s) x)->r=s
 | [],[],_,_,_,_,_,_,_,_,_,_,_=>rfl
 | [],q::s,a,e,f,_,hs,_,_,er,es,ef,_=>by
  cases er;rw[QZ] at es;have:=(jZ hs (i:=0) (show 0<(a::q::s).length-1 by simp) rfl es).1
  grind
 | p::r,[],a,e,f,hr,_,_,_,er,es,ef,_=>by
  cases es;rw[QZ] at er;have:=(jZ hr (i:=0) (show 0<(a::p::r).length-1 by simp) rfl er).1
  grind
 | p::r,q::s,a,e,f,hr,hs,br,bs,er,es,ef,hv=>by
  have n1:=zBU hr hs br er es ef hv;have n2:=zBU hs hr bs es er ef.symm fun x h1 h2=>(hv x h1 (by rw[ef];exact h2)).symm
  have pq:p.1=q.1:=by grind
  have hp:=(Qo.mp hr).2;have hq:=(Qo.mp hs).2;have ap:=(Qo.mp hr).1 p Qb
  have pe:p.1<=e.1:=by
   have er':=er;rw[QZ] at er';exact jS hr false (i:=1) (show 1<=(a::p::r).length-1 by simp) rfl er'
  have v:=hv p.1 (Qg ap.1) pe;rw[nT hr Qh,bN hp (i:=0) rfl,nT hs (show q.1<=p.1 by grind),pq,bN hq (i:=0) rfl] at v;have e1:p=q:=Prod.ext pq v;subst e1
  have br':zJr (p::r):=by
   cases r with
   | nil=>trivial
   | cons u r=>exact br.2
  have bs':zJr (p::s):=by
   cases s with
   | nil=>trivial
   | cons u s=>exact bs.2
  rw[zEk r s p e f hp hq br' bs' (by rw[<-er];simp[VR]) (by rw[<-es];simp[VR]) ef fun x h1 h2=>by
   have:=hv x (by have:=ap.1;grind) h2
   rw[nT hr h1,nT hs h1] at this
   exact this]
theorem zMy{ps qs:List Pt}{e f:Pt}(hp:zOs ps)(hq:zOs qs)(he:ps.getLast?=some e)(hf:qs.getLast?=some f)(ef:e.1=f.1)(hv:∀ x,0<=x->x<=e.1->aV ps x=aV qs x):ps=qs:=by
 cases ps with
 | nil=>cases he
 | cons a r=>
  cases qs with
  | nil=>cases hf
  | cons b s=>
   have h1:=hp.1.1;have h2:=hq.1.1;cases h1;cases h2;rw[zEk r s (0,0) e f hp.1.2 hq.1.2 hp.2 hq.2 he hf ef hv]
theorem zPB{p q:Pt}(h1:p.1<q.1)(h2:p.2<q.2){x y:Rat}(l:x<y):itp p q x<itp p q y:=by
 have n:0<(q.1-p.1)⁻¹:=X5.mpr (by grind)
 have s:0<(q.2-p.2)*(q.1-p.1)⁻¹:=X4 (by grind) n
 rw[dS,dS,QI];have:=Rat.mul_lt_mul_of_pos_right (show x-p.1<y-p.1 by grind) s
 grind
theorem zER.least{ps:List Pt}{e:Pt}{y r:Rat}(h:Ok ps)(he:ps.getLast?=some e)(u:zER ps y r){t:Rat}(t0:0<=t)(l:t<r):aV ps t<y:=by
 have hv:=u.val h he;obtain⟨k,q,hq,hj,c⟩:=u;have h00:ps[0]?=some (0,0):=by rw[<-VE];exact h.1
 have k0:0<k:=by
  rcases X8 k with z | z
  ·subst z
   rw[h00] at hq;cases hq;rcases c with⟨_,c⟩ | ⟨c,_⟩
   ·have:r=0:=c
    grind
   ·exact absurd c (by decide)
  ·exact z
 have hkl:=(Qz.mp hq).1;have hp:ps[k-1]?=some ps[k-1]:=Qu (by omega)
 have hq':ps[k-1+1]?=some q:=by rw[show k-1+1=k by omega];exact hq
 have lp:=hj _ _ (show k-1<k by omega) hp
 have pq:=jZ h.2 (Va (k-1)) hp hq';have vp:=bN h.2 hp;generalize ps[k-1]=p at hp lp pq vp
 have yq:y<=q.2:=by
  rcases c with⟨c,_⟩ | ⟨_,c,_⟩
  ·rw[c];exact Qh
  ·exact Qg c
 have rq:r<=q.1:=by
  rcases c with⟨_,c⟩ | ⟨_,c1,p',hp',lp',c⟩
  ·rw[c];exact Qh
  ·rw[c]
   rw[hp] at hp';cases hp'
   have sw:asc (p.2,p.1) (q.2,q.1):=⟨by show p.2<q.2;grind,Qg pq.1⟩
   exact(qV sw (x:=y) (Qg lp) yq).2
 by_cases c1:t<=p.1
 ·have bp:=fP h he (Qm hp)
  have:=gJ h he t0 c1 bp.2.1
  grind
 ·have e1:=cI h.2 hp hq' (x:=t) (by grind) (by grind)
  have e2:=cI h.2 hp hq' (x:=r) (by grind) rq
  have:=zPB pq.1 (show p.2<q.2 by grind) l
  rw[e1];rw[e2] at hv;grind
theorem zER.uniq{ps:List Pt}{e:Pt}{y r r':Rat}(h:Ok ps)(he:ps.getLast?=some e)(u:zER ps y r)(v:aV ps r'=y)(r0:0<=r')(lt:∀ t,0<=t->t<r'->aV ps t<y):r=r':=by
 have hv:=u.val h he;by_cases l:r<r'
 ·have:=lt r hv.2.1 l
  grind
 ·by_cases l2:r' < r
  ·have:=u.least h he r0 l2
   grind
  ·grind
end Ln
namespace L3
open PySem PySem.Spec PyProof.Rows L2
abbrev St:=L2.St
mutual
inductive IsD (K:PySem.W.Frag) (H:Hp):V->D->Prop where
 | non:IsD K H .non .non
 | bl (b:Bool):IsD K H (.bl b) (.bl b)
 | int (i:Int):IsD K H (.int i) (.int i)
 | str (x:Str):IsD K H (.str x) (.str x)
 | tup {a:Addr} {xs:List V} {ds:List D}:SqT K H a xs->IsDs K H xs ds->IsD K H (.ref a) (.tup ds)
 | lst {a:Addr} {xs:List V} {ds:List D}:SqL K H a xs->IsDs K H xs ds->IsD K H (.ref a) (.lst ds)
inductive IsDs (K:PySem.W.Frag) (H:Hp):List V->List D->Prop where
 | nil:IsDs K H [] []
 | cons {v:V} {d:D} {vs:List V} {ds:List D}:IsD K H v d->IsDs K H vs ds->IsDs K H (v::vs) (d::ds)
end
theorem _root_.L2.Same.rd{H H':Hp}(e:Same H H'){a:Addr}{u:HO}(h:Rd H a u):Rd H' a u:=by
 rcases h with h | ⟨o,h⟩
 ·exact .inl (e _ _ h)
 ·exact .inr ⟨o,e _ _ h⟩
theorem cJ{K:Fg_}{H H':Hp}(e:Same H H'){a:Addr}{xs:List V}(h:SqT K H a xs):SqT K H' a xs:=h.imp (Same.rd e) id
theorem cK{K:Fg_}{H H':Hp}(e:Same H H'){a:Addr}{xs:List V}(h:SqL K H a xs):SqL K H' a xs:=h.imp (Same.rd e) id
section
variable{K:Fg_}{H H':Hp}
mutual
theorem IsD.mono(e:Same H H'):∀ {v:V} {d:D},IsD K H v d->IsD K H' v d
 | _,_,.non=>.non
 | _,_,.bl b=>.bl b
 | _,_,.int i=>.int i
 | _,_,.str x=>.str x
 | _,_,.tup h hs=>.tup (cJ e h) (IsDs.mono e hs)
 | _,_,.lst h hs=>.lst (cK e h) (IsDs.mono e hs)
theorem IsDs.mono(e:Same H H'):∀ {vs:List V} {ds:List D},IsDs K H vs ds->IsDs K H' vs ds
 | _,_,.nil=>.nil
 | _,_,.cons h hs=>.cons (IsD.mono e h) (IsDs.mono e hs)
end
theorem IsDs.length:∀ {vs:List V} {ds:List D},IsDs K H vs ds->vs.length=ds.length
 | _,_,.nil=>rfl
 | _,_,.cons _ hs=>by rw[Qn,Qn,IsDs.length hs]
theorem IsDs.at:∀ {vs:List V} {ds:List D} {j:Nat} {d:D},IsDs K H vs ds->ds[j]?=some d->∃ v,vs[j]?=some v/\IsD K H v d
 | _,_,_,_,.nil,e=>by simp at e
 | _,_,0,_,.cons r _,e=>by simp at e;subst e;exact⟨_,rfl,r⟩
 | _,_,j+1,d,.cons _ t,e=>by
  obtain⟨v,h1,h2⟩:=IsDs.at (j:=j) (d:=d) t (by simpa using e)
  exact⟨v,by simpa using h1,h2⟩
theorem IsDs.append:∀ {vs ws:List V} {ds es:List D},IsDs K H vs ds->IsDs K H ws es->IsDs K H (vs++ws) (ds++es)
 | _,_,_,_,.nil,s=>s
 | _,_,_,_,.cons r t,s=>.cons r (IsDs.append t s)
theorem IsDs.take:∀ {vs:List V} {ds:List D} (n:Nat),IsDs K H vs ds->IsDs K H (vs.take n) (ds.take n)
 | _,_,0,_=>.nil
 | _,_,_+1,.nil=>.nil
 | _,_,n+1,.cons r t=>.cons r (IsDs.take n t)
theorem IsDs.drop:∀ {vs:List V} {ds:List D} (n:Nat),IsDs K H vs ds->IsDs K H (vs.drop n) (ds.drop n)
 | _,_,0,r=>r
 | _,_,_+1,.nil=>.nil
 | _,_,n+1,.cons _ t=>IsDs.drop n t
theorem IsDs.dropLast:∀ {vs:List V} {ds:List D},IsDs K H vs ds->IsDs K H vs.dropLast ds.dropLast
 | _,_,.nil=>.nil
 | _,_,.cons _ .nil=>.nil
 | _,_,.cons r (.cons q t)=>.cons r (IsDs.dropLast (.cons q t))
theorem IsDs.set{v:V}{d:D}(h:IsD K H v d):∀ {vs:List V} {ds:List D} (j:Nat),IsDs K H vs ds->IsDs K H (vs.set j v) (ds.set j d)
 | _,_,_,.nil=>.nil
 | _,_,0,.cons _ t=>.cons h t
 | _,_,j+1,.cons q t=>.cons q (IsDs.set h j t)
mutual
theorem IsD.noL(k:∀ b xs,Rd H b (.tup xs)->Rd H' b (.tup xs)):∀ {v:V} {d:D},IsD K H v d->L3.noL d=true->IsD K H' v d
 | _,_,.non,_=>.non
 | _,_,.bl b,_=>.bl b
 | _,_,.int i,_=>.int i
 | _,_,.str x,_=>.str x
 | _,_,.tup h hs,e=>.tup (h.imp (k _ _) id) (IsDs.noL k hs (by rw[L3.noL] at e;exact e))
 | _,_,.lst h hs,e=>by rw[L3.noL] at e;cases e
theorem IsDs.noL(k:∀ b xs,Rd H b (.tup xs)->Rd H' b (.tup xs)):∀ {vs:List V} {ds:List D},IsDs K H vs ds->L3.noLs ds=true->IsDs K H' vs ds
 | _,_,.nil,_=>.nil
 | _,_,.cons h hs,e=>by
  rw[L3.noLs,Q8] at e;exact .cons (IsD.noL k h e.1) (IsDs.noL k hs e.2)
end
end
theorem IsD.intI{K:Fg_}{H:Hp}{v:V}{i:Int}(h:IsD K H v (.int i)):v=.int i:=by cases h;rfl
theorem IsD.blI{K:Fg_}{H:Hp}{v:V}{b:Bool}(h:IsD K H v (.bl b)):v=.bl b:=by cases h;rfl
theorem IsD.strI{K:Fg_}{H:Hp}{v:V}{x:Str}(h:IsD K H v (.str x)):v=.str x:=by cases h;rfl
theorem IsD.tupI{K:Fg_}{H:Hp}{v:V}{ds:List D}(h:IsD K H v (.tup ds)):∃ a xs,v=.ref a/\SqT K H a xs/\IsDs K H xs ds:=by
 cases h with
 | tup h hs=>exact⟨_,_,rfl,h,hs⟩
theorem IsD.lstI{K:Fg_}{H:Hp}{v:V}{ds:List D}(h:IsD K H v (.lst ds)):∃ a xs,v=.ref a/\SqL K H a xs/\IsDs K H xs ds:=by
 cases h with
 | lst h hs=>exact⟨_,_,rfl,h,hs⟩
def sM:Str := "ranked.<locals>.<lambda>"
def zCD(P:Addr)(H:Hp):Prop:=∃ ps,H P=some (.tbl ps)/\TriplesOk ps.toList/\∀(pos:Pos)(cv:Value),codeAmong pos ps.toList=some cv->∃ c oc vs t u,cv=.ref c/\H c=some (.frz oc u)/\oc.data=.fields vs/\vs[1]?=some (.str sM t)
theorem zCD.put{P a:Addr}{H:Hp}{x:HO}(h:zCD P H)(h1:∀ ps,H a≠some (.tbl ps))(h2:∀ o u,H a≠some (.frz o u)):zCD P (upd H a x):=by
 obtain⟨ps,e,t,k⟩:=h;refine⟨ps,by rw[aW (show P≠a from fun z=>h1 ps (by rw[<-z];exact e))];exact e,t,fun pos cv q=>?_⟩
 obtain⟨c,oc,vs,tk,u,r1,r2,r3⟩:=k pos cv q;exact⟨c,oc,vs,tk,u,r1,by rw[aW (show c≠a from fun z=>h2 oc u (by rw[<-z];exact r2))];exact r2,r3⟩
structure Keep (H H':Hp):Prop where
 k:∀ b o,H b=some o->H' b=some o∨∃ ps ps',o=.tbl ps/\H' b=some (.tbl ps')
 t:∀ P,zCD P H->zCD P H'
theorem Keep.refl(H:Hp):Keep H H:=⟨fun _ _ e=>.inl e,fun _ e=>e⟩
theorem Keep.trans{H H1 H2:Hp}(a:Keep H H1)(b:Keep H1 H2):Keep H H2:=
 ⟨fun c o e=>by
  rcases a.k c o e with z | ⟨ps,ps',rfl,z⟩
  ·exact b.k c o z
  ·rcases b.k c _ z with y | ⟨qs,qs',_,y⟩
   ·exact .inr ⟨ps,ps',rfl,y⟩
   ·exact .inr ⟨ps,qs',rfl,y⟩,fun P e=>b.t P (a.t P e)⟩
theorem Keep.at{H H':Hp}(k:Keep H H'){b:Addr}{o:HO}(e:H b=some o)(ho:∀ ps,o≠.tbl ps:=by intro ps z;cases z):H' b=some o:=by
 rcases k.k b o e with z | ⟨ps,ps',z,_⟩
 ·exact z
 ·exact absurd z (ho ps)
theorem Keep.none{H H':Hp}(k:Keep H H'){p:Addr}(e:H' p=none):H p=none:=by
 cases z:H p with
 | none=>rfl
 | some o=>rcases k.k p o z with y | ⟨_,_,_,y⟩<;>(rw[y] at e;cases e)
structure Ext (Hi H Hi' H':Hp):Prop where
 i:Same Hi Hi'
 h:Keep H H'
 s:Same Hi' H'
 n:∀ b,Hi b=none->Hi' b≠none->H b=none
theorem Ext.refl{Hi H:Hp}(h:Same Hi H):Ext Hi H Hi H:=⟨Same.refl _,Keep.refl _,h,fun _ e q=>absurd e q⟩
theorem Ext.trans{Hi H Hi1 H1 Hi2 H2:Hp}(a:Ext Hi H Hi1 H1)(b:Ext Hi1 H1 Hi2 H2):Ext Hi H Hi2 H2:=
 ⟨a.i.trans b.i,a.h.trans b.h,b.s,fun c e q=>by
  cases z:Hi1 c with
  | some o=>exact a.n c e (by rw[z];exact fun w=>by cases w)
  | none=>
   have z2:=b.n c z q
   exact a.h.none z2⟩
theorem dA{H:Hp}{p:Addr}(h:H p=none)(o:HO):Same H (upd H p o):=fun b u q=>by rw[aW (bB q h)];exact q
theorem zEW{H:Hp}{p:Addr}(h:H p=none)(o:HO):Keep H (upd H p o):=⟨fun b u q=>.inl (dA h o b u q),fun P e=>e.put (fun ps z=>by rw[h] at z;cases z) (fun ob u z=>by rw[h] at z;cases z)⟩
theorem _root_.L2.Same.none{H H':Hp}(h:Same H H'){p:Addr}(e:H' p=none):H p=none:=by
 cases z:H p with
 | none=>rfl
 | some o=>rw[h _ _ z] at e;cases e
theorem Ext.new{Hi H:Hp}{p:Addr}{o:HO}(h:Same Hi H)(hp:H p=none):Ext Hi H (upd Hi p o) (upd H p o) where
 i:=dA (h.none hp) o
 h:=zEW hp o
 s:=fun b u q=>by
  by_cases e:b=p
  ·subst e;rw[aY] at q ⊢;exact q
  ·rw[aW e] at q ⊢;exact h _ _ q
 n:=fun b e q=>by
  by_cases z:b=p
  ·rw[z];exact hp
  ·rw[aW z] at q;exact absurd e q
theorem Ext.newF{Hi H:Hp}{p:Addr}{o:HO}(h:Same Hi H)(hp:H p=none):Ext Hi H Hi (upd H p o) where
 i:=Same.refl _
 h:=zEW hp o
 s:=h.trans (dA hp o)
 n:=fun b e q=>absurd e q
theorem Ext.out{Hi H Hi' H':Hp}(e:Ext Hi H Hi' H'){a:Addr}{o:HO}(h:H a=some o)(hi:Hi a=none)(ho:∀ ps,o≠.tbl ps:=by intro ps z;cases z):H' a=some o/\Hi' a=none:=by
 refine⟨e.h.at h ho,?_⟩
 cases z:Hi' a with
 | none=>rfl
 | some u=>have:=e.n a hi (by rw[z];exact fun w=>by cases w);rw[h] at this;cases this
theorem Ext.hold{Hi H Hi' H':Hp}(e:Ext Hi H Hi' H'){a:Addr}{o:HO}(hn:H a=none)(h:H' a=some o)(hi:Hi' a=none):Ext Hi H (upd Hi' a o) H' where
 i:=e.i.trans (dA hi o)
 h:=e.h
 s:=fun b u q=>by
  by_cases z:b=a
  ·subst z;rw[aY] at q;cases q;exact h
  ·rw[aW z] at q;exact e.s _ _ q
 n:=fun b z q=>by
  by_cases w:b=a
  ·rw[w];exact hn
  ·rw[aW w] at q;exact e.n b z q
def zRo(a C:Addr):Heap->Prop:=fun h=>∃ o vs,h.get? a=some o/\o.cls=.ref C/\o.data=.fields vs
def kvT(T:List (Str×Str)):List (Key×V):=T.map fun q=>(Sum.inr q.1,V.str q.2)
def zEj(K:PySem.W.Frag)(mg:Str->Option Value)(B Hi H:Hp)(o:Option (Option V)):Sl->Prop
 | .un=>True
 | .val d=>∃ v,o=some (some v)/\IsD K Hi v d
 | .own ds=>∃ a xs,o=some (some (.ref a))/\H a=some (.lst xs)/\Hi a=none/\B a=none/\IsDs K Hi xs ds
 | .exc c=>∃ a C,o=some (some (.ref a))/\H a=some (.ext (zRo a C))/\Hi a=none/\B a=none/\mg c=some (.ref C)
 | .tab T=>∃ a,o=some (some (.ref a))/\Hi a=some (.dK (kvT T))
structure Rel (K:PySem.W.Frag) (mg:Str->Option Value) (B Bi Hi H:Hp) (σ:St) (ρ:Rho):Prop where
 len:σ.length=ρ.length
 ext:Ext Bi B Hi H
 slot:∀(i:Nat)(s:Sl),ρ[i]?=some s->zEj K mg B Hi H σ[i]? s
 dist:∀(i j:Nat)(a:Addr)(ds es:List D),ρ[i]?=some (.own ds)->ρ[j]?=some (.own es)->σ[i]?=some (some (.ref a))->σ[j]?=some (some (.ref a))->i=j
section
variable{K:Fg_}{mg:Str->Option Value}{B Bi Hi H Hi' H':Hp}{σ:St}{ρ:Rho}
theorem zEj.ext{o:Option (Option V)}{s:Sl}(h:zEj K mg B Hi H o s)(e:Ext Hi H Hi' H'):zEj K mg B Hi' H' o s:=by
 cases s with
 | un=>trivial
 | val d=>obtain⟨v,q,r⟩:=h;exact⟨v,q,r.mono e.i⟩
 | own ds=>
  obtain⟨a,xs,q,h1,h2,h3,h4⟩:=h;obtain⟨e1,e2⟩:=e.out h1 h2;exact⟨a,xs,q,e1,e2,h3,h4.mono e.i⟩
 | exc c=>
  obtain⟨a,C,q,h1,h2,h3,h4⟩:=h;obtain⟨e1,e2⟩:=e.out h1 h2;exact⟨a,C,q,e1,e2,h3,h4⟩
 | tab T=>obtain⟨a,q,h1⟩:=h;exact⟨a,q,e.i _ _ h1⟩
theorem Rel.grow(R:Rel K mg B Bi Hi H σ ρ)(e:Ext Hi H Hi' H'):Rel K mg B Bi Hi' H' σ ρ:=⟨R.len,R.ext.trans e,fun i s q=>(R.slot i s q).ext e,R.dist⟩
theorem Rel.s(R:Rel K mg B Bi Hi H σ ρ):Same Hi H:=R.ext.s
theorem Rel.set{i:Nat}{v:V}{d:D}(R:Rel K mg B Bi Hi H σ ρ)(h:IsD K Hi v d):Rel K mg B Bi Hi H (σ.set i (some v)) (ρ.set i (.val d)) where
 len:=by rw[QM,QM];exact R.len
 ext:=R.ext
 slot:=fun j s q=>by
  by_cases e:i=j
  ·subst e
   by_cases hl:i<ρ.length
   ·rw[QV hl] at q;cases q
    exact⟨v,by rw[QV (by rw[R.len];exact hl)],h⟩
   ·rw[QH (by rw[QM];omega)] at q;cases q
  ·rw[QN e] at q ⊢
   exact R.slot j s q
 dist:=fun j k a ds es q1 q2 q3 q4=>by
  have h1:∀ {j:Nat} {ds:List D},(ρ.set i (.val d))[j]?=some (.own ds)->i≠j:=fun {j ds} q e=>by
   subst e;by_cases hl:i<ρ.length
   ·rw[QV hl] at q;cases q
   ·rw[QH (by rw[QM];omega)] at q;cases q
  have n1:=h1 q1;have n2:=h1 q2;rw[QN n1] at q1 q3;rw[QN n2] at q2 q4;exact R.dist j k a ds es q1 q2 q3 q4
theorem Rel.setOwn{i:Nat}{a:Addr}{xs:List V}{ds:List D}(R:Rel K mg B Bi Hi H σ ρ)(e:Ext Hi H Hi' H')(hn:H a=none)(h:H' a=some (.lst xs))(hi:Hi' a=none)(hs:IsDs K Hi' xs ds):
  Rel K mg B Bi Hi' H' (σ.set i (some (.ref a))) (ρ.set i (.own ds)) where
 len:=by rw[QM,QM];exact R.len
 ext:=R.ext.trans e
 slot:=fun j s q=>by
  by_cases z:i=j
  ·subst z
   by_cases hl:i<ρ.length
   ·rw[QV hl] at q;cases q
    exact⟨a,xs,by rw[QV (by rw[R.len];exact hl)],h,hi,R.ext.h.none hn,hs⟩
   ·rw[QH (by rw[QM];omega)] at q;cases q
  ·rw[QN z] at q ⊢
   exact(R.slot j s q).ext e
 dist:=fun j k b es fs q1 q2 q3 q4=>by
  have h1:∀ {j:Nat} {es:List D},i≠j->ρ[j]?=some (.own es)->σ[j]?=some (some (.ref a))->False:=fun {j es} _ p1 p2=>by
   obtain⟨a',xs',q,h1,_⟩:=R.slot j _ p1;rw[p2] at q;cases q;rw[hn] at h1;cases h1
  have h2:∀ {j:Nat} {es:List D},(ρ.set i (.own ds))[j]?=some (.own es)->i<σ.length∨i≠j:=fun {j es} p=>by
   by_cases z:i=j
   ·subst z
    by_cases hl:i<ρ.length
    ·exact .inl (by rw[R.len];exact hl)
    ·rw[QH (by rw[QM];omega)] at p;cases p
   ·exact .inr z
  by_cases z1:i=j
  ·by_cases z2:i=k
   ·rw[<-z1,<-z2]
   ·exfalso
    subst z1;have hl:i<σ.length:=(h2 q1).resolve_right (fun w=>w rfl)
    rw[QV hl] at q3;cases q3
    rw[QN z2] at q2 q4;exact h1 z2 q2 q4
  ·by_cases z2:i=k
   ·exfalso
    subst z2;have hl:i<σ.length:=(h2 q2).resolve_right (fun w=>w rfl)
    rw[QV hl] at q4;cases q4
    rw[QN z1] at q1 q3;exact h1 z1 q1 q3
   ·rw[QN z1] at q1 q3
    rw[QN z2] at q2 q4;exact R.dist j k b es fs q1 q2 q3 q4
theorem Rel.write{i:Nat}{a:Addr}{ys:List V}{ds es:List D}(R:Rel K mg B Bi Hi H σ ρ)(e:ρ[i]?=some (.own ds))(ea:σ[i]?=some (some (.ref a)))(hs:IsDs K Hi ys es):
  Rel K mg B Bi Hi (upd H a (.lst ys)) σ (ρ.set i (.own es)):=by
 obtain⟨a',xs',q,h1,h2,h3,h4⟩:=R.slot i _ e;rw[ea] at q;cases q
 have hl:i<ρ.length:=by
  by_cases hl:i<ρ.length
  ·exact hl
  ·rw[QH (by omega)] at e;cases e
 refine⟨by rw[QM];exact R.len,⟨R.ext.i,⟨fun b o z=>?_,fun P z=>(R.ext.h.t P z).put (fun ps y=>by rw[h1] at y;cases y) (fun ob u y=>by rw[h1] at y;cases y)⟩,fun b o z=>?_,R.ext.n⟩,fun j s z=>?_,fun j k b fs gs q1 q2 q3 q4=>?_⟩
 ·rw[aW (bB z h3)];exact R.ext.h.k _ _ z
 ·rw[aW (bB z h2)];exact R.ext.s _ _ z
 ·by_cases w:i=j
  ·subst w
   rw[QV hl] at z;cases z
   exact⟨a,ys,ea,aY,h2,h3,hs⟩
  ·rw[QN w] at z
   have S:=R.slot j s z
   cases s with
   | un=>trivial
   | val d=>exact S
   | own fs=>
    obtain⟨b,zs,p,g1,g2,g3,g4⟩:=S;have hb:b≠a:=fun c=>w (R.dist i j a ds fs e z ea (by rw[p,c]))
    exact⟨b,zs,p,by rw[aW hb];exact g1,g2,g3,g4⟩
   | exc c=>
    obtain⟨b,C,p,g1,g2,g3,g4⟩:=S;have hb:b≠a:=zPH g1 h1 (by intro z;cases z)
    exact⟨b,C,p,by rw[aW hb];exact g1,g2,g3,g4⟩
   | tab T=>exact S
 ·have own:∀ {j:Nat} {fs:List D},(ρ.set i (.own es))[j]?=some (.own fs)->∃ gs,ρ[j]?=some (.own gs):=fun {j fs} p=>by
   by_cases w:i=j
   ·subst w;exact⟨ds,e⟩
   ·rw[QN w] at p;exact⟨fs,p⟩
  obtain⟨fs',q1'⟩:=own q1;obtain⟨gs',q2'⟩:=own q2;exact R.dist j k b fs' gs' q1' q2' q3 q4
theorem Rel.frzAt{i:Nat}(R:Rel K mg B Bi Hi H σ ρ):∃ Hi',Same Hi Hi'/\Rel K mg B Bi Hi' H σ (L3.frzAt i ρ):=by
 unfold L3.frzAt;split
 ·rename_i ds e
  obtain⟨a,xs,q,h1,h2,h3,h4⟩:=R.slot i _ e
  have hl:i<ρ.length:=by
   by_cases hl:i<ρ.length
   ·exact hl
   ·rw[QH (by omega)] at e;cases e
  have sm:Same Hi (upd Hi a (.lst xs)):=dA h2 _
  have ss:Same (upd Hi a (.lst xs)) H:=fun b u z=>by
   by_cases w:b=a
   ·subst w;rw[aY] at z;cases z;exact h1
   ·rw[aW w] at z;exact R.s _ _ z
  refine⟨upd Hi a (.lst xs),sm,by rw[QM];exact R.len,⟨R.ext.i.trans sm,R.ext.h,ss,fun b z w=>?_⟩,fun j s z=>?_,fun j k b fs gs q1 q2 q3 q4=>?_⟩
  ·by_cases c:b=a
   ·rw[c];exact h3
   ·rw[aW c] at w;exact R.ext.n b z w
  ·by_cases w:i=j
   ·subst w
    rw[QV hl] at z;cases z
    exact⟨.ref a,q,.lst (SqL.of aY) (h4.mono sm)⟩
   ·rw[QN w] at z
    have S:=R.slot j s z
    cases s with
    | un=>trivial
    | val d=>obtain⟨v,p,r⟩:=S;exact⟨v,p,r.mono sm⟩
    | own fs=>
     obtain⟨b,zs,p,g1,g2,g3,g4⟩:=S;have hb:b≠a:=fun c=>w (R.dist i j a ds fs e z q (by rw[p,c]))
     exact⟨b,zs,p,g1,by rw[aW hb];exact g2,g3,g4.mono sm⟩
    | exc c=>
     obtain⟨b,C,p,g1,g2,g3,g4⟩:=S;have hb:b≠a:=zPH g1 h1 (by intro z;cases z)
     exact⟨b,C,p,g1,by rw[aW hb];exact g2,g3,g4⟩
    | tab T=>obtain⟨b,p,g1⟩:=S;exact⟨b,p,sm _ _ g1⟩
  ·have own:∀ {j:Nat} {fs:List D},(ρ.set i (.val (.lst ds)))[j]?=some (.own fs)->ρ[j]?=some (.own fs):=fun {j fs} p=>by
    by_cases w:i=j
    ·subst w;rw[QV hl] at p;cases p
    ·rw[QN w] at p;exact p
   exact R.dist j k b fs gs (own q1) (own q2) q3 q4
 ·exact⟨Hi,Same.refl _,R⟩
end
end L3
namespace L3
open PySem PySem.Spec PyProof.Rows L2
section
variable{K:Fg_}{mg:Str->Option Value}{B Bi Hi H Hi' H':Hp}{σ:St}{ρ:Rho}
theorem Rel.frz(R:Rel K mg B Bi Hi H σ ρ):∃ Hf,Same Hi Hf/\Rel K mg B Bi Hf H σ (ρ.map Sl.frz)/\∀ b,Hi b=none->Hf b≠none->∃ xs,Hf b=some (.lst xs):=by
 let own:Addr->Prop:=fun b=>∃(i:Nat)(ds:List D),ρ[i]?=some (.own ds)/\σ[i]?=some (some (.ref b))
 have dec:∀ b,Decidable (own b):=fun b=>Classical.propDecidable _
 let Hf:Hp:=fun b=>match Hi b with
  | some o=>some o
  | none=>if own b then H b else none
 have hf1:∀ b o,Hi b=some o->Hf b=some o:=fun b o e=>by show(match Hi b with | some o=>some o | none=>if own b then H b else none)=_;rw[e]
 have hf2:∀ b,Hi b=none->own b->Hf b=H b:=fun b e z=>by show(match Hi b with | some o=>some o | none=>if own b then H b else none)=_;rw[e];exact if_pos z
 have hf3:∀ b,Hi b=none->¬ own b->Hf b=none:=fun b e z=>by show(match Hi b with | some o=>some o | none=>if own b then H b else none)=_;rw[e];exact if_neg z
 have lst:∀ b,own b->∃ xs,H b=some (.lst xs)/\Hi b=none/\B b=none:=fun b ⟨i,ds,e1,e2⟩=>by
  obtain⟨a,xs,q,h1,h2,h3,h4⟩:=R.slot i _ e1;rw[e2] at q;cases q
  exact⟨xs,h1,h2,h3⟩
 have ss:Same Hf H:=fun b o z=>by
  cases q:Hi b with
  | some u=>rw[hf1 b u q] at z;cases z;exact R.s _ _ q
  | none=>
   by_cases w:own b
   ·rw[hf2 b q w] at z;exact z
   ·rw[hf3 b q w] at z;cases z
 refine⟨Hf,hf1,⟨by rw[Qd];exact R.len,⟨R.ext.i.trans hf1,R.ext.h,ss,fun b z w=>?_⟩,fun j s z=>?_,fun j k b fs gs q1 q2 q3 q4=>?_⟩,fun b z w=>?_⟩
 ·cases q:Hi b with
  | some u=>exact R.ext.n b z (by rw[q];exact fun c=>by cases c)
  | none=>
   by_cases c:own b
   ·exact(lst b c).choose_spec.2.2
   ·exact absurd (hf3 b q c) w
 ·rw[Qr] at z
  cases e:ρ[j]? with
  | none=>rw[e] at z;cases z
  | some t=>
   rw[e] at z;cases z;have S:=R.slot j t e
   cases t with
   | un=>trivial
   | val d=>obtain⟨v,p,r⟩:=S;exact⟨v,p,r.mono hf1⟩
   | own ds=>
    obtain⟨a,xs,q,h1,h2,h3,h4⟩:=S;exact⟨.ref a,q,.lst (SqL.of (by rw[hf2 a h2 ⟨j,ds,e,q⟩];exact h1)) (h4.mono hf1)⟩
   | exc c=>
    obtain⟨a,C,q,h1,h2,h3,h4⟩:=S;refine⟨a,C,q,h1,?_,h3,h4⟩
    refine hf3 a h2 fun c=>?_
    obtain⟨xs,g,_⟩:=lst a c;rw[h1] at g;cases g
   | tab T=>obtain⟨a,q,h1⟩:=S;exact⟨a,q,hf1 _ _ h1⟩
 ·exfalso
  rw[Qr] at q1
  cases e:ρ[j]? with
  | none=>rw[e] at q1;cases q1
  | some t=>rw[e] at q1;cases t<;>cases q1
 ·by_cases c:own b
  ·obtain⟨xs,g,_⟩:=lst b c
   exact⟨xs,by rw[hf2 b z c];exact g⟩
  ·exact absurd (hf3 b z c) w
theorem Ext.thaw{Hf:Hp}(s:Same Hi Hf)(fl:∀ b,Hi b=none->Hf b≠none->∃ xs,Hf b=some (.lst xs))(hs:Same Hf H)(e:Ext Hf H Hi' H'):
  ∃ Ht,Ext Hi H Ht H'/\(∀ b xs,Rd Hi' b (.tup xs)->Rd Ht b (.tup xs))/\Same Ht Hi'/\∀ b,Ht b=none->Hi' b=none∨∃ xs,H b=some (.lst xs):=by
 have dec:∀ b,Decidable (Hi b=none/\Hf b≠none):=fun b=>Classical.propDecidable _
 let Ht:Hp:=fun b=>if Hi b=none/\Hf b≠none then none else Hi' b
 have t1:∀ b,¬ (Hi b=none/\Hf b≠none)->Ht b=Hi' b:=fun b z=>if_neg z
 have t2:∀ b,(Hi b=none/\Hf b≠none)->Ht b=none:=fun b z=>if_pos z
 have tt:Same Ht Hi':=fun b o z=>by
  by_cases w:Hi b=none/\Hf b≠none
  ·rw[t2 b w] at z;cases z
  ·rw[t1 b w] at z;exact z
 refine⟨Ht,⟨fun b o z=>?_,e.h,tt.trans e.s,fun b z w=>?_⟩,fun b xs r=>?_,tt,fun b z=>?_⟩
 ·rw[t1 b (fun w=>by rw[z] at w;cases w.1)];exact e.i _ _ (s _ _ z)
 ·by_cases c:Hi b=none/\Hf b≠none
  ·exact absurd (t2 b c) w
  ·rw[t1 b c] at w
   have:Hf b=none:=by
    cases q:Hf b with
    | none=>rfl
    | some u=>exact absurd ⟨z,by rw[q];exact fun c=>by cases c⟩ c
   exact e.n b this w
 ·have nl:¬ (Hi b=none/\Hf b≠none):=fun w=>by
   obtain⟨ys,g⟩:=fl b w.1 w.2;have g':=e.i _ _ g;rcases r with r | ⟨o,r⟩<;>(rw[g'] at r;cases r)
  rcases r with r | ⟨o,r⟩
  ·exact .inl (by rw[t1 b nl];exact r)
  ·exact .inr ⟨o,by rw[t1 b nl];exact r⟩
 ·by_cases c:Hi b=none/\Hf b≠none
  ·obtain⟨ys,g⟩:=fl b c.1 c.2
   exact .inr ⟨ys,hs _ _ g⟩
  ·exact .inl (by rw[t1 b c] at z;exact z)
end
structure Gx where
 B:Hp
 Bi:Hp
 E:Str->Hp->Prop
abbrev lP(X:Cx)(G:Gx)(Hi H:Hp)(σ:St)(ρ:Rho):Prop:=Rel X.K X.mg G.B G.Bi Hi H σ ρ
def Out(G:Gx)(Hi H:Hp){α:Type}(r:Res α)(k:α->Hp->Hp->Prop):Prop:=match r with
 | .ok a=>∀ Hi' H',Ext Hi H Hi' H'->k a Hi' H'
 | .err c=>∀ Hi' H',Ext Hi H Hi' H'->G.E c H'
 | .no=>False
theorem Out.bind{G:Gx}{Hi H:Hp}{α β:Type}{r:Res α}{f:α->Res β}{k:β->Hp->Hp->Prop}(h:Out G Hi H (r.bind f) k):
  Out G Hi H r fun a Hi' H'=>Out G Hi' H' (f a) k:=by
 cases r with
 | no=>exact h
 | err c=>exact h
 | ok a=>
  intro Hi1 H1 e;have h':Out G Hi H (f a) k:=h;show Out G Hi1 H1 (f a) k
  cases q:f a with
  | no=>rw[q] at h';exact h'
  | err c=>rw[q] at h';exact fun Hi2 H2 e2=>h' _ _ (e.trans e2)
  | ok b=>rw[q] at h';exact fun Hi2 H2 e2=>h' _ _ (e.trans e2)
theorem Out.imp{G:Gx}{Hi H:Hp}{α:Type}{r:Res α}{k k':α->Hp->Hp->Prop}(h:Out G Hi H r k)(f:∀ a Hi' H',Ext Hi H Hi' H'->k a Hi' H'->k' a Hi' H'):Out G Hi H r k':=by
 cases r with
 | no=>exact h
 | err c=>exact h
 | ok a=>exact fun Hi1 H1 e=>f a Hi1 H1 e (h Hi1 H1 e)
theorem Out.here{G:Gx}{Hi H:Hp}{α:Type}{a:α}{k:α->Hp->Hp->Prop}(h:Out G Hi H (.ok a) k)(s:Same Hi H):k a Hi H:=h Hi H (Ext.refl s)
def tD(X:Cx)(G:Gx)(f:Ev):TE:=fun σ H Q=>∃ ρ Hi,lP X G Hi H σ ρ/\Out G Hi H (f ρ) fun d Hi' H'=>∀ v,IsD X.K Hi' v d->Q v H'
def zJW(K:PySem.W.Frag)(H Hi' H':Hp)(a:Addr)(ds:List D):Prop:=H a=none/\Hi' a=none/\∃ xs,H' a=some (.lst xs)/\IsDs K Hi' xs ds
def tF(X:Cx)(G:Gx)(f:Fv):TE:=fun σ H Q=>∃ ρ Hi,lP X G Hi H σ ρ/\Out G Hi H (f ρ) fun ds Hi' H'=>∀ a,zJW X.K H Hi' H' a ds->Q (.ref a) H'
def tTb(X:Cx)(G:Gx)(f:Tv):TT:=fun σ H Q=>∃ ρ Hi,lP X G Hi H σ ρ/\Out G Hi H (f ρ) fun b _ H'=>Q b H'
def tAs(X:Cx)(G:Gx)(f:Fv):TA:=fun σ H Q=>∃ ρ Hi,lP X G Hi H σ ρ/\Out G Hi H (f ρ) fun ds Hi' H'=>∀ vs,IsDs X.K Hi' vs ds->Q vs H'
def Fin(X:Cx)(G:Gx)(Hi:Hp)(E:Ends)(r:Res Fl):Prop:=match r with
 | .ok (.nx ρ')=>∀ σ' Hi' H',Same Hi Hi'->lP X G Hi' H' σ' ρ'->E.nx σ' H'
 | .ok (.brk ρ')=>∀ σ' Hi' H',Same Hi Hi'->lP X G Hi' H' σ' ρ'->E.bk σ' H'
 | .ok (.ctn ρ')=>∀ σ' Hi' H',Same Hi Hi'->lP X G Hi' H' σ' ρ'->E.ct σ' H'
 | .ok (.ret (.v d))=>∀ v Hi' H',Ext G.Bi G.B Hi' H'->IsD X.K Hi' v d->E.rt v H'
 | .ok (.ret (.f ds))=>∀ a Hi' H',Ext G.Bi G.B Hi' H'->zJW X.K G.B Hi' H' a ds->E.rt (.ref a) H'
 | .err c=>∀ Hi' H',Ext G.Bi G.B Hi' H'->G.E c H'
 | .no=>False
theorem Fin.mono{X:Cx}{G:Gx}{Hi Hi':Hp}{E:Ends}{r:Res Fl}(h:Fin X G Hi E r)(s:Same Hi Hi'):Fin X G Hi' E r:=by
 cases r with
 | no=>exact h
 | err c=>exact h
 | ok f=>
  cases f with
  | nx ρ=>exact fun σ' Hi2 H2 s2=>h σ' Hi2 H2 (s.trans s2)
  | brk ρ=>exact fun σ' Hi2 H2 s2=>h σ' Hi2 H2 (s.trans s2)
  | ctn ρ=>exact fun σ' Hi2 H2 s2=>h σ' Hi2 H2 (s.trans s2)
  | ret r=>cases r<;>exact h
def tS(X:Cx)(G:Gx)(f:Sv):TS:=fun E σ H=>∃ ρ Hi,lP X G Hi H σ ρ/\Fin X G Hi E (f ρ)
@[irreducible] def PEd (X:Cx) (G:Gx) (e:Expr) (f:Ev):Prop:=PE X e (tD X G f)
unseal PEd
@[irreducible] def PEf (X:Cx) (G:Gx) (e:Expr) (f:Fv):Prop:=PE X e (tF X G f)
unseal PEf
@[irreducible] def PTd (X:Cx) (G:Gx) (e:Expr) (f:Tv):Prop:=PT X e (tTb X G f)
unseal PTd
@[irreducible] def PWd (X:Cx) (G:Gx) (e:Expr) (f:Tv):Prop:=PW X e (tTb X G f)
unseal PWd
@[irreducible] def PAd (X:Cx) (G:Gx) (es:List Expr) (f:Fv):Prop:=PA X es (tAs X G f)
unseal PAd
@[irreducible] def PSd (X:Cx) (G:Gx) (s:Stmt) (f:Sv):Prop:=PS X s (tS X G f)
unseal PSd
@[irreducible] def eX (X:Cx) (G:Gx) (s:List Stmt) (f:Sv):Prop:=PSs X s (tS X G f)
unseal eX
theorem PE.wk{X:Cx}{e:Expr}{t t':TE}(h:PE X e t)(w:∀ σ H Q,t' σ H Q->t σ H Q):PE X e t':=fun pins s σ H Q I q=>h pins s σ H Q I (w σ H Q q)
theorem PT.wk{X:Cx}{e:Expr}{t t':TT}(h:PT X e t)(w:∀ σ H Q,t' σ H Q->t σ H Q):PT X e t':=fun pins s σ H Q I q=>h pins s σ H Q I (w σ H Q q)
theorem PW.wk{X:Cx}{e:Expr}{t t':TT}(h:PW X e t)(w:∀ σ H Q,t' σ H Q->t σ H Q):PW X e t':=fun wh pins s σ H Q I q=>h wh pins s σ H Q I (w σ H Q q)
theorem PA.wk{X:Cx}{es:List Expr}{t t':TA}(h:PA X es t)(w:∀ σ H Q,t' σ H Q->t σ H Q):PA X es t':=fun pos pins s σ H Q I q=>h pos pins s σ H Q I (w σ H Q q)
theorem PS.wk{X:Cx}{s:Stmt}{t t':TS}(h:PS X s t)(w:∀ E σ H,t' E σ H->t E σ H):PS X s t':=fun pins s σ H E I q=>h pins s σ H E I (w E σ H q)
theorem PSs.wk{X:Cx}{s:List Stmt}{t t':TS}(h:PSs X s t)(w:∀ E σ H,t' E σ H->t E σ H):PSs X s t':=fun pins s σ H E I q=>h pins s σ H E I (w E σ H q)
section
variable{X:Cx}{G:Gx}{a b e:Expr}{es:List Expr}{pos:Pos}{f g:Ev}
theorem zOU(i:Nat)(h:PE X e (zDu i)):PEd X G e (aI i):=PE.wk h fun σ H Q q=>by
 obtain⟨ρ,Hi,R,o⟩:=q;unfold aI at o
 cases z:ρ[i]? with
 | none=>rw[z] at o;exact o.elim
 | some s=>
  rw[z] at o
  cases s with
  | val d=>
   obtain⟨v,p,r⟩:=R.slot i _ z;exact⟨v,p,o.here R.s v r⟩
  | un=>exact o.elim
  | own ds=>exact o.elim
  | exc c=>exact o.elim
  | tab T=>exact o.elim
theorem mP{v:V}{d:D}(h:PE X e (tC v))(r:∀ H,IsD X.K H v d):PEd X G e (eC d):=PE.wk h fun σ H Q q=>by
 obtain⟨ρ,Hi,R,o⟩:=q;exact o.here R.s v (r Hi)
theorem zFW{Hi H:Hp}{σ:St}{ρ:Rho}{β:Type}{k:D->Res β}{k':β->Hp->Hp->Prop}{Q:VK}(R:lP X G Hi H σ ρ)(o:Out G Hi H ((f ρ).bind k) k')
  (w:∀ v d Hi' H',Ext Hi H Hi' H'->lP X G Hi' H' σ ρ->IsD X.K Hi' v d->Out G Hi' H' (k d) k'->Q v H'):tD X G f σ H Q:=
 ⟨ρ,Hi,R,o.bind.imp fun d Hi' H' e q v r=>w v d Hi' H' e (R.grow e) r q⟩
def OpK(X:Cx)(r:R2)(o:Op2):Prop:=(∀ a b c,o a b≠.err c)/\∀(Hi H:Hp)(x y:V)(a b d:D)(Q:VK),Same Hi H->IsD X.K Hi x a->IsD X.K Hi y b->o a b=.ok d->
 (∀ v Hi' H',Ext Hi H Hi' H'->IsD X.K Hi' v d->Q v H')->r x y H Q
theorem op2{r:R2}{o:Op2}(k:OpK X r o):∀ σ H Q,tD X G (eOp o f g) σ H Q->tOp r (tD X G f) (tD X G g) σ H Q:=fun σ H Q q=>by
 obtain⟨ρ,Hi,R,ou⟩:=q;refine zFW R ou fun v d Hi1 H1 e1 R1 r1 o1=>?_
 refine zFW R1 o1 fun w d' Hi2 H2 e2 R2 r2 o2=>?_
 cases z:o d d' with
 | no=>rw[z] at o2;exact o2.elim
 | err c=>exact absurd z (k.1 d d' c)
 | ok u=>
  rw[z] at o2;exact k.2 Hi2 H2 v w d d' u Q R2.s (r1.mono e2.i) r2 z fun x Hi3 H3 e3 r3=>o2 Hi3 H3 e3 x r3
theorem bC{op:Operator}{r:R2}{o:Op2}(ho:OpR X (binaryOp op) r)(k:OpK X r o)(ha:PEd X G a f)(hb:PEd X G b g):PEd X G (.BinOp a op b pos) (eOp o f g):=PE.wk (zIv ho ha hb) (op2 k)
theorem zGg{op:CmpOp}{r:R2}{o:Op2}(ho:OpR X (compareOp op) r)(k:OpK X r o)(ha:PEd X G a f)(hb:PEd X G b g)(hm:behindInMarks op b=false):PEd X G (.Compare a [op] [b] pos) (eOp o f g):=PE.wk (zNC ho ha hb hm) (op2 k)
theorem bY{r:R2}{o:Op2}(ho:IxR X r)(k:OpK X r o)(ha:PEd X G a f)(hb:PEd X G b g)(hs:zDG b):PEd X G (.Subscript a b pos) (eOp o f g):=PE.wk (zFV ho ha hb hs) (op2 k)
theorem tst{op:CmpOp}{r:R2}{o:Op2}(ho:OpR X (compareOp op) r)(k:OpK X r o)(ha:PEd X G a f)(hb:PEd X G b g)(hm:behindInMarks op b=false):PTd X G (.Compare a [op] [b] pos) (dY (eOp o f g)):=
 PT.wk (zHr ho ha hb hm) fun σ H Q q=>by
  obtain⟨ρ,Hi,R,ou⟩:=q;refine op2 k σ H _ ⟨ρ,Hi,R,ou.bind.imp fun d Hi' H' e o v r=>?_⟩
  cases d with
  | bl c=>rw[r.blI];exact⟨c,rfl,o.here e.s⟩
  | _=>exact o.elim
theorem zEV(h:PEd X G a f)(he:∀ whole,isTrue a X.env whole=(do let v <-whole;standAt a.pos;holding [v] (truthy v)):=by intro _;rfl):PTd X G a (dY f):=PT.wk (zOT h he) fun σ H Q q=>by
 obtain⟨ρ,Hi,R,ou⟩:=q;refine⟨ρ,Hi,R,ou.bind.imp fun d Hi' H' e o v r=>?_⟩
 cases d with
 | bl c=>rw[r.blI];exact⟨c,rfl,o.here e.s⟩
 | _=>exact o.elim
variable{t u:Tv}
theorem zQQ{Hi H:Hp}{σ:St}{ρ:Rho}{β:Type}{k:Bool->Res β}{k':β->Hp->Hp->Prop}{Q:Bool->Hp->Prop}(R:lP X G Hi H σ ρ)(o:Out G Hi H ((t ρ).bind k) k')
  (w:∀ c Hi' H',Ext Hi H Hi' H'->lP X G Hi' H' σ ρ->Out G Hi' H' (k c) k'->Q c H'):tTb X G t σ H Q:=
 ⟨ρ,Hi,R,o.bind.imp fun d Hi' H' e q=>w d Hi' H' e (R.grow e) q⟩
theorem zSo(h:PTd X G a t):PTd X G (.UnaryOp .Not a pos) (zKC t):=PT.wk (zQa h) fun σ H Q q=>by
 obtain⟨ρ,Hi,R,ou⟩:=q;exact zQQ R ou fun c Hi1 H1 e1 R1 o1=>o1.here R1.s
theorem zBC(h:PTd X G a t):PWd X G (.BoolOp .And [a] pos) t:=zNG h
theorem zIn(h:PTd X G a t):PWd X G (.BoolOp .Or [a] pos) t:=zQx h
theorem zFq{rest:List Expr}(ha:PTd X G a t)(hb:PWd X G (.BoolOp .And (b::rest) pos) u):PWd X G (.BoolOp .And (a::b::rest) pos) (zAK t u):=PW.wk (zQz ha hb) fun σ H Q q=>by
 obtain⟨ρ,Hi,R,ou⟩:=q;refine zQQ R ou fun c Hi1 H1 e1 R1 o1=>?_
 cases c with
 | true=>exact⟨ρ,Hi1,R1,o1⟩
 | false=>exact o1.here R1.s
theorem zOn{rest:List Expr}(ha:PTd X G a t)(hb:PWd X G (.BoolOp .Or (b::rest) pos) u):PWd X G (.BoolOp .Or (a::b::rest) pos) (zJt t u):=PW.wk (zRk ha hb) fun σ H Q q=>by
 obtain⟨ρ,Hi,R,ou⟩:=q;refine zQQ R ou fun c Hi1 H1 e1 R1 o1=>?_
 cases c with
 | true=>exact o1.here R1.s
 | false=>exact⟨ρ,Hi1,R1,o1⟩
theorem PWd.pt{e:Expr}(h:PWd X G e t):PTd X G e t:=PW.pt h
theorem zPK{op}(h:PEd X G a f):PEd X G (.BoolOp op [a] pos) f:=zPZ h
theorem zRw{rest:List Expr}(ha:PEd X G a f)(hb:PEd X G (.BoolOp .Or (b::rest) pos) g):PEd X G (.BoolOp .Or (a::b::rest) pos) (eOr f g):=PE.wk (zRe ha hb) fun σ H Q q=>by
 obtain⟨ρ,Hi,R,ou⟩:=q;refine zFW R ou fun v d Hi1 H1 e1 R1 r1 o1=>?_
 cases d with
 | bl c=>
  refine⟨c,r1.blI,?_⟩
  cases c with
  | true=>exact o1.here R1.s _ (.bl true)
  | false=>exact⟨ρ,Hi1,R1,o1⟩
 | _=>exact o1.elim
theorem yB(ha:PEd X G a f):PEd X G (.UnaryOp .USub a pos) (eUn zKM f):=PE.wk (zQX zPM ha) fun σ H Q q=>by
 obtain⟨ρ,Hi,R,ou⟩:=q;refine zFW R ou fun v d Hi1 H1 e1 R1 r1 o1=>?_
 cases d with
 | int c=>exact⟨c,r1.intI,o1.here R1.s _ (.int _)⟩
 | _=>exact o1.elim
theorem zMl{c:Expr}(hc:PTd X G c t)(ha:PEd X G a f)(hb:PEd X G b g):PEd X G (.IfExp c a b pos) (eIf t f g):=PE.wk (zJG hc ha hb) fun σ H Q q=>by
 obtain⟨ρ,Hi,R,ou⟩:=q;refine zQQ R ou fun c Hi1 H1 e1 R1 o1=>?_
 cases c with
 | true=>exact⟨ρ,Hi1,R1,o1⟩
 | false=>exact⟨ρ,Hi1,R1,o1⟩
variable{fs:Fv}
theorem aE:PAd X G [] aNil:=PA.wk oT fun σ H Q q=>by
 obtain⟨ρ,Hi,R,ou⟩:=q;exact ou.here R.s [] .nil
theorem aA(ha:PEd X G e f)(hr:PAd X G es fs)(hs:starEach (e::es) X.env=(false,eval e X.env)::starEach es X.env:=by rfl):PAd X G (e::es) (aD f fs):=PA.wk (kR ha hr hs) fun σ H Q q=>by
 obtain⟨ρ,Hi,R,ou⟩:=q;refine zFW R ou fun v d Hi1 H1 e1 R1 r1 o1=>?_
 refine⟨ρ,Hi1,R1,o1.bind.imp fun ds Hi2 H2 e2 o2 vs rs=>?_⟩
 exact o2.here e2.s _ (.cons (r1.mono e2.i) rs)
theorem zJL{Hi H:Hp}{σ:St}{ρ:Rho}{β:Type}{k:List D->Res β}{k':β->Hp->Hp->Prop}{Q:List V->Hp->Prop}(R:lP X G Hi H σ ρ)(o:Out G Hi H ((fs ρ).bind k) k')
  (w:∀ vs ds Hi' H',Ext Hi H Hi' H'->lP X G Hi' H' σ ρ->IsDs X.K Hi' vs ds->Out G Hi' H' (k ds) k'->Q vs H'):tAs X G fs σ H Q:=
 ⟨ρ,Hi,R,o.bind.imp fun d Hi' H' e q v r=>w v d Hi' H' e (R.grow e) r q⟩
theorem mT{x1}(h:PAd X G es fs):PEd X G (.Tuple es x1 pos) (zFz fs):=PE.wk (zQo h) fun σ H Q q=>by
 obtain⟨ρ,Hi,R,ou⟩:=q;refine zJL R ou fun vs ds Hi1 H1 e1 R1 r1 o1=>?_
 by_cases hz:ds.length<=16777216
 ·rw[if_pos hz] at o1
  refine⟨by rw[r1.length];exact hz,fun p hp=>?_⟩
  exact o1 _ _ (Ext.new R1.s hp) (.ref p) (.tup (SqT.of aY) (r1.mono (dA (R1.s.none hp) _)))
 ·rw[if_neg hz] at o1;exact o1.elim
theorem cD(h:PAd X G es fs):PEf X G (.List es pos) (lQ fs):=PE.wk (zQq h) fun σ H Q q=>by
 obtain⟨ρ,Hi,R,ou⟩:=q;refine zJL R ou fun vs ds Hi1 H1 e1 R1 r1 o1=>?_
 by_cases hz:ds.length<=16777216
 ·rw[if_pos hz] at o1
  refine⟨by rw[r1.length];exact hz,fun p hp=>?_⟩
  exact o1 _ _ (Ext.newF R1.s hp) p ⟨e1.h.none hp,R1.s.none hp,vs,aY,r1⟩
 ·rw[if_neg hz] at o1;exact o1.elim
theorem PEf.d(h:PEf X G e fs):PEd X G e (eF fs):=PE.wk h fun σ H Q q=>by
 obtain⟨ρ,Hi,R,ou⟩:=q;refine⟨ρ,Hi,R,?_⟩
 cases z:fs ρ with
 | no=>unfold eF at ou;rw[z] at ou;exact ou
 | err c=>unfold eF at ou;rw[z] at ou;exact ou
 | ok ds=>
  unfold eF at ou;rw[z] at ou
  intro Hi1 H1 e1 a n;obtain⟨n1,n2,xs,n3,n4⟩:=n;have ou':∀ Hi' H',Ext Hi H Hi' H'->∀ v,IsD X.K Hi' v (.lst ds)->Q v H':=ou;exact ou' _ _ (e1.hold n1 n3 n2) (.ref a) (.lst (SqL.of aY) (n4.mono (dA n2 _)))
theorem PEd.frz(h:PEd X G e f):PEd X G e (zOt f):=PE.wk h fun σ H Q q=>by
 obtain⟨ρ,Hi,R,ou⟩:=q;obtain⟨Hf,s1,R1,fl⟩:=R.frz;refine⟨ρ.map Sl.frz,Hf,R1,?_⟩
 unfold zOt at ou
 cases z:f (ρ.map Sl.frz) with
 | no=>rw[z] at ou;exact ou
 | err c=>
  rw[z] at ou;intro Hi1 H1 e1;have ou':∀ Hi' H',Ext Hi H Hi' H'->G.E c H':=ou;obtain⟨Ht,e2,k,s2,n⟩:=Ext.thaw s1 fl R1.s e1;exact ou' Ht H1 e2
 | ok d=>
  rw[z] at ou;by_cases hz:noL d=true
  ·have ou':Out G Hi H (if noL d=true then Res.ok d else .no) _:=ou
   rw[if_pos hz] at ou';intro Hi1 H1 e1 v r;obtain⟨Ht,e2,k,s2,n⟩:=Ext.thaw s1 fl R1.s e1;exact ou' Ht H1 e2 v (r.noL k hz)
  ·have ou':Out G Hi H (if noL d=true then Res.ok d else .no) _:=ou
   rw[if_neg hz] at ou';exact ou'.elim
end
end L3
namespace L3
open PySem PySem.Spec PyProof.Rows L2
unseal PEd PEf PTd PWd PAd PSd eX
section
variable{X:Cx}{G:Gx}{a b e:Expr}{es:List Expr}{pos:Pos}{f g:Ev}{fs:Fv}{t u:Tv}
theorem PEf.frz(h:PEf X G e fs):PEf X G e (zOu fs):=PE.wk h fun σ H Q q=>by
 obtain⟨ρ,Hi,R,ou⟩:=q;obtain⟨Hf,s1,R1,fl⟩:=R.frz;refine⟨ρ.map Sl.frz,Hf,R1,?_⟩
 unfold zOu at ou
 cases z:fs (ρ.map Sl.frz) with
 | no=>rw[z] at ou;exact ou
 | err c=>
  rw[z] at ou;intro Hi1 H1 e1;have ou':∀ Hi' H',Ext Hi H Hi' H'->G.E c H':=ou;obtain⟨Ht,e2,k,s2,n⟩:=Ext.thaw s1 fl R1.s e1;exact ou' Ht H1 e2
 | ok ds=>
  rw[z] at ou;have ou':Out G Hi H (if noLs ds=true then Res.ok ds else .no) _:=ou;by_cases hz:noLs ds=true
  ·rw[if_pos hz] at ou'
   intro Hi1 H1 e1 a n;obtain⟨n1,n2,xs,n3,n4⟩:=n;obtain⟨Ht,e2,k,s2,_⟩:=Ext.thaw s1 fl R1.s e1;exact ou' Ht H1 e2 a ⟨n1,s2.none n2,xs,n3,n4.noL k hz⟩
  ·rw[if_neg hz] at ou';exact ou'.elim
theorem OpR.or{o:Value->Value->Sem Value}{r r':R2}(h:OpR X o r)(h':OpR X o r'):OpR X o (fun x y H Q=>r x y H Q∨r' x y H Q):=by
 intro pins s σ H x y v u Q I rx ry q;rcases q with q | q
 ·exact h pins s σ H x y v u Q I rx ry q
 ·exact h' pins s σ H x y v u Q I rx ry q
theorem zPC{o:Op2}{h:Int->Int->Int}(hi:∀ i j,o (.int i) (.int j)=.ok (.int (h i j)))(hn:∀ a b d,o a b=.ok d->∃ i j,a=.int i/\b=.int j)(he:∀ a b c,o a b≠.err c):OpK X (rI0 fun i j=>.int (h i j)) o:=
 ⟨he,fun Hi H x y a b d Q s r1 r2 z q=>by
  obtain⟨i,j,rfl,rfl⟩:=hn a b d z;rw[hi] at z;cases z
  exact⟨i,j,r1.intI,r2.intI,q _ Hi H (Ext.refl s) (.int _)⟩⟩
theorem zKV{o:Op2}{h:Int->Int->Bool}(hi:∀ i j,o (.int i) (.int j)=.ok (.bl (h i j)))(hn:∀ a b d,o a b=.ok d->∃ i j,a=.int i/\b=.int j)(he:∀ a b c,o a b≠.err c):OpK X (rI0 fun i j=>.bl (h i j)) o:=
 ⟨he,fun Hi H x y a b d Q s r1 r2 z q=>by
  obtain⟨i,j,rfl,rfl⟩:=hn a b d z;rw[hi] at z;cases z
  exact⟨i,j,r1.intI,r2.intI,q _ Hi H (Ext.refl s) (.bl _)⟩⟩
theorem vX:OpK X (rI0 fun i j=>.int (i-j)) wI:=zPC (fun _ _=>rfl) (fun a b d z=>by unfold wI at z;split at z<;>first | exact⟨_,_,rfl,rfl⟩ | cases z) (fun a b c z=>by unfold wI at z;split at z<;>cases z)
theorem zJs:OpK X (rI0 fun i j=>.bl (decide (i<j))) oLt:=zKV (fun _ _=>rfl) (fun a b d z=>by unfold oLt at z;split at z<;>first | exact⟨_,_,rfl,rfl⟩ | cases z) (fun a b c z=>by unfold oLt at z;split at z<;>cases z)
theorem zLj:OpK X (rI0 fun i j=>.bl (decide (j<i))) oGt:=zKV (fun _ _=>rfl) (fun a b d z=>by unfold oGt at z;split at z<;>first | exact⟨_,_,rfl,rfl⟩ | cases z) (fun a b c z=>by unfold oGt at z;split at z<;>cases z)
theorem zKs{o:Op2}{C:Int->Int->Prop}{h:Int->Int->Int}(hn:∀ a b d,o a b=.ok d->∃ i j,a=.int i/\b=.int j/\C i j/\d=.int (h i j))(he:∀ a b c,o a b≠.err c):OpK X (rI C fun i j=>.int (h i j)) o:=
 ⟨he,fun Hi H x y a b d Q s r1 r2 z q=>by
  obtain⟨i,j,rfl,rfl,hc,rfl⟩:=hn a b d z
  exact⟨i,j,r1.intI,r2.intI,hc,q _ Hi H (Ext.refl s) (.int _)⟩⟩
def zPc(i j:Int):Prop:=jQ i j=true
theorem dI:OpR X (binaryOp .Mult) (rI zPc fun i j=>.int (i*j)):=opI fun i j _ _ _ _ _ hc q=>by
 have hc':jQ i j=true:=hc;unfold jQ at hc';simp only[VQ,Q8,decide_eq_true_eq] at hc';rcases hc' with (⟨h1,h2⟩ | ⟨h1,h2⟩) | h
 ·exact mul_int q (zQM.ok (.inl ⟨h1,h2⟩))
 ·exact mul_int q (zQM.ok (.inr ⟨h1,h2⟩))
 ·exact mul_int q (PySem.IntMulOk.of_le (X9.mpr (zMF i)) (X9.mpr (zMF j)) h)
def zOE(_ j:Int):Prop:=lN j=true
theorem eG:OpR X (binaryOp .FloorDiv) (rI zOE fun i j=>.int (i.fdiv j)):=opI fun i j _ _ _ _ _ hc q=>by
 have hc':lN j=true:=hc;unfold lN at hc';simp only[Q8,decide_eq_true_eq] at hc';refine floordiv_int hc'.1 q (.inl (PyProof.noPylong_of_log2 ?_))
 have h2:=hc'.2;unfold nb at h2;omega
def zQi(i j:Int):Prop:=uY i j=true
theorem tR:OpR X (binaryOp .Pow) (rI zQi fun i j=>.int (i^j.toNat)):=opI fun i j _ _ _ _ _ hc q=>by
 have hc':uY i j=true:=hc;unfold uY at hc';simp only[Q8,decide_eq_true_eq] at hc';refine pow_int hc'.1 (Q6 (Int.mul_le_mul_of_nonneg_right ?_ hc'.1) hc'.2) q
 have:=X9.mpr (zMF i)
 omega
theorem lM:OpK X (rI zPc fun i j=>.int (i*j)) wH:=zKs (fun a b d z=>by
 unfold wH at z;split at z
 case h_2=>cases z
 rename_i i j
 have z':(if jQ i j=true then Res.ok (D.int (i*j)) else .no)=.ok d:=z;by_cases h:jQ i j=true
 ·rw[if_pos h] at z';cases z';exact⟨i,j,rfl,rfl,h,rfl⟩
 ·rw[if_neg h] at z';cases z') (fun a b c z=>by
 unfold wH at z;split at z
 case h_2=>cases z
 rename_i i j
 have z':(if jQ i j=true then Res.ok (D.int (i*j)) else .no)=.err c:=z;by_cases h:jQ i j=true
 ·rw[if_pos h] at z';cases z'
 ·rw[if_neg h] at z';cases z')
theorem oI:OpK X (rI zOE fun i j=>.int (i.fdiv j)) uV:=zKs (fun a b d z=>by
 unfold uV at z;split at z
 case h_2=>cases z
 rename_i i j
 have z':(if lN j=true then Res.ok (D.int (i.fdiv j)) else .no)=.ok d:=z;by_cases h:lN j=true
 ·rw[if_pos h] at z';cases z';exact⟨i,j,rfl,rfl,h,rfl⟩
 ·rw[if_neg h] at z';cases z') (fun a b c z=>by
 unfold uV at z;split at z
 case h_2=>cases z
 rename_i i j
 have z':(if lN j=true then Res.ok (D.int (i.fdiv j)) else .no)=.err c:=z;by_cases h:lN j=true
 ·rw[if_pos h] at z';cases z'
 ·rw[if_neg h] at z';cases z')
theorem lO:OpK X (rI (fun _ j=>j≠0) fun i j=>.int (i.fmod j)) sN:=zKs (fun a b d z=>by
 unfold sN at z;split at z
 case h_2=>cases z
 rename_i i j
 have z':(if j≠0 then Res.ok (D.int (i.fmod j)) else .no)=.ok d:=z;by_cases h:j≠0
 ·rw[if_pos h] at z';cases z';exact⟨i,j,rfl,rfl,h,rfl⟩
 ·rw[if_neg h] at z';cases z') (fun a b c z=>by
 unfold sN at z;split at z
 case h_2=>cases z
 rename_i i j
 have z':(if j≠0 then Res.ok (D.int (i.fmod j)) else .no)=.err c:=z;by_cases h:j≠0
 ·rw[if_pos h] at z';cases z'
 ·rw[if_neg h] at z';cases z')
theorem zHD:OpK X (rI zQi fun i j=>.int (i^j.toNat)) zJu:=zKs (fun a b d z=>by
 unfold zJu at z;split at z
 case h_2=>cases z
 rename_i i j
 have z':(if uY i j=true then Res.ok (D.int (i^j.toNat)) else .no)=.ok d:=z;by_cases h:uY i j=true
 ·rw[if_pos h] at z';cases z';exact⟨i,j,rfl,rfl,h,rfl⟩
 ·rw[if_neg h] at z';cases z') (fun a b c z=>by
 unfold zJu at z;split at z
 case h_2=>cases z
 rename_i i j
 have z':(if uY i j=true then Res.ok (D.int (i^j.toNat)) else .no)=.err c:=z;by_cases h:uY i j=true
 ·rw[if_pos h] at z';cases z'
 ·rw[if_neg h] at z';cases z')
def zPT(K:PySem.W.Frag):R2:=fun x y H Q=>∃ a b ys,x=.ref a/\y=.ref b/\SqT K H a []/\SqT K H b ys/\Q (.ref b) H
theorem zLX:OpR X (binaryOp .Add) (zPT X.K):=by
 intro pins s σ H x y v u Q I rx ry h;obtain⟨a,b,ys,rfl,rfl,ha,hb,q⟩:=h;cases rx;cases ry;obtain⟨its,r1,p1,_⟩:=I.tuple ha;obtain⟨its2,r2,p2,_⟩:=I.tuple hb;cases r1;obtain⟨⟨c1,d1,t1,s1⟩,ho1,hc1,n1,hd1⟩:=id p1;obtain⟨⟨c2,d2,t2,s2⟩,ho2,hc2,n2,hd2⟩:=id p2;simp only at hc1 hd1 hc2 hd2
 subst hc1 hd1 hc2 hd2;exact concat_meets ⟨_,ho1,rfl⟩ ⟨_,ho2,rfl⟩ noFill_tuple_add seq_tuple_add XO XQ (XR _ _) (tuple_addW0 a b #[] its2.toArray n1 n2 d1 d2 s1 s2 rfl) ⟨ho1,ho2,⟨.ref b,H,I,rfl,q⟩⟩
def zOL(K:PySem.W.Frag):R2:=fun x y H Q=>rI0 (fun i j=>.int (i+j)) x y H Q∨(zOD K x y H Q∨zPT K x y H Q)
theorem eH:OpR X (binaryOp .Add) (zOL X.K):=OpR.or zOO (OpR.or zMs zLX)
theorem nY:OpK X (zOL X.K) xS:=⟨fun a b c z=>(by
  unfold xS at z;split at z
  case h_1=>cases z
  case h_3=>cases z
  rename_i as bs
  have z':(if as.length+bs.length<=16777216 then Res.ok (D.tup (as++bs)) else .no)=.err c:=z
  split at z'<;>cases z'),fun Hi H x y a b d Q s r1 r2 z q=>by
  unfold xS at z;split at z
  case h_3=>cases z
  ·cases z
   exact .inl ⟨_,_,r1.intI,r2.intI,q _ Hi H (Ext.refl s) (.int _)⟩
  ·rename_i as bs
   have z':(if as.length+bs.length<=16777216 then Res.ok (D.tup (as++bs)) else .no)=.ok d:=z;split at z'
   ·rename_i hz
    cases z'
    obtain⟨p,xs,rfl,h1,i1⟩:=r1.tupI;obtain⟨p',ys,rfl,h2,i2⟩:=r2.tupI;by_cases h0:as.length=0
    ·have e0:as=[]:=Xs h0
     subst e0;cases i1;exact .inr (.inr ⟨p,p',ys,rfl,rfl,cJ s h1,cJ s h2,q _ Hi H (Ext.refl s) (.tup h2 i2)⟩)
    refine .inr (.inl ⟨p,p',xs,ys,rfl,rfl,cJ s h1,cJ s h2,fun e=>h0 (by rw[<-i1.length,e];rfl),by rw[i1.length,i2.length];exact hz,fun e=>?_,fun _ l hl=>?_⟩)
    ·subst e
     cases i2;rw[QW] at q;exact q _ Hi H (Ext.refl s) (.tup h1 i1)
    ·exact q _ _ _ (Ext.new s hl) (.tup (SqT.of aY) ((i1.append i2).mono (dA (s.none hl) _)))
   ·cases z'⟩
theorem zMc{α:Type}{xs:List α}{i:Int}{v:α}(h0:i<0)(h1:0<=(xs.length:Int)+i)(h:xs[((xs.length:Int)+i).toNat]?=some v):atI xs i=some v:=by
 have e:ixN xs.length i=some ((xs.length:Int)+i).toNat:=by
  unfold ixN;rw[if_neg (by omega),if_pos (by omega)];congr 2
  omega
 unfold atI;rw[e];exact h
theorem zJc{K:Fg_}{H:Hp}{xs:List V}{ds:List D}{i:Int}{d:D}(h:IsDs K H xs ds)(e:atD ds i=some d):∃ v,atI xs i=some v/\IsD K H v d:=by
 unfold atD at e;by_cases h0:0<=i
 ·rw[if_pos h0] at e
  obtain⟨v,hv,r⟩:=h.at e;refine⟨v,?_,r⟩
  have:=zDd hv
  rw[show((i.toNat:Nat):Int)=i by omega] at this;exact this
 ·rw[if_neg h0] at e
  by_cases h1:0<=(ds.length:Int)+i
  ·rw[if_pos h1] at e
   obtain⟨v,hv,r⟩:=h.at e;refine⟨v,?_,r⟩
   have hl:=h.length;have e2:((ds.length:Int)+i).toNat=((xs.length:Int)+i).toNat:=by rw[hl]
   rw[e2] at hv;exact zMc (by omega) (by omega) hv
  ·rw[if_neg h1] at e;cases e
theorem gY:OpK X (fun x y H Q=>zQP X.K x y H Q∨zQR X.K x y H Q) oIx:=⟨fun a b c z=>(by
  unfold oIx at z;split at z
  case h_3=>cases z
  ·rename_i ds i
   have z':ofO (atD ds i)=Res.err c:=z;cases q:atD ds i<;>rw[q] at z'<;>cases z'
  ·rename_i ds i
   have z':ofO (atD ds i)=Res.err c:=z
   cases q:atD ds i<;>rw[q] at z'<;>cases z'),fun Hi H x y a b d Q s r1 r2 z q=>by
  unfold oIx at z;split at z
  case h_3=>cases z
  ·rename_i ds i
   have z':ofO (atD ds i)=Res.ok d:=z
   cases w:atD ds i with
   | none=>rw[w] at z';cases z'
   | some d'=>
    rw[w] at z';cases z'
    obtain⟨p,xs,rfl,h1,i1⟩:=r1.tupI;obtain⟨v,hv,r⟩:=zJc i1 w;exact .inr ⟨p,xs,i,v,rfl,r2.intI,cJ s h1,hv,q v Hi H (Ext.refl s) r⟩
  ·rename_i ds i
   have z':ofO (atD ds i)=Res.ok d:=z
   cases w:atD ds i with
   | none=>rw[w] at z';cases z'
   | some d'=>
    rw[w] at z';cases z'
    obtain⟨p,xs,rfl,h1,i1⟩:=r1.lstI;obtain⟨v,hv,r⟩:=zJc i1 w
    exact .inl ⟨p,xs,i,v,rfl,r2.intI,cK s h1,hv,q v Hi H (Ext.refl s) r⟩⟩
theorem aQ:IxR X (fun x y H Q=>zQP X.K x y H Q∨zQR X.K x y H Q):=zNj.or zPs
end
section
variable{X:Cx}{pins:List (Addr×Obj)}{σ:St}{H:Hp}{s:Shared}
mutual
theorem IsD.inj(I:Inv X pins σ H s):∀ {v:V} {d e:D},IsD X.K H v d->IsD X.K H v e->d=e
 | _,_,_,.non,h=>by cases h;rfl
 | _,_,_,.bl b,h=>by cases h;rfl
 | _,_,_,.int i,h=>by cases h;rfl
 | _,_,_,.str x,h=>by cases h;rfl
 | _,_,_,.tup h hs,h2=>by
  cases h2 with
  | tup h' hs'=>
   have e:=I.tuple_inj h h';subst e;rw[IsDs.inj I hs hs']
  | lst h' hs'=>
   exfalso
   obtain⟨_,_,⟨o,e,c,_⟩,_⟩:=I.tuple h;obtain⟨_,_,⟨o',n',e',c',_⟩,_⟩:=I.list h';rw[e] at e';cases e';rw[c] at c';exact absurd c' (by decide)
 | _,_,_,.lst h hs,h2=>by
  cases h2 with
  | lst h' hs'=>
   have e:=I.list_inj h h';subst e;rw[IsDs.inj I hs hs']
  | tup h' hs'=>
   exfalso
   obtain⟨_,_,⟨o,e,c,_⟩,_⟩:=I.tuple h';obtain⟨_,_,⟨o',n',e',c',_⟩,_⟩:=I.list h;rw[e] at e';cases e';rw[c] at c';exact absurd c' (by decide)
theorem IsDs.inj(I:Inv X pins σ H s):∀ {vs:List V} {ds es:List D},IsDs X.K H vs ds->IsDs X.K H vs es->ds=es
 | _,_,_,.nil,h=>by cases h;rfl
 | _,_,_,.cons h hs,h2=>by
  cases h2 with
  | cons h' hs'=>rw[IsD.inj I h h',IsDs.inj I hs hs']
end
theorem zGN{α:Type}{l:List α}{j:Nat}{x d:α}(h:l[j]?=some x):l.getD j d=x:=by
 rw[QB,h];rfl
theorem nS{A:Around}{xs xs':List V}{ds ds':List D}{its its':List Value}(hs:IsDs X.K H xs ds)(hs':IsDs X.K H xs' ds')(rv:dN xs its)(rv':dN xs' its')
  (rc:∀(d d':D)(v v':V)(u u':Value),d∈ds->IsD X.K H v d->IsD X.K H v' d'->cV v u->cV v' u'->SeqAt.EqAt A s u u' (eqD d d'))
  (j:Nat) (g1:j<its.toArray.size) (g2:j<its'.toArray.size):SeqAt.EqAt A s its.toArray[j] its'.toArray[j] (eqD (ds.getD j .non) (ds'.getD j .non)):=by
 have g1':j<its.length:=by simpa using g1
 have g2':j<its'.length:=by simpa using g2
 have l1:its.length=ds.length:=by rw[<-rv.length,hs.length]
 have l2:its'.length=ds'.length:=by rw[<-rv'.length,hs'.length]
 obtain⟨d,hd⟩:∃ d,ds[j]?=some d:=⟨_,Qu (by omega)⟩
 obtain⟨d',hd'⟩:∃ d,ds'[j]?=some d:=⟨_,Qu (by omega)⟩
 obtain⟨v,hv,iv⟩:=hs.at hd;obtain⟨v',hv',iv'⟩:=hs'.at hd';obtain⟨w1,hw,rw1⟩:=rv.get hv;obtain⟨w2,hw',rw2⟩:=rv'.get hv'
 have e1:its.toArray[j]=w1:=by
  rw[Qu g1'] at hw;simpa using hw
 have e2:its'.toArray[j]=w2:=by
  rw[Qu g2'] at hw';simpa using hw'
 rw[e1,e2,zGN hd,zGN hd'];exact rc d d' v v' w1 w2 (Qm hd) iv iv' rw1 rw2
theorem iM{ds ds':List D}(h:ds.length=ds'.length):((List.range ds.length).all fun j=>eqD (ds.getD j .non) (ds'.getD j .non))=zDO ds ds':=by
 rw[nH,<-h,Xt];simp
theorem zAJ{ds ds':List D}(h:ds.length≠ds'.length):zDO ds ds'=false:=by
 rw[nH];simp[h]
theorem zBW(I:Inv X pins σ H s){A:Around}{v v':V}{d d':D}{u u':Value}(h1:IsD X.K H v d)(h2:IsD X.K H v' d')(r1:cV v u)(r2:cV v' u')(hu:A.units<cLine)
  (rc:∀ ds,(d=.tup ds∨d=.lst ds)->∀(e e':D)(w w':V)(z z':Value),e∈ds->IsD X.K H w e->IsD X.K H w' e'->cV w z->cV w' z'->SeqAt.EqAt A.in1 s z z' (eqD e e')):
  SeqAt.EqAt A s u u' (eqD d d'):=by
 cases h1 with
 | non=>
  cases (show u=Value.none from r1)
  cases h2 with
  | non=>cases (show u'=Value.none from r2);exact SeqAt.EqAt.same _
  | bl b=>cases (show u'=Value.bool _ from r2);exact SeqAt.EqAt.none_bool _
  | int i=>obtain⟨t,rfl⟩:=r2;exact SeqAt.EqAt.none_int _ _
  | str x=>obtain⟨t,rfl⟩:=r2;exact SeqAt.EqAt.none_str _ _
  | tup h hs=>cases (show u'=Value.ref _ from r2);obtain⟨its,rv,p,hz⟩:=I.tuple h;exact SeqAt.EqAt.none_tuple (show s.heap.IsTuple _ its.toArray from p) hu
  | lst h hs=>cases (show u'=Value.ref _ from r2);obtain⟨its,rv,p,hz⟩:=I.list h;exact SeqAt.EqAt.none_list p.isList hu
 | bl b=>
  cases (show u=Value.bool _ from r1)
  cases h2 with
  | non=>cases (show u'=Value.none from r2);exact SeqAt.EqAt.bool_none _
  | bl b=>cases (show u'=Value.bool _ from r2);exact SeqAt.EqAt.bool_bool _ _
  | int i=>obtain⟨t,rfl⟩:=r2;exact SeqAt.EqAt.bool_int _ _ _
  | str x=>obtain⟨t,rfl⟩:=r2;exact SeqAt.EqAt.bool_str _ _ _
  | tup h hs=>cases (show u'=Value.ref _ from r2);obtain⟨its,rv,p,hz⟩:=I.tuple h;exact SeqAt.EqAt.bool_tuple _ (show s.heap.IsTuple _ its.toArray from p) hu
  | lst h hs=>cases (show u'=Value.ref _ from r2);obtain⟨its,rv,p,hz⟩:=I.list h;exact SeqAt.EqAt.bool_list _ p.isList hu
 | int i=>
  obtain⟨t,rfl⟩:=r1
  cases h2 with
  | non=>cases (show u'=Value.none from r2);exact SeqAt.EqAt.int_none _ _
  | bl b=>cases (show u'=Value.bool _ from r2);exact SeqAt.EqAt.int_bool _ _ _
  | int i=>obtain⟨t,rfl⟩:=r2;exact SeqAt.EqAt.int_int _ _ _ _
  | str x=>obtain⟨t,rfl⟩:=r2;exact SeqAt.EqAt.int_str _ _ _ _
  | tup h hs=>cases (show u'=Value.ref _ from r2);obtain⟨its,rv,p,hz⟩:=I.tuple h;exact SeqAt.EqAt.int_tuple _ _ (show s.heap.IsTuple _ its.toArray from p) hu
  | lst h hs=>cases (show u'=Value.ref _ from r2);obtain⟨its,rv,p,hz⟩:=I.list h;exact SeqAt.EqAt.int_list _ _ p.isList hu
 | str x=>
  obtain⟨t,rfl⟩:=r1
  cases h2 with
  | non=>cases (show u'=Value.none from r2);exact SeqAt.EqAt.str_none _ _
  | bl b=>cases (show u'=Value.bool _ from r2);exact SeqAt.EqAt.str_bool _ _ _
  | int i=>obtain⟨t,rfl⟩:=r2;exact SeqAt.EqAt.str_int _ _ _ _
  | str x=>obtain⟨t,rfl⟩:=r2;exact SeqAt.EqAt.str_str _ _ _ _
  | tup h hs=>cases (show u'=Value.ref _ from r2);obtain⟨its,rv,p,hz⟩:=I.tuple h;exact SeqAt.EqAt.str_tuple _ _ (show s.heap.IsTuple _ its.toArray from p) hu
  | lst h hs=>cases (show u'=Value.ref _ from r2);obtain⟨its,rv,p,hz⟩:=I.list h;exact SeqAt.EqAt.str_list _ _ p.isList hu
 | @tup a xs ds h hs=>
  cases (show u=Value.ref a from r1)
  obtain⟨its,rv,p,hz⟩:=I.tuple h
  cases h2 with
  | non=>cases (show u'=Value.none from r2);exact SeqAt.EqAt.tuple_none (show s.heap.IsTuple _ its.toArray from p) hu
  | bl b=>cases (show u'=Value.bool _ from r2);exact SeqAt.EqAt.tuple_bool _ (show s.heap.IsTuple _ its.toArray from p) hu
  | int i=>obtain⟨t,rfl⟩:=r2;exact SeqAt.EqAt.tuple_int _ _ (show s.heap.IsTuple _ its.toArray from p) hu
  | str x=>obtain⟨t,rfl⟩:=r2;exact SeqAt.EqAt.tuple_str _ _ (show s.heap.IsTuple _ its.toArray from p) hu
  | @tup a' xs' ds' h' hs'=>
   cases (show u'=Value.ref a' from r2)
   by_cases e:a=a'
   ·subst e
    have e:=I.tuple_inj h h';subst e;have e:=IsDs.inj I hs hs';subst e;rw[sZ];exact SeqAt.EqAt.same _
   ·obtain⟨its',rv',p',hz'⟩:=I.tuple h'
    have l1:its.toArray.size=ds.length:=by rw[Ql,<-rv.length,hs.length]
    have l2:its'.toArray.size=ds'.length:=by rw[Ql,<-rv'.length,hs'.length]
    have key:=SeqAt.RcAt.tuples (A:=A) (s:=s) (show s.heap.IsTuple a its.toArray from p) (show s.heap.IsTuple a' its'.toArray from p') hu
     (nS (A:=A.in1) (s:=s) hs hs' rv rv' fun d d' v v' u u' hm iv iv' r r'=>rc ds (.inl rfl) d d' v v' u u' hm iv iv' r r')
    rw[l1,l2,<-nH] at key;exact SeqAt.EqAt.of_refs e key
  | @lst a' xs' ds' h' hs'=>
   cases (show u'=Value.ref a' from r2)
   obtain⟨its',rv',p',hz'⟩:=I.list h';exact SeqAt.EqAt.tuple_list (show s.heap.IsTuple _ its.toArray from p) p'.isList hu
 | @lst a xs ds h hs=>
  cases (show u=Value.ref a from r1)
  obtain⟨its,rv,p,hz⟩:=I.list h
  cases h2 with
  | non=>cases (show u'=Value.none from r2);exact SeqAt.EqAt.list_none p.isList hu
  | bl b=>cases (show u'=Value.bool _ from r2);exact SeqAt.EqAt.list_bool _ p.isList hu
  | int i=>obtain⟨t,rfl⟩:=r2;exact SeqAt.EqAt.list_int _ _ p.isList hu
  | str x=>obtain⟨t,rfl⟩:=r2;exact SeqAt.EqAt.list_str _ _ p.isList hu
  | @tup a' xs' ds' h' hs'=>
   cases (show u'=Value.ref a' from r2)
   obtain⟨its',rv',p',hz'⟩:=I.tuple h';exact SeqAt.EqAt.list_tuple p.isList (show s.heap.IsTuple _ its'.toArray from p') hu
  | @lst a' xs' ds' h' hs'=>
   cases (show u'=Value.ref a' from r2)
   by_cases e:a=a'
   ·subst e
    have e:=I.list_inj h h';subst e;have e:=IsDs.inj I hs hs';subst e;rw[sZ];exact SeqAt.EqAt.same _
   ·obtain⟨its',rv',p',hz'⟩:=I.list h'
    have l1:its.toArray.size=ds.length:=by rw[Ql,<-rv.length,hs.length]
    have l2:its'.toArray.size=ds'.length:=by rw[Ql,<-rv'.length,hs'.length]
    by_cases hl:ds.length=ds'.length
    ·have key:=SeqAt.RcAt.lists (A:=A) (s:=s) p.isList p'.isList (by rw[l1,l2,hl]) hu
      (nS (A:=A.in1) (s:=s) hs hs' rv rv' fun d d' v v' u u' hm iv iv' r r'=>rc ds (.inr rfl) d d' v v' u u' hm iv iv' r r')
     rw[l1,iM hl] at key;exact SeqAt.EqAt.of_refs e key
    ·have key:=SeqAt.RcAt.lists_lengths (A:=A) (s:=s) p.isList p'.isList (by rw[l1,l2];simp[hl]) hu
     rw[eqD,zAJ hl];exact SeqAt.EqAt.of_refs e key
theorem zGF(I:Inv X pins σ H s)(n:Nat):∀ {v v':V} {d d':D},dep d<=n->IsD X.K H v d->IsD X.K H v' d'->
  ∀(A:Around)(u u':Value),A.units+n<cLine->cV v u->cV v' u'->SeqAt.EqAt A s u u' (eqD d d'):=by
 induction n with
 | zero=>
  intro v v' d d' hn h1 h2 A u u' hu r1 r2;refine zBW I h1 h2 r1 r2 (by omega) fun ds hd=>?_
  rcases hd with rfl | rfl<;>(rw[dep] at hn;omega)
 | succ n ih=>
  intro v v' d d' hn h1 h2 A u u' hu r1 r2;refine zBW I h1 h2 r1 r2 (by omega) fun ds hd e e' w w' z z' hm i1 i2 q1 q2=>?_
  refine ih ?_ i1 i2 A.in1 z z' (by show A.units+1+n<cLine;omega) q1 q2
  have:=rM hm
  rcases hd with rfl | rfl<;>(rw[dep] at hn;omega)
theorem zGy(I:Inv X pins σ H s){A:Around}{v v':V}{d d':D}{u u':Value}(h1:IsD X.K H v d)(h2:IsD X.K H v' d')(r1:cV v u)(r2:cV v' u')(hu:A.units<cLine)
  (rc:∀ ds,(d=.tup ds∨d=.lst ds)->∀(e e':D)(w w':V)(z z':Value),e∈ds->IsD X.K H w e->IsD X.K H w' e'->cV w z->cV w' z'->SeqAt.EqAt A.in1 s z z' (eqD e e')):
  SeqAt.RcAt A s u u' (eqD d d'):=by
 cases h1 with
 | non=>
  cases (show u=Value.none from r1)
  cases h2 with
  | non=>cases (show u'=Value.none from r2);exact SeqAt.RcAt.none_none
  | bl b=>cases (show u'=Value.bool _ from r2);exact SeqAt.RcAt.none_bool _
  | int i=>obtain⟨t,rfl⟩:=r2;exact SeqAt.RcAt.none_int _ _
  | str x=>obtain⟨t,rfl⟩:=r2;exact SeqAt.RcAt.none_str _ _
  | tup h hs=>cases (show u'=Value.ref _ from r2);obtain⟨its,rv,p,hz⟩:=I.tuple h;exact SeqAt.RcAt.none_tuple (show s.heap.IsTuple _ its.toArray from p) hu
  | lst h hs=>cases (show u'=Value.ref _ from r2);obtain⟨its,rv,p,hz⟩:=I.list h;exact SeqAt.RcAt.none_list p.isList hu
 | bl b=>
  cases (show u=Value.bool _ from r1)
  cases h2 with
  | non=>cases (show u'=Value.none from r2);exact SeqAt.RcAt.bool_none _
  | bl b=>cases (show u'=Value.bool _ from r2);exact SeqAt.RcAt.bool_bool _ _
  | int i=>obtain⟨t,rfl⟩:=r2;exact SeqAt.RcAt.bool_int _ _ _
  | str x=>obtain⟨t,rfl⟩:=r2;exact SeqAt.RcAt.bool_str _ _ _
  | tup h hs=>cases (show u'=Value.ref _ from r2);obtain⟨its,rv,p,hz⟩:=I.tuple h;exact SeqAt.RcAt.bool_tuple _ (show s.heap.IsTuple _ its.toArray from p) hu
  | lst h hs=>cases (show u'=Value.ref _ from r2);obtain⟨its,rv,p,hz⟩:=I.list h;exact SeqAt.RcAt.bool_list _ p.isList hu
 | int i=>
  obtain⟨t,rfl⟩:=r1
  cases h2 with
  | non=>cases (show u'=Value.none from r2);exact SeqAt.RcAt.int_none _ _
  | bl b=>cases (show u'=Value.bool _ from r2);exact SeqAt.RcAt.int_bool _ _ _
  | int i=>obtain⟨t,rfl⟩:=r2;exact SeqAt.RcAt.int_int _ _ _ _
  | str x=>obtain⟨t,rfl⟩:=r2;exact SeqAt.RcAt.int_str _ _ _ _
  | tup h hs=>cases (show u'=Value.ref _ from r2);obtain⟨its,rv,p,hz⟩:=I.tuple h;exact SeqAt.RcAt.int_tuple _ _ (show s.heap.IsTuple _ its.toArray from p) hu
  | lst h hs=>cases (show u'=Value.ref _ from r2);obtain⟨its,rv,p,hz⟩:=I.list h;exact SeqAt.RcAt.int_list _ _ p.isList hu
 | str x=>
  obtain⟨t,rfl⟩:=r1
  cases h2 with
  | non=>cases (show u'=Value.none from r2);exact SeqAt.RcAt.str_none _ _
  | bl b=>cases (show u'=Value.bool _ from r2);exact SeqAt.RcAt.str_bool _ _ _
  | int i=>obtain⟨t,rfl⟩:=r2;exact SeqAt.RcAt.str_int _ _ _ _
  | str x=>obtain⟨t,rfl⟩:=r2;exact SeqAt.RcAt.str_str _ _ _ _
  | tup h hs=>cases (show u'=Value.ref _ from r2);obtain⟨its,rv,p,hz⟩:=I.tuple h;exact SeqAt.RcAt.str_tuple _ _ (show s.heap.IsTuple _ its.toArray from p) hu
  | lst h hs=>cases (show u'=Value.ref _ from r2);obtain⟨its,rv,p,hz⟩:=I.list h;exact SeqAt.RcAt.str_list _ _ p.isList hu
 | @tup a xs ds h hs=>
  cases (show u=Value.ref a from r1)
  obtain⟨its,rv,p,hz⟩:=I.tuple h
  cases h2 with
  | non=>cases (show u'=Value.none from r2);exact SeqAt.RcAt.tuple_none (show s.heap.IsTuple _ its.toArray from p) hu
  | bl b=>cases (show u'=Value.bool _ from r2);exact SeqAt.RcAt.tuple_bool _ (show s.heap.IsTuple _ its.toArray from p) hu
  | int i=>obtain⟨t,rfl⟩:=r2;exact SeqAt.RcAt.tuple_int _ _ (show s.heap.IsTuple _ its.toArray from p) hu
  | str x=>obtain⟨t,rfl⟩:=r2;exact SeqAt.RcAt.tuple_str _ _ (show s.heap.IsTuple _ its.toArray from p) hu
  | @tup a' xs' ds' h' hs'=>
   cases (show u'=Value.ref a' from r2)
   ·obtain⟨its',rv',p',hz'⟩:=I.tuple h'
    have l1:its.toArray.size=ds.length:=by rw[Ql,<-rv.length,hs.length]
    have l2:its'.toArray.size=ds'.length:=by rw[Ql,<-rv'.length,hs'.length]
    have key:=SeqAt.RcAt.tuples (A:=A) (s:=s) (show s.heap.IsTuple a its.toArray from p) (show s.heap.IsTuple a' its'.toArray from p') hu
     (nS (A:=A.in1) (s:=s) hs hs' rv rv' fun d d' v v' u u' hm iv iv' r r'=>rc ds (.inl rfl) d d' v v' u u' hm iv iv' r r')
    rw[l1,l2,<-nH] at key;exact key
  | @lst a' xs' ds' h' hs'=>
   cases (show u'=Value.ref a' from r2)
   obtain⟨its',rv',p',hz'⟩:=I.list h';exact SeqAt.RcAt.tuple_list (show s.heap.IsTuple _ its.toArray from p) p'.isList hu
 | @lst a xs ds h hs=>
  cases (show u=Value.ref a from r1)
  obtain⟨its,rv,p,hz⟩:=I.list h
  cases h2 with
  | non=>cases (show u'=Value.none from r2);exact SeqAt.RcAt.list_none p.isList hu
  | bl b=>cases (show u'=Value.bool _ from r2);exact SeqAt.RcAt.list_bool _ p.isList hu
  | int i=>obtain⟨t,rfl⟩:=r2;exact SeqAt.RcAt.list_int _ _ p.isList hu
  | str x=>obtain⟨t,rfl⟩:=r2;exact SeqAt.RcAt.list_str _ _ p.isList hu
  | @tup a' xs' ds' h' hs'=>
   cases (show u'=Value.ref a' from r2)
   obtain⟨its',rv',p',hz'⟩:=I.tuple h';exact SeqAt.RcAt.list_tuple p.isList (show s.heap.IsTuple _ its'.toArray from p') hu
  | @lst a' xs' ds' h' hs'=>
   cases (show u'=Value.ref a' from r2)
   ·obtain⟨its',rv',p',hz'⟩:=I.list h'
    have l1:its.toArray.size=ds.length:=by rw[Ql,<-rv.length,hs.length]
    have l2:its'.toArray.size=ds'.length:=by rw[Ql,<-rv'.length,hs'.length]
    by_cases hl:ds.length=ds'.length
    ·have key:=SeqAt.RcAt.lists (A:=A) (s:=s) p.isList p'.isList (by rw[l1,l2,hl]) hu
      (nS (A:=A.in1) (s:=s) hs hs' rv rv' fun d d' v v' u u' hm iv iv' r r'=>rc ds (.inr rfl) d d' v v' u u' hm iv iv' r r')
     rw[l1,iM hl] at key;exact key
    ·have key:=SeqAt.RcAt.lists_lengths (A:=A) (s:=s) p.isList p'.isList (by rw[l1,l2];simp[hl]) hu
     rw[eqD,zAJ hl];exact key
theorem zGZ(I:Inv X pins σ H s){A:Around}{v v':V}{d d':D}{u u':Value}(h1:IsD X.K H v d)(h2:IsD X.K H v' d')(r1:cV v u)(r2:cV v' u')(hu:A.units<cLine)
  (rc:∀ ds,(d=.tup ds∨d=.lst ds)->∀(e e':D)(w w':V)(z z':Value),e∈ds->IsD X.K H w e->IsD X.K H w' e'->cV w z->cV w' z'->SeqAt.EqAt A.in1 s z z' (eqD e e')):
  SeqAt.RcNeAt A s u u' (!eqD d d'):=by
 cases h1 with
 | non=>
  cases (show u=Value.none from r1)
  cases h2 with
  | non=>cases (show u'=Value.none from r2);exact SeqAt.RcNeAt.none_none
  | bl b=>cases (show u'=Value.bool _ from r2);exact SeqAt.RcNeAt.none_bool _
  | int i=>obtain⟨t,rfl⟩:=r2;exact SeqAt.RcNeAt.none_int _ _
  | str x=>obtain⟨t,rfl⟩:=r2;exact SeqAt.RcNeAt.none_str _ _
  | tup h hs=>cases (show u'=Value.ref _ from r2);obtain⟨its,rv,p,hz⟩:=I.tuple h;exact SeqAt.RcNeAt.none_tuple (show s.heap.IsTuple _ its.toArray from p) hu
  | lst h hs=>cases (show u'=Value.ref _ from r2);obtain⟨its,rv,p,hz⟩:=I.list h;exact SeqAt.RcNeAt.none_list p.isList hu
 | bl b=>
  cases (show u=Value.bool _ from r1)
  cases h2 with
  | non=>cases (show u'=Value.none from r2);exact SeqAt.RcNeAt.bool_none _
  | bl b=>cases (show u'=Value.bool _ from r2);exact SeqAt.RcNeAt.bool_bool _ _
  | int i=>obtain⟨t,rfl⟩:=r2;exact SeqAt.RcNeAt.bool_int _ _ _
  | str x=>obtain⟨t,rfl⟩:=r2;exact SeqAt.RcNeAt.bool_str _ _ _
  | tup h hs=>cases (show u'=Value.ref _ from r2);obtain⟨its,rv,p,hz⟩:=I.tuple h;exact SeqAt.RcNeAt.bool_tuple _ (show s.heap.IsTuple _ its.toArray from p) hu
  | lst h hs=>cases (show u'=Value.ref _ from r2);obtain⟨its,rv,p,hz⟩:=I.list h;exact SeqAt.RcNeAt.bool_list _ p.isList hu
 | int i=>
  obtain⟨t,rfl⟩:=r1
  cases h2 with
  | non=>cases (show u'=Value.none from r2);exact SeqAt.RcNeAt.int_none _ _
  | bl b=>cases (show u'=Value.bool _ from r2);exact SeqAt.RcNeAt.int_bool _ _ _
  | int i=>obtain⟨t,rfl⟩:=r2;exact SeqAt.RcNeAt.int_int _ _ _ _
  | str x=>obtain⟨t,rfl⟩:=r2;exact SeqAt.RcNeAt.int_str _ _ _ _
  | tup h hs=>cases (show u'=Value.ref _ from r2);obtain⟨its,rv,p,hz⟩:=I.tuple h;exact SeqAt.RcNeAt.int_tuple _ _ (show s.heap.IsTuple _ its.toArray from p) hu
  | lst h hs=>cases (show u'=Value.ref _ from r2);obtain⟨its,rv,p,hz⟩:=I.list h;exact SeqAt.RcNeAt.int_list _ _ p.isList hu
 | str x=>
  obtain⟨t,rfl⟩:=r1
  cases h2 with
  | non=>cases (show u'=Value.none from r2);exact SeqAt.RcNeAt.str_none _ _
  | bl b=>cases (show u'=Value.bool _ from r2);exact SeqAt.RcNeAt.str_bool _ _ _
  | int i=>obtain⟨t,rfl⟩:=r2;exact SeqAt.RcNeAt.str_int _ _ _ _
  | str x=>obtain⟨t,rfl⟩:=r2;exact SeqAt.RcNeAt.str_str _ _ _ _
  | tup h hs=>cases (show u'=Value.ref _ from r2);obtain⟨its,rv,p,hz⟩:=I.tuple h;exact SeqAt.RcNeAt.str_tuple _ _ (show s.heap.IsTuple _ its.toArray from p) hu
  | lst h hs=>cases (show u'=Value.ref _ from r2);obtain⟨its,rv,p,hz⟩:=I.list h;exact SeqAt.RcNeAt.str_list _ _ p.isList hu
 | @tup a xs ds h hs=>
  cases (show u=Value.ref a from r1)
  obtain⟨its,rv,p,hz⟩:=I.tuple h
  cases h2 with
  | non=>cases (show u'=Value.none from r2);exact SeqAt.RcNeAt.tuple_none (show s.heap.IsTuple _ its.toArray from p) hu
  | bl b=>cases (show u'=Value.bool _ from r2);exact SeqAt.RcNeAt.tuple_bool _ (show s.heap.IsTuple _ its.toArray from p) hu
  | int i=>obtain⟨t,rfl⟩:=r2;exact SeqAt.RcNeAt.tuple_int _ _ (show s.heap.IsTuple _ its.toArray from p) hu
  | str x=>obtain⟨t,rfl⟩:=r2;exact SeqAt.RcNeAt.tuple_str _ _ (show s.heap.IsTuple _ its.toArray from p) hu
  | @tup a' xs' ds' h' hs'=>
   cases (show u'=Value.ref a' from r2)
   ·obtain⟨its',rv',p',hz'⟩:=I.tuple h'
    have l1:its.toArray.size=ds.length:=by rw[Ql,<-rv.length,hs.length]
    have l2:its'.toArray.size=ds'.length:=by rw[Ql,<-rv'.length,hs'.length]
    have key:=SeqAt.RcNeAt.tuples (A:=A) (s:=s) (show s.heap.IsTuple a its.toArray from p) (show s.heap.IsTuple a' its'.toArray from p') hu
     (nS (A:=A.in1) (s:=s) hs hs' rv rv' fun d d' v v' u u' hm iv iv' r r'=>rc ds (.inl rfl) d d' v v' u u' hm iv iv' r r')
    rw[l1,l2,<-nH] at key;exact key
  | @lst a' xs' ds' h' hs'=>
   cases (show u'=Value.ref a' from r2)
   obtain⟨its',rv',p',hz'⟩:=I.list h';exact SeqAt.RcNeAt.tuple_list (show s.heap.IsTuple _ its.toArray from p) p'.isList hu
 | @lst a xs ds h hs=>
  cases (show u=Value.ref a from r1)
  obtain⟨its,rv,p,hz⟩:=I.list h
  cases h2 with
  | non=>cases (show u'=Value.none from r2);exact SeqAt.RcNeAt.list_none p.isList hu
  | bl b=>cases (show u'=Value.bool _ from r2);exact SeqAt.RcNeAt.list_bool _ p.isList hu
  | int i=>obtain⟨t,rfl⟩:=r2;exact SeqAt.RcNeAt.list_int _ _ p.isList hu
  | str x=>obtain⟨t,rfl⟩:=r2;exact SeqAt.RcNeAt.list_str _ _ p.isList hu
  | @tup a' xs' ds' h' hs'=>
   cases (show u'=Value.ref a' from r2)
   obtain⟨its',rv',p',hz'⟩:=I.tuple h';exact SeqAt.RcNeAt.list_tuple p.isList (show s.heap.IsTuple _ its'.toArray from p') hu
  | @lst a' xs' ds' h' hs'=>
   cases (show u'=Value.ref a' from r2)
   ·obtain⟨its',rv',p',hz'⟩:=I.list h'
    have l1:its.toArray.size=ds.length:=by rw[Ql,<-rv.length,hs.length]
    have l2:its'.toArray.size=ds'.length:=by rw[Ql,<-rv'.length,hs'.length]
    by_cases hl:ds.length=ds'.length
    ·have key:=SeqAt.RcNeAt.lists (A:=A) (s:=s) p.isList p'.isList (by rw[l1,l2,hl]) hu
      (nS (A:=A.in1) (s:=s) hs hs' rv rv' fun d d' v v' u u' hm iv iv' r r'=>rc ds (.inr rfl) d d' v v' u u' hm iv iv' r r')
     rw[l1,iM hl] at key;exact key
    ·have key:=SeqAt.RcNeAt.lists_lengths (A:=A) (s:=s) p.isList p'.isList (by rw[l1,l2];simp[hl]) hu
     rw[eqD,zAJ hl];exact key
theorem eqA{X:Cx}(hu:X.A.units+64<cLine):OpR X (compareOp .Eq) (fun x y H Q=>∃ d d',IsD X.K H x d/\IsD X.K H y d'/\dep d<=50/\Q (.bl (eqD d d')) H):=by
 intro pins s σ H x y v u Q I rx ry h;obtain⟨d,d',h1,h2,hn,q⟩:=h;refine zGy I h1 h2 rx ry (by omega) (fun ds hd e e' w w' z z' hm i1 i2 q1 q2=>?_) X.prog X.w X.xe _ ⟨.bl _,H,I,rfl,q⟩
 refine zGF I 50 ?_ i1 i2 X.A.in1 z z' (by show X.A.units+1+50<cLine;omega) q1 q2
 have:=rM hm
 rcases hd with rfl | rfl<;>(rw[dep] at hn;omega)
theorem neA{X:Cx}(hu:X.A.units+64<cLine):OpR X (compareOp .NotEq) (fun x y H Q=>∃ d d',IsD X.K H x d/\IsD X.K H y d'/\dep d<=50/\Q (.bl (!eqD d d')) H):=by
 intro pins s σ H x y v u Q I rx ry h;obtain⟨d,d',h1,h2,hn,q⟩:=h;refine zGZ I h1 h2 rx ry (by omega) (fun ds hd e e' w w' z z' hm i1 i2 q1 q2=>?_) X.prog X.w X.xe _ ⟨.bl _,H,I,rfl,q⟩
 refine zGF I 50 ?_ i1 i2 X.A.in1 z z' (by show X.A.units+1+50<cLine;omega) q1 q2
 have:=rM hm
 rcases hd with rfl | rfl<;>(rw[dep] at hn;omega)
theorem sX{X:Cx}:OpK X (fun x y H Q=>∃ d d',IsD X.K H x d/\IsD X.K H y d'/\dep d<=50/\Q (.bl (eqD d d')) H) oEq:=⟨fun a b c z=>(by
  unfold oEq at z;split at z<;>cases z),fun Hi H x y a b d Q s r1 r2 z q=>by
  unfold oEq at z;split at z
  ·rename_i h;cases z;exact⟨a,b,r1.mono s,r2.mono s,h,q _ Hi H (Ext.refl s) (.bl _)⟩
  ·cases z⟩
theorem zKP{X:Cx}:OpK X (fun x y H Q=>∃ d d',IsD X.K H x d/\IsD X.K H y d'/\dep d<=50/\Q (.bl (!eqD d d')) H) oNe:=⟨fun a b c z=>(by
  unfold oNe at z;split at z<;>cases z),fun Hi H x y a b d Q s r1 r2 z q=>by
  unfold oNe at z;split at z
  ·rename_i h;cases z;exact⟨a,b,r1.mono s,r2.mono s,h,q _ Hi H (Ext.refl s) (.bl _)⟩
  ·cases z⟩
open Classical in
def zLr(K:PySem.W.Frag)(H:Hp)(dx:D)(u:Value):Bool:=if ∃ w d,IsD K H w d/\cV w u/\eqD d dx=true then true else false
theorem zHQ(I:Inv X pins σ H s){dx d:D}{w:V}{u:Value}(h:IsD X.K H w d)(r:cV w u):zLr X.K H dx u=eqD d dx:=by
 unfold zLr;by_cases e:eqD d dx=true
 ·rw[if_pos ⟨w,d,h,r,e⟩,e]
 ·rw[if_neg]
  ·simpa using e
  ·rintro⟨w',d',h',r',e'⟩
   have:=r.inj r'
   subst this;have:=IsD.inj I h h'
   subst this;exact e e'
theorem vM(I:Inv X pins σ H s){dx:D}:∀ {xs:List V} {ds:List D} {us:List Value},IsDs X.K H xs ds->dN xs us->us.any (zLr X.K H dx)=ds.any fun d=>eqD d dx
 | _,_,_,.nil,.nil=>rfl
 | _,_,_,.cons h hs,.cons r t=>by rw[List.any_cons,List.any_cons,zHQ I h r,vM I hs t]
theorem uL(I:Inv X pins σ H s){A:Around}{dx:D}{x:V}{ux:Value}(hx:IsD X.K H x dx)(rx:cV x ux)(hu:A.units+50<cLine):∀ {xs:List V} {ds:List D} {us:List Value},IsDs X.K H xs ds->dN xs us->(∀ d∈ds,dep d<=50)->∀ u∈us,SeqAt.EqAt A s u ux (zLr X.K H dx u)
 | _,_,_,.nil,.nil,_=>fun u hu=>by cases hu
 | _,_,_,.cons h hs,.cons r t,f=>fun u hm=>by
  rcases Qe.mp hm with rfl | hm
  ·rw[zHQ I h r];exact zGF I 50 (f _ Qb) h hx A _ ux hu r rx
  ·exact uL I hx rx hu hs t (fun d hd=>f d (Qc _ hd)) u hm
def zQS(K:PySem.W.Frag)(neg:Bool):R2:=fun x y H Q=>∃ d ds,IsD K H x d/\(IsD K H y (.lst ds)∨IsD K H y (.tup ds))/\depS ds<=50/\Q (.bl (if neg=true then !(ds.any fun e=>eqD e d) else ds.any fun e=>eqD e d)) H
theorem inA{X:Cx}(hu:X.A.units+64<cLine):OpR X (compareOp .In) (zQS X.K false):=by
 intro pins s σ H x y v u Q I rx ry h;obtain⟨d,ds,h1,h2,hn,q⟩:=h;have hd:∀ e∈ds,dep e<=50:=fun e he=>Qv (rM he) hn
 rcases h2 with h2 | h2
 ·obtain⟨a,xs,rfl,hl,hs⟩:=h2.lstI
  cases ry;obtain⟨its,rv,p,hz⟩:=I.list hl;refine SeqAt.in_listAt (zLr X.K H d) p.isList (fun y hy=>uL I h1 rx (by show X.A.units+1+50<cLine;omega) hs rv hd y (by simpa using hy)) ?_
  exact⟨.bl _,H,I,by rw[Xu,vM I hs rv];rfl,q⟩
 ·obtain⟨a,xs,rfl,hl,hs⟩:=h2.tupI
  cases ry;obtain⟨its,rv,p,hz⟩:=I.tuple hl;refine SeqAt.in_tupleAt (zLr X.K H d) (show s.heap.IsTuple _ its.toArray from p) (fun y hy=>uL I h1 rx (by show X.A.units+1+50<cLine;omega) hs rv hd y (by simpa using hy)) ?_
  exact⟨.bl _,H,I,by rw[Xu,vM I hs rv];rfl,q⟩
theorem zOH{X:Cx}(hu:X.A.units+64<cLine):OpR X (compareOp .NotIn) (zQS X.K true):=by
 intro pins s σ H x y v u Q I rx ry h;obtain⟨d,ds,h1,h2,hn,q⟩:=h;have hd:∀ e∈ds,dep e<=50:=fun e he=>Qv (rM he) hn
 rcases h2 with h2 | h2
 ·obtain⟨a,xs,rfl,hl,hs⟩:=h2.lstI
  cases ry;obtain⟨its,rv,p,hz⟩:=I.list hl;refine SeqAt.notIn_listAt (zLr X.K H d) p.isList (fun y hy=>uL I h1 rx (by show X.A.units+1+50<cLine;omega) hs rv hd y (by simpa using hy)) ?_
  exact⟨.bl _,H,I,by rw[Xu,vM I hs rv];rfl,q⟩
 ·obtain⟨a,xs,rfl,hl,hs⟩:=h2.tupI
  cases ry;obtain⟨its,rv,p,hz⟩:=I.tuple hl;refine SeqAt.notIn_tupleAt (zLr X.K H d) (show s.heap.IsTuple _ its.toArray from p) (fun y hy=>uL I h1 rx (by show X.A.units+1+50<cLine;omega) hs rv hd y (by simpa using hy)) ?_
  exact⟨.bl _,H,I,by rw[Xu,vM I hs rv];rfl,q⟩
theorem zSz{X:Cx}:OpK X (zQS X.K false) oIn:=⟨fun a b c z=>(by
  cases b<;>first | cases z | (simp only[oIn] at z;split at z<;>cases z)),fun Hi H x y a b d Q s r1 r2 z q=>by
  cases b<;>first | cases z | skip
  ·rename_i ds
   simp only[oIn] at z;split at z
   ·rename_i h;cases z;exact⟨a,ds,r1.mono s,.inr (r2.mono s),h,q _ Hi H (Ext.refl s) (.bl _)⟩
   ·cases z
  ·rename_i ds
   simp only[oIn] at z;split at z
   ·rename_i h;cases z;exact⟨a,ds,r1.mono s,.inl (r2.mono s),h,q _ Hi H (Ext.refl s) (.bl _)⟩
   ·cases z⟩
theorem zNk{X:Cx}:OpK X (zQS X.K true) xX:=⟨fun a b c z=>(by
  cases b<;>first | cases z | (simp only[xX] at z;split at z<;>cases z)),fun Hi H x y a b d Q s r1 r2 z q=>by
  cases b<;>first | cases z | skip
  ·rename_i ds
   simp only[xX] at z;split at z
   ·rename_i h;cases z;exact⟨a,ds,r1.mono s,.inr (r2.mono s),h,q _ Hi H (Ext.refl s) (.bl _)⟩
   ·cases z
  ·rename_i ds
   simp only[xX] at z;split at z
   ·rename_i h;cases z;exact⟨a,ds,r1.mono s,.inl (r2.mono s),h,q _ Hi H (Ext.refl s) (.bl _)⟩
   ·cases z⟩
end
end L3
namespace L3
open PySem PySem.Spec PyProof.Rows L2
unseal PEd PEf PTd PWd PAd PSd eX
section
variable{X:Cx}{G:Gx}{a b e:Expr}{es:List Expr}{pos p:Pos}{f g:Ev}{fs gs:Fv}{t u:Tv}{x:Str}{id T:String}
def wO(X:Cx)(r:List V->Hp->VK->Prop)(o:List D->Res D):Prop:=(∀ a c,o a≠.err c)/\∀(Hi H:Hp)(vs:List V)(ds:List D)(d:D)(Q:VK),Same Hi H->IsDs X.K Hi vs ds->o ds=.ok d->
 (∀ v Hi' H',Ext Hi H Hi' H'->IsD X.K Hi' v d->Q v H')->r vs H Q
theorem zOG{r:List V->Hp->VK->Prop}{o:List D->Res D}(k:wO X r o):∀ σ H Q,tD X G (eB o fs) σ H Q->tCB r (tAs X G fs) σ H Q:=fun σ H Q q=>by
 obtain⟨ρ,Hi,R,ou⟩:=q;refine zJL R ou fun vs ds Hi1 H1 e1 R1 r1 o1=>?_
 cases z:o ds with
 | no=>rw[z] at o1;exact o1.elim
 | err c=>exact absurd z (k.1 ds c)
 | ok d=>rw[z] at o1;exact k.2 Hi1 H1 vs ds d Q R1.s r1 z fun v Hi2 H2 e2 r2=>o1 Hi2 H2 e2 v r2
theorem aR{r:List V->Hp->VK->Prop}{o:List D->Res D}(hc:vA X (.builtin id) r)(k:wO X r o)(hg:Gl X x)(hm:X.mg x=none)(hv:bootBuiltins x=some (.builtin id))(ha:PAd X G (e::es) fs)(hn:x ≠ "__name__" := by decide)(hdb:(x==("__debug__" : Str))=false:=by decide)
  (he:starEach (e::es) X.env=(false,eval e X.env)::starEach es X.env:=by rfl) (hpl:(backTo pos (starEach es X.env)).any (·.1)=false:=by rfl):PEd X G (.Call (.Name x p) (e::es) [] pos) (eB o fs):=
 PE.wk (zES hc hg hm hv ha hn hdb he hpl) (zOG k)
theorem tI{r:List V->Hp->VK->Prop}{o:List D->Res D}(hc:vA X (.type T) r)(k:wO X r o)(hg:Gl X x)(hm:X.mg x=none)(hv:bootBuiltins x=some (.type T))(ha:PAd X G (e::es) fs)(hn:x ≠ "__name__" := by decide)(hdb:(x==("__debug__" : Str))=false:=by decide)
  (he:starEach (e::es) X.env=(false,eval e X.env)::starEach es X.env:=by rfl) (hpl:(backTo pos (starEach es X.env)).any (·.1)=false:=by rfl):PEd X G (.Call (.Name x p) (e::es) [] pos) (eB o fs):=
 PE.wk (zGI hc hg hm hv ha hn hdb he hpl) (zOG k)
theorem IsDs.one{K:Fg_}{H:Hp}{vs:List V}{d:D}(h:IsDs K H vs [d]):∃ v,vs=[v]/\IsD K H v d:=by
 cases h with
 | cons h t=>cases t;exact⟨_,rfl,h⟩
theorem IsDs.two{K:Fg_}{H:Hp}{vs:List V}{d d':D}(h:IsDs K H vs [d,d']):∃ v w,vs=[v,w]/\IsD K H v d/\IsD K H w d':=by
 cases h with
 | cons h t=>obtain⟨w,rfl,hw⟩:=t.one;exact⟨_,w,rfl,h,hw⟩
theorem cX:wO X (fun xs H Q=>∃ p ys,xs=[.ref p]/\(SqL X.K H p ys∨SqT X.K H p ys)/\Q (.int ys.length) H) kU:=⟨fun a c z=>(by
  unfold kU at z;split at z<;>cases z),fun Hi H vs ds d Q s r z q=>by
  unfold kU at z;split at z
  ·cases z
   obtain⟨v,rfl,h⟩:=r.one;obtain⟨a,xs,rfl,h1,h2⟩:=h.lstI;refine⟨a,xs,rfl,.inl (cK s h1),?_⟩
   rw[h2.length];exact q _ Hi H (Ext.refl s) (.int _)
  ·cases z
   obtain⟨v,rfl,h⟩:=r.one;obtain⟨a,xs,rfl,h1,h2⟩:=h.tupI;refine⟨a,xs,rfl,.inr (cJ s h1),?_⟩
   rw[h2.length];exact q _ Hi H (Ext.refl s) (.int _)
  ·cases z⟩
theorem zGq:wO X (fun xs H Q=>∃ i,xs=[.int i]/\Q (.int (if i<0 then -i else i)) H) zOi:=⟨fun a c z=>(by
  unfold zOi at z;split at z<;>cases z),fun Hi H vs ds d Q s r z q=>by
  unfold zOi at z;split at z
  ·cases z
   obtain⟨v,rfl,h⟩:=r.one;exact⟨_,by rw[h.intI],q _ Hi H (Ext.refl s) (.int _)⟩
  ·cases z⟩
theorem zQl:wO X (fun xs H Q=>∃ i j,xs=[.int i,.int j]/\Q (.int (if j > i then j else i)) H) zPA:=⟨fun a c z=>(by
  unfold zPA at z;split at z<;>cases z),fun Hi H vs ds d Q s r z q=>by
  unfold zPA at z;split at z
  ·cases z
   obtain⟨v,w,rfl,h,h'⟩:=r.two;exact⟨_,_,by rw[h.intI,h'.intI],q _ Hi H (Ext.refl s) (.int _)⟩
  ·cases z⟩
theorem zOQ:wO X (fun xs H Q=>∃ i j,xs=[.int i,.int j]/\Q (.int (if j<i then j else i)) H) zQh:=⟨fun a c z=>(by
  unfold zQh at z;split at z<;>cases z),fun Hi H vs ds d Q s r z q=>by
  unfold zQh at z;split at z
  ·cases z
   obtain⟨v,w,rfl,h,h'⟩:=r.two;exact⟨_,_,by rw[h.intI,h'.intI],q _ Hi H (Ext.refl s) (.int _)⟩
  ·cases z⟩
theorem zIh:wO X (fun xs H Q=>∃ p ys,xs=[.ref p]/\((SqL X.K H p ys/\∀ l,H l=none->Q (.ref l) (upd H l (.tup ys)))∨(SqT X.K H p ys/\Q (.ref p) H))) zKu:=⟨fun a c z=>(by
  unfold zKu at z;split at z<;>cases z),fun Hi H vs ds d Q s r z q=>by
  unfold zKu at z;split at z
  ·cases z
   obtain⟨v,rfl,h⟩:=r.one;obtain⟨a,xs,rfl,h1,h2⟩:=h.lstI;exact⟨a,xs,rfl,.inl ⟨cK s h1,fun l hl=>q _ _ _ (Ext.new s hl) (.tup (SqT.of aY) (h2.mono (dA (s.none hl) _)))⟩⟩
  ·cases z
   obtain⟨v,rfl,h⟩:=r.one;obtain⟨a,xs,rfl,h1,h2⟩:=h.tupI;exact⟨a,xs,rfl,.inr ⟨cJ s h1,q _ Hi H (Ext.refl s) (.tup h1 h2)⟩⟩
  ·cases z⟩
variable{lo hi:Option Expr}{l h:Ov}{p2:Pos}
def tOv(X:Cx)(G:Gx)(f:Ov):TO:=fun σ H Q=>∃ ρ Hi,lP X G Hi H σ ρ/\Out G Hi H (f ρ) fun o _ H'=>Q o H'
@[irreducible] def POd (X:Cx) (G:Gx) (e:Option Expr) (f:Ov):Prop:=PO X e (tOv X G f)
unseal POd
theorem PO.wk{X:Cx}{e:Option Expr}{t t':TO}(h:PO X e t)(w:∀ σ H Q,t' σ H Q->t σ H Q):PO X e t':=fun pins s σ H Q I q=>h pins s σ H Q I (w σ H Q q)
theorem kY:POd X G none oN:=PO.wk zLT fun σ H Q q=>by
 obtain⟨ρ,Hi,R,ou⟩:=q;exact ou.here R.s
theorem kQ(he:PEd X G e f):POd X G (some e) (oS f):=PO.wk (zMz he) fun σ H Q q=>by
 obtain⟨ρ,Hi,R,ou⟩:=q;refine zFW R ou fun v d Hi1 H1 e1 R1 r1 o1=>?_
 cases d with
 | int i=>exact⟨i,r1.intI,o1.here R1.s⟩
 | _=>exact o1.elim
theorem zRW{f:Ov}{Hi H:Hp}{σ:St}{ρ:Rho}{β:Type}{k:Option Int->Res β}{k':β->Hp->Hp->Prop}{Q:Option Int->Hp->Prop}(R:lP X G Hi H σ ρ)(o:Out G Hi H ((f ρ).bind k) k')
  (w:∀ c Hi' H',Ext Hi H Hi' H'->lP X G Hi' H' σ ρ->Out G Hi' H' (k c) k'->Q c H'):tOv X G f σ H Q:=
 ⟨ρ,Hi,R,o.bind.imp fun d Hi' H' e q=>w d Hi' H' e (R.grow e) q⟩
theorem zIV(n d:Nat)(i:Option Int):cut n i d=HT.sIx n d i:=by
 cases i with
 | none=>rfl
 | some i=>
  simp only[cut,HT.sIx];split<;>split<;>omega
theorem IsDs.cut{K:Fg_}{H:Hp}{xs:List V}{ds:List D}(h:IsDs K H xs ds)(l r:Option Int):IsDs K H (zOr xs l r) (lF ds l r):=by
 unfold zOr lF;rw[zIV,zIV,h.length];exact(h.drop _).take _
theorem iE(he:PEd X G e f)(hl:POd X G lo l)(hu:POd X G hi h):PEf X G (.Subscript e (.Slice lo hi none p2) pos) (fSl f l h):=PE.wk (zJP zOl he hl hu) fun σ H Q q=>by
 obtain⟨ρ,Hi,R,ou⟩:=q;refine zFW R ou fun v d Hi1 H1 e1 R1 r1 o1=>?_
 refine zRW R1 o1 fun i Hi2 H2 e2 R2 o2=>?_
 refine zRW R2 o2 fun j Hi3 H3 e3 R3 o3=>?_
 cases d with
 | lst ds=>
  obtain⟨a,xs,rfl,h1,h2⟩:=r1.lstI;refine⟨a,xs,rfl,cK (e2.i.trans (e3.i.trans R3.s)) h1,fun p hp=>?_⟩
  exact o3 _ _ (Ext.newF R3.s hp) p ⟨(e1.h.trans (e2.h.trans e3.h)).none hp,R3.s.none hp,_,aY,(h2.cut i j).mono (e2.i.trans e3.i)⟩
 | _=>exact o3.elim
def zRO(K:PySem.W.Frag):R2:=fun x y H Q=>∃ l b xs zs,x=.ref l/\y=.ref b/\SqL K H l xs/\SqL K H b zs/\xs.length+zs.length<=sizeLine/\∀ p,H p=none->Q (.ref p) (upd H p (.lst (xs++zs)))
theorem zLU:OpR X (binaryOp .Add) (zRO X.K):=by
 intro pins s σ H x y v u Q I rx ry h;obtain⟨l,b,xs,zs,rfl,rfl,hl,hb,hz,q⟩:=h;cases rx;cases ry;obtain⟨its,r,p,_⟩:=I.list hl;obtain⟨its2,r2,p2,_⟩:=I.list hb;obtain⟨⟨cls,dd,data,sl⟩,ho,hc,n,hd⟩:=id p.isList;obtain⟨⟨cls2,dd2,data2,sl2⟩,ho2,hc2,n2,hd2⟩:=id p2.isList;simp only at hc hd hc2 hd2
 subst hc hd hc2 hd2;have hsz:its.toArray.size+its2.toArray.size<=sizeLine:=by rw[Ql,Ql,<-r.length,<-r2.length];exact hz
 have e:its.toArray++its2.toArray=(its++its2).toArray:=by simp
 refine concat_meets ⟨_,ho,rfl⟩ ⟨_,ho2,rfl⟩ noFill_list_add seq_list_add PySem.F.slot_list_add PySem.F.entry_list_add (PySem.F.args_list_add_2 _ _) (list_addW l b its.toArray its2.toArray n n2 dd dd2 sl sl2 hsz) ⟨ho,ho2,?_⟩
 rw[e];exact⟨.ref _,_,I.lnew (t':=s.toks) (r.append r2) (by rw[Qi];exact hz),rfl,q _ I.fresh⟩
theorem zEG(ha:PEd X G a f)(hb:PEd X G b g):PEf X G (.BinOp a .Add b pos) (zOp f g):=PE.wk (zIv zLU ha hb) fun σ H Q q=>by
 obtain⟨ρ,Hi,R,ou⟩:=q;refine zFW R ou fun v d Hi1 H1 e1 R1 r1 o1=>?_
 refine zFW R1 o1 fun w d' Hi2 H2 e2 R2 r2 o2=>?_
 cases d<;>first | exact o2.elim | skip
 cases d'<;>first | exact o2.elim | skip
 rename_i ds es
 obtain⟨a,xs,rfl,h1,h2⟩:=r1.lstI;obtain⟨b,ys,rfl,h3,h4⟩:=r2.lstI;have o2':Out G Hi2 H2 (if ds.length+es.length<=16777216 then Res.ok (ds++es) else .no) _:=o2;by_cases hz:ds.length+es.length<=16777216
 ·rw[if_pos hz] at o2'
  refine⟨a,b,xs,ys,rfl,rfl,cK (e2.i.trans e2.s) h1,cK e2.s h3,by rw[h2.length,h4.length];exact hz,fun p hp=>?_⟩
  exact o2' _ _ (Ext.newF e2.s hp) p ⟨(e1.h.trans e2.h).none hp,e2.s.none hp,_,aY,(h2.mono e2.i).append h4⟩
 ·rw[if_neg hz] at o2';exact o2'.elim
end
end L3
namespace L3
open PySem PySem.Spec PyProof.Rows L2
unseal PEd PEf PTd PWd PAd PSd eX POd
section
variable{X:Cx}{G:Gx}{a b e:Expr}{es:List Expr}{pos p:Pos}{f g:Ev}{fs gs:Fv}{t u:Tv}{x:Str}{st:Stmt}{rest:List Stmt}{sa sb:Sv}
theorem mU{Hi H:Hp}{σ:St}{ρ:Rho}{E:Ends}{α:Type}{r:Res α}{k:α->Res Fl}(R:lP X G Hi H σ ρ)(h:Fin X G Hi E (r.bind k)){Q:α->Hp->Hp->Prop}
  (w:∀ a Hi' H',r=.ok a->Ext Hi H Hi' H'->Fin X G Hi' E (k a)->Q a Hi' H'):Out G Hi H r Q:=by
 cases r with
 | no=>exact h
 | err c=>exact fun Hi' H' e=>h Hi' H' (R.ext.trans e)
 | ok a=>exact fun Hi' H' e=>w a Hi' H' rfl e (Fin.mono (show Fin X G Hi E (k a) from h) e.i)
theorem bM:eX X G [] sNext:=PSs.wk zMw fun E σ H q=>by
 obtain⟨ρ,Hi,R,h⟩:=q;exact h σ Hi H (Same.refl _) R
theorem zPi{E:Ends}{Hi:Hp}{ρ:Rho}(h:Fin X G Hi E (aZ sa sb ρ)):Fin X G Hi { E with nx:=tS X G sb E } (sa ρ):=by
 unfold aZ at h
 cases z:sa ρ with
 | no=>rw[z] at h;exact h
 | err c=>rw[z] at h;exact h
 | ok fl=>
  rw[z] at h
  cases fl with
  | nx ρ'=>exact fun σ' Hi' H' s R'=>⟨ρ',Hi',R',Fin.mono (show Fin X G Hi E (sb ρ') from h) s⟩
  | brk ρ'=>exact h
  | ctn ρ'=>exact h
  | ret r=>cases r<;>exact h
theorem zPj{E:Ends}{σ:St}{H:Hp}(q:tS X G (aZ sa sb) E σ H):tS X G sa { E with nx:=tS X G sb E } σ H:=by
 obtain⟨ρ,Hi,R,h⟩:=q;exact⟨ρ,Hi,R,zPi h⟩
theorem aF(h1:PSd X G st sa)(h2:eX X G rest sb):eX X G (st::rest) (aZ sa sb):=PSs.wk (tE h1 h2) fun _ _ _ q=>zPj q
theorem aK(h1:PSd X G st sa):eX X G [st] sa:=zDx h1
theorem lG(he:PEd X G e f)(hs:swapsWith e none pos.line X.env=pure false:=by rfl):PSd X G (.Expr e pos) (pH f):=PS.wk (vF he hs) fun E σ H q=>by
 obtain⟨ρ,Hi,R,h⟩:=q;exact⟨ρ,Hi,R,mU R h fun d Hi' H' _ e h' v r=>h' σ Hi' H' (Same.refl _) (R.grow e)⟩
theorem cW(he:PEd X G e f):PSd X G (.Return (some e) pos) (iX f):=PS.wk (zEu he) fun E σ H q=>by
 obtain⟨ρ,Hi,R,h⟩:=q;obtain⟨Hf,s1,R1,fl⟩:=R.frz;refine⟨ρ.map Sl.frz,Hf,R1,mU R1 (Fin.mono h s1) fun d Hi' H' _ e h' v r=>?_⟩
 exact h' v Hi' H' (R1.ext.trans e) r
theorem dP(he:PEf X G e fs):PSd X G (.Return (some e) pos) (gH fs):=PS.wk (zEu he) fun E σ H q=>by
 obtain⟨ρ,Hi,R,h⟩:=q;obtain⟨Hf,s1,R1,fl⟩:=R.frz;refine⟨ρ.map Sl.frz,Hf,R1,mU R1 (Fin.mono h s1) fun ds Hi' H' _ e h' a n=>?_⟩
 obtain⟨n1,n2,xs,n3,n4⟩:=n;exact h' a Hi' H' (R1.ext.trans e) ⟨R1.ext.h.none n1,n2,xs,n3,n4⟩
theorem fT(i:Nat)(he:PE X e (zDu i)):PSd X G (.Return (some e) pos) (fA i):=PS.wk (zEu he) fun E σ H q=>by
 obtain⟨ρ,Hi,R,h⟩:=q;unfold fA at h
 cases z:ρ[i]? with
 | none=>rw[z] at h;exact h.elim
 | some s=>
  rw[z] at h
  cases s with
  | own ds=>
   obtain⟨a,xs,p,h1,h2,h3,h4⟩:=R.slot i _ z;exact⟨.ref a,p,h a Hi H R.ext ⟨h3,h2,xs,h1,h4⟩⟩
  | un=>exact h.elim
  | val d=>exact h.elim
  | exc c=>exact h.elim
  | tab T=>exact h.elim
theorem jC{c:Expr}{as bs:List Stmt}(hc:PTd X G c t)(ha:eX X G as sa)(hb:eX X G bs sb):PSd X G (.If c as bs pos) (sIf t sa sb):=PS.wk (zRj hc ha hb) fun E σ H q=>by
 obtain⟨ρ,Hi,R,h⟩:=q;refine⟨ρ,Hi,R,mU R h fun c Hi' H' _ e h'=>?_⟩
 cases c with
 | true=>exact⟨ρ,Hi',R.grow e,h'⟩
 | false=>exact⟨ρ,Hi',R.grow e,h'⟩
theorem bH{i:Nat}{pos':Pos}(hN:X.N.Nodup)(hi:X.N[i]?=some x)(hx:Loc X.env.scope x)(he:PEd X G e f)(hs:swapsWith e (some (.Name x pos')) pos.line X.env=pure false:=by rfl)
  (hf:X.fn x=true∨X.env.scope.names.lookup x=some .local:=by first | exact .inl rfl | exact .inr rfl | assumption):PSd X G (.Assign [.Name x pos'] e pos) (cZ i f):=PS.wk (zLJ hN hi hx he hs hf) fun E σ H q=>by
 obtain⟨ρ,Hi,R,h⟩:=q;exact⟨ρ,Hi,R,mU R h fun d Hi' H' _ e h' v r=>h' _ Hi' H' (Same.refl _) ((R.grow e).set r)⟩
theorem lW{i:Nat}{pos':Pos}(hN:X.N.Nodup)(hi:X.N[i]?=some x)(hx:Loc X.env.scope x)(he:PEf X G e fs)(hs:swapsWith e (some (.Name x pos')) pos.line X.env=pure false:=by rfl)
  (hf:X.fn x=true∨X.env.scope.names.lookup x=some .local:=by first | exact .inl rfl | exact .inr rfl | assumption):PSd X G (.Assign [.Name x pos'] e pos) (zH i fs):=PS.wk (zLJ hN hi hx he hs hf) fun E σ H q=>by
 obtain⟨ρ,Hi,R,h⟩:=q;refine⟨ρ,Hi,R,mU R h fun ds Hi' H' _ e h' a n=>?_⟩
 obtain⟨n1,n2,xs,n3,n4⟩:=n;exact h' _ Hi' H' (Same.refl _) (R.setOwn e n1 n3 n2 n4)
theorem uZ{i:Nat}{o:Expr}{apos cpos:Pos}(ho:PE X o (zDu i))(he:PEd X G e f)
  (hbase:attributeBase o "append" X.env (eval o X.env)=eval o X.env:=by rfl)
  (hfew:((backTo cpos (starEach [e] X.env)).all (fun x=>!x.1) && (backToKw cpos (keywordEach [] X.env)).all (fun x=>x.1.isSome)
   && decide ([e].length+([]:List Keyword).length+(if ([]:List Keyword).isEmpty then 0 else 1)<30))=true:=by rfl)
  (hline:(apos.endLine==cpos.line)=true:=by rfl) (hs:starEach [e] X.env=(false,eval e X.env)::starEach [] X.env:=by rfl)
  (hsw:swapsWith (.Call (.Attribute o "append" apos) [e] [] cpos) none pos.line X.env=pure false:=by rfl):
  PSd X G (.Expr (.Call (.Attribute o "append" apos) [e] [] cpos) pos) (zCW i f):=
 PS.wk (vF (zMN Xv PySem.F.slot_list_append PySem.F.type_list_append uH ho (kR he oT hs) hbase hfew hline hs) hsw) fun E σ H q=>by
 obtain⟨ρ,Hi,R,h⟩:=q;unfold zCW at h
 cases z:ρ[i]? with
 | none=>rw[z] at h;exact h.elim
 | some s=>
  rw[z] at h
  cases s with
  | own ds=>
   obtain⟨a,xs,p,h1,h2,h3,h4⟩:=R.slot i _ z;refine⟨.ref a,p,.inl ⟨rfl,xs,SqL.of h1⟩,?_⟩
   refine⟨ρ,Hi,R,mU R h fun d Hi' H' _ e h' v r=>?_⟩
   have R':=R.grow e;obtain⟨g1,g2⟩:=e.out h1 h2;by_cases hz:ds.length<16777216
   ·rw[if_pos hz] at h'
    refine⟨a,xs,v,rfl,rfl,g1,by rw[h4.length];exact hz,?_⟩
    exact h' σ Hi' _ (Same.refl _) (R'.write z p ((h4.mono e.i).append (.cons r .nil)))
   ·rw[if_neg hz] at h';exact h'.elim
  | un=>exact h.elim
  | val d=>exact h.elim
  | exc c=>exact h.elim
  | tab T=>exact h.elim
theorem zRg{i:Nat}{o:Expr}{apos cpos:Pos}(ho:PE X o (zDu i))
  (hbase:attributeBase o "pop" X.env (eval o X.env)=eval o X.env:=by rfl) (hline:(apos.endLine==cpos.line)=true:=by rfl)
  (hsw:swapsWith (.Call (.Attribute o "pop" apos) [] [] cpos) none pos.line X.env=pure false:=by rfl):
  PSd X G (.Expr (.Call (.Attribute o "pop" apos) [] [] cpos) pos) (zOS i):=
 PS.wk (vF (zOV Xv PySem.F.slot_list_pop PySem.F.type_list_pop zQG ho hbase hline) hsw) fun E σ H q=>by
 obtain⟨ρ,Hi,R,h⟩:=q;unfold zOS at h
 cases z:ρ[i]? with
 | none=>rw[z] at h;exact h.elim
 | some s=>
  rw[z] at h
  cases s with
  | own ds=>
   obtain⟨a,xs,p,h1,h2,h3,h4⟩:=R.slot i _ z;refine⟨.ref a,p,.inl ⟨rfl,xs,SqL.of h1⟩,?_⟩
   have h:Fin X G Hi E (if ds.length=0 then Res.no else Res.ok (Fl.nx (ρ.set i (.own ds.dropLast)))):=h;by_cases hz:ds.length=0
   ·rw[if_pos hz] at h;exact h.elim
   ·rw[if_neg hz] at h
    have hl:=h4.length;refine⟨a,xs,xs[xs.length-1]'(by omega),rfl,rfl,h1,Qu (by omega),?_⟩
    exact h σ Hi _ (Same.refl _) (R.write z p h4.dropLast)
  | un=>exact h.elim
  | val d=>exact h.elim
  | exc c=>exact h.elim
  | tab T=>exact h.elim
theorem zKd{i:Nat}{o:Expr}{apos cpos:Pos}(ho:PE X o (zDu i))(he:PEf X G e fs)
  (hbase:attributeBase o "extend" X.env (eval o X.env)=eval o X.env:=by rfl)
  (hfew:((backTo cpos (starEach [e] X.env)).all (fun x=>!x.1) && (backToKw cpos (keywordEach [] X.env)).all (fun x=>x.1.isSome)
   && decide ([e].length+([]:List Keyword).length+(if ([]:List Keyword).isEmpty then 0 else 1)<30))=true:=by rfl)
  (hline:(apos.endLine==cpos.line)=true:=by rfl) (hs:starEach [e] X.env=(false,eval e X.env)::starEach [] X.env:=by rfl)
  (hsw:swapsWith (.Call (.Attribute o "extend" apos) [e] [] cpos) none pos.line X.env=pure false:=by rfl):
  PSd X G (.Expr (.Call (.Attribute o "extend" apos) [e] [] cpos) pos) (zIl i fs):=
 PS.wk (vF (zMN Xv YG YH zID ho (kR he oT hs) hbase hfew hline hs) hsw) fun E σ H q=>by
 obtain⟨ρ,Hi,R,h⟩:=q;unfold zIl at h
 cases z:ρ[i]? with
 | none=>rw[z] at h;exact h.elim
 | some s=>
  rw[z] at h
  cases s with
  | own ds=>
   obtain⟨a,xs,p,h1,h2,h3,h4⟩:=R.slot i _ z;refine⟨.ref a,p,.inl ⟨rfl,xs,SqL.of h1⟩,?_⟩
   refine⟨ρ,Hi,R,mU R h fun es Hi' H' _ e h' b n=>?_⟩
   obtain⟨n1,n2,ys,n3,n4⟩:=n;have R':=R.grow e;obtain⟨g1,g2⟩:=e.out h1 h2;by_cases hz:ds.length+es.length<=16777216
   ·rw[if_pos hz] at h'
    refine⟨a,b,xs,ys,rfl,rfl,g1,n3,by rw[h4.length,n4.length];exact hz,?_⟩
    exact h' σ Hi' _ (Same.refl _) (R'.write z p ((h4.mono e.i).append n4))
   ·rw[if_neg hz] at h';exact h'.elim
  | un=>exact h.elim
  | val d=>exact h.elim
  | exc c=>exact h.elim
  | tab T=>exact h.elim
theorem zRl{i:Nat}{o k:Expr}{fk:Ev}{tpos:Pos}(ho:PE X o (zDu i))(hk:PEd X G k fk)(he:PEd X G e f)(hs:swapsWithSole [.Subscript o k tpos] e pos.line X.env=pure false:=by rfl)(hw:swappedStores [.Subscript o k tpos] e X.env=pure none:=by rfl)
  (h1:(assignEach [.Subscript o k tpos] X.env).map (·.2)=[assign (.Subscript o k tpos) X.env]:=by rfl)
  (ha:∀ v,assign (.Subscript o k tpos) X.env v=(do
   let ov <-holding [v] (eval o X.env)
   let iv <-holding [v,ov] (eval k X.env)
   standAt tpos
   holding [v,ov,iv] (setItem ov iv v)
   release [v,ov,iv] []):=by intro _;rfl):PSd X G (.Assign [.Subscript o k tpos] e pos) (zQL i fk f):=
 PS.wk (zPa he (zOx ho hk zKf ha) hs hw h1) fun E σ H q=>by
 obtain⟨ρ,Hi,R,h⟩:=q;refine⟨ρ,Hi,R,mU R h fun d Hi1 H1 _ e1 h1 v r=>?_⟩
 have R1:=R.grow e1
 cases z:ρ[i]? with
 | none=>rw[z] at h1;exact h1.elim
 | some s=>
  rw[z] at h1
  cases s with
  | own ds=>
   obtain⟨a,xs,p,g1,g2,g3,g4⟩:=R1.slot i _ z;refine⟨.ref a,p,?_⟩
   refine⟨ρ,Hi1,R1,mU R1 h1 fun j Hi2 H2 _ e2 h2 w rw'=>?_⟩
   have R2:=R1.grow e2;obtain⟨k1,k2⟩:=e2.out g1 g2
   cases j with
   | int j=>
    have hl:=g4.length;have h2':Fin X G Hi2 E (if 0<=j/\j<ds.length then Res.ok (.nx (ρ.set i (.own (ds.set j.toNat d)))) else if -(ds.length:Int)<=j/\j<0 then .ok (.nx (ρ.set i (.own (ds.set (j+ds.length).toNat d)))) else .no):=h2;by_cases c1:0<=j/\j<ds.length
    ·rw[if_pos c1] at h2'
     refine⟨a,xs,j,j.toNat,rfl,rw'.intI,k1,by unfold ixN;rw[if_pos c1.1,if_pos (by omega)],?_⟩
     exact h2' σ Hi2 _ (Same.refl _) (R2.write z p ((g4.mono e2.i).set (r.mono e2.i) j.toNat))
    ·rw[if_neg c1] at h2'
     by_cases c2:-(ds.length:Int)<=j/\j<0
     ·rw[if_pos c2] at h2'
      refine⟨a,xs,j,(j+ds.length).toNat,rfl,rw'.intI,k1,by unfold ixN;rw[if_neg (by omega),if_pos (by omega),hl],?_⟩
      exact h2' σ Hi2 _ (Same.refl _) (R2.write z p ((g4.mono e2.i).set (r.mono e2.i) (j+ds.length).toNat))
     ·rw[if_neg c2] at h2';exact h2'.elim
   | _=>exact h2.elim
  | un=>exact h1.elim
  | val d=>exact h1.elim
  | exc c=>exact h1.elim
  | tab T=>exact h1.elim
theorem zFM{i:Nat}{op:Operator}{o:Op2}{r:Int->Int->Int}{pos':Pos}(hN:X.N.Nodup)(hi:X.N[i]?=some x)(hx:Loc X.env.scope x)(he:PEd X G e f)(ho:PIp X op (ipI r))(hr:∀ a b d,o a b=.ok d->∃ i j,a=.int i/\b=.int j/\d=.int (r i j))(hn:∀ a b c,o a b≠.err c)
  (hf:X.fn x=true∨X.env.scope.names.lookup x=some .local:=by first | exact .inl rfl | exact .inr rfl | assumption):PSd X G (.AugAssign (.Name x pos') op e pos) (zJv i o f):=PS.wk (zPX hN hi hx he ho hf) fun E σ H q=>by
 obtain⟨ρ,Hi,R,h⟩:=q;unfold zJv at h
 cases z:ρ[i]? with
 | none=>rw[z] at h;exact h.elim
 | some s=>
  rw[z] at h
  cases s with
  | val d=>
   obtain⟨v,p,rv⟩:=R.slot i _ z;refine⟨v,p,ρ,Hi,R,mU R h fun d' Hi' H' _ e h' w rw'=>?_⟩
   cases q:o d d' with
   | no=>rw[q] at h';exact h'.elim
   | err c=>exact absurd q (hn _ _ _)
   | ok u=>
    rw[q] at h';obtain⟨i',j',rfl,rfl,rfl⟩:=hr _ _ _ q;exact⟨i',j',rv.intI,rw'.intI,h' _ Hi' H' (Same.refl _) ((R.grow e).set (.int _))⟩
  | un=>exact h.elim
  | own ds=>exact h.elim
  | exc c=>exact h.elim
  | tab T=>exact h.elim
theorem eX.frzAt(i:Nat){sts:List Stmt}(h:eX X G sts sa):eX X G sts (sFrzAt i sa):=PSs.wk h fun E σ H q=>by
 obtain⟨ρ,Hi,R,h⟩:=q;obtain⟨Hi',s,R'⟩:=R.frzAt (i:=i);exact⟨_,Hi',R',Fin.mono h s⟩
def tGv(X:Cx)(G:Gx)(g:Gv):TG:=fun v σ H Q=>∃ d ρ Hi,IsD X.K Hi v d/\lP X G Hi H σ ρ/\∃ ρ',g d ρ=.ok ρ'/\∀ σ' Hi' H',Same Hi Hi'->lP X G Hi' H' σ' ρ'->Q σ' H'
@[irreducible] def PGd (X:Cx) (G:Gx) (e:Expr) (g:Gv):Prop:=PG X e (tGv X G g)
unseal PGd
theorem eN{i:Nat}(hN:X.N.Nodup)(hi:X.N[i]?=some x)(hx:Loc X.env.scope x)(hf:X.fn x=true∨X.env.scope.names.lookup x=some .local:=by first | exact .inl rfl | exact .inr rfl | assumption):PGd X G (.Name x pos) (gName i):=
 fun pins s σ H v u Q I r q=>zDJ hN hi hx hf pins s σ H v u Q I r (by
  obtain⟨d,ρ,Hi,rd,R,ρ',e,k⟩:=q;cases e
  exact k _ Hi H (Same.refl _) (R.set rd))
def zSU(X:Cx)(G:Gx)(g:List D->Rho->Res Rho):TGs:=fun vs σ H Q=>∃ ds ρ Hi,IsDs X.K Hi vs ds/\lP X G Hi H σ ρ/\∃ ρ',g ds ρ=.ok ρ'/\∀ σ' Hi' H',Same Hi Hi'->lP X G Hi' H' σ' ρ'->Q σ' H'
@[irreducible] def iW (X:Cx) (G:Gx) (es:List Expr) (g:List D->Rho->Res Rho):Prop:=PGs X es (zSU X G g)
unseal iW
theorem zKY:iW X G [] zHJ:=fun pins s σ H vs us Q I r q=>zGw pins s σ H vs us Q I r (by
  obtain⟨ds,ρ,Hi,rd,R,ρ',e,k⟩:=q
  cases ds with
  | nil=>cases rd;cases e;exact⟨rfl,k _ Hi H (Same.refl _) R⟩
  | cons d ds=>cases e)
theorem zAW{g:Gv}{r:List D->Rho->Res Rho}(h1:PGd X G e g)(h2:iW X G es r)(hs:(assignEach (e::es) X.env).map (·.2)=assign e X.env::(assignEach es X.env).map (·.2):=by rfl):iW X G (e::es) (nX g r):=
 fun pins s σ H vs us Q I rr q=>zAz h1 h2 hs pins s σ H vs us Q I rr (by
  obtain⟨ds,ρ,Hi,rd,R,ρ',e,k⟩:=q
  cases ds with
  | nil=>cases e
  | cons d ds=>
   cases rd with
   | cons rd rds=>
    refine⟨_,_,rfl,d,ρ,Hi,rd,R,?_⟩
    have e':(g d ρ).bind (fun ρ'=>r ds ρ')=.ok ρ':=e
    cases z:g d ρ with
    | no=>rw[z] at e';cases e'
    | err c=>rw[z] at e';cases e'
    | ok ρ1=>
     rw[z] at e'
     exact⟨ρ1,rfl,fun σ1 Hi1 H1 s1 R1=>⟨ds,ρ1,Hi1,rds.mono s1,R1,ρ',e',fun σ2 Hi2 H2 s2 R2=>k σ2 Hi2 H2 (s1.trans s2) R2⟩⟩)
theorem zQm{k:Nat}{r:List D->Rho->Res Rho}{n:Nat}(hc:X.calm=true)(h:iW X G es r)(hr:∀ ds ρ ρ',r ds ρ=.ok ρ'->ds.length=n)(hn:(assignEach es X.env).length=n:=by rfl)(hst:(assignEach es X.env).findIdx? (·.1)=none:=by rfl):PGd X G (.Tuple es k pos) (zGK r):=
 fun pins s σ H v u Q I rr q=>zLM hc h hn hst pins s σ H v u Q I rr (by
  obtain⟨d,ρ,Hi,rd,R,ρ',e,kk⟩:=q
  cases d with
  | tup ds=>
   obtain⟨a,xs,rfl,h1,h2⟩:=rd.tupI;exact⟨a,xs,rfl,cJ R.s h1,by rw[h2.length];exact hr ds ρ ρ' e,ds,ρ,Hi,h2,R,ρ',e,kk⟩
  | _=>cases e)
def xV(K:PySem.W.Frag)(Hi:Hp)(J:It)(ds:List D):Prop:=∀(Hi1 H1:Hp),Same Hi Hi1->Same Hi1 H1->∀ i,
 (ds.length<=i->J.stop i H1)/\∀ d,ds[i]?=some d->J.go i H1/\∀ x H2,J.yld i H1 x H2->∃ Hi2,Ext Hi1 H1 Hi2 H2/\IsD K Hi2 x d
def tIv(X:Cx)(G:Gx)(f:Fv):TI:=fun σ H R=>∃ ρ Hi,lP X G Hi H σ ρ/\Out G Hi H (f ρ) fun ds Hi' H'=>∀ J,xV X.K Hi' J ds->R J H'
@[irreducible] def PId (X:Cx) (G:Gx) (tg e:Expr) (f:Fv):Prop:=PI X tg e (tIv X G f)
unseal PId
theorem PI.wk{tg:Expr}{t t':TI}(h:PI X tg e t)(w:∀ σ H Q,t' σ H Q->t σ H Q):PI X tg e t':=fun pins s σ H Q I q=>h pins s σ H Q I (w σ H Q q)
theorem zKN{g:Gv}{J:It}{ds:List D}{Hi1 H1:Hp}{σ:St}{ρ:Rho}{E:Ends}(hge:∀ d ρ c,g d ρ≠.err c)(R1:lP X G Hi1 H1 σ ρ)(h1:Fin X G Hi1 E (loop g sa ds ρ))(gv:xV X.K Hi1 J ds):zSc (fun _ _ R=>R J H1) (tGv X G g) (tS X G sa) E σ H1:=by
 refine⟨fun i m σ' H'=>m=ds.length-i/\∃ ρ' Hi',Same Hi1 Hi'/\lP X G Hi' H' σ' ρ'/\Fin X G Hi' E (loop g sa (ds.drop i) ρ'),⟨_,rfl,ρ,Hi1,Same.refl _,R1,h1⟩,?_⟩
 rintro i m σ' H' ⟨rfl,ρ',Hi',s',R',h'⟩
 obtain⟨w1,w2⟩:=gv Hi' H' s' R'.s i;by_cases hl:i<ds.length
 ·obtain⟨d,hd⟩:∃ d,ds[i]?=some d:=⟨_,Qu hl⟩
  obtain⟨go,yl⟩:=w2 d hd
  have e3:ds.drop i=d::ds.drop (i+1):=by
   rw[Qu hl] at hd;cases hd;exact Xw hl
  rw[e3] at h';refine .inr ⟨go,fun σ2 H2=>∃ ρ2 Hi2,Same Hi1 Hi2/\lP X G Hi2 H2 σ2 ρ2/\Fin X G Hi2 E (loop g sa (ds.drop (i+1)) ρ2),fun σ2 H2 z=>⟨ds.length-(i+1),by omega,rfl,z⟩,fun x H2 y=>?_⟩
  obtain⟨Hi2,e2,r2⟩:=yl x H2 y;have R2:=R'.grow e2
  have h2:Fin X G Hi2 E ((g d ρ').bind fun ρ1=>(sa ρ1).bind fun f=>match f with
   | .nx ρ2=>loop g sa (ds.drop (i+1)) ρ2
   | .ctn ρ2=>loop g sa (ds.drop (i+1)) ρ2
   | .brk ρ2=>.ok (.nx ρ2)
   | .ret r=>.ok (.ret r)):=Fin.mono h' e2.i
  cases z:g d ρ' with
  | no=>rw[z] at h2;exact h2.elim
  | err c=>exact absurd z (hge _ _ _)
  | ok ρ1=>
   rw[z] at h2;refine⟨d,ρ',Hi2,r2,R2,ρ1,z,fun σ3 Hi3 H3 s3 R3=>⟨ρ1,Hi3,R3,?_⟩⟩
   have h3:=Fin.mono h2 s3;have sm:Same Hi1 Hi3:=(s'.trans e2.i).trans s3;simp only[Res.bind] at h3
   cases zb:sa ρ1 with
   | no=>rw[zb] at h3;exact h3.elim
   | err c=>rw[zb] at h3;exact h3
   | ok fl=>
    rw[zb] at h3
    cases fl with
    | nx ρ2=>exact fun σ4 Hi4 H4 s4 R4=>⟨ρ2,Hi4,sm.trans s4,R4,Fin.mono (show Fin X G Hi3 E (loop g sa (ds.drop (i+1)) ρ2) from h3) s4⟩
    | ctn ρ2=>exact fun σ4 Hi4 H4 s4 R4=>⟨ρ2,Hi4,sm.trans s4,R4,Fin.mono (show Fin X G Hi3 E (loop g sa (ds.drop (i+1)) ρ2) from h3) s4⟩
    | brk ρ2=>exact h3
    | ret r=>cases r<;>exact h3
 ·rw[Xq (by omega)] at h'
  exact .inl ⟨w1 (by omega),h' σ' Hi' H' (Same.refl _) R'⟩
theorem mZ{tg iter:Expr}{body:List Stmt}{it:Fv}{g:Gv}(hp:PassesOwn (model X.prog X.w) X.A X.env X.xe)(hc:X.calm=true)(hi:PId X G tg iter it)(hg:PGd X G tg g)(hge:∀ d ρ c,g d ρ≠.err c)(hb:eX X G body sa)
  (hs:∀ x,foldedSetIterable iter X.env x=pure x:=by intro _;rfl):PSd X G (.For tg iter body [] pos) (zAO it g sa):=PS.wk (zLN hp hc hi hg hb hs) fun E σ H q=>by
 obtain⟨ρ,Hi,R,h⟩:=q;exact⟨ρ,Hi,R,mU R h fun ds Hi1 H1 _ e1 h1 J gv=>zKN hge (R.grow e1) h1 gv⟩
theorem zAd{c:Expr}{body:List Stmt}(hp:PassesOwn (model X.prog X.w) X.A X.env X.xe)(hc:PTd X G c t)(hb:eX X G body sa):PSd X G (.While c body [] pos) (eQ t sa):=PS.wk (zKx hp hc hb) fun E σ H q=>by
 obtain⟨ρ,Hi,R,h⟩:=q;have hn:eQ t sa ρ≠.no:=fun z=>by rw[z] at h;exact h
 obtain⟨n,en⟩:=oJ hn;rw[en] at h;refine⟨fun m σ' H'=>∃ ρ' Hi',Same Hi Hi'/\lP X G Hi' H' σ' ρ'/\Fin X G Hi' E (wh t sa m ρ'),⟨n,ρ,Hi,Same.refl _,R,h⟩,?_⟩
 rintro m σ' H' ⟨ρ',Hi',s',R',h'⟩
 cases m with
 | zero=>exact h'.elim
 | succ m=>
  rw[wh] at h';refine⟨ρ',Hi',R',mU R' h' fun c Hi1 H1 _ e1 h1=>?_⟩
  have R1:=R'.grow e1
  cases c with
  | false=>exact h1 σ' Hi1 H1 (Same.refl _) R1
  | true=>
   refine⟨fun σ2 H2=>∃ ρ2 Hi2,Same Hi Hi2/\lP X G Hi2 H2 σ2 ρ2/\Fin X G Hi2 E (wh t sa m ρ2),fun σ2 H2 z=>⟨m,by omega,z⟩,ρ',Hi1,R1,?_⟩
   have sm:Same Hi Hi1:=s'.trans e1.i;simp only[if_true] at h1
   cases zb:sa ρ' with
   | no=>rw[zb] at h1;exact h1.elim
   | err c=>rw[zb] at h1;exact h1
   | ok fl=>
    rw[zb] at h1
    cases fl with
    | nx ρ2=>exact fun σ4 Hi4 H4 s4 R4=>⟨ρ2,Hi4,sm.trans s4,R4,Fin.mono (show Fin X G Hi1 E (wh t sa m ρ2) from h1) s4⟩
    | ctn ρ2=>exact fun σ4 Hi4 H4 s4 R4=>⟨ρ2,Hi4,sm.trans s4,R4,Fin.mono (show Fin X G Hi1 E (wh t sa m ρ2) from h1) s4⟩
    | brk ρ2=>exact h1
    | ret r=>cases r<;>exact h1
theorem zHU{K:Fg_}{Hi:Hp}{a:Addr}{xs:List V}{ds:List D}(h:SqT K Hi a xs)(hs:IsDs K Hi xs ds):xV K Hi (Itt K a) ds:=fun Hi1 H1 s1 s2 i=>by
 have h1:=cJ (s1.trans s2) h;refine⟨fun hl=>⟨xs,h1,by rw[hs.length];exact hl⟩,fun d hd=>?_⟩
 obtain⟨v,hv,r⟩:=hs.at hd;refine⟨⟨xs,v,h1,hv⟩,fun x H2 y=>?_⟩
 obtain⟨e,y⟩:=y;subst e;have:=y xs h1
 rw[hv] at this;cases this;exact⟨Hi1,Ext.refl s2,r.mono s1⟩
theorem zNv{lo c:Int}{n i:Nat}{d:D}(h:(rng lo n c)[i]?=some d):i<n/\d=.int (lo+(i:Int)*c):=by
 unfold rng at h;rw[Qr] at h;by_cases hl:i<n
 ·rw[Vg hl] at h;cases h;exact⟨hl,rfl⟩
 ·rw[QH (by rw[QE];omega)] at h;cases h
theorem zMt(lo c:Int)(n:Nat):(rng lo n c).length=n:=by unfold rng;rw[Qd,QE]
theorem zCq{K:Fg_}{Hi:Hp}(lo:Int)(n:Nat):xV K Hi (Itr lo n) (rng lo n 1):=fun Hi1 H1 s1 s2 i=>by
 refine⟨fun hl=>by rw[zMt] at hl;exact hl,fun d hd=>?_⟩
 obtain⟨h1,rfl⟩:=zNv hd;refine⟨h1,fun x H2 y=>?_⟩
 obtain⟨e,y⟩:=y;subst e y;rw[Q7];exact⟨Hi1,Ext.refl s2,.int _⟩
theorem zLg{tg:Expr}(hg:Gl X "range")(hm:X.mg "range" = none)(ha:PAd X G [a] fs)(hs:starEach [a] X.env=[(false,eval a X.env)]:=by rfl):PId X G tg (.Call (.Name "range" p) [a] [] pos) (zFe fs):=PI.wk (zHC hg hm ha hs) fun σ H Q q=>by
 obtain⟨ρ,Hi,R,ou⟩:=q;refine zJL R ou fun vs ds Hi1 H1 e1 R1 r1 o1=>?_
 split at o1
 ·rename_i j
  obtain⟨v,rfl,h⟩:=r1.one;by_cases hz:-(2^62)<=j/\j<2^62
  ·rw[if_pos hz] at o1
   exact⟨j,by rw[h.intI],hz.1,hz.2,o1.here R1.s _ (zCq 0 j.toNat)⟩
  ·rw[if_neg hz] at o1;exact o1.elim
 ·exact o1.elim
theorem zPx{tg:Expr}(hg:Gl X "range")(hm:X.mg "range" = none)(ha:PAd X G [a,b] fs)(hs:starEach [a,b] X.env=[(false,eval a X.env),(false,eval b X.env)]:=by rfl)(hs2:starEach [b] X.env=[(false,eval b X.env)]:=by rfl):PId X G tg (.Call (.Name "range" p) [a,b] [] pos) (zGU fs):=PI.wk (zGE hg hm ha hs hs2) fun σ H Q q=>by
 obtain⟨ρ,Hi,R,ou⟩:=q;refine zJL R ou fun vs ds Hi1 H1 e1 R1 r1 o1=>?_
 split at o1
 ·rename_i i j
  obtain⟨v,w,rfl,h,h'⟩:=r1.two;by_cases hz:-(2^62)<=i/\i<2^62/\-(2^62)<=j/\j<2^62
  ·rw[if_pos hz] at o1
   exact⟨i,j,by rw[h.intI,h'.intI],hz,o1.here R1.s _ (zCq i (j-i).toNat)⟩
  ·rw[if_neg hz] at o1;exact o1.elim
 ·exact o1.elim
end
end L3
namespace L3
open PySem PySem.Spec PyProof.Rows L2
unseal PEd PEf PTd PWd PAd PSd eX POd PGd iW PId
structure Fn (K:PySem.W.Frag) (mg:Str->Option Value) (x:Str) (st:Stmt) (ps:List Str) (f:Addr) (fd:FuncData):Prop where
 fn:Fun K x x st f fd
 bd:zCu K fd ps []
 kp:PySem.W.keepIn K (.ref f)=true
 mg:mg x=some (.ref f)
def XE(X:Cx)(G:Gx):XK:=fun cls _ H=>∃ c,X.mg c=some cls/\G.E c H
def oU(K:PySem.W.Frag)(mg:Str->Option Value)(P:Addr):Prop:=∃ f oc od fd osl c,mg "ranked" = some (.ref f)/\K.lookup f=some ⟨oc,od,.func fd,osl⟩/\fd.code=.ref c/\∀ h,K.In h->PySem.W.CodeHd h c P
def TB(K:PySem.W.Frag)(mg:Str->Option Value)(Hi H:Hp):Prop:=∀ P,oU K mg P->zCD P H/\Hi P=none
theorem TB.ext{K:Fg_}{mg:Str->Option Value}{Hi H Hi' H':Hp}(t:TB K mg Hi H)(e:Ext Hi H Hi' H'):TB K mg Hi' H':=fun P h=>⟨e.h.t P (t P h).1,by
 cases z:Hi' P with
 | none=>rfl
 | some o=>
  obtain⟨⟨ps,q,_⟩,n⟩:=t P h;have:=e.n P n (by rw[z];exact fun w=>by cases w)
  rw[q] at this;cases this⟩
structure Good (X:Cx) (G:Gx) (k:Nat):Prop where
 calm:X.calm=true
 room:Room k X.A
 pass:zEI (CX1 X.prog X.w) X (XE X G)
 own:PassesOwn (model X.prog X.w) X.A X.env X.xe
 tb:TB X.K X.mg G.Bi G.B
def zHR(X:Cx)(G:Gx):Prop:=∀(pins:List (Addr×Obj))(σ:St)(H:Hp)(s s':Shared)(ea:Addr)(cls:Value)(vs:List Value),Inv X pins σ H s->Heap.MadeExcOf s.heap s'.heap ea cls vs->s'.os=s.os->AllBare s'.gens->XE X G cls none H->X.xe (.ref ea) s'
def spM(K:PySem.W.Frag)(mg:Str->Option Value)(p:Nat)(m:Mir):Sp:=fun vs H Q E=>vs.length=p/\∃ Bi ds,TB K mg Bi H/\Same Bi H/\IsDs K Bi vs ds/\match m ds with
 | .ok (.v d)=>∀ v Hi' H',Ext Bi H Hi' H'->IsD K Hi' v d->Q v H'
 | .ok (.f es)=>∀ a Hi' H',Ext Bi H Hi' H'->zJW K H Hi' H' a es->Q (.ref a) H'
 | .err c=>∀ C,mg c=some C->∀ Hi' H',Ext Bi H Hi' H'->E C none H'
 | .no=>False
structure CanM (P:Program) (w:World) (K:PySem.W.Frag) (mg:Str->Option Value) (base:Heap) (k:Nat) (x:Str) (ps:List Str) (m:Mir):Prop where
 ex:∃ f fd,FnOk P w K mg base (CX1 P w) k f fd ps (spM K mg ps.length m)/\zCu K fd ps []/\PySem.W.keepIn K (.ref f)=true/\mg x=some (.ref f)
 ln:∀ ds,m ds≠.no->ds.length=ps.length
theorem Good.u{X:Cx}{G:Gx}{k:Nat}(W:Good X G k):X.A.units+64<cLine:=W.room.units
theorem CanM.mono{P:Program}{w:World}{K:Fg_}{mg:Str->Option Value}{base:Heap}{j k:Nat}{x:Str}{ps:List Str}{m:Mir}(c:CanM P w K mg base j x ps m)(h:j<=k):CanM P w K mg base k x ps m:=by
 obtain⟨⟨f,fd,F,r⟩,l⟩:=c;exact⟨⟨f,fd,F.mono h,r⟩,l⟩
section
variable{X:Cx}{G:Gx}{a b e:Expr}{es:List Expr}{pos p:Pos}{f g:Ev}{fs gs:Fv}{t u:Tv}{x:Str}{st:Stmt}{rest:List Stmt}{sa sb:Sv}{k:Nat}{ps:List Str}{m:Mir}
theorem zQn{ps:List Str}(tb:TB X.K X.mg G.Bi G.B)(ln:∀ ds,m ds≠.no->ds.length=ps.length):∀ σ H Q,tD X G (aN m fs) σ H Q->zMa (spM X.K X.mg ps.length m) [] (XE X G) (tAs X G fs) σ H Q:=fun σ H Q q=>by
 obtain⟨ρ,Hi,R,ou⟩:=q;refine zJL R ou fun vs ds Hi1 H1 e1 R1 r1 o1=>?_
 rw[QW];have hm:m ds≠.no:=fun z=>by rw[z] at o1;exact o1
 refine⟨by rw[r1.length];exact ln ds hm,Hi1,ds,tb.ext R1.ext,R1.s,r1,?_⟩
 cases z:m ds with
 | no=>exact absurd z hm
 | err c=>rw[z] at o1;exact fun C hC Hi2 H2 e2=>⟨c,hC,o1 Hi2 H2 e2⟩
 | ok r=>
  rw[z] at o1
  cases r with
  | v d=>exact fun v Hi2 H2 e2 r2=>o1 Hi2 H2 e2 v r2
  | f ds=>
   intro a Hi2 H2 e2 n;obtain⟨n1,n2,xs,n3,n4⟩:=n;exact o1 _ _ (e2.hold n1 n3 n2) (.ref a) (.lst (SqL.of aY) (n4.mono (dA n2 _)))
theorem aG(W:Good X G k)(c:CanM X.prog X.w X.K X.mg X.base k x ps m)(hg:Gl X x)(ha:PAd X G (e::es) fs)
  (hdb:(x==("__debug__" : Str))=false:=by decide) (he:starEach (e::es) X.env=(false,eval e X.env)::starEach es X.env:=by rfl) (hpl:(backTo pos (starEach es X.env)).any (·.1)=false:=by rfl):
  PEd X G (.Call (.Name x p) (e::es) [] pos) (aN m fs):=by
 obtain⟨⟨f,fd,F,b,kp,hm⟩,ln⟩:=c;exact PE.wk (zDA F W.room hg hm kp b .nil W.pass ha hdb he hpl) (zQn W.tb ln)
theorem zNx{ps:List Str}(tb:TB X.K X.mg G.Bi G.B)(ln:∀ ds,m ds≠.no->ds.length=ps.length):∀ σ H Q,tF X G (cU m fs) σ H Q->zMa (spM X.K X.mg ps.length m) [] (XE X G) (tAs X G fs) σ H Q:=fun σ H Q q=>by
 obtain⟨ρ,Hi,R,ou⟩:=q;refine zJL R ou fun vs ds Hi1 H1 e1 R1 r1 o1=>?_
 rw[QW];have hm:m ds≠.no:=fun z=>by rw[z] at o1;exact o1
 refine⟨by rw[r1.length];exact ln ds hm,Hi1,ds,tb.ext R1.ext,R1.s,r1,?_⟩
 cases z:m ds with
 | no=>exact absurd z hm
 | err c=>rw[z] at o1;exact fun C hC Hi2 H2 e2=>⟨c,hC,o1 Hi2 H2 e2⟩
 | ok r=>
  rw[z] at o1
  cases r with
  | v d=>exact o1.elim
  | f ds=>exact fun a Hi2 H2 e2 n=>o1 Hi2 H2 e2 a ⟨e1.h.none n.1,n.2⟩
theorem bE(W:Good X G k)(c:CanM X.prog X.w X.K X.mg X.base k x ps m)(hg:Gl X x)(ha:PAd X G (e::es) fs)
  (hdb:(x==("__debug__" : Str))=false:=by decide) (he:starEach (e::es) X.env=(false,eval e X.env)::starEach es X.env:=by rfl) (hpl:(backTo pos (starEach es X.env)).any (·.1)=false:=by rfl):
  PEf X G (.Call (.Name x p) (e::es) [] pos) (cU m fs):=by
 obtain⟨⟨f,fd,F,b,kp,hm⟩,ln⟩:=c;exact PE.wk (zDA F W.room hg hm kp b .nil W.pass ha hdb he hpl) (zNx W.tb ln)
theorem bJ{d:D}(hg:Gl X x)(h:∃ v u',X.mg x=some u'/\cV v u'/\IsD X.K (fun _=>none) v d)(hdb:(x==("__debug__" : Str))=false:=by decide):PEd X G (.Name x pos) (eC d):=by
 obtain⟨v,u',hm,r,hd⟩:=h;exact mP (zIK hg hm r hdb) fun H=>hd.mono fun b o z=>by cases z
end
abbrev BX(P:Program)(w:World)(K:PySem.W.Frag)(mg:Str->Option Value)(base:Heap)(N:List Str)(x:Str)(st:Stmt)(f:Addr)(cdv:Value)(A:Around)(outer:List Env)(s:Shared)(H:Hp)(E:XK):Cx:=
 zFs (CX1 P w) P w K mg base N x (aH st) f cdv A outer s H E
theorem zCn{K:Fg_}{mg:Str->Option Value}{Bi H:Hp}{N:List Str}{vs:List V}{ds:List D}(s:Same Bi H)(h:IsDs K Bi vs ds):Rel K mg H Bi Bi H (L2.start N vs) (L3.start N.length ds) where
 len:=by
  unfold L2.start L3.start;rw[Qi,Qi,Qd,Qd,VM,VM,h.length]
 ext:=Ext.refl s
 slot:=fun i sl e=>by
  unfold L3.start at e;by_cases hi:i<ds.length
  ·rw[QO (by rw[Qd];exact hi),Qr] at e
   obtain⟨d,hd⟩:∃ d,ds[i]?=some d:=⟨_,Qu hi⟩;rw[hd] at e;cases e
   obtain⟨v,hv,r⟩:=h.at hd;refine⟨v,?_,r⟩
   unfold L2.start;rw[QO (by rw[Qd,h.length];exact hi),Qr,hv];rfl
  ·rw[QX (by rw[Qd];omega),Xm] at e
   split at e
   ·cases e;trivial
   ·cases e
 dist:=fun i j a es fs e _ _ _=>by
  exfalso
  unfold L3.start at e;by_cases hi:i<ds.length
  ·rw[QO (by rw[Qd];exact hi),Qr] at e
   cases z:ds[i]? with
   | none=>rw[z] at e;cases e
   | some d=>rw[z] at e;cases e
  ·rw[QX (by rw[Qd];omega),Xm] at e
   split at e<;>cases e
section
variable{P:Program}{w:World}{K:Fg_}{mg:Str->Option Value}{base:Heap}{N ps:List Str}{x:Str}{st:Stmt}{f:Addr}{fd:FuncData}{k:Nat}{b:Sv}
theorem zIU{cdv:Value}{A:Around}{outer:List Env}{s:Shared}{H Bi:Hp}{E:XK}(hr:Room k (A.deeper (envOfC x (aH st) s.heap.objs.size f cdv)))(tb:TB K mg Bi H):
  Good (BX P w K mg base N x st f cdv A outer s H E) ⟨H,Bi,fun c H'=>∀ C,mg c=some C->E C none H'⟩ k where
 calm:=rfl
 room:=hr
 pass:=zQT fun c H' q=>by
  obtain⟨c',h1,h2⟩:=q;exact h2 c h1
 own:=PassesOwn.leaving
 tb:=tb
theorem zEM{cdv:Value}{A:Around}{outer:List Env}{s:Shared}{H Bi:Hp}{E:XK}:
  zHR (BX P w K mg base N x st f cdv A outer s H E) ⟨H,Bi,fun c H'=>∀ C,mg c=some C->E C none H'⟩:=fun pins σ H1 s1 s' ea cls vs I hx hos hg q=>by
 obtain⟨c',h1,h2⟩:=q;exact zCJ I hx hos hg (h2 cls h1)
theorem zPo(F:Fn K mg x st ps f fd)(S:FnScope N ps (aH st))
  (h:∀(cdv:Value)(A:Around)(outer:List Env)(s:Shared)(H:Hp)(E:XK)(G:Gx),Good (BX P w K mg base N x st f cdv A outer s H E) G k->zHR (BX P w K mg base N x st f cdv A outer s H E) G->eX (BX P w K mg base N x st f cdv A outer s H E) G (fS st) b):
  FnOk P w K mg base (CX1 P w) (k+1) f fd ps (spM K mg ps.length (fn ps.length N.length b)):=by
 obtain⟨oc,od,kV,doc,pm,an,cdv,ct,osl,rfl,lk,hcd⟩:=F.fn.ex;refine zPq lk hcd S (fun vs H Q E h=>h.1) fun A outer s H vs Q E hr hsp=>?_
 obtain⟨hl,Bi,ds,tb,sm,hd,hq⟩:=hsp;have hg:=zIU (P:=P) (w:=w) (K:=K) (mg:=mg) (base:=base) (N:=N) (outer:=outer) (H:=H) (Bi:=Bi) (E:=E) hr tb;refine⟨_,h cdv A outer s H E _ hg zEM,L3.start N.length ds,Bi,zCn sm hd,?_⟩
 have hlen:ds.length=ps.length:=by rw[<-hd.length];exact hl
 unfold fn at hq;rw[if_pos hlen] at hq
 cases z:b (L3.start N.length ds) with
 | no=>rw[z] at hq;exact hq
 | err c=>rw[z] at hq;exact fun Hi' H' e C hC=>hq C hC Hi' H' e
 | ok fl=>
  rw[z] at hq
  cases fl with
  | nx ρ'=>exact fun σ' Hi' H' s R=>hq .non Hi' H' R.ext .non
  | brk ρ'=>exact hq.elim
  | ctn ρ'=>exact hq.elim
  | ret r=>
   cases r with
   | v d=>exact hq
   | f es=>exact hq
theorem aM(F:Fn K mg x st ps f fd)(S:FnScope N ps (aH st))
  (h:∀(cdv:Value)(A:Around)(outer:List Env)(s:Shared)(H:Hp)(E:XK)(G:Gx),Good (BX P w K mg base N x st f cdv A outer s H E) G k->zHR (BX P w K mg base N x st f cdv A outer s H E) G->eX (BX P w K mg base N x st f cdv A outer s H E) G (fS st) b):
  CanM P w K mg base (k+1) x ps (fn ps.length N.length b):=by
 refine⟨⟨f,fd,zPo F S h,F.bd,F.kp,F.mg⟩,fun ds hm=>?_⟩
 unfold fn at hm;split at hm
 ·assumption
 ·exact absurd rfl hm
end
section
variable{X:Cx}{G:Gx}{a b e:Expr}{es:List Expr}{pos p:Pos}{f g:Ev}{fs gs:Fv}{t u:Tv}{x:Str}{st:Stmt}{rest:List Stmt}{sa sb:Sv}{k:Nat}
theorem PTd.frz(h:PTd X G e t):PTd X G e (tFrzB t):=PT.wk h fun σ H Q q=>by
 obtain⟨ρ,Hi,R,ou⟩:=q;obtain⟨Hf,s1,R1,fl⟩:=R.frz;refine⟨ρ.map Sl.frz,Hf,R1,?_⟩
 unfold tFrzB at ou
 cases z:t (ρ.map Sl.frz) with
 | no=>rw[z] at ou;exact ou
 | err c=>
  rw[z] at ou;intro Hi1 H1 e1;obtain⟨Ht,e2,k,s2,n⟩:=Ext.thaw s1 fl R1.s e1;exact ou Ht H1 e2
 | ok c=>
  rw[z] at ou;intro Hi1 H1 e1;obtain⟨Ht,e2,k,s2,n⟩:=Ext.thaw s1 fl R1.s e1;exact ou Ht H1 e2
def iSq(K:PySem.W.Frag)(tl:TE):TI:=fun σ H R=>tl σ H fun x H1=>∃ a,x=.ref a/\(((∃ xs,SqL K H1 a xs)/\R (Itl K a) H1)∨((∃ xs,SqT K H1 a xs)/\R (Itt K a) H1))
theorem zOI{tg l:Expr}{tl:TE}(hl:PE X l tl):PI X tg l (iSq X.K tl):=by
 intro pins s σ H R I h;refine thn (hl pins s σ H _ I h) fun v s1 ⟨x,H1,I1,r1,q1⟩=>?_
 obtain⟨a,e,q1⟩:=q1;subst e;cases r1;rcases q1 with⟨⟨xs,hq⟩,q⟩ | ⟨⟨xs,hq⟩,q⟩
 ·obtain⟨its,rv,p,hz⟩:=I1.list hq
  refine wpAny_pyIter_list p.isList ?_
  refine⟨s1.heap.objs.size,[s1.heap.objs.size],_,_,H1,rfl,I1.kept (t':=s1.toks) fun b o e=>Heap.get?_push_of_some _ e,zBt a _,⟨_,Heap.get?_push_size _ rfl,rfl,rfl⟩,fun b hb=>?_,q⟩
  have e:b=s1.heap.objs.size:=by simpa using hb
  subst e;exact I1.fpOk (Qf _) (I1.hok.fresh (Qf _))
 ·obtain⟨its,rv,p,hz⟩:=I1.tuple hq
  refine wpAny_pyIter_tuple (show s1.heap.IsTuple a its.toArray from p) ?_
  refine⟨s1.heap.objs.size,[s1.heap.objs.size],_,_,H1,rfl,I1.kept (t':=s1.toks) fun b o e=>Heap.get?_push_of_some _ e,zFo a _,⟨_,Heap.get?_push_size _ rfl,rfl,rfl⟩,fun b hb=>?_,q⟩
  have e:b=s1.heap.objs.size:=by simpa using hb
  subst e;exact I1.fpOk (Qf _) (I1.hok.fresh (Qf _))
theorem zCa{K:Fg_}{Hi:Hp}{a:Addr}{xs:List V}{ds:List D}(h1:SqL K Hi a xs)(h2:IsDs K Hi xs ds):xV K Hi (Itl K a) ds:=fun Hi1 H1 s1 s2 i=>by
 have h3:=cK (s1.trans s2) h1;refine⟨fun hl=>⟨xs,h3,by rw[h2.length];exact hl⟩,fun d hd=>?_⟩
 obtain⟨v,hv,r⟩:=h2.at hd;refine⟨⟨xs,v,h3,hv⟩,fun x H2 y=>?_⟩
 obtain⟨e,y⟩:=y;subst e;have:=y xs h3
 rw[hv] at this;cases this;exact⟨Hi1,Ext.refl s2,r.mono s1⟩
theorem gW{tg:Expr}(h:PEd X G e f):PId X G tg e (qE f):=PI.wk (zOI h) fun σ H Q q=>by
 obtain⟨ρ,Hi,R,ou⟩:=q;refine zFW R ou fun v d Hi1 H1 e1 R1 r1 o1=>?_
 cases d with
 | lst ds=>
  obtain⟨a,xs,rfl,h1,h2⟩:=r1.lstI;exact⟨a,rfl,.inl ⟨⟨xs,cK R1.s h1⟩,o1.here R1.s _ (zCa h1 h2)⟩⟩
 | tup ds=>
  obtain⟨a,xs,rfl,h1,h2⟩:=r1.tupI;exact⟨a,rfl,.inr ⟨⟨xs,cJ R1.s h1⟩,o1.here R1.s _ (zHU h1 h2)⟩⟩
 | _=>exact o1.elim
theorem bV{i:Nat}:∀ d ρ c,gName i d ρ≠.err c:=fun d ρ c z=>by cases z
theorem zIF:∀ d ρ c,zHJ d ρ≠.err c:=fun d ρ c z=>by cases d<;>cases z
theorem sS{g:Gv}{r:List D->Rho->Res Rho}(h1:∀ d ρ c,g d ρ≠.err c)(h2:∀ d ρ c,r d ρ≠.err c):∀ d ρ c,nX g r d ρ≠.err c:=fun d ρ c z=>by
 cases d with
 | nil=>cases z
 | cons d ds=>
  have z':(g d ρ).bind (fun ρ'=>r ds ρ')=.err c:=z
  cases q:g d ρ with
  | no=>rw[q] at z';cases z'
  | err c'=>exact h1 _ _ _ q
  | ok ρ'=>rw[q] at z';exact h2 _ _ _ z'
theorem zHu{r:List D->Rho->Res Rho}(h:∀ d ρ c,r d ρ≠.err c):∀ d ρ c,zGK r d ρ≠.err c:=fun d ρ c z=>by
 cases d<;>first | cases z | exact h _ _ _ z
theorem zKI:∀(ds:List D)(ρ ρ':Rho),zHJ ds ρ=.ok ρ'->ds.length=0:=fun ds ρ ρ' z=>by
 cases ds with
 | nil=>rfl
 | cons d ds=>cases z
theorem zAv{g:Gv}{r:List D->Rho->Res Rho}{n:Nat}(h:∀ (ds:List D) (ρ ρ':Rho),r ds ρ=.ok ρ'->ds.length=n):∀(ds:List D)(ρ ρ':Rho),nX g r ds ρ=.ok ρ'->ds.length=n+1:=fun ds ρ ρ' z=>by
 cases ds with
 | nil=>cases z
 | cons d ds=>
  have z':(g d ρ).bind (fun ρ'=>r ds ρ')=.ok ρ':=z
  cases q:g d ρ with
  | no=>rw[q] at z';cases z'
  | err c'=>rw[q] at z';cases z'
  | ok ρ1=>rw[q] at z';rw[Qn,h ds ρ1 ρ' z']
theorem zAs:∀ a b d,zAX a b=.ok d->∃ i j,a=.int i/\b=.int j/\d=.int (i+j):=fun a b d z=>by
 unfold zAX at z;split at z
 ·cases z;exact⟨_,_,rfl,rfl,rfl⟩
 ·cases z
theorem sU:∀ a b c,zAX a b≠.err c:=fun a b c z=>by unfold zAX at z;split at z<;>cases z
theorem zHj:∀ a b d,wI a b=.ok d->∃ i j,a=.int i/\b=.int j/\d=.int (i-j):=fun a b d z=>by
 unfold wI at z;split at z
 ·cases z;exact⟨_,_,rfl,rfl,rfl⟩
 ·cases z
theorem zEb:∀ a b c,wI a b≠.err c:=fun a b c z=>by unfold wI at z;split at z<;>cases z
end
theorem zCl{K:Fg_}{H:Hp}:∀ ns:List Int,IsDs K H (ns.map V.int) (ns.map D.int)
 | []=>.nil
 | n::ns=>.cons (.int n) (zCl ns)
section
variable{X:Cx}{G:Gx}{e:Expr}{es:List Expr}{pos np cpos:Pos}{fs:Fv}{k:Nat}{c:Str}
theorem fR(W:Good X G k)(WR:zHR X G)(hR:∃ C,Err X.K X.mg c C)(hg:Gl X c)(ha:PAd X G (e::es) fs)
  (he:starEach (e::es) X.env=(false,eval e X.env)::starEach es X.env:=by rfl) (hplain:(backTo cpos (starEach es X.env)).any (·.1)=false:=by rfl) (hd:(c==("__debug__" : Str))=false:=by decide):
  PSd X G (.Raise (some (.Call (.Name c np) (e::es) [] cpos)) none pos) (iA c fs):=by
 intro pins s σ H E I q;obtain⟨ρ,Hi,R,h⟩:=q;obtain⟨C,Er⟩:=hR;obtain⟨bmB,newId,B,initId,O,FB⟩:=Er.own X.base I.mod.kin;obtain⟨tl,N,nm,q,bs,hdct,sn,sub,ab,col,dd,k0,k1,k2,k3,k5,mN,hC,hN,hni,T⟩:=O.obj
 have hA:=ha cpos pins s σ H (fun vs H1=>vs.length<=sizeLine/\XE X G (.ref C) none H1) I ⟨ρ,Hi,R,mU R h fun ds Hi' H' _ e1 h' vs r=>by
  have h':Fin X G Hi' E (if ds.length<=16777216 then (.err c:Res Fl) else .no):=h';by_cases hz:ds.length<=16777216
  ·rw[if_pos hz] at h'
   exact⟨by rw[r.length];exact hz,c,O.bound,h' Hi' H' (R.ext.trans e1)⟩
  ·rw[if_neg hz] at h';exact h'.elim⟩
 refine wpAny_Raise_call_subT (C:=C) (nm:=nm) (q:=q) (N:=N) (bs:=bs) (bm:=tl) (hdct:=hdct) (sn:=sn) (sub:=sub) (ab:=ab) (col:=col) (dd:=dd) (k0:=k0) (k1:=k1) (k2:=k2) (k3:=k3) (k5:=k5)
  FB (mN:=mN) (T.hasType FB.hasBase) (I.ok.hd W.calm) (by rw[he];show(false || (backTo cpos (starEach es X.env)).any (·.1))=false;rw[hplain];rfl) hni (zDk I hg O.bound ⟨rfl,?_⟩ hd)
 rw[he] at hA ⊢
 refine Calls.evalArgs_plain (wpAny_mono hA (fun us s₂ h₂=>?_) fun _ _ y=>y)
 obtain⟨vs,H2,I2,rv,hz,hx⟩:=h₂;exact⟨rfl,by show us.length<=sizeLine;rw[<-rv.length];exact hz,I2.bk _ _ hC,hN.keeps I2.bk,T.keeps I2.bk,fun h' ea hm=>WR pins σ H2 s₂ { s₂ with heap:=h' } ea (.ref C) us I2 hm rfl I2.bare hx⟩
end
end L3
namespace L3
open PySem PySem.Spec PyProof.Rows L2 PySem.W Builtin Builtin.ObjectAttr Builtin.Getset_descriptor
unseal PEd PEf PTd PWd PAd PSd eX POd PGd iW PId
section
variable{prog:Program}{w:World}{A:Around}{E:Value->Shared->Prop}{s:Shared}{K:Frag}{x D:Addr}{ox:Obj}
end
section
variable{prog:Program}{w:World}{A:Around}{E:Value->Shared->Prop}{s:Shared}{K:Frag}{x C CE:Addr}{ox:Obj}
end
section
variable{X:Cx}{pins:List (Addr×Obj)}{σ:St}{H H':Hp}{s s':Shared}{ea:Addr}{cls:Value}
theorem _root_.L2.Inv.track(I:Inv X pins σ H s){a:Addr}{o:HO}(hn:H a=none)(h0:X.s₀.heap.get? a=none)(hl:a≠X.env.locals)(hc:∀ x c,X.env.cells.lookup x=some c->c≠a)(hp:∀ p∈X.pn++pins,p.1≠a)
  (ho:mK X.prog X.w (upd H a o) s.heap a o):Inv X pins σ (upd H a o) s where
 ok:=I.ok
 os:=I.os
 bare:=I.bare
 base:=⟨I.base.keep,I.base.slot,fun b ob e n hx=>by
   have:b≠a:=fun z=>by rw[z,h0] at e;cases e
   rw[aW this];exact I.base.free b ob e n hx,I.base.there,fun b xs e=>by
   have z:=I.base.tups b xs e
   rw[aW (bB z hn)];exact z,fun b ob u e=>by
   have z:=I.base.frzs b ob u e
   rw[aW (bB z hn)];exact z,fun b ps e=>by
   obtain⟨m,z⟩:=I.base.tbls b ps e
   exact⟨m,by rw[aW (bB z hn)];exact z⟩⟩
 loc:=I.loc
 cell:=I.cell
 free:=by rw[aW (Ne.symm hl)];exact I.free
 freeC:=fun x c e=>by rw[aW (hc x c e)];exact I.freeC x c e
 pin:=fun p hp'=>by
  obtain⟨e1,e2,e3,e4,e5⟩:=I.pin p hp';exact⟨e1,by rw[aW (hp p hp')];exact e2,e3,e4,e5⟩
 hok:=fun b u e=>by
  by_cases hb:b=a
  ·subst hb;rw[aY] at e;cases e;exact ho
  ·rw[aW hb] at e
   exact(I.hok b u e).stay (fun c v _ q=>q) (fun c q=>by rw[aW (bB q hn)];exact q) fun c xs q=>by rw[aW (bB q hn)];exact q
 len:=I.len
end
section
variable{X:Cx}{G:Gx}{a e:Expr}{es:List Expr}{pos p:Pos}{fs:Fv}{t:Tv}{x:Str}{k:Nat}{ps:List Str}{m:Mir}{st:Stmt}{sts:List Stmt}{sa sb:Sv}
def G0(G:Gx):Gx:={ G with E:=fun _ _=>False }
def zSi(X:Cx)(pins:List (Addr×Obj))(σ:St)(Hi H:Hp)(c:Str)(ev:Value)(s':Shared):Prop:=
 ∃(s1:Shared)(H1:Hp)(ea:Addr)(cls:Value)(Hi' H':Hp),ev=.ref ea/\Inv X pins σ H1 s1/\X.mg c=some cls/\Fly X.prog X.w X.stack H1 H' s1 ea cls s'/\Ext Hi H Hi' H'/\Keep H H1
def zSb(X:Cx)(G:Gx)(Hi:Hp)(E:Ends)(r:Res Fl):Prop:=match r with
 | .err _=>True
 | r=>Fin X G Hi E r
@[irreducible] def PSx (X:Cx) (G:Gx) (st:Stmt) (f:Sv):Prop:=∀(pins:List (Addr×Obj))(s:Shared)(σ:St)(H:Hp)(E:Ends)(ρ:Rho)(Hi:Hp)(Et:Value->Shared->Prop),
 Inv X pins σ H s->lP X G Hi H σ ρ->f ρ≠.no->zSb X G Hi E (f ρ)->(∀ c ev s',f ρ=.err c->zSi X pins σ Hi H c ev s'->Et ev s')->wpAny (model X.prog X.w) X.A (exec st X.env) (SP X pins E) Et s
unseal PSx
@[irreducible] def nU (X:Cx) (G:Gx) (sts:List Stmt) (f:Sv):Prop:=∀(pins:List (Addr×Obj))(s:Shared)(σ:St)(H:Hp)(E:Ends)(ρ:Rho)(Hi:Hp)(Et:Value->Shared->Prop),
 Inv X pins σ H s->lP X G Hi H σ ρ->f ρ≠.no->zSb X G Hi E (f ρ)->(∀ c ev s',f ρ=.err c->zSi X pins σ Hi H c ev s'->Et ev s')->wpAny (model X.prog X.w) X.A (execs sts X.env) (SP X pins E) Et s
unseal nU
end
end L3
namespace L3
open PySem PySem.Spec PyProof.Rows L2 PySem.W
unseal PEd PEf PTd PWd PAd PSd eX POd PGd iW PId PSx nU
section
variable{X:Cx}{G:Gx}{k:Nat}{fb fh:Sv}{body suite:List Stmt}{b₀:Stmt}{ce n:Str}{np hpos pos:Pos}{i:Nat}{tb:List Str}
end
section
variable{X:Cx}{G:Gx}{a:Expr}{p q pos:Pos}{i:Nat}{anc:List (Str×List Str)}{xs:List Str}{x:Str}
end
section
variable{K:Frag}{h:Heap}{mg:Str->Option Value}{x c ce:Str}{C CE:Addr}
theorem sD{newId:String}{bmB:List Value}{B initId:String}(X:K.In h)(G:h.Ns mainGlobals mg)(e:nsIn K mainGlobals x=some (some (.ref C)))(q:excIn K C bmB newId=true)(F:ExcBaseFacts B newId initId bmB):∃ C,Err K mg x C:=by
 refine⟨C,⟨fun h' X'=>⟨bmB,newId,B,initId,⟨mg_of X G e,?_⟩,F⟩⟩⟩
 unfold excIn at q;split at q
 ·rename_i dd cd sl ho
  split at q
  ·rename_i C' bm k0 k1 k2 k3 n k5 hm hs
   simp only[Q8,beq_iff_eq,Bool.not_eq_true'] at q;obtain⟨⟨⟨⟨⟨rfl,rfl⟩,hdel⟩,ht⟩,hok⟩,hni⟩:=q;obtain⟨nm,bs,mro,ns,qn,hd,sn,sub,ab,col,del⟩:=cd;dsimp only at hm hdel hok hni
   subst hm hdel
   have hsl:sl=#[k0,k1,k2,k3,some (.builtin n),k5]:=by
    obtain⟨l⟩:=sl;simp only at hs
    rw[hs]
   subst hsl;exact⟨bm,ns,nm,qn,bs,hd,sn,sub,ab,col,dd,k0,k1,k2,k3,k5,_,X' _ _ ho,.of_isNs (isNs_of_in X' hok),nsMap_none_of_in X' hok hni,tail_of_in X' ht⟩
  ·cases q
 ·cases q
end
def zDq(env:Env):List (Str×NameKind)->List (Str×Addr)->List (Str×Addr)
 | [],cs=>cs
 | (n,k)::r,cs=>zDq env r (if k==.free then (n,(env.cells.lookup n).getD 0)::cs else cs)
theorem zKJ{env:Env}:∀(l:List (Str×NameKind))(cs:List (Str×Addr)),(∀ p∈l,p.2=.free->∃ c,env.cells.lookup p.1=some c)->
  (forIn l cs (fun p (r:List (Str×Addr))=>if (p.2==NameKind.free)=true then (do let a <-cellOf env p.1;pure (ForInStep.yield ((p.1,a)::r))) else pure (ForInStep.yield r)):Sem (List (Str×Addr)))=pure (zDq env l cs)
 | [],cs,_=>by simp[zDq]
 | (n,k)::r,cs,h=>by
  rw[List.forIn_cons,zDq];have ih:=fun cs=>zKJ r cs fun p hp=>h p (Qc _ hp)
  by_cases e:(k==NameKind.free)=true
  ·obtain⟨c,hc⟩:=h (n,k) Qb (beq_iff_eq.mp e)
   simp only[e,if_true,cellOf,hc,pure_bind,Option.getD_some];exact ih _
  ·simp only[e,Vv,if_false,pure_bind]
   exact ih _
theorem zLC{env:Env}{scope:Scope}(h:∀ p∈scope.names,p.2=.free->∃ c,env.cells.lookup p.1=some c):closureFor scope env=pure (zDq env scope.names []):=by
 have:=zKJ scope.names [] h
 unfold closureFor;rw[<-this];simp
theorem uA{env:Env}:∀(l:List (Str×NameKind))(cs:List (Str×Addr)),(∀ p∈l,p.2=.free->∃ c,env.cells.lookup p.1=some c)->(∀ y c,cs.lookup y=some c->env.cells.lookup y=some c)->
  ∀ y c,(zDq env l cs).lookup y=some c->env.cells.lookup y=some c
 | [],cs,_,h,y,c,e=>h y c e
 | (n,k)::r,cs,hl,h,y,c,e=>by
  rw[zDq] at e;refine uA r _ (fun p hp=>hl p (Qc _ hp)) (fun y c e=>?_) y c e
  by_cases z:(k==NameKind.free)=true
  ·obtain⟨c',hc⟩:=hl (n,k) Qb (beq_iff_eq.mp z)
   simp only[z,if_true,Vj,hc,Option.getD_some] at e
   cases w:y==n with
   | true=>rw[w] at e;cases e;rw[beq_iff_eq.mp w];exact hc
   | false=>rw[w] at e;exact h y c e
  ·simp only[z,Vv,if_false] at e
   exact h y c e
theorem zEx{env:Env}:∀(l:List (Str×NameKind))(cs:List (Str×Addr))(y:Str),(∃ c,cs.lookup y=some c)->∃ c,(zDq env l cs).lookup y=some c
 | [],cs,y,h=>h
 | (n,k)::r,cs,y,⟨c,h⟩=>by
  rw[zDq];refine zEx r _ y ?_
  split
  ·rw[Vj]
   cases y==n with
   | true=>exact⟨_,rfl⟩
   | false=>exact⟨c,h⟩
  ·exact⟨c,h⟩
theorem vH{env:Env}:∀(l:List (Str×NameKind))(cs:List (Str×Addr))(y:Str),(y,NameKind.free)∈l->∃ c,(zDq env l cs).lookup y=some c
 | (n,k)::r,cs,y,h=>by
  rw[zDq];rcases Qe.mp h with e | h
  ·cases e
   refine zEx r _ _ ⟨(env.cells.lookup n).getD 0,?_⟩
   simp only[beq_self_eq_true,if_true,Vj]
  ·exact vH r _ y h
theorem bU{α:Type}:∀ {l:List (Str×α)} {y:Str} {k:α},l.lookup y=some k->(y,k)∈l
 | (n,k')::r,y,k,h=>by
  rw[Vj] at h
  cases z:y==n with
  | true=>rw[z] at h;cases h;rw[beq_iff_eq.mp z];exact Qb
  | false=>rw[z] at h;exact Qc _ (bU h)
theorem cG{env:Env}:∀ {l:List (Str×NameKind)} {y:Str} {k:NameKind},
  (l.map fun(n,k)=>if (k==NameKind.free && env.scope.kind==.function && env.kindOf n==some .cell) then (n,NameKind.cell) else (n,k)).lookup y=some k->
  l.lookup y=some k∨(k=.cell/\l.lookup y=some .free)
 | (n,k')::r,y,k,h=>by
  rw[Qq] at h;rw[Vj];by_cases c:(k'==NameKind.free && env.scope.kind==.function && env.kindOf n==some .cell)=true
  ·simp only[c,if_true,Vj] at h
   cases z:y==n with
   | true=>
    rw[z] at h;cases h;refine .inr ⟨rfl,?_⟩
    simp only[Q8] at c;rw[beq_iff_eq.mp c.1.1]
   | false=>rw[z] at h;exact cG h
  ·simp only[c,Vv,if_false,Vj] at h
   cases z:y==n with
   | true=>rw[z] at h;exact .inl h
   | false=>rw[z] at h;exact cG h
def msk(x y:Str):Str:=if y=x then ("" : Str) else y
structure BlkOk (X:Cx) (x:Str) (scope:Scope):Prop where
 kind:scope.kind=.function
 cell:∀ y∈scope.names,y.2≠.cell
 loc:scope.names.lookup x=some .local
 names:∀ y∈scope.names,y.2=.local->scope.names.lookup y.1=some .local
 fre:∀ p∈scope.names,p.2=.free->X.env.kindOf p.1=some .cell∨X.env.kindOf p.1=some .free
 oth:∀ y∈X.N,y≠x->scope.names.lookup y≠some .local
 emp:scope.names.lookup ("" : Str)=none
def cxC(X:Cx)(x:Str)(scope:Scope)(C:Addr)(s₂:Shared)(H₂:Hp)(fp:List Addr):Cx:=
  { prog:=X.prog,w:=X.w,K:=X.K,mg:=X.mg,base:=X.base,A:=X.A,N:=X.N.map (msk x)++[x],s₀:=s₂,H₀:=H₂,env:=compEnvC scope (zDq X.env scope.names []) C X.env,outer:=X.stack,stack:=X.stack,
    ex:=fp,fn:=fun _=>false,calm:=X.calm,pn:=X.pn,xe:=fun _ _=>False }
section
variable{X:Cx}{pins:List (Addr×Obj)}{σ:St}{H:Hp}{s₂:Shared}{x:Str}{scope:Scope}{fp:List Addr}{D C:Addr}{h₁:Heap}
theorem BlkOk.cl(B:BlkOk X x scope)(I:Inv X pins σ H s₂):∀ p∈scope.names,p.2=.free->∃ c,X.env.cells.lookup p.1=some c:=fun p hp e=>I.ok.has p.1 (B.fre p hp e)
theorem zRC(I:Inv X pins σ H s₂)(B:BlkOk X x scope)(hfp:∀ b∈fp,sL X pins H b)(hfl:∀ b∈fp,b<s₂.heap.objs.size)(hD:s₂.heap.objs.size<=D)(hC:s₂.heap.objs.size<=C)(hDC:D≠C)
  (old:∀ b o,s₂.heap.get? b=some o->h₁.get? b=some o) {n:Nat} (hacc:h₁.get? D=some { cls:=.type "list", data:=.seq ([]:List Value).toArray n }) {m:Str->Option Value} (hns:h₁.Ns C m) (t:Nat):
  Inv (cxC X x scope C s₂ H fp) pins (σ++[none]) (upd H D (.lst [])) { s₂ with heap:=h₁,toks:=t }:=by
 have sub:=uA scope.names [] (B.cl I) (fun y c e=>nomatch e)
 have old_lt:∀ {b:Addr} {o:Obj},s₂.heap.get? b=some o->b≠D/\b≠C:=fun e=>⟨Qt (Qs (Heap.lt_size e) hD),Qt (Qs (Heap.lt_size e) hC)⟩
 have free:∀ {b:Addr},b≠D->H b=none->upd H D (.lst []) b=none:=fun n e=>by rw[aW n];exact e
 refine⟨⟨I.ok.mod,B.kind,I.ok.glob,I.ok.blt,hC,fun y z c e1 e2=>I.ok.inj y z c (sub y c e1) (sub z c e2),fun y hy=>?_,fun y c e=>(nomatch e),I.ok.hd,I.ok.frames,.inl rfl,fun b hb=>⟨Qt (Qs (hfl b hb) hC),fun y c e=>(hfp b hb).2.2.2.2.1 y c (sub y c e)⟩,
  I.bs,Qv I.ok.bsz I.sz,fun b o e hb=>?_,fun b hb z=>?_,I.stack,I.stkFree⟩,rfl,I.bare,Un.laid old hD (I.hok.fresh hD),⟨m,hns,fun i y v e1 e2 e3=>?_⟩,fun y c e=>?_,free (Ne.symm hDC) (I.hok.fresh hC),fun y c e=>?_,fun p hp=>?_,I.hok.laid old hD ⟨QY _,[],n,.nil,hacc⟩,?_⟩
 ·have:∃ k,(k=NameKind.cell∨k=NameKind.free)/\((relabel scope X.env).names).lookup y=some k:=hy.elim (fun h=>⟨_,.inl rfl,h⟩) fun h=>⟨_,.inr rfl,h⟩
  obtain⟨k,hk,e⟩:=this
  have e':(y,NameKind.free)∈scope.names:=by
   rcases cG e with z | ⟨_,z⟩
   ·rcases hk with rfl | rfl
    ·exact absurd rfl (B.cell _ (bU z))
    ·exact bU z
   ·exact bU z
  exact vH scope.names [] y e'
 ·rcases (hfp b hb).2.2.2.1 with z | z
  ·exact I.ok.noex b o e z
  ·exact absurd (Qs (Heap.lt_size e) (Qv I.ok.bsz z)) (Q3 _)
 ·rcases Qe.mp (I.stkSub b z) with w | w
  ·exact(hfp b hb).2.1 w
  ·exact(hfp b hb).2.2.1 w
 ·
  have hi:i<σ.length:=by
   by_cases hi:i<σ.length
   ·exact hi
   ·exfalso
    rw[QX (by omega)] at e2
    cases q:i-σ.length with
    | zero=>rw[q] at e2;cases e2
    | succ j=>rw[q] at e2;cases e2
  rw[QO hi] at e2;have e1':(X.N.map (msk x)++[x])[i]?=some y:=e1;rw[QO (by rw[Qd,<-I.len];exact hi),Qr] at e1'
  cases q:X.N[i]? with
  | none=>rw[q] at e1';cases e1'
  | some z=>
   rw[q] at e1';have e1'':msk x z=y:=QK e1';have hz:z∈X.N:=Qm q;have vis:∃ k,((relabel scope X.env).names).lookup y=some k:=e3.elim (fun h=>⟨_,h⟩) fun h=>h.elim (fun h=>⟨_,h⟩) fun h=>⟨_,h⟩
   have hzx:z≠x:=fun w=>by
    obtain⟨k,hk⟩:=vis;have:y=("" : Str):=by rw[<-e1'',w];exact if_pos rfl
    rw[this] at hk;rcases cG hk with h | ⟨_,h⟩<;>(rw[B.emp] at h;cases h)
   have hy:z=y:=by rw[<-e1''];exact(if_neg hzx).symm
   subst hy
   have fr:(z,NameKind.free)∈scope.names:=by
    rcases e3 with h | h | h
    ·rcases cG h with h | ⟨h,_⟩
     ·exact absurd h (B.oth z hz hzx)
     ·cases h
    ·rcases cG h with h | ⟨_,h⟩
     ·exact absurd rfl (B.cell _ (bU h))
     ·exact bU h
    ·rcases cG h with h | ⟨h,_⟩
     ·exact bU h
     ·cases h
   have kd:=B.fre _ fr rfl;obtain⟨m0,hn0,hl⟩:=I.loc;obtain⟨u,ru,lk⟩:=hl i z v q e2 (kd.elim (fun h=>.inr (.inl h)) fun h=>.inr (.inr h))
   refine⟨u,ru,.inr ⟨?_,?_⟩⟩
   ·rcases e3 with h | h | h
    ·rcases cG h with h | ⟨h,_⟩
     ·exact absurd h (B.oth z hz hzx)
     ·cases h
    ·exact .inl h
    ·exact .inr h
   ·rcases lk with⟨k1,_⟩ | ⟨_,c,hc,hcell⟩
    ·rcases kd with kd | kd<;>(rw[kd] at k1;cases k1)
    ·obtain⟨c',hc'⟩:=vH (env:=X.env) scope.names [] z fr
     have:=sub z c' hc'
     rw[hc] at this;cases this;obtain⟨o,ho,hd⟩:=hcell;exact⟨c,hc',o,old _ _ ho,hd⟩
 ·obtain⟨v,o,ho,hd⟩:=I.cell y c (sub y c e)
  exact⟨v,o,old _ _ ho,hd⟩
 ·obtain⟨v,o,ho,hd⟩:=I.cell y c (sub y c e)
  exact free (old_lt ho).1 (I.freeC y c (sub y c e))
 ·obtain⟨e,n,ne,nf,d⟩:=I.pin p hp
  refine⟨old _ _ e,free (old_lt e).1 n,(old_lt e).2,fun z=>?_,d⟩
  rcases Qe.mp (I.stkSub _ z) with w | w
  ·exact ne w
  ·exact nf w
 ·show(σ++[none]).length=(X.N.map (msk x)++[x]).length
  rw[Qi,Qi,Qd,I.len];rfl
end
section
variable{K:Fg_}{mg:Str->Option Value}{B Bi Hi H Hi' H':Hp}{σ:St}{ρ:Rho}
theorem Rel.snoc{v:V}{d:D}(R:Rel K mg B Bi Hi H σ ρ)(h:IsD K Hi v d):Rel K mg B Bi Hi H (σ++[some v]) (ρ++[.val d]) where
 len:=by rw[Qi,Qi,R.len];rfl
 ext:=R.ext
 slot:=fun j s q=>by
  by_cases hl:j<ρ.length
  ·rw[QO hl] at q
   rw[QO (by rw[R.len];exact hl)];exact R.slot j s q
  ·rw[QX (by omega)] at q
   rw[QX (by rw[R.len];omega),R.len]
   cases z:j-ρ.length with
   | zero=>rw[z] at q;cases q;exact⟨v,rfl,h⟩
   | succ n=>rw[z] at q;cases q
 dist:=fun j k a ds es q1 q2 q3 q4=>by
  have own:∀ {j:Nat} {ds:List D},(ρ++[Sl.val d])[j]?=some (.own ds)->j<ρ.length:=fun {j ds} q=>by
   by_cases hl:j<ρ.length
   ·exact hl
   ·rw[QX (by omega)] at q
    cases z:j-ρ.length with
    | zero=>rw[z] at q;cases q
    | succ n=>rw[z] at q;cases q
  have h1:=own q1;have h2:=own q2;rw[QO h1] at q1;rw[QO h2] at q2;rw[QO (by rw[R.len];exact h1)] at q3;rw[QO (by rw[R.len];exact h2)] at q4;exact R.dist j k a ds es q1 q2 q3 q4
theorem Ext.rewrite{a:Addr}{o:HO}(e:Ext Hi H Hi' H')(hn:H a=none)(hi:Hi' a=none)(hl:∃ xs,H' a=some (.lst xs)):Ext Hi H Hi' (upd H' a o) where
 i:=e.i
 h:=⟨fun b u z=>by rw[aW (bB z hn)];exact e.h.k _ _ z,fun P z=>by
  obtain⟨xs,hl⟩:=hl
  exact(e.h.t P z).put (fun ps y=>by rw[hl] at y;cases y) (fun ob u y=>by rw[hl] at y;cases y)⟩
 s:=fun b u z=>by rw[aW (bB z hi)];exact e.s _ _ z
 n:=e.n
theorem IsDs.snoc{v:V}{d:D}(h:IsD K H v d):∀ {vs:List V} {ds:List D},IsDs K H vs ds->IsDs K H (vs++[v]) (ds++[d])
 | _,_,.nil=>.cons h .nil
 | _,_,.cons r t=>.cons r (IsDs.snoc h t)
end
theorem zAV{α:Type}{r:Res α}{a:α}(h:noErr r=.ok a):r=.ok a:=by
 cases r with
 | ok b=>exact h
 | err c=>cases h
 | no=>cases h
theorem zFf{t:Tv}{f:Ev}{ρ:Rho}{d:D}{ds es:List D}(h:hG t f ρ (d::ds)=.ok es):
  (t (ρ++[.val d])=.ok false/\hG t f ρ ds=.ok es)∨(t (ρ++[.val d])=.ok true/\∃ e es',f (ρ++[.val d])=.ok e/\hG t f ρ ds=.ok es'/\es=e::es'):=by
 rw[hG] at h
 cases ht:noErr (t (ρ++[.val d])) with
 | no=>rw[ht] at h;cases h
 | err c=>rw[ht] at h;cases h
 | ok c=>
  rw[ht] at h;have ht':=zAV ht
  cases c with
  | false=>exact .inl ⟨ht',h⟩
  | true=>
   refine .inr ⟨ht',?_⟩
   have h':((noErr (f (ρ++[.val d]))).bind fun e=>(hG t f ρ ds).bind fun es=>.ok (e::es))=.ok es:=h
   cases hf:noErr (f (ρ++[.val d])) with
   | no=>rw[hf] at h';cases h'
   | err c=>rw[hf] at h';cases h'
   | ok e=>
    rw[hf] at h';have h'':((hG t f ρ ds).bind fun es=>.ok (e::es))=.ok es:=h'
    cases hr:hG t f ρ ds with
    | no=>rw[hr] at h'';cases h''
    | err c=>rw[hr] at h'';cases h''
    | ok es'=>
     rw[hr] at h'';cases h''
     exact⟨e,es',zAV hf,rfl,rfl⟩
theorem zAS{t:Tv}{f:Ev}{ρ:Rho}{c:Str}:∀ {ds:List D},hG t f ρ ds≠.err c
 | []=>fun h=>by cases h
 | d::ds=>fun h=>by
  rw[hG] at h
  cases ht:noErr (t (ρ++[.val d])) with
  | no=>rw[ht] at h;cases h
  | err c=>cases q:t (ρ++[.val d])<;>(rw[q] at ht;cases ht)
  | ok b=>
   rw[ht] at h
   cases b with
   | false=>exact zAS h
   | true=>
    have h':((noErr (f (ρ++[.val d]))).bind fun e=>(hG t f ρ ds).bind fun es=>.ok (e::es))=.err c:=h
    cases hf:noErr (f (ρ++[.val d])) with
    | no=>rw[hf] at h';cases h'
    | err c=>cases q:f (ρ++[.val d])<;>(rw[q] at hf;cases hf)
    | ok e=>
     rw[hf] at h'
     cases hr:hG t f ρ ds with
     | no=>simp only[Res.bind,hr] at h';cases h'
     | err c'=>exact zAS hr
     | ok es=>simp only[Res.bind,hr] at h';cases h'
@[irreducible] def PTs (X:Cx) (G:Gx) (ifs:List Expr) (t:Tv):Prop:=
 ∀(pins:List (Addr×Obj))(s:Shared)(σ:St)(H:Hp)(Q:Bool->Hp->Prop),Inv X pins σ H s->tTb X G t σ H Q->
  wpAny (model X.prog X.w) X.A (forIn ifs true fun c r=>if r=true then do let ok <-isTrue c X.env (eval c X.env);pure (ForInStep.yield ok) else pure (ForInStep.yield r)) (TP X pins σ Q) X.xe s
unseal PTs
theorem jD{X:Cx}{G:Gx}:PTs X G [] iZ:=fun pins s σ H Q I ⟨ρ,Hi,R,o⟩=>wpAny_tests_nil ⟨H,I,Out.here (a:=true) o R.s⟩
end L3
namespace L3
open PySem PySem.Spec PyProof.Rows L2
unseal PEd PEf PTd PWd PAd PSd eX POd PGd iW PId PSx nU PTs
section
variable{X:Cx}{G:Gx}{elt iter:Expr}{x:Str}{px pos:Pos}{ifs:List Expr}{scope:Scope}{it:Fv}{t:Tv}{f:Ev}{k:Nat}
theorem zNJ{M:Model}{A:Around}{α:Type}{m:Sem α}{itv u:Value}{s:Shared}{Q1:Unit->Shared->Prop}{R1:α->Shared->Prop}{E:Value->Shared->Prop}(h:wpAny M A (letOwnedTupleGo (.Name x px) itv u) Q1 E s)
  (k:∀ s5,Q1 () s5->wpAny M A m R1 E s5):wpAny M A m R1 E s:=by
 have key:=wpAny_bind (f:=fun _:Unit=>m) (wpAny_mono h (fun _ s5 h5=>k s5 h5) fun _ _ z=>z)
 have e:(letOwnedTupleGo (.Name x px) itv u >>= fun _=>m)=m:=pure_bind () fun _=>m
 rw[e] at key;exact key
theorem zIb{N:List Str}(hN:N.Nodup)(h0:("" : Str)∉N)(hx:x≠("" : Str)):(N.map (msk x)++[x]).Nodup:=by
 rw[List.nodup_append];refine⟨?_,VL.mpr ⟨by simp,List.nodup_nil⟩,fun a ha b hb e=>?_⟩
 ·induction N with
  | nil=>exact List.nodup_nil
  | cons y N ih=>
   rw[Qq,VL];obtain⟨hy,hN⟩:=VL.mp hN;refine⟨fun hm=>?_,ih hN fun z=>h0 (Qc _ z)⟩
   obtain⟨z,hz,e⟩:=Qj.mp hm;unfold msk at e;by_cases c1:z=x
   ·by_cases c2:y=x
    ·exact hy (by rw[c2,<-c1];exact hz)
    ·rw[if_pos c1,if_neg c2] at e;exact h0 (by rw[e];exact Qb)
   ·by_cases c2:y=x
    ·rw[if_neg c1,if_pos c2] at e;exact h0 (by rw[<-e];exact Qc _ hz)
    ·rw[if_neg c1,if_neg c2] at e;exact hy (by rw[<-e];exact hz)
 ·obtain⟨z,hz,e1⟩:=Qj.mp ha
  rw[Qp] at hb;subst hb;subst e;unfold msk at e1;split at e1
  ·exact hx e1.symm
  ·rename_i c;exact c e1
structure CW where
 i:Nat
 v:List (Option V)
 H:Hp
 Hi:Hp
 ys:List V
 done:List D
 rest:List D
structure CS (Y:Cx) (pins:List (Addr×Obj)) (σ:St) (tn:Nat->Heap->Prop) (fp:List Addr) (Hi2 H2:Hp) (a:Addr) (m:Nat) (cp:Nat->Res (List D)) (es:List D) (c:CW) (s':Shared):Prop where
 inv:Inv Y pins (σ++c.v) c.H s'
 wid:c.v.length=m
 tn:tn c.i s'.heap
 fr:∀ b∈fp,c.H b=none
 ext:Ext Hi2 H2 c.Hi c.H
 acc:c.H a=some (.lst c.ys)
 hi:c.Hi a=none
 isd:IsDs Y.K c.Hi c.ys c.done
 len:c.done.length<=c.i
 cmp:cp c.i=.ok c.rest
 all:es=c.done++c.rest
def zSp(X:Cx)(pins:List (Addr×Obj))(σ:St)(use:Option (Value->Sem Unit))(Q':Value->Shared->Prop)(Qa:Addr->Hp->Prop):Prop:=
 ∀(C A:Addr)(m:Str->Option Value)(s4:Shared)(H3:Hp),s4.heap.Ns C m->(∀ h',Heap.SameBut C s4.heap h'->Inv X pins σ H3 { s4 with heap:=h' })->sL X pins H3 C->Qa A H3->
  compPost (model X.prog X.w) X.A X.xe use Q' (.ref A) C (.ok .next) s4
theorem zCr(hc:X.calm=true/\TB X.K X.mg G.Bi G.B)(hr:Room k X.A)(Bk:BlkOk X x scope)(hN:X.N.Nodup)(h0:("" : Str)∉X.N)(hx0:x≠("" : Str))(hi:PId X G (.Name x px) iter it)
  (hb:∀(C:Addr)(s₂:Shared)(H₂:Hp)(fp:List Addr)(G':Gx),Good (cxC X x scope C s₂ H₂ fp) G' k->PTs (cxC X x scope C s₂ H₂ fp) G' ifs t/\PEd (cxC X x scope C s₂ H₂ fp) G' elt f)
  (hs:∀ x,foldedSetIterable iter X.env x=pure x:=by intro _;rfl)
  {pins:List (Addr×Obj)} {s:Shared} {σ:St} {H Hi:Hp} {ρ:Rho} {use:Option (Value->Sem Unit)} {Q':Value->Shared->Prop} {Qa:Addr->Hp->Prop} {cpos:Pos} (I:Inv X pins σ H s) (R:lP X G Hi H σ ρ)
  (ou:Out G Hi H ((jR it t f) ρ) fun ds Hi' H'=>∀ a,zJW X.K H Hi' H' a ds->Qa a H') (hend:zSp X pins σ use Q' Qa):
  wpAny (model X.prog X.w) X.A (comprehension (.ListComp elt [⟨.Name x px,iter,ifs,0⟩] scope pos) scope X.env cpos (newList []) false (eval iter X.env) use) Q' X.xe s:=by
 refine wpAny_comprehension_free (use:=use) rfl hs (zLC (Bk.cl I)) Bk.kind Bk.names ?_
 refine thn (hi pins s σ H (fun J H2=>∃ ds Hi2,Ext Hi H Hi2 H2/\xV X.K Hi2 J ds/\Out G Hi2 H2 (if ds.length<=16777215 then hG t f ρ ds else .no) fun ds Hi' H'=>∀ a,zJW X.K H Hi' H' a ds->Qa a H') I
  ⟨ρ,Hi,R,(Out.bind ou).imp fun ds Hi2 H2 e2 o2 J gv=>⟨ds,Hi2,e2,gv,o2⟩⟩) fun v s1 h1=>thn h1 fun itv s2 h2=>?_
 obtain⟨itA,fp,tn,J,H2,rfl,I2,T,st2,f2,ds,Hi2,e2,gv,ou2⟩:=h2
 have hlen:ds.length<=16777215:=by
  by_cases hlen:ds.length<=16777215
  ·exact hlen
  ·rw[if_neg hlen] at ou2;exact ou2.elim
 rw[if_pos hlen] at ou2
 cases hes:hG t f ρ ds with
 | no=>rw[hes] at ou2;exact ou2.elim
 | err c=>exact absurd hes zAS
 | ok es=>
  rw[hes] at ou2;have R2:lP X G Hi2 H2 σ ρ:=R.grow e2;refine wpAny_newObj_type (wpAny_newFunctionEnv Bk.cell (by intro y hy;simp at hy) (fun h₁ hns₁ hsb₁=>?_) Bk.kind)
  dsimp only at hns₁ hsb₁ ⊢
  generalize hH2:s2.heap.push { cls:=.type "list", dict:=none,data:=.seq ([]:List Value).toArray }=HP at hns₁ hsb₁ ⊢;have hC:HP.objs.size=s2.heap.objs.size+1:=by rw[<-hH2,Heap.size_push]
  have hDC:s2.heap.objs.size≠HP.objs.size:=by rw[hC];omega
  have ltC:∀ {b:Addr} {o:Obj},s2.heap.get? b=some o->b≠HP.objs.size:=fun e=>by rw[hC];exact Qt (Vw (Heap.lt_size e))
  have old:∀ b o,s2.heap.get? b=some o->h₁.get? b=some o:=fun b o e=>hsb₁.extBut b o (ltC e) (Heap.get?_push_of_some _ (hH2 ▸ Heap.get?_push_of_some _ e))
  have hacc:h₁.get? s2.heap.objs.size=some { cls:=.type "list", data:=.seq ([]:List Value).toArray 0 }:=hsb₁.extBut _ _ hDC (Heap.get?_push_of_some _ (hH2 ▸ Heap.get?_push_size _ rfl));have hfl:∀ b∈fp,b<s2.heap.objs.size:=fun b hb=>by obtain⟨o,e,_⟩:=T.obj _ _ st2 b hb;exact Heap.lt_size e
  have IE:=zRC (t:=s2.toks+([]:List (Str×Value)).length) I2 Bk f2 hfl (Qf _) (by rw[hC];omega) hDC old hacc hns₁
  have sub:=uA scope.names [] (Bk.cl I2) (fun y c e=>nomatch e)
  have H2D:H2 s2.heap.objs.size=none:=I2.hok.fresh (Qf _);have HD:H s2.heap.objs.size=none:=e2.h.none H2D;have Hi2D:Hi2 s2.heap.objs.size=none:=e2.s.none H2D;generalize hX:cxC X x scope HP.objs.size s2 H2 fp=Y at IE
  have GY:Good Y ⟨G.B,G.Bi,fun _ _=>False⟩ k:=by
   subst hX;exact⟨hc.1,hr,fun pins σ H s e s' _ h=>by obtain⟨_,_,_,_,_,c,_,z⟩:=h;exact z.elim,PassesOwn.never,hc.2⟩
  obtain⟨hts,hel⟩:=(hX ▸ hb HP.objs.size s2 H2 fp ⟨G.B,G.Bi,fun _ _=>False⟩ (hX.symm ▸ GY):PTs Y ⟨G.B,G.Bi,fun _ _=>False⟩ ifs t/\PEd Y ⟨G.B,G.Bi,fun _ _=>False⟩ elt f)
  have stat:∀ {H':Hp},(∀ b∈fp,H' b=none)->∀ b∈fp,sL Y pins H' b:=fun hn b hb=>by
   subst hX;refine⟨hn b hb,?_,fun z=>?_,.inl hb,fun y c e=>(f2 b hb).2.2.2.2.1 y c (sub y c e),(f2 b hb).2.2.2.2.2⟩
   ·show b≠HP.objs.size
    rw[hC];exact Qt (Vw (hfl b hb))
   ·rcases Qe.mp (I2.stkSub b z) with w | w
    ·exact(f2 b hb).2.1 w
    ·exact(f2 b hb).2.2.1 w
  have YN:Y.N.Nodup:=by subst hX;exact zIb hN h0 hx0
  have Yx:Y.N[σ.length]?=some x:=by
   subst hX;show(X.N.map (msk x)++[x])[σ.length]?=some x
   rw[QX (by rw[Qd,I2.len];omega),Qd,I2.len,VS];rfl
  have Yl:Y.env.scope.names.lookup x=some .local:=by subst hX;exact lookup_relabel_local Bk.loc
  have Ye:Y.env=compEnvC scope (zDq X.env scope.names []) HP.objs.size X.env:=by subst hX;rfl
  have Yxe:∀ e s,¬ Y.xe e s:=by subst hX;exact fun _ _ h=>h
  have tn1:tn 0 h₁:=T.keep _ _ _ st2 fun b _ o e=>old b o e
  have loop:∀ s3:Shared,s3={ s2 with heap:=h₁,toks:=s2.toks+([]:List (Str×Value)).length }->
    codeAny (model X.prog X.w) X.A (.compLoop (.ListComp elt [⟨.Name x px,iter,ifs,0⟩] scope pos) 0 (.ref itA) (.ref s2.heap.objs.size) Y.env) (compPost (model X.prog X.w) X.A X.xe use Q' (.ref s2.heap.objs.size) HP.objs.size) s3:=by
   rintro s3 rfl
   subst hX
   have fr0:∀ b∈fp,upd H2 s2.heap.objs.size (.lst []) b=none:=fun b hb=>by
    rw[aW (Qt (hfl b hb))];exact(f2 b hb).1
   refine codeAny_compLoop_tests (fun n s'=>∃ c:CW,n=ds.length-c.i/\CS (cxC X x scope HP.objs.size s2 H2 fp) pins σ tn fp Hi2 H2 s2.heap.objs.size 1 (fun i=>hG t f ρ (ds.drop i)) es c s') ?_ ds.length
    ⟨⟨0,[none],_,Hi2,[],[],es⟩,rfl,⟨IE,rfl,tn1,fr0,(Ext.refl e2.s).trans (Ext.newF e2.s H2D),aY,Hi2D,.nil,Qf _,hes,rfl⟩⟩
   ·rintro n s3 ⟨⟨i,vv,H3,Hi3,ys,done,rest⟩,rfl,I3,wd3,st3,fr3,e3,hD3,hiD3,rd3,hl3,hr3,hes3⟩
    dsimp only at I3 wd3 st3 fr3 e3 hD3 hiD3 rd3 hl3 hr3 hes3 ⊢
    obtain⟨v,rfl⟩:∃ v,vv=[v]:=by
     match vv,wd3 with
     | [v],_=>exact⟨v,rfl⟩
    obtain⟨w1,w2⟩:=gv Hi3 H3 e3.i e3.s i;have lift:∀ {α:Type} {m:Sem α} {Q':α->Shared->Prop} {E:Value->Shared->Prop} {s':Shared},wpAny (model X.prog X.w) X.A m Q' (cxC X x scope HP.objs.size s2 H2 fp).xe s'->wpAny (model X.prog X.w) X.A m Q' E s':=fun h=>wpAny_mono h (fun _ _ z=>z) fun e s z=>(Yxe e s z).elim
    by_cases hlt:i<ds.length
    ·obtain⟨d,hd⟩:∃ d,ds[i]?=some d:=⟨_,Qu hlt⟩
     obtain⟨go,yl⟩:=w2 d hd
     have e4:ds.drop i=d::ds.drop (i+1):=by
      rw[Qu hlt] at hd;cases hd;exact Xw hlt
     rw[e4] at hr3;refine thn (T.item (cxC X x scope HP.objs.size s2 H2 fp) rfl rfl rfl hc.1 i pins s3 _ H3 _ I3 (stat fr3) st3 go) fun r s4 ⟨u,hru,h4⟩=>?_
     subst hru;refine zNJ h4 fun s5 h5=>?_
     obtain⟨xv,H5,I5,r5,y5,st5,fr5⟩:=h5;obtain⟨Hi5,e5,rd5⟩:=yl xv H5 y5;have I5':=I5.pinned (stat fr5) (T.obj _ _ st5);refine wpAny_assign_Name (sV I5' YN Yx (.inl Yl) r5 (fun s6 I6=>?_) (.inr Yl))
     have es6:(σ++[v]).set σ.length (some xv)=σ++[some xv]:=by rw[Yc _ _ (Qf _),VS];rfl
     rw[es6] at I6;have E5:Ext Hi2 H2 Hi5 H5:=e3.trans e5;have R5:lP (cxC X x scope HP.objs.size s2 H2 fp) ⟨G.B,G.Bi,fun _ _=>False⟩ Hi5 H5 (σ++[some xv]) (ρ++[.val d]):=Rel.snoc (R2.grow E5) rd5
     obtain⟨hD5,hiD5⟩:=e5.out hD3 hiD3;have rd5':=rd3.mono e5.i
     have again:∀ {H8 Hi8:Hp} {ys':List V} {done' rest':List D} {s8:Shared},Inv (cxC X x scope HP.objs.size s2 H2 fp) (pins++uP fp s5.heap) (σ++[some xv]) H8 s8->Ext Hi2 H2 Hi8 H8->H8 s2.heap.objs.size=some (.lst ys')->Hi8 s2.heap.objs.size=none->IsDs X.K Hi8 ys' done'->done'.length<=i+1->
       hG t f ρ (ds.drop (i+1))=.ok rest'->es=done'++rest'->∃ m,m<ds.length-i/\∃ c:CW,m=ds.length-c.i/\CS (cxC X x scope HP.objs.size s2 H2 fp) pins σ tn fp Hi2 H2 s2.heap.objs.size 1 (fun i=>hG t f ρ (ds.drop i)) es c s8:=fun {H8 Hi8 ys' done' rest' s8} I8 E8 a1 a2 a3 a4 a5 a6=>by
      refine⟨ds.length-(i+1),by omega,⟨i+1,[some xv],H8,Hi8,ys',done',rest'⟩,rfl,⟨I8.unpinned,rfl,T.keep _ _ _ st5 fun b hb o e=>(I8.pin (b,o) (QA _ (QA _ (fI hb e)))).1,fun b hb=>?_,E8,a1,a2,a3,a4,a5,a6⟩⟩
      obtain⟨o,e,_⟩:=T.obj _ _ st5 b hb;exact(I8.pin (b,o) (QA _ (QA _ (fI hb e)))).2.1
     rcases zFf hr3 with⟨ht,hr4⟩ | ⟨ht,e,es',hf,hr4,hee⟩
     ·refine lift (thn (hts _ s6 _ H5 (fun b H'=>b=false/\∃ Hi',Ext Hi5 H5 Hi' H') I6 ⟨_,Hi5,R5,by rw[ht];exact fun Hi' H' e=>⟨rfl,Hi',e⟩⟩) fun b s7 h7=>?_)
      obtain⟨H7,I7,rfl,Hi7,e7⟩:=h7;obtain⟨hD7,hiD7⟩:=e7.out hD5 hiD5;exact again I7 (E5.trans e7) hD7 hiD7 (rd5'.mono e7.i) (by omega) hr4 hes3
     ·refine lift (thn (hts _ s6 _ H5 (fun b H'=>b=true/\∃ Hi',Ext Hi5 H5 Hi' H') I6 ⟨_,Hi5,R5,by rw[ht];exact fun Hi' H' e=>⟨rfl,Hi',e⟩⟩) fun b s7 h7=>?_)
      obtain⟨H7,I7,rfl,Hi7,e7⟩:=h7;obtain⟨hD7,hiD7⟩:=e7.out hD5 hiD5;simp only[if_true];refine lift (thn (hel _ s7 _ H7 (fun w H'=>∃ Hi',Ext Hi7 H7 Hi' H'/\IsD X.K Hi' w e) I7 ⟨_,Hi7,R5.grow e7,by rw[hf];exact fun Hi' H' ee w hw=>⟨Hi',ee,hw⟩⟩) fun u8 s8 h8=>?_)
      obtain⟨w8,H8,I8,r8,Hi8,e8,rw8⟩:=h8;obtain⟨hD8,hiD8⟩:=e8.out hD7 hiD7;have rdy:IsDs X.K Hi8 ys done:=(rd5'.mono e7.i).mono e8.i;refine lift (thn (uH (X:=(cxC X x scope HP.objs.size s2 H2 fp)) _ s8 _ H8 (.ref s2.heap.objs.size) [w8] (.ref s2.heap.objs.size) [u8] (fun _ H'=>H'=upd H8 s2.heap.objs.size (.lst (ys++[w8]))) I8 rfl (.cons r8 .nil) ⟨_,ys,w8,rfl,rfl,hD8,?_,rfl⟩) fun _ s9 h9=>?_)
      ·rw[rdy.length]
       exact Vu hl3 (Qs hlt (Qv hlen (by decide)))
      ·obtain⟨_,H9,I9,_,rfl⟩:=h9
       refine again I9 (Ext.rewrite ((E5.trans e7).trans e8) H2D hiD8 ⟨_,hD8⟩) aY hiD8 (rdy.snoc rw8) (by rw[Qi];exact X2 hl3) hr4 ?_
       rw[hes3,hee,Q4];rfl
    ·rw[Xq (by omega),hG] at hr3
     cases hr3;refine thn (T.done (cxC X x scope HP.objs.size s2 H2 fp) rfl rfl rfl hc.1 i pins s3 _ H3 _ I3 (stat fr3) st3 (w1 (by omega))) fun r s4 ⟨hrn,I4⟩=>?_
     subst hrn;obtain⟨m4,hn4,_⟩:=I4.loc;have fC:H3 HP.objs.size=none:=I4.free;have nC:∀ b u,H3 b=some u->b≠HP.objs.size:=fun b u e z=>by rw[z,fC] at e;cases e
     have U4:=I4.base;refine hend HP.objs.size s2.heap.objs.size m4 s4 H3 hn4 (fun h' hs'=>?_) (I2.fpOk (by rw[hC];omega) fC) ?_
     ·have kp:∀ b o,b≠HP.objs.size->s4.heap.get? b=some o->h'.get? b=some o:=fun b o hb e=>hs'.extBut b o hb e
      refine Inv.call' I2 (ch:=fp) I4.os ⟨fun b o e n hb hx=>kp b o (ltC e) (U4.keep b o e n hb hx),fun b o e n hb hx=>?_,U4.free,fun b o e hx=>?_,U4.tups,U4.frzs,U4.tbls⟩ (fun b u e=>?_) I4.bare (fun b hb=>⟨(f2 b hb).2.2.2.1,(f2 b hb).2.1,(f2 b hb).2.2.2.2.1,(f2 b hb).2.2.2.2.2⟩)
      ·obtain⟨sl,q⟩:=U4.slot b o e n hb hx
       exact⟨sl,kp b _ (ltC e) q⟩
      ·obtain⟨o',q⟩:=U4.there b o e hx
       exact⟨o',kp b _ (ltC e) q⟩
      ·refine(I4.hok b u e).stay (fun c v hc q=>kp c v ?_ q) (fun _ q=>q) fun _ _ q=>q
       rcases hc with z | z
       ·rw[z];exact nC b u e
       ·exact nC c _ z
     ·refine ou2 Hi3 H3 e3 _ ⟨HD,hiD3,ys,hD3,?_⟩
      rw[hes3,QW];exact rd3
  rw[Ye] at loop;exact codeAny_compStart_list (loop _ rfl) (T.self _ 0 _ _ _ tn1 (loop _ rfl))
theorem zLY(hc:X.calm=true/\TB X.K X.mg G.Bi G.B)(hr:Room k X.A)(Bk:BlkOk X x scope)(hN:X.N.Nodup)(h0:("" : Str)∉X.N)(hx0:x≠("" : Str))(hi:PId X G (.Name x px) iter it)
  (hb:∀(C:Addr)(s₂:Shared)(H₂:Hp)(fp:List Addr)(G':Gx),Good (cxC X x scope C s₂ H₂ fp) G' k->PTs (cxC X x scope C s₂ H₂ fp) G' ifs t/\PEd (cxC X x scope C s₂ H₂ fp) G' elt f)
  (hs:∀ x,foldedSetIterable iter X.env x=pure x:=by intro _;rfl):PEf X G (.ListComp elt [⟨.Name x px,iter,ifs,0⟩] scope pos) (jR it t f):=by
 intro pins s σ H Q I w;obtain⟨ρ,Hi,R,ou⟩:=w;rw[eval_ListComp];refine zCr hc hr Bk hN h0 hx0 hi hb hs (use:=none) (Qa:=fun a H'=>Q (.ref a) H') I R ou fun C A m s4 H3 hn hI _ q=>?_
 exact⟨m,hn,fun h' hs'=>⟨.ref A,H3,hI h' hs',rfl,q⟩⟩
def PC(X:Cx)(e:Expr)(t:TE):Prop:=∀(pins:List (Addr×Obj))(s:Shared)(σ:St)(H:Hp)(Q:VK),Inv X pins σ H s->t σ H Q->∀(u:Value->Sem Unit)(Q':Unit->Shared->Prop),
 (∀(C:Addr)(m:Str->Option Value)(s4:Shared)(v:V)(w:Value)(H3:Hp),s4.heap.Ns C m->(∀ h',Heap.SameBut C s4.heap h'->Inv X pins σ H3 { s4 with heap:=h' })->sL X pins H3 C->cV v w->Q v H3->
  wpAny (model X.prog X.w) X.A (u w) (fun _ s''=>∃ m,s''.heap.Ns C m/\∀ h',Heap.SameBut C s''.heap h'->Q' () { s'' with heap:=h' }) X.xe s4)->wpAny (model X.prog X.w) X.A (evalThenUse e X.env u) Q' X.xe s
theorem PC.wk{X:Cx}{e:Expr}{t t':TE}(h:PC X e t)(w:∀ σ H Q,t' σ H Q->t σ H Q):PC X e t':=fun pins s σ H Q I q=>h pins s σ H Q I (w σ H Q q)
@[irreducible] def PCd (X:Cx) (G:Gx) (e:Expr) (f:Ev):Prop:=PC X e (tD X G f)
unseal PCd
@[irreducible] def PCf (X:Cx) (G:Gx) (e:Expr) (f:Fv):Prop:=PC X e (tF X G f)
unseal PCf
theorem zNA(hc:X.calm=true/\TB X.K X.mg G.Bi G.B)(hr:Room k X.A)(Bk:BlkOk X x scope)(hN:X.N.Nodup)(h0:("" : Str)∉X.N)(hx0:x≠("" : Str))(hi:PId X G (.Name x px) iter it)
  (hb:∀(C:Addr)(s₂:Shared)(H₂:Hp)(fp:List Addr)(G':Gx),Good (cxC X x scope C s₂ H₂ fp) G' k->PTs (cxC X x scope C s₂ H₂ fp) G' ifs t/\PEd (cxC X x scope C s₂ H₂ fp) G' elt f)
  (hs:∀ x,foldedSetIterable iter X.env x=pure x:=by intro _;rfl):PCf X G (.ListComp elt [⟨.Name x px,iter,ifs,0⟩] scope pos) (jR it t f):=by
 intro pins s σ H Q I w u Q' hend;obtain⟨ρ,Hi,R,ou⟩:=w;rw[arm_evalThenUse_ListComp];refine wpAny_bind (zCr hc hr Bk hN h0 hx0 hi hb hs (use:=some u) (Q':=fun _ s=>wpAny (model X.prog X.w) X.A (pure ()) Q' X.xe s) (Qa:=fun a H'=>Q (.ref a) H') I R ou fun C A m s4 H3 hn hI fo q=>?_)
 refine thn (hend C m s4 (.ref A) (.ref A) H3 hn hI fo rfl q) fun _ s5 h5=>?_
 obtain⟨m5,hn5,h5⟩:=h5;exact⟨m5,hn5,fun h' hs'=>wpAny_pure (h5 h' hs')⟩
theorem PCf.d(h:PCf X G e fs):PCd X G e (eF fs):=PC.wk h fun σ H Q q=>by
 obtain⟨ρ,Hi,R,ou⟩:=q;refine⟨ρ,Hi,R,?_⟩
 cases z:fs ρ with
 | no=>unfold eF at ou;rw[z] at ou;exact ou
 | err c=>unfold eF at ou;rw[z] at ou;exact ou
 | ok ds=>
  unfold eF at ou;rw[z] at ou
  intro Hi1 H1 e1 a n;obtain⟨n1,n2,xs,n3,n4⟩:=n;have o2:∀ Hi' H',Ext Hi H Hi' H'->∀ v,IsD X.K Hi' v (.lst ds)->Q v H':=ou;exact o2 _ _ (e1.hold n1 n3 n2) (.ref a) (.lst (SqL.of aY) (n4.mono (dA n2 _)))
theorem zNL{i:Nat}{y:Str}{e:Expr}{te:TE}{pos' pos:Pos}(hN:X.N.Nodup)(hi:X.N[i]?=some y)(hx:Loc X.env.scope y)(he:PC X e te)(hs:swapsWith e (some (.Name y pos')) pos.line X.env=pure true)
  (hf:X.fn y=true∨X.env.scope.names.lookup y=some .local):PS X (.Assign [.Name y pos'] e pos) (zRG te (L2.gName i)):=by
 intro pins s σ H E I h;rw[exec_Assign_Name_used _ _ _ _ hs];refine wpAny_bind (wpAny_standAt (wpAny_bind ?_))
 refine he pins s σ H _ I h _ _ fun C m s4 v w H3 hn hI fo r q=>?_
 have I4:Inv X pins σ H3 s4:=hI s4.heap (Heap.SameBut.refl _ _);refine wpAny_assign_Name (zCB I4 hN hi hx r (fun s5 I5 sb=>?_) hf)
 obtain⟨a,sb,ha⟩:=sb
 have aC:C≠a:=by
  rcases ha with rfl | ha
  ·exact fo.2.1
  ·exact fun z=>fo.2.2.2.2.1 y a ha z.symm
 refine⟨m,hn.sameBut sb aC,fun h' hs'=>wpAny_pure ?_⟩
 have fC:=fo.1;have nC:∀ b u,H3 b=some u->b≠C:=fun b u e z=>by rw[z,fC] at e;cases e
 have kp:∀ b o,b≠C->s5.heap.get? b=some o->h'.get? b=some o:=fun b o hb e=>hs'.extBut b o hb e
 refine⟨σ.set i (some v),H3,?_,q⟩
 refine Inv.call' I5 (ch:=[C]) rfl ⟨fun b o e n hb hx=>kp b o (by simpa using hx) e,fun b o e n hb hx=>⟨o.slots,kp b _ (by simpa using hx) e⟩,fun b o e n hx=>n,fun b o e hx=>⟨o,kp b _ (by simpa using hx) e⟩,fun _ _ q=>q,fun _ _ _ q=>q,fun _ ps q=>⟨#[],by simpa using q⟩⟩ (fun b u e=>?_) I5.bare (fun b hb=>?_)
 ·refine(I5.hok b u e).stay (fun c v hc q=>kp c v ?_ q) (fun _ q=>q) fun _ _ q=>q
  rcases hc with z | z
  ·rw[z];exact nC b u e
  ·exact nC c _ z
 ·have e:b=C:=by simpa using hb
  subst e;exact⟨fo.2.2.2.1,fo.2.1,fo.2.2.2.2.1,fo.2.2.2.2.2⟩
theorem zIq{i:Nat}{y:Str}{e:Expr}{f:Ev}{pos' pos:Pos}(hN:X.N.Nodup)(hi:X.N[i]?=some y)(hx:Loc X.env.scope y)(he:PCd X G e f)(hs:swapsWith e (some (.Name y pos')) pos.line X.env=pure true)
  (hf:X.fn y=true∨X.env.scope.names.lookup y=some .local:=by first | exact .inl rfl | exact .inr rfl | assumption):PSd X G (.Assign [.Name y pos'] e pos) (cZ i f):=PS.wk (zNL hN hi hx he hs hf) fun E σ H q=>by
 obtain⟨ρ,Hi,R,h⟩:=q;exact⟨ρ,Hi,R,mU R h fun d Hi' H' _ e h' v r=>h' _ Hi' H' (Same.refl _) ((R.grow e).set r)⟩
end
end L3
namespace L3
open PySem PySem.Spec PyProof.Rows L2
unseal PEd PEf PTd PWd PAd PSd eX POd PGd iW PId PSx nU PTs PCd PCf
def zQN(sc:Scope)(N:List Str)(x:Str)(scope:Scope):Bool:=
 scope.names.all (fun y=>y.2 != .cell) && scope.names.lookup x==some .local && scope.names.all (fun y=>y.2 != .local || scope.names.lookup y.1==some .local)
  && scope.names.all (fun p=>p.2 != .free || (sc.names.lookup p.1==some .cell || sc.names.lookup p.1==some .free)) && N.all (fun y=>y==x || scope.names.lookup y != some .local) && (scope.names.lookup ("" : Str)).isNone && !N.contains ("" : Str) && x != ("" : Str)
section
variable{X:Cx}{G:Gx}{elt iter:Expr}{x:Str}{px pos:Pos}{ifs:List Expr}{scope sc:Scope}{it:Fv}{t:Tv}{f:Ev}{k:Nat}{N:List Str}
theorem zLt(hk:scope.kind=.function)(hsc:X.env.scope=sc)(hN:X.N=N)(h:zQN sc N x scope=true):BlkOk X x scope/\("" : Str)∉X.N/\x≠("" : Str):=by
 unfold zQN at h;simp only[Q8] at h;obtain⟨⟨⟨⟨⟨⟨⟨h1,h2⟩,h3⟩,h4⟩,h5⟩,h6⟩,h7⟩,h8⟩:=h;subst hN hsc;refine⟨⟨hk,fun y hy e=>?_,beq_iff_eq.mp h2,fun y hy e=>?_,fun p hp e=>?_,fun y hy hne e=>?_,?_⟩,fun z=>?_,fun z=>?_⟩
 ·have:=Vp.mp h1 y hy
  rw[e] at this;cases this
 ·have:=Vp.mp h3 y hy
  rw[e] at this;simpa using this
 ·have:=Vp.mp h4 p hp
  rw[e] at this;have q:X.env.scope.names.lookup p.1=some .cell∨X.env.scope.names.lookup p.1=some .free:=by simpa using this
  exact q
 ·have:=Vp.mp h5 y hy
  rw[e] at this;simp[hne] at this
 ·simpa using h6
 ·have:X.N.contains ("" : Str)=true:=by simpa using z
  rw[this] at h7;cases h7
 ·rw[z] at h8;simp at h8
theorem fM(W:Good X G k)(hnd:N.Nodup)(hk:scope.kind=.function)(hsc:X.env.scope=sc)(hN:X.N=N)(h:zQN sc N x scope=true)(hi:PId X G (.Name x px) iter it)
  (hb:∀(C:Addr)(s₂:Shared)(H₂:Hp)(fp:List Addr)(G':Gx),Good (cxC X x scope C s₂ H₂ fp) G' k->PTs (cxC X x scope C s₂ H₂ fp) G' ifs t/\PEd (cxC X x scope C s₂ H₂ fp) G' elt f)
  (hs:∀ x,foldedSetIterable iter X.env x=pure x:=by intro _;rfl):PEf X G (.ListComp elt [⟨.Name x px,iter,ifs,0⟩] scope pos) (jR it t f):=by
 obtain⟨b,h0,hx⟩:=zLt hk hsc hN h;exact zLY ⟨W.calm,W.tb⟩ W.room b (hN ▸ hnd) h0 hx hi hb hs
theorem zAb(W:Good X G k)(hnd:N.Nodup)(hk:scope.kind=.function)(hsc:X.env.scope=sc)(hN:X.N=N)(h:zQN sc N x scope=true)(hi:PId X G (.Name x px) iter it)
  (hb:∀(C:Addr)(s₂:Shared)(H₂:Hp)(fp:List Addr)(G':Gx),Good (cxC X x scope C s₂ H₂ fp) G' k->PTs (cxC X x scope C s₂ H₂ fp) G' ifs t/\PEd (cxC X x scope C s₂ H₂ fp) G' elt f)
  (hs:∀ x,foldedSetIterable iter X.env x=pure x:=by intro _;rfl):PCf X G (.ListComp elt [⟨.Name x px,iter,ifs,0⟩] scope pos) (jR it t f):=by
 obtain⟨b,h0,hx⟩:=zLt hk hsc hN h;exact zNA ⟨W.calm,W.tb⟩ W.room b (hN ▸ hnd) h0 hx hi hb hs
end
section
variable{X:Cx}{G:Gx}{a b:Expr}{pos:Pos}{f:Fv}{g:Ev}
theorem IsDs.rep{K:Fg_}{H:Hp}{xs:List V}{ds:List D}(h:IsDs K H xs ds):∀ n:Nat,IsDs K H (List.replicate n xs).flatten (List.replicate n ds).flatten
 | 0=>.nil
 | n+1=>by
  rw[VA,VA,VN,VN];exact h.append (IsDs.rep h n)
theorem zEC(ha:PEf X G a f)(hb:PEd X G b g):PEf X G (.BinOp a .Mult b pos) (zMb f g):=PE.wk (zIv zPl ha hb) fun σ H Q q=>by
 obtain⟨ρ,Hi,R,ou⟩:=q;refine⟨ρ,Hi,R,(Out.bind ou).imp fun ds Hi1 H1 e1 o1 l nl=>?_⟩
 refine⟨ρ,Hi1,R.grow e1,(Out.bind o1).imp fun d Hi2 H2 e2 o2 v rv=>?_⟩
 cases d<;>first | exact o2.elim | skip
 rename_i k
 obtain⟨n1,n2,xs,n3,n4⟩:=nl;have o2':Out G Hi2 H2 (if 0<=k/\k<2^62/\ds.length*k.toNat<=16777216 then Res.ok (List.replicate k.toNat ds).flatten else .no) _:=o2;by_cases hz:0<=k/\k<2^62/\ds.length*k.toNat<=16777216
 ·rw[if_pos hz] at o2'
  refine⟨l,k,xs,rfl,rv.intI,e2.h.at n3,by omega,by omega,by rw[n4.length];exact hz.2.2,fun p hp=>?_⟩
  exact o2' _ _ (Ext.newF e2.s hp) p ⟨(e1.h.trans e2.h).none hp,e2.s.none hp,_,aY,(n4.mono e2.i).rep _⟩
 ·rw[if_neg hz] at o2';exact o2'.elim
end
section
variable{es r:List Expr}{a b f:Expr}{k:Nat}{p:Pos}{x:Str}{c:Const}{env:Env}
theorem zKc:starEach (.Tuple es k p::r) env=(false,eval (.Tuple es k p) env)::starEach r env:=rfl
theorem zDV:starEach (.List es p::r) env=(false,eval (.List es p) env)::starEach r env:=rfl
theorem bT{o:Operator}:starEach (.BinOp a o b p::r) env=(false,eval (.BinOp a o b p) env)::starEach r env:=rfl
theorem aX:starEach (.Subscript a b p::r) env=(false,eval (.Subscript a b p) env)::starEach r env:=rfl
theorem aB:starEach (.Name x p::r) env=(false,eval (.Name x p) env)::starEach r env:=rfl
theorem cN:starEach (.Constant c k p::r) env=(false,eval (.Constant c k p) env)::starEach r env:=rfl
theorem aL{ks:List Keyword}:starEach (.Call f es ks p::r) env=(false,eval (.Call f es ks p) env)::starEach r env:=rfl
end
section
variable{X:Cx}{G:Gx}{e st:Expr}{te tk:TE}{lo hi:Option Expr}{tl th:TO}{pos p2:Pos}{f g:Ev}{l h:Ov}
end
end L3
set_option maxRecDepth 100000
namespace L3
open PySem PySem.Spec PyProof.Rows L2
section
variable{prog:Program}{w:World}{A:Around}{E:Value->Shared->Prop}{s:Shared}
end
theorem zJw:bootBuiltins "reversed" = some (.type "reversed"):=by first | rfl | decide +kernel
section
unseal PEd PEf PTd PWd PAd PSd eX POd PGd iW PId PSx nU PTs PCd PCf
variable{X:Cx}{G:Gx}{fs:Fv}{f:Ev}
end
end L3
namespace L3
open PySem PySem.Spec PyProof.Rows L2
unseal PEd PEf PTd PWd PAd PSd eX POd PGd iW PId PSx nU PTs PCd PCf
section
variable{X:Cx}{G:Gx}
def zRV(K:PySem.W.Frag):List V->Hp->VK->Prop:=fun xs H Q=>∃(a:Addr)(ns:List Int),xs=[.ref a]/\(SqL K H a (ns.map V.int)∨SqT K H a (ns.map V.int))/\Q (.int ns.sum) H
theorem uJ(ns:List Int):∀ j,preSum (fun i=>ns.getD i 0) j=(ns.take j).sum
 | 0=>by rw[Yd];rfl
 | j+1=>by
  rw[preSum,uJ ns j,XZ];rw[QB]
  cases ns[j]? with
  | none=>simp
  | some x=>simp
theorem qS{ns:List Int}{its:List Value}(r:dN (ns.map V.int) its){i:Nat}{v:Value}(h:its[i]?=some v):∃ t,v=.int (ns.getD i 0) t:=by
 have hl:=r.length;rw[Qd] at hl;have hi:=(Qz.mp h).1
 have hx:(ns.map V.int)[i]?=some (.int (ns.getD i 0)):=by
  rw[Qr,QB,Qu (by omega)];rfl
 obtain⟨u,hu,ru⟩:=r.get hx;rw[h] at hu;cases hu;exact ru
theorem jM(hc:X.calm=true):vA X (.builtin "sum") (zRV X.K):=by
 intro pins s σ H xs us Q I r h;obtain⟨a,ns,rfl,hq,q⟩:=h;obtain⟨u,rfl,ru⟩:=r.one;cases ru;have hh:=I.ok.hd hc;rcases hq with hq | hq
 ·obtain⟨its,rv,p,hz⟩:=I.list hq
  have hlt:a<s.heap.objs.size:=by obtain⟨_,e,_⟩:=p.isList;exact Heap.lt_size e
  have hl:=rv.length;rw[Qd] at hl;refine call_sum_walkG (wpAny_pyIter_list p.isList ?_)
  refine⟨s.heap.objs.size,_,_,_,_,_,fun i=>ns.getD i 0,rfl,Walks.list (A:=X.A.in1) hh s.heap.objs.size a (Qt hlt) its.toArray,⟨⟨_,Heap.get?_push_size _ rfl,rfl,rfl⟩,p.isList.push _⟩,fun b hb=>?_,fun i v hv=>qS rv (by simpa using hv),fun h' tk t' hk=>?_⟩
  ·show b<(s.heap.push _).objs.size
   rw[Heap.size_push];rcases Qe.mp hb with rfl | hb
   ·exact Va _
   ·rcases Qe.mp hb with rfl | hb
    ·exact Vw hlt
    ·cases hb
  ·refine⟨.int ns.sum,H,I.kept (t':=tk) fun b o e=>hk b o (fun z=>?_) (Heap.get?_push_of_some _ e),⟨t',?_⟩,q⟩
   ·have z':b=s.heap.objs.size:=by simpa using z
    have l:=Heap.lt_size e;rw[z'] at l;exact Q3 _ l
   ·rw[Ql,<-hl,uJ,Q9]
 ·obtain⟨its,rv,p,hz⟩:=I.tuple hq
  have p':s.heap.IsTuple a its.toArray:=p;have hlt:a<s.heap.objs.size:=by obtain⟨_,e,_⟩:=p';exact Heap.lt_size e
  have hl:=rv.length;rw[Qd] at hl;refine call_sum_walkG (wpAny_pyIter_tuple p' ?_)
  refine⟨s.heap.objs.size,_,_,_,_,_,fun i=>ns.getD i 0,rfl,Walks.tuple (A:=X.A.in1) hh s.heap.objs.size a (Qt hlt) its.toArray,⟨⟨_,Heap.get?_push_size _ rfl,rfl,rfl⟩,p'.push _⟩,fun b hb=>?_,fun i v hv=>qS rv (by simpa using hv),fun h' tk t' hk=>?_⟩
  ·show b<(s.heap.push _).objs.size
   rw[Heap.size_push];rcases Qe.mp hb with rfl | hb
   ·exact Va _
   ·rcases Qe.mp hb with rfl | hb
    ·exact Vw hlt
    ·cases hb
  ·refine⟨.int ns.sum,H,I.kept (t':=tk) fun b o e=>hk b o (fun z=>?_) (Heap.get?_push_of_some _ e),⟨t',?_⟩,q⟩
   ·have z':b=s.heap.objs.size:=by simpa using z
    have l:=Heap.lt_size e;rw[z'] at l;exact Q3 _ l
   ·rw[Ql,<-hl,uJ,Q9]
theorem iJ{K:Fg_}{H:Hp}:∀ {xs:List V} {ds:List D} {ns:List Int},IsDs K H xs ds->jX ds=some ns->xs=ns.map V.int
 | _,_,ns,.nil,h=>by cases h;rfl
 | _,_,ns,.cons (d:=d) (ds:=ds) r rs,h=>by
  cases d with
  | int i=>
   rw[jX] at h
   cases z:jX ds with
   | none=>rw[z] at h;cases h
   | some ms=>
    rw[z] at h;cases h;rw[r.intI,iJ rs z];rfl
  | _=>cases h
theorem rV:wO X (zRV X.K) zBR:=⟨fun a c z=>(by
  unfold zBR at z;split at z
  ·split at z<;>cases z
  ·split at z<;>cases z
  ·cases z),fun Hi H vs ds d Q s r z q=>by
  unfold zBR at z;split at z
  ·split at z
   ·rename_i ns hns
    cases z;obtain⟨v,rfl,h⟩:=r.one;obtain⟨a,xs,rfl,h1,h2⟩:=h.lstI;have e:=iJ h2 hns;subst e;exact⟨a,ns,rfl,.inl (cK s h1),q _ Hi H (Ext.refl s) (.int _)⟩
   ·cases z
  ·split at z
   ·rename_i ns hns
    cases z;obtain⟨v,rfl,h⟩:=r.one;obtain⟨a,xs,rfl,h1,h2⟩:=h.tupI;have e:=iJ h2 hns;subst e;exact⟨a,ns,rfl,.inr (cJ s h1),q _ Hi H (Ext.refl s) (.int _)⟩
   ·cases z
  ·cases z⟩
theorem gQ:bootBuiltins "sum" = some (.builtin "sum"):=by first | rfl | decide +kernel
end
section
variable{prog:Program}{w:World}{A:Around}{E:Value->Shared->Prop}{s:Shared}
end
section
variable{X:Cx}{G:Gx}{es:List Expr}{pos:Pos}
end
theorem ln0{α:Type}{us:List α}(h:us.length=0):us=[]:=Xs h
theorem ln1{α:Type}{us:List α}(h:us.length=1):∃ a0:α,us=[a0]:=by
 cases us with
 | nil=>cases h
 | cons a r=>
  cases ln0 (Xx h)
  exact⟨a,rfl⟩
theorem ln2{α:Type}{us:List α}(h:us.length=2):∃ a0 a1:α,us=[a0,a1]:=by
 cases us with
 | nil=>cases h
 | cons a r=>
  obtain⟨a1,rfl⟩:=ln1 (Xx h);exact⟨a,a1,rfl⟩
theorem ln3{α:Type}{us:List α}(h:us.length=3):∃ a0 a1 a2:α,us=[a0,a1,a2]:=by
 cases us with
 | nil=>cases h
 | cons a r=>
  obtain⟨a1,a2,rfl⟩:=ln2 (Xx h);exact⟨a,a1,a2,rfl⟩
theorem ln4{α:Type}{us:List α}(h:us.length=4):∃ a0 a1 a2 a3:α,us=[a0,a1,a2,a3]:=by
 cases us with
 | nil=>cases h
 | cons a r=>
  obtain⟨a1,a2,a3,rfl⟩:=ln3 (Xx h);exact⟨a,a1,a2,a3,rfl⟩
section
variable{X:Cx}{G:Gx}{a b c e:Expr}{pos p2:Pos}{f g h:Ev}{fs:Fv}{lo hi:Option Expr}{l u:Ov}
end
section
variable{X:Cx}{G:Gx}{a b c e:Expr}{pos p2 p:Pos}{f g h:Ev}{fs:Fv}{x:Str}
theorem zDn{bl:List Stmt}:eX X G bl sNo:=fun pins s σ H E I q=>by
 obtain⟨ρ,Hi,R,ou⟩:=q;exact ou.elim
def zJQ(T:List (Str×Str)):List (Str×KTD.Dat):=T.map fun q=>(q.1,.flat (.str q.2))
structure IsTab (K:PySem.W.Frag) (mg:Str->Option Value) (x:Str) (T:List (Str×Str)) (a:Addr):Prop where
 mg:mg x=some (.ref a)
 tab:∀ h:Heap,K.In h->KTD.TextTab h a (zJQ T)
theorem zHl(k:Str):∀ T:List (Str×Str),KTD.datumAt k (zJQ T)=(T.lookup k).map fun y=>.flat (.str y)
 | []=>rfl
 | (x,y)::r=>by
  show(if decide (k=x)=true then some (KTD.Dat.flat (.str y)) else KTD.datumAt k (zJQ r))=_
  rw[Vj];by_cases hx:k=x
  ·rw[if_pos (decide_eq_true hx),show(k==x)=true from beq_iff_eq.mpr hx];rfl
  ·rw[if_neg (by simp[hx]),show(k==x)=false from beq_eq_false_iff_ne.mpr hx];exact zHl k r
theorem zHt(k:Str)(T:List (Str×Str)):KTD.inKeys k (zJQ T)=(T.lookup k).isSome:=by
 rw[<-KTD.isSome_datumAt,zHl,Option.isSome_map]
theorem zLm{T:List (Str×Str)}{ad:Addr}(t:IsTab X.K X.mg x T ad)(hg:Gl X x)(hd:(x==("__debug__" : Str))=false:=by decide):PE X (.Name x p) (tC (.ref ad)):=zIK hg t.mg rfl hd
theorem zIr{T:List (Str×Str)}{ad:Addr}(t:IsTab X.K X.mg x T ad):OpR X (compareOp .NotIn) (fun v y H Q=>∃ k,v=.str k/\y=.ref ad/\Q (.bl (!(T.lookup k).isSome)) H):=by
 intro pins s σ H v y u w Q I rx ry h;obtain⟨k,rfl,rfl,q⟩:=h;obtain⟨tk,rfl⟩:=rx;cases ry;refine KTD.notin_text ⟨t.tab s.heap I.kIn,fun _ _ e=>e⟩ ?_
 rw[zHt];exact⟨.bl _,H,I.tok _,rfl,q⟩
theorem zBl{h₀:Heap}{k:Str}{P:Value->Prop}:∀ {T:List (Str×Str)},(∀ z t,T.lookup k=some z->P (.str z t))->KTD.EachL h₀ k P (zJQ T)
 | [],_=>trivial
 | [(x,y)],hP=>fun hk t=>hP y t (by rw[Vj,show(k==x)=true from beq_iff_eq.mpr hk])
 | (x,y)::q::r,hP=>by
  show if decide (k=x)=true then KTD.Opened h₀ P (.flat (.str y)) else KTD.EachL h₀ k P (zJQ (q::r))
  by_cases hk:k=x
  ·rw[if_pos (decide_eq_true hk)]
   exact fun t=>hP y t (by rw[Vj,show(k==x)=true from beq_iff_eq.mpr hk])
  ·rw[if_neg (by simp[hk])]
   exact zBl fun z t hz=>hP z t (by rw[Vj,show(k==x)=false from beq_eq_false_iff_ne.mpr hk];exact hz)
theorem zIm(T:List (Str×Str)):((zJQ T).all fun q=>KTD.plain q.2)=true:=by
 unfold zJQ;rw[List.all_map];exact Vp.mpr fun _ _=>rfl
theorem zQs{T:List (Str×Str)}{ad:Addr}(t:IsTab X.K X.mg x T ad):IxR X (fun v y H Q=>∃ k z,v=.ref ad/\y=.str k/\T.lookup k=some z/\Q (.str z) H):=by
 intro value slice pins s σ H v y u w Q I rx ry h hs;obtain⟨k,z,rfl,rfl,hk,q⟩:=h;cases rx;obtain⟨tk,rfl⟩:=ry;refine KTD.item_textA ⟨t.tab s.heap I.kIn,fun _ _ e=>e⟩ (zIm T) (by rw[zHt,hk];rfl) ?_ hs
 refine zBl fun z' t' hz=>?_
 rw[hk] at hz;cases hz;exact⟨.str _,H,I.tok _,⟨_,rfl⟩,q⟩
theorem unT{o:D->Res D}{r:R2}{y:V}(hr:∀ (Hi H:Hp) (v:V) (d:D) (Q:VK),IsD X.K Hi v d->Same Hi H->(∃ d',o d=.ok d'/\(∀ w Hi' H',Ext Hi H Hi' H'->IsD X.K Hi' w d'->Q w H'))->r v y H Q)
  (he:∀ d c,o d≠.err c):∀ σ H Q,tD X G (eUn o f) σ H Q->tOp r (tD X G f) (tC y) σ H Q:=fun σ H Q q=>by
 obtain⟨ρ,Hi,R,ou⟩:=q;refine zFW R ou fun v d Hi1 H1 e1 R1 r1 o1=>?_
 cases z:o d with
 | no=>rw[z] at o1;exact o1.elim
 | err c=>exact absurd z (he d c)
 | ok d'=>rw[z] at o1;exact hr Hi1 H1 v d Q r1 R1.s ⟨d',z,fun w Hi' H' e1 r1=>o1 Hi' H' e1 w r1⟩
theorem zQF{T:List (Str×Str)}{ad:Addr}:∀ σ H Q,tD X G (eUn (rD T) f) σ H Q->tOp (fun v y H Q=>∃ k,v=.str k/\y=.ref ad/\Q (.bl (!(T.lookup k).isSome)) H) (tD X G f) (tC (.ref ad)) σ H Q:=
 unT (fun Hi H v d Q r s h=>by
  obtain⟨d',z,q⟩:=h;unfold rD at z;split at z
  ·cases z;exact⟨_,r.strI,rfl,q _ Hi H (Ext.refl s) (.bl _)⟩
  ·cases z) fun d c z=>by unfold rD at z;split at z<;>cases z
theorem zOP{op:CmpOp}{o:D->Res D}{r:R2}{y:V}(hp:PT X (.Compare a [op] [b] pos) (zQH (tOp r (tD X G f) (tC y))))(hu:∀ σ H Q,tD X G (eUn o f) σ H Q->tOp r (tD X G f) (tC y) σ H Q):PTd X G (.Compare a [op] [b] pos) (dY (eUn o f)):=
 PT.wk hp fun σ H Q q=>by
  obtain⟨ρ,Hi,R,ou⟩:=q;refine hu σ H _ ⟨ρ,Hi,R,ou.bind.imp fun d Hi' H' e o v r=>?_⟩
  cases d with
  | bl c=>rw[r.blI];exact⟨c,rfl,o.here e.s⟩
  | _=>exact o.elim
theorem zJK{T:List (Str×Str)}{ad:Addr}(t:IsTab X.K X.mg x T ad)(hg:Gl X x)(ha:PEd X G a f)(hm:behindInMarks .NotIn (.Name x p)=false)(hd:(x==("__debug__" : Str))=false:=by decide):PTd X G (.Compare a [.NotIn] [.Name x p] pos) (dY (eUn (rD T) f)):=
 zOP (zHr (zIr t) ha (zLm t hg hd) hm) zQF
theorem zLA{T:List (Str×Str)}{ad:Addr}(t:IsTab X.K X.mg x T ad)(hg:Gl X x)(hb:PEd X G b g)(hs:zDG b)(hd:(x==("__debug__" : Str))=false:=by decide):PEd X G (.Subscript (.Name x p) b pos) (eUn (tL T) g):=
 PE.wk (zFV (zQs t) (zLm t hg hd) hb hs) fun σ H Q q=>by
  obtain⟨ρ,Hi,R,ou⟩:=q;refine zFW R ou fun v d Hi1 H1 e1 R1 r1 o1=>?_
  cases d with
  | str k=>
   have o2:Out G Hi1 H1 (zOv (T.lookup k)) _:=o1
   cases z:T.lookup k with
   | none=>rw[z] at o2;exact o2.elim
   | some y=>rw[z] at o2;exact⟨k,y,rfl,r1.strI,z,o2.here R1.s _ (.str _)⟩
  | _=>exact o1.elim
end
section
variable{prog:Program}{w:World}{A:Around}{R:Result->Shared->Prop}{I:Addr}{fp wr:List Addr}{n:Nat}{P:Nat->Value->Prop}{St:Nat->Heap->Prop}{kw:List (Str×Value)}
def zMP(R:Result->Shared->Prop)(wr:List Addr)(S:Addr)(s:Shared)(P:Value->Prop):Prop:=
 ∀ v h' tk,P v->(∀ b o,b∉wr->b≠S->s.heap.get? b=some o->h'.get? b=some o)->R (.ok (.ret v)) { s with heap:=h',toks:=tk }
def zQZ(s:Shared)(S:Addr)(vs:Array Value)(c:Nat):Prop:=s.heap.get? S=some { cls:=.type "list", dict:=none,data:=.seq vs c,slots:=#[] }
theorem zED:(toString "max" ++ toString ".loop" : String) = "max.loop" := by decide
theorem zNb(W:Walks prog w A.in1 I fp wr n P St)(bt:Nat->Nat->Bool)(hcmp:CmpOf prog w A.in1 .Gt P bt)(S:Addr)(hSf:S∉fp):
  ∀(k j:Nat)(s:Shared)(vb:Value)(c:Nat),n-(j+1)=k->j+1<=n->St (j+1) s.heap->P (argBest bt j) vb->zQZ s S #[vb,vb] c->zMP R wr S s (P (argBest bt (n-1)))->
  codeAny (model prog w) A (.builtin "max.loop" ⟨[.ref I,.none,.ref S],kw⟩) R s:=by
 have hSw:S∉wr:=fun h=>hSf (W.sub _ h)
 intro k
 induction k with
 | zero=>
  intro j s vb c hk hj hst hPb hS hR;have hin:j+1=n:=by omega
  refine codeAny_builtin F.entry_max_loop ?_;rw[Around.under_plainId F.plain_max_loop _]
  refine wpAny_bind (wpAny_seqItems hS rfl ?_)
  refine wpAny_bind (m:=tryCatch (pyNext (.ref I)) _) (wpAny_tryCatch (W.done s _ _ (hin ▸ hst) fun h' tk hk'=>?_))
  have hS':=hk' S _ hSw hS;refine wpAny_bind (m:=updateSeq S (fun _=>#[])) (wpAny_updateSeq hS' rfl (wpAny_bind (wpAny_letGo (wpAny_pure ?_))))
  exact hR vb _ tk (by rw[<-hin];exact hPb) fun b o hbw hbS e=>(Heap.get?_update_other _ _ (Ne.symm hbS)).trans (hk' b o hbw e)
 | succ k ih=>
  intro j s vb c hk hj hst hPb hS hR;have hlt:j+1<n:=by omega
  refine codeAny_builtin F.entry_max_loop ?_;rw[Around.under_plainId F.plain_max_loop _]
  refine wpAny_bind (wpAny_seqItems hS rfl ?_)
  refine wpAny_bind (m:=tryCatch (pyNext (.ref I)) _) (wpAny_tryCatch (W.item (j+1) s _ _ hlt hst fun v h' tk hP hst' hk'=>?_))
  have hS':=hk' S _ hSw hS;refine wpAny_bind (m:=tryCatch (holding [v,v] (richCompare .Gt v vb >>= _)) _) (wpAny_tryCatch (wpAny_holding (wpAny_bind (hcmp (j+1) (argBest bt j) v vb _ _ _ hP hPb ?_))))
  refine wpAny_bind (wpAny_holding (wpAny_truthy_bool (wpAny_bind (wpAny_letGo (wpAny_pure ?_)))))
  cases hb:bt (j+1) (argBest bt j) with
  | true=>
   simp only[if_true];refine wpAny_bind ?_;refine wpAny_updateSeq hS' rfl (wpAny_bind (wpAny_letGo ?_));rw[zED]
   refine wpAny_pure ⟨plainId_quiet F.plain_max_loop _,ih (j+1) _ v _ (by omega) hlt (W.frame _ _ _ hst' fun b hbf o e=>(Heap.get?_update_other _ _ (fun h:S=b=>hSf (by rw[h];exact hbf))).trans e) (by simp only[argBest,hb,if_true];exact hP) (Heap.get?_update_self _ hS' rfl) fun v' h'' tk'' hP' hk''=>?_⟩
   exact hR v' h'' tk'' hP' fun b o hbw hbS e=>hk'' b o hbw hbS ((Heap.get?_update_other _ _ (Ne.symm hbS)).trans (hk' b o hbw e))
  | false=>
   simp only[Vv,if_false];refine wpAny_bind (wpAny_letGo ?_);rw[zED]
   exact wpAny_pure ⟨plainId_quiet F.plain_max_loop _,ih (j+1) _ vb c (by omega) hlt hst' (by simp only[argBest,hb,Vv,if_false];exact hPb) hS' fun v' h'' tk'' hP' hk''=>hR v' h'' tk'' hP' fun b o hbw hbS e=>hk'' b o hbw hbS (hk' b o hbw e)⟩
theorem zJF(W:Walks prog w A.in1 I fp wr n P St)(bt:Nat->Nat->Bool)(hcmp:CmpOf prog w A.in1 .Gt P bt)(S:Addr)(hSf:S∉fp)(hn:0<n){s:Shared}{c:Nat}(hst:St 0 s.heap)(hS:zQZ s S #[] c)(hR:zMP R wr S s (P (argBest bt (n-1)))):
  codeAny (model prog w) A (.builtin "max.loop" ⟨[.ref I,.none,.ref S],kw⟩) R s:=by
 have hSw:S∉wr:=fun h=>hSf (W.sub _ h)
 refine codeAny_builtin F.entry_max_loop ?_;rw[Around.under_plainId F.plain_max_loop _]
 refine wpAny_bind (wpAny_seqItems hS rfl ?_)
 refine wpAny_bind (m:=tryCatch (pyNext (.ref I)) _) (wpAny_tryCatch (W.item 0 s _ _ hn hst fun v h' tk hP hst' hk'=>?_))
 have hS':=hk' S _ hSw hS;refine wpAny_bind (m:=updateSeq S (fun _=>#[v,v])) (wpAny_updateSeq hS' rfl ?_);rw[zED]
 refine wpAny_pure ⟨plainId_quiet F.plain_max_loop _,zNb W bt hcmp S hSf _ 0 _ v _ rfl hn (W.frame _ _ _ hst' fun b hbf o e=>(Heap.get?_update_other _ _ (fun h:S=b=>hSf (by rw[h];exact hbf))).trans e) hP (Heap.get?_update_self _ hS' rfl) fun v' h'' tk'' hP' hk''=>?_⟩
 exact hR v' h'' tk'' hP' fun b o hbw hbS e=>hk'' b o hbw hbS ((Heap.get?_update_other _ _ (Ne.symm hbS)).trans (hk' b o hbw e))
theorem zNe{x:Str}{d:Value}(W:Walks prog w A.in1 I fp wr 0 P St)(S:Addr)(hSf:S∉fp){s:Shared}{c:Nat}(hst:St 0 s.heap)(hS:zQZ s S #[] c)(hR:zMP R wr S s (·=d)):
  codeAny (model prog w) A (.builtin "max.loop" ⟨[.ref I,.none,.ref S],[(x,d)]⟩) R s:=by
 refine codeAny_builtin F.entry_max_loop ?_;rw[Around.under_plainId F.plain_max_loop _]
 refine wpAny_bind (wpAny_seqItems hS rfl ?_)
 refine wpAny_bind (m:=tryCatch (pyNext (.ref I)) _) (wpAny_tryCatch (W.done s _ _ hst fun h' tk hk'=>?_))
 exact wpAny_bind (wpAny_rule (wpAny_pure (hR d h' tk rfl fun b o hbw _ e=>hk' b o hbw e)))
end
section
variable{X:Cx}{G:Gx}{a c:Expr}{pos p kp:Pos}{f g:Ev}
theorem zIe(num:Nat->Int):∀ k,num (argBest (fun i j=>decide (num i > num j)) k)=uC (num 0) ((List.range k).map fun i=>num (i+1))
 | 0=>rfl
 | k+1=>by
  rw[Yf,QC]
  have app:∀(l:List Int)(a b:Int),uC a (l++[b])=if b > uC a l then b else uC a l:=by
   intro l
   induction l with
   | nil=>intro a b;rfl
   | cons x r ih=>intro a b;rw[Xy,uC,ih,uC]
  rw[List.map_singleton,app,<-zIe num k];show num (if decide (num (k+1) > num (argBest _ k))=true then k+1 else argBest _ k)=_
  by_cases h:num (k+1) > num (argBest (fun i j=>decide (num i > num j)) k)
  ·rw[if_pos (decide_eq_true h),if_pos h]
  ·rw[if_neg (by simp[h]),if_neg h]
theorem wE(m:Int)(ns:List Int):(m::ns).getD (argBest (fun i j=>decide ((m::ns).getD i 0 > (m::ns).getD j 0)) ns.length) 0=uC m ns:=by
 rw[zIe (fun i=>(m::ns).getD i 0) ns.length];show uC m _=_
 congr 1
 refine V7 fun i=>?_
 rw[Qr];by_cases h:i<ns.length
 ·rw[Vg h,Qu h]
  show some ((m::ns).getD (i+1) 0)=_
  rw[List.getD_cons_succ,QB,Qu h];rfl
 ·rw[QH (by rw[QE];omega),QH (by omega)];rfl
def zPu(K:PySem.W.Frag):List V->Hp->VK->Prop:=fun xs H Q=>∃(a:Addr)(m:Int)(ns:List Int),xs=[.ref a]/\SqL K H a ((m::ns).map V.int)/\Q (.int (uC m ns)) H
theorem zCp(hc:X.calm=true):vA X (.builtin "max") (zPu X.K):=by
 intro pins s σ H xs us Q I r h;obtain⟨a,m,ns,rfl,hq,q⟩:=h;obtain⟨u,rfl,ru⟩:=zCy r;cases ru;have hh:=I.ok.hd hc;obtain⟨its,rv,p,hz⟩:=I.list hq;have hlt:a<s.heap.objs.size:=by obtain⟨_,e,_⟩:=p.isList;exact Heap.lt_size e
 have hl:=rv.length;rw[Qd,Qn] at hl;refine call_max_walk (wpAny_pyIter_list p.isList ?_)
 refine⟨s.heap.objs.size,_,_,_,_,_,fun i j=>decide ((m::ns).getD i 0 > (m::ns).getD j 0),rfl,Walks.list (A:=X.A.in1) hh s.heap.objs.size a (Qt hlt) its.toArray,⟨⟨_,Heap.get?_push_size _ rfl,rfl,rfl⟩,p.isList.push _⟩,fun b hb=>?_,by rw[Ql];omega,CmpOf.ints_gt _ fun i v hv=>qS rv (by simpa using hv),fun v h' tk hv hk=>?_⟩
 ·show b<(s.heap.push _).objs.size
  rw[Heap.size_push];rcases Qe.mp hb with rfl | hb
  ·exact Va _
  ·rcases Qe.mp hb with rfl | hb
   ·exact Vw hlt
   ·cases hb
 ·obtain⟨t,rfl⟩:=qS rv (i:=argBest (fun i j=>decide ((m::ns).getD i 0 > (m::ns).getD j 0)) (its.toArray.size-1)) (by simpa using hv)
  refine⟨.int (uC m ns),H,I.kept (t':=tk) fun b o e=>hk b o (fun z=>?_) (Heap.get?_push_of_some _ e),⟨t,?_⟩,q⟩
  ·have z':b=s.heap.objs.size:=by simpa using z
   have l:=Heap.lt_size e;rw[z'] at l;exact Q3 _ l
  ·rw[Ql,<-hl,Nat.add_sub_cancel,wE]
theorem zGW:wO X (zPu X.K) zBv:=⟨fun a c z=>(by
  unfold zBv at z;split at z
  ·split at z<;>cases z
  ·cases z),fun Hi H vs ds d Q s r z q=>by
  unfold zBv at z;split at z
  ·split at z
   ·rename_i m ns hns
    cases z;obtain⟨v,rfl,h⟩:=r.one;obtain⟨a,xs,rfl,h1,h2⟩:=h.lstI;have e:=iJ h2 hns;subst e;exact⟨a,m,ns,rfl,cK s h1,q _ Hi H (Ext.refl s) (.int _)⟩
   ·cases z
  ·cases z⟩
def zSh(d:Int):List Int->Int
 | []=>d
 | m::r=>uC m r
def zPI(K:PySem.W.Frag):R2:=fun x y H Q=>∃(ad:Addr)(d:Int)(ns:List Int),x=.ref ad/\y=.int d/\SqL K H ad (ns.map V.int)/\Q (.int (zSh d ns)) H
theorem zIW(x v:Value):argsOk "max" ⟨[x],[(Str.ofString "default", v)]⟩:=by unfold argsOk;kernel_rfl
theorem zJe(hc:X.calm=true){pins:List (Addr×Obj)}{s:Shared}{σ:St}{H:Hp}{ad:Addr}{d:Int}{t:Tok}{ns:List Int}{Q:VK}(I:Inv X pins σ H s)(hq:SqL X.K H ad (ns.map V.int))(q:Q (.int (zSh d ns)) H):
  wpAny (model X.prog X.w) X.A (call (.builtin "max") [.ref ad] [(Str.ofString "default", .int d t)]) (EP X pins σ Q) X.xe s:=by
 have hh:=I.ok.hd hc;obtain⟨its,rv,p,hz⟩:=I.list hq;have hlt:ad<s.heap.objs.size:=by obtain⟨_,e,_⟩:=p.isList;exact Heap.lt_size e
 have hl:=rv.length;rw[Qd] at hl;refine kmk_tree F.kind_max F.plain_max F.entry_max (zIW _ _) ?_
 refine wpAny_bind (m:=Builtin.Builtins.bindParams "max" ["key","default"] 0 ⟨[],[(Str.ofString "default", .int d t)]⟩) (wpAny_of_eq (a:=[none,some (.int d t)]) (by first | rfl | kernel_rfl) ?_)
 refine wpAny_bind (wpAny_pure ?_)
 refine wpAny_bind (wpAny_pyIter_list p.isList ?_)
 refine wpAny_bind (wpAny_newObj_type ?_)
 rw[zED];refine wpAny_pure ⟨plainId_quiet F.plain_max_loop _,?_⟩
 have W:=Walks.list (prog:=X.prog) (w:=X.w) (A:=X.A.in1) hh s.heap.objs.size ad (Qt hlt) its.toArray
 have hSf:(s.heap.push { cls:=.type "list_iterator", data:=.fields #[.ref ad,.int 0 0] }).objs.size∉[s.heap.objs.size,ad]:=by
  rw[Heap.size_push];intro z;rcases Qe.mp z with z | z
  ·exact Nat.succ_ne_self _ z
  ·exact Q3 _ (Vu (Xz (Qp.mp z)) (Vw hlt))
 have keep:∀ {h':Heap} {b:Addr} {o:Obj},(∀ b o,b∉[s.heap.objs.size]->b≠(s.heap.push { cls:=.type "list_iterator", data:=.fields #[.ref ad,.int 0 0] }).objs.size->((s.heap.push { cls:=.type "list_iterator", data:=.fields #[.ref ad,.int 0 0] }).push { cls:=.type "list", data:=.seq #[] }).get? b=some o->h'.get? b=some o)->s.heap.get? b=some o->h'.get? b=some o:=fun {h' b o} hk e=>by
  have l:=Heap.lt_size e;refine hk b o (fun z=>?_) (fun z=>?_) (Heap.get?_push_of_some _ (Heap.get?_push_of_some _ e))
  ·rw[Qp.mp z] at l;exact Q3 _ l
  ·rw[z,Heap.size_push] at l;exact Q3 _ (Nat.lt_of_succ_lt l)
 have hst:((s.heap.push { cls:=.type "list_iterator", data:=.fields #[.ref ad,.int 0 0] }).push { cls:=.type "list", data:=.seq #[] }).IsListIter s.heap.objs.size ad 0/\((s.heap.push { cls:=.type "list_iterator", data:=.fields #[.ref ad,.int 0 0] }).push { cls:=.type "list", data:=.seq #[] }).IsList ad its.toArray:=
  ⟨⟨_,Heap.get?_push_of_some _ (Heap.get?_push_size _ rfl),rfl,rfl⟩,(p.isList.push _).push _⟩
 cases ns with
 | nil=>
  have e0:its=[]:=Xs (by rw[<-hl];rfl)
  subst e0;exact zNe W _ hSf hst (Heap.get?_push_size _ rfl) fun v h' tk hv hk=>⟨.int d,H,I.kept (t':=tk) fun b o e=>keep hk e,⟨t,hv⟩,q⟩
 | cons m r=>
  refine zJF W (fun i j=>decide ((m::r).getD i 0 > (m::r).getD j 0)) (CmpOf.ints_gt _ fun i v hv=>qS rv (by simpa using hv)) _ hSf (by rw[Ql,<-hl];exact VT _) hst (Heap.get?_push_size _ rfl) fun v h' tk hv hk=>?_
  obtain⟨t',rfl⟩:=qS rv (i:=argBest (fun i j=>decide ((m::r).getD i 0 > (m::r).getD j 0)) (its.toArray.size-1)) (by simpa using hv)
  refine⟨.int (uC m r),H,I.kept (t':=tk) fun b o e=>keep hk e,⟨t',?_⟩,q⟩
  rw[Ql,<-hl,Qn,Nat.add_sub_cancel,wE]
theorem zNa{ta tb:TE}(hc:X.calm=true)(hg:Gl X "max")(hm:X.mg "max" = none)(ha:PE X a ta)(hb:PE X c tb)(hs:starEach [a] X.env=(false,eval a X.env)::starEach [] X.env:=by rfl):
  PE X (.Call (.Name "max" p) [a] [⟨some "default", c,kp⟩] pos) (tOp (zPI X.K) ta tb):=by
 intro pins s σ H Q I h;refine wpAny_Call_Name_kw (pO I hg hm boot_max ?_ (by decide) (by decide))
 refine callWith_kw (thn ((kR ha oT hs) pos pins s σ H (fun vs H1=>match vs with | [x]=>tb σ H1 fun y H2=>zPI X.K x y H2 Q | _=>False) I h) fun us s1 ⟨vs,H1,I1,r1,q1⟩=>?_) (by rw[hs];rfl) (by rw[hs];rfl)
 match vs,r1,q1 with
 | [x],r1,q1=>
  obtain⟨u,rfl,ru⟩:=zCy r1;refine kws_cons (thn (hb pins s1 σ H1 _ I1 q1) fun v s2 ⟨y,H2,I2,r2,q2⟩=>kws_nil ?_)
  obtain⟨ad,d,ns,rfl,rfl,hq,q⟩:=q2;cases ru;obtain⟨t,rfl⟩:=r2;exact zJe hc I2 hq q
theorem zNp(hc:X.calm=true)(hg:Gl X "max")(hm:X.mg "max" = none)(ha:PEd X G a f)(hb:PEd X G c g)(hs:starEach [a] X.env=(false,eval a X.env)::starEach [] X.env:=by rfl):
  PEd X G (.Call (.Name "max" p) [a] [⟨some "default", c,kp⟩] pos) (eOp (fun x y=>zDo [x,y]) f g):=PE.wk (zNa hc hg hm ha hb hs) (op2 ⟨fun a b c z=>(by
  replace z:zDo [a,b]=_:=z
  unfold zDo at z;split at z
  ·split at z<;>cases z
  ·cases z),fun Hi H x y a b d Q s r1 r2 z q=>by
  replace z:zDo [a,b]=_:=z
  unfold zDo at z;split at z
  ·rename_i ds d' he
   cases he;obtain⟨ad,xs,rfl,h1,h2⟩:=r1.lstI;split at z
   ·rename_i m ns hns
    cases z;have e:=iJ h2 hns;subst e;exact⟨ad,_,_,rfl,r2.intI,cK s h1,q _ Hi H (Ext.refl s) (.int _)⟩
   ·rename_i hns
    cases z;have e:=iJ h2 hns;subst e;exact⟨ad,_,[],rfl,r2.intI,cK s h1,q _ Hi H (Ext.refl s) (.int _)⟩
   ·cases z
  ·cases z⟩)
end
theorem zHE(l b:Addr)(items items2:Array Value)(n n2:Nat)(dd2:Option Addr)(sl2:Array (Option Value))(hc:¬ (!items.isEmpty && Builtin.List.listTooLong (items.size+items2.size))=true)(h1:items.size<=sizeLine)(h2:items.size+items2.size<=sizeLine+1):
  Meets (Builtin.«list.extend» ⟨[.ref l,.ref b],[]⟩) (fun _ R s=>s.heap.get? l=some { cls:=.type "list", dict:=none,data:=.seq items n,slots:=#[] }/\s.heap.get? b=some { cls:=.type "tuple", dict:=dd2,data:=.seq items2 n2,slots:=sl2 }/\
   R (.ok (.ret Value.none)) { s with heap:=s.heap.update l (Obj.mapSeq fun x=>x++items2),toks:=s.toks }):=.of_wp fun prog w A R s h=>by
 obtain⟨hp,g,d,tk,os⟩:=s;obtain⟨hl,hb,h⟩:=h;have f1:=AutoSeq1.idx_int;have f2:=AutoSeq1.sub_tuple_tuple;have f3:=AutoSeq1.sub_list_list;have f4:=AutoSeq1.sub_tuple_list;have f5:=AutoSeq1.sub_list_tuple;have hz:(items++items2).size<=sizeLine+1:=by rw[Array.size_append];exact h2
 wp_walk using (wpAny_updateSeq hl rfl (hz:=h1) (_hz':=hz)),wpAny_loadPart' hl,wpAny_loadPart' hb
 exact⟨_,rfl,h⟩
section
variable{X:Cx}{G:Gx}{e:Expr}{pos:Pos}{f:Ev}
def zRB(K:PySem.W.Frag):V->List V->Hp->VK->Prop:=fun x vs H Q=>∃ l b xs zs,x=.ref l/\vs=[.ref b]/\H l=some (.lst xs)/\SqT K H b zs/\xs.length+zs.length<=sizeLine/\Q .non (upd H l (.lst (xs++zs)))
theorem zOe:MtM X "list.extend" (zRB X.K):=by
 intro pins s σ H x vs v us Q I rx rv h;obtain⟨l,b,xs,zs,rfl,rfl,hH,hB,hz,q⟩:=h;cases rx;obtain⟨u,rfl,ru⟩:=zCy rv;cases ru;obtain⟨z,its,n,r,hl,e⟩:=I.lstM hH;obtain⟨its2,r2,p2,z2⟩:=I.tuple hB;obtain⟨⟨cls2,dd2,data2,sl2⟩,ho2,hc2,n2,hd2⟩:=id p2;simp only at hc2 hd2
 subst hc2 hd2;have l2:=r2.length;have hsz:its.toArray.size+its2.toArray.size<=sizeLine:=by rw[Ql,Ql];omega
 refine call_meets F.slot_list_extend ⟨_,e,rfl⟩ F.entry_list_extend (F.args_list_extend_2 _ _) (zHE l b its.toArray its2.toArray n n2 dd2 sl2 (by rw[zR hsz,XU];exact VY) (by rw[Ql];omega) (by omega)) ⟨e,ho2,?_⟩
 exact⟨.non,_,I.lset (its':=its++its2) hH e (by simp) (r.append r2) (by rw[Qi];omega),rfl,q⟩
theorem zOF{i:Nat}{o:Expr}{apos cpos:Pos}(ho:PE X o (zDu i))(he:PEd X G e f)
  (hbase:attributeBase o "extend" X.env (eval o X.env)=eval o X.env:=by rfl)
  (hfew:((backTo cpos (starEach [e] X.env)).all (fun x=>!x.1) && (backToKw cpos (keywordEach [] X.env)).all (fun x=>x.1.isSome)
   && decide ([e].length+([]:List Keyword).length+(if ([]:List Keyword).isEmpty then 0 else 1)<30))=true:=by rfl)
  (hline:(apos.endLine==cpos.line)=true:=by rfl) (hs:starEach [e] X.env=(false,eval e X.env)::starEach [] X.env:=by rfl)
  (hsw:swapsWith (.Call (.Attribute o "extend" apos) [e] [] cpos) none pos.line X.env=pure false:=by rfl):
  PSd X G (.Expr (.Call (.Attribute o "extend" apos) [e] [] cpos) pos) (zIl i (zOq f)):=
 PS.wk (vF (zMN Xv YG YH zOe ho (kR he oT hs) hbase hfew hline hs) hsw) fun E σ H q=>by
 obtain⟨ρ,Hi,R,h⟩:=q;unfold zIl at h
 cases z:ρ[i]? with
 | none=>rw[z] at h;exact h.elim
 | some s=>
  rw[z] at h
  cases s with
  | own ds=>
   obtain⟨a,xs,p,h1,h2,h3,h4⟩:=R.slot i _ z;refine⟨.ref a,p,.inl ⟨rfl,xs,SqL.of h1⟩,?_⟩
   have h5:Fin X G Hi E ((f ρ).bind fun d=>(match d with | .tup es=>Res.ok es | _=>.no).bind fun es=>if ds.length+es.length<=16777216 then .ok (.nx (ρ.set i (.own (ds++es)))) else .no):=by
    have h6:Fin X G Hi E ((zOq f ρ).bind fun es=>if ds.length+es.length<=16777216 then .ok (.nx (ρ.set i (.own (ds++es)))) else .no):=h
    unfold zOq at h6
    cases zz:f ρ with
    | no=>rw[zz] at h6;exact h6
    | err c=>rw[zz] at h6;exact h6
    | ok d=>rw[zz] at h6;exact h6
   refine⟨ρ,Hi,R,mU R h5 fun d Hi' H' _ e h' v r=>?_⟩
   cases d with
   | tup es=>
    obtain⟨b,ys,rfl,n3,n4⟩:=r.tupI;have R':=R.grow e;obtain⟨g1,g2⟩:=e.out h1 h2;have h7:Fin X G Hi' E (if ds.length+es.length<=16777216 then Res.ok (Fl.nx (ρ.set i (.own (ds++es)))) else .no):=h';by_cases hz:ds.length+es.length<=16777216
    ·rw[if_pos hz] at h7
     refine⟨a,b,xs,ys,rfl,rfl,g1,cJ e.s n3,by rw[h4.length,n4.length];exact hz,?_⟩
     exact h7 σ Hi' _ (Same.refl _) (R'.write z p ((h4.mono e.i).append n4))
    ·rw[if_neg hz] at h7;exact h7.elim
   | _=>exact h'.elim
  | un=>exact h.elim
  | val d=>exact h.elim
  | exc c=>exact h.elim
  | tab T=>exact h.elim
end
end L3
namespace L2
open PySem PySem.Spec PyProof.Rows
section
variable{κ:Type}[DecidableEq κ]
end
abbrev KT(H:Hp):List (List Key×V)->List (List Key×Addr×Value)->Prop:=Paired fun p q=>p.1=q.1/\H q.2.1=some (.tup (p.1.map kV))/\cV p.2 q.2.2
section
variable{P:Program}{w:World}{H:Hp}{h:Heap}{a:Addr}
end
section
variable{X:Cx}{pins:List (Addr×Obj)}{σ:St}{H:Hp}{s:Shared}{a:Addr}{y v:V}{u r:Value}{o:Option V}{A:Around}{E:Value->Shared->Prop}
end
section
variable{X:Cx}{pins:List (Addr×Obj)}{σ:St}{H:Hp}{s:Shared}{a:Addr}{kvs:List (Key×V)}{k:Key}{u:Value}{A:Around}{E:Value->Shared->Prop}
end
section
variable{X:Cx}{o i e value:Expr}{pos pos' tpos:Pos}{td ty tv:TE}
end
section
variable{X:Cx}{pos:Pos}
end
end L2
namespace L3
open PySem PySem.Spec PyProof.Rows L2
unseal PEd PEf PTd PWd PAd PSd eX POd PGd iW PId PSx nU PTs PCd PCf
section
variable{X:Cx}{G:Gx}{a b c e:Expr}{pos p2 p:Pos}{f g h:Ev}{fs:Fv}{x:Str}
end
end L3
namespace L3
open PySem PySem.Spec PyProof.Rows L2
def itN(k:Bool):String:=if k then "list_iterator" else "tuple_iterator"
def zEw(k:Bool)(h:Heap)(it l:Addr)(i:Nat):Prop:=if k then h.IsListIter it l i else h.IsTupleIter it l i
def xM(k:Bool)(h:Heap)(l:Addr)(xs:Array Value):Prop:=if k then h.IsList l xs else h.IsTuple l xs
theorem zEw.get{k:Bool}{h:Heap}{it l:Addr}{i:Nat}(x:zEw k h it l i):∃ o,h.get? it=some o/\o.cls=.type (itN k)/\o.data=.fields #[.ref l,.int i 0]:=by
 cases k<;>(obtain⟨o,a,b,c⟩:=x;exact⟨o,a,b,c⟩)
theorem zEw.mk{k:Bool}{h:Heap}{it l:Addr}{i:Nat}{o:Obj}(a:h.get? it=some o)(b:o.cls=.type (itN k))(c:o.data=.fields #[.ref l,.int i 0]):zEw k h it l i:=by
 cases k<;>exact⟨o,a,b,c⟩
theorem zEw.go{k:Bool}{h h':Heap}{it l:Addr}{i:Nat}(x:zEw k h it l i)(g:∀ o,h.get? it=some o->h'.get? it=some o):zEw k h' it l i:=by
 obtain⟨o,a,b,c⟩:=x.get;exact .mk (g o a) b c
theorem xM.go{k:Bool}{h h':Heap}{l:Addr}{xs:Array Value}(x:xM k h l xs)(g:∀ o,h.get? l=some o->h'.get? l=some o):xM k h' l xs:=by
 cases k<;>(obtain⟨o,a,b⟩:=x;exact⟨o,g o a,b⟩)
section
variable{prog:Program}{w:World}{A:Around}{E:Value->Shared->Prop}{s:Shared}
theorem zIO{k:Bool}{l:Addr}{xs:Array Value}{Q:Value->Shared->Prop}(hl:xM k s.heap l xs)(hQ:Q (.ref s.heap.objs.size) { s with heap:=s.heap.push { cls:=.type (itN k),data:=.fields #[.ref l,.int 0 0] } }):
  wpAny (model prog w) A (pyIter (.ref l)) Q E s:=by
 cases k
 ·exact wpAny_pyIter_tuple hl hQ
 ·exact wpAny_pyIter_list hl hQ
theorem nxT{it t:Addr}{i:Nat}{items:Array Value}{Q:Value->Shared->Prop}(hh:A.handled=none∨(items[i]?).isSome=true)(x:s.heap.IsTupleIter it t i)(y:s.heap.IsTuple t items)
  (go:∀ v,items[i]?=some v->∀ h2,h2.IsTupleIter it t (i+1)->Heap.SameBut it s.heap h2->Q v { s with heap:=h2 })
  (stop:items[i]?=none->∀ h2 e,Heap.ExtBut it s.heap h2->(∃ ob,h2.get? e=some ob/\ob.cls=.type "StopIteration")->E (.ref e) { s with heap:=h2 }):wpAny (model prog w) A (Builtin.SmallTypes.nextOf (.ref it)) Q E s:=by
 obtain⟨oi,ei,ci,di⟩:=id x;obtain⟨ot,et,_,nt,dt⟩:=y;have nn:¬ ((Value.ref t==Value.none)=true):=VY;unfold Builtin.SmallTypes.nextOf;refine wpAny_bind (wpAny_callSpecial?_slot (name:=Str.ofString "__next__") x.typeIs F.slot_tuple_iterator_next (wpAny_call_entry F.slot_tuple_iterator_next x.typeIs F.entry_tuple_iterator_next (show wpAny _ _ (field _ 0 >>= _) _ _ s from wpAny_bind (wpAny_field ei di (x:=.ref t) rfl ?_)) (F.args_tuple_iterator_next_1 _)))
 show wpAny _ _ (ite ((Value.ref t==Value.none)=true) _ _) _ _ s
 rw[if_neg nn];refine show wpAny _ _ (field _ 1 >>= _) _ _ s from wpAny_bind (wpAny_field ei di (x:=.int i 0) rfl (show wpAny _ _ (seqItems? _ >>= _) _ _ s from wpAny_bind (wpAny_seqItems et dt ?_)))
 have fr:∀ g:Array Value->Array Value,Heap.get? (s.heap.update it (Obj.mapFields g)) it=some (Obj.mapFields g oi):=fun g=>Heap.get?_update_self _ ei (Obj.isFreed_of_fields (Obj.data_mapFields di g))
 cases q:items[i]? with
 | some v=>
  simp only[Vo,q];refine wpAny_bind (wpAny_setField ei di (by simp) (wpAny_pure ⟨v,rfl,wpAny_pure (go v q _ ⟨_,fr _,(Obj.cls_mapFields ..).trans ci,?_⟩ (Heap.SameBut.update ..))⟩))
  rw[Obj.data_mapFields di];simp[rawInt]
 | none=>
  have hh:A.handled=none:=hh.elim id fun z=>by rw[q] at z;cases z
  simp only[Vo,q];refine wpAny_bind (wpAny_rule (wpAny_bind (wpAny_setField ei di (by simp) (show wpAny _ _ (newExc _ [] >>= _) _ _ _ from wpAny_bind ?_))))
  simp only[newExc,newTuple];refine wpAny_bind (wpAny_newObj_type (wpAny_bind (m:=firstArgMember _ _) (wpAny_of_eq (a:=Value.none) (by first | rfl | (simp only[firstArgMember];rfl)) (wpAny_newObj_type ?_ (by size_fits)))) (by size_fits))
  simp only[raiseNew];refine wpAny_bind (wpAny_handled ?_)
  rw[show A.in1.handled=none from hh];exact wpAny_bind (wpAny_pure (wpAny_throw (stop q _ _ (((Heap.SameBut.update ..).extBut.push _).push _) ⟨_,Heap.get?_push_size _ rfl,rfl⟩)))
theorem zGL{k:Bool}{it t:Addr}{i:Nat}{items:Array Value}{x:Value}{Q:Value->Shared->Prop}(hit:zEw k s.heap it t i)(ht:xM k s.heap t items)(hx:items[i]?=some x)
  (hQ:∀ h',zEw k h' it t (i+1)->Heap.SameBut it s.heap h'->Q x { s with heap:=h' }):wpAny (model prog w) A (Builtin.SmallTypes.nextOf (.ref it)) Q E s:=by
 cases k
 ·exact nxT (.inr (by rw[hx];rfl)) hit ht (fun v q h2 g1 g2=>by rw[hx] at q;cases q;exact hQ h2 g1 g2) fun q=>by rw[hx] at q;cases q
 ·exact wpAny_nextOf_list_item hit ht hx hQ
theorem zLe{k:Bool}{it t:Addr}{i:Nat}{items:Array Value}{Q:Value->Shared->Prop}(hh:A.handled=none)(hit:zEw k s.heap it t i)(ht:xM k s.heap t items)(hx:items[i]?=none)
  (hE:∀ h' e,Heap.ExtBut it s.heap h'->(∃ o,h'.get? e=some o/\o.cls=.type "StopIteration")->E (.ref e) { s with heap:=h' }):wpAny (model prog w) A (Builtin.SmallTypes.nextOf (.ref it)) Q E s:=by
 cases k
 ·exact nxT (.inl hh) hit ht (fun v q=>by rw[hx] at q;cases q) fun _=>hE
 ·exact wpAny_nextOf_list_end hh hit ht hx hE
def yL(f0:Value)(k1 k2:Bool)(l1 l2 n:Addr)(j1 j2:Nat)(h:Heap):Prop:=
 IsZip h (n+4) (n+2) (n+3) f0/\IsPair h (n+2) (.ref n) (.ref (n+1))/\(∃ a b,IsPair h (n+3) a b)/\zEw k1 h n l1 j1/\zEw k2 h (n+1) l2 j2
def oE(n:Addr)(h h2:Heap):Prop:=∀ c o,c≠n+4->c≠n+3->c≠n->c≠n+1->h.get? c=some o->h2.get? c=some o
theorem oE.then{n:Addr}{h h1 h2:Heap}(a:oE n h h1)(b:oE n h1 h2):oE n h h2:=fun c o c1 c2 c3 c4 e=>b c o c1 c2 c3 c4 (a c o c1 c2 c3 c4 e)
theorem oE.eb{n a:Addr}{h h2:Heap}(k:Heap.ExtBut a h h2)(m:a=n+4∨a=n+3∨a=n∨a=n+1):oE n h h2:=fun c o c1 c2 c3 c4 e=>k c o (fun z=>by subst z;rcases m with m | m | m | m<;>contradiction) e
theorem oE.sq{k:Bool}{n l:Addr}{h h2:Heap}{xs:Array Value}(a:oE n h h2)(hl:l<n)(x:xM k h l xs):xM k h2 l xs:=
 x.go fun o e=>a l o (Qt (Nat.lt_add_right 4 hl)) (Qt (Nat.lt_add_right 3 hl)) (Qt hl) (Qt (Vw hl)) e
theorem zJx(n:Addr):n+3≠n+4/\n+2≠n+4/\n≠n+4/\n+1≠n+4/\n+2≠n+3/\n≠n+3/\n+1≠n+3/\n+2≠n/\n+1≠n/\n+2≠n+1:=by
 refine⟨?_,?_,?_,?_,?_,?_,?_,?_,?_,?_⟩<;>(intro z;have z':(_:Nat)=_:=z;omega)
theorem yL.fld{f0:Value}{k1 k2:Bool}{l1 l2 n:Addr}{j1 j2:Nat}{h h2:Heap}(g:yL f0 k1 k2 l1 l2 n j1 j2 h){f1:Value}(z:IsZip h2 (n+4) (n+2) (n+3) f1)(s:Heap.ExtBut (n+4) h h2):yL f1 k1 k2 l1 l2 n j1 j2 h2:=by
 obtain⟨_,g2,⟨a,b,g3⟩,g4,g5⟩:=g;obtain⟨e1,e2,e3,e4,_⟩:=zJx n;exact⟨z,s _ _ e2 g2,⟨a,b,s _ _ e1 g3⟩,g4.go fun o e=>s _ o e3 e,g5.go fun o e=>s _ o e4 e⟩
theorem yL.it1{f0:Value}{k1 k2:Bool}{l1 l2 n:Addr}{j1 j2 m:Nat}{h h2:Heap}(g:yL f0 k1 k2 l1 l2 n j1 j2 h)(z:zEw k1 h2 n l1 m)(s:Heap.ExtBut n h h2):yL f0 k1 k2 l1 l2 n m j2 h2:=by
 obtain⟨g1,g2,⟨a,b,g3⟩,_,g5⟩:=g;obtain⟨e1,e2,e3,e4,e5,e6,e7,e8,e9,_⟩:=zJx n;exact⟨s _ _ e3.symm g1,s _ _ e8 g2,⟨a,b,s _ _ e6.symm g3⟩,z,g5.go fun o e=>s _ o e9 e⟩
theorem yL.it2{f0:Value}{k1 k2:Bool}{l1 l2 n:Addr}{j1 j2 m:Nat}{h h2:Heap}(g:yL f0 k1 k2 l1 l2 n j1 j2 h)(z:zEw k2 h2 (n+1) l2 m)(s:Heap.ExtBut (n+1) h h2):yL f0 k1 k2 l1 l2 n j1 m h2:=by
 obtain⟨g1,g2,⟨a,b,g3⟩,g4,_⟩:=g;obtain⟨e1,e2,e3,e4,e5,e6,e7,e8,e9,e10⟩:=zJx n;exact⟨s _ _ e4.symm g1,s _ _ e10 g2,⟨a,b,s _ _ e7.symm g3⟩,g4.go fun o e=>s _ o e9.symm e,z⟩
theorem yL.out{f0 a b:Value}{k1 k2:Bool}{l1 l2 n:Addr}{j1 j2:Nat}{h h2:Heap}(g:yL f0 k1 k2 l1 l2 n j1 j2 h)(z:IsPair h2 (n+3) a b)(s:Heap.ExtBut (n+3) h h2):yL f0 k1 k2 l1 l2 n j1 j2 h2:=by
 obtain⟨g1,g2,_,g4,g5⟩:=g;obtain⟨e1,e2,e3,e4,e5,e6,e7,_⟩:=zJx n;exact⟨s _ _ e1.symm g1,s _ _ e5 g2,⟨a,b,z⟩,g4.go fun o e=>s _ o e6 e,g5.go fun o e=>s _ o e7 e⟩
theorem zSx{k1 k2:Bool}{n l1 l2:Addr}{j:Nat}{xs ys:Array Value}{Q:PySem.Fin->Shared->Prop}(hh:A.handled=none)(b1:l1<n)(b2:l2<n)(g:yL .none k1 k2 l1 l2 n j j s.heap)(d1:xM k1 s.heap l1 xs)(d2:xM k2 s.heap l2 ys)
  (go:∀ x y,xs[j]?=some x->ys[j]?=some y->∀ h2,yL (rawInt s.heap.objs.size) k1 k2 l1 l2 n (j+1) (j+1) h2->IsPair h2 s.heap.objs.size x y->oE n s.heap h2->Q (.done (.ret (.ref s.heap.objs.size))) { s with heap:=h2 })
  (stop:xs[j]?=none∨ys[j]?=none->∀ h2 e,oE n s.heap h2->(∃ o,h2.get? e=some o/\o.cls=.type "StopIteration")->E (.ref e) { s with heap:=h2 }):
  wpAny (model prog w) A (Builtin.«zip.__next__» ⟨[.ref (n+4)],[]⟩) Q E s:=by
 have stopZ:∀ {h1:Heap} {e:Addr} {v:Value} {k:Nat} {R:Unit->Shared->Prop},(xs[j]?=none∨ys[j]?=none)->oE n s.heap h1->IsZip h1 (n+4) (n+2) (n+3) .ellipsis->(∃ o,h1.get? e=some o/\o.cls=.type "StopIteration")->k<5->
   (∀ h3,oE n s.heap h3->(∃ o,h3.get? e=some o/\o.cls=.type "StopIteration")->R () { s with heap:=h3 })->wpAny (model prog w) A (setField (.ref (n+4)) k v) R E { s with heap:=h1 }:=by
  intro h1 e v k R q kz z he hk fin;obtain⟨oe,e1,e2⟩:=he;have nz:e≠n+4:=fun y=>by subst y;rw[z] at e1;cases e1;simp at e2
  exact wpAny_setField_rec z (by simpa using hk) fun h3 _ s3=>fin h3 (kz.then (.eb s3.extBut (.inl rfl))) ⟨oe,s3.extBut _ _ nz e1,e2⟩
 obtain⟨z0,t0,⟨a,b,p0⟩,_⟩:=id g;refine show wpAny _ _ (field _ 2 >>= _) _ _ s from wpAny_bind (wpAny_field z0 rfl (x:=.bool false) rfl (show wpAny _ _ (field _ 3 >>= _) _ _ s from wpAny_bind (wpAny_field z0 rfl (x:=.ref (n+2)) rfl (wpAny_bind (wpAny_seqItems t0 rfl (wpAny_bind ?_))))))
 unfold Builtin.SmallTypes.ownedTupleIsFree;refine wpAny_bind (wpAny_field z0 rfl (x:=.none) rfl (wpAny_pure ?_))
 simp only[if_true];refine wpAny_bind (wpAny_rule (wpAny_bind (wpAny_field z0 rfl (x:=.ref (n+3)) rfl (wpAny_bind (wpAny_setField_rec z0 (by simp) fun h1 z1 s1=>wpAny_bind ?_)))))
 have g1:yL .ellipsis k1 k2 l1 l2 n j j h1:=g.fld z1 s1.extBut;have k1':oE n s.heap h1:=.eb s1.extBut (.inl rfl);simp only[List.zipIdx_cons,List.zipIdx_nil,List.forIn_cons,List.forIn_nil];refine wpAny_bind (wpAny_bind (wpAny_onRaise (show wpAny _ _ (Builtin.SmallTypes.nextOf _ >>= _) _ _ _ from wpAny_bind ?_)))
 cases q1:xs[j]? with
 | none=>
  refine zLe (s:={ s with heap:=h1 }) hh g1.2.2.2.1 (k1'.sq b1 d1) q1 fun h2 e x2 he=>stopZ (.inl q1) (k1'.then (.eb x2 (.inr (.inr (.inl rfl))))) (x2 _ _ (zJx n).2.2.1.symm g1.1) he (by decide) fun h3=>stop (.inl q1) h3 e
 | some x=>
  refine zGL (s:={ s with heap:=h1 }) g1.2.2.2.1 (k1'.sq b1 d1) q1 fun h2 i2 s2=>wpAny_pure ?_
  have g2:=g1.it1 i2 s2.extBut;have k2':=k1'.then (.eb s2.extBut (.inr (.inr (.inl rfl))));have p2:IsPair h2 (n+3) a b:=s2.extBut _ _ (zJx n).2.2.2.2.2.1.symm (s1.extBut _ _ (zJx n).1 p0);refine wpAny_bind (wpAny_seqItems (s:={ s with heap:=h2 }) p2 rfl (wpAny_bind (wpAny_updateSeq_pair p2 fun h3 p3 s3=>wpAny_bind (wpAny_letGo (wpAny_pure ?_)))))
  have g3:=g2.out p3 s3.extBut;have k3':=k2'.then (.eb s3.extBut (.inr (.inl rfl)));refine wpAny_bind (wpAny_bind (wpAny_onRaise (show wpAny _ _ (Builtin.SmallTypes.nextOf _ >>= _) _ _ _ from wpAny_bind ?_)))
  cases q2:ys[j]? with
  | none=>
   refine zLe (s:={ s with heap:=h3 }) hh g3.2.2.2.2 (k3'.sq b2 d2) q2 fun h4 e x4 he=>stopZ (.inr q2) (k3'.then (.eb x4 (.inr (.inr (.inr rfl))))) (x4 _ _ (zJx n).2.2.2.1.symm g3.1) he (by decide) fun h5=>stop (.inr q2) h5 e
  | some y=>
   refine zGL (s:={ s with heap:=h3 }) g3.2.2.2.2 (k3'.sq b2 d2) q2 fun h4 i4 s4=>wpAny_pure ?_
   have g4:=g3.it2 i4 s4.extBut;have p4:IsPair h4 (n+3) x b:=s4.extBut _ _ (zJx n).2.2.2.2.2.2.1.symm p3;refine wpAny_bind (wpAny_seqItems (s:={ s with heap:=h4 }) p4 rfl (wpAny_bind (wpAny_updateSeq_pair p4 fun h5 p5 s5=>wpAny_bind (wpAny_letGo (wpAny_pure (wpAny_pure ?_))))))
   have p5:IsPair h5 (n+3) x y:=p5;have g5:=g4.out p5 s5.extBut;have k5':=(k3'.then (.eb s4.extBut (.inr (.inr (.inr rfl))))).then (.eb s5.extBut (.inr (.inl rfl)));have sz:h5.objs.size=s.heap.objs.size:=s5.1.trans (s4.1.trans (s3.1.trans (s2.1.trans s1.1)));refine wpAny_bind (wpAny_seqItems (s:={ s with heap:=h5 }) p5 rfl (wpAny_bind (wpAny_newTuple (show wpAny _ _ (Builtin.SmallTypes.ownedTupleHandOut _ (.ref h5.objs.size) >>= _) _ _ _ from wpAny_bind ?_))))
   unfold Builtin.SmallTypes.ownedTupleHandOut;refine wpAny_bind (wpAny_setField_rec (Heap.get?_push_of_some _ g5.1) (by simp) fun h7 z7 s7=>wpAny_setField_rec z7 (by simp) fun h8 z8 s8=>wpAny_pure ?_)
   have nz:h5.objs.size≠n+4:=Xl (Heap.lt_size g5.1);have x8:Heap.ExtBut (n+4) h5 h8:=fun c o c1 e=>s8.extBut _ _ c1 (s7.extBut _ _ c1 (Heap.get?_push_of_some _ e))
   have g8:yL (rawInt h5.objs.size) k1 k2 l1 l2 n (j+1) (j+1) h8:=g5.fld z8 x8;have t8:IsPair h8 h5.objs.size x y:=s8.extBut _ _ nz (s7.extBut _ _ nz (Heap.get?_push_size _ rfl));rw[sz] at g8 t8;show Q (.done (.ret (.ref h5.objs.size))) _
   rw[sz];exact go x y q1 q2 h8 g8 t8 (k5'.then (.eb x8 (.inl rfl)))
theorem zSk{k1 k2:Bool}{n l1 l2:Addr}{j:Nat}{xs ys:Array Value}{Q:Option Value->Shared->Prop}(hh:A.handled=none)(b1:l1<n)(b2:l2<n)(g:yL .none k1 k2 l1 l2 n j j s.heap)(d1:xM k1 s.heap l1 xs)(d2:xM k2 s.heap l2 ys)
  (go:∀ x y,xs[j]?=some x->ys[j]?=some y->∀ h2,yL (rawInt s.heap.objs.size) k1 k2 l1 l2 n (j+1) (j+1) h2->IsPair h2 s.heap.objs.size x y->oE n s.heap h2->Q (some (.ref s.heap.objs.size)) { s with heap:=h2 })
  (stop:xs[j]?=none∨ys[j]?=none->∀ h2,oE n s.heap h2->Q none { s with heap:=h2 }):wpAny (model prog w) A (pyNext (.ref (n+4))) Q E s:=by
 have ty:s.TypeIs (.ref (n+4)) "zip" := ⟨_,g.1,rfl⟩;unfold pyNext
 refine wpAny_bind (wpAny_attempt (wpAny_callSpecial?_slot (name:=Str.ofString "__next__") ty F.slot_zip_next (wpAny_call_entry F.slot_zip_next ty F.entry_zip_next
  (zSx hh b1 b2 g d1 d2 (fun x y q1 q2 h2 a1 a2 a3=>⟨_,rfl,wpAny_pure (go x y q1 q2 h2 a1 a2 a3)⟩) fun q h2 e k he=>?_) (F.args_zip_next_1 _))))
 obtain⟨o,eo,co⟩:=he;exact wpAny_bind (wpAny_isInstance (T := "StopIteration") (b:=true) ⟨o,eo,co⟩ isSubtype_stop (wpAny_pure (stop q h2 k)))
end
abbrev zO(k:Bool)(l:Addr):Obj:={ cls:=.type (itN k),data:=.fields #[.ref l,.int 0 0] }
abbrev zH2(k1 k2:Bool)(h:Heap)(l1 l2:Addr):Heap:=(h.push (zO k1 l1)).push (zO k2 l2)
abbrev zH3(k1 k2:Bool)(h:Heap)(l1 l2:Addr):Heap:=(zH2 k1 k2 h l1 l2).push { cls:=.type "tuple", data:=.seq #[.ref h.objs.size,.ref (h.push (zO k1 l1)).objs.size] }
abbrev zH4(k1 k2:Bool)(h:Heap)(l1 l2:Addr):Heap:=(zH3 k1 k2 h l1 l2).push { cls:=.type "tuple", data:=.seq #[.none,.none] }
abbrev zH5(k1 k2:Bool)(h:Heap)(l1 l2:Addr):Heap:=(zH4 k1 k2 h l1 l2).push { cls:=.type "zip", data:=.fields #[.none,.bool false,.bool false,.ref (zH2 k1 k2 h l1 l2).objs.size,.ref (zH3 k1 k2 h l1 l2).objs.size] }
theorem zKh(k1 k2:Bool)(l1 l2:Addr)(xs ys:Array Value):Meets (Builtin.«zip.__new__» ⟨[.type "zip", .ref l1,.ref l2],[]⟩) (fun _ R s=>xM k1 s.heap l1 xs/\xM k2 s.heap l2 ys/\
  R (.ok (.ret (.ref (zH4 k1 k2 s.heap l1 l2).objs.size))) { s with heap:=zH5 k1 k2 s.heap l1 l2 }):=
 .of_wp fun prog w A R s h=>by
  obtain⟨hp,g,d,tk,os⟩:=s;obtain⟨hl1,hl2,h⟩:=h;have hsub:=sub_zip;have d1:xM k1 (Shared.heap ⟨hp,g,d,tk,os⟩) l1 xs:=hl1;have d2:xM k2 (Shared.heap ⟨hp.push { cls:=.type (itN k1),data:=.fields #[.ref l1,.int 0 0] },g,d,tk,os⟩) l2 ys:=hl2.go fun o e=>Heap.get?_push_of_some _ e
  wp_walk using zIO d1,zIO d2
  exact⟨_,rfl,h⟩
section
variable{prog:Program}{w:World}{A:Around}{E:Value->Shared->Prop}{s:Shared}
theorem zJX{k1 k2:Bool}{l1 l2:Addr}{xs ys:Array Value}{Q:Value->Shared->Prop}(d1:xM k1 s.heap l1 xs)(d2:xM k2 s.heap l2 ys)
  (h:∀ h2,yL .none k1 k2 l1 l2 s.heap.objs.size 0 0 h2->(∀ c o,s.heap.get? c=some o->h2.get? c=some o)->Q (.ref (s.heap.objs.size+4)) { s with heap:=h2 }):wpAny (model prog w) A (call (.type "zip") [.ref l1,.ref l2]) Q E s:=by
 refine callType_new F.called_zip (by decide) (F.typeCall_zip_2 _ _) (F.newCall_zip_2 _ _) (fun obj=>F.args_object_init_3 obj _ _) F.entry_zip_new (zKh k1 k2 l1 l2 xs ys) ⟨d1,d2,?_⟩
 have up:∀ {h:Heap} {a:Addr} {o ob:Obj},h.get? a=some o->(h.push ob).get? a=some o:=fun e=>Heap.get?_push_of_some _ e
 have m1:(s.heap.push (zO k1 l1)).objs.size=s.heap.objs.size+1:=Heap.size_push ..;have m2:(zH2 k1 k2 s.heap l1 l2).objs.size=s.heap.objs.size+2:=(Heap.size_push ..).trans (congrArg (·+1) m1);have m3:(zH3 k1 k2 s.heap l1 l2).objs.size=s.heap.objs.size+3:=(Heap.size_push ..).trans (congrArg (·+1) m2);have m4:(zH4 k1 k2 s.heap l1 l2).objs.size=s.heap.objs.size+4:=(Heap.size_push ..).trans (congrArg (·+1) m3);have r0:(zH5 k1 k2 s.heap l1 l2).get? s.heap.objs.size=some (zO k1 l1):=up (up (up (up (Heap.get?_push_size _ rfl))));have r1:(zH5 k1 k2 s.heap l1 l2).get? (s.heap.push (zO k1 l1)).objs.size=some (zO k2 l2):=up (up (up (Heap.get?_push_size _ rfl)));have r2:(zH5 k1 k2 s.heap l1 l2).get? (zH2 k1 k2 s.heap l1 l2).objs.size=some _:=up (up (Heap.get?_push_size _ rfl));have r3:(zH5 k1 k2 s.heap l1 l2).get? (zH3 k1 k2 s.heap l1 l2).objs.size=some _:=up (Heap.get?_push_size _ rfl);have r4:(zH5 k1 k2 s.heap l1 l2).get? (zH4 k1 k2 s.heap l1 l2).objs.size=some _:=Heap.get?_push_size _ rfl;rw[m1] at r1;rw[m1,m2] at r2;rw[m3] at r3;rw[m2,m3,m4] at r4;show _/\_
 rw[m4];exact⟨⟨_,r4,rfl⟩,h _ ⟨r4,r2,⟨_,_,r3⟩,.mk r0 rfl rfl,.mk r1 rfl rfl⟩ fun c o x=>up (up (up (up (up x))))⟩
end
section
variable{X:Cx}{pins:List (Addr×Obj)}{σ:St}{H:Hp}{s:Shared}{h':Heap}{fp:List Addr}
theorem zOh{t':Nat}{p:Addr}{xs:List V}{us:List Value}(I:Inv X pins σ H s)(hf:∀ b∈fp,sL X pins H b)(k:∀ b o,b∉fp->s.heap.get? b=some o->h'.get? b=some o)
  (hp:s.heap.objs.size<=p) (ht:IsTup h' p us.toArray) (hv:dN xs us) (hz:xs.length<=sizeLine):Inv X pins σ (upd H p (.tup xs)) { s with heap:=h',toks:=t' }:=by
 have hn:H p=none:=I.hok.fresh hp;have nf:∀ b u,H b=some u->b∉fp:=fun b u e z=>by rw[(hf b z).1] at e;cases e
 have np:∀ b u,H b=some u->upd H p (.tup xs) b=some u:=fun b u e=>by rw[aW (bB e hn)];exact e
 refine I.step (g':=s.gens) (d':=s.drawn) (ch:=fp) (fun b hb=>⟨(hf b hb).2.2.2.1,(hf b hb).2.1,(hf b hb).2.2.2.2.1,(hf b hb).2.2.2.2.2⟩) (fun b o _ _ hc e _=>k b o hc e) (fun b o _ _ hc e _=>⟨o.slots,k b o hc e⟩) (fun b o _ e n=>?_)
  (fun b o hc e=>⟨o,k b o hc e⟩) (fun b xs e=>np _ _ e) (fun b o u e=>np _ _ e) (fun b ps e=>⟨#[],by rw[np _ _ e];simp⟩) (fun m hm=>?_) (fun b u e=>?_) I.bare
 ·rw[aW (Qt (Qs (Heap.lt_size e) hp))];exact n
 ·obtain⟨o,es,ep,ho,r⟩:=hm
  exact⟨o,es,ep,k _ o (fun z=>(hf _ z).2.1 rfl) ho,r⟩
 ·by_cases hb:b=p
  ·subst hb
   rw[aY] at e;cases e
   exact⟨hz,us,hv,ht⟩
  ·rw[aW hb] at e
   refine(I.hok b u e).stay (fun c v hc q=>k c v ?_ q) (fun _ q=>np _ _ q) fun _ _ q=>np _ _ q
   rcases hc with z | z
   ·rw[z];exact nf b u e
   ·exact nf c _ z
theorem zMI{t':Nat}(I:Inv X pins σ H s)(hf:∀ b∈fp,sL X pins H b)(k:∀ b o,b∉fp->s.heap.get? b=some o->h'.get? b=some o):Inv X pins σ H { s with heap:=h',toks:=t' }:=by
 have nf:∀ b u,H b=some u->b∉fp:=fun b u e z=>by rw[(hf b z).1] at e;cases e
 refine I.step (g':=s.gens) (d':=s.drawn) (ch:=fp) (fun b hb=>⟨(hf b hb).2.2.2.1,(hf b hb).2.1,(hf b hb).2.2.2.2.1,(hf b hb).2.2.2.2.2⟩) (fun b o _ _ hc e _=>k b o hc e) (fun b o _ _ hc e _=>⟨o.slots,k b o hc e⟩) (fun b o _ e n=>n)
  (fun b o hc e=>⟨o,k b o hc e⟩) (fun b xs e=>e) (fun b o u e=>e) (fun b ps e=>⟨#[],by rw[e];simp⟩) (fun m hm=>?_) (fun b u e=>?_) I.bare
 ·obtain⟨o,es,ep,ho,r⟩:=hm
  exact⟨o,es,ep,k _ o (fun z=>(hf _ z).2.1 rfl) ho,r⟩
 ·refine(I.hok b u e).stay (fun c v hc q=>k c v ?_ q) (fun _ q=>q) fun _ _ q=>q
  rcases hc with z | z
  ·rw[z];exact nf b u e
  ·exact nf c _ z
end
def SqK(k:Bool)(K:PySem.W.Frag)(H:Hp)(a:Addr)(xs:List V):Prop:=if k then SqL K H a xs else SqT K H a xs
theorem sR{k:Bool}{K:Fg_}{H H':Hp}(e:Same H H'){a:Addr}{xs:List V}(h:SqK k K H a xs):SqK k K H' a xs:=by
 cases k
 ·exact cJ e h
 ·exact cK e h
section
variable{X:Cx}{pins:List (Addr×Obj)}{σ:St}{H:Hp}{s:Shared}{k:Bool}{a:Addr}{xs ys:List V}
theorem sqI(I:Inv X pins σ H s)(h:SqK k X.K H a xs):∃ its:List Value,dN xs its/\xM k s.heap a its.toArray/\xs.length<=sizeLine:=by
 cases k
 ·obtain⟨its,rv,p,hz⟩:=I.tuple h
  exact⟨its,rv,p,hz⟩
 ·obtain⟨its,rv,p,hz⟩:=I.list h
  exact⟨its,rv,p.isList,hz⟩
theorem zHv(I:Inv X pins σ H s)(h:SqK k X.K H a xs)(h':SqK k X.K H a ys):xs=ys:=by
 cases k
 ·exact I.tuple_inj h h'
 ·exact I.list_inj h h'
theorem xM.lt{h:Heap}{l:Addr}{xs:Array Value}(x:xM k h l xs):l<h.objs.size:=by
 cases k<;>(obtain⟨o,e,_⟩:=x;exact Heap.lt_size e)
end
def Itz(K:PySem.W.Frag)(k1 k2:Bool)(a1 a2:Addr):It:=
  ⟨fun i H=>∃ xs ys x y,SqK k1 K H a1 xs/\SqK k2 K H a2 ys/\xs[i]?=some x/\ys[i]?=some y,
   fun i H v H'=>∃ p x y,v=.ref p/\H p=none/\H'=upd H p (.tup [x,y])/\(∀ xs,SqK k1 K H a1 xs->xs[i]?=some x)/\∀ ys,SqK k2 K H a2 ys->ys[i]?=some y,
   fun i H=>∃ xs ys,SqK k1 K H a1 xs/\SqK k2 K H a2 ys/\(xs.length<=i∨ys.length<=i)⟩
def zSw(k1 k2:Bool)(a1 a2 n:Addr)(i:Nat)(h:Heap):Prop:=yL .none k1 k2 a1 a2 n i i h
theorem tN{h:Heap}{b:Addr}{o:Obj}{d:Data}(e:h.get? b=some o)(hd:o.data=d)(nd:∀ v,d≠.cell v):∃ o,h.get? b=some o/\∀ v,o.data≠.cell v:=⟨o,e,fun v z=>nd v (hd.symm.trans z)⟩
theorem zKF{P:Program}{w:World}{K:Fg_}{elts:List Expr}{x1:Nat}{tp:Pos}(k1 k2:Bool)(a1 a2 n:Addr)(l1:a1<n)(l2:a2<n):
  Turn P w K (.Tuple elts x1 tp) (Itz K k1 k2 a1 a2) [n+4,n+2,n+3,n,n+1] (n+4) (zSw k1 k2 a1 a2 n) where
 mem:=by simp
 obj:=fun i h st b hb=>by
  obtain⟨t1,t2,⟨a,b',t3⟩,t4,t5⟩:=st;obtain⟨o4,e4,_,d4⟩:=t4.get;obtain⟨o5,e5,_,d5⟩:=t5.get;simp only[Qe,V8,or_false] at hb;rcases hb with rfl | rfl | rfl | rfl | rfl
  ·exact tN t1 rfl fun v z=>by cases z
  ·exact tN t2 rfl fun v z=>by cases z
  ·exact tN t3 rfl fun v z=>by cases z
  ·exact tN e4 d4 fun v z=>by cases z
  ·exact tN e5 d5 fun v z=>by cases z
 keep:=fun i h h' st k=>by
  obtain⟨t1,t2,⟨a,b',t3⟩,t4,t5⟩:=st;exact⟨k _ (by simp) _ t1,k _ (by simp) _ t2,⟨a,b',k _ (by simp) _ t3⟩,t4.go fun o e=>k _ (by simp) o e,t5.go fun o e=>k _ (by simp) o e⟩
 item:=by
  intro X hP hw hK hc i pins s σ H E I hf st hg;subst hP hw hK;obtain⟨xs,ys,x,y,q1,q2,hx,hy⟩:=hg;obtain⟨us,r1,s1,z1⟩:=sqI I q1;obtain⟨ws,r2,s2,z2⟩:=sqI I q2;obtain⟨u,hu,ru⟩:=r1.get hx;obtain⟨v,hv,rv⟩:=r2.get hy;have hu':us.toArray[i]?=some u:=by simpa using hu
  have hv':ws.toArray[i]?=some v:=by simpa using hv
  have st':=st;obtain⟨t1,t2,⟨a,b,t3⟩,t4,t5⟩:=st;refine zSk (I.ok.hd hc) l1 l2 st' s1 s2 (fun x' y' f1 f2 h' g' p' kz=>?_) (fun q=>?_)
  rotate_left
  ·rw[hu',hv'] at q;rcases q with q | q<;>cases q
  rw[hu'] at f1;cases f1
  rw[hv'] at f2;cases f2
  refine⟨_,rfl,wpAny_letOwnedTupleGo_zip (s:={ s with heap:=h' }) g'.1 fun h'' c1 c2=>?_⟩
  have zl:s.heap.objs.size≠n+4:=Xl (Heap.lt_size t1);have np:H s.heap.objs.size=none:=I.hok.fresh (Qf _)
  have I1:Inv X pins σ (upd H s.heap.objs.size (.tup [x,y])) { s with heap:=h'',toks:=s.toks }:=zOh (us:=[u,v]) I hf (fun b o hb e=>by
    simp only[Qe,V8,or_false,not_or] at hb
    exact c2.extBut b o hb.1 (kz b o hb.1 hb.2.2.1 hb.2.2.2.1 hb.2.2.2.2 e)) (Qf _) ⟨_,c2.extBut _ _ zl p',rfl,_,rfl⟩ (.cons ru (.cons rv .nil)) (show 2<=sizeLine by decide)
  refine⟨.ref s.heap.objs.size,_,I1,rfl,⟨_,x,y,rfl,np,rfl,fun zs hz=>by rw[zHv I hz q1];exact hx,fun zs hz=>by rw[zHv I hz q2];exact hy⟩,g'.fld c1 c2.extBut,fun b hb=>?_⟩
  ·obtain⟨o,e,_⟩:∃ o,s.heap.get? b=some o/\True:=by
    obtain⟨o4,e4,_⟩:=t4.get;obtain⟨o5,e5,_⟩:=t5.get;simp only[Qe,V8,or_false] at hb;rcases hb with rfl | rfl | rfl | rfl | rfl
    ·exact⟨_,t1,trivial⟩
    ·exact⟨_,t2,trivial⟩
    ·exact⟨_,t3,trivial⟩
    ·exact⟨_,e4,trivial⟩
    ·exact⟨_,e5,trivial⟩
   rw[aW (Qt (Heap.lt_size e))];exact(hf b hb).1
 done:=by
  intro X hP hw hK hc i pins s σ H E I hf st hg;subst hP hw hK;obtain⟨xs,ys,q1,q2,hl⟩:=hg;obtain⟨us,r1,s1,z1⟩:=sqI I q1;obtain⟨ws,r2,s2,z2⟩:=sqI I q2;have st':=st;obtain⟨t1,t2,⟨a,b,t3⟩,t4,t5⟩:=st;have e1:=r1.length;have e2:=r2.length;refine zSk (I.ok.hd hc) l1 l2 st' s1 s2 (fun x y f1 f2=>?_) fun _ h' b7=>⟨rfl,zMI (t':=s.toks) I hf fun b o hb e=>?_⟩
  ·have m1:=(YI.mp f1).1
   have m2:=(YI.mp f2).1;rw[Ql] at m1 m2;omega
  ·simp only[Qe,V8,or_false,not_or] at hb
   exact b7 b o hb.1 hb.2.2.1 hb.2.2.2.1 hb.2.2.2.2 e
 self:=fun _ _ _ _ _ st h=>wpAny_pyIter_zip st.1 h
section
unseal PEd PEf PTd PWd PAd PSd eX POd PGd iW PId PSx nU PTs PCd PCf
variable{X:Cx}{G:Gx}{fs:Fv}{f:Ev}
def iZp(K:PySem.W.Frag)(ta:TA):TI:=fun σ H R=>ta σ H fun vs H1=>∃ k1 k2 a1 a2 xs ys,vs=[.ref a1,.ref a2]/\SqK k1 K H1 a1 xs/\SqK k2 K H1 a2 ys/\R (Itz K k1 k2 a1 a2) H1
theorem zPm{a b:Expr}{ta:TA}{p pos:Pos}{elts:List Expr}{x1:Nat}{tp:Pos}(hg:Gl X "zip")(hm:X.mg "zip" = none)(ha:PA X [a,b] ta)
  (hs:starEach [a,b] X.env=[(false,eval a X.env),(false,eval b X.env)]:=by rfl) (hs2:starEach [b] X.env=[(false,eval b X.env)]:=by rfl):PI X (.Tuple elts x1 tp) (.Call (.Name "zip" p) [a,b] [] pos) (iZp X.K ta):=by
 intro pins s σ H R I h;refine Call_ (pO I hg hm boot_zip (VZ (thn (ha pos pins s σ H _ I h) fun us s1 ⟨vs,H1,I1,r1,q1⟩=>?_) (by rw[hs,hs2]) (by rw[hs2];rfl)))
 obtain⟨k1,k2,a1,a2,xs,ys,rfl,h1,h2,q⟩:=q1
 cases r1 with
 | cons r rr=>
  cases rr with
  | cons r' rr=>
   cases rr;cases r;cases r'
   obtain⟨us,rv,p1,z1⟩:=sqI I1 h1;obtain⟨ws,rw_,p2,z2⟩:=sqI I1 h2;refine zJX p1 p2 fun h' b1 b6=>wpAny_pyIter_zip (s:={ s1 with heap:=h' }) b1.1 ?_
   refine⟨s1.heap.objs.size+4,_,_,_,H1,rfl,I1.kept (t':=s1.toks) b6,zKF k1 k2 a1 a2 s1.heap.objs.size p1.lt p2.lt,b1,fun b hb=>?_,q⟩
   have hb':s1.heap.objs.size<=b:=by
    simp only[Qe,V8,or_false] at hb;rcases hb with rfl | rfl | rfl | rfl | rfl<;>omega
   exact I1.fpOk hb' (I1.hok.fresh hb')
theorem zBz:∀(xs ys:List D)(i:Nat)(d:D),(jV xs ys)[i]?=some d->∃ a b,xs[i]?=some a/\ys[i]?=some b/\d=.tup [a,b]
 | a::r,b::q,0,d,h=>by cases h;exact⟨a,b,rfl,rfl,rfl⟩
 | a::r,b::q,i+1,d,h=>zBz r q i d h
 | [],_,i,d,h=>by cases i<;>cases h
 | a::r,[],i,d,h=>by cases i<;>cases h
theorem zCs:∀(xs ys:List D),(jV xs ys).length=min xs.length ys.length
 | a::r,b::q=>by
  have:=zCs r q
  simp only[jV,Qn,this];omega
 | [],_=>by simp[jV]
 | a::r,[]=>by simp[jV]
theorem zHB{K:Fg_}{Hi:Hp}{k1 k2:Bool}{a1 a2:Addr}{xs ys:List V}{ds es:List D}(h1:SqK k1 K Hi a1 xs)(h2:IsDs K Hi xs ds)(h3:SqK k2 K Hi a2 ys)(h4:IsDs K Hi ys es):
  xV K Hi (Itz K k1 k2 a1 a2) (jV ds es):=fun Hi1 H1 s1 s2 i=>by
 have g1:=sR (s1.trans s2) h1;have g3:=sR (s1.trans s2) h3;refine⟨fun hl=>⟨xs,ys,g1,g3,?_⟩,fun d hd=>?_⟩
 ·rw[zCs] at hl
  have e1:=h2.length;have e2:=h4.length;omega
 ·obtain⟨a,b,ha,hb,rfl⟩:=zBz ds es i d hd
  obtain⟨v,hv,rv⟩:=h2.at ha;obtain⟨w,hw,rw_⟩:=h4.at hb;refine⟨⟨xs,ys,v,w,g1,g3,hv,hw⟩,fun x H2 y=>?_⟩
  obtain⟨p,x',y',rfl,hp,rfl,y1,y2⟩:=y;have e1:=y1 xs g1;have e2:=y2 ys g3;rw[hv] at e1;cases e1
  rw[hw] at e2;cases e2
  have hi:=s2.none hp;have sm:=dA hi (.tup [v,w]);exact⟨upd Hi1 p (.tup [v,w]),Ext.new s2 hp,.tup (.inl (.inl aY)) (.cons ((rv.mono s1).mono sm) (.cons ((rw_.mono s1).mono sm) .nil))⟩
theorem zRY{K:Fg_}{H:Hp}{v:V}{d:D}{ds:List D}(h:IsD K H v d)(e:zJn d=some ds):∃ k a xs,v=.ref a/\SqK k K H a xs/\IsDs K H xs ds:=by
 cases d with
 | lst es=>cases e;obtain⟨a,xs,rfl,h1,h2⟩:=h.lstI;exact⟨true,a,xs,rfl,h1,h2⟩
 | tup es=>cases e;obtain⟨a,xs,rfl,h1,h2⟩:=h.tupI;exact⟨false,a,xs,rfl,h1,h2⟩
 | _=>cases e
theorem zGr{a b:Expr}{p pos:Pos}{elts:List Expr}{x1:Nat}{tp:Pos}(hg:Gl X "zip")(hm:X.mg "zip" = none)(ha:PAd X G [a,b] fs)
  (hs:starEach [a,b] X.env=[(false,eval a X.env),(false,eval b X.env)]:=by rfl) (hs2:starEach [b] X.env=[(false,eval b X.env)]:=by rfl):
  PId X G (.Tuple elts x1 tp) (.Call (.Name "zip" p) [a,b] [] pos) (zLy fs):=PI.wk (zPm hg hm ha hs hs2) fun σ H Q q=>by
 obtain⟨ρ,Hi,R,ou⟩:=q;refine zJL R ou fun vs ds Hi1 H1 e1 R1 r1 o1=>?_
 split at o1
 ·rename_i x y
  obtain⟨v,w,rfl,h,h'⟩:=r1.two;split at o1
  ·rename_i ds es q1 q2
   obtain⟨k1,a1,xs,rfl,g1,g2⟩:=zRY h q1;obtain⟨k2,a2,ys,rfl,g3,g4⟩:=zRY h' q2;exact⟨k1,k2,a1,a2,xs,ys,rfl,sR R1.s g1,sR R1.s g3,o1.here R1.s _ (zHB g1 g2 g3 g4)⟩
  ·exact o1.elim
 ·exact o1.elim
end
end L3
namespace L3
open PySem PySem.Spec PyProof.Rows L2
unseal PEd PEf PTd PWd PAd PSd eX POd PGd iW PId PSx nU PTs PCd PCf
structure BlkOk2 (X:Cx) (xs:List Str) (scope:Scope):Prop where
 kind:scope.kind=.function
 cell:∀ y∈scope.names,y.2≠.cell
 loc:∀ x∈xs,scope.names.lookup x=some .local
 names:∀ y∈scope.names,y.2=.local->scope.names.lookup y.1=some .local
 fre:∀ p∈scope.names,p.2=.free->X.env.kindOf p.1=some .cell∨X.env.kindOf p.1=some .free
 oth:∀ y∈X.N,scope.names.lookup y≠some .local
def zCH(X:Cx)(xs:List Str)(scope:Scope)(C:Addr)(s₂:Shared)(H₂:Hp)(fp:List Addr):Cx:=
  { prog:=X.prog,w:=X.w,K:=X.K,mg:=X.mg,base:=X.base,A:=X.A,N:=X.N++xs,s₀:=s₂,H₀:=H₂,env:=compEnvC scope (zDq X.env scope.names []) C X.env,outer:=X.stack,stack:=X.stack,
    ex:=fp,fn:=fun _=>false,calm:=X.calm,pn:=X.pn,xe:=fun _ _=>False }
section
variable{X:Cx}{pins:List (Addr×Obj)}{σ:St}{H:Hp}{s₂:Shared}{xs:List Str}{scope:Scope}{fp:List Addr}{D C:Addr}{h₁:Heap}
theorem BlkOk2.cl(B:BlkOk2 X xs scope)(I:Inv X pins σ H s₂):∀ p∈scope.names,p.2=.free->∃ c,X.env.cells.lookup p.1=some c:=fun p hp e=>I.ok.has p.1 (B.fre p hp e)
theorem zPr(I:Inv X pins σ H s₂)(B:BlkOk2 X xs scope)(hfp:∀ b∈fp,sL X pins H b)(hfl:∀ b∈fp,b<s₂.heap.objs.size)(hD:s₂.heap.objs.size<=D)(hC:s₂.heap.objs.size<=C)(hDC:D≠C)
  (old:∀ b o,s₂.heap.get? b=some o->h₁.get? b=some o) {n:Nat} (hacc:h₁.get? D=some { cls:=.type "list", data:=.seq ([]:List Value).toArray n }) {m:Str->Option Value} (hns:h₁.Ns C m) (t:Nat):
  Inv (zCH X xs scope C s₂ H fp) pins (σ++xs.map fun _=>none) (upd H D (.lst [])) { s₂ with heap:=h₁,toks:=t }:=by
 have sub:=uA scope.names [] (B.cl I) (fun y c e=>nomatch e)
 have old_lt:∀ {b:Addr} {o:Obj},s₂.heap.get? b=some o->b≠D/\b≠C:=fun e=>⟨Qt (Qs (Heap.lt_size e) hD),Qt (Qs (Heap.lt_size e) hC)⟩
 have free:∀ {b:Addr},b≠D->H b=none->upd H D (.lst []) b=none:=fun n e=>by rw[aW n];exact e
 refine⟨⟨I.ok.mod,B.kind,I.ok.glob,I.ok.blt,hC,fun y z c e1 e2=>I.ok.inj y z c (sub y c e1) (sub z c e2),fun y hy=>?_,fun y c e=>(nomatch e),I.ok.hd,I.ok.frames,.inl rfl,fun b hb=>⟨Qt (Qs (hfl b hb) hC),fun y c e=>(hfp b hb).2.2.2.2.1 y c (sub y c e)⟩,
  I.bs,Qv I.ok.bsz I.sz,fun b o e hb=>?_,fun b hb z=>?_,I.stack,I.stkFree⟩,rfl,I.bare,Un.laid old hD (I.hok.fresh hD),⟨m,hns,fun i y v e1 e2 e3=>?_⟩,fun y c e=>?_,free (Ne.symm hDC) (I.hok.fresh hC),fun y c e=>?_,fun p hp=>?_,I.hok.laid old hD ⟨QY _,[],n,.nil,hacc⟩,?_⟩
 ·have:∃ k,(k=NameKind.cell∨k=NameKind.free)/\((relabel scope X.env).names).lookup y=some k:=hy.elim (fun h=>⟨_,.inl rfl,h⟩) fun h=>⟨_,.inr rfl,h⟩
  obtain⟨k,hk,e⟩:=this
  have e':(y,NameKind.free)∈scope.names:=by
   rcases cG e with z | ⟨_,z⟩
   ·rcases hk with rfl | rfl
    ·exact absurd rfl (B.cell _ (bU z))
    ·exact bU z
   ·exact bU z
  exact vH scope.names [] y e'
 ·rcases (hfp b hb).2.2.2.1 with z | z
  ·exact I.ok.noex b o e z
  ·exact absurd (Qs (Heap.lt_size e) (Qv I.ok.bsz z)) (Q3 _)
 ·rcases Qe.mp (I.stkSub b z) with w | w
  ·exact(hfp b hb).2.1 w
  ·exact(hfp b hb).2.2.1 w
 ·
  have hi:i<σ.length:=by
   by_cases hi:i<σ.length
   ·exact hi
   ·exfalso
    rw[QX (by omega),Qr] at e2
    cases q:xs[i-σ.length]? with
    | none=>rw[q] at e2;cases e2
    | some z=>rw[q] at e2;cases e2
  rw[QO hi] at e2;have e1':(X.N++xs)[i]?=some y:=e1;rw[QO (by rw[<-I.len];exact hi)] at e1'
  cases q:X.N[i]? with
  | none=>rw[q] at e1';cases e1'
  | some z=>
   rw[q] at e1';have hy:z=y:=QK e1';have hz:z∈X.N:=Qm q;subst hy
   have fr:(z,NameKind.free)∈scope.names:=by
    rcases e3 with h | h | h
    ·rcases cG h with h | ⟨h,_⟩
     ·exact absurd h (B.oth z hz)
     ·cases h
    ·rcases cG h with h | ⟨_,h⟩
     ·exact absurd rfl (B.cell _ (bU h))
     ·exact bU h
    ·rcases cG h with h | ⟨h,_⟩
     ·exact bU h
     ·cases h
   have kd:=B.fre _ fr rfl;obtain⟨m0,hn0,hl⟩:=I.loc;obtain⟨u,ru,lk⟩:=hl i z v q e2 (kd.elim (fun h=>.inr (.inl h)) fun h=>.inr (.inr h))
   refine⟨u,ru,.inr ⟨?_,?_⟩⟩
   ·rcases e3 with h | h | h
    ·rcases cG h with h | ⟨h,_⟩
     ·exact absurd h (B.oth z hz)
     ·cases h
    ·exact .inl h
    ·exact .inr h
   ·rcases lk with⟨k1,_⟩ | ⟨_,c,hc,hcell⟩
    ·rcases kd with kd | kd<;>(rw[kd] at k1;cases k1)
    ·obtain⟨c',hc'⟩:=vH (env:=X.env) scope.names [] z fr
     have:=sub z c' hc'
     rw[hc] at this;cases this;obtain⟨o,ho,hd⟩:=hcell;exact⟨c,hc',o,old _ _ ho,hd⟩
 ·obtain⟨v,o,ho,hd⟩:=I.cell y c (sub y c e)
  exact⟨v,o,old _ _ ho,hd⟩
 ·obtain⟨v,o,ho,hd⟩:=I.cell y c (sub y c e)
  exact free (old_lt ho).1 (I.freeC y c (sub y c e))
 ·obtain⟨e,n,ne,nf,d⟩:=I.pin p hp
  refine⟨old _ _ e,free (old_lt e).1 n,(old_lt e).2,fun z=>?_,d⟩
  rcases Qe.mp (I.stkSub _ z) with w | w
  ·exact ne w
  ·exact nf w
 ·show(σ++xs.map fun _=>none).length=(X.N++xs).length
  rw[Qi,Qi,Qd,I.len]
end
theorem zDr{f:Ev}{ρ:Rho}{d:D}{ds es:List D}(h:fW f ρ (d::ds)=.ok es):
  ∃ a b e es',d=.tup [a,b]/\f (ρ++[.val a,.val b])=.ok e/\fW f ρ ds=.ok es'/\es=e::es':=by
 unfold fW at h;split at h
 ·cases ‹_=[]›
 ·rename_i a b ds' q
  cases q
  cases hf:noErr (f (ρ++[.val a,.val b])) with
  | no=>rw[hf] at h;cases h
  | err c=>rw[hf] at h;cases h
  | ok e=>
   rw[hf] at h
   cases hr:fW f ρ ds with
   | no=>simp only[Res.bind,hr] at h;cases h
   | err c=>simp only[Res.bind,hr] at h;cases h
   | ok es'=>
    simp only[Res.bind,hr] at h;cases h;exact⟨a,b,e,es',rfl,zAV hf,rfl,rfl⟩
 ·cases h
theorem zBk{f:Ev}{ρ:Rho}{c:Str}:∀ {ds:List D},fW f ρ ds≠.err c
 | []=>fun h=>by cases h
 | d::ds=>fun h=>by
  unfold fW at h;split at h
  ·cases ‹_=[]›
  ·rename_i a b ds' q
   cases q
   cases hf:noErr (f (ρ++[.val a,.val b])) with
   | no=>rw[hf] at h;cases h
   | err c=>cases q:f (ρ++[.val a,.val b])<;>(rw[q] at hf;cases hf)
   | ok e=>
    rw[hf] at h
    cases hr:fW f ρ ds with
    | no=>simp only[Res.bind,hr] at h;cases h
    | err c'=>exact zBk hr
    | ok es'=>simp only[Res.bind,hr] at h;cases h
  ·cases h
section
variable{X:Cx}{G:Gx}{elt iter:Expr}{xa xb:Str}{pa pb tp pos:Pos}{x1:Nat}{scope:Scope}{it:Fv}{f:Ev}{k:Nat}
theorem zFB(hc:X.calm=true/\TB X.K X.mg G.Bi G.B)(hr:Room k X.A)(Bk:BlkOk2 X [xa,xb] scope)(hN:(X.N++[xa,xb]).Nodup)(hi:PId X G (.Tuple [.Name xa pa,.Name xb pb] x1 tp) iter it)
  (hb:∀(C:Addr)(s₂:Shared)(H₂:Hp)(fp:List Addr)(G':Gx),Good (zCH X [xa,xb] scope C s₂ H₂ fp) G' k->PEd (zCH X [xa,xb] scope C s₂ H₂ fp) G' elt f)
  (hs:∀ x,foldedSetIterable iter X.env x=pure x:=by intro _;rfl)
  {pins:List (Addr×Obj)} {s:Shared} {σ:St} {H Hi:Hp} {ρ:Rho} {use:Option (Value->Sem Unit)} {Q':Value->Shared->Prop} {Qa:Addr->Hp->Prop} {cpos:Pos} (I:Inv X pins σ H s) (R:lP X G Hi H σ ρ)
  (ou:Out G Hi H ((tH it f) ρ) fun ds Hi' H'=>∀ a,zJW X.K H Hi' H' a ds->Qa a H') (hend:zSp X pins σ use Q' Qa):
  wpAny (model X.prog X.w) X.A (comprehension (.ListComp elt [⟨.Tuple [.Name xa pa,.Name xb pb] x1 tp,iter,[],0⟩] scope pos) scope X.env cpos (newList []) false (eval iter X.env) use) Q' X.xe s:=by
 refine wpAny_comprehension_free (use:=use) rfl hs (zLC (Bk.cl I)) Bk.kind Bk.names ?_
 refine thn (hi pins s σ H (fun J H2=>∃ ds Hi2,Ext Hi H Hi2 H2/\xV X.K Hi2 J ds/\Out G Hi2 H2 (if ds.length<=16777215 then fW f ρ ds else .no) fun ds Hi' H'=>∀ a,zJW X.K H Hi' H' a ds->Qa a H') I
  ⟨ρ,Hi,R,(Out.bind ou).imp fun ds Hi2 H2 e2 o2 J gv=>⟨ds,Hi2,e2,gv,o2⟩⟩) fun v s1 h1=>thn h1 fun itv s2 h2=>?_
 obtain⟨itA,fp,tn,J,H2,rfl,I2,T,st2,f2,ds,Hi2,e2,gv,ou2⟩:=h2
 have hlen:ds.length<=16777215:=by
  by_cases hlen:ds.length<=16777215
  ·exact hlen
  ·rw[if_neg hlen] at ou2;exact ou2.elim
 rw[if_pos hlen] at ou2
 cases hes:fW f ρ ds with
 | no=>rw[hes] at ou2;exact ou2.elim
 | err c=>exact absurd hes zBk
 | ok es=>
  rw[hes] at ou2;have R2:lP X G Hi2 H2 σ ρ:=R.grow e2;refine wpAny_newObj_type (wpAny_newFunctionEnv Bk.cell (by intro y hy;simp at hy) (fun h₁ hns₁ hsb₁=>?_) Bk.kind)
  dsimp only at hns₁ hsb₁ ⊢
  generalize hH2:s2.heap.push { cls:=.type "list", dict:=none,data:=.seq ([]:List Value).toArray }=HP at hns₁ hsb₁ ⊢;have hC:HP.objs.size=s2.heap.objs.size+1:=by rw[<-hH2,Heap.size_push]
  have hDC:s2.heap.objs.size≠HP.objs.size:=by rw[hC];omega
  have ltC:∀ {b:Addr} {o:Obj},s2.heap.get? b=some o->b≠HP.objs.size:=fun e=>by rw[hC];exact Qt (Vw (Heap.lt_size e))
  have old:∀ b o,s2.heap.get? b=some o->h₁.get? b=some o:=fun b o e=>hsb₁.extBut b o (ltC e) (Heap.get?_push_of_some _ (hH2 ▸ Heap.get?_push_of_some _ e))
  have hacc:h₁.get? s2.heap.objs.size=some { cls:=.type "list", data:=.seq ([]:List Value).toArray 0 }:=hsb₁.extBut _ _ hDC (Heap.get?_push_of_some _ (hH2 ▸ Heap.get?_push_size _ rfl));have hfl:∀ b∈fp,b<s2.heap.objs.size:=fun b hb=>by obtain⟨o,e,_⟩:=T.obj _ _ st2 b hb;exact Heap.lt_size e
  have IE:=zPr (t:=s2.toks+([]:List (Str×Value)).length) I2 Bk f2 hfl (Qf _) (by rw[hC];omega) hDC old hacc hns₁
  have sub:=uA scope.names [] (Bk.cl I2) (fun y c e=>nomatch e)
  have H2D:H2 s2.heap.objs.size=none:=I2.hok.fresh (Qf _);have HD:H s2.heap.objs.size=none:=e2.h.none H2D;have Hi2D:Hi2 s2.heap.objs.size=none:=e2.s.none H2D;generalize hX:zCH X [xa,xb] scope HP.objs.size s2 H2 fp=Y at IE
  have GY:Good Y ⟨G.B,G.Bi,fun _ _=>False⟩ k:=by
   subst hX;exact⟨hc.1,hr,fun pins σ H s e s' _ h=>by obtain⟨_,_,_,_,_,c,_,z⟩:=h;exact z.elim,PassesOwn.never,hc.2⟩
  have hel:=(hX ▸ hb HP.objs.size s2 H2 fp ⟨G.B,G.Bi,fun _ _=>False⟩ (hX.symm ▸ GY):PEd Y ⟨G.B,G.Bi,fun _ _=>False⟩ elt f)
  have stat:∀ {H':Hp},(∀ b∈fp,H' b=none)->∀ b∈fp,sL Y pins H' b:=fun hn b hb=>by
   subst hX;refine⟨hn b hb,?_,fun z=>?_,.inl hb,fun y c e=>(f2 b hb).2.2.2.2.1 y c (sub y c e),(f2 b hb).2.2.2.2.2⟩
   ·show b≠HP.objs.size
    rw[hC];exact Qt (Vw (hfl b hb))
   ·rcases Qe.mp (I2.stkSub b z) with w | w
    ·exact(f2 b hb).2.1 w
    ·exact(f2 b hb).2.2.1 w
  have YN:Y.N.Nodup:=by subst hX;exact hN
  have Ya:Y.N[σ.length]?=some xa:=by
   subst hX;show(X.N++[xa,xb])[σ.length]?=some xa
   rw[QX (by rw[I2.len];omega),I2.len,VS];rfl
  have Yb:Y.N[σ.length+1]?=some xb:=by
   subst hX;show(X.N++[xa,xb])[σ.length+1]?=some xb
   rw[QX (by rw[I2.len];omega),I2.len,Nat.add_sub_cancel_left];rfl
  have Yla:Y.env.scope.names.lookup xa=some .local:=by subst hX;exact lookup_relabel_local (Bk.loc xa (by simp))
  have Ylb:Y.env.scope.names.lookup xb=some .local:=by subst hX;exact lookup_relabel_local (Bk.loc xb (by simp))
  have asg:PG Y (.Tuple [.Name xa pa,.Name xb pb] x1 tp) (L2.zGK Y.K 2 (L2.nX (L2.gName σ.length) (L2.nX (L2.gName (σ.length+1)) L2.zHJ))):=
   zLM (by subst hX;exact hc.1) (zAz (zDJ YN Ya (.inl Yla) (.inr Yla)) (zAz (zDJ YN Yb (.inl Ylb) (.inr Ylb)) zGw))
  have Ye:Y.env=compEnvC scope (zDq X.env scope.names []) HP.objs.size X.env:=by subst hX;rfl
  have Yxe:∀ e s,¬ Y.xe e s:=by subst hX;exact fun _ _ h=>h
  have tn1:tn 0 h₁:=T.keep _ _ _ st2 fun b _ o e=>old b o e
  have loop:∀ s3:Shared,s3={ s2 with heap:=h₁,toks:=s2.toks+([]:List (Str×Value)).length }->
    codeAny (model X.prog X.w) X.A (.compLoop (.ListComp elt [⟨.Tuple [.Name xa pa,.Name xb pb] x1 tp,iter,[],0⟩] scope pos) 0 (.ref itA) (.ref s2.heap.objs.size) Y.env) (compPost (model X.prog X.w) X.A X.xe use Q' (.ref s2.heap.objs.size) HP.objs.size) s3:=by
   rintro s3 rfl
   subst hX
   have fr0:∀ b∈fp,upd H2 s2.heap.objs.size (.lst []) b=none:=fun b hb=>by
    rw[aW (Qt (hfl b hb))];exact(f2 b hb).1
   refine PyProof.Rows.LCp.codeAny_compLoop_pair (fun n s'=>∃ c:CW,n=ds.length-c.i/\CS (zCH X [xa,xb] scope HP.objs.size s2 H2 fp) pins σ tn fp Hi2 H2 s2.heap.objs.size 2 (fun i=>fW f ρ (ds.drop i)) es c s') ?_ ds.length
    ⟨⟨0,[none,none],_,Hi2,[],[],es⟩,rfl,⟨IE,rfl,tn1,fr0,(Ext.refl e2.s).trans (Ext.newF e2.s H2D),aY,Hi2D,.nil,Qf _,hes,rfl⟩⟩
   ·rintro n s3 ⟨⟨i,vv,H3,Hi3,ys,done,rest⟩,rfl,I3,wd3,st3,fr3,e3,hD3,hiD3,rd3,hl3,hr3,hes3⟩
    dsimp only at I3 wd3 st3 fr3 e3 hD3 hiD3 rd3 hl3 hr3 hes3 ⊢
    obtain⟨v,v',rfl⟩:∃ v v',vv=[v,v']:=by
     match vv,wd3 with
     | [v,v'],_=>exact⟨v,v',rfl⟩
    obtain⟨w1,w2⟩:=gv Hi3 H3 e3.i e3.s i;have lift:∀ {α:Type} {m:Sem α} {Q':α->Shared->Prop} {E:Value->Shared->Prop} {s':Shared},wpAny (model X.prog X.w) X.A m Q' (zCH X [xa,xb] scope HP.objs.size s2 H2 fp).xe s'->wpAny (model X.prog X.w) X.A m Q' E s':=fun h=>wpAny_mono h (fun _ _ z=>z) fun e s z=>(Yxe e s z).elim
    by_cases hlt:i<ds.length
    ·obtain⟨d,hd⟩:∃ d,ds[i]?=some d:=⟨_,Qu hlt⟩
     obtain⟨go,yl⟩:=w2 d hd
     have e4:ds.drop i=d::ds.drop (i+1):=by
      rw[Qu hlt] at hd;cases hd;exact Xw hlt
     rw[e4] at hr3;refine thn (T.item (zCH X [xa,xb] scope HP.objs.size s2 H2 fp) rfl rfl rfl hc.1 i pins s3 _ H3 _ I3 (stat fr3) st3 go) fun r s4 ⟨u,hru,h4⟩=>?_
     subst hru;refine thn h4 fun _ s5 h5=>?_
     obtain⟨xv,H5,I5,r5,y5,st5,fr5⟩:=h5;obtain⟨Hi5,e5,rd5⟩:=yl xv H5 y5;have I5':=I5.pinned (stat fr5) (T.obj _ _ st5);obtain⟨a,b,e,es',rfl,hf,hr4,hee⟩:=zDr hr3;obtain⟨pa',ps,rfl,hq,hps⟩:=rd5.tupI;obtain⟨va,vb,rfl,ra,rb⟩:=hps.two;refine lift (thn (asg _ s5 _ H5 _ u (fun σ' H'=>σ'=σ++[some va,some vb]/\H'=H5) I5' r5 ⟨pa',_,rfl,cJ (e3.trans e5).s hq,rfl,va,_,rfl,vb,_,rfl,rfl,?_,rfl⟩) fun _ s6 h6=>?_)
     ·rw[Yc _ _ (Qf _),VS,Yc _ _ (VU _),Nat.succ_sub (Qf _),VS];rfl
     obtain⟨σ6,H6,I6,rfl,rfl⟩:=h6;have E5:Ext Hi2 H2 Hi5 H6:=e3.trans e5
     have R5:lP (zCH X [xa,xb] scope HP.objs.size s2 H2 fp) ⟨G.B,G.Bi,fun _ _=>False⟩ Hi5 H6 (σ++[some va,some vb]) (ρ++[.val a,.val b]):=by
      have:=Rel.snoc (Rel.snoc (R2.grow E5) ra) rb
      rw[Q4,Q4] at this;exact this
     obtain⟨hD5,hiD5⟩:=e5.out hD3 hiD3;have rd5':=rd3.mono e5.i
     have again:∀ {H8 Hi8:Hp} {ys':List V} {done' rest':List D} {s8:Shared},Inv (zCH X [xa,xb] scope HP.objs.size s2 H2 fp) (pins++uP fp s5.heap) (σ++[some va,some vb]) H8 s8->Ext Hi2 H2 Hi8 H8->H8 s2.heap.objs.size=some (.lst ys')->Hi8 s2.heap.objs.size=none->IsDs X.K Hi8 ys' done'->done'.length<=i+1->
       fW f ρ (ds.drop (i+1))=.ok rest'->es=done'++rest'->∃ m,m<ds.length-i/\∃ c:CW,m=ds.length-c.i/\CS (zCH X [xa,xb] scope HP.objs.size s2 H2 fp) pins σ tn fp Hi2 H2 s2.heap.objs.size 2 (fun i=>fW f ρ (ds.drop i)) es c s8:=fun {H8 Hi8 ys' done' rest' s8} I8 E8 a1 a2 a3 a4 a5 a6=>by
      refine⟨ds.length-(i+1),by omega,⟨i+1,[some va,some vb],H8,Hi8,ys',done',rest'⟩,rfl,⟨I8.unpinned,rfl,T.keep _ _ _ st5 fun b hb o e=>(I8.pin (b,o) (QA _ (QA _ (fI hb e)))).1,fun b hb=>?_,E8,a1,a2,a3,a4,a5,a6⟩⟩
      obtain⟨o,e,_⟩:=T.obj _ _ st5 b hb;exact(I8.pin (b,o) (QA _ (QA _ (fI hb e)))).2.1
     refine lift (thn (hel _ s6 _ H6 (fun w H'=>∃ Hi',Ext Hi5 H6 Hi' H'/\IsD X.K Hi' w e) I6 ⟨_,Hi5,R5,by rw[hf];exact fun Hi' H' ee w hw=>⟨Hi',ee,hw⟩⟩) fun u8 s8 h8=>?_)
     obtain⟨w8,H8,I8,r8,Hi8,e8,rw8⟩:=h8;obtain⟨hD8,hiD8⟩:=e8.out hD5 hiD5;have rdy:IsDs X.K Hi8 ys done:=rd5'.mono e8.i;refine lift (thn (uH (X:=(zCH X [xa,xb] scope HP.objs.size s2 H2 fp)) _ s8 _ H8 (.ref s2.heap.objs.size) [w8] (.ref s2.heap.objs.size) [u8] (fun _ H'=>H'=upd H8 s2.heap.objs.size (.lst (ys++[w8]))) I8 rfl (.cons r8 .nil) ⟨_,ys,w8,rfl,rfl,hD8,?_,rfl⟩) fun _ s9 h9=>?_)
     ·rw[rdy.length]
      exact Vu hl3 (Qs hlt (Qv hlen (by decide)))
     ·obtain⟨_,H9,I9,_,rfl⟩:=h9
      refine again I9 (Ext.rewrite (E5.trans e8) H2D hiD8 ⟨_,hD8⟩) aY hiD8 (rdy.snoc rw8) (by rw[Qi];exact X2 hl3) hr4 ?_
      rw[hes3,hee,Q4];rfl
    ·rw[Xq (by omega),fW] at hr3
     cases hr3;refine thn (T.done (zCH X [xa,xb] scope HP.objs.size s2 H2 fp) rfl rfl rfl hc.1 i pins s3 _ H3 _ I3 (stat fr3) st3 (w1 (by omega))) fun r s4 ⟨hrn,I4⟩=>?_
     subst hrn;obtain⟨m4,hn4,_⟩:=I4.loc;have fC:H3 HP.objs.size=none:=I4.free;have nC:∀ b u,H3 b=some u->b≠HP.objs.size:=fun b u e z=>by rw[z,fC] at e;cases e
     have U4:=I4.base;refine hend HP.objs.size s2.heap.objs.size m4 s4 H3 hn4 (fun h' hs'=>?_) (I2.fpOk (by rw[hC];omega) fC) ?_
     ·have kp:∀ b o,b≠HP.objs.size->s4.heap.get? b=some o->h'.get? b=some o:=fun b o hb e=>hs'.extBut b o hb e
      refine Inv.call' I2 (ch:=fp) I4.os ⟨fun b o e n hb hx=>kp b o (ltC e) (U4.keep b o e n hb hx),fun b o e n hb hx=>?_,U4.free,fun b o e hx=>?_,U4.tups,U4.frzs,U4.tbls⟩ (fun b u e=>?_) I4.bare (fun b hb=>⟨(f2 b hb).2.2.2.1,(f2 b hb).2.1,(f2 b hb).2.2.2.2.1,(f2 b hb).2.2.2.2.2⟩)
      ·obtain⟨sl,q⟩:=U4.slot b o e n hb hx
       exact⟨sl,kp b _ (ltC e) q⟩
      ·obtain⟨o',q⟩:=U4.there b o e hx
       exact⟨o',kp b _ (ltC e) q⟩
      ·refine(I4.hok b u e).stay (fun c v hc q=>kp c v ?_ q) (fun _ q=>q) fun _ _ q=>q
       rcases hc with z | z
       ·rw[z];exact nC b u e
       ·exact nC c _ z
     ·refine ou2 Hi3 H3 e3 _ ⟨HD,hiD3,ys,hD3,?_⟩
      rw[hes3,QW];exact rd3
  rw[Ye] at loop;exact codeAny_compStart_list (loop _ rfl) (T.self _ 0 _ _ _ tn1 (loop _ rfl))
theorem zJB(hc:X.calm=true/\TB X.K X.mg G.Bi G.B)(hr:Room k X.A)(Bk:BlkOk2 X [xa,xb] scope)(hN:(X.N++[xa,xb]).Nodup)(hi:PId X G (.Tuple [.Name xa pa,.Name xb pb] x1 tp) iter it)
  (hb:∀(C:Addr)(s₂:Shared)(H₂:Hp)(fp:List Addr)(G':Gx),Good (zCH X [xa,xb] scope C s₂ H₂ fp) G' k->PEd (zCH X [xa,xb] scope C s₂ H₂ fp) G' elt f)
  (hs:∀ x,foldedSetIterable iter X.env x=pure x:=by intro _;rfl):PEf X G (.ListComp elt [⟨.Tuple [.Name xa pa,.Name xb pb] x1 tp,iter,[],0⟩] scope pos) (tH it f):=by
 intro pins s σ H Q I w;obtain⟨ρ,Hi,R,ou⟩:=w;rw[eval_ListComp];refine zFB hc hr Bk hN hi hb hs (use:=none) (Qa:=fun a H'=>Q (.ref a) H') I R ou fun C A m s4 H3 hn hI _ q=>?_
 exact⟨m,hn,fun h' hs'=>⟨.ref A,H3,hI h' hs',rfl,q⟩⟩
def zLZ(sc:Scope)(N:List Str)(xs:List Str)(scope:Scope):Bool:=
 scope.names.all (fun y=>y.2 != .cell) && xs.all (fun x=>scope.names.lookup x==some .local) && scope.names.all (fun y=>y.2 != .local || scope.names.lookup y.1==some .local)
  && scope.names.all (fun p=>p.2 != .free || (sc.names.lookup p.1==some .cell || sc.names.lookup p.1==some .free)) && N.all (fun y=>scope.names.lookup y != some .local)
theorem zMR{sc:Scope}{N xs:List Str}(hk:scope.kind=.function)(hsc:X.env.scope=sc)(hN:X.N=N)(h:zLZ sc N xs scope=true):BlkOk2 X xs scope:=by
 unfold zLZ at h;simp only[Q8] at h;obtain⟨⟨⟨⟨h1,h2⟩,h3⟩,h4⟩,h5⟩:=h;subst hN hsc;refine⟨hk,fun y hy e=>?_,fun x hx=>?_,fun y hy e=>?_,fun p hp e=>?_,fun y hy e=>?_⟩
 ·have:=Vp.mp h1 y hy
  rw[e] at this;cases this
 ·exact beq_iff_eq.mp (Vp.mp h2 x hx)
 ·have:=Vp.mp h3 y hy
  rw[e] at this;simpa using this
 ·have:=Vp.mp h4 p hp
  rw[e] at this;have q:X.env.scope.names.lookup p.1=some .cell∨X.env.scope.names.lookup p.1=some .free:=by simpa using this
  exact q
 ·have:=Vp.mp h5 y hy
  rw[e] at this;cases this
theorem tJ{sc:Scope}{N:List Str}(W:Good X G k)(hnd:(N++[xa,xb]).Nodup)(hk:scope.kind=.function)(hsc:X.env.scope=sc)(hN:X.N=N)(h:zLZ sc N [xa,xb] scope=true)(hi:PId X G (.Tuple [.Name xa pa,.Name xb pb] x1 tp) iter it)
  (hb:∀(C:Addr)(s₂:Shared)(H₂:Hp)(fp:List Addr)(G':Gx),Good (zCH X [xa,xb] scope C s₂ H₂ fp) G' k->PEd (zCH X [xa,xb] scope C s₂ H₂ fp) G' elt f)
  (hs:∀ x,foldedSetIterable iter X.env x=pure x:=by intro _;rfl):PEf X G (.ListComp elt [⟨.Tuple [.Name xa pa,.Name xb pb] x1 tp,iter,[],0⟩] scope pos) (tH it f):=
 zJB ⟨W.calm,W.tb⟩ W.room (zMR hk hsc hN h) (hN ▸ hnd) hi hb hs
end
end L3
namespace L3
open PySem PySem.Spec PyProof.Rows L2
section
variable{prog:Program}{w:World}{A:Around}{E:Value->Shared->Prop}{s:Shared}
end
section
variable{X:Cx}{G:Gx}{fs:Fv}{f:Ev}
unseal PEd PEf PTd PWd PAd PSd eX POd PGd iW PId PSx nU PTs PCd PCf
end
end L3
namespace L3
open PySem PySem.Spec PyProof.Rows L2
unseal PEd PEf PTd PWd PAd PSd eX POd PGd iW PId PSx nU PTs PCd PCf
section
variable{X:Cx}{G:Gx}{f:Ev}{pos:Pos}
section
variable{o:Expr}{k:Nat}{b:Bool}{p1 p2 p3:Pos}
end
section
variable{i fo:Nat}{x y:Str}{ea eb ec ct o0 o1:Expr}{body rest:List Stmt}{a b:Fv}{cmp:Tv}{sr:Sv}{p1 p2 p3 p4 p5 p6 p7 p8 p9 p10 p11 p12 p13 p14 p15 p16:Pos}{k5 k0 k1:Nat}
end
section
variable{i j1 j2 j3:Nat}{x:Str}{tg ec c1 c2 c3 esl ev o:Expr}{b2 b3:List Stmt}{t1 t2 t3:Tv}{sl:Fv}{g:Ev}{p1 p2 p3 p4 p5 p6 p7 p8 p9:Pos}
end
end
section
variable{prog:Program}{w:World}{A:Around}{E:Value->Shared->Prop}{s:Shared}
theorem zAk{r:Addr}{a b c:Int}{t u v:Tok}{n:Nat}{R:List Value->Shared->Prop}(hh:A.handled=none)(hr:IsRange s.heap r a b c t u v)(hsmall:Builtin.Range.small a b c=true)(hn:Builtin.Range.rangeSize a b c=n)(hlen:n<=2^24)
  (h:∀ h' tk acc,(∀ b o,s.heap.get? b=some o->h'.get? b=some o)->s.heap.objs.size<=h'.objs.size->ItemsOf (fun i v=>∃ t,v=.int (a+i*c) t) acc n->R acc.toList { s with heap:=h',toks:=tk }):
  wpAny (model prog w) A (collect (.ref r)) R E s:=by
 unfold collect;refine wpAny_bind (wpAny_runValue (codeAny_builtin entry_proto_collect' ?_))
 rw[Around.under_plainId PySem.F.plain_proto_collect _];show wpAny _ A.in1 (newList [] >>= fun l=>again (.builtin "list.__iadd__" ⟨[l,.ref r],[]⟩)) _ _ s
 refine wpAny_bind (wpAny_newObj_type ?_)
 refine wpAny_pure ⟨plainId_quiet YJ _,codeAny_builtin entry_list_iadd' ?_⟩
 rw[Around.under_plainId YJ _];have hS₁:(s.heap.push { cls:=.type "list", data:=.seq ([]:List Value).toArray }).get? s.heap.objs.size=some { cls:=.type "list", data:=.seq #[] }:=Heap.get?_push_size _ rfl;show wpAny _ A.in1 (Builtin.List.listExtendWith (.ref s.heap.objs.size) (.ref r) (.ref s.heap.objs.size)) _ _ _
 have key:=wpAny_extend_range (prog:=prog) (w:=w) (A:=A) (s:={ s with heap:=s.heap.push { cls:=.type "list", data:=.seq ([]:List Value).toArray } })
  (R:=fun(q:Result) (s':Shared)=>∃(h':Heap)(tk:Nat)(acc':Array Value)(c':Nat),q=.ok (.ret (.ref s.heap.objs.size))/\s'={ s with heap:=h',toks:=tk }/\
   (∀ b o,s.heap.get? b=some o->h'.get? b=some o)/\h'.get? s.heap.objs.size=some { cls:=.type "list", dict:=none,data:=.seq acc' c',slots:=#[] }/\ItemsOf (fun i v=>∃ t,v=.int (a+i*c) t) acc' n)
  hh (Heap.get?_push_of_some _ hr) hsmall hn hlen s.heap.objs.size (.ref s.heap.objs.size) 0 hS₁
  (fun h' tk acc' c' hk hS' hacc=>⟨h',tk,acc',c',rfl,rfl,fun b o e=>hk b o (Qt (Heap.lt_size e)) (Heap.get?_push_of_some _ e),hS',hacc⟩)
 refine wpAny_mono key (fun fin s' x=>?_) fun e s' x=>?_
 ·cases fin with
  | done f=>
   obtain⟨h',tk,acc',c',e,rfl,hk,hS',hacc⟩:=x;cases e;show wpAny _ A (load s.heap.objs.size >>= _) _ _ _
   refine wpAny_bind (wpAny_load hS' ?_)
   exact wpAny_pure (h h' tk acc' hk (Vs (Heap.lt_size hS')) hacc)
  | again c₁=>
   refine⟨x.1,codeAny_mono x.2 fun q s₂ y=>?_⟩
   obtain⟨h',tk,acc',c',rfl,rfl,hk,hS',hacc⟩:=y;show wpAny _ A (load s.heap.objs.size >>= _) _ _ _
   refine wpAny_bind (wpAny_load hS' ?_)
   exact wpAny_pure (h h' tk acc' hk (Vs (Heap.lt_size hS')) hacc)
 ·obtain⟨_,_,_,_,e',_⟩:=x
  cases e'
end
section
variable{X:Cx}{pins:List (Addr×Obj)}{σ:St}{H:Hp}{s:Shared}{A:Around}{E:Value->Shared->Prop}{a kS:Addr}{vs:List Value}{kz:List Int}{keys:Array Value}{e e1:Nat}{P:PySem.Fin->Shared->Prop}
theorem pZ{h':Heap}{tk:Nat}(f:sL X pins H a)(I:Inv X pins σ H s)(sb:Heap.SameBut a s.heap h'):Inv X pins σ H { s with heap:=h',toks:=tk }:=by
 obtain⟨f0,f1,f2,f3,f4,f5⟩:=f;exact I.turned (fun b o hb e=>(sb.2 b hb).trans e) f0 f1 f3 f4 f5
theorem zHi{st:SortSt}(I:Inv X pins σ H s)(fa:sL X pins H a)(fk:sL X pins H kS)(hka:kS≠a)(nk:s.heap.get? kS=some (seqObj "list" keys e))(na:s.heap.get? a=some (seqObj "list" #[] e1))
  (hk:IntsAre keys.toList kz) (hlen:kz.length=vs.length) (h64:vs.length<64) (hp:(arrOf st).Perm (keys.zip vs.toArray)) (hs:SortedTo (arrOf st) (arrOf st).size) (hfl:failedOf st=none)
  (h:∀ s' out c,Inv X pins σ H s'->s'.heap.get? a=some (seqObj "list" out c)->KskOut false kz vs out.toList->P (.done (.ret .none)) s'):
  wpAny (model X.prog X.w) A (ksk_tail a false e1 (.ref kS) st) P E s:=by
 have hsz:keys.size=vs.length:=by
  have h1:=hk.length;rw[VX] at h1;omega
 have hsz2:(arrOf st).size=vs.length:=by rw[hp.size_eq,Array.size_zip,hsz,Ql,Xt]
 have hout:((arrOf st).map (·.2)).size=vs.length:=by rw[Array.size_map];exact hsz2
 have s1:=Heap.SameBut.update s.heap kS (Obj.mapSeq fun _=>(#[]:Array Value))
 have na1:(s.heap.update kS (Obj.mapSeq fun _=>(#[]:Array Value))).get? a=some (seqObj "list" #[] e1):=(s1.2 a hka.symm).trans na
 have s2:=Heap.SameBut.update (s.heap.update kS (Obj.mapSeq fun _=>(#[]:Array Value))) a (Obj.mapSeq fun _=>(arrOf st).map (·.2))
 obtain⟨c2,hc2⟩:∃ c2,((s.heap.update kS (Obj.mapSeq fun _=>(#[]:Array Value))).update a (Obj.mapSeq fun _=>(arrOf st).map (·.2))).get? a=some (seqObj "list" ((arrOf st).map (·.2)) c2):=
  ⟨_,get?_update_seq na1 fun _=>(arrOf st).map (·.2)⟩
 unfold ksk_tail;try dsimp only
 refine wpAny_bind (listUpdate_at nk rfl ?_ (by rw[hsz,sizeLine_eq];omega) (QY _))
 refine wpAny_bind (wpAny_letGo ?_)
 refine wpAny_bind (seqEpoch_at na1 rfl ?_)
 refine wpAny_bind (listUpdate_at na1 rfl ?_ (QY _) (by simp only[Vv,if_false];exact Qv (Xz hout) (by rw[sizeLine_eq];omega)))
 rw[hfl];simp only[bne_self_eq_false,Vv,if_false];have I1:Inv X pins σ H { s with heap:=s.heap.update kS (Obj.mapSeq fun _=>(#[]:Array Value)) }:=pZ fk (tk:=s.toks) I s1
 have I2:Inv X pins σ H { s with heap:=(s.heap.update kS (Obj.mapSeq fun _=>(#[]:Array Value))).update a (Obj.mapSeq fun _=>(arrOf st).map (·.2)) }:=(by have z:=pZ (tk:=s.toks) fa I1 s2;exact z)
 exact wpAny_pure (h _ _ c2 I2 hc2 (ksk_out (b:=false) hk hp hs))
theorem zQw(I:Inv X pins σ H s)(fa:sL X pins H a)(fk:sL X pins H kS)(hka:kS≠a)(nk:s.heap.get? kS=some (seqObj "list" keys e))(na:s.heap.get? a=some (seqObj "list" #[] e1))
  (hk:IntsAre keys.toList kz) (hlen:kz.length=vs.length) (h64:vs.length<64)
  (h:∀ s' out c,Inv X pins σ H s'->s'.heap.get? a=some (seqObj "list" out c)->KskOut false kz vs out.toList->P (.done (.ret .none)) s'):
  wpAny (model X.prog X.w) A (ksk_end a false vs.toArray e1 (.ref kS) keys) P E s:=by
 have hsz:keys.size=vs.length:=by
  have h1:=hk.length;rw[VX] at h1;omega
 have hzs:(keys.zip vs.toArray).size=vs.length:=by rw[Array.size_zip,hsz,Ql,Xt]
 unfold ksk_end;try dsimp only
 simp only[Vv,if_false];by_cases h2:vs.toArray.size<2
 ·rw[if_pos h2,if_pos h2]
  refine wpAny_bind (wpAny_pure ?_)
  rw[StateT.run_pure];refine wpAny_bind (wpAny_pure ?_)
  try dsimp only
  refine zHi (st:=SortSt.mk' general' (keys.zip vs.toArray) #[] 7 none) I fa fk hka nk na hk hlen h64 (Array.Perm.refl _) ?_ rfl h
  intro i j hij hj;have hj2:j<(keys.zip vs.toArray).size:=hj;rw[hzs] at hj2;rw[Ql] at h2;have:i=j:=by omega
  subst this;exact Vb _
 ·rw[if_neg h2,if_neg h2]
  rw[Ql] at h2;rw[ksk_kind hk (by rw[hsz];omega)];refine wpAny_bind (wpAny_pure ?_)
  refine wpAny_bind (wpAny_mono (wpS_sortRuns (a₀:=keys.zip vs.toArray) (st:=SortSt.mk' oneType' (keys.zip vs.toArray) #[] 7 none)
   (Q:=fun _ st'=>(arrOf st').Perm (keys.zip vs.toArray)/\failedOf st'=none/\SortedTo (arrOf st') (keys.zip vs.toArray).size)
   (ksk_intKeys hk) ⟨Array.Perm.refl _,rfl,rfl,rfl⟩ (by rw[hzs];omega) (by rw[hzs];exact h64) fun st' a1 a2 a3=>⟨a1,a2,a3⟩) ?_ fun _ _ e=>e)
  rintro⟨⟨⟩,st'⟩ s' ⟨rfl,hp,hf,hs⟩
  try dsimp only
  exact zHi I fa fk hka nk na hk hlen h64 hp (by rw[hp.size_eq];exact hs) hf h
theorem zOk{f:Value}{e0:Nat}(I:Inv X pins σ H s)(fa:sL X pins H a)(fk:sL X pins H kS)(hka:kS≠a)(nk:s.heap.get? kS=some (seqObj "list" #[] e0))(na:s.heap.get? a=some (seqObj "list" #[] e1))
  (hlen:kz.length=vs.length) (h64:vs.length<64)
  (turn:∀(i:Nat)(v:Value)(k:Int),vs[i]?=some v->kz[i]?=some k->∀(s':Shared)(pl:List (Addr×Obj)),Inv X (pins++pl) σ H s'->
   wpAny (model X.prog X.w) A (call f [v]) (fun u s''=>(∃ t,u=.int k t)/\Inv X (pins++pl) σ H s'') (fun _ _=>False) s')
  (h:∀ s' out c,Inv X pins σ H s'->s'.heap.get? a=some (seqObj "list" out c)->KskOut false kz vs out.toList->P (.done (.ret .none)) s'):
  wpAny (model X.prog X.w) A (ksk_rest a f false vs.toArray e1 (.ref kS)) P E s:=by
 unfold ksk_rest;refine wpAny_bind (wpAny_rule ?_)
 first
  | rw[List.forIn_toArray]
  | (rw[<-Array.forIn_toList];simp only[YK])
  | rw[<-Array.forIn_toList]
 refine wpAny_bind (ksk_fold (fun i s'=>∃ kA e,Inv X pins σ H s'/\s'.heap.get? kS=some (seqObj "list" kA e)/\s'.heap.get? a=some (seqObj "list" #[] e1)/\IntsAre kA.toList (kz.take i)) vs 0 s
  ⟨#[],e0,I,nk,na,by simpa using IntsAre.nil⟩ ?step ?done)
 case step=>
  rintro j x s' hx ⟨kA,e,I',nk',na',hk⟩
  simp only[VC] at hk ⊢
  have hj:j<vs.length:=(Qz.mp hx).1;obtain⟨k,hkj⟩:∃ k,kz[j]?=some k:=⟨_,Qu (by omega)⟩
  have hz:kA.size<=vs.length:=by
   have h1:=hk.length;rw[VX,Vt] at h1;omega
  have pin:∀ b∈[kS,a],∃ o,s'.heap.get? b=some o/\∀ v,o.data≠.cell v:=fun b hb=>by
   rcases Qe.mp hb with rfl | hb
   ·exact⟨_,nk',fun v z=>by have z':Data.seq _ _=Data.cell v:=z;cases z'⟩
   ·rw[Qp.mp hb];exact⟨_,na',fun v z=>by have z':Data.seq _ _=Data.cell v:=z;cases z'⟩
  have Ip:Inv X (pins++uP [kS,a] s'.heap) σ H s':=I'.pinned (fun b hb=>by
   rcases Qe.mp hb with rfl | hb
   ·exact fk
   ·rw[Qp.mp hb];exact fa) pin
  refine wpAny_bind (wpAny_attempt (wpAny_mono (turn j x k hx hkj s' _ Ip) (fun v s'' he=>?_) fun _ _ hF=>hF.elim))
  obtain⟨⟨t2,rfl⟩,I2p⟩:=he;try dsimp only
  have nk2:s''.heap.get? kS=some (seqObj "list" kA e):=(I2p.pin _ (QA _ (QA _ (fI (b:=kS) (by simp) nk')))).1
  have na2:s''.heap.get? a=some (seqObj "list" #[] e1):=(I2p.pin _ (QA _ (QA _ (fI (b:=a) (by simp) na')))).1
  have I2:Inv X pins σ H s'':=I2p.unpinned;have s1:=Heap.SameBut.update s''.heap kS (Obj.mapSeq (·.push (.int k t2)));obtain⟨c2,hc2⟩:∃ c2,(s''.heap.update kS (Obj.mapSeq (·.push (.int k t2)))).get? kS=some (seqObj "list" (kA.push (.int k t2)) c2):=⟨_,get?_update_seq nk2 (·.push (.int k t2))⟩;have ek:kz.take (j+1)=kz.take j++[k]:=by rw[List.take_add_one,hkj];simp
  have ea:(kA.push (Value.int k t2)).toList=kA.toList++[Value.int k t2]:=by simp
  refine wpAny_bind (listUpdate_at nk2 rfl ?_ (by rw[sizeLine_eq];omega) (Qv (Xz (Array.size_push ..)) (by rw[sizeLine_eq];omega)))
  exact wpAny_pure ⟨rfl,kA.push (.int k t2),c2,pZ fk (tk:=s''.toks) I2 s1,hc2,(s1.2 a hka.symm).trans na2,by rw[ea,ek];exact ksk_snoc hk⟩
 case done=>
  rintro s' ⟨kA,e,I',nk',na',hk⟩
  have hk':IntsAre kA.toList kz:=by
   have e3:kz.take (0+vs.length)=kz:=X1 (by omega)
   rw[e3] at hk;exact hk
  try dsimp only
  refine wpAny_bind (listItems_at nk' rfl ?_)
  exact zQw I' fa fk hka nk' na' hk' hlen h64 h
def vJ(v:Value):Nat:=(numOf v).toNat
theorem zMZ{out:List Value}(hlen:kz.length=vs.length)(hv:∀ (j:Nat) (v:Value),vs[j]?=some v->∃ t,v=.int j t)(h:KskOut false kz vs out):gP kz (out.map vJ)/\dN ((out.map vJ).map fun i:Nat=>V.int (i:Int)) out:=by
 obtain⟨ps,hp,ho,hs⟩:=h
 have at':∀ p,p∈kz.zip vs->∃(j:Nat)(t:Tok),p.2=.int j t/\kz[j]?=some p.1:=fun p hm=>by
  obtain⟨j,hj,e⟩:=List.mem_iff_getElem.mp hm;rw[Yg] at hj;rw[List.getElem_zip] at e;obtain⟨t,ht⟩:=hv j (vs[j]'(by omega)) (Qu _)
  refine⟨j,t,by rw[<-e];exact ht,by rw[<-e];exact Qu _⟩
 have n1:∀(j:Nat)(t:Tok),vJ (.int j t)=j:=fun j t=>by unfold vJ;show(Int.toNat (j:Int))=j;rfl
 have hvs:vs.map vJ=List.range kz.length:=by
  refine V7 fun j=>?_
  rw[Qr];by_cases hj:j<vs.length
  ·obtain⟨t,ht⟩:=hv j _ (Qu hj)
   rw[Qu hj,ht,Vg (by omega)];show some (vJ _)=_
   rw[n1]
  ·rw[QH (by omega),QH (by rw[QE];omega)];rfl
 subst ho;refine⟨⟨?_,?_⟩,?_⟩
 ·have h1:((ps.map Prod.snd).map vJ).Perm (((kz.zip vs).map Prod.snd).map vJ):=(hp.map _).map _
  rw[List.map_snd_zip (by omega),hvs] at h1;exact h1
 ·rw[Qw,VF]
  refine V6 (fun {p q} hm hq hr=>?_) hs
  have hr':p.1<=q.1:=by simpa using hr
  obtain⟨i,t,e1,e2⟩:=at' p (hp.mem_iff.mp hm);obtain⟨j,u,e3,e4⟩:=at' q (hp.mem_iff.mp hq);show kz.getD (vJ p.2) 0<=kz.getD (vJ q.2) 0
  rw[e1,e3,n1,n1,QB,QB,e2,e4];exact hr'
 ·have go:∀ l:List Value,(∀ v∈l,∃(j:Nat)(t:Tok),v=.int j t)->dN ((l.map vJ).map fun i:Nat=>V.int (i:Int)) l:=by
   intro l
   induction l with
   | nil=>intro _;exact .nil
   | cons v r ih=>
    intro hl;obtain⟨j,t,rfl⟩:=hl v (.head _);exact .cons ⟨t,by rw[n1]⟩ (ih fun u hu=>hl u (.tail _ hu))
  refine go _ fun v hv'=>?_
  obtain⟨p,hm,rfl⟩:=Qj.mp hv';obtain⟨j,t,e1,_⟩:=at' p (hp.mem_iff.mp hm);exact⟨j,t,e1⟩
theorem zGV{r q:Addr}{n:Nat}{t u v:Tok}{Q:Value->Shared->Prop}(hc:X.calm=true)(I:Inv X pins σ H s)(hr:IsRange s.heap r 0 n 1 t u v)(h64:n<64)(hkz:kz.length=n)
  (turn:∀(j:Nat)(tk:Tok)(k:Int),kz[j]?=some k->∀(s':Shared)(pl:List (Addr×Obj)),Inv X (pins++pl) σ H s'->
   wpAny (model X.prog X.w) X.A.in1.in1 (call (.ref q) [.int j tk]) (fun u s''=>(∃ t,u=.int k t)/\Inv X (pins++pl) σ H s'') (fun _ _=>False) s')
  (h:∀ D s' out c π,Inv X pins σ H s'->sL X pins H D->s.heap.objs.size<=D->s'.heap.get? D=some (seqObj "list" out c)->gP kz π->dN (π.map fun i:Nat=>V.int (i:Int)) out.toList->Q (.ref D) s'):
  wpAny (model X.prog X.w) X.A (call (.builtin "sorted") [.ref r] [(Str.ofString "key", .ref q)]) Q E s:=by
 refine call_function_entry_kw kind_sorted plain_sorted entry_sorted (ksk_s1 _ _) ?_
 unfold Builtin.«sorted»
 refine wpAny_bind (m:=checkCount "sorted" 1 1 _) (wpAny_pure ?_)
 refine wpAny_bind (zAk (n:=n) (A:=X.A.in1) (I.ok.hd hc) hr (small_one (by omega) (by omega) (by omega) (by omega)) (by rw[rangeSize_one];split<;>omega) (by omega) fun h1 tk acc hk hsz hacc=>?_)
 have hl:acc.toList.length=n:=by rw[VX];exact hacc.1
 refine wpAny_bind (wpAny_newList ?_ (by rw[hl,sizeLine_eq];omega))
 have I1:Inv X pins σ H { s with heap:=h1,toks:=tk }:=I.kept hk;have fa:sL X pins H h1.objs.size:=I1.fpOk (Qf _) (I1.hok.fresh (Qf _));have I2:Inv X pins σ H { s with heap:=h1.push (seqObj "list" acc.toList.toArray 0),toks:=tk }:=I1.kept (t':=tk) fun b o e=>Heap.get?_push_of_some _ e
 have hoL:(h1.push (seqObj "list" acc.toList.toArray 0)).get? h1.objs.size=some (seqObj "list" acc.toList.toArray 0):=Heap.get?_push_size _ rfl;show wpAny _ _ _ _ _ { s with heap:=h1.push (seqObj "list" acc.toList.toArray 0),toks:=tk }
 refine wpAny_bind (wpAny_holding (wpAny_call_entry_kw slot_list_sort ⟨_,hoL,rfl⟩ entry_list_sort ?body (ksk_l1 _ _)))
 case body=>
  show wpAny (model X.prog X.w) X.A.in1.in1 (Builtin.«list.sort» ⟨[.ref h1.objs.size],[(Str.ofString "key", .ref q)]⟩) _ _ _
  rw[ksk_t1];have s3:=Heap.SameBut.update (h1.push (seqObj "list" acc.toList.toArray 0)) h1.objs.size (Obj.mapSeq fun _=>(#[]:Array Value))
  obtain⟨e1,ho1⟩:∃ e1,((h1.push (seqObj "list" acc.toList.toArray 0)).update h1.objs.size (Obj.mapSeq fun _=>(#[]:Array Value))).get? h1.objs.size=some (seqObj "list" #[] e1):=⟨_,get?_update_seq hoL fun _=>#[]⟩
  have I3:Inv X pins σ H { s with heap:=(h1.push (seqObj "list" acc.toList.toArray 0)).update h1.objs.size (Obj.mapSeq fun _=>(#[]:Array Value)),toks:=tk }:=(by have z:=pZ (tk:=tk) fa I2 s3;exact z)
  generalize hg3:(h1.push (seqObj "list" acc.toList.toArray 0)).update h1.objs.size (Obj.mapSeq fun _=>(#[]:Array Value))=h3 at s3 ho1 I3
  unfold ksk_tree;refine wpAny_bind (listItems_at hoL rfl ?_)
  refine wpAny_bind (listUpdate_at hoL rfl ?_ (by rw[Ql,sizeLine_eq];omega) (QY _))
  show wpAny _ _ _ _ _ { s with heap:=(h1.push (seqObj "list" acc.toList.toArray 0)).update h1.objs.size (Obj.mapSeq fun _=>(#[]:Array Value)),toks:=tk }
  rw[hg3];refine wpAny_bind (seqEpoch_at ho1 rfl ?_)
  refine wpAny_bind (wpAny_newTuple ?_ (by show acc.toList.toArray.toList.length<=_;rw[sizeLine_eq,YK];omega))
  refine wpAny_bind (wpAny_newList ?_ (QY _))
  refine wpAny_holding ?_
  have I4:Inv X pins σ H { s with heap:=h3.push (seqObj "tuple" acc.toList.toArray 0),toks:=tk }:=I3.kept (t':=tk) fun b o e=>Heap.get?_push_of_some _ e
  have fk:sL X pins H (h3.push (seqObj "tuple" acc.toList.toArray 0)).objs.size:=I4.fpOk (Qf _) (I4.hok.fresh (Qf _));have I5:Inv X pins σ H { s with heap:=(h3.push (seqObj "tuple" acc.toList.toArray 0)).push (seqObj "list" #[] 0),toks:=tk }:=I4.kept (t':=tk) fun b o e=>Heap.get?_push_of_some _ e
  have ho4:(h3.push (seqObj "tuple" acc.toList.toArray 0)).get? h1.objs.size=some (seqObj "list" #[] e1):=Heap.get?_push_of_some _ ho1;refine zOk (vs:=acc.toList) (kz:=kz) (e0:=0) I5 fa fk (Xl (Heap.lt_size ho4)) (Heap.get?_push_size _ rfl) (Heap.get?_push_of_some _ ho4) (by rw[hkz,hl]) (by rw[hl];exact h64) (fun i v' k hi hk' s' pl Ip=>?_) fun s' out c I' ho' ko=>?_
  ·obtain⟨tk',rfl⟩:=hacc.2 i v' (by rw[<-XV];exact hi)
   have e3:(0:Int)+(i:Int)*1=(i:Int):=by omega
   rw[e3];exact turn i tk' k hk' s' pl Ip
  ·obtain⟨hπ,hV⟩:=zMZ (by rw[hkz,hl]) (fun j v' hj=>by
    obtain⟨tk',rfl⟩:=hacc.2 j v' (by rw[<-XV];exact hj)
    exact⟨tk',by congr 1;omega⟩) ko
   exact⟨_,rfl,wpAny_pure ⟨_,rfl,h _ s' out c _ I' fa hsz ho' hπ hV⟩⟩
end
end L3
namespace L3
open PySem PySem.Spec PyProof.Rows L2 PySem.W
unseal PEd PEf PTd PWd PAd PSd eX POd PGd iW PId PSx nU PTs PCd PCf
def zSu:CXT:=fun _ _ _ _ _ _=>False
def cxL(P:Program)(w:World)(K:PySem.W.Frag)(mg:Str->Option Value)(base:Heap)(N:List Str)(qual:Str)(scope:Scope)(f:Addr)(cd:Value)(cl:List (Str×Addr))(A:Around)(outer:List Env)(s:Shared)(H:Hp):Cx where
 prog:=P
 w:=w
 K:=K
 mg:=mg
 base:=base
 A:=A.deeper (envX qual scope s.heap.objs.size f cd cl)
 N:=N
 s₀:=s
 H₀:=H
 env:=envX qual scope s.heap.objs.size f cd cl
 outer:=outer
 stack:=envX qual scope s.heap.objs.size f cd cl::outer
 ex:=[]
 fn:=fun _=>false
 calm:=true
 pn:=[]
 xe:=fun _ _=>False
theorem zLW{P:Program}{w:World}{K:Fg_}{mg:Str->Option Value}{base:Heap}{N:List Str}{qual name:Str}{scope:Scope}{f c':Addr}{cl:List (Str×Addr)}{A:Around}{outer:List Env}{s:Shared}{H:Hp}{params:Arguments}{body:Expr}{pm ctv u:Value}{p:Str}{σ:St}{Q:VK}{E:XK}{t:TE}
  (hd:A.handled=none) (hdp:A.depth<recursionLimit) (e0:Env0 P w K mg base A outer s H) (ho:s.heap.get? f=some (kla_obj name qual params body scope cl pm c' ctv)) (hcd:s.heap.CodeRec (.ref c') qual)
  (hbind:bindArgs (kla_fn name qual params body scope cl pm (.ref c') ctv) ⟨[u],[]⟩=pure [(p,u)]) (hloc:scope.names.lookup p=some .local)
  (hco:scope.isCoroutine=false) (hgen:scope.isGenerator=false) (hk:scope.kind=.function) (hcell:∀ x∈scope.names,x.2≠.cell)
  (hfree:∀ x,scope.names.lookup x=some .free->∃ c,cl.lookup x=some c) (hinj:∀ x y c,cl.lookup x=some c->cl.lookup y=some c->x=y)
  (hcl:∀ x c,cl.lookup x=some c->(∃ v,s.heap.IsCell c v)/\H c=none) (hlen:σ.length=N.length)
  (hσ:∀(i:Nat)(x:Str)(v:V),N[i]?=some x->σ[i]?=some (some v)->(x=p/\cV v u)∨(scope.names.lookup x=some .free/\∃ c u',cl.lookup x=some c/\s.heap.IsCell c (some u')/\cV v u'))
  (hb:PE (cxL P w K mg base N qual scope f (.ref c') cl A outer s H) body t) (hq:t σ H Q):
  codeAny (model P w) A (.call (.ref f) ⟨[u],[]⟩) (CR zSu outer P w H s Q E) s:=by
 have lim:s.heap.NoLimit:=e0.mod.nolimit.keeps fun b o e=>(e0.bs b o e).1
 refine kla_callFunE hdp ho rfl hco hgen rfl hcd ?_
 rw[hbind];refine wpAny_pure (wpAny_newFunctionEnv hcell (fun y hy=>by rw[Qp.mp hy];exact hloc) (fun h₁ hns hsb=>⟨lim.fresh _ hsb,?_⟩) hk)
 have hk₁:∀ b o,s.heap.get? b=some o->h₁.get? b=some o:=fun b o e=>hsb.extBut b o (Qt (Heap.lt_size e)) (Heap.get?_push_of_some _ e)
 have noA:∀ b:Addr,b∉(cxL P w K mg base N qual scope f (.ref c') cl A outer s H).ex:=fun b z=>absurd (show b∈([]:List Addr) from z) (by simp)
 have I:Inv (cxL P w K mg base N qual scope f (.ref c') cl A outer s H) [] σ H { s with heap:=h₁,toks:=s.toks+1 }:=by
  refine⟨⟨e0.mod,hk,rfl,rfl,Qf _,hinj,fun y hy=>?_,fun y c z _=>?_,fun _=>hd,Around.frames_deeper e0.frames,.inr ⟨rfl,rfl⟩,fun b z=>absurd z (noA b),e0.bs,e0.bsz,fun b _ _=>noA b,fun b z=>absurd z (noA b),e0.funs,e0.frf⟩,
   rfl,e0.bare,Un.kept hk₁,⟨_,hns,fun i y v h1 h2 h3=>?_⟩,fun y c h=>?_,e0.hok.fresh (Qf _),fun y c h=>(hcl y c h).2,fun p hp=>absurd (show p∈([]:List (Addr×Obj)) from hp) (by simp),e0.hok.kept hk₁,hlen⟩
  ·have hy:scope.names.lookup y=some .cell∨scope.names.lookup y=some .free:=hy
   rcases hy with hy | hy
   ·exact absurd rfl (hcell _ (Vz hy))
   ·exact hfree y hy
  ·cases z
  ·rcases hσ i y v h1 h2 with⟨rfl,r⟩ | ⟨hf,c,u',h4,⟨o,h5,h6⟩,r⟩
   ·exact⟨u,r,.inl ⟨hloc,by simp[List.lookup]⟩⟩
   ·exact⟨u',r,.inr ⟨.inr hf,c,h4,o,hk₁ _ _ h5,h6⟩⟩
  ·obtain⟨⟨v,o,h5,h6⟩,_⟩:=hcl y c h
   exact⟨v,o,hk₁ _ _ h5,h6⟩
 refine kla_codeExpr (wpAny_mono (hb [] _ σ H Q I hq) (fun v s' z=>?_) fun e s' z=>False.elim z)
 obtain⟨x,H',J,r,q⟩:=z;exact⟨x,H',J.os,J.bare,J.base,J.hok,r,q⟩
theorem zKE{l:List Value}{a b:Int}{c:Value}(h:TriplesOk l):TriplesOk (l++[rawInt a,rawInt b,c]):=TriplesOk_snoc a b c l h
theorem zFc{pos q:Pos}{c x:Value}(l:List Value)(h:TriplesOk l)(e:codeAmong q (l++[rawInt pos.line,rawInt pos.col,c])=some x):codeAmong q l=some x∨x=c:=by
 fun_induction TriplesOk l with
 | case1=>
  simp only[VB,codeAmong,rawInt] at e;split at e
  ·exact .inr (QK e).symm
  ·cases e
 | case2 a t b u y rest ih=>
  simp only[Xy,codeAmong] at e ⊢
  split at e
  ·rename_i hc;rw[if_pos hc];exact .inl e
  ·rename_i hc;rw[if_neg hc];exact ih h e
 | case3 l h1 h2=>exact h.elim
def BMn(base:Heap)(mg:Str->Option Value):Prop:=∃ bm ob,mg "__builtins__" = some (.ref bm)/\bm≠builtinsNs/\base.get? bm=some ob/\ob.cls=.type "module" /\ ob.dict=some builtinsNs/\ob.data=.plain
section
variable{X:Cx}{pins:List (Addr×Obj)}{σ:St}{H:Hp}{s:Shared}{P c c':Addr}
theorem zJU{ps more:Array Value}{h':Heap}{tk:Nat}{oc:Obj}(I:Inv X pins σ H s)(hP:H P=some (.tbl ps))(hx:Heap.ExtBut P s.heap h')(hge:s.heap.objs.size<=c')(hc:h'.get? c'=some oc)(hP':h'.get? P=some { cls:=.none,data:=.fields (ps++more) }):
  Inv X pins σ (upd (upd H P (.tbl (ps++more))) c' (.frz oc (.own 0))) { s with heap:=h',toks:=tk }:=by
 have nP:∀ {b:Addr},H b=none->b≠P:=fun e z=>by rw[z,hP] at e;cases e
 have cF:H c'=none:=I.hok.fresh hge;have nc:∀ {b:Addr} {o:Obj},s.heap.get? b=some o->b≠c':=fun e=>Qt (Qs (Heap.lt_size e) hge)
 have hPc:P≠c':=bB hP cF;have up:∀ {b:Addr},b≠P->b≠c'->upd (upd H P (.tbl (ps++more))) c' (.frz oc (.own 0)) b=H b:=fun h1 h2=>by rw[aW h2,aW h1]
 have upP:upd (upd H P (.tbl (ps++more))) c' (.frz oc (.own 0)) P=some (.tbl (ps++more)):=by rw[aW hPc,aY]
 have kd:∀ {b:Addr} {o:HO},H b=some o->(∀ qs,o≠.tbl qs)->upd (upd H P (.tbl (ps++more))) c' (.frz oc (.own 0)) b=some o:=fun {b o} e hn=>by
  rw[up (fun z=>by rw[z,hP] at e;exact hn ps (QK e).symm) (bB e cF)];exact e
 refine I.un ⟨fun b o e n _ _=>hx b o (nP n) e,fun b o e n _ _=>⟨o.slots,hx b o (nP n) e⟩,fun b o e n _=>by rw[up (nP n) (nc e)];exact n,fun b o e _=>?_,fun b xs e=>kd e fun qs z=>(by cases z),fun b o u e=>kd e fun qs z=>(by cases z),fun b qs e=>?_⟩ fun b u e=>?_
 ·by_cases hb:b=P
  ·subst hb;exact⟨_,hP'⟩
  ·exact⟨o,hx b o hb e⟩
 ·by_cases hb:b=P
  ·subst hb
   rw[hP] at e;cases e
   exact⟨more,upP⟩
  ·exact⟨#[],by rw[up hb (bB e cF),e];simp⟩
 ·by_cases h2:b=c'
  ·subst h2
   rw[aY] at e;cases e
   exact⟨hc,oc,hc⟩
  ·by_cases h1:b=P
   ·subst h1
    rw[upP] at e;cases e
    exact hP'
   ·rw[up h1 h2] at e
    refine(I.hok b u e).stay (fun d v hd q=>hx d v (fun z=>?_) q) (fun d q=>kd q fun qs z=>(by cases z)) fun d xs q=>kd q fun qs z=>(by cases z)
    rcases hd with rfl | hd
    ·exact h1 z
    ·rw[z,hP] at hd;cases hd
theorem zHp{ps:Array Value}{oc:Obj}{pos:Pos}{vs:Array Value}{t:Tok}(hP:H P=some (.tbl ps))(cF:H c'=none)(hd:oc.data=.fields vs)(hv:vs[1]?=some (.str sM t)):
  Keep H (upd (upd H P (.tbl (ps++#[rawInt pos.line,rawInt pos.col,.ref c']))) c' (.frz oc (.own 0))):=by
 have hPc:P≠c':=bB hP cF;have upP:upd (upd H P (.tbl (ps++#[rawInt pos.line,rawInt pos.col,.ref c']))) c' (.frz oc (.own 0)) P=some (.tbl (ps++#[rawInt pos.line,rawInt pos.col,.ref c'])):=by rw[aW hPc,aY]
 have kd:∀ {b:Addr} {o:HO},H b=some o->b≠P->upd (upd H P (.tbl (ps++#[rawInt pos.line,rawInt pos.col,.ref c']))) c' (.frz oc (.own 0)) b=some o:=fun {b o} e hn=>by
  rw[aW (bB e cF),aW hn];exact e
 refine⟨fun b o e=>?_,fun Q T=>?_⟩
 ·by_cases hb:b=P
  ·subst hb
   rw[hP] at e;cases e
   exact .inr ⟨_,_,rfl,upP⟩
  ·exact .inl (kd e hb)
 ·obtain⟨qs,e,ht,k⟩:=T
  have old:∀(q:Pos)(cv:Value),codeAmong q qs.toList=some cv->∃ c oc' vs t u,cv=.ref c/\upd (upd H P (.tbl (ps++#[rawInt pos.line,rawInt pos.col,.ref c']))) c' (.frz oc (.own 0)) c=some (.frz oc' u)/\oc'.data=.fields vs/\vs[1]?=some (.str sM t):=fun q cv z=>by
   obtain⟨c,oc',vs',t',u,r1,r2,r3⟩:=k q cv z;exact⟨c,oc',vs',t',u,r1,kd r2 (fun w=>by rw[w,hP] at r2;cases r2),r3⟩
  by_cases hb:Q=P
  ·subst hb
   rw[hP] at e;cases e
   have el:(ps++#[rawInt pos.line,rawInt pos.col,.ref c']).toList=ps.toList++[rawInt pos.line,rawInt pos.col,.ref c']:=by simp
   refine⟨_,upP,by rw[el];exact zKE ht,fun q cv z=>?_⟩
   rw[el] at z;rcases zFc _ ht z with z | z
   ·exact old q cv z
   ·exact⟨c',oc,vs,t,_,z,aY,hd,hv⟩
  ·exact⟨qs,kd e hb,ht,old⟩
theorem zKm{params:Arguments}{body:Expr}{scope:Scope}{pos:Pos}{clos:List (Str×Addr)}{M:Model}{A:Around}{E:Value->Shared->Prop}{Q:Value->Shared->Prop}(I:Inv X pins σ H s)(tb:zCD P H)(hC:∀ h,X.K.In h->CodeHd h c P)(hcode:X.env.code=.ref c)(hq:X.env.qual ++ "<lambda>" = sM)(hB:BMn X.base X.mg)
  (hcl:closureFor scope X.env=pure clos) (hdef:defaultsOf params X.env=([],[]))
  (h:∀ f c' ctv oc vs t u H' s',Inv X pins σ H' s'->Keep H H'->(∀ b o,H b=some o->b≠P->H' b=some o)->sL X pins H' f->s.heap.objs.size<=f->s'.heap.get? f=some (kla_obj "<lambda>" sM params body scope clos ((X.mg "__name__").getD .none) c' ctv)->
   H' c'=some (.frz oc u)->oc.data=.fields vs->vs[1]?=some (.str sM t)->Q (.ref f) s'):
  wpAny M A (eval (.Lambda params body scope pos) X.env) Q E s:=by
 obtain⟨ps,hP,ht,hk⟩:=id tb;have hPo:s.heap.get? P=some (tabObj ps):=I.hok P _ hP;have hg:s.heap.Ns mainGlobals X.mg:=I.mod.glob.keeps I.bk
 have hgP:mainGlobals≠P:=fun z=>by
  obtain⟨o,es,ep,e,_⟩:=I.mod.glob;have:=(I.bs _ _ e).2
  rw[z,hP] at this;cases this
 have hb:s.heap.BuiltinsAt X.mg P:=by
  obtain⟨bm,ob,b1,b2,b3,b4,b5,b6⟩:=hB;refine⟨bm,ob,b1,b2,fun z=>?_,fun z=>?_,(I.bs _ _ b3).1,b4,b5,b6⟩
  ·obtain⟨o,es,ep,e,d,_⟩:=I.mod.glob
   rw[z,e] at b3;cases b3;rw[d] at b6;cases b6
  ·have:=(I.bs _ _ b3).2
   rw[z,hP] at this;cases this
 refine kla_eval hdef ?_
 rw[hq]
 cases hf:codeAmong pos ps.toList with
 | some cv=>
  obtain⟨c',oc,vs,t,u,rfl,r1,r2,r3⟩:=hk pos cv hf;refine kla_makeFunctionHit hcl I.ok.glob hg hcode (hC _ I.kIn) hPo ht hf hb fun ctv h' tk hkk hsz=>?_
  have I1:Inv X pins σ H { s with heap:=h',toks:=tk }:=I.kept hkk;have I2:Inv X pins σ H { s with heap:=h'.push (kla_obj "<lambda>" sM params body scope clos ((X.mg "__name__").getD .none) c' ctv),toks:=tk }:=I1.kept (t':=tk) fun b o e=>Heap.get?_push_of_some _ e
  exact h _ c' ctv oc vs t u H _ I2 (Keep.refl _) (fun b o e _=>e) (I1.fpOk (Qf _) (I1.hok.fresh (Qf _))) hsz (Heap.get?_push_size _ rfl) r1 r2 r3
 | none=>
  refine kla_makeFunction hcl I.ok.glob hg hcode (hC _ I.kIn) hPo ht hf hgP hb fun c' ctv h' tk hx hge hlt hrec htb=>?_
  obtain⟨c₂,oc,vs,t,e2,hoc,hd,hv⟩:=hrec;cases e2;have I1:=zJU (tk:=tk) I hP hx hge hoc htb;have I2:=I1.kept (t':=tk) (h':=h'.push (kla_obj "<lambda>" sM params body scope clos ((X.mg "__name__").getD .none) c' ctv)) fun b o e=>Heap.get?_push_of_some _ e
  have cF:H c'=none:=I.hok.fresh hge;exact h _ c' ctv oc vs t _ _ _ I2 (zHp hP cF hd hv) (fun b o e hb=>by rw[aW (bB e cF),aW hb];exact e) (I1.fpOk (Qf _) (I1.hok.fresh (Qf _))) (Vs (Vu hge hlt)) (Heap.get?_push_size _ rfl) aY hd hv
end
theorem zCi{K:Fg_}{H:Hp}:∀ π:List Nat,IsDs K H (π.map fun i:Nat=>V.int (i:Int)) (jU π)
 | []=>.nil
 | n::ns=>.cons (.int n) (zCi ns)
def zCX(p:Pos):Arguments:={ posonlyargs:=[],args:=[{ arg := "spot", annotation:=none,pos:=p }],vararg:=none,kwonlyargs:=[],kw_defaults:=[],kwarg:=none,defaults:=[] }
def kP:Scope:={ kind:=.function,names:=[(PySem.Str.ofString "spot", .local),(PySem.Str.ofString "bottom", .free),(PySem.Str.ofString "some", .free)],isGenerator:=false,isCoroutine:=false,more:=[] }
section
variable{X:Cx}{p1 p2 p3 p4 p5 p6 p7 p8 p9 pa pb pc pd pe pf pg ph pi pj:Pos}
theorem zKa{b k:Int}{a:Addr}{xs:List V}{rows:List D}{d:D}{j:Nat}{Hi H:Hp}{Q:VK}{σ:St}(hN:X.N=(["spot","some","bottom"]:List Str))(hsc:X.env.scope=kP){pz:Pos}
  (hσ:σ=[some (.int j),some (.ref a),some (.int b)]) (hq:SqL X.K Hi a xs∨SqT X.K Hi a xs) (hs:IsDs X.K Hi xs rows) (sm:Same Hi H) (hd:rows[j]?=some d) (hk:zJq b d=.ok k) (q:Q (.int k) H):
  ∃ t,PE X (.BinOp (.Subscript (.Subscript (.Name "some" p1) (.Name "spot" p2) p3) (.Constant (.int 0) 0 p4) p5) .Mult
   (.BinOp (.Name "bottom" p6) .FloorDiv (.Subscript (.Subscript (.Name "some" p7) (.Name "spot" p8) p9) (.Constant (.int 1) 0 pa) pb) pc) pz) t/\t σ H Q:=by
 have v0:PE X (.Name "spot" p2) (zDu 0):=wG (by rw[hN];rfl) (by rw[hsc];exact .inl (by decide +kernel))
 have v0':PE X (.Name "spot" p8) (zDu 0):=wG (by rw[hN];rfl) (by rw[hsc];exact .inl (by decide +kernel))
 have v1:PE X (.Name "some" p1) (zDu 1):=wG (by rw[hN];rfl) (by rw[hsc];exact .inr (.inr (by decide +kernel)))
 have v1':PE X (.Name "some" p7) (zDu 1):=wG (by rw[hN];rfl) (by rw[hsc];exact .inr (.inr (by decide +kernel)))
 have v2:PE X (.Name "bottom" p6) (zDu 2):=wG (by rw[hN];rfl) (by rw[hsc];exact .inr (.inr (by decide +kernel)))
 refine⟨_,zIv dI (zFV aQ (zFV aQ v1 v0 (fun _ _=>rfl)) zIJ (fun _ _=>rfl)) (zIv eG v2 (zFV aQ (zFV aQ v1' v0' (fun _ _=>rfl)) zIJ (fun _ _=>rfl))),?_⟩
 obtain⟨t,c,rfl,h1,h2,rfl⟩:=zNX hk;obtain⟨v,hv,r⟩:=hs.at hd;obtain⟨ra,ys,rfl,h3,h4⟩:=r.tupI;obtain⟨u1,u2,rfl,r1,r2⟩:=h4.two;have e1:=r1.intI;have e2:=r2.intI;subst e1 e2;have S3:=cJ sm h3;subst hσ
 have row:∀ Q':VK,Q' (.ref ra) H->(zQP X.K (.ref a) (.int j) H Q'∨zQR X.K (.ref a) (.int j) H Q'):=fun Q' q'=>by
  rcases hq with hq | hq
  ·exact .inl ⟨a,xs,j,.ref ra,rfl,rfl,cK sm hq,zDd hv,q'⟩
  ·exact .inr ⟨a,xs,j,.ref ra,rfl,rfl,cJ sm hq,zDd hv,q'⟩
 refine⟨.ref a,rfl,.int j,rfl,row _ (.inr ⟨ra,_,0,.int t,rfl,rfl,S3,rfl,?_⟩)⟩
 refine⟨.int b,rfl,.ref a,rfl,.int j,rfl,row _ (.inr ⟨ra,_,1,.int c,rfl,rfl,S3,rfl,?_⟩)⟩
 exact⟨b,c,rfl,rfl,h1,t,b.fdiv c,rfl,rfl,h2,q⟩
theorem zPz{a:Expr}{ta:TA}{p pos:Pos}(hg:Gl X "range")(hm:X.mg "range" = none)(ha:PA X [a] ta)(hs:starEach [a] X.env=[(false,eval a X.env)]:=by rfl):
  PE X (.Call (.Name "range" p) [a] [] pos) (fun σ H Q=>ta σ H fun vs H1=>∃ n:Nat,vs=[.int n]/\∀ r,H1 r=none->Q (.ref r) (upd H1 r (.rng 0 n))):=by
 intro pins s σ H Q I h;refine wpAny_Call_Name_kw (pO I hg hm boot_range (VZ (thn (ha pos pins s σ H _ I h) fun us s1 ⟨vs,H1,I1,r1,q1⟩=>?_) hs rfl))
 obtain⟨n,e,q⟩:=q1;subst e;obtain⟨u,rfl,t,rfl⟩:=zCy r1;refine call_range_1 ⟨.ref s1.heap.objs.size,_,I1.laid (fun b o e=>Heap.get?_push_of_some _ e) (Qf _) ?_,rfl,q _ I1.fresh⟩
 exact⟨_,_,_,Heap.get?_push_size _ rfl⟩
structure RankCx (X:Cx) (P c:Addr):Prop where
 calm:X.calm=true
 dp:X.A.depth<recursionLimit
 n0:X.N[0]?=some ("some" : Str)
 n1:X.N[1]?=some ("bottom" : Str)
 k0:X.env.kindOf "some" = some .cell
 k1:X.env.kindOf "bottom" = some .cell
 code:X.env.code=.ref c
 hd:∀ h,X.K.In h->CodeHd h c P
 qual:X.env.qual ++ "<lambda>" = sM
 bm:BMn X.base X.mg
 clo:∃ cs cb,closureFor kP X.env=pure [(("some" : Str),cs),(("bottom" : Str),cb)]/\X.env.cells.lookup ("some" : Str)=some cs/\X.env.cells.lookup ("bottom" : Str)=some cb
 gS:Gl X "sorted"
 mS:X.mg "sorted" = none
 gR:Gl X "range"
 mR:X.mg "range" = none
 gL:Gl X "len"
 mL:X.mg "len" = none
def zOA(X:Cx)(P:Addr):TE:=fun σ H Q=>∃ Hi a xs rows b kz,σ[0]?=some (some (.ref a))/\σ[1]?=some (some (.int b))/\(SqL X.K Hi a xs∨SqT X.K Hi a xs)/\IsDs X.K Hi xs rows/\Same Hi H/\oK b rows=.ok kz/\kz.length<64/\zCD P H/\Hi P=none/\
 ∀ π r Hi' H',gP kz π->Ext Hi H Hi' H'->zJW X.K H Hi' H' r (jU π)->Q (.ref r) H'
theorem zDW{pins:List (Addr×Obj)}{σ:St}{H:Hp}{s:Shared}{i:Nat}{x:Str}{v:V}{c:Addr}(I:Inv X pins σ H s)(hi:X.N[i]?=some x)(hv:σ[i]?=some (some v))(hk:X.env.kindOf x=some .cell)(hc:X.env.cells.lookup x=some c):∃ u,cV v u/\s.heap.IsCell c (some u):=by
 obtain⟨m,hn,hl⟩:=I.loc;obtain⟨u,r,l⟩:=hl i x v hi hv (.inr (.inl hk));refine⟨u,r,?_⟩
 rcases l with⟨z,_⟩ | ⟨_,c',z,q⟩
 ·rw[hk] at z;cases z
 ·rw[hc] at z;cases z;exact q
theorem zMV{P c:Addr}(R:RankCx X P c){pk pl pm pn:Pos}(hs1:starEach [.Name "some" p3] X.env=(false,eval (.Name "some" p3) X.env)::starEach [] X.env:=by rfl)
  (hs2:starEach [.Call (.Name "len" p2) [.Name "some" p3] [] p4] X.env=[(false,eval (.Call (.Name "len" p2) [.Name "some" p3] [] p4) X.env)]:=by rfl)
  (hs3:starEach [.Call (.Name "range" p1) [.Call (.Name "len" p2) [.Name "some" p3] [] p4] [] p5] X.env=(false,eval (.Call (.Name "range" p1) [.Call (.Name "len" p2) [.Name "some" p3] [] p4] [] p5) X.env)::starEach [] X.env:=by rfl):
  PE X (.Call (.Name "sorted" pk) [.Call (.Name "range" p1) [.Call (.Name "len" p2) [.Name "some" p3] [] p4] [] p5] [⟨some "key", .Lambda (zCX p6) (.BinOp (.Subscript (.Subscript (.Name "some" p7) (.Name "spot" p8) p9) (.Constant (.int 0) 0 pa) pb) .Mult
   (.BinOp (.Name "bottom" pc) .FloorDiv (.Subscript (.Subscript (.Name "some" pd) (.Name "spot" pe) pf) (.Constant (.int 1) 0 pg) ph) pi) pj) kP pl,pm⟩] pn) (zOA X P):=by
 intro pins s σ H Q I h;obtain⟨Hi,a,xs,rows,b,kz,e0,e1,hq,hds,sm,hkz,h64,tb,hiP,q⟩:=h;obtain⟨hl1,hl2⟩:=zY hkz;have hlen:xs.length=kz.length:=by rw[hds.length,hl1]
 refine wpAny_Call_Name_kw (pO I R.gS R.mS boot_sorted ?_ (by decide) (by decide))
 have vS:PE X (.Name "some" p3) (zDu 0):=wG R.n0 (.inr (.inl R.k0));have pR:=zPz (p:=p1) (pos:=p5) R.gR R.mR (kR (zES (p:=p2) (pos:=p4) aP R.gL R.mL boot_len (kR vS oT hs1) (by decide) (by decide) hs1) oT (by rw[hs2];rfl)) hs2
 refine callWith_kw (thn ((kR pR oT hs3) pn pins s σ H (fun vs H1=>∃ r,vs=[.ref r]/\H r=none/\H1=upd H r (.rng 0 kz.length)) I ?reads) fun us s1 ⟨vs,H1,I1,r1,q1⟩=>?_) (by rw[hs3];rfl) (by rw[hs3];rfl)
 case reads=>
  refine⟨.ref a,e0,a,xs,rfl,hq.imp (cK sm) (cJ sm),xs.length,rfl,fun r hr=>⟨r,rfl,hr,by rw[hlen]⟩⟩
 obtain⟨r,rfl,hr,rfl⟩:=q1;obtain⟨u,rfl,ru⟩:=zCy r1;cases ru;obtain⟨cs,cb,hcl,hcs,hcb⟩:=R.clo;have x1:Ext Hi H Hi (upd H r (.rng 0 kz.length)):=Ext.newF sm hr;refine kws_cons (zKm I1 (x1.h.t P tb) R.hd R.code R.qual R.bm hcl rfl fun f c' ctv oc vs t u H3 s3 I3 hkeep hsame hf hfs hfo hc1 hc2 hc3=>kws_nil ?_)
 have x2:Ext Hi H Hi H3:=x1.trans ⟨Same.refl _,hkeep,fun b o e=>hsame b o (x1.s _ _ e) (fun z=>by rw[z,hiP] at e;cases e),fun b e z=>absurd e z⟩
 have hr3:H3 r=some (.rng 0 kz.length):=hkeep.at aY;obtain⟨t1,t2,t3,hrg⟩:=I3.hok r _ hr3
 have I3p:Inv X (pins++[(f,kla_obj "<lambda>" sM (zCX p6) _ kP [("some", cs),("bottom", cb)] ((X.mg "__name__").getD .none) c' ctv)]) σ H3 s3:=I3.pins_of fun p hp=>by
  rcases QF.mp hp with hp | hp
  ·exact I3.pin p (QA _ hp)
  ·rw[Qp.mp hp]
   exact⟨hfo,hf.1,hf.2.1,hf.2.2.1,fun v z=>by have z':Data.func _=Data.cell v:=z;cases z'⟩
 refine zGV (kz:=kz) R.calm I3p hrg h64 rfl (fun j tk k hj s' pl Ip=>?_) fun D s' out c2 π I' fD hDs hD hπ hV=>?_
 ·obtain⟨d,hd,hk⟩:=hl2 j k hj
  have hfo':=(Ip.pin _ (QA _ (Vy _ (QA _ (Qp.mpr rfl))))).1;obtain⟨u0,r0,ce0⟩:=zDW Ip R.n0 e0 R.k0 hcs;obtain⟨u1,r1,ce1⟩:=zDW Ip R.n1 e1 R.k1 hcb
  have look:∀ {x:Str} {c:Addr},List.lookup x [(("some" : Str),cs),(("bottom" : Str),cb)]=some c->(x = "some" /\ c=cs)∨(x = "bottom" /\ c=cb):=fun {x c} z=>by
   have z':=Vz z;rcases Qe.mp z' with z' | z'
   ·cases z';exact .inl ⟨rfl,rfl⟩
   ·cases Qp.mp z';exact .inr ⟨rfl,rfl⟩
  have hne:cs≠cb:=fun z=>by
   have:=Ip.ok.inj _ _ _ hcs (z ▸ hcb)
   exact absurd this (by decide)
  have lam:∃ t,PE (cxL X.prog X.w X.K X.mg X.base ["spot","some","bottom"] sM kP f (.ref c') [("some", cs),("bottom", cb)] X.A.in1.in1 X.stack s' H3) _ t/\t [some (.int j),some (.ref a),some (.int b)] H3 (fun v H'=>v=.int k/\H'=H3):=
   zKa (p1:=p7) (p2:=p8) (p3:=p9) (p4:=pa) (p5:=pb) (p6:=pc) (p7:=pd) (p8:=pe) (p9:=pf) (pa:=pg) (pb:=ph) (pc:=pi) (pz:=pj) rfl rfl rfl hq hds x2.s hd hk ⟨rfl,rfl⟩
  obtain⟨tt,hb,hqq⟩:=lam;refine wpAny_call (codeAny_mono (zLW (E:=fun _ _ _=>False) (p := "spot") (Ip.ok.hd R.calm) R.dp Ip.env0.in1.in1 hfo' ⟨c',oc,vs,t,rfl,(Ip.hok c' _ hc1).1,hc2,hc3⟩ rfl (by decide +kernel) rfl rfl rfl (by decide +kernel) (fun x hx=>?_) (fun x y c z1 z2=>?_) (fun x c z=>?_) rfl (fun i x v z1 z2=>?_) hb hqq) fun res s'' hres=>?_)
  ·have hx':=Vz hx
   rcases Qe.mp hx' with z | hx'
   ·cases z
   ·rcases Qe.mp hx' with z | hx'
    ·cases z;exact⟨cb,rfl⟩
    ·cases Qp.mp hx';exact⟨cs,rfl⟩
  ·rcases look z1 with⟨rfl,rfl⟩ | ⟨rfl,rfl⟩<;>rcases look z2 with⟨rfl,w⟩ | ⟨rfl,w⟩
   ·rfl
   ·exact absurd w hne
   ·exact absurd w.symm hne
   ·rfl
  ·rcases look z with⟨rfl,rfl⟩ | ⟨rfl,rfl⟩
   ·exact⟨⟨_,ce0⟩,Ip.freeC _ _ hcs⟩
   ·exact⟨⟨_,ce1⟩,Ip.freeC _ _ hcb⟩
  ·match i,z1,z2 with
   | 0,z1,z2=>cases z1;cases z2;exact .inl ⟨rfl,tk,rfl⟩
   | 1,z1,z2=>cases z1;cases z2;exact .inr ⟨by decide +kernel,cs,u0,rfl,ce0,r0⟩
   | 2,z1,z2=>cases z1;cases z2;exact .inr ⟨by decide +kernel,cb,u1,rfl,ce1,r1⟩
   | i+3,z1,z2=>simp at z2
  ·cases res with
   | error ev=>exact False.elim hres
   | ok fl=>
    cases fl with
    | ret u=>
     obtain⟨v,H',J,rv,rfl,rfl⟩:=Ip.after hres;obtain⟨t',rfl⟩:=rv;exact⟨⟨t',rfl⟩,J⟩
    | next=>exact False.elim hres
    | brk=>exact False.elim hres
    | cont=>exact False.elim hres
 ·have I'':Inv X pins σ H3 s':=I'.unpinned
  obtain⟨f0,f1,f2,f3,f4,f5⟩:=fD;have h0:X.s₀.heap.get? D=none:=Heap.get?_none_of_le (Qv I3.sz hDs);have hl:=hV.length
  have okL:mK X.prog X.w (upd H3 D (.lst (π.map fun i:Nat=>V.int (i:Int)))) s'.heap D (.lst (π.map fun i:Nat=>V.int (i:Int))):=by
   refine⟨?_,out.toList,c2,hV,by rw[Array.toArray_toList];exact hD⟩
   rw[Qd,hπ.1.length_eq,QE,sizeLine_eq];omega
  have I4:=I''.track f0 h0 f1 f4 (fun p hp=>f5 p (by
   rcases QF.mp hp with hp | hp
   ·exact Vy _ hp
   ·exact QA _ (Vy _ hp))) okL
  refine⟨.ref D,_,I4,rfl,q π D Hi _ hπ (x2.trans (Ext.newF x2.s f0)) ⟨x2.h.none f0,x2.s.none f0,_,aY,zCi π⟩⟩
end
def spR(K:PySem.W.Frag)(mg:Str->Option Value)(kf:List D->Res (List Int)):Sp:=fun vs H Q _=>vs.length=1/\∃ Bi ds,TB K mg Bi H/\Same Bi H/\IsDs K Bi vs ds/\match kf ds with
 | .ok kz=>∀ π a Hi' H',gP kz π->Ext Bi H Hi' H'->zJW K H Hi' H' a (jU π)->Q (.ref a) H'
 | _=>False
structure CanR (P:Program) (w:World) (K:PySem.W.Frag) (mg:Str->Option Value) (base:Heap) (k:Nat) (kf:List D->Res (List Int)):Prop where
 ex:∃ f fd,FnOk P w K mg base (CX1 P w) k f fd ["some"] (spR K mg kf)/\zCu K fd ["some"] []/\PySem.W.keepIn K (.ref f)=true/\mg "ranked" = some (.ref f)
theorem CanR.mono{P:Program}{w:World}{K:Fg_}{mg:Str->Option Value}{base:Heap}{j k:Nat}{kf:List D->Res (List Int)}(c:CanR P w K mg base j kf)(h:j<=k):CanR P w K mg base k kf:=by
 obtain⟨f,fd,F,r⟩:=c.ex;exact⟨⟨f,fd,F.mono h,r⟩⟩
structure RankDef (st:Stmt):Prop where
 k0:(aH st).names.lookup ("some" : Str)=some .cell
 k1:(aH st).names.lookup ("bottom" : Str)=some .cell
 gS:(aH st).names.lookup ("sorted" : Str)=some .globalImplicit
 gR:(aH st).names.lookup ("range" : Str)=some .globalImplicit
 gL:(aH st).names.lookup ("len" : Str)=some .globalImplicit
 clo:∀ L f cdv,∃ cs cb,closureFor kP (envOfC "ranked" (aH st) L f cdv)=pure [(("some" : Str),cs),(("bottom" : Str),cb)]/\(envOfC "ranked" (aH st) L f cdv).cells.lookup ("some" : Str)=some cs/\(envOfC "ranked" (aH st) L f cdv).cells.lookup ("bottom" : Str)=some cb
section
variable{P:Program}{w:World}{K:Fg_}{mg:Str->Option Value}{base:Heap}{st s1 s2:Stmt}{f:Addr}{fd:FuncData}{k:Nat}{sa sb:Sv}{p1 p2 p3 p4 p5 p6 p7 p8 p9 pa pb pc pd pe pf pg ph pi pj pk pl pm pn po:Pos}
theorem zNz{T:Addr}(F:Fn K mg "ranked" st ["some"] f fd)(S:FnScope ["some","bottom","each"] ["some"] (aH st))(D:RankDef st)(hT:oU K mg T)(hB:BMn base mg)(mS:mg "sorted" = none)(mR:mg "range" = none)(mL:mg "len" = none)
  (hbody:fS st=[s1,s2,.Return (some (.Call (.Name "sorted" pk) [.Call (.Name "range" p1) [.Call (.Name "len" p2) [.Name "some" p3] [] p4] [] p5] [⟨some "key", .Lambda (zCX p6) (.BinOp (.Subscript (.Subscript (.Name "some" p7) (.Name "spot" p8) p9) (.Constant (.int 0) 0 pa) pb) .Mult
   (.BinOp (.Name "bottom" pc) .FloorDiv (.Subscript (.Subscript (.Name "some" pd) (.Name "spot" pe) pf) (.Constant (.int 1) 0 pg) ph) pi) pj) kP pl,pm⟩] pn)) po])
  (h:∀(cdv:Value)(A:Around)(outer:List Env)(s:Shared)(H:Hp)(E:XK)(G:Gx),Good (BX P w K mg base ["some","bottom","each"] "ranked" st f cdv A outer s H E) G k->zHR (BX P w K mg base ["some","bottom","each"] "ranked" st f cdv A outer s H E) G->
   PSd (BX P w K mg base ["some","bottom","each"] "ranked" st f cdv A outer s H E) G s1 sa/\PSd (BX P w K mg base ["some","bottom","each"] "ranked" st f cdv A outer s H E) G s2 sb):
  CanR P w K mg base (k+1) (zAB sa sb):=by
 refine⟨f,fd,?_,F.bd,F.kp,F.mg⟩
 obtain⟨f',oc',od',fd',osl',c,t1,t2,t3,t4⟩:=id hT;have ef:f'=f:=by have:=t1.symm.trans F.mg;exact Value.ref.inj (QK this)
 subst ef;obtain⟨oc,od,kV,doc,pm',an,cdv,ct,osl,rfl,lk,hcd⟩:=F.fn.ex
 have efd:cdv=.ref c:=by
  rw[lk] at t2;cases t2;exact t3
 subst efd;refine zPq lk hcd S (fun vs H Q E h=>h.1) fun A outer s H vs Q E hr hsp=>?_
 obtain⟨hl,Bi,ds,tb,sm,hd,hq⟩:=hsp;have hg:=zIU (P:=P) (w:=w) (K:=K) (mg:=mg) (base:=base) (N:=["some","bottom","each"]) (outer:=outer) (H:=H) (Bi:=Bi) (E:=E) hr tb;obtain⟨h1,h2⟩:=h (.ref c) A outer s H E _ hg zEM
 have RC:RankCx (BX P w K mg base ["some","bottom","each"] "ranked" st f' (.ref c) A outer s H E) T c:=
  ⟨rfl,hr.depth,rfl,rfl,D.k0,D.k1,rfl,t4,by show(("ranked" : Str) ++ ".<locals>.") ++ "<lambda>" = sM;decide +kernel,hB,D.clo _ _ _,D.gS,mS,D.gR,mR,D.gL,mL⟩
 have body:∀ G,PSs (BX P w K mg base ["some","bottom","each"] "ranked" st f' (.ref c) A outer s H E) [s1] (tS (BX P w K mg base ["some","bottom","each"] "ranked" st f' (.ref c) A outer s H E) G sa)->PS (BX P w K mg base ["some","bottom","each"] "ranked" st f' (.ref c) A outer s H E) s1 (tS (BX P w K mg base ["some","bottom","each"] "ranked" st f' (.ref c) A outer s H E) G sa)->PS (BX P w K mg base ["some","bottom","each"] "ranked" st f' (.ref c) A outer s H E) s2 (tS (BX P w K mg base ["some","bottom","each"] "ranked" st f' (.ref c) A outer s H E) G sb)->
   PSs (BX P w K mg base ["some","bottom","each"] "ranked" st f' (.ref c) A outer s H E) (fS st) (zRa (tS (BX P w K mg base ["some","bottom","each"] "ranked" st f' (.ref c) A outer s H E) G sa) (zRa (tS (BX P w K mg base ["some","bottom","each"] "ranked" st f' (.ref c) A outer s H E) G sb) (zSl (zOA (BX P w K mg base ["some","bottom","each"] "ranked" st f' (.ref c) A outer s H E) T)))):=fun G _ h1 h2=>by
  rw[hbody];exact tE h1 (tE h2 (zDx (zEu (zMV RC))))
 refine⟨_,body _ (zDx h1) h1 h2,?_⟩
 cases ek:zAB sa sb ds with
 | no=>rw[ek] at hq;exact hq.elim
 | err c=>rw[ek] at hq;exact hq.elim
 | ok kz=>
  rw[ek] at hq;unfold zAB at ek;split at ek
  case isFalse=>cases ek
  split at ek
  case h_2=>cases ek
  rename_i ρ1 e1
  split at ek
  case h_2=>cases ek
  rename_i ρ2 e2
  refine⟨L3.start 3 ds,Bi,zCn (N:=["some","bottom","each"]) sm hd,?_⟩
  rw[e1];intro σ1 Hi1 H1 sm1 R1;refine⟨ρ1,Hi1,R1,?_⟩
  rw[e2];intro σ2 Hi2 H2 sm2 R2;unfold zEY at ek;split at ek
  case h_2=>cases ek
  rename_i rows b z0 z1
  split at ek
  case isFalse=>cases ek
  rename_i h64
  obtain⟨v,q0,r0⟩:=R2.slot 0 _ z0;obtain⟨v1,q1,r1⟩:=R2.slot 1 _ z1;obtain⟨a,xs,rfl,g1,g2⟩:=r0.lstI;have r1':=r1.intI;subst r1';obtain⟨tb2,n2⟩:=hg.tb.ext R2.ext T hT;exact⟨Hi2,a,xs,rows,b,kz,q0,q1,.inl g1,g2,R2.s,ek,by rw[(zY ek).1];exact h64,tb2,n2,fun π r Hi' H' hπ x nl=>hq π r Hi' H' hπ (R2.ext.trans x) ⟨R2.ext.h.none nl.1,nl.2⟩⟩
end
section
variable{X:Cx}{G:Gx}{e:Expr}{es:List Expr}{pos p:Pos}{fs:Fv}{k:Nat}{kf:List D->Res (List Int)}{tg:Expr}{body rest:List Stmt}{g:Gv}{sa sb:Sv}
def tIr(X:Cx)(G:Gx)(fs:Fv)(kf:List D->Res (List Int)):TI:=fun σ H R=>∃ ρ Hi,lP X G Hi H σ ρ/\Out G Hi H ((fs ρ).bind kf) fun kz Hi' H'=>∀ π J,gP kz π->xV X.K Hi' J (jU π)->R J H'
theorem zNT(W:Good X G k)(c:CanR X.prog X.w X.K X.mg X.base k kf)(hkf:∀ ds c,kf ds≠.err c)(hk1:∀ ds,kf ds≠.no->ds.length=1)(hg:Gl X "ranked")(ha:PAd X G [e] fs)(he:starEach [e] X.env=(false,eval e X.env)::starEach [] X.env:=by rfl):
  PI X tg (.Call (.Name "ranked" p) [e] [] pos) (tIr X G fs kf):=by
 obtain⟨f,fd,F,b,kp,hm⟩:=c.ex;refine PI.wk (zNN (zDA F W.room hg hm kp b .nil W.pass ha (by decide) he rfl)) fun σ H R q=>?_
 obtain⟨ρ,Hi,Rl,ou⟩:=q;refine zJL Rl ou fun vs ds Hi1 H1 e1 R1 r1 o1=>?_
 rw[QW];have hno:kf ds≠.no:=fun z=>by rw[z] at o1;exact o1
 refine⟨by rw[r1.length];exact hk1 ds hno,Hi1,ds,W.tb.ext R1.ext,R1.s,r1,?_⟩
 cases z:kf ds with
 | no=>exact absurd z hno
 | err c=>exact absurd z (hkf ds c)
 | ok kz=>
  rw[z] at o1;intro π a Hi2 H2 hπ e2 n;obtain⟨n1,n2,xs,n3,n4⟩:=n;have x3:=e2.hold n1 n3 n2;refine⟨a,rfl,⟨xs,SqL.of n3⟩,o1 _ _ x3 π _ hπ (zCa (SqL.of aY) (n4.mono (dA n2 _)))⟩
theorem zGY(W:Good X G k)(c:CanR X.prog X.w X.K X.mg X.base k kf)(hkf:∀ ds c,kf ds≠.err c)(hk1:∀ ds,kf ds≠.no->ds.length=1)(hg:Gl X "ranked")(ha:PAd X G [e] fs)(hgt:PGd X G tg g)(hge:∀ d ρ c,g d ρ≠.err c)(hb:eX X G body sa)(hr:eX X G rest sb)
  (he:starEach [e] X.env=(false,eval e X.env)::starEach [] X.env:=by rfl) {pf:Pos} (hs:∀ x,foldedSetIterable (.Call (.Name "ranked" p) [e] [] pos) X.env x=pure x:=by intro _;rfl):
  eX X G (.For tg (.Call (.Name "ranked" p) [e] [] pos) body [] pf::rest) (zHh fs kf g sa sb):=by
 refine PSs.wk (tE (zLN W.own W.calm (zNT W c hkf hk1 hg ha he) hgt hb hs) hr) fun E σ H q=>?_
 obtain⟨ρ,Hi,R,h⟩:=q;refine⟨ρ,Hi,R,mU R h fun kz Hi1 H1 _ e1 h1 π J hπ gv=>?_⟩
 have hn:oD kz (fun π=>aZ (fun ρ=>loop g sa (jU π) ρ) sb ρ)≠.no:=fun z=>by rw[z] at h1;exact h1
 rw[<-zFK hn hπ] at h1;exact zKN hge (R.grow e1) (zPi (sa:=fun ρ=>loop g sa (jU π) ρ) h1) gv
end
def zPR(K:PySem.W.Frag)(mg:Str->Option Value):Sp:=fun vs H Q _=>∃(a:Addr)(ns:List Int)(Bi:Hp),vs=[.ref a]/\TB K mg Bi H/\Same Bi H/\SqL K Bi a (ns.map V.int)/\ns.length<=63/\(∃ m,m<=1048576/\∀ n∈ns,n.natAbs<2^m)/\∀ H',Q (.bl true) H'
theorem zMi{P:Program}{w:World}{K:Fg_}{mg:Str->Option Value}{base:Heap}{k:Nat}{m:Mir}{f:Addr}{fd:FuncData}(F:FnOk P w K mg base (CX1 P w) k f fd ["script"] (spM K mg 1 m))
  (h:∀ ns:List Int,ns.length<=63->(∃ m,m<=1048576/\∀ n∈ns,n.natAbs<2^m)->m [.lst (ns.map D.int)]=.ok (.v (.bl true))):FnOk P w K mg base (CX1 P w) k f fd ["script"] (zPR K mg):=by
 refine F.imp fun vs H Q E q=>?_
 obtain⟨a,ns,Bi,rfl,tb,sm,hS,hl,hbg,q⟩:=q;refine⟨rfl,Bi,[.lst (ns.map D.int)],tb,sm,.cons (.lst hS (zCl ns)) .nil,?_⟩
 rw[h ns hl hbg];intro v Hi' H' e r;rw[r.blI];exact q H'
theorem zMQ{P:Program}{w:World}{K:Fg_}{mg:Str->Option Value}{base:Heap}{k:Nat}{m:Mir}{f:Addr}{fd:FuncData}(F:FnOk P w K mg base (CX1 P w) k f fd ["script"] (spM K mg 1 m))
  (h:∀ ns:List Int,ns.length<=63->m [.lst (ns.map D.int)]=.ok (.v (.bl true))):FnOk P w K mg base (CX1 P w) k f fd ["script"] (zPR K mg):=zMi F fun ns hl _=>h ns hl
theorem zJR{K:Fg_}{mg:Str->Option Value}{h:Heap}{T T':Addr}(X:K.In h)(a:oU K mg T)(b:oU K mg T'):T'=T:=by
 obtain⟨f,oc,od,fd,osl,c,a1,a2,a3,a4⟩:=a;obtain⟨f',oc',od',fd',osl',c',b1,b2,b3,b4⟩:=b;rw[a1] at b1;cases b1
 rw[a2] at b2;cases b2
 rw[a3] at b3;cases b3
 obtain⟨o,vs,_,_,_,_,_,_,_,e1,_,e3,e4,_⟩:=a4 h X;obtain⟨o',vs',_,_,_,_,_,_,_,f1,_,f3,f4,_⟩:=b4 h X;rw[e1] at f1;cases f1
 rw[e3] at f3;cases f3
 rw[e4] at f4;cases f4
 rfl
theorem zHq{P:Program}{w:World}{K:Fg_}{mg mb:Str->Option Value}{CX:CXT}{k:Nat}{fa a T:Addr}{fd:FuncData}{x:Str}{s₁:Shared}{vs:List Value}{ns:List Int}
  (KX:K.In s₁.heap) (hns:s₁.heap.Ns mainGlobals mg) (hb:s₁.heap.Ns builtinsNs mb) (hbb:∀ x:Str,x ≠ "__name__" -> mb x=bootBuiltins x) (hlim:s₁.heap.NoLimit) (hg:s₁.gens=#[]) (hbm:BMn s₁.heap mg) (hT:s₁.heap.get? T=some (tabObj #[])) (hKT:K.lookup T=none) (hP:oU K mg T)
  (ha:s₁.heap.get? a=some { cls:=.type "list", data:=.seq vs.toArray }) (hi:IntsAre vs ns) (hl:ns.length<=63) (hbg:∃ m,m<=1048576/\∀ n∈ns,n.natAbs<2^m) (hr:Room k callerA)
  (F:∀ base:Heap,K.In base->base.Ns mainGlobals mg->BMn base mg->FnOk P w K mg base CX k fa fd [x] (zPR K mg)) (hbind:∀(s:Shared)(u:Value),BindsTo s fd ⟨[u],[]⟩ [(x,u)])
  (hCX:∀ H e s',CX [] H s₁ (fun _ _ _=>False) e s'->False):
  codeAny (model P w) callerA (.call (.ref fa) ⟨[.ref a],[]⟩) (fun r s'=>r=.ok (.ret (.bool true))/\OldK s₁.heap s'.heap/\s'.os=s₁.os/\AllBare s'.gens) s₁:=by
 have rv:=zBF hi;have lenV:=hi.length;have haT:a≠T:=fun z=>by rw[z,hT] at ha;cases ha
 have core:∀ Bi:Hp,zSP Bi->SqL K Bi a (ns.map V.int)->HOk P w Bi s₁.heap->(∀ b,Bi b≠none->b=a)->(Bi a≠none->K.lookup a=none)->
   codeAny (model P w) callerA (.call (.ref fa) ⟨[.ref a],[]⟩) (fun r s'=>r=.ok (.ret (.bool true))/\OldK s₁.heap s'.heap/\s'.os=s₁.os/\AllBare s'.gens) s₁:=by
  intro Bi hO hS hokB hA hK
  have hBT:Bi T=none:=by
   cases q:Bi T with
   | none=>rfl
   | some u=>exact absurd (hA T (by rw[q];simp)).symm haT
  generalize hHdef:upd Bi T (.tbl #[])=H;have HT:H T=some (.tbl #[]):=by rw[<-hHdef,aY]
  have Hne:∀ {b},b≠T->H b=Bi b:=fun z=>by rw[<-hHdef,aW z]
  have sm:Same Bi H:=fun b o e=>by rw[Hne (bB e hBT)];exact e
  have hok:HOk P w H s₁.heap:=fun b u e=>by
   by_cases hb:b=T
   ·subst hb;rw[HT] at e;cases e;exact hT
   ·rw[Hne hb] at e
    exact(hokB b u e).stay (fun c v _ q=>q) (fun c q=>sm _ _ q) fun c xs q=>sm _ _ q
  have only:∀ {b:Addr} {o:Obj},s₁.heap.get? b=some o->(∀ xs n,o.data≠.seq xs n)->(∀ vs,o.data≠.fields vs)->H b=none:=fun {b o} e d1 d2=>by
   by_cases hb:b=T
   ·subst hb;rw[hT] at e;cases e;exact absurd rfl (d2 #[])
   ·rw[Hne hb]
    cases q:Bi b with
    | none=>rfl
    | some u=>
     have e':b=a:=hA b (by rw[q];simp)
     subst e';rw[ha] at e;cases e
     exact absurd rfl (d1 _ _)
  have base_of:∀ {b:Addr} {o:Obj},s₁.heap.get? b=some o->H b=none->(zJm s₁.heap H).get? b=some o:=fun e n=>zKe e n
  have nsK:∀ {b:Addr} {m:Str->Option Value},s₁.heap.Ns b m->(zJm s₁.heap H).Ns b m:=fun {b m} ⟨o,es,ep,e,d,r⟩=>⟨o,es,ep,base_of e (only e (fun xs n z=>by rw[d] at z;cases z) (fun vs z=>by rw[d] at z;cases z)),d,r⟩
  have hKb:K.In (zJm s₁.heap H):=fun b o e=>base_of (KX b o e) (by
   by_cases hb:b=T
   ·subst hb;rw[hKT] at e;cases e
   ·rw[Hne hb]
    cases q:Bi b with
    | none=>rfl
    | some u=>
     have e':b=a:=hA b (by rw[q];simp)
     subst e'
     rw[hK (by rw[q];simp)] at e;cases e)
  have hBb:BMn (zJm s₁.heap H) mg:=by
   obtain⟨bm,ob,b1,b2,b3,b4,b5,b6⟩:=hbm;exact⟨bm,ob,b1,b2,base_of b3 (only b3 (fun xs n z=>by rw[b6] at z;cases z) (fun vs z=>by rw[b6] at z;cases z)),b4,b5,b6⟩
  have hM:Mod K mg (zJm s₁.heap H):=⟨hKb,nsK hns,⟨mb,nsK hb,hbb⟩,let ⟨mc,h1,h2⟩:=hlim;⟨mc,nsK h1,h2⟩⟩;have e0:Env0 P w K mg (zJm s₁.heap H) callerA [] s₁ H:=⟨rfl,hM,fun b o e=>zMA e,Xz (zHx _ _),trivial,fun b hb=>absurd (show b∈([]:List Addr) from hb) (by simp),hok,.of_eq hg⟩
  have htb:TB K mg Bi H:=fun T' h'=>by
   have e':=zJR KX hP h';subst e';exact⟨⟨#[],HT,trivial,fun pos cv z=>by cases z⟩,hBT⟩
  refine codeAny_mono ((F _ hKb (nsK hns) hBb).run callerA [] s₁ H ⟨[.ref a],[]⟩ [.ref a] [.ref a] (fun v _=>v=.bl true) (fun _ _ _=>False) hr e0 (hbind s₁ (.ref a)) (.cons rfl .nil) ⟨a,ns,Bi,rfl,htb,sm,hS,hl,hbg,fun _=>rfl⟩) fun r s' h=>?_
  cases r with
  | error e=>exact(hCX H e s' h).elim
  | ok fl=>
   cases fl with
   | next=>exact False.elim h
   | brk=>exact False.elim h
   | cont=>exact False.elim h
   | ret u=>
    obtain⟨v,H',os,bare,un,hok',r',q⟩:=h;have q':v=.bl true:=q;subst q';obtain rfl:u=Value.bool true:=r';refine⟨rfl,⟨fun b o e=>?_,fun b o e=>un.there b o e (by simp)⟩,os,bare⟩
    by_cases hbT:b=T
    ·subst hbT
     obtain⟨more,z⟩:=un.tbls b _ HT;have z2:s'.heap.get? b=some { cls:=.none,data:=.fields (#[]++more) }:=hok' b _ z;rw[hT] at e;cases e
     obtain⟨f,oc,od,fd',osl,c,a1,a2,a3,a4⟩:=hP;obtain⟨o,vs,_,_,_,_,_,_,_,e1,e2,e3,e4,_⟩:=a4 _ KX;exact .inr (.inl ⟨⟨c,o,vs,e1,e2,e3,e4⟩,rfl,#[],more,rfl,z2⟩)
    ·refine .inl ?_
     cases q:H b with
     | none=>exact un.keep b o e q (by intro z;exact absurd (show b∈([]:List Addr) from z) (by simp)) (by simp)
     | some u=>
      rw[Hne hbT] at q;rcases hO b with z | ⟨ob,xs,z⟩
      ·rw[q] at z;cases z
      ·have z2:=un.frzs b ob _ (by rw[Hne hbT];exact z)
       obtain⟨e1,_⟩:=hokB b _ z;obtain⟨e2,_⟩:=hok' b _ z2;rw[e] at e1;cases e1
       exact e2
 cases hk:K.lookup a with
 | some o=>
  have e:=KX a o hk;rw[ha] at e;cases e;refine core (fun _=>none) (fun _=>.inl rfl) (.inr ⟨_,vs.toArray,_,hk,rfl,rfl,rfl,by rw[Ql,lenV,sizeLine_eq];omega,by simpa using rv⟩) (fun b u z=>by have z':(none:Option HO)=some u:=z;cases z') (fun b z=>absurd rfl z) fun z=>absurd rfl z
 | none=>
  refine core (fun b=>if b=a then some (.frz { cls:=.type "list", data:=.seq vs.toArray } (.lst (ns.map V.int))) else none) (fun b=>?_) (.inl (.inr ⟨{ cls:=.type "list", data:=.seq vs.toArray },if_pos rfl⟩)) (fun b u z=>?_) (fun b z=>?_) fun _=>hk
  ·by_cases hb:b=a
   ·exact .inr ⟨_,_,if_pos hb⟩
   ·exact .inl (if_neg hb)
  ·by_cases hb:b=a
   ·have z':=(if_pos hb).symm.trans z
    cases z'
    subst hb;exact⟨ha,by rw[Qd,sizeLine_eq];omega,vs,_,rv,ha⟩
   ·have z':=(if_neg hb).symm.trans z
    cases z'
  ·by_cases hb:b=a
   ·exact hb
   ·exact absurd (if_neg hb) z
theorem zLP:∀ {ns:List Int} {n:Int},n∈ns->(WData.int n).weight<=WData.weightAll (ns.map WData.int)
 | a::r,n,h=>by
  rw[Qq,WData.weightAll];rcases Qe.mp h with rfl | h
  ·omega
  ·have:=zLP h
   omega
theorem zMC{ns:List Int}(h:WData.layableAll [WData.list (ns.map WData.int)]=true):(∃ m,m<=1048576/\∀ n∈ns,n.natAbs<2^m):=by
 refine⟨1048576,Qf _,fun n hn=>?_⟩
 have w:WData.weightAll (ns.map WData.int)<=2^20:=by
  unfold WData.layableAll WData.layable at h;simp only[List.all_cons,List.all_nil,Bool.and_true,Q8,decide_eq_true_eq] at h;have:=h.2
  rw[WData.weight] at this;exact this
 have a:=zLP hn;rw[WData.weight] at a;by_cases z:n=0
 ·subst z
  exact Nat.two_pow_pos _
 ·rw[if_neg (by simpa using z)] at a
  exact Qs Nat.lt_log2_self (Vf (by decide) (by omega))
open PySem.Calls in
theorem zBM{l:OpenLaw}{n:Nat}{q:Program}{loose:List Str}{XP:(Str->Option Value)->Heap->Prop}{YP:World->Heap->Prop}{d:DefRec}
  (hn:l.most=some n) (hdf:d.params.defaults=[])
  (call:∀(w:World)(s₀ s₁:Shared)(mg mb:Str->Option Value)(fa:Addr)(o:Obj)(pm cd doc:Value)(a:Addr)(vs:List Value)(ns:List Int),(∃ m,m<=1048576/\∀ n∈ns,n.natAbs<2^m)->
   Ground q loose [] XP w s₀ mg mb s₁.heap->YP w s₁.heap->
   s₁.heap.get? fa=some o->o.data=.func (docDef d.name d.params d.body d.scope pm cd doc)->s₁.heap.CodeRec cd d.name->mg d.name=some (.ref fa)->
   s₁.heap.get? a=some { cls:=.type "list", data:=.seq vs.toArray }->IntsAre vs ns->ns.length<=n->s₁.gens=#[]->
   codeAny (model l.prog w) callerA (.call (.ref fa) ⟨[.ref a],[]⟩) (fun r s'=>r=.ok (.ret (.bool true))/\OldK s₁.heap s'.heap/\s'.os=s₁.os/\AllBare s'.gens) s₁):
  WalkO q loose XP YP l.row.toRowW d [] (fun f vs=>PySem.call f vs):=by
 intro w s₀ s₁ mg mb G Y fa o pm cd doc dV kV ho hd hcd hD hmg hg args vals as hpre hlay hrd hwl hlo;obtain rfl:dV=.none:=Dflts.none hD hdf;obtain rfl:kV=.none:=Dflts.noKw hD;obtain⟨a,vs,ns,rfl,rfl,hobj,hints,hlen⟩:=Att.script_of hn hpre hwl;refine enter_call (codeAny_mono (call w s₀ s₁ mg mb fa o pm cd doc a vs ns (zMC hlay) G Y ho (fd_plain hd) hcd hmg hobj hints hlen hg) fun r s' hq=>?_)
 obtain⟨rfl,h2,h3,h4⟩:=hq;exact⟨.inl ⟨.bool true,.bool true,[],rfl,fun _=>rfl,.bool true,Att.post_true l _,fun _=>⟨List.Pairwise.nil,fun _ hm=>(nomatch hm)⟩⟩,h2,h3,h4⟩
theorem zRN{l:PySem.W.OpenLaw}{k:Nat}{q:Program}{loose:List Str}{XP:(Str->Option Value)->Heap->Prop}{YP:World->Heap->Prop}{d:DefRec}{K:Params->PySem.W.Frag}{T:Addr}(hn:l.most=some 63)(hdf:d.params.defaults=[])(hr:Room k callerA)
  (hY:∀(w:World)(h:Heap),YP w h->(K w.params).In h) (hT:∀(w:World)(h:Heap),YP w h->h.get? T=some (tabObj #[]))
  (F:∀(w:World)(mg:Str->Option Value)(fa:Addr)(h:Heap),(K w.params).In h->h.Ns mainGlobals mg->mg d.name=some (.ref fa)->
   (K w.params).lookup T=none/\oU (K w.params) mg T/\∃ fd:FuncData,(∀(s:Shared)(u:Value),BindsTo s fd ⟨[u],[]⟩ [("script", u)])/\∀ base:Heap,(K w.params).In base->base.Ns mainGlobals mg->BMn base mg->FnOk l.prog w (K w.params) mg base (CX1 l.prog w) k fa fd ["script"] (zPR (K w.params) mg)):
  PySem.W.WalkO q loose XP YP l.row.toRowW d [] (fun f vs=>PySem.call f vs):=by
 refine zBM hn hdf fun w s₀ s₁ mg mb fa o pm cd doc a vs ns hbg G Y ho hd hcd hmg hobj hints hlen hg=>?_
 have KX:=hY w _ Y;obtain⟨h1,h2,fd,hb,hF⟩:=F w mg fa _ KX G.T.g hmg
 exact zHq KX G.T.g G.T.b G.T.builtins G.T.nolimit hg G.T.bmain (hT w _ Y) h1 h2 hobj hints hlen hbg hr hF hb fun _ _ _ z=>by
  obtain⟨_,_,_,_,_,z⟩:=z;exact z
section
variable{X:Cx}{G:Gx}{pins:List (Addr×Obj)}{σ:St}{H Hi:Hp}{s:Shared}{ρ:Rho}{i k:Nat}{st:Stmt}{sa:Sv}
end
section
variable{X:Cx}{G:Gx}{e a:Expr}{f g:Ev}{pos:Pos}
end
section
variable{X:Cx}{G:Gx}{st:Stmt}{rest:List Stmt}{sa sb:Sv}{u:TS}
end
section
variable{P:Program}{w:World}{K:Fg_}{mg:Str->Option Value}{base:Heap}{N ps:List Str}{x:Str}{st:Stmt}{f:Addr}{fd:FuncData}{k i0 i1 i2:Nat}{sv:Sv}
end
section
variable{X:Cx}{G:Gx}{e:Expr}{es:List Expr}{pos p:Pos}{fs:Fv}{k j0 j1 j2:Nat}{kf:List D->Res Tri}{x:Str}{ps:List Str}{tg:Expr}
end
def Itq(K:PySem.W.Frag)(a:Addr)(n:Nat):It:=
 ⟨fun i H=>∃ xs x,SqL K H a xs/\xs.length=n/\xs.reverse[i]?=some x,fun i H x H'=>H'=H/\∀ xs,SqL K H a xs->xs.reverse[i]?=some x,fun i H=>∃ xs,SqL K H a xs/\n<=i⟩
def rix(n i:Nat):Int:=(n:Int)-1-((min i n:Nat):Int)
theorem zIw{P:Program}{w:World}{K:Fg_}{tg:Expr}(a it:Addr)(n:Nat):Turn P w K tg (Itq K a n) [it] it (fun i h=>h.IsRevIter it a (rix n i)) where
 mem:=by simp
 obj:=fun i h st b hb=>by
  have e:b=it:=by simpa using hb
  subst e;obtain⟨o,e,c,d⟩:=st;exact⟨o,e,fun v z=>by rw[d] at z;cases z⟩
 keep:=fun i h h' st k=>st.at fun o e=>k it (by simp) o e
 item:=by
  intro X hP hw hK hc i pins s σ H E I hf st hg;subst hP hw hK;obtain⟨xs,x,hq,hn',hx⟩:=hg;obtain⟨its,rv,p,hz⟩:=I.list hq
  have hi:i<xs.length:=by
   have:=(Qz.mp hx).1
   rwa [Vc] at this
  have hx':xs[n-1-i]?=some x:=by
   rw[Yh hi,hn'] at hx;exact hx
  obtain⟨u,hu,ru⟩:=rv.get hx';obtain⟨f0,f1,f2,f3,f4,f5⟩:=hf it (by simp)
  have st0:s.heap.IsRevIter it a ((n-1-i:Nat):Int):=by
   have e:rix n i=((n-1-i:Nat):Int):=by unfold rix;rw[Xp (by omega)];omega
   rw[<-e];exact st
  refine wpAny_pyNext_rev_item (items:=its.toArray) st0 p.isList (x:=u) (by simpa using hu) fun h' st' sb=>?_
  have I1:Inv X pins σ H { s with heap:=h' }:=I.turned (t':=s.toks) (fun b o hb e=>(sb.2 b hb).trans e) f0 f1 f3 f4 f5
  obtain⟨o,e,c,d⟩:=id st'
  have st2:h'.IsRevIter it a (rix n (i+1)):=by
   have e:rix n (i+1)=((n-1-i:Nat):Int)-1:=by unfold rix;rw[Xp (by omega)];omega
   rw[e];exact st'
  exact⟨u,rfl,zJZ (s:={ s with heap:=h' }) e c d (by decide) ⟨x,H,I1,ru,⟨rfl,fun ys hy=>by rw[I.list_inj hy hq];exact hx⟩,st2,fun b hb=>(hf b hb).1⟩⟩
 done:=by
  intro X hP hw hK hc i pins s σ H E I hf st hg;subst hP hw hK;obtain⟨xs,hq,hx⟩:=hg;obtain⟨f0,f1,f2,f3,f4,f5⟩:=hf it (by simp)
  have st0:s.heap.IsRevIter it a (-1):=by
   have e:rix n i=-1:=by unfold rix;rw[X0 hx];omega
   rw[<-e];exact st
  exact wpAny_pyNext_rev_end (I.ok.hd hc) st0 fun h' eb=>⟨rfl,I.turned (t':=s.toks) (fun b o hb e=>eb b o hb e) f0 f1 f3 f4 f5⟩
 self:=fun _ _ _ _ _ st h=>wpAny_pyIter_revIter st h
section
variable{X:Cx}{G:Gx}{fs:Fv}{f:Ev}
def iRw(K:PySem.W.Frag)(ta:TA):TI:=fun σ H R=>ta σ H fun vs H1=>∃ a xs,vs=[.ref a]/\SqL K H1 a xs/\R (Itq K a xs.length) H1
theorem zMk{tg a:Expr}{ta:TA}{p pos:Pos}(hg:Gl X "reversed")(hm:X.mg "reversed" = none)(ha:PA X [a] ta)(hs:starEach [a] X.env=[(false,eval a X.env)]:=by rfl):PI X tg (.Call (.Name "reversed" p) [a] [] pos) (iRw X.K ta):=by
 intro pins s σ H R I h;refine Call_ (pO I hg hm zJw (VZ (thn (ha pos pins s σ H _ I h) fun us s1 ⟨vs,H1,I1,r1,q1⟩=>?_) hs rfl))
 obtain⟨t,xs,rfl,hq,q⟩:=q1
 cases r1 with
 | cons r rr=>
  cases rr;cases r;obtain⟨its,rv,pt,hz⟩:=I1.list hq;have hl:=rv.length;refine call_reversed_list (items:=its.toArray) pt.isList ?_
  have hR:(s1.heap.push (revObj t ((its.toArray.size:Int)-1))).IsRevIter s1.heap.objs.size t (rix xs.length 0):=
   ⟨_,Heap.get?_push_size _ rfl,rfl,by unfold rix;rw[hl,Ql];simp[revObj]⟩
  refine wpAny_pyIter_revIter (s:={ s1 with heap:=_ }) hR ?_
  refine⟨s1.heap.objs.size,[s1.heap.objs.size],_,_,H1,rfl,I1.kept (t':=s1.toks) fun b o e=>Heap.get?_push_of_some _ e,zIw t _ xs.length,hR,fun b hb=>?_,q⟩
  have e:b=s1.heap.objs.size:=by simpa using hb
  subst e;exact I1.fpOk (Qf _) (I1.hok.fresh (Qf _))
theorem zFj{K:Fg_}{Hi:Hp}{a:Addr}{xs:List V}{ds:List D}(h1:SqL K Hi a xs)(h2:IsDs K Hi xs ds):xV K Hi (Itq K a xs.length) ds.reverse:=fun Hi1 H1 s1 s2 i=>by
 have h3:=cK (s1.trans s2) h1;have hl:=h2.length;refine⟨fun hl'=>⟨xs,h3,by rw[Vc] at hl';omega⟩,fun d hd=>?_⟩
 have hi:i<ds.length:=by
  have:=(Qz.mp hd).1
  rwa [Vc] at this
 rw[Yh hi] at hd;obtain⟨v,hv,r⟩:=h2.at hd;have hv':xs.reverse[i]?=some v:=by rw[Yh (by omega),hl];exact hv
 refine⟨⟨xs,v,h3,rfl,hv'⟩,fun x H2 y=>?_⟩
 obtain⟨e,y⟩:=y;subst e;have:=y xs h3
 rw[hv'] at this;cases this;exact⟨Hi1,Ext.refl s2,r.mono s1⟩
theorem zPV{tg a:Expr}{p pos:Pos}(hg:Gl X "reversed")(hm:X.mg "reversed" = none)(ha:PEd X G a f)(hst:starEach [a] X.env=[(false,eval a X.env)]:=by rfl):PId X G tg (.Call (.Name "reversed" p) [a] [] pos) (zKw f):=PI.wk (zMk hg hm (kR ha oT (by rw[hst];rfl)) hst) fun σ H Q q=>by
 obtain⟨ρ,Hi,R,ou⟩:=q;refine zFW R ou fun v d Hi1 H1 e1 R1 r1 o1=>?_
 cases d with
 | lst ds=>
  obtain⟨a,xs,rfl,h1,h2⟩:=r1.lstI;exact⟨a,xs,rfl,cK R1.s h1,o1.here R1.s _ (zFj h1 h2)⟩
 | _=>exact o1.elim
end
section
variable{prog:Program}{w:World}{A:Around}{E:Value->Shared->Prop}{s:Shared}
end
section
variable{X:Cx}{G:Gx}{f:Ev}
end
section
variable{X:Cx}{G:Gx}{it:Fv}{t:Tv}
end
section
variable{X:Cx}{G:Gx}
theorem cB{i:Int}{j pos}:PEd X G (.Constant (.int i) j pos) (eC (.int i)):=mP zIJ fun _=>.int _
theorem aJ(i:Nat){x:Str}{pos:Pos}(hN:X.N[i]?=some x:=by rfl)(hv:Vis X.env.scope x:=by first | exact Or.inl rfl | exact Or.inr (Or.inl rfl) | exact Or.inr (Or.inr rfl))(hd:(x==("__debug__" : Str))=false:=by decide)
  (hcd:(x==("__classdict__" : Str))=false:=by decide):PEd X G (.Name x pos) (aI i):=zOU i (pv i hN hv hd hcd)
theorem nV(n:Nat){x:Str}{pos p2:Pos}{i:Int}{j p1}(hN:X.N[n]?=some x:=by rfl)(hv:Vis X.env.scope x:=by first | exact Or.inl rfl | exact Or.inr (Or.inl rfl) | exact Or.inr (Or.inr rfl))(hd:(x==("__debug__" : Str))=false:=by decide)
  (hcd:(x==("__classdict__" : Str))=false:=by decide):PEd X G (.Subscript (.Name x pos) (.Constant (.int i) j p1) p2) (eOp oIx (aI n) (eC (.int i))):=bY aQ gY (aJ n hN hv hd hcd) cB (fun _ _=>rfl)
end
end L3
namespace PySem.W.Fast
def tw13044398736303269400:=0
def tw4664369283069148696:=0
def tw16979681634706272319:=0
def tw7818533344028789109:=0
def tw9777506559802785052:=0
def tw7067601982239331235:=0
def tw6030180562376534123:=0
def tw1324035169387064859:=0
def tw16620775696675167504:=0
def tw3903249461705844219:=0
def tw11437797374887358522:=0
def tw8230432560714345631:=0
def tw18340293976271305928:=0
def tw13670663626149820685:=0
def tw17307163928563015954:=0
def tw11719795850491984156:=0
def tw3409082581075499456:=0
def tw14498966213012938227:=0
def tw14627711656352937486:=0
def tw10417922555865376357:=0
def tw6873780641259901462:=0
def tw9215654113561184078:=0
def tw5935203385680918158:=0
def tw4491262708535732160:=0
def tw11857298670262141892:=0
def tw973190958889531721:=0
def tw17915377450048708266:=0
def tw3775121674077001277:=0
def tw7921838676887327751:=0
def tw12569591113053679197:=0
def tw1365329896453796066:=0
def tw645219456029411519:=0
def tw5237045407120398195:=0
def tw6523854662694879073:=0
def tw14588392480907028694:=0
def tw12991436693131344375:=0
def tw6481299983077947998:=0
def tw8542080348182297006:=0
def tw10735377817443370946:=0
def tw8188615295759620856:=0
def tw11199598879291999206:=0
def tw16445583305464702531:=0
def tw17156219025117498230:=0
def tw5836718571270597919:=0
def tw18309417890752151610:=0
def tw5647778543807926752:=0
def tw17609963584119722232:=0
def tw455486951345203255:=0
def tw84389950672890842:=0
def tw10834731567825393001:=0
def tw14877790753380745062:=0
def tw540161327379359544:=0
def tw4108808062212382859:=0
def tw11413162779505716745:=0
def tw15167270736954673878:=0
def tw11131088268704201734:=0
def tw4764285271031095526:=0
def tw15902444647778234694:=0
def tw6933071340474454613:=0
def tw17175922396812553157:=0
def tw36245589252469413:=0
def tw969737378034874302:=0
def tw3249665405738439165:=0
def tw8723484937373980953:=0
def tw9374702169125521106:=0
def tw17906459959841551969:=0
def tw12636950413229619696:=0
def tw16966372276357167716:=0
def tw17481571144794881129:=0
def tw6184880867397028089:=0
def tw16679819216273250102:=0
def tw4942651287404576655:=0
def tw7563402073627469073:=0
def tw11075739895854705049:=0
def tw15639227277108704833:=0
def tw3853040124594356981:=0
def tw7025816603975121005:=0
def tw17343090689851275181:=0
def tw10363130569716362876:=0
def tw4685717837325827322:=0
def tw3887005143469159236:=0
def tw8478228274857314111:=0
def tw6105312549891821387:=0
def tw4676983197660152539:=0
def tw6785347425008222260:=0
def tw9119111771282646939:=0
def tw7309307815293978624:=0
def tw16472426144526819006:=0
def tw6061174258627236594:=0
def tw9536549427675570568:=0
def tw6878871322803877968:=0
def tw15137112335172274595:=0
def tw11773253849402519898:=0
def tw4053576670668021774:=0
def tw17921875340417614191:=0
def tw14492497618682689672:=0
def tw9179714713514869879:=0
def tw10331296318057757630:=0
def tw5204710010127348232:=0
def tw17128775517960115980:=0
def tw7250925455893382808:=0
def tw518012843705708954:=0
def tw1397293863991344145:=0
def tw8002271938158034677:=0
def tw9134399465712319983:=0
def tw5954440062199970606:=0
def tw14385268886269471863:=0
def tw5108662845526347229:=0
def tw14668320674999039178:=0
def tw8386324694572736477:=0
def tw12068777069195914556:=0
def tw1786281661070347721:=0
def tw14820580338190126776:=0
def tw3109505574924920157:=0
def tw3293041790678479566:=0
def tw6251247164675321814:=0
def tw16708193850940468058:=0
def tw15462448082712074910:=0
def tw9233968468946116264:=0
def tw4592195718636268923:=0
def tw11328290120719331628:=0
def tw1856183877884401861:=0
def tw16142282415453389149:=0
def tw9116445711982578773:=0
def tw14983698286891710833:=0
def tw16324163408597067589:=0
def tw16057656486392091943:=0
def tw8081059798257487953:=0
def tw14272579327932252966:=0
def tw9442675101928641523:=0
def tw1068530755995448985:=0
def tw542111968960629578:=0
def tw4386976763939706045:=0
def tw17548840324856487042:=0
def tw6232478852741944950:=0
def tw18142757983302319748:=0
def tw17122299420063451001:=0
def tw5132210899656493677:=0
def tw13553765556410267743:=0
def tw5458556379028868368:=0
def tw5832914029072218721:=0
def tw12263098086753697832:=0
def tw11333279217549153902:=0
def tw12827916558789221778:=0
def tw5873445194741634173:=0
def tw1541182023929340039:=0
def tw18021315063588674021:=0
def tw3236178321135888770:=0
def tw11797931500411879577:=0
def tw6934766702240770311:=0
def tw1109256290239924443:=0
def tw6524854552062383577:=0
def tw3704813637286532998:=0
def tw9012205273023098095:=0
def tw6733116132805876452:=0
def tw3483997131312013752:=0
def tw16541453798382346121:=0
def tw3031553999502974565:=0
def tw15083295686280174827:=0
def tw16681428119992819469:=0
def tw7918718764247855727:=0
def tw9763157768682286345:=0
def tw11737624012599966652:=0
def tw3330445809249302638:=0
def tw9872577147220197382:=0
def tw9088908106142398787:=0
def tw2615491377662334105:=0
def tw4329447686464705190:=0
def tw3439593909845634423:=0
def tw5639556123027759604:=0
def tw1929627736313659944:=0
def tw9642464411661810411:=0
def tw5733064935247193461:=0
def tw11520970915885833277:=0
def tw8465615005672978592:=0
def tw13662255983099246063:=0
def tw6850147478894766898:=0
def tw15474244988931447321:=0
def tw2603654335366409275:=0
def tw18410745049298749179:=0
def tw3800008223100840251:=0
def tw2698553894214117702:=0
def tw14631662268850381176:=0
def tw11904704194163075751:=0
def tw9117272700494663424:=0
def tw1928793805886294780:=0
def tw16362203945785830764:=0
def tw5087107013282309240:=0
def tw7266540384700534053:=0
def tw2961793526497772580:=0
def tw5965558308374411878:=0
def tw10560133068848728480:=0
def tw2740510895699327089:=0
def tw1044428721181221559:=0
def tw9637737605870271201:=0
def tw15556681733717911997:=0
def tw14388838860087308725:=0
def tw8499938722051753235:=0
def tw835885072459808669:=0
def tw10492234803644981546:=0
def tw1077205902733743384:=0
def tw6718739017004825561:=0
def tw16167430167299896069:=0
def tw15799050182727318670:=0
def tw5362538233620079186:=0
def tw16320351785438375025:=0
def tw12541542021087689652:=0
def tw8657238898761507125:=0
def tw6795136084660370401:=0
def tw7972604344390673080:=0
def tw3443247127236803033:=0
def tw4736867119987547128:=0
def tw16064472326397772819:=0
def tw6177416009510671507:=0
def tw6042442973112273337:=0
def tw2100392337899967709:=0
def tw15115027858153221638:=0
def tw4163608091159354474:=0
def tw15279858092173094235:=0
def tw2083743815367022947:=0
def tw1056184014826129234:=0
def tw7524246410725275140:=0
def tw1702489400310540565:=0
def tw5653121374312841448:=0
def tw17600283407928745153:=0
def tw5320516317270142852:=0
def tw10182522149141589468:=0
def tw1270626948307039674:=0
def tw10169723725488338147:=0
def tw15567646766448085638:=0
def tw12641920101620321667:=0
def tw8351053231244302241:=0
def tw12103417851654664552:=0
def tw3097905036094411126:=0
def tw18369546248230472261:=0
def tw17319698089638450816:=0
def tw7915724367733110385:=0
def tw2548198475475009561:=0
def tw16127178030899175808:=0
def tw2839371483771688859:=0
def tw14319679459399903310:=0
def tw1185713074574224006:=0
def tw10288641480908358491:=0
def tw1905088823657551185:=0
def tw166715293079926248:=0
def tw12971709473213670665:=0
def tw13154283125465343437:=0
def tw16764264905184679136:=0
def tw8149980708809576141:=0
def tw4328652025454785543:=0
def tw5714160740192201515:=0
def tw16290540247512836761:=0
def tw12049360626095539014:=0
def tw15208645377658434040:=0
def tw722641746869002878:=0
def tw1470500648744289867:=0
def tw3259155073814523192:=0
def tw13878093400792020859:=0
def tw9049631851258615487:=0
def tw9559288978835680516:=0
def tw18223736727684871474:=0
def tw1562885086562397806:=0
def tw9248703869357621531:=0
def tw13450020213086453552:=0
def tw13115364527055111506:=0
def tw314084176859573374:=0
def tw1877923129873735889:=0
def tw14856533243577592960:=0
def tw16225439381724047186:=0
def tw4041808166270179557:=0
def tw16293477538524215597:=0
def tw14673670029443164041:=0
def tw10110554844714896890:=0
def tw402031500986957141:=0
def tw5235717287811924724:=0
def tw7836280299223086354:=0
def tw1699916041258838886:=0
def tw1431023868165125664:=0
def tw14367159840789007209:=0
def tw8257895558639400989:=0
def tw642222841832201891:=0
def tw1568751153816646257:=0
def tw13010412892197912395:=0
def tw10906074583288732065:=0
def tw2455395539167253181:=0
def tw5405063654558654936:=0
def tw13996575743374840933:=0
def tw2980060103980147331:=0
def tw9254957780668296207:=0
def tw8128911385659709387:=0
def tw11165525744273089318:=0
def tw15691647338235691743:=0
def tw10473109434692657852:=0
def tw942145946312121016:=0
def tw13327807305038774537:=0
def tw14039799408941953884:=0
def tw12056666980449962827:=0
def tw9332144240117615950:=0
def tw8055399631253044017:=0
def tw12099081361221262212:=0
def tw16798854520227460818:=0
def tw8832039649816306059:=0
def tw14514175866953616017:=0
def tw6568774301501666349:=0
def tw2309460111335827407:=0
def tw17735793050324695184:=0
def tw2061059809007768827:=0
def tw7288740921158112859:=0
def tw15257065908395711686:=0
def tw14739338203644677868:=0
def tw10652992864228449188:=0
def tw6561824143947018912:=0
def tw3920556302140237923:=0
def tw3699297847010033915:=0
def tw1813374877129784080:=0
def tw2539593620302266748:=0
def tw1965428195326936366:=0
def tw13732555754894395661:=0
def tw9165376375031648018:=0
def tw4542012275417263339:=0
def tw13338362275350025097:=0
def tw9147542277388539344:=0
def tw7942251439036929958:=0
def tw8006480548907787596:=0
def tw9610004497036662650:=0
def tw11606304362962714168:=0
def tw780656277701843823:=0
def tw16446176214811334655:=0
def tw13584791800553954270:=0
def tw16772845220211999048:=0
def tw3982430723908930774:=0
def tw8348285475117314779:=0
def tw12657104103878729459:=0
def tw1254323057341718715:=0
def tw13163929598065433364:=0
def tw12593353657312217019:=0
def tw16052058307923488008:=0
def tw4487410722007115588:=0
def tw16620030677872535184:=0
def tw9997292759878773893:=0
def tw8363428430927611923:=0
def tw3372937234526612180:=0
def tw8501992558002759463:=0
def tw18155803890320352374:=0
def tw10777213514656524755:=0
def tw4407362283879293741:=0
def tw3419988409197697910:=0
def tw4157514197595338297:=0
def tw11043338160990633696:=0
def tw11123490661501285739:=0
def tw8574551112306728062:=0
def tw15841409802280968431:=0
def tw13660580892718580510:=0
def tw16438931092591924365:=0
def tw253476443290891376:=0
def tw5915146043492885831:=0
def tw17410260258946646741:=0
def tw11316389735962206205:=0
def tw14705813781309297912:=0
def tw14862414772902494631:=0
def tw12452887410875834086:=0
def tw12821225594511420736:=0
def tw5876357595109702376:=0
def tw443217485255166632:=0
def tw12740418814177061154:=0
def tw6757608151517297556:=0
def tw5382960457561268615:=0
def tw6262350732651396989:=0
def tw10851881452407052392:=0
def tw11742007174204172856:=0
def tw8309445695378145012:=0
def tw3872650474566071445:=0
def tw9095684856137079623:=0
def tw7518453394455863710:=0
def tw3550551347906488216:=0
def tw16177314093912195053:=0
def tw12823148400599092044:=0
def tw15141354957105136382:=0
def tw12684833300872170289:=0
def tw17981837113609403769:=0
def tw6323889213265061731:=0
def tw17152616881688010405:=0
def tw1776085383839661896:=0
def tw11202984901195352585:=0
def tw14845401024927190016:=0
def tw6867552436722025563:=0
def tw16077720676923997368:=0
def tw279194686579878034:=0
def tw11697615088280066852:=0
def tw10334427978384503394:=0
def tw10571711804543728196:=0
def tw2002667185716677068:=0
def tw10491624776082370919:=0
def tw2187352957368779809:=0
def tw10853173233024543026:=0
def tw8862460283697533332:=0
def tw4302944034119305338:=0
def tw1166746024267167118:=0
def tw3888351383080071129:=0
def tw8416958779176361212:=0
def tw2798783901261620280:=0
def tw7121425880063595962:=0
def tw17146626784014067888:=0
def tw3700979400072114322:=0
def tw11140028313901500717:=0
def tw13092098478006525232:=0
def tw4994376246092723102:=0
def tw9738137871129401126:=0
def tw18198410904235046942:=0
def tw14749805800762246663:=0
def tw4283356354058589966:=0
def tw17640624457471980298:=0
def tw2077330068090676194:=0
def tw6462439711864310811:=0
def tw8378336289572758793:=0
def tw8102416610000786654:=0
def tw9726488742485747625:=0
def tw1864837556995753145:=0
def tw4743007896387351455:=0
def tw9457771451281229032:=0
def tw7562661709968620942:=0
def tw7893357751120666739:=0
def tw13267821456489549055:=0
def tw18339139386632303660:=0
def tw3011143095126439767:=0
def tw6510474396240639226:=0
def tw2270989862447562601:=0
def tw5061826735813446436:=0
def tw1294432209814465707:=0
def tw15997571959476142899:=0
def tw1287833841050179092:=0
def tw9229735146655589143:=0
def tw15391030711284329726:=0
def tw2935461611054534558:=0
def tw2028246818360379727:=0
def tw13144139493963265195:=0
def tw4180873074926007534:=0
def tw2802637656796265991:=0
def tw14346968810838006392:=0
def tw10778418982200928470:=0
def tw13345675992053768175:=0
def tw10647009728884761239:=0
def tw2968657342598291470:=0
def tw1021731202911949135:=0
def tw16053814835288135415:=0
def tw17415932339899988245:=0
def tw4900096168542908327:=0
def tw12603690931495330374:=0
def tw12668400174610501430:=0
def tw17413471683024081572:=0
def tw200130277307117064:=0
def tw7203472554065676367:=0
def tw6318486950310109143:=0
def tw16749565840126106284:=0
def tw17871764586699716076:=0
def tw17791913656293849101:=0
def tw4712929636986469:=0
def tw13985994285404896438:=0
def tw17509421077762336607:=0
def tw17368754120078608068:=0
def tw6418513822720244502:=0
def tw14463715478354189463:=0
def tw2967133020325055612:=0
def tw16278700064809568385:=0
def tw1272038945941697732:=0
def tw2224584436878996968:=0
def tw16945658439177804114:=0
def tw976147208677054636:=0
def tw12522493211985274972:=0
def tw15617351650635822438:=0
def tw2911464994705309789:=0
def tw6213820065087925482:=0
def tw5814040779395817779:=0
def tw8955837720393837639:=0
def tw2766815303276876861:=0
def tw14887831282754030541:=0
def tw12495987907213766002:=0
def tw12023849655217059684:=0
def tw3417296362146122360:=0
def tw6813356874852448234:=0
def tw8694285681242110215:=0
def tw72949945803796609:=0
def tw4034751403908323476:=0
def tw2212936506743740495:=0
def tw6835066673761638627:=0
def tw18334474500347908105:=0
def tw8152957946900529935:=0
def tw8810538496944804353:=0
def tw7262945050346192745:=0
def tw4712605369947115397:=0
def tw490171141678457203:=0
def tw120290179784638000:=0
def tw11073117188569579763:=0
def tw17116599839812587284:=0
def tw17297839848586316774:=0
def tw15052383852183260477:=0
def tw668640238331549633:=0
def tw13054127450643915631:=0
def tw11244885819406796739:=0
def tw16239177130997785716:=0
def tw13981369196792241441:=0
def tw1145927874649279085:=0
def tw244304468333274862:=0
def tw1395196572034762443:=0
def tw11212192976112744307:=0
def tw6257712214681769571:=0
def tw5813631749046665759:=0
def tw8617686681937688823:=0
def tw6719408220565114194:=0
def tw7298210788730081591:=0
def tw11326381354267938768:=0
def tw812673753388057066:=0
def tw14723144420504343884:=0
def tw2713287785635727267:=0
def tw6645082187398639214:=0
def tw2410965651123720997:=0
def tw14368266290625847429:=0
def tw6956020649633558350:=0
def tw14644432557615890061:=0
def tw10602401295569884898:=0
def tw11376608121269295132:=0
def tw12247872829875468402:=0
def tw3927523944536475730:=0
end PySem.W.Fast
namespace Lw
open L3 PySem
def tbT:List Str:=[]
def zSW:List (Str×List Str):=[]
def eU:D:=(.tup [(.int 0),(.int 1)])
def aU:List (Str×Str):=[("row","back"),("back","row"),("even","lack"),("lack","even"),("part","part"),("half","half")]
def d_WEIGHTED:D:=(.tup [(.str "even"),(.str "lack")])
def d_HALF:D:=(.tup [(.int 1),(.int 2)])
def d_BOAT:D:=(.str "boat")
def d_MOST_BOATS:D:=(.int 12)
def d_DEEPEST:D:=(.int 8)
def d_OPENED:D:=(.tup [(.str "row"),(.str "back"),(.str "part")])
def d_ACROSS:D:=(.int 0)
def d_UP:D:=(.int 1)
abbrev qF:Sv:=(cZ 1 (aI 2))
abbrev pA:Sv:=(aZ (cZ 0 (aI 1)) qF)
abbrev pC:Sv:=(aZ (cZ 2 (eOp sN (aI 0) (aI 1))) pA)
abbrev oZ:Sv:=(iX (aI 0))
abbrev qA:Sv:=(aZ (eQ (dY (eOp oNe (aI 1) (eC (.int 0)))) pC) oZ)
abbrev pP:Sv:=(aZ (cZ 1 (eB zOi (aD (aI 1) aNil))) qA)
def bZ:Mir:=fn 2 3 (aZ (cZ 0 (eB zOi (aD (aI 0) aNil))) pP)
def bL:Mir:=fn 1 1 (iX (zFz (aD (aI 0) (aD (eC (.int 1)) aNil))))
def fH:Mir:=fn 2 2 (iX (eOp oLt (eOp wH (eOp oIx (aI 0) (eC (.int 0))) (eOp oIx (aI 1) (eC (.int 1)))) (eOp wH (eOp oIx (aI 1) (eC (.int 0))) (eOp oIx (aI 0) (eC (.int 1))))))
abbrev xZ:Sv:=(cZ 1 (eOp wH (aI 1) (eOp oIx (aI 2) (eC (.int 1)))))
abbrev zCe:Sv:=(cZ 1 (eC (.int 1)))
abbrev uX:Sv:=(zAO (qE (aI 0)) (gName 2) xZ)
def jF:List D->Res (List Int):=zAB zCe uX
def bX:Mir:=fn 1 1 (sIf (dY (eUn (rD aU) (aI 0))) (iA "BadWay" (aD (eC (.str "no such way")) aNil)) sNext)
abbrev rN:Sv:=(sIf (dY (eOp oLt (aI 1) (eC (.int 0)))) (iA "BadClaim" (aD (eC (.str "a claim is below nought")) aNil)) sNext)
abbrev qW:Sv:=(zAO (qE (aI 0)) (gName 1) rN)
def dR:Mir:=fn 1 2 (aZ (sIf (dY (eOp oEq (eB kU (aD (aI 0) aNil)) (eC (.int 0)))) (iA "BadClaim" (aD (eC (.str "there is no claim")) aNil)) sNext) qW)
abbrev pY:Sv:=(sIf (zJt (dY (eOp oLt (aI 4) (eC (.int 1)))) (dY (eOp oGt (aI 4) (eOp zJu (eC (.int 10)) (eC (.int 6)))))) (iA "BadWeights" (aD (eC (.str "a weight is not from 1 to 10 ** 6")) aNil)) sNext)
abbrev fL:Sv:=(zAO (qE (aI 1)) (gName 4) pY)
abbrev jE:Sv:=(aZ (sIf (dY (eOp oNe (eB kU (aD (aI 1) aNil)) (aI 3))) (iA "BadWeights" (aD (eC (.str "more or fewer weights than are due")) aNil)) sNext) fL)
def bA:Mir:=fn 3 5 (aZ (cZ 3 (eIf (dY (eOp oIn (aI 0) (eC d_WEIGHTED))) (aI 2) (eC (.int 0)))) jE)
abbrev zJC:Sv:=(iX (zFz (aD (eC d_BOAT) (aD (aI 0) aNil))))
def yI:Mir:=fn 1 1 (aZ (sIf (zJt (dY (eOp oLt (aI 0) (eC (.int 0)))) (dY (eOp oGt (aI 0) (eOp zJu (eC (.int 10)) (eC (.int 9)))))) (iA "BadClaim" (aD (eC (.str "a boat's claim is not from 0 to 10 ** 9")) aNil)) sNext) zJC)
def bP:Mir:=fn 1 1 (iX (eOp oEq (eOp oIx (aI 0) (eC (.int 0))) (eC d_BOAT)))
def dD:Mir:=fn 1 1 (iX (eOp oIx (aI 0) (eC (.int 0))))
def bQ:Mir:=fn 1 1 (iX (eOp oIx (aI 0) (eC (.int 1))))
def kM:Mir:=fn 1 1 (iX (eOp oIx (eOp oIx (aI 0) (eUn zKM (eC (.int 1)))) (eC d_ACROSS)))
def pN:Mir:=fn 1 1 (iX (eOp oIx (eOp oIx (aI 0) (eUn zKM (eC (.int 1)))) (eC d_UP)))
def nR:Mir:=fn 1 1 (gH (jR (qE (aI 0)) iZ (eOp oIx (aI 1) (eC d_ACROSS))))
abbrev tY:Sv:=(zCW 3 (eOp oIx (eF (lQ (aD (eOp xS (eC (.int 1)) (eOp sN (aI 5) (eC (.int 3)))) (aD (eOp xS (eC (.int 2)) (eOp wH (eC (.int 2)) (eOp sN (aI 5) (eC (.int 4))))) (aD (eOp xS (eC (.int 1)) (eOp sN (aI 5) (eOp zJu (eC (.int 10)) (eC (.int 6))))) aNil))))) (eOp sN (aI 1) (eC (.int 3)))))
abbrev uE:Sv:=(aZ (cZ 5 (eOp uV (eOp sN (eOp wH (aI 5) (aI 5)) (eC (.int 1000000007))) (eC (.int 8)))) tY)
abbrev mF:Sv:=(aZ (cZ 5 (eOp sN (eOp xS (eOp xS (aI 1) (eOp wH (eOp wH (eC (.int 7919)) (aI 4)) (aI 4))) (aI 4)) (eC (.int 2147483647)))) uE)
abbrev lV:Sv:=(fA 3)
abbrev uM:Sv:=(aZ (sIf (zJt (dY (eOp oEq (aI 0) (eC (.str "even")))) (dY (eOp oEq (aI 0) (eC (.str "lack"))))) (zAO (zFe (aD (aI 2) aNil)) (gName 4) mF) sNext) lV)
def eA:Mir:=fn 3 6 (aZ (zH 3 (lQ aNil)) uM)
abbrev zBw:Sv:=(cZ 3 (aI 4))
abbrev zCC:Sv:=(aZ (cZ 2 (aI 3)) zBw)
abbrev zCx:Sv:=(aZ (cZ 4 (eOp sN (aI 2) (aI 3))) zCC)
abbrev sB:Sv:=(iX (zFz (aD (eOp uV (aI 0) (aI 2)) (aD (eOp uV (aI 1) (aI 2)) aNil))))
abbrev zBE:Sv:=(aZ (eQ (dY (eOp oGt (aI 3) (eC (.int 0)))) zCx) sB)
abbrev zBq:Sv:=(aZ (cZ 3 (aI 1)) zBE)
def kF:Mir:=fn 2 5 (aZ (cZ 2 (eB zOi (aD (aI 0) aNil))) zBq)
abbrev zJM:Sv:=(iX (zFz (aD (eOp uV (aI 0) (aI 2)) (aD (eOp uV (aI 1) (aI 2)) aNil))))
abbrev zJy:Sv:=(aZ (sIf (dY (eOp oLt (aI 1) (eC (.int 0)))) (cZ 2 (eUn zKM (aI 2))) sNext) zJM)
abbrev zJJ:Sv:=(aZ (cZ 2 (aN bZ (aD (aI 0) (aD (aI 1) aNil)))) zJy)
def iN:Mir:=fn 2 3 (aZ (sIf (dY (eOp oEq (aI 1) (eC (.int 0)))) (iA "NoFraction" (aD (eC (.str "the bottom is nought")) aNil)) sNext) zJJ)
def kI:Mir:=fn 2 2 (iX (eIf (dY (aN fH (aD (aI 0) (aD (aI 1) aNil)))) (aI 0) (aI 1)))
def dU:Mir:=fn 2 2 (iX (eOr (aN fH (aD (aI 0) (aD (eC eU) aNil))) (aN fH (aD (aI 1) (aD (aI 0) aNil)))))
abbrev zFg:Sv:=(pH (aN bA (aD (aI 0) (aD (aI 1) (aD (eB kU (aD (aI 2) aNil)) aNil)))))
abbrev zFN:Sv:=(aZ (pH (aN dR (aD (aI 2) aNil))) zFg)
def lC:Mir:=fn 3 3 (aZ (pH (aN bX (aD (aI 0) aNil))) zFN)
abbrev sI:Sv:=(iX (eUn (tL aU) (aI 0)))
def dM:Mir:=fn 1 1 (aZ (pH (aN bX (aD (aI 0) aNil))) sI)
def bI:Mir:=fn 1 1 (iX (eIf (dY (aN bP (aD (aI 0) aNil))) (zFz aNil) (eOp oIx (aI 0) (eC (.int 2)))))
abbrev zDH:Sv:=(cZ 1 (aN bZ (aD (aI 1) (aD (aI 2) aNil))))
abbrev zCQ:Sv:=(gH (jR (qE (aI 0)) iZ (eOp uV (aI 3) (aI 1))))
abbrev zCN:Sv:=(aZ (zAO (qE (aI 0)) (gName 2) zDH) zCQ)
def kG:Mir:=fn 1 3 (aZ (cZ 1 (eC (.int 0))) zCN)
abbrev tZ:Sv:=(sIf (dY (aN fH (aD (eOp oIx (aI 3) (eC d_UP)) (aD (eOp oIx (aI 2) (eC d_UP)) aNil)))) (iA "BadLine" (aD (eC (.str "a y is less than the one ahead")) aNil)) sNext)
abbrev xD:Sv:=(aZ (sIf (zKC (dY (aN fH (aD (eOp oIx (aI 2) (eC d_ACROSS)) (aD (eOp oIx (aI 3) (eC d_ACROSS)) aNil))))) (iA "BadLine" (aD (eC (.str "an x is not greater than the one ahead")) aNil)) sNext) tZ)
abbrev wP:Sv:=(aZ (cZ 3 (eOp oIx (aI 0) (aI 1))) xD)
abbrev xO:Sv:=(aZ (cZ 2 (eOp oIx (aI 0) (eOp wI (aI 1) (eC (.int 1))))) wP)
abbrev xU:Sv:=(zAO (zGU (aD (eC (.int 1)) (aD (eB kU (aD (aI 0) aNil)) aNil))) (gName 1) xO)
abbrev xF:Sv:=(aZ (sIf (dY (eOp oNe (eOp oIx (aI 0) (eC (.int 0))) (zFz (aD (eC eU) (aD (eC eU) aNil))))) (iA "BadLine" (aD (eC (.str "the first point is not nought and nought")) aNil)) sNext) xU)
def gN:Mir:=fn 1 4 (aZ (sIf (dY (eOp oEq (eB kU (aD (aI 0) aNil)) (eC (.int 0)))) (iA "BadLine" (aD (eC (.str "a line has a point")) aNil)) sNext) xF)
abbrev pQ:Sv:=(sIf (dY (aN fH (aD (eOp oIx (eOp oIx (aI 0) (aI 5)) (aI 1)) (aD (aI 2) aNil)))) (cZ 3 (eOp xS (aI 5) (eC (.int 1)))) (cZ 4 (aI 5)))
abbrev pE:Sv:=(aZ (cZ 5 (eOp uV (eOp xS (aI 3) (aI 4)) (eC (.int 2)))) pQ)
abbrev jJ:Sv:=(iX (aI 3))
abbrev pM:Sv:=(aZ (eQ (dY (eOp oLt (aI 3) (aI 4))) pE) jJ)
abbrev qH:Sv:=(aZ (cZ 4 (eOp wI (eB kU (aD (aI 0) aNil)) (eC (.int 1)))) pM)
def dJ:Mir:=fn 3 6 (aZ (cZ 3 (eC (.int 0))) qH)
abbrev zFH:Sv:=(zJv 3 zAX (eC (.int 1)))
abbrev zFw:Sv:=(aZ (zCW 2 (eOp oIx (aI 1) (aI 3))) zFH)
abbrev zFl:Sv:=(zCW 2 (aI 4))
abbrev rS:Sv:=(aZ (sIf (zAK (dY (eOp oLt (aI 3) (eB kU (aD (aI 1) aNil)))) (dY (eOp oEq (eOp oIx (aI 1) (aI 3)) (aI 4)))) (zJv 3 zAX (eC (.int 1))) sNext) zFl)
abbrev zFX:Sv:=(aZ (eQ (zAK (dY (eOp oLt (aI 3) (eB kU (aD (aI 1) aNil)))) (dY (aN fH (aD (eOp oIx (aI 1) (aI 3)) (aD (aI 4) aNil))))) zFw) rS)
abbrev zCV:Sv:=(fA 2)
abbrev zDe:Sv:=(aZ (zIl 2 (fSl (aI 1) (oS (aI 3)) oN)) zCV)
abbrev zFA:Sv:=(aZ (zAO (qE (aI 0)) (gName 4) zFX) zDe)
abbrev zFE:Sv:=(aZ (cZ 3 (eC (.int 0))) zFA)
def pF:Mir:=fn 2 5 (aZ (zH 2 (lQ aNil)) zFE)
abbrev xQ:Sv:=(zCW 2 (aN bL (aD (aI 1) aNil)))
abbrev oC:Sv:=(aZ (zJv 1 zAX (aI 3)) xQ)
abbrev xK:Sv:=(fA 2)
abbrev xN:Sv:=(aZ (zAO (qE (aI 0)) (gName 3) oC) xK)
abbrev wJ:Sv:=(aZ (zH 2 (lQ (aD (eC eU) aNil))) xN)
def fE:Mir:=fn 1 4 (aZ (cZ 1 (eC (.int 0))) wJ)
abbrev iP:Sv:=(sIf (tFrzB (dY (aN fH (aD (eOp oIx (aI 1) (eUn zKM (eC (.int 1)))) (aD (aI 2) aNil))))) (zCW 1 (aI 2)) sNext)
abbrev oP:Sv:=(fA 1)
abbrev oO:Sv:=(aZ (zAO (qE (aI 0)) (gName 2) iP) oP)
def cY:Mir:=fn 1 3 (aZ (zH 1 (fSl (aI 0) oN (oS (eC (.int 1))))) oO)
abbrev kK:Sv:=(iX (aN kF (aD (eOp sN (eOp uV (aI 0) (eC (.int 4))) (eOp xS (eOp wH (aI 1) (aI 2)) (eC (.int 1)))) (aD (aI 2) aNil))))
def iQ:Mir:=fn 2 3 (aZ (cZ 2 (eOp oIx (eF (lQ (aD (eC (.int 1)) (aD (eOp xS (eC (.int 1)) (eOp sN (eOp uV (aI 0) (eC (.int 4))) (eC (.int 12)))) (aD (eC (.int 2)) (aD (eOp xS (eC (.int 1)) (eOp sN (eOp uV (aI 0) (eC (.int 4))) (eOp zJu (eC (.int 10)) (eC (.int 9))))) aNil)))))) (eOp sN (aI 0) (eC (.int 4))))) kK)
def lL:Mir:=fn 2 2 (iX (aN iN (aD (eOp xS (eOp wH (eOp oIx (aI 0) (eC (.int 0))) (eOp oIx (aI 1) (eC (.int 1)))) (eOp wH (eOp oIx (aI 1) (eC (.int 0))) (eOp oIx (aI 0) (eC (.int 1))))) (aD (eOp wH (eOp oIx (aI 0) (eC (.int 1))) (eOp oIx (aI 1) (eC (.int 1)))) aNil))))
def cO:Mir:=fn 2 2 (iX (aN iN (aD (eOp wI (eOp wH (eOp oIx (aI 0) (eC (.int 0))) (eOp oIx (aI 1) (eC (.int 1)))) (eOp wH (eOp oIx (aI 1) (eC (.int 0))) (eOp oIx (aI 0) (eC (.int 1))))) (aD (eOp wH (eOp oIx (aI 0) (eC (.int 1))) (eOp oIx (aI 1) (eC (.int 1)))) aNil))))
def dE:Mir:=fn 2 2 (iX (aN iN (aD (eOp wH (eOp oIx (aI 0) (eC (.int 0))) (eOp oIx (aI 1) (eC (.int 0)))) (aD (eOp wH (eOp oIx (aI 0) (eC (.int 1))) (eOp oIx (aI 1) (eC (.int 1)))) aNil))))
def oX:Mir:=fn 2 2 (iX (aN iN (aD (eOp wH (eOp oIx (aI 0) (eC (.int 0))) (eOp oIx (aI 1) (eC (.int 1)))) (aD (eOp wH (eOp oIx (aI 0) (eC (.int 1))) (eOp oIx (aI 1) (eC (.int 0)))) aNil))))
def bF:Mir:=fn 2 2 (sIf (dY (aN dU (aD (aI 0) (aD (aI 1) aNil)))) (iA "Outside" (aD (eC (.str "below nought, or more than there can be")) aNil)) sNext)
def dQ:Mir:=fn 2 2 (gH (tH (zLy (aD (aI 1) (aD (aI 0) aNil))) (aN iN (aD (aI 2) (aD (aI 3) aNil)))))
abbrev zFp:Sv:=(sIf (dY (eOp oEq (aN dD (aD (aI 3) aNil)) (aI 0))) (zIl 2 (zOq (aN bI (aD (aI 3) aNil)))) (zCW 2 (aI 3)))
abbrev zFU:Sv:=(fA 2)
abbrev zFr:Sv:=(aZ (zAO (qE (aI 1)) (gName 3) zFp) zFU)
abbrev zFd:Sv:=(aZ (zH 2 (lQ aNil)) zFr)
def nQ:Mir:=fn 2 4 (aZ (sIf (dY (eOp xX (aI 0) (eC d_OPENED))) (iX (aI 1)) sNext) zFd)
abbrev zAx:Sv:=(cZ 2 (aN cO (aD (aI 2) (aD (aI 5) aNil))))
abbrev zAq:Sv:=(aZ (zCW 3 (aI 5)) zAx)
abbrev oV:Sv:=(aZ (cZ 5 (aN kI (aD (aI 2) (aD (aN bL (aD (aI 4) aNil)) aNil)))) zAq)
abbrev zAQ:Sv:=(fA 3)
abbrev zAR:Sv:=(aZ (zAO (qE (aI 0)) (gName 4) oV) zAQ)
abbrev zAG:Sv:=(aZ (zH 3 (lQ aNil)) zAR)
def gD:Mir:=fn 2 6 (aZ (cZ 2 (aI 1)) zAG)
abbrev wN:Sv:=(zJv 4 wI (eOp oIx (aI 0) (aI 6)))
abbrev xI:Sv:=(aZ (cZ 3 (zOt (aN cO (aD (aI 3) (aD (eOp oIx (aI 5) (aI 6)) aNil))))) wN)
abbrev wQ:Sv:=(aZ (zQL 5 (aI 6) (aN kI (aD (aI 7) (aD (aN bL (aD (eOp oIx (aI 1) (aI 6)) aNil)) aNil)))) xI)
abbrev bW:Sv:=(aZ (cZ 7 (aN oX (aD (aN dE (aD (aI 3) (aD (aN bL (aD (eOp oIx (aI 0) (aI 6)) aNil)) aNil))) (aD (aN bL (aD (aI 4) aNil)) aNil)))) wQ)
abbrev jP:Sv:=(fA 5)
abbrev nZ:Sv:=(zHh (aD (eF (cU dQ (aD (aI 0) (aD (aI 1) aNil)))) aNil) jF (gName 6) bW jP)
abbrev wM:Sv:=(aZ (zH 5 (zMb (lQ (aD (eC eU) aNil)) (eB kU (aD (aI 1) aNil)))) nZ)
abbrev xP:Sv:=(aZ (cZ 4 (eB zBR (aD (aI 0) aNil))) wM)
def dC:Mir:=fn 3 8 (aZ (cZ 3 (aI 2)) xP)
abbrev xC:Sv:=(gH (jR (qE (aI 0)) iZ (aN dE (aD (aI 3) (aD (aN bL (aD (aI 4) aNil)) aNil)))))
abbrev wK:Sv:=(aZ (cZ 3 (aN oX (aD (aI 1) (aD (aN bL (aD (aI 2) aNil)) aNil)))) xC)
abbrev xT:Sv:=(aZ (sIf (dY (eOp oEq (aI 2) (eC (.int 0)))) (gH (zMb (lQ (aD (eC eU) aNil)) (eB kU (aD (aI 0) aNil)))) sNext) wK)
def fF:Mir:=fn 2 4 (aZ (cZ 2 (eB zBR (aD (aI 0) aNil))) xT)
abbrev wR:Sv:=(iX (eOp oEq (aN dE (aD (aI 3) (aD (aI 6) aNil))) (aN dE (aD (aI 4) (aD (aI 5) aNil)))))
abbrev xR:Sv:=(aZ (cZ 6 (aN cO (aD (eOp oIx (aI 2) (eC d_ACROSS)) (aD (eOp oIx (aI 1) (eC d_ACROSS)) aNil)))) wR)
abbrev wZ:Sv:=(aZ (cZ 5 (aN cO (aD (eOp oIx (aI 1) (eC d_ACROSS)) (aD (eOp oIx (aI 0) (eC d_ACROSS)) aNil)))) xR)
abbrev xH:Sv:=(aZ (cZ 4 (aN cO (aD (eOp oIx (aI 2) (eC d_UP)) (aD (eOp oIx (aI 1) (eC d_UP)) aNil)))) wZ)
def gT:Mir:=fn 3 7 (aZ (cZ 3 (aN cO (aD (eOp oIx (aI 1) (eC d_UP)) (aD (eOp oIx (aI 0) (eC d_UP)) aNil)))) xH)
abbrev zMW:Sv:=(iX (aN lL (aD (eOp oIx (aI 6) (aI 3)) (aD (aN dE (aD (aI 7) (aD (aN cO (aD (eOp oIx (aI 5) (aI 3)) (aD (eOp oIx (aI 6) (aI 3)) aNil))) aNil))) aNil))))
abbrev zNI:Sv:=(aZ (cZ 7 (aN oX (aD (aN cO (aD (aI 2) (aD (eOp oIx (aI 6) (aI 1)) aNil))) (aD (aN cO (aD (eOp oIx (aI 5) (aI 1)) (aD (eOp oIx (aI 6) (aI 1)) aNil))) aNil)))) zMW)
abbrev zNm:Sv:=(aZ (cZ 6 (eOp oIx (aI 0) (eOp wI (aI 4) (eC (.int 1))))) zNI)
abbrev zNn:Sv:=(aZ (sIf (dY (eOp oEq (eOp oIx (aI 5) (aI 1)) (aI 2))) (iX (eOp oIx (aI 5) (aI 3))) sNext) zNm)
abbrev zMn:Sv:=(aZ (cZ 5 (eOp oIx (aI 0) (aI 4))) zNn)
abbrev zNi:Sv:=(aZ (cZ 4 (aN dJ (aD (aI 0) (aD (aI 1) (aD (aI 2) aNil))))) zMn)
def vR:Mir:=fn 3 8 (aZ (cZ 3 (eOp wI (eC (.int 1)) (aI 1))) zNi)
abbrev vV:Sv:=(zJv 3 wI (eOp oIx (aI 0) (aI 6)))
abbrev uO:Sv:=(aZ (zJv 2 zAX (eOp oIx (aI 1) (aI 6))) vV)
abbrev fU:Sv:=(aZ (zCW 5 (aN lL (aD (aN bL (aD (aI 2) aNil)) (aD (aN dE (aD (eOp oIx (aI 4) (aI 6)) (aD (aN bL (aD (aI 3) aNil)) aNil))) aNil)))) uO)
abbrev nG:Sv:=(fA 5)
abbrev mC:Sv:=(zHh (aD (aI 4) aNil) jF (gName 6) fU nG)
abbrev vW:Sv:=(aZ (zH 5 (lQ (aD (eC eU) aNil))) mC)
abbrev wC:Sv:=(aZ (cZ 4 (eF (cU dQ (aD (aI 0) (aD (aI 1) aNil))))) vW)
abbrev uI:Sv:=(aZ (cZ 3 (eB zBR (aD (aI 0) aNil))) wC)
def dF:Mir:=fn 2 7 (aZ (cZ 2 (eC (.int 0))) uI)
def fX:Mir:=fn 2 2 (gH (jR (zKw (aI 0)) iZ (aN cO (aD (aI 1) (aD (aI 2) aNil)))))
abbrev wT:Sv:=(gH (jR (qE (eF (cU dC (aD (aI 2) (aD (aI 0) (aD (aN lL (aD (aI 1) (aD (aI 1) aNil))) aNil)))))) iZ (aN dE (aD (aI 3) (aD (eC d_HALF) aNil)))))
def fK:Mir:=fn 2 3 (aZ (cZ 2 (eF (zMb (lQ (aD (eC (.int 1)) aNil)) (eB kU (aD (aI 0) aNil))))) wT)
abbrev tW:Sv:=(zCW 1 (aI 2))
abbrev zDy:Sv:=(aZ (sIf (tFrzB (zAK (dY (eOp oGt (eB kU (aD (aI 1) aNil)) (eC (.int 1)))) (dY (aN gT (aD (eOp oIx (aI 1) (eUn zKM (eC (.int 2)))) (aD (eOp oIx (aI 1) (eUn zKM (eC (.int 1)))) (aD (aI 2) aNil))))))) (zOS 1) sNext) tW)
abbrev zCS:Sv:=(iX (eB zKu (aD (aI 1) aNil)))
abbrev zDB:Sv:=(aZ (zAO (qE (aI 0)) (gName 2) zDy) zCS)
abbrev zDz:Sv:=(aZ (zH 1 (lQ aNil)) zDB)
def eK:Mir:=fn 1 3 (aZ (pH (aN gN (aD (aI 0) aNil))) zDz)
abbrev zHf:Sv:=(iX (aN vR (aD (aI 0) (aD (eC d_ACROSS) (aD (aI 1) aNil)))))
def qO:Mir:=fn 2 2 (aZ (pH (aN bF (aD (aI 1) (aD (aN kM (aD (aI 0) aNil)) aNil)))) zHf)
abbrev zFJ:Sv:=(iX (aN eK (aD (eF (jR (qE (aI 3)) iZ (zFz (aD (aI 4) (aD (aN qO (aD (aI 0) (aD (aN qO (aD (aI 1) (aD (aI 4) aNil))) aNil))) aNil))))) aNil)))
abbrev zFD:Sv:=(aZ (cZ 3 (eF (cU pF (aD (eF (cU nR (aD (aI 1) aNil))) (aD (aI 2) aNil))))) zFJ)
abbrev zGb:Sv:=(aZ (cZ 2 (eF (jR (qE (eF (cU nR (aD (aI 0) aNil)))) iZ (aN vR (aD (aI 1) (aD (eC d_UP) (aD (aI 4) aNil))))))) zFD)
def gI:Mir:=fn 2 4 (aZ (sIf (dY (eOp oNe (aN kM (aD (aI 0) aNil)) (aN pN (aD (aI 1) aNil)))) (iA "Unlike" (aD (eC (.str "the first line's length is not the second one's height")) aNil)) sNext) zGb)
def mQ:Mir:=fn 3 3 (iX (aN eK (aD (eF (tH (zLy (aD (aI 0) (aD (aI 1) aNil))) (zFz (aD (aI 3) (aD (eOp oIx (aI 4) (aI 2)) aNil))))) aNil)))
abbrev zBx:Sv:=(iX (aN eK (aD (eF (lQ (aD (aI 1) (aD (zFz (aD (aN bL (aD (aI 0) aNil)) (aD (aN bL (aD (aI 0) aNil)) aNil))) aNil)))) aNil)))
abbrev zBS:Sv:=(aZ (sIf (dY (eOp oEq (aI 0) (eC (.int 0)))) (iX (aN eK (aD (eF (lQ (aD (aI 1) aNil))) aNil))) sNext) zBx)
def fY:Mir:=fn 1 2 (aZ (cZ 1 (zFz (aD (eC eU) (aD (eC eU) aNil)))) zBS)
abbrev wX(r:Mir):Sv:=(gH (zOp (aI 4) (eF (cU fX (aD (aI 4) (aD (aI 3) aNil))))))
abbrev wU(r:Mir):Sv:=(gH (cU fX (aD (eF (cU r (aD (aN dM (aD (aI 0) aNil)) (aD (aI 1) (aD (aI 2) aNil))))) (aD (aI 3) aNil))))
abbrev zAy(r:Mir):Sv:=(aZ (sIf (dY (eOp oEq (aI 0) (eC (.str "half")))) (aZ (cZ 4 (eF (jR (qE (eF (cU dF (aD (eF (zMb (lQ (aD (eC (.int 1)) aNil)) (eB kU (aD (aI 2) aNil)))) (aD (aI 2) aNil))))) iZ (aN dE (aD (aI 5) (aD (eC d_HALF) aNil)))))) (wX r)) sNext) (wU r))
abbrev zAp(r:Mir):Sv:=(aZ (sIf (dY (eOp oEq (aI 0) (eC (.str "part")))) (gH (lQ (aD (eC eU) (aD (aI 3) aNil)))) sNext) (zAy r))
abbrev zAD(r:Mir):Sv:=(aZ (sIf (dY (eOp oEq (aI 0) (eC (.str "even")))) (gH (cU dF (aD (aI 1) (aD (aI 2) aNil)))) sNext) (zAp r))
abbrev zAo(r:Mir):Sv:=(aZ (sIf (dY (eOp oEq (aI 0) (eC (.str "row")))) (gH (cU fE (aD (aI 2) aNil))) sNext) (zAD r))
def cA(r:Mir):Mir:=fn 3 5 (aZ (cZ 3 (aN bL (aD (eB zBR (aD (aI 2) aNil)) aNil))) (zAo r))
def bK:Nat->Mir
 | 0=>fn 3 5 sNo
 | n+1=>cA (bK n)
abbrev pT(r:Mir):Sv:=(gH (tH (zLy (aD (aI 2) (aD (aI 5) aNil))) (aN cO (aD (aN bL (aD (aI 6) aNil)) (aD (aI 7) aNil)))))
abbrev pB(r:Mir):Sv:=(aZ (cZ 5 (eF (cU r (aD (eUn (tL aU) (aI 0)) (aD (aI 1) (aD (aI 2) (aD (aN cO (aD (aI 4) (aD (aI 3) aNil))) aNil))))))) (pT r))
abbrev qX(r:Mir):Sv:=(aZ (sIf (zAK (dY (eOp oEq (aI 0) (eC (.str "half")))) (zKC (dY (aN fH (aD (aI 4) (aD (aN lL (aD (aI 3) (aD (aI 3) aNil))) aNil)))))) (gH (cU fK (aD (aI 2) (aD (aI 3) aNil)))) sNext) (pB r))
abbrev rO(r:Mir):Sv:=(aZ (sIf (dY (eOp oEq (aI 0) (eC (.str "part")))) (gH (cU fF (aD (aI 2) (aD (aI 3) aNil)))) sNext) (qX r))
abbrev qR(r:Mir):Sv:=(aZ (sIf (dY (eOp oEq (aI 0) (eC (.str "even")))) (gH (cU dC (aD (aI 1) (aD (aI 2) (aD (aI 3) aNil))))) sNext) (rO r))
abbrev rR(r:Mir):Sv:=(aZ (sIf (dY (eOp oEq (aI 0) (eC (.str "row")))) (gH (cU gD (aD (aI 2) (aD (aI 3) aNil)))) sNext) (qR r))
def aS(r:Mir):Mir:=fn 4 6 (aZ (cZ 4 (aN bL (aD (eB zBR (aD (aI 2) aNil)) aNil))) (rR r))
def aO:Nat->Mir
 | 0=>fn 4 6 sNo
 | n+1=>aS (aO n)
abbrev zIZ:Sv:=(gH (cU (aO 2) (aD (aI 0) (aD (aI 1) (aD (aI 2) (aD (aI 3) aNil))))))
abbrev zHn:Sv:=(aZ (pH (aN bF (aD (aI 3) (aD (aN bL (aD (eB zBR (aD (aI 2) aNil)) aNil)) aNil)))) zIZ)
def rB:Mir:=fn 4 4 (aZ (pH (aN lC (aD (aI 0) (aD (aI 1) (aD (aI 2) aNil))))) zHn)
abbrev zAn:Sv:=(gH (jR (zFe (aD (eB kU (aD (aI 2) aNil)) aNil)) iZ (aN mQ (aD (aI 3) (aD (aI 4) (aD (aI 5) aNil))))))
abbrev zAA:Sv:=(aZ (cZ 4 (eF (jR (qE (aI 3)) iZ (eF (cU (aO 2) (aD (aI 0) (aD (aI 1) (aD (aI 2) (aD (aI 5) aNil))))))))) zAn)
abbrev yV:Sv:=(aZ (cZ 3 (eF (cU cY (aD (eF (cU (bK 2) (aD (aI 0) (aD (aI 1) (aD (aI 2) aNil))))) aNil)))) zAA)
def gA:Mir:=fn 3 5 (aZ (pH (aN lC (aD (aI 0) (aD (aI 1) (aD (aI 2) aNil))))) yV)
abbrev zAj(r:Mir):Sv:=(zIl 1 (cU r (aD (aI 2) aNil)))
abbrev zA(r:Mir):Sv:=(fA 1)
abbrev zB(r:Mir):Sv:=(aZ (zAO (qE (aN bI (aD (aI 0) aNil))) (gName 2) (zAj r)) (zA r))
abbrev yO(r:Mir):Sv:=(aZ (zH 1 (lQ aNil)) (zB r))
def kT(r:Mir):Mir:=fn 1 3 (aZ (sIf (dY (aN bP (aD (aI 0) aNil))) (gH (lQ (aD (eOp oIx (aI 0) (eC (.int 1))) aNil))) sNext) (yO r))
def dW:Nat->Mir
 | 0=>fn 1 3 sNo
 | n+1=>kT (dW n)
def oY(r:Mir):Mir:=fn 1 1 (iX (eOp xS (eC (.int 1)) (eOp (fun x y=>zDo [x,y]) (eF (jR (qE (aN bI (aD (aI 0) aNil))) iZ (aN r (aD (aI 1) aNil)))) (eC (.int 0)))))
def eP:Nat->Mir
 | 0=>fn 1 1 sNo
 | n+1=>oY (eP n)
abbrev zKB:Sv:=(iX (aI 3))
abbrev zKp:Sv:=(aZ (sIf (zJt (dY (eOp oEq (eB kU (aD (aI 2) aNil)) (eC (.int 0)))) (zJt (dY (eOp oGt (eB kU (aD (eF (cU (dW 10) (aD (aI 3) aNil))) aNil)) (eC d_MOST_BOATS))) (dY (eOp oGt (aN (eP 10) (aD (aI 3) aNil)) (eC d_DEEPEST))))) (iA "TooMany" (aD (eC (.str "no kid, or too many boats, or too deep")) aNil)) sNext) zKB)
abbrev zJN:Sv:=(aZ (cZ 3 (zFz (aD (aI 0) (aD (eB zKu (aD (aI 1) aNil)) (aD (eB zKu (aD (aI 2) aNil)) aNil))))) zKp)
abbrev zJA:Sv:=(aZ (pH (aN bA (aD (aI 0) (aD (aI 1) (aD (eB kU (aD (aI 2) aNil)) aNil))))) zJN)
def pG:Mir:=fn 3 4 (aZ (pH (aN bX (aD (aI 0) aNil))) zJA)
def cP:Mir:=fn 1 1 (iX (eB zBR (aD (eF (cU (dW 10) (aD (aI 0) aNil))) aNil)))
def cQ:Mir:=fn 1 1 (gH (jR (qE (aN bI (aD (aI 0) aNil))) iZ (aN cP (aD (aI 1) aNil))))
abbrev tV:Sv:=(zH 3 (zOu (zOp (eF (fSl (aI 3) oN (oS (eOp wI (eB kU (aD (aI 3) aNil)) (aI 7))))) (eF (lQ (aD (aI 11) aNil))))))
abbrev vU:Sv:=(aZ (cZ 11 (zOt (eOp xS (eC (.int 1)) (eB zBv (aD (eF (fSl (aI 3) (oS (eOp wI (eB kU (aD (aI 3) aNil)) (aI 7))) oN)) aNil))))) tV)
abbrev wD:Sv:=(aZ (zH 2 (zOu (zOp (eF (fSl (aI 2) oN (oS (eOp wI (eB kU (aD (aI 2) aNil)) (aI 7))))) (eF (lQ (aD (aN pG (aD (aI 8) (aD (aI 10) (aD (aI 9) aNil)))) aNil)))))) vU)
abbrev vK:Sv:=(aZ (cZ 10 (eF (cU eA (aD (aI 8) (aD (eOp uV (aI 5) (eC (.int 44))) (aD (aI 7) aNil)))))) wD)
abbrev mW:Sv:=(aZ (cZ 9 (eF (zOu (fSl (aI 2) (oS (eOp wI (eB kU (aD (aI 2) aNil)) (aI 7))) oN)))) vK)
abbrev vZ:Sv:=(cZ 4 (eOp xS (aI 4) (eC (.int 1))))
abbrev tP:Sv:=(aZ (zCW 3 (eC (.int 1))) vZ)
abbrev lU:Sv:=(aZ (zCW 2 (aN yI (aD (aI 12) aNil))) tP)
abbrev wV:Sv:=(sIf (tFrzB (zAK (dY (eOp oNe (aI 2) (eF (lQ aNil)))) (zAK (dY (eOp oGt (aI 6) (eC (.int 4)))) (dY (eOp oLt (eB zBv (aD (eF (fSl (aI 3) (oS (eOp wI (eB kU (aD (aI 2) aNil)) (aI 7))) oN)) aNil)) (eC (.int 7))))))) (aZ (cZ 8 (eOp oIx (aI 1) (eOp wI (aI 6) (eC (.int 5))))) mW) (sIf (dY (eOp oLt (aI 4) (eC (.int 12)))) (aZ (cZ 12 (eOp oIx (eF (lQ (aD (eOp sN (eOp uV (aI 5) (eC (.int 11))) (eC (.int 7))) (aD (eOp sN (eOp uV (aI 5) (eC (.int 77))) (eOp xS (eOp zJu (eC (.int 10)) (eC (.int 9))) (eC (.int 1)))) aNil)))) (eOp sN (eOp uV (aI 5) (eC (.int 77))) (eC (.int 2))))) lU) sNext))
abbrev xL:Sv:=(aZ (cZ 7 (zOt (eOp xS (eC (.int 1)) (eOp sN (eOp uV (aI 5) (eC (.int 11))) (eB zPA (aD (eC (.int 1)) (aD (eB zQh (aD (eC (.int 4)) (aD (eB kU (aD (aI 2) aNil)) aNil))) aNil))))))) wV)
abbrev oA:Sv:=(aZ (cZ 6 (eOp sN (aI 5) (eC (.int 11)))) xL)
abbrev tX:Sv:=(iX (aN pG (aD (aI 8) (aD (eF (cU eA (aD (aI 8) (aD (eB kU (aD (aI 0) aNil)) (aD (eB kU (aD (aI 2) aNil)) aNil))))) (aD (aI 2) aNil)))))
abbrev wA:Sv:=(aZ (cZ 8 (eOp oIx (aI 1) (eOp sN (eB zBR (aD (aI 3) aNil)) (eC (.int 6))))) tX)
abbrev uG:Sv:=(sFrzAt 2 (aZ (sIf (dY (eOp oEq (eB kU (aD (aI 2) aNil)) (eC (.int 1)))) (iX (eOp oIx (aI 2) (eC (.int 0)))) sNext) wA))
abbrev tO:Sv:=(sFrzAt 3 (aZ (sIf (tFrzB (dY (eOp oEq (aI 2) (eF (lQ aNil))))) (zH 2 (lQ (aD (aN yI (aD (eC (.int 0)) aNil)) aNil))) sNext) uG))
abbrev xJ:Sv:=(aZ (zAO (qE (aI 0)) (gName 5) oA) tO)
abbrev xB:Sv:=(aZ (cZ 4 (eC (.int 0))) xJ)
abbrev wL:Sv:=(aZ (zH 3 (lQ aNil)) xB)
abbrev xE:Sv:=(aZ (zH 2 (lQ aNil)) wL)
def gU:Mir:=fn 1 13 (aZ (cZ 1 (eF (lQ (aD (eC (.str "row")) (aD (eC (.str "back")) (aD (eC (.str "even")) (aD (eC (.str "lack")) (aD (eC (.str "part")) (aD (eC (.str "half")) aNil))))))))) xE)
abbrev zHz(r:Mir):Sv:=(iX (aN pG (aD (aN dD (aD (aI 0) aNil)) (aD (eF (cU kG (aD (aN bQ (aD (aI 0) aNil)) aNil))) (aD (aN nQ (aD (aN dD (aD (aI 0) aNil)) (aD (aI 1) aNil))) aNil)))))
abbrev zIQ(r:Mir):Sv:=(aZ (sIf (dY (eOp oEq (eB kU (aD (aI 1) aNil)) (eC (.int 1)))) (iX (eOp oIx (aI 1) (eC (.int 0)))) sNext) (zHz r))
abbrev zIE(r:Mir):Sv:=(aZ (cZ 1 (eF (jR (qE (aN bI (aD (aI 0) aNil))) iZ (aN r (aD (aI 2) aNil))))) (zIQ r))
def zAP(r:Mir):Mir:=fn 1 2 (aZ (sIf (dY (aN bP (aD (aI 0) aNil))) (iX (aI 0)) sNext) (zIE r))
def kW:Nat->Mir
 | 0=>fn 1 2 sNo
 | n+1=>zAP (kW n)
abbrev sC(r:Mir):Sv:=(zIl 3 (cU r (aD (aI 4) (aD (aI 5) aNil))))
abbrev zBY(r:Mir):Sv:=(fA 3)
abbrev zBe(r:Mir):Sv:=(aZ (zAO (zLy (aD (aN bI (aD (aI 0) aNil)) (aD (aI 2) aNil))) (zGK (nX (gName 4) (nX (gName 5) zHJ))) (sC r)) (zBY r))
abbrev zBV(r:Mir):Sv:=(aZ (zH 3 (lQ aNil)) (zBe r))
abbrev zBA(r:Mir):Sv:=(aZ (cZ 2 (eF (cU rB (aD (aN dD (aD (aI 0) aNil)) (aD (aN bQ (aD (aI 0) aNil)) (aD (eF (cU cQ (aD (aI 0) aNil))) (aD (aI 1) aNil))))))) (zBV r))
def iK(r:Mir):Mir:=fn 2 6 (aZ (sIf (dY (aN bP (aD (aI 0) aNil))) (gH (lQ (aD (aI 1) aNil))) sNext) (zBA r))
def fJ:Nat->Mir
 | 0=>fn 2 6 sNo
 | n+1=>iK (fJ n)
abbrev rY(r:Mir):Sv:=(zIl 2 (jR (qE (eF (cU r (aD (aI 3) aNil)))) iZ (aN gI (aD (aI 5) (aD (aI 4) aNil)))))
abbrev zBp(r:Mir):Sv:=(fA 2)
abbrev zBj(r:Mir):Sv:=(aZ (zAO (zLy (aD (aN bI (aD (aI 0) aNil)) (aD (aI 1) aNil))) (zGK (nX (gName 3) (nX (gName 4) zHJ))) (rY r)) (zBp r))
abbrev zCc(r:Mir):Sv:=(aZ (zH 2 (lQ aNil)) (zBj r))
abbrev zBD(r:Mir):Sv:=(aZ (cZ 1 (eF (cU gA (aD (aN dD (aD (aI 0) aNil)) (aD (aN bQ (aD (aI 0) aNil)) (aD (eF (cU cQ (aD (aI 0) aNil))) aNil)))))) (zCc r))
def iL(r:Mir):Mir:=fn 1 5 (aZ (sIf (dY (aN bP (aD (aI 0) aNil))) (gH (lQ (aD (aN fY (aD (aN cP (aD (aI 0) aNil)) aNil)) aNil))) sNext) (zBD r))
def eE:Nat->Mir
 | 0=>fn 1 5 sNo
 | n+1=>iL (eE n)
abbrev zFR:Sv:=(gH (cU (fJ 10) (aD (aI 0) (aD (aI 1) aNil))))
def jA:Mir:=fn 2 2 (aZ (pH (aN bF (aD (aI 1) (aD (aN bL (aD (aN cP (aD (aI 0) aNil)) aNil)) aNil)))) zFR)
abbrev zNH:Sv:=(sIf (dY (eOp oNe (eF (cU jA (aD (aI 2) (aD (aI 4) aNil)))) (eF (cU jA (aD (aI 1) (aD (aI 4) aNil)))))) (iX (eC (.bl false))) sNext)
abbrev zMe:Sv:=(aZ (cZ 4 (aN iQ (aD (aI 3) (aD (aN cP (aD (aI 1) aNil)) aNil)))) zNH)
abbrev zGX:Sv:=(iX (eC (.bl true)))
abbrev zNh:Sv:=(aZ (zAO (qE (eF (zOp (eF (lQ (aD (eC (.int 0)) aNil))) (eF (fSl (aI 0) oN (oS (eC (.int 3)))))))) (gName 3) zMe) zGX)
abbrev zNS:Sv:=(aZ (sIf (zJt (dY (eOp oNe (aN (kW 10) (aD (aI 2) aNil)) (aI 2))) (zJt (dY (eOp oGt (aN (eP 10) (aD (aI 2) aNil)) (aN (eP 10) (aD (aI 1) aNil)))) (dY (eOp oNe (eF (cU (eE 10) (aD (aI 2) aNil))) (eF (cU (eE 10) (aD (aI 1) aNil))))))) (iX (eC (.bl false))) sNext) zNh)
abbrev zMv:Sv:=(aZ (cZ 2 (aN (kW 10) (aD (aI 1) aNil))) zNS)
def zMX:Mir:=fn 1 5 (aZ (cZ 1 (aN gU (aD (eF (fSl (aI 0) oN (oS (eC (.int 24))))) aNil))) zMv)
end Lw
namespace Lw
open L3 PySem Fr Fq Ln
theorem c_NOUGHT:eU=dq 0:=rfl
local macro_rules | `(tactic| symm)=>do
 let ids:Array (Lean.TSyntax `term):=(("c_NOUGHT d_WEIGHTED d_HALF d_BOAT d_MOST_BOATS d_DEEPEST d_OPENED d_ACROSS d_UP fn_at iZip_at fComp2_at chO_s oEq_s oNe_s oTabNot_s L3.start sSeq_at seqF_nx seqF_ret sSet_at setF sOwn_at ownF sRet_at retF sRetF_at retFF sRetOwn_at retS sRetN sIf_at ifF_t ifF_f sNext sNo sDrop_at dropF dropG eVar_at varS eC eOp_at opF eUn eCall_at callF rtF eB eTup_at tupF aCons_at consF consG aNil tVal_at blF tNotB_at notF tAndB_at tandF_t tandF_f tOrB_at torF_t torF_f eAnd_at andF_t andF_f eOr_at orF_t orF_f eIf_at eifF_t eifF_f eF_at efF fLst_at fLstF fCall_at fcallF rtFF fList_at fListF_l fListF_t fComp_at fRep_at repF fCat_at catF catG eFrz_at frzF fFrz_at fFrzF oN oS_at oSF fSl_at fSlF fSlG fSlH isNon sApp_at appS appF sExt_at extS extF sAug_at augS augF setG sUnp_at unpF nxF bSum_l bSum_t gTup_at gtF_t gCons_at gNil_at gName sFor_at forF iRevL_at revL_l iSeq_at seqD_l seqD_t iTpl_at tplD iRng1_at iRng2_at sFrz sFrzAt frzAt tFrzB okb erb Rt.d fin oAdd_i oAddI_i oSub_i oMul_i oDiv_i oMod_i oPow_i oEq_i oNe_i oLt_i oLe_i oGt_i oGe_i oIx_tc sPop_at popS dp_mk ty_dp len_dp ix_dp0 ix_dp1 dep_dp noL_dp oEq_dp oNe_dp noLs_dps oNeg_i oNot_b bAbs_i bLen_t bLen_l bMax_i bMin_i bTup_t bTup_l eIsT_at isTF isT ty_i ty_t ty_l ty_b ty_s ty_n ofO_some atD sRaise_at raiseF Sl.frz noErr dep depS noL noLs Qq Vm Xy VB QW List.replicate Qn Vh List.getElem?_cons_zero List.getElem?_cons_succ List.set_cons_zero List.set_cons_succ Nat.reduceAdd Nat.reduceSub Nat.reduceLeDiff Nat.reduceEqDiff VC VS Nat.max_self QY if_true ite_true ite_false if_false Vv Bool.not_true Bool.not_false reduceIte ite_self Int.toNat_zero Int.reduceToNat Int.reduceLE Int.reduceLT Vb decide_true decide_false Bool.or_true Yi Bool.true_or Bool.false_or Bool.and_true Bool.true_and XU Bool.false_and String.reduceBEq String.reduceEq beq_self_eq_true ix_dq0 ix_dq1 ty_dq dep_dq noL_dq len_dq eq_dq oEq_dq oNe_dq Qd okDiv_lit okMul_litr okMul_litl okp9 p10 fdiv_pos fmod_pos Int.reduceEq Int.reduceNeg p10ne p10ne2 p10pos2 Int.reduceMul Int.reduceAdd Int.reduceSub Int.reduceDiv Int.reduceMod eqD Nat.reduceLT Nat.reducePow ne_eq not_true_eq_false not_false_eq_true".splitOn " ").map fun s=>⟨Lean.mkIdent s.toName⟩).toArray
 `(tactic| simp only[$[$ids:term],*])
theorem lK(t b:Int):bZ [.int t,.int b]=.ok (.v (.int (Int.gcd t b:Int))):=by
 unfold bZ;symm
 refine zDN (fun ρ=>∃(x y:Int)(r:Sl),ρ=[.val (.int x),.val (.int y),r]/\0<=x/\0<=y/\Int.gcd x y=Int.gcd t b) (fun ρ=>(slI 1 ρ).toNat)
  (fun r=>(r.bind (zKg (iX (aI 0)))).bind fin=.ok (.v (.int (Int.gcd t b:Int)))) ⟨_,_,_,rfl,by omega,by omega,by simp[Int.gcd]⟩ ?_
 rintro ρ ⟨x,y,r,rfl,hx,hy,hg⟩
 by_cases h:y=0
 ·subst h
  refine .inl ⟨rfl,?_⟩
  have e:x=(Int.gcd t b:Int):=by
   rw[Int.gcd_zero_right] at hg;omega
  rw[<-e];rfl
 ·refine .inr ⟨?_,[.val (.int y),.val (.int (x.fmod y)),.val (.int (x.fmod y))],?_,⟨y,x.fmod y,_,rfl,hy,?_,?_⟩,?_⟩
  ·symm
   rw[decide_eq_false h];rfl
  ·symm
   rw[oMod_i h];symm
  ·rw[uQ _ hy];exact QP _ h
  ·rw[uQ _ hy];exact(Fq.zDT hx (by omega)).trans hg
  ·have:=QR x (show 0<y by omega)
   rw[uQ _ hy];show(x % y).toNat<y.toNat
   omega
theorem zPE{t b:Int}(hb:b≠0):(dv t b).natAbs<=b.natAbs:=Nat.le_of_dvd (by omega) (Int.natAbs_dvd_natAbs.mpr (zDP t b))
theorem zBc{t b:Int}{n:Nat}(hb:b≠0)(hn:b.natAbs<2^n)(h:n<=8999):iN [.int t,.int b]=.ok (.v (dq (Rat.divInt t b))):=by
 have hd:lN (dv t b)=true:=sW (zOR hb) (Vu (zPE hb) hn) h;have e0:decide (b=0)=false:=decide_eq_false hb;unfold iN;symm;rw[e0];symm;rw[lK];symm;by_cases c:b<0
 ·have e:-(Int.gcd t b:Int)=dv t b:=by unfold dv;rw[if_pos c]
  rw[decide_eq_true c];symm;rw[e,oDiv_i hd];symm;rw[oDiv_i hd];symm;rw[zCo hb,zCm hb];rfl
 ·have e:(Int.gcd t b:Int)=dv t b:=by unfold dv;rw[if_neg c]
  rw[decide_eq_false c];symm;rw[e,oDiv_i hd];symm;rw[oDiv_i hd];symm;rw[zCo hb,zCm hb];rfl
theorem zRi(t:Int):iN [.int t,.int 0]=.err "NoFraction" := by
 unfold iN;symm
theorem zBu{p q:Rat}{m n:Nat}(hp:Sz m p)(hq:Sz n q)(h:m+n<=8999):lL [dq p,dq q]=.ok (.v (dq (p+q))):=by
 unfold lL;symm;rw[oMul_i (dH hp.1 hq.d (by omega))];symm;rw[oMul_i (dH hq.1 hp.d (by omega))];symm;rw[oMul_i (dH hp.d hq.d (by omega))];symm;rw[zBc (VP (iB p) (iB q)) (iT hp.d hq.d) h,zPd];symm
theorem eI{p q:Rat}{m n:Nat}(hp:Sz m p)(hq:Sz n q)(h:m+n<=8999):cO [dq p,dq q]=.ok (.v (dq (p-q))):=by
 unfold cO;symm;rw[oMul_i (dH hp.1 hq.d (by omega))];symm;rw[oMul_i (dH hq.1 hp.d (by omega))];symm;rw[oMul_i (dH hp.d hq.d (by omega))];symm;rw[zBc (VP (iB p) (iB q)) (iT hp.d hq.d) h,zLh];symm
theorem lZ{p q:Rat}{m n:Nat}(hp:Sz m p)(hq:Sz n q)(h:m+n<=8999):dE [dq p,dq q]=.ok (.v (dq (p*q))):=by
 unfold dE;symm;rw[oMul_i (dH hp.1 hq.1 (by omega))];symm;rw[oMul_i (dH hp.d hq.d (by omega))];symm;rw[zBc (VP (iB p) (iB q)) (iT hp.d hq.d) h,zLx];symm
theorem zId{p q:Rat}{m n:Nat}(hp:Sz m p)(hq:Sz n q)(h0:q≠0)(h:m+n<=8999):oX [dq p,dq q]=.ok (.v (dq (p / q))):=by
 unfold oX;symm;rw[oMul_i (dH hp.1 hq.d (by omega))];symm;rw[oMul_i (dH hp.d hq.1 (by omega))];symm;rw[zBc (VP (iB p) (zKO.mpr h0)) (iT hp.d hq.1) h,zGP];symm
theorem jG{p q:Rat}{m n:Nat}(hp:Sz m p)(hq:Sz n q)(h:m+n<=99999):fH [dq p,dq q]=.ok (.v (.bl (decide (p<q)))):=by
 unfold fH;symm;rw[oMul_i (dH hp.1 hq.d (by omega))];symm;rw[oMul_i (dH hq.1 hp.d (by omega))];symm;simp only[lt_iff]
theorem zFL{t b:Int}{n:Nat}(hb:0<b)(hn:b.natAbs<2^n)(h:n<=8999):kF [.int t,.int b]=.ok (.v (dq (Rat.divInt t b))):=by
 have hb0:b≠0:=by omega
 have hd:lN (dv t b)=true:=sW (zOR hb0) (Vu (zPE hb0) hn) h;have e:(Int.gcd t b:Int)=dv t b:=by unfold dv;rw[if_neg (by omega)]
 unfold kF;symm
 refine zDN (fun ρ=>∃(x y:Int)(r:Sl),ρ=[.val (.int t),.val (.int b),.val (.int x),.val (.int y),r]/\0<=x/\0<=y/\Int.gcd x y=Int.gcd t b) (fun ρ=>(slI 3 ρ).toNat)
  (fun r=>(r.bind (zKg sB)).bind fin=.ok (.v (dq (Rat.divInt t b)))) ⟨_,_,_,rfl,by omega,by omega,by simp[Int.gcd]⟩ ?_
 rintro ρ ⟨x,y,r,rfl,hx,hy,hg⟩
 by_cases c:y=0
 ·subst c
  have e2:x=dv t b:=by
   rw[Int.gcd_zero_right] at hg;omega
  subst e2;refine .inl ⟨rfl,?_⟩
  symm;rw[oDiv_i hd];symm;rw[oDiv_i hd];symm;rw[zCo hb0,zCm hb0];rfl
 ·have hp:0<y:=by omega
  refine .inr ⟨?_,[.val (.int t),.val (.int b),.val (.int y),.val (.int (x % y)),.val (.int (x % y))],?_,⟨y,x % y,_,rfl,hy,QP _ c,(zDT hx hp).trans hg⟩,?_⟩
  ·symm
   rw[decide_eq_true hp]
  ·symm
   rw[oMod_i c,fmod_pos _ hp];symm
  ·have:=QR x hp
   show(x % y).toNat<y.toNat
   omega
def mn(a b:Rat):Rat:=if a<b then a else b
def ps0(x:Rat):Rat:=if x<0 then 0 else x
def iS:List Int->Int->Rat->List Rat
 | [],_,_=>[]
 | c::r,a,q=>mn (ps0 (q-(a:Rat))) (c:Rat)::iS r (a+c) q
theorem zBL:∀(cs:List Int)(a:Int)(q:Rat),(iS cs a q).length=cs.length
 | [],_,_=>rfl
 | c::r,a,q=>by simp only[iS,Qn,zBL r]
theorem zNq{q:Rat}{a c:Int}(h:0<=c):ps0 (q-(a:Rat))-mn (ps0 (q-(a:Rat))) (c:Rat)=ps0 (q-((a+c:Int):Rat)):=by
 have h':(0:Rat)<=(c:Rat):=by exact_mod_cast h
 rw[QJ];unfold ps0 mn;grind
theorem cS{n:Nat}{k:Int}(h:k.natAbs<2^n)(h0:0<n):Sz n (k:Rat):=by
 refine⟨h,?_⟩
 show 1<2^n
 exact Nat.one_lt_two_pow (by omega)
theorem zQy{n:Nat}{q:Rat}(h:Sz n q)(h0:0<n):Sz n (ps0 q):=by
 unfold ps0;split
 ·exact cS (k:=0) (Nat.two_pow_pos n) h0
 ·exact h
theorem zMY{n:Nat}{p q:Rat}(h:Sz n p)(h':Sz n q):Sz n (mn p q):=by
 unfold mn;split
 ·exact h
 ·exact h'
theorem bR(k:Int):bL [.int k]=.ok (.v (dq (k:Rat))):=by
 unfold bL;symm;rw[zQf]
theorem zEc{p q:Rat}{m n:Nat}(hp:Sz m p)(hq:Sz n q)(h:m+n<=99999):kI [dq p,dq q]=.ok (.v (dq (mn p q))):=by
 unfold kI;symm;rw[jG hp hq h];symm;unfold mn;by_cases c:p<q
 ·rw[decide_eq_true c,if_pos c]
  symm
 ·rw[decide_eq_false c,if_neg c]
  symm
structure Cl (cs:List Int):Prop where
 nn:∀ c∈cs,0<=c
 up:∀ c∈cs,c<10^30
 lo:1<=cs.length
 hi:cs.length<=12
theorem zLz:∀ {cs:List Int},(∀ c∈cs,0<=c)->(∀ c∈cs,c<10^30)->0<=cs.sum/\cs.sum<=cs.length*10^30
 | [],_,_=>by decide
 | c::r,h,h'=>by
  have ih:=zLz (fun x hx=>h x (Qc _ hx)) fun x hx=>h' x (Qc _ hx)
  have a:=h c Qb;have b:=h' c Qb;rw[Qx,Qn];refine⟨by omega,?_⟩
  have:((r.length+1:Nat):Int)*10^30=(r.length:Int)*10^30+10^30:=by rw[V9,Xa];rfl
  omega
theorem Cl.sum{cs:List Int}(h:Cl cs):0<=cs.sum/\cs.sum<2^104:=by
 have a:=zLz h.nn h.up;have b:=h.hi;refine⟨a.1,?_⟩
 omega
structure Haul (m:Nat) (q:Rat) (W:Int):Prop where
 nn:0<=q
 up:q<=(W:Rat)
 sz:Sz m q
theorem zEX{d:D}{q:Rat}{m:Nat}(hm:m<=3000)(hq:Sz m q):∀(cs:List Int)(a:Int)(acc:List D)(s t:Sl),(∀ c∈cs,0<=c)->(∀ c∈cs,c<10^30)->0<=a->a+cs.length*10^30<2^110->acc.length+cs.length<=100->
  ∃ l' s' t',loop (gName 4) oV (cs.map D.int) [.val d,.val (dq q),.val (dq (ps0 (q-(a:Rat)))),.own acc,s,t]=.ok (.nx [.val d,.val (dq q),l',.own (acc++(iS cs a q).map dq),s',t'])
 | [],a,acc,s,t,_,_,_,_,_=>⟨.val (dq (ps0 (q-(a:Rat)))),s,t,by rw[Vm,loop];simp[iS]⟩
 | c::r,a,acc,s,t,h1,h2,h3,h4,h5=>by
  have c0:=h1 c Qb;have c1:=h2 c Qb;rw[Qn] at h4 h5;have e4:((r.length+1:Nat):Int)*10^30=(r.length:Int)*10^30+10^30:=by rw[V9,Xa];rfl
  have r0:0<=(r.length:Int)*10^30:=XA (by omega) (by decide)
  have zl:Sz (m+111) (ps0 (q-(a:Rat))):=zQy (hq.sub (cS (n:=110) (by omega) (by decide))) (by omega)
  have zc:Sz (m+111) (c:Rat):=Sz.mono (m:=110) (cS (by omega) (by decide)) (by omega)
  obtain⟨l',s',t',e⟩:=zEX hm hq r (a+c) (acc++[dq (mn (ps0 (q-(a:Rat))) (c:Rat))]) (.val (.int c)) (.val (dq (mn (ps0 (q-(a:Rat))) (c:Rat)))) (fun x hx=>h1 x (Qc _ hx)) (fun x hx=>h2 x (Qc _ hx)) (by omega) (by omega) (by rw[Qi,XT];omega)
  refine⟨l',s',t',?_⟩
  rw[Qq,eM (ρ1:=[.val d,.val (dq q),.val (dq (ps0 (q-(a:Rat)))),.own acc,.val (.int c),t]) rfl,e]
  ·rw[iS,Qq,Q4];rfl
  ·symm
   rw[bR];symm;rw[zEc zl zc (by omega)];symm;rw[if_pos (by omega)];symm;rw[eI zl (zMY zl zc) (by omega)];symm;rw[zNq c0]
theorem zCP{d:D}{cs:List Int}{q:Rat}(hd:d=.lst (cs.map D.int)∨d=.tup (cs.map D.int)){m:Nat}(hm:m<=3000)(hc:Cl cs)(hq:Sz m q)(h0:0<=q):gD [d,dq q]=.ok (.f ((iS cs 0 q).map dq)):=by
 have sq:zJp d=.ok (cs.map D.int):=by rcases hd with rfl | rfl<;>rfl
 have:=hc.hi
 obtain⟨l',s',t',e⟩:=zEX (d:=d) hm hq cs 0 [] .un .un hc.nn hc.up (by decide) (by omega) (by rw[Vh];omega)
 have z:ps0 (q-((0:Int):Rat))=q:=by
  unfold ps0;rw[show((0:Int):Rat)=0 from rfl];grind
 rw[z] at e;unfold gD;symm;rw[sq];symm;rw[e];rfl
def yN(cs:List Int)(q:Rat):List Rat:=cs.map fun c=>Rat.divInt (c*q.num) (max 1 cs.sum*q.den)
theorem zIL{q:Rat}{c W:Int}(h:0<W):q / (W:Rat)*(c:Rat)=Rat.divInt (c*q.num) (W*q.den):=by
 have hW:(W:Rat)≠0:=by
  intro z;have:W=0:=by exact_mod_cast z
  omega
 rw[<-zGP q (W:Rat)];show Rat.divInt (q.num*((1:Nat):Int)) (q.den*W)*(c:Rat)=_
 rw[show((1:Nat):Int)=1 from rfl,Q7,<-Vn (c:Rat),XX];show Rat.divInt (q.num*c) (q.den*W*((1:Nat):Int))=_
 rw[show((1:Nat):Int)=1 from rfl,Q7,Yj q.num,Yj (q.den:Int)]
theorem pJ:∀ {cs:List Int},(∀ c∈cs,0<=c)->cs.sum=0->∀ c∈cs,c=0
 | [],_,_,c,h=>by cases h
 | d::r,h,e,c,hc=>by
  rw[Qx] at e;have h0:=h d Qb
  have hr:0<=r.sum:=by
   have:∀ l:List Int,(∀ c∈l,0<=c)->0<=l.sum:=by
    intro l
    induction l with
    | nil=>intro _;decide
    | cons a l ih=>intro hl;rw[Qx];have:=hl a Qb;have:=ih fun x hx=>hl x (Qc _ hx);omega
   exact this r fun x hx=>h x (Qc _ hx)
  rcases Qe.mp hc with rfl | hc
  ·omega
  ·exact pJ (fun x hx=>h x (Qc _ hx)) (by omega) c hc
theorem zBQ{d:D}{cs:List Int}{q:Rat}(hd:d=.lst (cs.map D.int)∨d=.tup (cs.map D.int)){m:Nat}(hm:m<=3000)(hc:Cl cs)(hq:Sz m q):fF [d,dq q]=.ok (.f ((yN cs q).map dq)):=by
 have sm:=hc.sum;have hi:=hc.hi;have sq:zJp d=.ok (cs.map D.int):=by rcases hd with rfl | rfl<;>rfl
 have su:zBR [d]=.ok (.int cs.sum):=by rcases hd with rfl | rfl;exact bSum_l;exact bSum_t
 have ln:kU [d]=.ok (.int cs.length):=by rcases hd with rfl | rfl<;>(symm)
 unfold fF;symm;rw[su];symm;by_cases c0:cs.sum=0
 ·rw[decide_eq_true c0]
  symm;rw[ln];symm;rw[zEZ (by omega)];symm
  have e:(yN cs q).map dq=List.replicate cs.length (dq 0):=by
   unfold yN;rw[Qw,<-List.map_const'];refine QG fun c h=>?_
   have c0:=pJ hc.nn c0 c h;subst c0;show dq (Rat.divInt (0*q.num) _)=dq 0
   rw[Int.zero_mul,X6]
  rw[e]
 ·rw[decide_eq_false c0]
  symm;have W0:0<cs.sum:=by omega
  have zW:Sz 110 (cs.sum:Rat):=cS (by omega) (by decide)
  have nW:(cs.sum:Rat)≠0:=by
   intro z;have:cs.sum=0:=by exact_mod_cast z
   omega
  rw[bR];symm;rw[zId hq zW nW (by omega)];symm;rw[sq];symm
  rw[eR (u:=D.int) (g:=fun c=>dq (Rat.divInt (c*q.num) (max 1 cs.sum*q.den))) (by omega) (fun c h=>by
   have c0:=hc.nn c h;have c1:=hc.up c h;symm;rw[bR];symm;rw[lZ (hq.div zW nW) (cS (n:=110) (k:=c) (by omega) (by decide)) (by omega)];symm
   rw[zIL W0,Int.max_eq_right (by omega)])]
  symm;unfold yN;rw[Qw];rfl
def iI(f:Nat->Rat)(l:List Nat):Rat:=(l.map f).sum
theorem bD(f:Nat->Rat)(i:Nat)(l:List Nat):iI f (i::l)=f i+iI f l:=by unfold iI;rw[Qq,Qx]
theorem iG(f:Nat->Rat):iI f []=0:=rfl
theorem rL{f g:Nat->Rat}:∀ {l:List Nat},(∀ i∈l,f i<=g i)->iI f l<=iI g l
 | [],_=>Qh
 | i::l,h=>by
  rw[bD,bD];have a:=h i Qb;have b:=rL fun j hj=>h j (Qc _ hj)
  grind
theorem rG{f g:Nat->Rat}:∀ {l:List Nat},(∀ i∈l,f i<=g i)->iI f l=iI g l->∀ i∈l,f i=g i
 | [],_,_,i,hi=>by cases hi
 | j::l,h,e,i,hi=>by
  rw[bD,bD] at e;have a:=h j Qb;have hb:∀ i∈l,f i<=g i:=fun k hk=>h k (Qc _ hk)
  have b:=rL hb;rcases Qe.mp hi with rfl | hi
  ·grind
  ·exact rG hb (by grind) i hi
theorem vG{f:Nat->Rat}{l m:List Nat}(h:l.Perm m):iI f l=iI f m:=by
 induction h with
 | nil=>rfl
 | cons x _ ih=>rw[bD,bD,ih]
 | swap x y l=>rw[bD,bD,bD,bD];grind
 | trans _ _ h1 h2=>rw[h1,h2]
theorem dL{w:Nat->Rat}{t:Rat}:∀ {l:List Nat},iI (fun i=>w i*t) l=t*iI w l
 | []=>by rw[iG,iG];grind
 | i::l=>by rw[bD,bD,dL];grind
theorem eD{f g:Nat->Rat}{l:List Nat}(h:∀ i∈l,f i=g i):iI f l=iI g l:=by unfold iI;rw[QG h]
theorem zJD{w:Nat->Rat}:∀ {l:List Nat},(∀ i∈l,0<w i)->0<=iI w l
 | [],_=>Qh
 | i::l,h=>by
  rw[bD];have a:=h i Qb;have b:=zJD fun j hj=>h j (Qc _ hj)
  grind
def dB(c w:Nat->Rat)(t:Rat)(i:Nat):Rat:=mn (w i*t) (c i)
theorem zRp{a b c d:Rat}(h:a<=c)(h':b<=d):mn a b<=mn c d:=by unfold mn;grind
theorem mJ{c w:Nat->Rat}{t u:Rat}{i:Nat}(hw:0<w i)(h:t<=u):dB c w t i<=dB c w u i:=
 zRp (VH h (Qg hw)) Qh
theorem yQ{c w:Nat->Rat}{t u:Rat}{l:List Nat}(hw:∀ i∈l,0<w i)(h:iI (dB c w t) l=iI (dB c w u) l):∀ i∈l,dB c w t i=dB c w u i:=by
 rcases Vq (a:=t) (b:=u) with g | g
 ·exact rG (fun i hi=>mJ (hw i hi) g) h
 ·exact fun i hi=>(rG (fun i hi=>mJ (hw i hi) g) h.symm i hi).symm
theorem zGl{L W w c:Rat}(hW:0<W)(h:L*w / W<c):mn (L*w / W) c=mn (w*(L / W)) c/\mn (w*(L / W)) c=w*(L / W):=by
 have e:L*w / W=w*(L / W):=by grind
 rw[e] at h ⊢
 exact⟨rfl,if_pos h⟩
theorem zIN{r W w c:Rat}(hW:W≠0)(h:w*r<=c):mn (r*W*w / W) c=w*r:=by
 have e:r*W*w / W=w*r:=by grind
 rw[e];unfold mn;grind
theorem zGH{ci wi cj wj r:Rat}(h1:0<wi)(h2:0<wj)(h:ci*wj<=cj*wi)(hr:wi*r<=ci):wj*r<=cj:=by
 have a:wi*r*wj<=ci*wj:=Q5 hr (Qg h2)
 have b:wj*r*wi<=cj*wi:=by
  have:wj*r*wi=wi*r*wj:=by grind
  rw[this];exact QD a h
 exact VV b h1
theorem zGa{L W w c b:Rat}(hw:0<w)(h:¬ L*w / W<c)(hW:0<W)(hb:b*W<=L):∃ b',b<=b'/\c<=w*b'/\b' * (W-w)<=L-c:=by
 have h1:c*W<=L*w:=by
  have h':=Vk.mp h;have:=Q5 h' (Qg hW)
  rwa [Q2 (by grind)] at this
 have e1:w*(c / w)=c:=by grind
 have e2:c / w*(W-w)=c*W / w-c:=by grind
 have e3:c*W / w<=L:=by
  have a:c*W / w*w<=L*w:=by rw[Q2 (by grind)];exact h1
  exact VV a hw
 rcases Vq (a:=b) (b:=c / w) with g | g
 ·exact⟨c / w,g,by rw[e1];exact Qh,by rw[e2];grind⟩
 ·refine⟨b,Qh,?_,?_⟩
  ·have:=VH g (Qg hw)
   rwa [e1] at this
  ·have:=VH g (Qg hw)
   rw[e1] at this;grind
structure Wt (ws cs:List Int):Prop where
 len:ws.length=cs.length
 lo:∀ w∈ws,1<=w
 up:∀ w∈ws,w<=10^6
def cR(cs:List Int)(i:Nat):Rat:=((cs.getD i 0:Int):Rat)
def pS:List (Nat×Rat)->List D->List D
 | [],am=>am
 | p::r,am=>pS r (am.set p.1 (dq p.2))
def wS(ws:List Int)(π:List Nat):Int:=(π.map fun i=>ws.getD i 0).sum
theorem nF(ws:List Int)(i:Nat)(π:List Nat):wS ws (i::π)=ws.getD i 0+wS ws π:=by unfold wS;rw[Qq,Qx]
theorem bO{l:List Int}{i:Nat}(h:i<l.length):l[i]?=some (l.getD i 0):=by rw[QB,Qu h];rfl
theorem zRs{i:Nat}{k e:Ev}{ρ:Rho}{ds:List D}{d:D}{j:Nat}(h1:e ρ=.ok d)(h2:ρ[i]?=some (.own ds))(h3:k ρ=.ok (.int (j:Int)))(h4:j<ds.length):zQL i k e ρ=.ok (.nx (ρ.set i (.own (ds.set j d)))):=by
 unfold zQL;rw[h1];show(match ρ[i]? with | some (.own ds)=>_ | _=>_)=_
 rw[h2];show(k ρ).bind _=_
 rw[h3];exact if_pos ⟨Vx j,by omega⟩
theorem zPw{ds:List D}{d:D}{i:Nat}(h:i<ds.length):oIx (.lst (ds.set i d)) (.int (i:Int))=.ok d:=by
 have e:=yC (f:=id) (l:=ds.set i d) (i:=(i:Int)) (a:=d) (Vx i) (show(ds.set i d)[i]?=some d from QV h)
 rwa [XB] at e
theorem Wt.at{ws cs:List Int}(h:Wt ws cs){i:Nat}(hi:i<cs.length):1<=ws.getD i 0/\ws.getD i 0<=10^6:=by
 have:=bO (l:=ws) (i:=i) (by rw[h.len];exact hi)
 exact⟨h.lo _ (Qm this),h.up _ (Qm this)⟩
theorem Wt.sum{ws cs:List Int}(h:Wt ws cs):∀ {π:List Nat},(∀ i∈π,i<cs.length)->(π.length:Int)<=wS ws π/\wS ws π<=π.length*10^6
 | [],_=>⟨Vb _,Vb _⟩
 | i::π,hi=>by
  have a:=h.at (hi i Qb);have b:=h.sum fun j hj=>hi j (Qc _ hj)
  rw[nF,Qn];omega
def Sq(d:D)(l:List Int):Prop:=d=.lst (l.map D.int)∨d=.tup (l.map D.int)
theorem Sq.ix{d:D}{l:List Int}(h:Sq d l){i:Nat}(hi:i<l.length):oIx d (.int (i:Int))=.ok (.int (l.getD i 0)):=by
 rcases h with rfl | rfl
 ·exact yC (Vx i) (bO hi)
 ·exact wF (Vx i) (bO hi)
theorem Sq.sum{d:D}{l:List Int}(h:Sq d l):zBR [d]=.ok (.int l.sum):=by
 rcases h with rfl | rfl
 ·exact bSum_l
 ·exact bSum_t
theorem Sq.len{d:D}{l:List Int}(h:Sq d l):kU [d]=.ok (.int l.length):=by
 rcases h with rfl | rfl
 ·rw[bLen_l,Qd]
 ·rw[bLen_t,Qd]
theorem Sq.seq{d:D}{l:List Int}(h:Sq d l):zJp d=.ok (l.map D.int):=by
 rcases h with rfl | rfl<;>rfl
theorem Sq.seqo{d:D}{l:List Int}(h:Sq d l):zJn d=some (l.map D.int):=by
 rcases h with rfl | rfl<;>rfl
theorem zIc{ws cs:List Int}{wd cd:D}(sw:Sq wd ws)(sc:Sq cd cs){qv s7:Sl}{L:Rat}{W:Int}{i:Nat}{am:List D}(hW:Wt ws cs)(hc:∀ c∈cs,0<=c/\c<10^30){m:Nat}(hm:m<=3000)(hL:Sz (m+250) L)(W0:0<W)(W1:W<=12*10^6)(hi:i<cs.length)(ha:am.length=cs.length){a:Rat}(ea:mn (L*cR ws i / (W:Rat)) (cR cs i)=a):
  bW [.val wd,.val cd,qv,.val (dq L),.val (.int W),.own am,.val (.int (i:Nat)),s7]=
   .ok (.nx [.val wd,.val cd,qv,.val (dq (L-a)),.val (.int (W-ws.getD i 0)),.own (am.set i (dq a)),.val (.int (i:Nat)),.val (dq (L*cR ws i / (W:Rat)))]):=by
 have hiw:i<ws.length:=by rw[hW.len];exact hi
 obtain⟨w1,w2⟩:=hW.at hi;obtain⟨c1,c2⟩:=hc _ (Qm (bO hi));have zW:Sz 24 (W:Rat):=cS (by omega) (by decide)
 have zw:Sz 20 (cR ws i):=cS (by omega) (by decide)
 have zc:Sz (m+294) (cR cs i):=Sz.mono (m:=100) (cS (by omega) (by decide)) (by omega)
 have nW:(W:Rat)≠0:=by
  intro z;have:W=0:=by exact_mod_cast z
  omega
 have fw:bL [.int (ws.getD i 0)]=.ok (.v (dq (cR ws i))):=bR _;have fc:bL [.int (cs.getD i 0)]=.ok (.v (dq (cR cs i))):=bR _;have zx:Sz (m+294) (L*cR ws i / (W:Rat)):=((hL.mul zw).div zW nW).mono (by omega)
 symm;rw[sw.ix hiw];symm;rw[fw];symm;rw[lZ hL zw (by omega)];symm;rw[bR];symm;rw[zId (hL.mul zw) zW nW (by omega)];symm
 rw[zRs (j:=i) (d:=dq a) (ds:=am) (by
  symm;rw[sc.ix hi];symm;rw[fc];symm;rw[zEc zx zc (by omega),ea]
  symm) rfl rfl (by omega)]
 symm;rw[zPw (by omega)];symm;rw[eI hL (ea ▸ zMY zx zc) (by omega)];symm;rw[sw.ix hiw];symm
theorem nE(ws:List Int):∀ π:List Nat,iI (cR ws) π=(wS ws π:Rat)
 | []=>rfl
 | i::π=>by rw[bD,nE ws π,nF,QJ];rfl
theorem zBO{ws cs:List Int}{wd cd:D}(sw:Sq wd ws)(sc:Sq cd cs){qv:Sl}{r:Rat}{m:Nat}(hm:m<=3000)(hW:Wt ws cs)(hc:∀ c∈cs,0<=c/\c<10^30)(hr:Sz (m+150) r):∀(π:List Nat)(am:List D)(s6 s7:Sl),(∀ i∈π,i<cs.length)->(∀ i∈π,cR ws i*r<=cR cs i)->π.length<=12->am.length=cs.length->
  ∃ l' W' s' t',loop (gName 6) bW (jU π) [.val wd,.val cd,qv,.val (dq (r*(wS ws π:Rat))),.val (.int (wS ws π)),.own am,s6,s7]=
   .ok (.nx [.val wd,.val cd,qv,l',W',.own (pS (π.map fun i=>(i,cR ws i*r)) am),s',t'])
 | [],am,s6,s7,_,_,_,_=>⟨_,_,_,_,rfl⟩
 | i::π,am,s6,s7,h1,h2,h4,h5=>by
  have hi:=h1 i Qb;obtain⟨W1,W2⟩:=hW.sum h1;rw[Qn] at h4 W1 W2;have zW:Sz 24 (wS ws (i::π):Rat):=cS (by omega) (by decide)
  have nW:(wS ws (i::π):Rat)≠0:=by
   intro z;have:wS ws (i::π)=0:=by exact_mod_cast z
   omega
  have e1:wS ws (i::π)-ws.getD i 0=wS ws π:=by rw[nF];omega
  have e2:r*(wS ws (i::π):Rat)-cR ws i*r=r*(wS ws π:Rat):=by
   rw[nF,QJ];show r*(cR ws i+(wS ws π:Rat))-cR ws i*r=_
   grind
  have tn:=zIc sw sc (qv:=qv) (s7:=s7) (W:=wS ws (i::π)) (am:=am) hW hc hm ((hr.mul zW).mono (by omega)) (by omega) (by omega) hi h5 (zIN nW (h2 i Qb))
  rw[e1,e2] at tn;obtain⟨l',W',s',t',e⟩:=zBO sw sc hm hW hc hr π (am.set i (dq (cR ws i*r))) _ _ (fun j hj=>h1 j (Qc _ hj)) (fun j hj=>h2 j (Qc _ hj)) (by omega) (by rw[QM];exact h5)
  refine⟨l',W',s',t',?_⟩
  show loop _ _ (.int (i:Nat)::jU π) _=_
  rw[eM rfl tn,e];rfl
theorem zCG{ws cs:List Int}{wd cd:D}(sw:Sq wd ws)(sc:Sq cd cs){qv:Sl}{q:Rat}{m:Nat}(hm:m<=3000)(hW:Wt ws cs)(hc:∀ c∈cs,0<=c/\c<10^30)(hq:Sz m q):∀(π:List Nat)(k:Int)(b:Rat)(am:List D)(s6 s7:Sl),(∀ i∈π,i<cs.length)->π.Pairwise (fun i j=>cR cs i*cR ws j<=cR cs j*cR ws i)->π.length<=12->am.length=cs.length->
  0<=k->k+π.length*10^30<2^110->0<=q-(k:Rat)->q-(k:Rat)<=iI (cR cs) π->b*(wS ws π:Rat)<=q-(k:Rat)->
  ∃ t,b<=t/\iI (dB (cR cs) (cR ws) t) π=q-(k:Rat)/\(∀ i∈π,Sz (m+155) (dB (cR cs) (cR ws) t i))/\∃ l' W' s' t',loop (gName 6) bW (jU π) [.val wd,.val cd,qv,.val (dq (q-(k:Rat))),.val (.int (wS ws π)),.own am,s6,s7]=
   .ok (.nx [.val wd,.val cd,qv,l',W',.own (pS (π.map fun i=>(i,dB (cR cs) (cR ws) t i)) am),s',t'])
 | [],k,b,am,s6,s7,_,_,_,_,_,_,h6,h7,_=>⟨b,Qh,by rw[iG] at h7 ⊢;grind,fun i h=>by(cases h),_,_,_,_,rfl⟩
 | i::π,k,b,am,s6,s7,h1,h2,h3,h4,h5,h5',h6,h7,h8=>by
  have hi:=h1 i Qb;have h1':∀ j∈π,j<cs.length:=fun j hj=>h1 j (Qc _ hj)
  obtain⟨W1,W2⟩:=hW.sum h1;obtain⟨V1,V2⟩:=hW.sum h1';obtain⟨w1,w2⟩:=hW.at hi;obtain⟨c1,c2⟩:=hc _ (Qm (bO hi));obtain⟨p1,p2⟩:=Qo.mp h2;rw[Qn] at h3 h5' W1 W2;have ek:((π.length+1:Nat):Int)*10^30=(π.length:Int)*10^30+10^30:=by rw[V9,Xa];rfl
  have k0:0<=(π.length:Int)*10^30:=XA (by omega) (by decide)
  have zW:Sz 24 (wS ws (i::π):Rat):=cS (by omega) (by decide)
  have zk:Sz 110 (k:Rat):=cS (by omega) (by decide)
  have zL:Sz (m+111) (q-(k:Rat)):=(hq.sub zk).mono (by omega)
  have pW:(0:Rat)<(wS ws (i::π):Rat):=by exact_mod_cast (show 0<wS ws (i::π) by omega)
  have nW:(wS ws (i::π):Rat)≠0:=fun z=>by rw[z] at pW;exact absurd pW (by decide)
  have pw:∀ j,j<cs.length->0<cR ws j:=fun j hj=>by
   have:=(hW.at hj).1
   unfold cR;exact_mod_cast (show 0<ws.getD j 0 by omega)
  have e1:wS ws (i::π)-ws.getD i 0=wS ws π:=by rw[nF];omega
  have eW:(wS ws (i::π):Rat)=cR ws i+(wS ws π:Rat):=by rw[nF,QJ];rfl
  have pV:(0:Rat)<=(wS ws π:Rat):=by exact_mod_cast (show 0<=wS ws π by omega)
  generalize hL:q-(k:Rat)=L at h6 h7 h8 zL ⊢
  have loop1:∀ {a:Rat} {l' W' s' t':Sl} {am':List D},mn (L*cR ws i / (wS ws (i::π):Rat)) (cR cs i)=a->loop (gName 6) bW (jU π) [.val wd,.val cd,qv,.val (dq (L-a)),.val (.int (wS ws π)),.own (am.set i (dq a)),.val (.int (i:Nat)),.val (dq (L*cR ws i / (wS ws (i::π):Rat)))]=.ok (.nx [.val wd,.val cd,qv,l',W',.own am',s',t'])->
    loop (gName 6) bW (jU (i::π)) [.val wd,.val cd,qv,.val (dq L),.val (.int (wS ws (i::π))),.own am,s6,s7]=.ok (.nx [.val wd,.val cd,qv,l',W',.own am',s',t']):=fun {a l' W' s' t' am'} ea e=>by
   have tn:=zIc sw sc (qv:=qv) (s7:=s7) (W:=wS ws (i::π)) (am:=am) hW hc hm (zL.mono (by omega)) (by omega) (by omega) hi h4 ea
   rw[e1] at tn;show loop _ _ (.int (i:Nat)::jU π) _=_
   rw[eM rfl tn];exact e
  by_cases hx:L*cR ws i / (wS ws (i::π):Rat)<cR cs i
  ·obtain⟨x1,x2⟩:=zGl pW hx
   generalize hr:L / (wS ws (i::π):Rat)=r at x1 x2;have zr:Sz (m+135) r:=hr ▸ (zL.div zW nW).mono (by omega)
   have eL:L=r*(wS ws (i::π):Rat):=by rw[<-hr,Q2 nW]
   have wr:cR ws i*r<=cR cs i:=by
    have e:L*cR ws i / (wS ws (i::π):Rat)=cR ws i*r:=by rw[<-hr];grind
    rw[e] at hx;exact Qg hx
   have later:∀ j∈π,cR ws j*r<=cR cs j:=fun j hj=>zGH (pw i hi) (pw j (h1' j hj)) (p1 j hj) wr
   have gj:∀ j∈i::π,dB (cR cs) (cR ws) r j=cR ws j*r:=fun j hj=>by
    have:cR ws j*r<=cR cs j:=by
     rcases Qe.mp hj with rfl | hj
     ·exact wr
     ·exact later j hj
    unfold dB mn;grind
   have e2:L-cR ws i*r=r*(wS ws π:Rat):=by rw[eL,eW];grind
   obtain⟨l',W',s',t',e⟩:=zBO sw sc (qv:=qv) hm hW hc (zr.mono (by omega)) π (am.set i (dq (cR ws i*r))) (.val (.int (i:Nat))) (.val (dq (L*cR ws i / (wS ws (i::π):Rat)))) h1' later (by omega) (by rw[QM];exact h4)
   refine⟨r,VV (by rw[<-eL];exact h8) pW,?_,fun j hj=>?_,l',W',s',t',loop1 (a:=cR ws i*r) (x1.trans x2) ?_⟩
   ·rw[eD gj,dL,nE,<-eL]
   ·rw[gj j hj]
    have v:=hW.at (h1 j hj);exact(Sz.mul (m:=20) (n:=m+135) (cS (by omega) (by decide)) zr).mono (by omega)
   ·rw[e2,e,Qq,pS,gj i Qb]
    rw[QG (g:=fun j=>(j,dB (cR cs) (cR ws) r j)) fun j hj=>by rw[gj j (Qc _ hj)]]
  ·have ea:mn (L*cR ws i / (wS ws (i::π):Rat)) (cR cs i)=cR cs i:=if_neg hx
   obtain⟨b',g1,g2,g3⟩:=zGa (pw i hi) hx pW h8;have ek2:q-((k+cs.getD i 0:Int):Rat)=L-cR cs i:=by rw[QJ,<-hL];show q-((k:Rat)+cR cs i)=_;grind
   have c0:0<=cR cs i:=by unfold cR;exact_mod_cast c1
   have cL:cR cs i<=L:=by
    have y:=Q5 (Vk.mp hx) (Qg pW);rw[Q2 nW] at y;have y2:L*cR ws i<=L*(wS ws (i::π):Rat):=VH (by rw[eW];grind) h6
    exact VV (QD y y2) pW
   rw[bD] at h7
   have g3':b' * (wS ws π:Rat)<=L-cR cs i:=by
    rw[eW] at g3;have:cR ws i+(wS ws π:Rat)-cR ws i=(wS ws π:Rat):=by grind
    rw[this] at g3;exact g3
   obtain⟨t,t1,t2,tz,l',W',s',t',e⟩:=zCG sw sc (qv:=qv) hm hW hc hq π (k+cs.getD i 0) b' (am.set i (dq (cR cs i))) (.val (.int (i:Nat))) (.val (dq (L*cR ws i / (wS ws (i::π):Rat)))) h1' p2 (by omega) (by rw[QM];exact h4) (by omega) (by omega) (by rw[ek2];grind) (by rw[ek2];grind) (by rw[ek2];exact g3')
   have gi:dB (cR cs) (cR ws) t i=cR cs i:=by
    have:=VH t1 (Qg (pw i hi))
    unfold dB mn;grind
   rw[ek2] at e t2;refine⟨t,QD g1 t1,?_,fun j hj=>?_,l',W',s',t',loop1 ea ?_⟩
   ·rw[bD,gi,t2];grind
   ·rcases Qe.mp hj with rfl | hj
    ·rw[gi];exact Sz.mono (m:=100) (cS (by omega) (by decide)) (by omega)
    ·exact tz j hj
   ·rw[e,Qq,pS,gi]
theorem yK{g:Nat->Rat}:∀(π:List Nat)(am:List D)(j:Nat),(pS (π.map fun i=>(i,g i)) am)[j]?=if j∈π then (if j<am.length then some (dq (g j)) else none) else am[j]?
 | [],am,j=>by simp[pS]
 | i::π,am,j=>by
  rw[Qq,pS,yK π,QM];by_cases h1:j∈π
  ·rw[if_pos h1,if_pos (Qc _ h1)]
  ·rw[if_neg h1]
   by_cases h2:j=i
   ·subst h2
    rw[if_pos Qb];by_cases h3:j<am.length
    ·rw[if_pos h3];exact QV h3
    ·rw[if_neg h3,QH (by rw[QM];omega)]
   ·rw[if_neg (by simp[h1,h2]),QN (fun z=>h2 z.symm)]
theorem zFt{g:Nat->Rat}{π:List Nat}{n:Nat}(h:π.Perm (List.range n)):pS (π.map fun i=>(i,g i)) (List.replicate n (dq 0))=((List.range n).map g).map dq:=by
 refine V7 fun j=>?_
 rw[yK,Qr,Qr,VM];by_cases hj:j<n
 ·rw[if_pos (h.mem_iff.mpr (Qk.mpr hj)),if_pos hj,Vg hj];rfl
 ·rw[if_neg (fun z=>hj (Qk.mp (h.mem_iff.mp z))),QH (by rw[VM];omega),QH (by rw[QE];omega)];rfl
theorem zDt(kz:List Int):∃ π,gP kz π:=by
 refine⟨(List.range kz.length).mergeSort (fun i j=>decide (kz.getD i 0<=kz.getD j 0)),YL _ _,?_⟩
 have:=YM (le:=fun i j=>decide (kz.getD i 0<=kz.getD j 0)) (fun a b c h1 h2=>by simp only[decide_eq_true_eq] at *;omega) (fun a b=>by simp only[VQ,decide_eq_true_eq];omega) (List.range kz.length)
 exact this.imp fun h=>of_decide_eq_true h
theorem zHs{fs:Fv}{kf:List D->Res (List Int)}{g:Gv}{b r:Sv}{ρ:Rho}{kz:List Int}{x:Res Fl}(h1:(fs ρ).bind kf=.ok kz)(h:∀ π,gP kz π->aZ (fun ρ=>loop g b (jU π) ρ) r ρ=x):zHh fs kf g b r ρ=x:=by
 obtain⟨π,hπ⟩:=zDt kz;unfold zHh;rw[h1];exact zFS hπ h
def sP:List Rat->Int
 | []=>1
 | x::r=>x.den*sP r
def zJo(B:Int)(x:Rat):Int:=x.num*B.fdiv x.den
theorem zEA:∀ {l:List Rat} {x:Rat},x∈l->(x.den:Int) ∣ sP l
 | y::r,x,h=>by
  rcases Qe.mp h with rfl | h
  ·exact⟨sP r,rfl⟩
  ·exact Yk (zEA h) ⟨y.den,Yj _ _⟩
theorem yX:∀ l:List Rat,0<sP l
 | []=>by decide
 | x::r=>XC (gC x) (yX r)
theorem zLb{l:List Rat}{x:Rat}(h:x∈l):((zJo (sP l) x:Int):Rat)=x*(sP l:Rat):=by
 obtain⟨k,hk⟩:=zEA h;have d0:=gC x;unfold zJo;rw[fdiv_pos _ d0,hk,Int.mul_ediv_cancel_left _ (by omega),QL,QL]
 have e:x*((x.den:Int):Rat)=(x.num:Rat):=by
  have h1:=Vn x;rw[VD] at h1
  have h2:((x.den:Int):Rat)≠0:=fun z=>by
   have:(x.den:Int)=0:=by exact_mod_cast z
   omega
  rw[<-Q2 (a:=(x.num:Rat)) h2,h1]
 rw[<-e];grind
theorem zCg{a:Sl}:∀(l:List Rat)(B:Int)(s:Sl)(m:Nat),(∀ x∈l,(x.den:Int)<=10^6)->B.natAbs<2^m->m+20*l.length<=1000->
  ∃ s',loop (gName 2) xZ (l.map dq) [a,.val (.int B),s]=.ok (.nx [a,.val (.int (B*sP l)),s'])/\(B*sP l).natAbs<2^(m+20*l.length)
 | [],B,s,m,_,h2,_=>⟨s,by rw[Vm,loop,sP,Q7],by rw[sP,Q7];exact h2⟩
 | x::r,B,s,m,h1,h2,h3=>by
  have d1:=h1 x Qb;have d0:=gC x;rw[Qn] at h3;have hx:((x.den:Int)).natAbs<2^20:=by omega
  obtain⟨s',e,hb⟩:=zCg r (B*x.den) (.val (dq x)) (m+20) (fun y hy=>h1 y (Qc _ hy)) (iT h2 hx) (by omega)
  have ed:B*sP (x::r)=B*x.den*sP r:=by rw[sP,Ym]
  refine⟨s',?_,by rw[ed,Qn,show m+20*(r.length+1)=m+20+20*r.length by omega];exact hb⟩
  rw[ed,<-e,Qq];refine eM (ρ1:=[a,.val (.int B),.val (dq x)]) rfl ?_
  symm;rw[oMul_i (dH (m:=m) (n:=20) h2 hx (by omega))];symm
theorem zEf{B:Int}(hB:B.natAbs<2^1000):∀ {l:List Rat},(∀ x∈l,(x.den:Int)<=10^6/\Sz 500 x)->oK B (l.map dq)=.ok (l.map (zJo B))
 | [],_=>rfl
 | x::r,h=>by
  obtain⟨d1,z⟩:=h x Qb;have d0:=gC x;have e1:lN (x.den:Int)=true:=sW (m:=20) (by omega) (by omega) (by decide)
  have e2:jQ x.num (B.fdiv x.den)=true:=by
   rw[fdiv_pos _ d0];refine dH (m:=500) (n:=1000) z.1 (Vu ?_ hB) (by decide)
   exact Int.natAbs_ediv_le_natAbs _ _
  have k1:zJq B (dq x)=.ok (zJo B x):=by
   show(if (lN (x.den:Int) && jQ x.num (B.fdiv x.den))=true then Res.ok _ else .no)=_
   rw[e1,e2];rfl
  rw[Qq,oK,k1];show((oK B (r.map dq)).bind fun ks=>Res.ok (zJo B x::ks))=_
  rw[zEf hB fun y hy=>h y (Qc _ hy)];rfl
theorem yG{l:List Rat}(h:∀ x∈l,(x.den:Int)<=10^6/\Sz 500 x)(hl:l.length<=12):jF [.lst (l.map dq)]=.ok (l.map (zJo (sP l))):=by
 obtain⟨s',e,hb⟩:=zCg (a:=.val (.lst (l.map dq))) l 1 .un 1 (fun x hx=>(h x hx).1) (by decide) (by omega)
 rw[Int.one_mul] at e hb;have r1:zCe (start 3 [.lst (l.map dq)])=.ok (.nx [.val (.lst (l.map dq)),.val (.int 1),.un]):=rfl
 have r2:uX [.val (.lst (l.map dq)),.val (.int 1),.un]=.ok (.nx [.val (.lst (l.map dq)),.val (.int (sP l)),s']):=by
  symm;exact e
 unfold jF zAB;rw[if_pos (show [D.lst (l.map dq)].length=1 from rfl),r1];show(match uX [.val (.lst (l.map dq)),.val (.int 1),.un] with | .ok (.nx ρ')=>zEY ρ' | _=>.no)=_
 rw[r2];show(if (l.map dq).length<64 then oK (sP l) (l.map dq) else .no)=_
 rw[if_pos (by rw[Qd];omega)];exact zEf (Qs hb (Vf (by decide) (by omega))) h
def lvs(ws cs:List Int):List Rat:=(cs.zip ws).map fun p=>Rat.divInt p.1 p.2
theorem zX{ws cs:List Int}(h:ws.length=cs.length):(lvs ws cs).length=cs.length:=by unfold lvs;rw[Qd,Yg,h,Xt]
theorem zHY{ws cs:List Int}{i:Nat}(h:ws.length=cs.length)(hi:i<cs.length):(lvs ws cs)[i]?=some (cR cs i / cR ws i):=by
 unfold lvs;rw[Qr]
 have:(cs.zip ws)[i]?=some (cs.getD i 0,ws.getD i 0):=by
  rw[YO];exact⟨bO hi,bO (by omega)⟩
 rw[this];show some (Rat.divInt _ _)=_
 rw[VD];rfl
theorem zCz{t b:Int}(hb:0<b):((Rat.divInt t b).den:Int)<=b:=by
 have e:=zCm (t:=t) (b:=b) (by omega)
 have d0:0<=dv t b:=by unfold dv;rw[if_neg (by omega)];exact Vx _
 rw[<-e,zNr _ d0];exact Int.ediv_le_self _ (by omega)
theorem zLl{ws cs:List Int}(hW:Wt ws cs)(hc:∀ c∈cs,0<=c/\c<10^30):∀ x∈lvs ws cs,(x.den:Int)<=10^6/\Sz 500 x:=fun x hx=>by
 obtain⟨p,hp,rfl⟩:=Qj.mp hx;obtain⟨h1,h2⟩:=V0 hp;have c:=hc _ h1;have w1:=hW.lo _ h2;have w2:=hW.up _ h2;have d:=zCz (t:=p.1) (b:=p.2) (by omega)
 exact⟨by omega,Sz.of (by omega) (by omega) (by omega)⟩
theorem uD{ws cs:List Int}{wd cd:D}(sw:Sq wd ws)(sc:Sq cd cs)(hW:Wt ws cs)(hl:cs.length<=12):dQ [wd,cd]=.ok (.f ((lvs ws cs).map dq)):=by
 have hw:=hW.len;unfold dQ;symm;rw[oR sc.seqo sw.seqo];symm
 rw[lT (u:=D.int) (v:=D.int) (g:=fun c w=>dq (Rat.divInt c w)) (by omega) (fun p hp=>by
  have h2:=(V0 hp).2;have w1:=hW.lo _ h2;have w2:=hW.up _ h2;symm;rw[zBc (n:=20) (by omega) (by omega) (by decide)]
  symm)]
 symm;unfold lvs;rw[Qw];rfl
theorem zI(ws:List Int):∀ n,n<=ws.length->wS ws (List.range n)=(ws.take n).sum
 | 0,_=>rfl
 | n+1,h=>by
  have e:wS ws (List.range n++[n])=wS ws (List.range n)+ws.getD n 0:=by unfold wS;rw[QC,Vl];simp
  rw[Yf,e,zI ws n (by omega),XZ,Vl,bO (show n<ws.length by omega)];simp
theorem zAl{ws:List Int}{π:List Nat}(h:π.Perm (List.range ws.length)):wS ws π=ws.sum:=by
 have e:=nE ws π;rw[vG h,nE,zI ws _ (Qf _),Q9] at e;have:=Rat.intCast_inj.mp e
 omega
theorem zLI{a b:Sv}{ρ ρ':Rho}(h:a ρ=.ok (.nx ρ')):aZ a b ρ=b ρ':=by unfold aZ;rw[h];rfl
def evs(ws cs:List Int)(t:Rat):List Rat:=(List.range cs.length).map (dB (cR cs) (cR ws) t)
theorem sF{ws cs:List Int}{wd cd:D}(sw:Sq wd ws)(sc:Sq cd cs){q:Rat}{m:Nat}(hmm:m<=3000)(hW:Wt ws cs)(hc:Cl cs)(hq:Sz m q)(h0:0<=q)(h1:q<=(cs.sum:Rat)):∃ t,0<=t/\dC [wd,cd,dq q]=.ok (.f ((evs ws cs t).map dq))/\(evs ws cs t).sum=q/\∀ i,i<cs.length->Sz (m+155) (dB (cR cs) (cR ws) t i):=by
 have hcc:∀ c∈cs,0<=c/\c<10^30:=fun c h=>⟨hc.nn c h,hc.up c h⟩
 have hi:=hc.hi;have hw:=hW.len;have hkr:=yG (zLl hW hcc) (by rw[zX hw];exact hi)
 generalize hkz:(lvs ws cs).map (zJo (sP (lvs ws cs)))=kz at hkr;have lz:kz.length=cs.length:=by rw[<-hkz,Qd,zX hw]
 have pw:∀ j,j<cs.length->0<cR ws j:=fun j hj=>by
  have:=(hW.at hj).1
  unfold cR;exact_mod_cast (show 0<ws.getD j 0 by omega)
 have one:∀ π,gP kz π->∃ t,0<=t/\iI (dB (cR cs) (cR ws) t) (List.range cs.length)=q/\(∀ i,i<cs.length->Sz (m+155) (dB (cR cs) (cR ws) t i))/\aZ (fun ρ=>loop (gName 6) bW (jU π) ρ) jP [.val wd,.val cd,.val (dq q),.val (dq q),.val (.int ws.sum),.own (List.replicate cs.length (dq 0)),.un,.un]=.ok (.ret (.f ((evs ws cs t).map dq))):=by
  intro π hπ;obtain⟨hp,ho⟩:=hπ;rw[lz] at hp;have hm:∀ i∈π,i<cs.length:=fun i h=>Qk.mp (hp.mem_iff.mp h)
  have hl:π.length=cs.length:=by rw[hp.length_eq,QE]
  have B0:=yX (lvs ws cs);have B0':(0:Rat)<(sP (lvs ws cs):Rat):=by exact_mod_cast B0
  have kat:∀ i,i<cs.length->((kz.getD i 0:Int):Rat)=cR cs i / cR ws i*(sP (lvs ws cs):Rat):=fun i h=>by
   have e:=zHY hw h;have e2:kz.getD i 0=zJo (sP (lvs ws cs)) (cR cs i / cR ws i):=by rw[<-hkz,QB,Qr,e];rfl
   rw[e2];exact zLb (Qm e)
  have ord:π.Pairwise (fun i j=>cR cs i*cR ws j<=cR cs j*cR ws i):=by
   refine V6 (fun {i j} h1 h2 h3=>?_) ho
   have h4:((kz.getD i 0:Int):Rat)<=((kz.getD j 0:Int):Rat):=Vd.mpr h3;rw[kat i (hm i h1),kat j (hm j h2)] at h4;have h5:=VV h4 B0';have wi:=pw i (hm i h1);have wj:=pw j (hm j h2);have h6:=Q5 h5 (Qg (X4 wi wj));have e1:cR cs i / cR ws i*(cR ws i*cR ws j)=cR cs i*cR ws j:=by grind
   have e2:cR cs j / cR ws j*(cR ws i*cR ws j)=cR cs j*cR ws i:=by grind
   rwa [e1,e2] at h6
  have hW':wS ws π=ws.sum:=zAl (by rw[hw];exact hp)
  have hC':iI (cR cs) π=(cs.sum:Rat):=by rw[nE,zAl hp]
  have z0:q-((0:Int):Rat)=q:=by rw[show((0:Int):Rat)=0 from rfl];grind
  obtain⟨t,t1,t2,tz,l',W',s',t',e⟩:=zCG sw sc (qv:=.val (dq q)) hmm hW hcc hq π 0 0 (List.replicate cs.length (dq 0)) .un .un hm ord (by omega) (by rw[VM]) (by decide) (by rw[hl];omega) (by rw[z0];exact h0) (by rw[z0,hC'];exact h1) (by rw[z0];grind)
  rw[z0,hW'] at e;rw[z0] at t2;refine⟨t,t1,by rw[<-vG hp];exact t2,fun i h=>tz i (hp.mem_iff.mpr (Qk.mpr h)),?_⟩
  refine(zLI (a:=fun ρ=>loop (gName 6) bW (jU π) ρ) e).trans ?_
  rw[zFt hp];rfl
 obtain⟨π0,hπ0⟩:=zDt kz;obtain⟨t,t1,t2,tz,e0⟩:=one π0 hπ0;have pw':∀ i∈List.range cs.length,0<cR ws i:=fun i h=>pw i (Qk.mp h)
 refine⟨t,t1,?_,t2,tz⟩
 unfold dC;symm;rw[sw.sum];symm;rw[sc.len];symm;rw[zEZ (by omega)];symm
 have hfs:Res.bind ((aD (eF (cU dQ (aD (aI 0) (aD (aI 1) aNil)))) aNil) [.val wd,.val cd,.val (dq q),.val (dq q),.val (.int ws.sum),.own (List.replicate cs.length (dq 0)),.un,.un]) jF=.ok kz:=by
  symm;rw[uD sw sc hW hi];symm;exact hkr
 have hall:∀ π,gP kz π->aZ (fun ρ=>loop (gName 6) bW (jU π) ρ) jP [.val wd,.val cd,.val (dq q),.val (dq q),.val (.int ws.sum),.own (List.replicate cs.length (dq 0)),.un,.un]=.ok (.ret (.f ((evs ws cs t).map dq))):=fun π hπ=>by
  obtain⟨u,_,u2,_,eu⟩:=one π hπ;rw[eu];unfold evs;rw[QG (yQ pw' (u2.trans t2.symm))]
 unfold nZ;rw[zHs hfs hall];rfl
def ones(cs:List Int):List Int:=List.replicate cs.length 1
theorem eY(cs:List Int):Wt (ones cs) cs:=⟨VM,fun w h=>by rw[(List.mem_replicate.mp h).2];decide,fun w h=>by rw[(List.mem_replicate.mp h).2];decide⟩
def hf:Rat:=Rat.divInt 1 2
theorem iR:hf=1 / 2:=by unfold hf;rw[VD];rfl
theorem zQB:d_HALF=dq hf:=zQI (b:=2) (by decide)
theorem zHX:Sz 2 hf:=Sz.of (by decide) (by decide) (by decide)
theorem dbl(q:Rat):q+q=q*((2:Int):Rat):=by rw[show((2:Int):Rat)=2 from rfl];grind
theorem zIk{q:Rat}{n:Nat}(h:Sz n q):Sz (n+2) (q+q):=by rw[dbl];exact h.mul (cS (by decide) (by decide))
def hvs(cs:List Int)(t:Rat):List Rat:=(List.range cs.length).map fun i=>dB (cR cs) (cR (ones cs)) t i*hf
structure Lvl (M:Nat) (ws cs:List Int) (q t:Rat):Prop where
 nn:0<=t
 sum:(evs ws cs t).sum=q
 sz:∀ i,i<cs.length->Sz M (dB (cR cs) (cR ws) t i)
theorem zBg{cs:List Int}{cd:D}(sc:Sq cd cs){q:Rat}{m:Nat}(hm:m<=2990)(hc:Cl cs)(hq:Sz m q)(h0:0<=q)(h1:q+q<=(cs.sum:Rat)):∃ t,Lvl (m+157) (ones cs) cs (q+q) t/\fK [cd,dq q]=.ok (.f ((hvs cs t).map dq)):=by
 have hi:=hc.hi;obtain⟨t,t1,e,t2,tz⟩:=sF (wd:=.lst ((ones cs).map D.int)) (.inl rfl) sc (m:=m+2) (by omega) (eY cs) hc (zIk hq) (by grind) h1
 refine⟨t,⟨t1,t2,fun i h=>(tz i h).mono (by omega)⟩,?_⟩
 have eo:(ones cs).map D.int=List.replicate cs.length (.int 1):=by unfold ones;rw[List.map_replicate]
 rw[eo] at e;have hh:=zQB;unfold d_HALF at hh;unfold fK;symm;rw[sc.len];symm;rw[zEZ (by omega)];symm;rw[zBu hq hq (by omega)];symm;rw[e];symm;rw[show(evs (ones cs) cs t).map dq=(List.range cs.length).map (fun i=>dq (dB (cR cs) (cR (ones cs)) t i)) by unfold evs;rw[Qw];rfl]
 rw[eR (u:=fun i=>dq (dB (cR cs) (cR (ones cs)) t i)) (g:=fun i=>dq (dB (cR cs) (cR (ones cs)) t i*hf)) (by rw[QE];omega) (fun i h=>by
  have hil:=Qk.mp h;symm;rw[hh,lZ (tz i hil) zHX (by omega)]
  symm)]
 symm;unfold hvs;rw[Qw];rfl
theorem Lvl.mono{M M':Nat}{ws cs:List Int}{q t:Rat}(h:Lvl M ws cs q t)(l:M<=M'):Lvl M' ws cs q t:=⟨h.nn,h.sum,fun i hi=>(h.sz i hi).mono l⟩
theorem uW{w v:Str}(h:aU.lookup w=some v):bX [.str w]=.ok (.v .non):=by
 unfold bX;symm;rw[h];rfl
theorem uT{cs:List Int}{cd:D}(sc:Sq cd cs)(hc:Cl cs):dR [cd]=.ok (.v .non):=by
 have lo:=hc.lo;unfold dR;symm;rw[sc.len];symm;rw[decide_eq_false (by omega)];symm;rw[sc.seq];symm;refine zDE (Q:=fun r=>r=(.ok (.v .non):Res Rt)) (fun ρ=>∃ a,ρ=[.val cd,a]) ⟨_,rfl⟩ ?_ ?_
 ·rintro e ρ he ⟨a,rfl⟩
  obtain⟨c,h,rfl⟩:=Qj.mp he;have:=hc.nn c h
  refine⟨_,?_,.val (.int c),rfl⟩
  symm;rw[decide_eq_false (by omega)];symm
 ·rintro ρ ⟨a,rfl⟩
  rfl
theorem lH{q:Rat}{W:Int}{m:Nat}(hm:m<=3000)(h:Haul m q W)(hW:W.natAbs<2^110):bF [dq q,dq (W:Rat)]=.ok (.v .non):=by
 have z0:Sz 1 (0:Rat):=⟨by decide,by decide⟩
 have zW:Sz 110 (W:Rat):=cS hW (by decide)
 have n1:¬ q<0:=Vk.mpr h.nn;have n2:¬ (W:Rat)<q:=Vk.mpr h.up
 have io:dU [dq q,dq (W:Rat)]=.ok (.v (.bl false)):=by
  unfold dU;symm;rw[jG h.sz z0 (by omega),decide_eq_false n1];symm;rw[jG zW h.sz (by omega),decide_eq_false n2];symm
 unfold bF;symm;rw[io];symm
theorem mM{α β:Type}(l:List α)(f:Nat->β)(d:α):l.zip ((List.range l.length).map f)=(List.range l.length).map fun i=>(l.getD i d,f i):=by
 refine V7 fun i=>?_
 rw[Qr];by_cases h:i<l.length
 ·rw[Vg h]
  refine YO.mpr ⟨?_,by rw[Qr,Vg h];rfl⟩
  show l[i]?=some (l.getD i d)
  rw[QB,Qu h];rfl
 ·rw[QH (by rw[Yg];omega),QH (by rw[QE];omega)];rfl
theorem jL{w:Str}{d:D}{n:Int}(hd:d=.lst []∨d=.tup [])(hw:oIn (.str w) d_WEIGHTED=.ok (.bl false)):bA [.str w,d,.int n]=.ok (.v .non):=by
 have sq:zJp d=.ok []:=by rcases hd with rfl | rfl<;>rfl
 have ln:kU [d]=.ok (.int 0):=by rcases hd with rfl | rfl<;>rfl
 unfold d_WEIGHTED at hw;unfold bA;symm;rw[hw];symm;rw[ln];symm;rw[sq];rfl
theorem zSK:uY 10 6=true:=by decide
theorem qC{w:Str}{ws cs:List Int}{wd:D}(sw:Sq wd ws)(hW:Wt ws cs)(hw:oIn (.str w) d_WEIGHTED=.ok (.bl true)):bA [.str w,wd,.int cs.length]=.ok (.v .non):=by
 have hl:=hW.len;unfold d_WEIGHTED at hw;unfold bA;symm;rw[hw];symm;rw[sw.len];symm;rw[hl,decide_eq_true rfl];symm;rw[sw.seq];symm;refine zDE (Q:=fun r=>r=(.ok (.v .non):Res Rt)) (fun ρ=>∃ a,ρ=[.val (.str w),.val wd,.val (.int cs.length),.val (.int cs.length),a]) ⟨_,rfl⟩ ?_ ?_
 ·rintro e ρ he ⟨a,rfl⟩
  obtain⟨c,h,rfl⟩:=Qj.mp he;have h1:=hW.lo c h;have h2:=hW.up c h;refine⟨_,?_,.val (.int c),rfl⟩
  symm;rw[decide_eq_false (by omega)];symm;rw[oPow_i zSK];symm;rw[decide_eq_false (by omega)];symm
 ·rintro ρ ⟨a,rfl⟩
  rfl
theorem zRZ:(Str.ofString "even" == Str.ofString "row")=false:=by decide
theorem zSt:(Str.ofString "lack" == Str.ofString "row")=false:=by decide
theorem zSq:(Str.ofString "lack" == Str.ofString "even")=false:=by decide
theorem zSs:(Str.ofString "lack" == Str.ofString "part")=false:=by decide
theorem zSf:(Str.ofString "lack" == Str.ofString "half")=false:=by decide
theorem zEv:(aU.lookup (Str.ofString "even"))=some (Str.ofString "lack"):=by decide
theorem zG:(aU.lookup (Str.ofString "lack"))=some (Str.ofString "even"):=by decide
theorem zLs{n:Nat}{ws cs:List Int}{wd cd:D}(sw:Sq wd ws)(sc:Sq cd cs){q:Rat}{m:Nat}(hm:m<=3000)(hW:Wt ws cs)(hc:Cl cs)(hq:Sz m q)(h0:0<=q)(h1:q<=(cs.sum:Rat)):∃ t,Lvl (m+155) ws cs q t/\aO (n+1) [.str (Str.ofString "even"),wd,cd,dq q]=.ok (.f ((evs ws cs t).map dq)):=by
 obtain⟨t,t1,e,t2,tz⟩:=sF sw sc hm hW hc hq h0 h1;refine⟨t,⟨t1,t2,tz⟩,?_⟩
 show aS (aO n) _=_
 unfold aS;symm;rw[sc.sum];symm;rw[bR];symm;rw[zRZ];symm;rw[e];symm
def lks(ws cs:List Int)(t:Rat):List Rat:=(cs.zip (evs ws cs t)).map fun p=>(p.1:Rat)-p.2
theorem zQD(ws cs:List Int)(t:Rat):lks ws cs t=(List.range cs.length).map fun i=>cR cs i-dB (cR cs) (cR ws) t i:=by
 unfold lks evs;rw[mM cs _ 0,Qw];rfl
theorem zOJ{n:Nat}{ws cs:List Int}{wd cd:D}(sw:Sq wd ws)(sc:Sq cd cs){q:Rat}{m:Nat}(hm:m<=2890)(hW:Wt ws cs)(hc:Cl cs)(hq:Haul m q cs.sum):∃ t,Lvl (m+261) ws cs ((cs.sum:Rat)-q) t/\aO (n+2) [.str (Str.ofString "lack"),wd,cd,dq q]=.ok (.f ((lks ws cs t).map dq)):=by
 have sm:=hc.sum;have hi:=hc.hi;have zW:Sz 105 (cs.sum:Rat):=cS (by omega) (by decide)
 have zT:Sz (m+106) ((cs.sum:Rat)-q):=(zW.sub hq.sz).mono (by omega)
 have u:=hq.up;have u':=hq.nn;obtain⟨t,tl,e⟩:=zLs sw sc (n:=n) (m:=m+106) (by omega) hW hc zT (by grind) (by grind)
 refine⟨t,tl,?_⟩
 show aS (aO (n+1)) _=_
 unfold aS;symm;rw[sc.sum];symm;rw[bR];symm;rw[zSt];symm;rw[zSq];symm;rw[zSs];symm;rw[zSf];symm;rw[show tL aU (.str (Str.ofString "lack"))=.ok (.str (Str.ofString "even")) by show zOv (aU.lookup (Str.ofString "lack"))=_;rw[zG];rfl];symm;rw[eI zW hq.sz (by omega)];symm;rw[e];symm;rw[oR sc.seqo rfl];symm
 rw[lT (u:=D.int) (v:=dq) (g:=fun c l=>dq ((c:Rat)-l)) (by omega) (fun p hp=>by
  have hp':=hp;unfold evs at hp';rw[mM cs _ 0] at hp';obtain⟨i,hir,rfl⟩:=Qj.mp hp';have hil:=Qk.mp hir;have c1:=hc.nn _ (Qm (bO hil));have c2:=hc.up _ (Qm (bO hil));symm;rw[bR];symm;rw[eI (m:=100) (n:=m+261) (cS (by omega) (by decide)) (tl.sz i hil) (by omega)]
  symm)]
 symm;unfold lks;rw[Qw];rfl
theorem zRv:(Str.ofString "half" == Str.ofString "row")=false:=by decide
theorem zRr:(Str.ofString "half" == Str.ofString "even")=false:=by decide
theorem zRd:(Str.ofString "half" == Str.ofString "part")=false:=by decide
theorem zAE:(aU.lookup (Str.ofString "half"))=some (Str.ofString "half"):=by decide
theorem zHP{n:Nat}{e:D}{cs:List Int}{cd:D}(sc:Sq cd cs){q:Rat}{m:Nat}(hm:m<=2990)(hc:Cl cs)(hq:Sz m q)(h0:0<=q)(h1:q+q<=(cs.sum:Rat)):∃ t,Lvl (m+157) (ones cs) cs (q+q) t/\aO (n+1) [.str (Str.ofString "half"),e,cd,dq q]=.ok (.f ((hvs cs t).map dq)):=by
 have sm:=hc.sum;have zW:Sz 105 (cs.sum:Rat):=cS (by omega) (by decide)
 obtain⟨t,tl,ee⟩:=zBg sc hm hc hq h0 h1;refine⟨t,tl,?_⟩
 show aS (aO n) _=_
 unfold aS;symm;rw[sc.sum];symm;rw[bR];symm;rw[zRv];symm;rw[zRr];symm;rw[zRd];symm;rw[zBu hq hq (by omega)];symm;rw[jG zW (zIk hq) (by omega),decide_eq_false (Vk.mpr h1)];symm;rw[ee];symm
def lhs(cs:List Int)(t:Rat):List Rat:=(List.range cs.length).map fun i=>cR cs i-dB (cR cs) (cR (ones cs)) t i*hf
theorem zOd{n:Nat}{e:D}{cs:List Int}{cd:D}(sc:Sq cd cs){q:Rat}{m:Nat}(hm:m<=2880)(hc:Cl cs)(hq:Haul m q cs.sum)(h1:(cs.sum:Rat)<q+q):∃ t,Lvl (m+263) (ones cs) cs (((cs.sum:Rat)-q)+((cs.sum:Rat)-q)) t/\aO (n+2) [.str (Str.ofString "half"),e,cd,dq q]=.ok (.f ((lhs cs t).map dq)):=by
 have sm:=hc.sum;have hi:=hc.hi;have zW:Sz 105 (cs.sum:Rat):=cS (by omega) (by decide)
 have zT:Sz (m+106) ((cs.sum:Rat)-q):=(zW.sub hq.sz).mono (by omega)
 have u:=hq.up;obtain⟨t,tl,ee⟩:=zHP sc (n:=n) (e:=e) (m:=m+106) (by omega) hc zT (by grind) (by grind)
 refine⟨t,tl,?_⟩
 show aS (aO (n+1)) _=_
 unfold aS;symm;rw[sc.sum];symm;rw[bR];symm;rw[zRv];symm;rw[zRr];symm;rw[zRd];symm;rw[zBu hq.sz hq.sz (by omega)];symm;rw[jG zW (zIk hq.sz) (by omega),decide_eq_true h1];symm;rw[show tL aU (.str (Str.ofString "half"))=.ok (.str (Str.ofString "half")) by show zOv (aU.lookup (Str.ofString "half"))=_;rw[zAE];rfl];symm;rw[eI zW hq.sz (by omega)];symm;rw[ee];symm;rw[oR sc.seqo rfl];symm
 rw[lT (u:=D.int) (v:=dq) (g:=fun c l=>dq ((c:Rat)-l)) (by omega) (fun p hp=>by
  have hp':=hp;unfold hvs at hp';rw[mM cs _ 0] at hp';obtain⟨i,hir,rfl⟩:=Qj.mp hp';have hil:=Qk.mp hir;have c1:=hc.nn _ (Qm (bO hil));have c2:=hc.up _ (Qm (bO hil));symm;rw[bR];symm;rw[eI (m:=100) (n:=m+263+2) (cS (by omega) (by decide)) ((tl.sz i hil).mul zHX) (by omega)]
  symm)]
 symm;unfold hvs lhs;rw[mM cs _ 0,Qw,Qw];rfl
theorem zSa:(Str.ofString "back" == Str.ofString "row")=false:=by decide
theorem zRU:(Str.ofString "back" == Str.ofString "even")=false:=by decide
theorem zSn:(Str.ofString "back" == Str.ofString "part")=false:=by decide
theorem zRQ:(Str.ofString "back" == Str.ofString "half")=false:=by decide
theorem zRX:(Str.ofString "part" == Str.ofString "row")=false:=by decide
theorem zSj:(Str.ofString "part" == Str.ofString "even")=false:=by decide
theorem zIx:(aU.lookup (Str.ofString "row"))=some (Str.ofString "back"):=by decide
theorem zAH:(aU.lookup (Str.ofString "back"))=some (Str.ofString "row"):=by decide
theorem zEa:(aU.lookup (Str.ofString "part"))=some (Str.ofString "part"):=by decide
theorem zPP{n:Nat}{d e:D}{cs:List Int}{q:Rat}(hd:d=.lst (cs.map D.int)∨d=.tup (cs.map D.int)){m:Nat}(hm:m<=3000)(hc:Cl cs)(hq:Sz m q)(h0:0<=q):aO (n+1) [.str (Str.ofString "row"),e,d,dq q]=.ok (.f ((iS cs 0 q).map dq)):=by
 have su:zBR [d]=.ok (.int cs.sum):=by rcases hd with rfl | rfl;exact bSum_l;exact bSum_t
 show aS (aO n) _=_
 unfold aS;symm;rw[su];symm;rw[bR];symm;rw[zCP hd hm hc hq h0];symm
theorem zOy{n:Nat}{d e:D}{cs:List Int}{q:Rat}(hd:d=.lst (cs.map D.int)∨d=.tup (cs.map D.int)){m:Nat}(hm:m<=3000)(hc:Cl cs)(hq:Sz m q):aO (n+1) [.str (Str.ofString "part"),e,d,dq q]=.ok (.f ((yN cs q).map dq)):=by
 have su:zBR [d]=.ok (.int cs.sum):=by rcases hd with rfl | rfl;exact bSum_l;exact bSum_t
 show aS (aO n) _=_
 unfold aS;symm;rw[su];symm;rw[bR];symm;rw[zRX];symm;rw[zSj];symm;rw[zBQ hd hm hc hq];symm
theorem zKX(f g:Nat->Rat):∀ n:Nat,((List.range n).map fun i=>f i-g i).sum=((List.range n).map f).sum-((List.range n).map g).sum
 | 0=>by simp only[List.range_zero,Vm,XD];grind
 | n+1=>by
  rw[Yf,QC,QC,QC,Vl,Vl,Vl,zKX f g n];simp only[Qq,Vm,Qx,XD];grind
theorem sE(cs:List Int):((List.range cs.length).map (cR cs)).sum=(cs.sum:Rat):=by
 have e:=nE cs (List.range cs.length);rw[zI cs _ (Qf _),Q9] at e;exact e
theorem oM{ws cs:List Int}{t:Rat}(hW:Wt ws cs)(hc:Cl cs)(h0:0<=t){i:Nat}(hi:i<cs.length):0<=dB (cR cs) (cR ws) t i/\dB (cR cs) (cR ws) t i<=cR cs i:=by
 have w:=(hW.at hi).1;have c:=hc.nn _ (Qm (bO hi));have w':(0:Rat)<=cR ws i:=by unfold cR;exact_mod_cast (show 0<=ws.getD i 0 by omega)
 have c':(0:Rat)<=cR cs i:=by unfold cR;exact_mod_cast c
 have:=Xb w' h0
 unfold dB mn;grind
theorem zLK(x:Rat):(x.num:Rat)=x*((x.den:Int):Rat):=by
 have d0:=gC x
 have nd:((x.den:Int):Rat)≠0:=fun z=>by
  have:(x.den:Int)=0:=by exact_mod_cast z
  omega
 have h1:=Vn x;rw[VD] at h1;rw[<-Q2 (a:=(x.num:Rat)) nd,h1]
theorem zJd{l:List Rat}{n:Nat}(h:l.length=n):l=(List.range n).map fun i=>l.getD i 0:=by
 refine V7 fun i=>?_
 rw[Qr];by_cases hi:i<n
 ·rw[Vg hi,Qu (by omega)]
  show _=some (l.getD i 0)
  rw[QB,Qu (by omega)];rfl
 ·rw[QH (by omega),QH (by rw[QE];omega)];rfl
def zBb(cs:List Int)(q:Rat)(i:Nat):Rat:=(iS cs 0 q).getD i 0
theorem zIM:∀(cs:List Int)(a:Int)(q:Rat)(i:Nat),(∀ c∈cs,0<=c)->i<cs.length->0<=(iS cs a q).getD i 0/\(iS cs a q).getD i 0<=cR cs i
 | c::r,a,q,0,h,_=>by
  have c0:(0:Rat)<=(c:Rat):=by exact_mod_cast h c Qb
  show 0<=mn (ps0 (q-(a:Rat))) (c:Rat)/\mn (ps0 (q-(a:Rat))) (c:Rat)<=(c:Rat)
  unfold mn ps0;grind
 | c::r,a,q,i+1,h,hi=>zIM r (a+c) q i (fun x hx=>h x (Qc _ hx)) (by rw[Qn] at hi;omega)
theorem vN:∀(cs:List Int)(a:Int){q q':Rat}(i:Nat),q<=q'->(iS cs a q).getD i 0<=(iS cs a q').getD i 0
 | [],_,_,_,_,_=>Qh
 | c::r,a,q,q',0,h=>by
  show mn (ps0 (q-(a:Rat))) (c:Rat)<=mn (ps0 (q' - (a:Rat))) (c:Rat)
  unfold mn ps0;grind
 | c::r,a,q,q',i+1,h=>vN r (a+c) i h
theorem zDZ:∀(cs:List Int)(a:Int)(q:Rat),(∀ c∈cs,0<=c)->0<=cs.sum/\(iS cs a q).sum=mn (ps0 (q-(a:Rat))) (cs.sum:Rat)
 | [],a,q,_=>⟨Vb _,by show(0:Rat)=mn (ps0 _) ((0:Int):Rat);rw[show((0:Int):Rat)=0 from rfl];unfold mn ps0;grind⟩
 | c::r,a,q,h=>by
  have c0:=h c Qb;obtain⟨s0,e⟩:=zDZ r (a+c) q fun x hx=>h x (Qc _ hx)
  have c0':(0:Rat)<=(c:Rat):=by exact_mod_cast c0
  have s0':(0:Rat)<=(r.sum:Rat):=by exact_mod_cast s0
  rw[Qx];refine⟨by omega,?_⟩
  rw[iS,Qx,e,QJ,QJ];unfold mn ps0;grind
theorem zGt{q:Rat}{m:Nat}(hq:Sz m q):∀(cs:List Int)(a:Int),(∀ c∈cs,0<=c)->(∀ c∈cs,c<10^30)->0<=a->a+cs.length*10^30<2^110->∀ x∈iS cs a q,Sz (m+111) x
 | [],_,_,_,_,_,x,hx=>by cases hx
 | c::r,a,h1,h2,h3,h4,x,hx=>by
  have c0:=h1 c Qb;have c1:=h2 c Qb;rw[Qn] at h4;have e4:((r.length+1:Nat):Int)*10^30=(r.length:Int)*10^30+10^30:=by rw[V9,Xa];rfl
  have r0:0<=(r.length:Int)*10^30:=XA (by omega) (by decide)
  rw[iS] at hx;rcases Qe.mp hx with rfl | hx
  ·exact zMY (zQy (hq.sub (cS (n:=110) (by omega) (by decide))) (by omega)) (Sz.mono (m:=100) (cS (by omega) (by decide)) (by omega))
  ·exact zGt hq r (a+c) (fun x hx=>h1 x (Qc _ hx)) (fun x hx=>h2 x (Qc _ hx)) (by omega) (by omega) x hx
theorem zDw{cs:List Int}{q:Rat}{m:Nat}(hc:Cl cs)(hq:Sz m q)(h0:0<=q)(h1:q<=(cs.sum:Rat)):(iS cs 0 q=(List.range cs.length).map (zBb cs q))/\(iS cs 0 q).sum=q/\∀ x∈iS cs 0 q,Sz (m+111) x:=by
 have hi:=hc.hi;refine⟨zJd (zBL _ _ _),?_,zGt hq cs 0 hc.nn hc.up (by decide) (by omega)⟩
 rw[(zDZ cs 0 q hc.nn).2,show((0:Int):Rat)=0 from rfl];unfold mn ps0;grind
theorem zQt{n:Nat}{e:D}{cs:List Int}{cd:D}(sc:Sq cd cs){q:Rat}{m:Nat}(hm:m<=2890)(hc:Cl cs)(hq:Haul m q cs.sum):aO (n+2) [.str (Str.ofString "back"),e,cd,dq q]=.ok (.f (((List.range cs.length).map fun i=>cR cs i-zBb cs ((cs.sum:Rat)-q) i).map dq)):=by
 have sm:=hc.sum;have hi:=hc.hi;have zW:Sz 105 (cs.sum:Rat):=cS (by omega) (by decide)
 have zT:Sz (m+106) ((cs.sum:Rat)-q):=(zW.sub hq.sz).mono (by omega)
 have u:=hq.up;have u':=hq.nn;obtain⟨r1,r2,r3⟩:=zDw hc zT (by grind) (by grind)
 have ee:=zPP (n:=n) (e:=e) sc (m:=m+106) (by omega) hc zT (by grind)
 show aS (aO (n+1)) _=_
 unfold aS;symm;rw[sc.sum];symm;rw[bR];symm;rw[zSa];symm;rw[zRU];symm;rw[zSn];symm;rw[zRQ];symm;rw[show tL aU (.str (Str.ofString "back"))=.ok (.str (Str.ofString "row")) by show zOv (aU.lookup (Str.ofString "back"))=_;rw[zAH];rfl];symm;rw[eI zW hq.sz (by omega)];symm;rw[ee];symm;rw[oR sc.seqo rfl];symm
 rw[lT (u:=D.int) (v:=dq) (g:=fun c l=>dq ((c:Rat)-l)) (by omega) (fun p hp=>by
  obtain⟨p1,p2⟩:=V0 hp;have c1:=hc.nn _ p1;have c2:=hc.up _ p1;symm;rw[bR];symm;rw[eI (m:=100) (n:=m+106+111) (cS (by omega) (by decide)) (r3 _ p2) (by omega)]
  symm)]
 symm;rw[r1,mM cs _ 0,Qw,Qw];rfl
def iY(cs:List Int)(q:Rat)(i:Nat):Rat:=(yN cs q).getD i 0
theorem zET{cs:List Int}{q:Rat}{i:Nat}(hi:i<cs.length):iY cs q i=Rat.divInt (cs.getD i 0*q.num) (max 1 cs.sum*q.den):=by
 unfold iY yN;rw[QB,Qr,bO hi];rfl
theorem gZ{cs:List Int}{q:Rat}(hc:Cl cs){i:Nat}(hi:i<cs.length):iY cs q i*(cs.sum:Rat)=q*cR cs i/\(cs.sum=0->iY cs q i=0):=by
 have sm:=hc.sum;have e:=zET (q:=q) hi;by_cases z:cs.sum=0
 ·have c0:=pJ hc.nn z _ (Qm (bO hi))
  have p0:iY cs q i=0:=by rw[e,c0,Int.zero_mul,X6]
  refine⟨?_,fun _=>p0⟩
  rw[p0];unfold cR;rw[c0,show((0:Int):Rat)=0 from rfl];grind
 ·have W0:0<cs.sum:=by omega
  have nW:(cs.sum:Rat)≠0:=fun y=>by
   have:cs.sum=0:=by exact_mod_cast y
   omega
  refine⟨?_,fun y=>absurd y z⟩
  rw[e,Int.max_eq_right (by omega),<-zIL W0];show q / (cs.sum:Rat)*cR cs i*(cs.sum:Rat)=_
  grind
theorem zGz{cs:List Int}{q:Rat}{m:Nat}(hc:Cl cs)(hq:Sz m q){i:Nat}(hi:i<cs.length):Sz (m+370) (iY cs q i):=by
 have sm:=hc.sum;have c1:=hc.nn _ (Qm (bO hi));have c2:=hc.up _ (Qm (bO hi));rw[zET hi];have d0:=gC q;have p:=XC (show 0<max 1 cs.sum by omega) d0
 exact Sz.of (by omega) (Qs (iT (m:=100) (n:=m) (by omega) hq.1) (Vf (by decide) (by omega))) (Qs (iT (m:=110) (n:=m) (by omega) hq.d) (Vf (by decide) (by omega)))
inductive Wy where
 | row | back | even | lack | part | half
def Wy.s:Wy->Str
 | .row=>Str.ofString "row"
 | .back=>Str.ofString "back"
 | .even=>Str.ofString "even"
 | .lack=>Str.ofString "lack"
 | .part=>Str.ofString "part"
 | .half=>Str.ofString "half"
def Wy.due(w:Wy)(ws cs:List Int):Prop:=match w with
 | .even=>Wt ws cs
 | .lack=>Wt ws cs
 | _=>ws=[]
def Al(M:Nat)(ws cs:List Int)(q:Rat)(f:Nat->Rat):Wy->Prop
 | .row=>∀ i,i<cs.length->f i=zBb cs q i
 | .back=>∀ i,i<cs.length->f i=cR cs i-zBb cs ((cs.sum:Rat)-q) i
 | .even=>∃ t,Lvl M ws cs q t/\∀ i,i<cs.length->f i=dB (cR cs) (cR ws) t i
 | .lack=>∃ t,Lvl M ws cs ((cs.sum:Rat)-q) t/\∀ i,i<cs.length->f i=cR cs i-dB (cR cs) (cR ws) t i
 | .part=>∀ i,i<cs.length->f i=iY cs q i
 | .half=>∃ t,(q+q<=(cs.sum:Rat)/\Lvl M (ones cs) cs (q+q) t/\∀ i,i<cs.length->f i=dB (cR cs) (cR (ones cs)) t i*hf)∨((cs.sum:Rat)<q+q/\Lvl M (ones cs) cs (((cs.sum:Rat)-q)+((cs.sum:Rat)-q)) t/\∀ i,i<cs.length->f i=cR cs i-dB (cR cs) (cR (ones cs)) t i*hf)
theorem zBH{w:Wy}{ws cs:List Int}{wd cd:D}(sw:Sq wd ws)(sc:Sq cd cs){q:Rat}{m:Nat}(hm:m<=2880)(hw:w.due ws cs)(hc:Cl cs)(hq:Haul m q cs.sum):∃ f,aO 2 [.str w.s,wd,cd,dq q]=.ok (.f (((List.range cs.length).map f).map dq))/\Al (m+263) ws cs q f w:=by
 have z:=hq.sz
 cases w with
 | row=>exact⟨zBb cs q,by rw[<-(zDw hc z hq.nn hq.up).1];exact zPP sc (by omega) hc z hq.nn,fun i _=>rfl⟩
 | back=>exact⟨_,zQt sc (by omega) hc hq,fun i _=>rfl⟩
 | even=>
  obtain⟨t,tl,e⟩:=zLs sw sc (n:=1) (by omega) hw hc z hq.nn hq.up
  exact⟨_,e,t,tl.mono (by omega),fun i _=>rfl⟩
 | lack=>
  obtain⟨t,tl,e⟩:=zOJ sw sc (n:=0) (by omega) hw hc hq
  rw[zQD] at e;exact⟨_,e,t,tl.mono (by omega),fun i _=>rfl⟩
 | part=>
  refine⟨iY cs q,?_,fun i _=>rfl⟩
  have e:yN cs q=(List.range cs.length).map (iY cs q):=zJd (by unfold yN;rw[Qd])
  rw[<-e];exact zOy sc (by omega) hc z
 | half=>
  by_cases h:(cs.sum:Rat)<q+q
  ·obtain⟨t,tl,e⟩:=zOd sc (n:=0) (e:=wd) (by omega) hc hq h
   exact⟨_,e,t,.inr ⟨h,tl,fun i _=>rfl⟩⟩
  ·obtain⟨t,tl,e⟩:=zHP sc (n:=1) (e:=wd) (by omega) hc z hq.nn (Vk.mp h)
   exact⟨_,e,t,.inl ⟨Vk.mp h,tl.mono (by omega),fun i _=>rfl⟩⟩
theorem zMm(w:Wy):∃ v,aU.lookup w.s=some v:=by
 cases w
 ·exact⟨_,zIx⟩
 ·exact⟨_,zAH⟩
 ·exact⟨_,zEv⟩
 ·exact⟨_,zG⟩
 ·exact⟨_,zEa⟩
 ·exact⟨_,zAE⟩
theorem zEg{w:Wy}{ws cs:List Int}{wd cd:D}(sw:Sq wd ws)(sc:Sq cd cs)(hw:w.due ws cs)(hc:Cl cs):lC [.str w.s,wd,cd]=.ok (.v .non):=by
 have rw':bA [.str w.s,wd,.int cs.length]=.ok (.v .non):=by
  cases w with
  | even=>exact qC sw hw rfl
  | lack=>exact qC sw hw rfl
  | row=>have e:ws=[]:=hw;rw[e] at sw;exact jL sw rfl
  | back=>have e:ws=[]:=hw;rw[e] at sw;exact jL sw rfl
  | part=>have e:ws=[]:=hw;rw[e] at sw;exact jL sw rfl
  | half=>have e:ws=[]:=hw;rw[e] at sw;exact jL sw rfl
 obtain⟨v,hv⟩:=zMm w;unfold lC;symm;rw[uW hv];symm;rw[uT sc hc];symm;rw[sc.len];symm;rw[rw'];symm
theorem zMB{w:Wy}{ws cs:List Int}{wd cd:D}(sw:Sq wd ws)(sc:Sq cd cs){q:Rat}{m:Nat}(hm:m<=2880)(hw:w.due ws cs)(hc:Cl cs)(hq:Haul m q cs.sum):∃ f,rB [.str w.s,wd,cd,dq q]=.ok (.f (((List.range cs.length).map f).map dq))/\Al (m+263) ws cs q f w:=by
 obtain⟨f,rd,al⟩:=zBH sw sc hm hw hc hq;have sm:=hc.sum;refine⟨f,?_,al⟩
 unfold rB;symm;rw[zEg sw sc hw hc];symm;rw[sc.sum];symm;rw[bR];symm;rw[lH (by omega) hq (by omega)];symm;rw[rd];symm
structure Dl (M:Nat) (cs:List Int) (q:Rat) (f:Nat->Rat):Prop where
 bd:∀ i,i<cs.length->0<=f i/\f i<=cR cs i/\Sz M (f i)
 sum:((List.range cs.length).map f).sum=q
theorem zBi{f g:Nat->Rat}{n:Nat}(h:∀ i,i<n->f i=g i):((List.range n).map f).sum=((List.range n).map g).sum:=by rw[QG fun i hi=>h i (Qk.mp hi)]
theorem Dl.congr{M:Nat}{cs:List Int}{q:Rat}{f g:Nat->Rat}(d:Dl M cs q g)(h:∀ i,i<cs.length->f i=g i):Dl M cs q f:=⟨fun i hi=>by rw[h i hi];exact d.bd i hi,by rw[zBi h];exact d.sum⟩
theorem Dl.mono{M M':Nat}{cs:List Int}{q:Rat}{f:Nat->Rat}(d:Dl M cs q f)(h:M<=M'):Dl M' cs q f:=⟨fun i hi=>⟨(d.bd i hi).1,(d.bd i hi).2.1,(d.bd i hi).2.2.mono h⟩,d.sum⟩
theorem zGD{cs:List Int}(hc:Cl cs){i:Nat}(hi:i<cs.length):0<=cR cs i/\Sz 100 (cR cs i):=by
 have c1:=hc.nn _ (Qm (bO hi));have c2:=hc.up _ (Qm (bO hi));exact⟨by unfold cR;exact_mod_cast c1,cS (by omega) (by decide)⟩
theorem Dl.dual{M:Nat}{cs:List Int}{q q':Rat}{g:Nat->Rat}(hc:Cl cs)(d:Dl M cs q' g)(h:q'=(cs.sum:Rat)-q):Dl (100+M+1) cs q (fun i=>cR cs i-g i):=by
 refine⟨fun i hi=>?_,?_⟩
 ·obtain⟨b1,b2,b3⟩:=d.bd i hi
  exact⟨by grind,by grind,(zGD hc hi).2.sub b3⟩
 ·rw[zKX,sE,d.sum]
  grind
theorem zLv{m:Nat}{cs:List Int}{q:Rat}(hc:Cl cs)(hq:Sz m q)(h0:0<=q)(h1:q<=(cs.sum:Rat)):Dl (m+111) cs q (zBb cs q):=by
 obtain⟨e,s,z⟩:=zDw hc hq h0 h1;refine⟨fun i hi=>?_,by rw[<-e];exact s⟩
 obtain⟨b1,b2⟩:=zIM cs 0 q i hc.nn hi;exact⟨b1,b2,z _ (by rw[e];exact Qj.mpr ⟨i,Qk.mpr hi,rfl⟩)⟩
theorem zLR{M:Nat}{ws cs:List Int}{q t:Rat}(hW:Wt ws cs)(hc:Cl cs)(tl:Lvl M ws cs q t):Dl M cs q (dB (cR cs) (cR ws) t):=
 ⟨fun i hi=>⟨(oM hW hc tl.nn hi).1,(oM hW hc tl.nn hi).2,tl.sz i hi⟩,tl.sum⟩
theorem zGJ{M:Nat}{cs:List Int}{q t:Rat}(hc:Cl cs)(tl:Lvl M (ones cs) cs (q+q) t):Dl (M+2) cs q (fun i=>dB (cR cs) (cR (ones cs)) t i*hf):=by
 refine⟨fun i h=>?_,?_⟩
 ·obtain⟨b1,b2⟩:=oM (eY cs) hc tl.nn h
  exact⟨by rw[iR];grind,by rw[iR];grind,(tl.sz i h).mul zHX⟩
 ·have e:=tl.sum
  have e2:=dL (w:=dB (cR cs) (cR (ones cs)) t) (t:=hf) (l:=List.range cs.length);unfold evs at e;unfold iI at e2;rw[e2,e,iR];grind
theorem zMq{a b s:Rat}(hs:s≠0)(h:a*s=b*s):a=b:=by
 have e1:a*s / s=a:=by grind
 have e2:b*s / s=b:=by grind
 rw[<-e1,<-e2,h]
theorem oB{a b s:Rat}(hs:0<s)(h:a*s<=b*s):a<=b:=VV h hs
theorem zMS{m:Nat}{cs:List Int}{q:Rat}(hc:Cl cs)(hq:Sz m q)(h0:0<=q)(h1:q<=(cs.sum:Rat)):Dl (m+370) cs q (iY cs q):=by
 have sm:=hc.sum;have cn:∀ i,i<cs.length->0<=cR cs i:=fun i hi=>(zGD hc hi).1
 have sc:iI (fun i=>iY cs q i*(cs.sum:Rat)) (List.range cs.length)=q*(cs.sum:Rat):=by
  rw[eD (g:=fun i=>cR cs i*q) fun i hi=>by rw[(gZ hc (Qk.mp hi)).1];grind];rw[dL,show iI (cR cs) (List.range cs.length)=(cs.sum:Rat) from sE cs]
 rw[dL] at sc;by_cases z:cs.sum=0
 ·have p0:∀ i,i<cs.length->iY cs q i=cR cs i:=fun i hi=>by
   have c0:=pJ hc.nn z _ (Qm (bO hi));rw[(gZ hc hi).2 z];unfold cR;rw[c0];rfl
  refine⟨fun i hi=>⟨by rw[p0 i hi];exact cn i hi,by rw[p0 i hi];exact Qh,zGz hc hq hi⟩,?_⟩
  rw[zBi p0,sE];have:(cs.sum:Rat)=0:=by rw[z];rfl
  grind
 ·have W:(0:Rat)<(cs.sum:Rat):=by exact_mod_cast (show 0<cs.sum by omega)
  refine⟨fun i hi=>?_,?_⟩
  ·have e:=(gZ (q:=q) hc hi).1
   have c0:=cn i hi;refine⟨oB W (by rw[e];have:=Xb h0 c0;grind),oB W ?_,zGz hc hq hi⟩
   rw[e];have:=Q5 h1 c0
   grind
  ·exact zMq (s:=(cs.sum:Rat)) (by grind) (by rw[Rat.mul_comm];exact sc)
theorem zNR{m:Nat}{w:Wy}{ws cs:List Int}{q:Rat}{f:Nat->Rat}(hw:w.due ws cs)(hc:Cl cs)(hq:Haul m q cs.sum)(al:Al (m+263) ws cs q f w):Dl (m+370) cs q f:=by
 have sm:=hc.sum;have zW:Sz 105 (cs.sum:Rat):=cS (by omega) (by decide)
 have z:=hq.sz;have z':Sz (m+106) ((cs.sum:Rat)-q):=(zW.sub hq.sz).mono (by omega)
 have n:=hq.nn;have u:=hq.up
 cases w with
 | row=>exact((zLv hc z n u).mono (by omega)).congr al
 | back=>exact((Dl.dual hc (zLv hc z' (by grind) (by grind)) rfl).mono (by omega)).congr al
 | even=>
  obtain⟨t,tl,e⟩:=al;exact((zLR hw hc tl).mono (by omega)).congr e
 | lack=>
  obtain⟨t,tl,e⟩:=al;exact((Dl.dual hc (zLR hw hc tl) rfl).mono (by omega)).congr e
 | part=>exact(zMS hc z n u).congr al
 | half=>
  obtain⟨t,⟨c,tl,e⟩ | ⟨c,tl,e⟩⟩:=al
  ·exact((zGJ hc tl).mono (by omega)).congr e
  ·exact((Dl.dual hc (zGJ hc tl) rfl).mono (by omega)).congr e
theorem rE:∀(cs:List Int)(a:Int)(q:Rat)(i:Nat),i<cs.length->(iS cs a q).getD i 0=mn (ps0 (q-((a+(cs.take i).sum:Int):Rat))) (cR cs i)
 | c::r,a,q,0,_=>by simp[iS,cR]
 | c::r,a,q,i+1,h=>by
  have ih:=rE r (a+c) q i (by simpa using h)
  rw[XF,Qx,<-XG];show(iS r (a+c) q).getD i 0=_
  rw[ih];rfl
def Dn(B:Int)(x:Rat):Prop:=∃ k:Int,x*(B:Rat)=(k:Rat)
theorem Dn.add{B:Int}{x y:Rat}(hx:Dn B x)(hy:Dn B y):Dn B (x+y):=by
 obtain⟨a,ha⟩:=hx;obtain⟨b,hb⟩:=hy;exact⟨a+b,by rw[QJ,<-ha,<-hb];grind⟩
theorem Dn.sub{B:Int}{x y:Rat}(hx:Dn B x)(hy:Dn B y):Dn B (x-y):=by
 obtain⟨a,ha⟩:=hx;obtain⟨b,hb⟩:=hy;exact⟨a-b,by rw[Yn,<-ha,<-hb];grind⟩
theorem Dn.int(B c:Int):Dn B (c:Rat):=⟨c*B,by rw[QL]⟩
theorem Dn.zero(B:Int):Dn B 0:=Dn.int B 0
theorem Dn.mn{B:Int}{x y:Rat}(hx:Dn B x)(hy:Dn B y):Dn B (Lw.mn x y):=by
 unfold Lw.mn;split
 ·exact hx
 ·exact hy
theorem Dn.ps{B:Int}{x:Rat}(hx:Dn B x):Dn B (ps0 x):=by
 unfold ps0;split
 ·exact Dn.zero B
 ·exact hx
theorem Dn.den(x:Rat):Dn (x.den:Int) x:=⟨x.num,(zLK x).symm⟩
theorem Dn.le{B:Int}{x:Rat}(h:Dn B x)(hB:0<B):(x.den:Int)<=B:=by
 obtain⟨a,ha⟩:=h
 have nB:(B:Rat)≠0:=fun z=>by
  have:B=0:=by exact_mod_cast z
  omega
 have e:x=Rat.divInt a B:=by
  rw[VD,<-ha];grind
 rw[e];exact zCz hB
theorem Dn.sz{B c:Int}{x:Rat}{a b:Nat}(h:Dn B x)(hB:0<B)(hb:B<2^b)(h0:0<=x)(h1:x<=(c:Rat))(hc:c<2^a):Sz (a+b) x:=by
 have le:=h.le hB;have d0:=gC x;have n0:0<=x.num:=Rat.num_nonneg.mpr h0
 have c0:0<=c:=by
  have:((0:Int):Rat)<=(c:Rat):=QD (by rw[show((0:Int):Rat)=0 from rfl];exact h0) h1
  exact Vd.mp this
 have n1:x.num<=c*x.den:=by
  have:((x.num:Int):Rat)<=((c*x.den:Int):Rat):=by
   rw[QL,zLK];exact Q5 h1 (by have z:(0:Int)<=x.den:=(by omega);exact_mod_cast z)
  exact Vd.mp this
 have hb':(x.den:Int).natAbs<2^b:=by
  have:((2:Nat)^b:Nat)=((2:Int)^b):=by rw[Int.natCast_pow];rfl
  omega
 have ha':c.natAbs<2^a:=by
  have:((2:Nat)^a:Nat)=((2:Int)^a):=by rw[Int.natCast_pow];rfl
  omega
 have m:=iT ha' hb';refine⟨by omega,?_⟩
 have:2^b<=2^(a+b):=Vf (by decide) (by omega)
 omega
theorem wB{c w:Nat->Rat}{ci wi:Nat->Int}{t:Rat}(hc:∀ i,c i=(ci i:Rat))(hw:∀ i,w i=(wi i:Rat)):∀ l:List Nat,(∀ i∈l,1<=wi i/\wi i<=10^6)->∃ F W:Int,iI (dB c w t) l=(W:Rat)*t+(F:Rat)/\0<=W/\W<=l.length*10^6/\(W=0->∀ i∈l,dB c w t i=c i)
 | [],_=>⟨0,0,by rw[iG,show((0:Int):Rat)=0 from rfl];grind,by decide,by decide,fun _ i h=>by cases h⟩
 | i::l,h=>by
  obtain⟨F,W,e,w0,w1,f⟩:=wB (t:=t) hc hw l fun j hj=>h j (Qc _ hj)
  have hi:=h i Qb;have ek:((l.length+1:Nat):Int)*10^6=(l.length:Int)*10^6+10^6:=by rw[V9,Xa];rfl
  rw[bD,Qn];by_cases z:w i*t<c i
  ·have g:dB c w t i=w i*t:=if_pos z
   refine⟨F,W+wi i,?_,by omega,by omega,fun z=>by omega⟩
   rw[g,e,QJ,hw];grind
  ·have g:dB c w t i=c i:=if_neg z
   refine⟨F+ci i,W,?_,w0,by omega,fun z j hj=>?_⟩
   ·rw[g,e,QJ,hc]
    grind
   ·rcases Qe.mp hj with rfl | hj
    ·exact g
    ·exact f z j hj
theorem zEr{M:Nat}{ws cs:List Int}{q t:Rat}{B:Int}(hW:Wt ws cs)(hl:cs.length<=12)(tl:Lvl M ws cs q t)(hq:Dn B q):∃ E:Int,0<E/\E<=12*10^6/\∀ i,i<cs.length->Dn (B*E) (dB (cR cs) (cR ws) t i):=by
 obtain⟨F,W,e,w0,w1,f⟩:=wB (c:=cR cs) (w:=cR ws) (ci:=fun i=>cs.getD i 0) (wi:=fun i=>ws.getD i 0) (t:=t) (fun _=>rfl) (fun _=>rfl) (List.range cs.length) fun i hi=>hW.at (Qk.mp hi)
 have s:iI (dB (cR cs) (cR ws) t) (List.range cs.length)=q:=tl.sum;rw[QE] at w1;by_cases z:W=0
 ·refine⟨1,by decide,by decide,fun i hi=>?_⟩
  rw[f z i (Qk.mpr hi)];exact Dn.int _ _
 ·refine⟨W,by omega,by omega,fun i hi=>?_⟩
  unfold dB;refine Dn.mn ?_ (Dn.int _ _)
  obtain⟨k,hk⟩:=hq.sub (Dn.int B F);refine⟨ws.getD i 0*k,?_⟩
  rw[QL,QL,<-hk,<-s,e];show cR ws i*t*_=cR ws i*_
  grind
theorem zIP{B:Int}{x:Rat}(h:Dn B x):Dn (B*2) (x*hf):=by
 obtain⟨k,hk⟩:=h;refine⟨k,?_⟩
 rw[<-hk,QL,iR,show((2:Int):Rat)=2 from rfl];grind
theorem zLd{cs:List Int}{q:Rat}{B:Int}(h:Dn B q){i:Nat}(hi:i<cs.length):Dn B (zBb cs q i):=by
 unfold zBb;rw[rE cs 0 q i hi];exact Dn.mn (Dn.ps (h.sub (Dn.int _ _))) (Dn.int _ _)
theorem zQJ{M:Nat}{w:Wy}{ws cs:List Int}{q:Rat}{f:Nat->Rat}{B:Int}(hw:w.due ws cs)(hc:Cl cs)(hS:cs.sum<2^34)(al:Al M ws cs q f w)(hq:Dn B q):∃ E:Int,0<E/\E<2^34/\∀ i,i<cs.length->Dn (B*E) (f i):=by
 have hi:=hc.hi;have sm:=hc.sum;have hq':Dn B ((cs.sum:Rat)-q):=(Dn.int B cs.sum).sub hq
 cases w with
 | row=>exact⟨1,by decide,by decide,fun i hi=>by rw[al i hi,Q7];exact zLd hq hi⟩
 | back=>exact⟨1,by decide,by decide,fun i hi=>by rw[al i hi,Q7];exact(Dn.int _ _).sub (zLd hq' hi)⟩
 | even=>
  obtain⟨t,tl,e⟩:=al;obtain⟨E,e0,e1,e2⟩:=zEr hw hi tl hq;exact⟨E,e0,by omega,fun i hi=>by rw[e i hi];exact e2 i hi⟩
 | lack=>
  obtain⟨t,tl,e⟩:=al;obtain⟨E,e0,e1,e2⟩:=zEr hw hi tl hq';exact⟨E,e0,by omega,fun i hi=>by rw[e i hi];exact(Dn.int _ _).sub (e2 i hi)⟩
 | part=>
  by_cases z:cs.sum=0
  ·exact⟨1,by decide,by decide,fun i hi=>by rw[al i hi,(gZ hc hi).2 z];exact Dn.zero _⟩
  ·refine⟨cs.sum,by omega,hS,fun i hi=>?_⟩
   have p:=(gZ (q:=q) hc hi).1;rw[<-al i hi] at p;obtain⟨k,hk⟩:=hq;refine⟨k*cs.getD i 0,?_⟩
   rw[QL,QL,<-hk];show f i*((B:Rat)*(cs.sum:Rat))=q*(B:Rat)*cR cs i
   generalize (cs.sum:Rat)=S at *;generalize cR cs i=x at *;generalize f i=y at *;grind
 | half=>
  obtain⟨t,⟨c,tl,e⟩ | ⟨c,tl,e⟩⟩:=al
  ·obtain⟨E,e0,e1,e2⟩:=zEr (eY cs) hi tl (hq.add hq)
   exact⟨E*2,by omega,by omega,fun i hi=>by rw[e i hi,<-Ym];exact zIP (e2 i hi)⟩
  ·obtain⟨E,e0,e1,e2⟩:=zEr (eY cs) hi tl (hq'.add hq')
   exact⟨E*2,by omega,by omega,fun i hi=>by rw[e i hi,<-Ym];exact(Dn.int _ _).sub (zIP (e2 i hi))⟩
theorem Al.mono{M M':Nat}{w:Wy}{ws cs:List Int}{q:Rat}{f:Nat->Rat}(h:Al M ws cs q f w)(l:M<=M'):Al M' ws cs q f w:=by
 cases w with
 | row=>exact h
 | back=>exact h
 | part=>exact h
 | even=>obtain⟨t,tl,e⟩:=h;exact⟨t,tl.mono l,e⟩
 | lack=>obtain⟨t,tl,e⟩:=h;exact⟨t,tl.mono l,e⟩
 | half=>
  obtain⟨t,⟨c,tl,e⟩ | ⟨c,tl,e⟩⟩:=h
  ·exact⟨t,.inl ⟨c,tl.mono l,e⟩⟩
  ·exact⟨t,.inr ⟨c,tl.mono l,e⟩⟩
theorem zPp(q:Rat):Sz (q.num.natAbs+q.den) q:=⟨Qs YQ (Vf (by decide) (by omega)),Qs YQ (Vf (by decide) (by omega))⟩
theorem zOX{M:Nat}{w:Wy}{ws cs:List Int}{q:Rat}{f:Nat->Rat}(hw:w.due ws cs)(hc:Cl cs)(q0:0<=q)(q1:q<=(cs.sum:Rat))(al:Al M ws cs q f w):(∀ i,i<cs.length->0<=f i/\f i<=cR cs i)/\((List.range cs.length).map f).sum=q:=by
 have d:=zNR (m:=q.num.natAbs+q.den+M) hw hc ⟨q0,q1,(zPp q).mono (by omega)⟩ (al.mono (by omega))
 exact⟨fun i hi=>⟨(d.bd i hi).1,(d.bd i hi).2.1⟩,d.sum⟩
theorem nD{M M':Nat}{ws cs:List Int}{q q' t t':Rat}(hW:Wt ws cs)(a:Lvl M ws cs q t)(b:Lvl M' ws cs q' t')(h:q=q'){i:Nat}(hi:i<cs.length):dB (cR cs) (cR ws) t i=dB (cR cs) (cR ws) t' i:=by
 have pw:∀ j∈List.range cs.length,0<cR ws j:=fun j hj=>by
  have:=(hW.at (Qk.mp hj)).1
  unfold cR;exact_mod_cast (show 0<ws.getD j 0 by omega)
 exact yQ (c:=cR cs) (w:=cR ws) pw (by show(evs ws cs t).sum=(evs ws cs t').sum;rw[a.sum,b.sum,h]) i (Qk.mpr hi)
theorem zPO{M M':Nat}{w:Wy}{ws cs:List Int}{q:Rat}{f g:Nat->Rat}(hw:w.due ws cs)(a:Al M ws cs q f w)(b:Al M' ws cs q g w){i:Nat}(hi:i<cs.length):f i=g i:=by
 cases w with
 | row=>rw[a i hi,b i hi]
 | back=>rw[a i hi,b i hi]
 | part=>rw[a i hi,b i hi]
 | even=>
  obtain⟨t,tl,e⟩:=a;obtain⟨t',tl',e'⟩:=b;rw[e i hi,e' i hi,nD hw tl tl' rfl hi]
 | lack=>
  obtain⟨t,tl,e⟩:=a;obtain⟨t',tl',e'⟩:=b;rw[e i hi,e' i hi,nD hw tl tl' rfl hi]
 | half=>
  have W:=eY cs;obtain⟨t,⟨c,tl,e⟩ | ⟨c,tl,e⟩⟩:=a
  ·obtain⟨t',⟨c',tl',e'⟩ | ⟨c',tl',e'⟩⟩:=b
   ·rw[e i hi,e' i hi,nD W tl tl' rfl hi]
   ·exact absurd c' (Vk.mpr c)
  ·obtain⟨t',⟨c',tl',e'⟩ | ⟨c',tl',e'⟩⟩:=b
   ·exact absurd c (Vk.mpr c')
   ·rw[e i hi,e' i hi,nD W tl tl' rfl hi]
theorem sQ{M M':Nat}{ws cs:List Int}{q q' t t':Rat}(hW:Wt ws cs)(a:Lvl M ws cs q t)(b:Lvl M' ws cs q' t')(h:q<=q'){i:Nat}(hi:i<cs.length):dB (cR cs) (cR ws) t i<=dB (cR cs) (cR ws) t' i:=by
 have pw:∀ j∈List.range cs.length,0<cR ws j:=fun j hj=>by
  have:=(hW.at (Qk.mp hj)).1
  unfold cR;exact_mod_cast (show 0<ws.getD j 0 by omega)
 rcases Vq (a:=t) (b:=t') with g | g
 ·exact mJ (pw i (Qk.mpr hi)) g
 ·have le:∀ j∈List.range cs.length,dB (cR cs) (cR ws) t' j<=dB (cR cs) (cR ws) t j:=fun j hj=>mJ (pw j hj) g
  have s1:iI (dB (cR cs) (cR ws) t') (List.range cs.length)=q':=b.sum;have s2:iI (dB (cR cs) (cR ws) t) (List.range cs.length)=q:=a.sum;have s3:=rL le;rw[rG le (by rw[s1,s2];rw[s1,s2] at s3;grind) i (Qk.mpr hi)];exact Qh
theorem zNK{M M':Nat}{w:Wy}{ws cs:List Int}{q q':Rat}{f g:Nat->Rat}(hw:w.due ws cs)(hc:Cl cs)(a:Al M ws cs q f w)(b:Al M' ws cs q' g w)(h:q<=q'){i:Nat}(hi:i<cs.length):f i<=g i:=by
 have sm:=hc.sum
 cases w with
 | row=>rw[a i hi,b i hi];exact vN cs 0 i h
 | back=>
  rw[a i hi,b i hi];have:=vN cs 0 (q:=(cs.sum:Rat)-q') (q':=(cs.sum:Rat)-q) i (by grind)
  unfold zBb;grind
 | even=>
  obtain⟨t,tl,e⟩:=a;obtain⟨t',tl',e'⟩:=b;rw[e i hi,e' i hi];exact sQ hw tl tl' h hi
 | lack=>
  obtain⟨t,tl,e⟩:=a;obtain⟨t',tl',e'⟩:=b;rw[e i hi,e' i hi];have:=sQ hw tl' tl (by grind) hi
  grind
 | part=>
  rw[a i hi,b i hi];have c0:0<=cR cs i:=by unfold cR;exact_mod_cast hc.nn _ (Qm (bO hi))
  obtain⟨p1,p2⟩:=gZ (q:=q) hc hi;obtain⟨r1,r2⟩:=gZ (q:=q') hc hi;by_cases z:cs.sum=0
  ·rw[p2 z,r2 z];exact Qh
  ·have W:(0:Rat)<(cs.sum:Rat):=by exact_mod_cast (show 0<cs.sum by omega)
   exact oB W (by rw[p1,r1];exact Q5 h c0)
 | half=>
  have ow:=eY cs;obtain⟨t,⟨c,tl,e⟩ | ⟨c,tl,e⟩⟩:=a
  ·have b1:=(oM ow hc tl.nn hi).2
   obtain⟨t',⟨c',tl',e'⟩ | ⟨c',tl',e'⟩⟩:=b
   ·have:=sQ ow tl tl' (by grind) hi
    rw[e i hi,e' i hi,iR];grind
   ·have b2:=(oM ow hc tl'.nn hi).2
    rw[e i hi,e' i hi,iR];grind
  ·obtain⟨t',⟨c',tl',e'⟩ | ⟨c',tl',e'⟩⟩:=b
   ·exfalso;grind
   ·have:=sQ ow tl' tl (by grind) hi
    rw[e i hi,e' i hi,iR];grind
def Wy.con:Wy->Wy
 | .row=>.back
 | .back=>.row
 | .even=>.lack
 | .lack=>.even
 | .part=>.part
 | .half=>.half
theorem zDQ{M:Nat}{ws cs:List Int}{q t:Rat}(hW:Wt ws cs)(hc:Cl cs)(a:Lvl M ws cs q t)(h:q=(cs.sum:Rat)){i:Nat}(hi:i<cs.length):dB (cR cs) (cR ws) t i=cR cs i:=by
 have s:iI (dB (cR cs) (cR ws) t) (List.range cs.length)=q:=a.sum;exact rG (fun j hj=>(oM hW hc a.nn (Qk.mp hj)).2) (by rw[s,h];exact(sE cs).symm) i (Qk.mpr hi)
theorem zPb{M M':Nat}{w:Wy}{ws cs:List Int}{q:Rat}{f g:Nat->Rat}(hw:w.due ws cs)(hc:Cl cs)(hn:0<=q)(hu:q<=(cs.sum:Rat))(a:Al M ws cs q f w)(b:Al M' ws cs ((cs.sum:Rat)-q) g w.con){i:Nat}(hi:i<cs.length):g i=cR cs i-f i:=by
 have sm:=hc.sum;have e0:(cs.sum:Rat)-((cs.sum:Rat)-q)=q:=by grind
 cases w with
 | row=>
  have b':g i=cR cs i-zBb cs ((cs.sum:Rat)-((cs.sum:Rat)-q)) i:=b i hi;rw[b',e0,a i hi]
 | back=>
  have b':g i=zBb cs ((cs.sum:Rat)-q) i:=b i hi;rw[b',a i hi];grind
 | even=>
  obtain⟨t,tl,e⟩:=a;obtain⟨t',tl',e'⟩:=b;rw[e i hi,e' i hi,nD hw tl' tl e0 hi]
 | lack=>
  obtain⟨t,tl,e⟩:=a;obtain⟨t',tl',e'⟩:=b;rw[e i hi,e' i hi,nD hw tl' tl rfl hi];grind
 | part=>
  have b':g i=iY cs ((cs.sum:Rat)-q) i:=b i hi;have u:=hu;have n:=hn;obtain⟨p1,p2⟩:=gZ (q:=q) hc hi;obtain⟨r1,r2⟩:=gZ (q:=(cs.sum:Rat)-q) hc hi;rw[b',a i hi];by_cases z:cs.sum=0
  ·have c0:=pJ hc.nn z _ (Qm (bO hi))
   rw[p2 z,r2 z];unfold cR;rw[c0,show((0:Int):Rat)=0 from rfl];grind
  ·have W:(0:Rat)<(cs.sum:Rat):=by exact_mod_cast (show 0<cs.sum by omega)
   have e:iY cs ((cs.sum:Rat)-q) i*(cs.sum:Rat)=(cR cs i-iY cs q i)*(cs.sum:Rat):=by rw[r1];grind
   have l1:=oB W (show iY cs ((cs.sum:Rat)-q) i*(cs.sum:Rat)<=(cR cs i-iY cs q i)*(cs.sum:Rat) by rw[e];exact Qh)
   have l2:=oB W (show(cR cs i-iY cs q i)*(cs.sum:Rat)<=iY cs ((cs.sum:Rat)-q) i*(cs.sum:Rat) by rw[e];exact Qh)
   grind
 | half=>
  have ow:=eY cs;obtain⟨t,⟨c,tl,e⟩ | ⟨c,tl,e⟩⟩:=a
  ·obtain⟨t',⟨c',tl',e'⟩ | ⟨c',tl',e'⟩⟩:=b
   ·have f1:=zDQ ow hc tl (by grind) hi
    have f2:=zDQ ow hc tl' (by grind) hi
    rw[e i hi,e' i hi,f1,f2,iR];grind
   ·have f1:=nD ow tl' tl (by grind) hi
    rw[e i hi,e' i hi,f1]
  ·obtain⟨t',⟨c',tl',e'⟩ | ⟨c',tl',e'⟩⟩:=b
   ·have f1:=nD ow tl' tl rfl hi
    rw[e i hi,e' i hi,f1];grind
   ·exfalso;grind
theorem zNQ{w:Wy}{ws cs:List Int}(h:w.due ws cs):w.con.due ws cs:=by cases w<;>exact h
def Lin(f:Rat->Rat)(a b:Rat):Prop:=∀ x,a<=x->x<=b->(f x-f a)*(b-a)=(x-a)*(f b-f a)
def Cn(R:Rat->Rat->Prop):List Rat->Prop
 | a::b::l=>R a b/\Cn R (b::l)
 | _=>True
theorem Cn.imp{R R':Rat->Rat->Prop}(h:∀ a b,R a b->R' a b):∀ {l:List Rat},Cn R l->Cn R' l
 | [],_=>trivial
 | [_],_=>trivial
 | a::b::l,k=>⟨h a b k.1,Cn.imp h k.2⟩
theorem uU{A:List Rat}:∀ {l:List Rat},l.Pairwise (·<=·)->(∀ x∈A,x∈l∨∀ y∈l,x<=y)->Cn (fun s t=>s<=t/\∀ x∈A,x<=s∨t<=x) l
 | [],_,_=>trivial
 | [_],_,_=>trivial
 | a::b::r,h,hA=>by
  obtain⟨h1,h2⟩:=Qo.mp h;obtain⟨h3,h4⟩:=Qo.mp h2;refine⟨⟨h1 b Qb,fun x hx=>?_⟩,uU h2 fun x hx=>?_⟩
  ·rcases hA x hx with h | h
   ·rcases Qe.mp h with rfl | h
    ·exact .inl Qh
    ·rcases Qe.mp h with rfl | h
     ·exact .inr Qh
     ·exact .inr (h3 x h)
   ·exact .inl (h a Qb)
  ·rcases hA x hx with h | h
   ·rcases Qe.mp h with rfl | h
    ·exact .inr h1
    ·exact .inl h
   ·exact .inr fun y hy=>h y (Qc _ hy)
def QQ(ws cs:List Int)(t:Rat):Rat:=iI (dB (cR cs) (cR ws) t) (List.range cs.length)
def lv(ws cs:List Int)(i:Nat):Rat:=cR cs i / cR ws i
theorem Wt.pos{ws cs:List Int}(h:Wt ws cs){i:Nat}(hi:i<cs.length):0<cR ws i:=by
 have:=(h.at hi).1
 unfold cR;exact_mod_cast (show 0<ws.getD i 0 by omega)
theorem yD{ws cs:List Int}(h:Wt ws cs){i:Nat}(hi:i<cs.length):cR ws i*lv ws cs i=cR cs i:=by
 have:=h.pos hi
 unfold lv;grind
theorem zFF{ws cs:List Int}(h:Wt ws cs){i:Nat}(hi:i<cs.length){t:Rat}(l:lv ws cs i<=t):dB (cR cs) (cR ws) t i=cR cs i:=by
 have p:=h.pos hi;have e:=yD h hi;have:=VH l (Qg p)
 unfold dB mn;grind
theorem zFv{ws cs:List Int}(h:Wt ws cs){i:Nat}(hi:i<cs.length){t:Rat}(l:t<=lv ws cs i):dB (cR cs) (cR ws) t i=cR ws i*t:=by
 have p:=h.pos hi;have e:=yD h hi;have:=VH l (Qg p)
 unfold dB mn;grind
theorem zGu{ws cs:List Int}(h:Wt ws cs)(hc:Cl cs){i:Nat}(hi:i<cs.length):0<=lv ws cs i:=by
 have p:=h.pos hi;have c:=(zGD hc hi).1;have e:=yD h hi;rcases Vq (a:=0) (b:=lv ws cs i) with z | z
 ·exact z
 ·have:=VH z (Qg p)
  have z2:cR cs i=0:=by grind
  unfold lv;rw[z2];grind
def sl(ws cs:List Int)(s:Rat)(i:Nat):Rat:=if lv ws cs i<=s then 0 else cR ws i
theorem zDX{f g:Nat->Rat}:∀ {l:List Nat},iI (fun i=>f i-g i) l=iI f l-iI g l
 | []=>by rw[iG,iG,iG];grind
 | a::l=>by rw[bD,bD,bD,zDX];grind
def zOw(ws cs:List Int)(s t:Rat):Prop:=∀ i,i<cs.length->lv ws cs i<=s∨t<=lv ws cs i
theorem zAt{ws cs:List Int}(h:Wt ws cs){s t u:Rat}(n:zOw ws cs s t)(su:s<=u)(ut:u<=t){i:Nat}(hi:i<cs.length):dB (cR cs) (cR ws) u i-dB (cR cs) (cR ws) s i=sl ws cs s i*(u-s):=by
 unfold sl;by_cases z:lv ws cs i<=s
 ·rw[zFF h hi z,zFF h hi (QD z su),if_pos z];grind
 ·rcases n i hi with k | k
  ·exact absurd k z
  ·rw[zFv h hi (QD ut k),zFv h hi (QD su (QD ut k)),if_neg z];grind
theorem zBK{ws cs:List Int}(h:Wt ws cs){s t u:Rat}(n:zOw ws cs s t)(su:s<=u)(ut:u<=t):QQ ws cs u-QQ ws cs s=iI (sl ws cs s) (List.range cs.length)*(u-s):=by
 unfold QQ;rw[<-zDX,eD (g:=fun i=>sl ws cs s i*(u-s)) fun i hi=>zAt h n su ut (Qk.mp hi)];rw[dL];grind
theorem kL{ws cs:List Int}(h:Wt ws cs){s t:Rat}(l:s<=t):QQ ws cs s<=QQ ws cs t:=rL fun i hi=>mJ (h.pos (Qk.mp hi)) l
theorem zRF{ws cs:List Int}(h:Wt ws cs){s t:Rat}(e:QQ ws cs s=QQ ws cs t){i:Nat}(hi:i<cs.length):dB (cR cs) (cR ws) s i=dB (cR cs) (cR ws) t i:=yQ (fun i hi=>h.pos (Qk.mp hi)) e i (Qk.mpr hi)
theorem zPQ{ws cs:List Int}(h:Wt ws cs){s t:Rat}(st:s<=t)(n:zOw ws cs s t){i:Nat}(hi:i<cs.length){f:Rat->Rat}(hf:∀ x,QQ ws cs s<=x->x<=QQ ws cs t->∃ u,QQ ws cs u=x/\f x=dB (cR cs) (cR ws) u i):Lin f (QQ ws cs s) (QQ ws cs t):=by
 have ab:=kL h st
 have at':∀ v,s<=v->v<=t->f (QQ ws cs v)=dB (cR cs) (cR ws) v i:=fun v h1 h2=>by
  obtain⟨u,e1,e2⟩:=hf _ (kL h h1) (kL h h2);rw[e2,zRF h e1 hi]
 have fa:=at' s Qh st;have fb:=at' t st Qh;intro x h1 h2;obtain⟨u,e1,e2⟩:=hf x h1 h2;rcases Vq (a:=u) (b:=s) with z | z
 ·have q:=kL h z
  have ex:x=QQ ws cs s:=by grind
  subst ex;grind
 rcases Vq (a:=t) (b:=u) with z' | z'
 ·have q:=kL h z'
  have ex:x=QQ ws cs t:=by grind
  subst ex;grind
 have d1:=zBK h n z z';have d2:=zBK h n st Qh;have g1:=zAt h n z z' hi;have g2:=zAt h n st Qh hi;rw[e1] at d1;rw[e2,fa,fb,g1,g2,d1,d2];grind
theorem zHF{ws cs:List Int}(h:Wt ws cs){q:Rat}:∀ {l:List Rat} {s:Rat},Cn (fun s t=>s<=t/\zOw ws cs s t) (s::l)->QQ ws cs s<=q->q<=QQ ws cs ((s::l).getLast (by simp))->∃ u,s<=u/\QQ ws cs u=q
 | [],s,_,h1,h2=>⟨s,Qh,by
  have h2':q<=QQ ws cs s:=h2
  grind⟩
 | t::l,s,hc,h1,h2=>by
  obtain⟨⟨st,n⟩,hc'⟩:=hc;rcases Vq (a:=QQ ws cs t) (b:=q) with z | z
  ·obtain⟨u,u1,u2⟩:=zHF h hc' z (by simpa using h2)
   exact⟨u,QD st u1,u2⟩
  ·by_cases e:QQ ws cs s=QQ ws cs t
   ·exact⟨s,Qh,by grind⟩
   have d2:=zBK h n st Qh;generalize iI (sl ws cs s) (List.range cs.length)=W at d2;have lt:QQ ws cs s<QQ ws cs t:=by have:=kL h st;grind
   have p:0<QQ ws cs t-QQ ws cs s:=by grind
   have nz:QQ ws cs t-QQ ws cs s≠0:=by grind
   have lam:0<=(q-QQ ws cs s) / (QQ ws cs t-QQ ws cs s)/\(q-QQ ws cs s) / (QQ ws cs t-QQ ws cs s)<=1:=by
    refine⟨oB p ?_,oB p ?_⟩
    ·rw[Q2 nz];grind
    ·rw[Q2 nz];grind
   have le:(q-QQ ws cs s) / (QQ ws cs t-QQ ws cs s)*(QQ ws cs t-QQ ws cs s)=q-QQ ws cs s:=Q2 nz;generalize (q-QQ ws cs s) / (QQ ws cs t-QQ ws cs s)=k at lam le;have ts:0<=t-s:=by grind
   have m1:=Xb lam.1 ts;have m2:=Q5 lam.2 ts;refine⟨s+k*(t-s),by grind,?_⟩
   have d1:=zBK h n (u:=s+k*(t-s)) (by grind) (by grind)
   have d2':=zBK h n st Qh;grind
theorem zIR:∀(n:Nat)(g:Nat->Rat),∃ M,∀ i,i<n->Sz M (g i)
 | 0,_=>⟨0,fun i h=>by omega⟩
 | n+1,g=>by
  obtain⟨M,h⟩:=zIR n g;refine⟨M+((g n).num.natAbs+(g n).den),fun i hi=>?_⟩
  by_cases z:i=n
  ·rw[z];exact(zPp (g n)).mono (by omega)
  ·exact(h i (by omega)).mono (by omega)
theorem zQY{ws cs:List Int}(h:Wt ws cs)(hc:Cl cs){q:Rat}(q0:0<=q)(q1:q<=(cs.sum:Rat)):∃ u,0<=u/\QQ ws cs u=q:=by
 generalize hA:(List.range cs.length).map (lv ws cs)=A;have pm:(A.mergeSort fun a b=>decide (a<=b)).Perm A:=YL A _
 have so:(A.mergeSort fun a b=>decide (a<=b)).Pairwise (·<=·):=by
  have:=YM (le:=fun a b:Rat=>decide (a<=b)) (fun a b c h1 h2=>by
   have h1':=of_decide_eq_true h1;have h2':=of_decide_eq_true h2
   exact decide_eq_true (QD h1' h2')) (fun a b=>by
   rcases Vq (a:=a) (b:=b) with z | z
   ·simp[z]
   ·simp[z]) A
  exact this.imp fun h=>of_decide_eq_true h
 generalize A.mergeSort (fun a b=>decide (a<=b))=L at pm so
 have nn:∀ x∈L,0<=x:=fun x hx=>by
  have hx':=pm.mem_iff.mp hx;rw[<-hA] at hx';obtain⟨i,hi,rfl⟩:=Qj.mp hx';exact zGu h hc (Qk.mp hi)
 have so':(0::L).Pairwise (·<=·):=Qo.mpr ⟨nn,so⟩;have cn:=uU (A:=A) so' fun x hx=>.inl (Qc _ (pm.mem_iff.mpr hx))
 have cn':Cn (fun s t=>s<=t/\zOw ws cs s t) (0::L):=cn.imp fun a b hab=>⟨hab.1,fun i hi=>hab.2 _ (by rw[<-hA];exact Qj.mpr ⟨i,Qk.mpr hi,rfl⟩)⟩
 have z0:QQ ws cs 0=0:=by
  unfold QQ;rw[eD (g:=fun i=>cR ws i*0) fun i hi=>zFv h (Qk.mp hi) (zGu h hc (Qk.mp hi)),dL];grind
 have zl:QQ ws cs ((0::L).getLast (by simp))=(cs.sum:Rat):=by
  unfold QQ;rw[eD (g:=cR cs) fun i hi=>zFF h (Qk.mp hi) ?_]
  ·exact sE cs
  ·have m:lv ws cs i∈L:=pm.mem_iff.mpr (by rw[<-hA];exact Qj.mpr ⟨i,hi,rfl⟩)
   have key:∀ {l:List Rat} (ne:l≠[]),l.Pairwise (·<=·)->∀ x∈l,x<=l.getLast ne:=by
    intro l
    induction l with
    | nil=>intro ne;exact absurd rfl ne
    | cons a r ih=>
     intro ne hp x hx;obtain⟨p1,p2⟩:=Qo.mp hp
     cases r with
     | nil=>rw[Qp.mp hx];exact Qh
     | cons b r=>
      rw[List.getLast_cons (by simp)];rcases Qe.mp hx with rfl | hx
      ·exact QD (p1 b Qb) (ih (by simp) p2 b Qb)
      ·exact ih (by simp) p2 x hx
   exact key (by simp) so' _ (Qc _ m)
 exact zHF h cn' (by rw[z0];exact q0) (by rw[zl];exact q1)
theorem zEB{ws cs:List Int}(h:Wt ws cs)(hc:Cl cs){q:Rat}(q0:0<=q)(q1:q<=(cs.sum:Rat)):∃ M t,Lvl M ws cs q t:=by
 obtain⟨u,u0,e⟩:=zQY h hc q0 q1;obtain⟨M,hM⟩:=zIR cs.length (dB (cR cs) (cR ws) u);exact⟨M,u,u0,e,hM⟩
theorem zOY{w:Wy}{ws cs:List Int}(hw:w.due ws cs)(hc:Cl cs){q:Rat}(q0:0<=q)(q1:q<=(cs.sum:Rat)):∃ f M,Al M ws cs q f w:=by
 cases w with
 | row=>exact⟨_,0,fun i _=>rfl⟩
 | back=>exact⟨_,0,fun i _=>rfl⟩
 | part=>exact⟨_,0,fun i _=>rfl⟩
 | even=>
  obtain⟨M,t,tl⟩:=zEB hw hc q0 q1;exact⟨_,M,t,tl,fun i _=>rfl⟩
 | lack=>
  obtain⟨M,t,tl⟩:=zEB hw hc (q:=(cs.sum:Rat)-q) (by grind) (by grind)
  exact⟨_,M,t,tl,fun i _=>rfl⟩
 | half=>
  by_cases z:(cs.sum:Rat)<q+q
  ·obtain⟨M,t,tl⟩:=zEB (eY cs) hc (q:=((cs.sum:Rat)-q)+((cs.sum:Rat)-q)) (by grind) (by grind)
   exact⟨_,M,t,.inr ⟨z,tl,fun i _=>rfl⟩⟩
  ·have z':=Vk.mp z
   obtain⟨M,t,tl⟩:=zEB (eY cs) hc (q:=q+q) (by grind) z'
   exact⟨_,M,t,.inl ⟨z',tl,fun i _=>rfl⟩⟩
open Classical in
def FF(w:Wy)(ws cs:List Int)(q:Rat):Nat->Rat:=if h:∃ f M,Al M ws cs q f w then Classical.choose h else fun _=>0
theorem sG{w:Wy}{ws cs:List Int}(hw:w.due ws cs)(hc:Cl cs){q:Rat}(q0:0<=q)(q1:q<=(cs.sum:Rat)):∃ M,Al M ws cs q (FF w ws cs q) w:=by
 unfold FF;rw[dif_pos (zOY hw hc q0 q1)];exact XH (zOY hw hc q0 q1)
theorem rF{M:Nat}{w:Wy}{ws cs:List Int}(hw:w.due ws cs)(hc:Cl cs){q:Rat}{f:Nat->Rat}(q0:0<=q)(q1:q<=(cs.sum:Rat))(a:Al M ws cs q f w){i:Nat}(hi:i<cs.length):f i=FF w ws cs q i:=by
 obtain⟨M',b⟩:=sG hw hc q0 q1;exact zPO hw a b hi
theorem zHo{w:Wy}{ws cs:List Int}(hw:w.due ws cs)(hc:Cl cs){q:Rat}(q0:0<=q)(q1:q<=(cs.sum:Rat)):(∀ i,i<cs.length->0<=FF w ws cs q i/\FF w ws cs q i<=cR cs i)/\((List.range cs.length).map (FF w ws cs q)).sum=q:=by
 obtain⟨M,b⟩:=sG hw hc q0 q1;exact zOX hw hc q0 q1 b
theorem zMJ{w:Wy}{ws cs:List Int}(hw:w.due ws cs)(hc:Cl cs){q q':Rat}(q0:0<=q)(l:q<=q')(q1:q'<=(cs.sum:Rat)){i:Nat}(hi:i<cs.length):FF w ws cs q i<=FF w ws cs q' i:=by
 obtain⟨M,a⟩:=sG hw hc q0 (QD l q1);obtain⟨M',b⟩:=sG hw hc (QD q0 l) q1;exact zNK hw hc a b l hi
theorem zLG{w:Wy}{ws cs:List Int}(hw:w.due ws cs)(hc:Cl cs){q:Rat}(q0:0<=q)(q1:q<=(cs.sum:Rat)){i:Nat}(hi:i<cs.length):FF w.con ws cs ((cs.sum:Rat)-q) i=cR cs i-FF w ws cs q i:=by
 obtain⟨M,a⟩:=sG hw hc q0 q1;obtain⟨M',b⟩:=sG (zNQ hw) hc (q:=(cs.sum:Rat)-q) (by grind) (by grind)
 exact zPb hw hc q0 q1 a b hi
theorem zCj{f:Nat->Rat}:∀ {l:List Nat},(∀ i∈l,0<=f i)->iI f l=0->∀ i∈l,f i=0
 | [],_,_,i,h=>by cases h
 | a::l,hn,e,i,h=>by
  have p:0<=iI f l:=by
   have:∀ {l:List Nat},(∀ i∈l,0<=f i)->0<=iI f l:=by
    intro l
    induction l with
    | nil=>intro _;rw[iG];exact Qh
    | cons b l ih=>intro hl;rw[bD];have:=hl b Qb;have:=ih fun x hx=>hl x (Qc _ hx);grind
   exact this fun x hx=>hn x (Qc _ hx)
  have a0:=hn a Qb;rw[bD] at e;rcases Qe.mp h with rfl | h
  ·grind
  ·exact zCj (fun x hx=>hn x (Qc _ hx)) (by grind) i h
theorem zIt{w:Wy}{ws cs:List Int}(hw:w.due ws cs)(hc:Cl cs){i:Nat}(hi:i<cs.length):FF w ws cs 0 i=0:=by
 have s0:(0:Rat)<=(cs.sum:Rat):=by exact_mod_cast hc.sum.1
 obtain⟨b,s⟩:=zHo hw hc Qh s0;exact zCj (fun i hi=>(b i (Qk.mp hi)).1) s i (Qk.mpr hi)
theorem zDj{w:Wy}{ws cs:List Int}(hw:w.due ws cs)(hc:Cl cs){i:Nat}(hi:i<cs.length):FF w ws cs (cs.sum:Rat) i=cR cs i:=by
 have s0:(0:Rat)<=(cs.sum:Rat):=by exact_mod_cast hc.sum.1
 obtain⟨b,s⟩:=zHo hw hc s0 Qh
 have e:=rG (f:=FF w ws cs (cs.sum:Rat)) (g:=cR cs) (l:=List.range cs.length) (fun i hi=>(b i (Qk.mp hi)).2) (by
  show((List.range cs.length).map _).sum=_
  rw[s]
  exact(sE cs).symm)
 exact e i (Qk.mpr hi)
theorem zAi:∀ {cs:List Int} {i j:Nat},(∀ c∈cs,0<=c)->i<j->j<=cs.length->(cs.take i).sum+cs.getD i 0<=(cs.take j).sum/\0<=(cs.take i).sum
 | [],i,j,_,h,h'=>by simp at h';omega
 | c::r,i,0,_,h,_=>by omega
 | c::r,0,j+1,hn,_,_=>by
  have hr:∀ l:List Int,(∀ c∈l,0<=c)->0<=l.sum:=by
   intro l
   induction l with
   | nil=>intro _;decide
   | cons a l ih=>intro hl;rw[Qx];have:=hl a Qb;have:=ih fun x hx=>hl x (Qc _ hx);omega
  have:=hr (r.take j) fun x hx=>hn x (Qc _ (VI hx))
  rw[XF,Qx];simp
  omega
 | c::r,i+1,j+1,hn,h,h'=>by
  have ih:=zAi (cs:=r) (i:=i) (j:=j) (fun x hx=>hn x (Qc _ hx)) (by omega) (by simpa using h')
  have:=hn c Qb
  rw[XF,Qx,XF,Qx];show c+_+r.getD i 0<=_/\_
  omega
def Jt(w:Wy)(ws cs:List Int)(a b:Rat):Prop:=0<=a/\a<=b/\b<=(cs.sum:Rat)/\∀ i,i<cs.length->Lin (fun x=>FF w ws cs x i) a b
theorem Lin.const{f:Rat->Rat}{a b k:Rat}(hab:a<=b)(h:∀ x,a<=x->x<=b->f x=k):Lin f a b:=fun x h1 h2=>by
 rw[h x h1 h2,h a Qh hab,h b hab Qh];grind
theorem Lin.line{f:Rat->Rat}{a b m k:Rat}(hab:a<=b)(h:∀ x,a<=x->x<=b->f x=m*x+k):Lin f a b:=fun x h1 h2=>by
 rw[h x h1 h2,h a Qh hab,h b hab Qh];grind
def rj:List Int->Int->List Rat
 | [],a=>[(a:Rat)]
 | c::r,a=>(a:Rat)::rj r (a+c)
theorem zCZ(r:List Int)(a:Int):∃ t,rj r a=(a:Rat)::t:=by cases r<;>exact⟨_,rfl⟩
theorem zGh{cs:List Int}(hc:Cl cs):∀(post pre:List Int),cs=pre++post->Cn (Jt .row [] cs) (rj post pre.sum)
 | [],_,_=>trivial
 | c::r,pre,e=>by
  have ih:=zGh hc r (pre++[c]) (by rw[e];simp)
  rw[Vl,show([c]:List Int).sum=c by simp] at ih;obtain⟨t,et⟩:=zCZ r (pre.sum+c);rw[rj,et];rw[et] at ih;refine⟨?_,ih⟩
  have hk:pre.length<cs.length:=by rw[e];simp
  have tk:cs.take pre.length=pre:=by rw[e];exact List.take_left
  have ck:cs.getD pre.length 0=c:=by rw[e,QB,QX (Qf _)];simp
  have c0:0<=c:=hc.nn c (by rw[e];simp)
  have p0:0<=pre.sum:=by
   have:∀ l:List Int,(∀ c∈l,0<=c)->0<=l.sum:=by
    intro l
    induction l with
    | nil=>intro _;decide
    | cons a l ih=>intro hl;rw[Qx];have:=hl a Qb;have:=ih fun x hx=>hl x (Qc _ hx);omega
   exact this pre fun x hx=>hc.nn x (by rw[e];exact Vy _ hx)
  have r0:0<=r.sum:=by
   have:∀ l:List Int,(∀ c∈l,0<=c)->0<=l.sum:=by
    intro l
    induction l with
    | nil=>intro _;decide
    | cons a l ih=>intro hl;rw[Qx];have:=hl a Qb;have:=ih fun x hx=>hl x (Qc _ hx);omega
   exact this r fun x hx=>hc.nn x (by rw[e];exact QA _ (Qc _ hx))
  have se:cs.sum=pre.sum+c+r.sum:=by rw[e,Vl,Qx];omega
  have ab:(pre.sum:Rat)<=((pre.sum+c:Int):Rat):=Vd.mpr (by omega)
  have bS:((pre.sum+c:Int):Rat)<=(cs.sum:Rat):=Vd.mpr (by omega)
  have a0:(0:Rat)<=(pre.sum:Rat):=by exact_mod_cast p0
  refine⟨a0,ab,bS,fun i hi=>?_⟩
  have fx:∀ x,(pre.sum:Rat)<=x->x<=((pre.sum+c:Int):Rat)->FF .row [] cs x i=mn (ps0 (x-((0+(cs.take i).sum:Int):Rat))) (cR cs i):=fun x h1 h2=>by
   rw[<-rF (M:=0) (w:=.row) (ws:=[]) (f:=zBb cs x) rfl hc (QD a0 h1) (QD h2 bS) (fun i _=>rfl) hi];exact rE cs 0 x i hi
  have ci:=(zGD hc hi).1;rcases Nat.lt_trichotomy i pre.length with z | z | z
  ·have tu:=(zAi hc.nn z (Vs hk)).1
   rw[tk] at tu;refine Lin.const ab (k:=cR cs i) fun x h1 h2=>?_
   rw[fx x h1 h2]
   have tu':((0+(cs.take i).sum:Int):Rat)+cR cs i<=(pre.sum:Rat):=by
    unfold cR;rw[<-QJ];exact Vd.mpr (by omega)
   unfold mn ps0;grind
  ·subst z
   refine Lin.line ab (m:=1) (k:=-(pre.sum:Rat)) fun x h1 h2=>?_
   rw[fx x h1 h2,tk,XI];have:cR cs pre.length=(c:Rat):=by unfold cR;rw[ck]
   rw[this];rw[QJ] at h2;unfold mn ps0;grind
  ·have tu:=(zAi hc.nn z (Vs hi)).1
   rw[tk,ck] at tu;refine Lin.const ab (k:=0) fun x h1 h2=>?_
   rw[fx x h1 h2];have tu':((pre.sum+c:Int):Rat)<=((0+(cs.take i).sum:Int):Rat):=Vd.mpr (by omega)
   unfold mn ps0;grind
theorem zQk{cs:List Int}(hc:Cl cs):Cn (Jt .row [] cs) (rj cs 0):=zGh hc cs [] rfl
theorem zOc{cs:List Int}(hc:Cl cs):Cn (Jt .part [] cs) [0,(cs.sum:Rat)]:=by
 have s0:(0:Rat)<=(cs.sum:Rat):=by exact_mod_cast hc.sum.1
 refine⟨⟨Qh,s0,Qh,fun i hi=>?_⟩,trivial⟩
 have fx:∀ x,0<=x->x<=(cs.sum:Rat)->FF .part [] cs x i*(cs.sum:Rat)=x*cR cs i:=fun x h1 h2=>by
  rw[<-rF (M:=0) (w:=.part) (ws:=[]) (f:=iY cs x) rfl hc h1 h2 (fun i _=>rfl) hi];exact(gZ hc hi).1
 intro x h1 h2;have e0:=zIt (w:=.part) (ws:=[]) rfl hc hi;have e1:=fx x h1 h2;have e2:=zDj (w:=.part) (ws:=[]) rfl hc hi;show(FF .part [] cs x i-FF .part [] cs 0 i)*_=_*(FF .part [] cs (cs.sum:Rat) i-FF .part [] cs 0 i)
 rw[e0,e2];generalize FF Wy.part [] cs x i=y at *;generalize (cs.sum:Rat)=S at *;generalize cR cs i=c at *;grind
theorem zHA{R R':Rat->Rat->Prop}{g:Rat->Rat}(h:∀ a b,R a b->R' (g a) (g b)):∀ {l:List Rat},Cn R l->Cn R' (l.map g)
 | [],_=>trivial
 | [_],_=>trivial
 | a::b::l,k=>⟨h a b k.1,zHA h k.2⟩
theorem zIu{R:Rat->Rat->Prop}:∀ {l l':List Rat},Cn R l->Cn R l'->(∀ x y,l.getLast?=some x->l'.head?=some y->R x y)->Cn R (l++l')
 | [],_,_,h,_=>h
 | [a],[],_,_,_=>trivial
 | [a],b::l',_,h,k=>⟨k a b rfl rfl,h⟩
 | a::b::l,l',h,h',k=>⟨h.1,zIu h.2 h' fun x y hx hy=>k x y (by simpa using hx) hy⟩
theorem zHy{R R':Rat->Rat->Prop}{g:Rat->Rat}(h:∀ a b,R a b->R' (g b) (g a)):∀ {l:List Rat},Cn R l->Cn R' (l.reverse.map g)
 | [],_=>trivial
 | [_],_=>trivial
 | a::b::l,k=>by
  have ih:=zHy (l:=b::l) h k.2;rw[List.reverse_cons,QC];refine zIu ih trivial fun x y hx hy=>?_
  rw[VG,Yo] at hx;cases hx;cases hy;exact h a b k.1
theorem Lin.mir{f g:Rat->Rat}{a b S c:Rat}(hab:a<=b)(h:Lin f a b)(hg:∀ x,a<=x->x<=b->g (S-x)=c-f x):Lin g (S-b) (S-a):=fun x h1 h2=>by
 have k:=h (S-x) (by grind) (by grind)
 have e:=hg (S-x) (by grind) (by grind)
 rw[show S-(S-x)=x by grind] at e;rw[e,hg a Qh hab,hg b hab Qh];grind
theorem zLF{w:Wy}{ws cs:List Int}(hw:w.due ws cs)(hc:Cl cs){a b:Rat}(h:Jt w ws cs a b):Jt w.con ws cs ((cs.sum:Rat)-b) ((cs.sum:Rat)-a):=by
 obtain⟨h1,h2,h3,h4⟩:=h;refine⟨by grind,by grind,by grind,fun i hi=>?_⟩
 exact Lin.mir h2 (h4 i hi) (c:=cR cs i) fun x x1 x2=>zLG hw hc (QD h1 x1) (QD x2 h3) hi
theorem zRf{ws cs:List Int}(h:Wt ws cs)(hc:Cl cs){s t:Rat}(s0:0<=s)(st:s<=t)(n:zOw ws cs s t):Jt .even ws cs (QQ ws cs s) (QQ ws cs t):=by
 have g0:∀ i,i<cs.length->∀ t,0<=t->0<=dB (cR cs) (cR ws) t i/\dB (cR cs) (cR ws) t i<=cR cs i:=fun i hi t t0=>oM h hc t0 hi
 have q0:0<=QQ ws cs s:=by
  have:iI (fun i=>cR ws i*0) (List.range cs.length)<=QQ ws cs s:=rL fun i hi=>by
   have:=(g0 i (Qk.mp hi) s s0).1
   grind
  rw[dL] at this;grind
 have q1:QQ ws cs t<=(cs.sum:Rat):=by
  have:QQ ws cs t<=iI (cR cs) (List.range cs.length):=rL fun i hi=>(g0 i (Qk.mp hi) t (QD s0 st)).2
  have e:iI (cR cs) (List.range cs.length)=(cs.sum:Rat):=sE cs;rw[e] at this;exact this
 refine⟨q0,kL h st,q1,fun i hi=>zPQ h st n hi fun x x1 x2=>?_⟩
 obtain⟨M,u,tl,e⟩:=sG (w:=.even) h hc (QD q0 x1) (QD x2 q1);exact⟨u,tl.sum,e i hi⟩
theorem zNO{ws cs:List Int}(h:Wt ws cs)(hc:Cl cs){ls:List Rat}(so:ls.Pairwise (·<=·))(hm:∀ i,i<cs.length->lv ws cs i∈ls)(h0:∀ x∈ls,0<=x):Cn (Jt .even ws cs) ((0::ls).map (QQ ws cs)):=by
 have so':(0::ls).Pairwise (·<=·):=Qo.mpr ⟨h0,so⟩;have cn:=uU (A:=0::ls) so' fun x hx=>.inl hx
 have pos:∀ {l:List Rat},(∀ x∈l,0<=x)->Cn (fun s t=>s<=t/\∀ x∈0::ls,x<=s∨t<=x) l->Cn (fun s t=>0<=s/\s<=t/\∀ x∈0::ls,x<=s∨t<=x) l:=by
  intro l
  induction l with
  | nil=>intro _ _;trivial
  | cons a r ih=>
   intro hp k
   cases r with
   | nil=>trivial
   | cons b r=>exact⟨⟨hp a Qb,k.1⟩,ih (fun x hx=>hp x (Qc _ hx)) k.2⟩
 refine zHA (fun a b hab=>?_) (pos (fun x hx=>?_) cn)
 ·exact zRf h hc hab.1 hab.2.1 fun i hi=>hab.2.2 _ (Qc _ (hm i hi))
 ·rcases Qe.mp hx with rfl | hx
  ·exact Qh
  ·exact h0 x hx
theorem tK{cs:List Int}(hc:Cl cs){q:Rat}(q0:0<=q)(q1:q+q<=(cs.sum:Rat)){i:Nat}(hi:i<cs.length):FF .half [] cs q i=FF .even (ones cs) cs (q+q) i*hf:=by
 have s0:(0:Rat)<=(cs.sum:Rat):=by exact_mod_cast hc.sum.1
 obtain⟨M,t,tl,e⟩:=sG (w:=.even) (ws:=ones cs) (eY cs) hc (q:=q+q) (by grind) q1
 rw[<-rF (M:=M) (w:=.half) (ws:=[]) (f:=fun i=>dB (cR cs) (cR (ones cs)) t i*hf) rfl hc q0 (by grind) ⟨t,.inl ⟨q1,tl,fun i _=>rfl⟩⟩ hi,e i hi]
theorem zNw{cs:List Int}(hc:Cl cs){a b:Rat}(h:Jt .even (ones cs) cs a b):Jt .half [] cs (a*hf) (b*hf):=by
 obtain⟨h1,h2,h3,h4⟩:=h;have tw:∀ x:Rat,x*hf+x*hf=x:=fun x=>by rw[iR];grind
 have ta:=tw a;have tb:=tw b;have p:(0:Rat)<hf:=by rw[iR];grind
 have l1:=Q5 h1 (Qg p);have l2:=Q5 h2 (Qg p);refine⟨by grind,l2,by grind,fun i hi x x1 x2=>?_⟩
 have fx:∀ y,a*hf<=y->y<=b*hf->FF .half [] cs y i=FF .even (ones cs) cs (y+y) i*hf:=fun y y1 y2=>tK hc (by grind) (by grind) hi
 show(FF .half [] cs x i-FF .half [] cs (a*hf) i)*_=_*(FF .half [] cs (b*hf) i-FF .half [] cs (a*hf) i)
 rw[fx x x1 x2,fx (a*hf) Qh l2,fx (b*hf) l2 Qh,ta,tb];have k:=h4 i hi (x+x) (by grind) (by grind)
 have k':(FF .even (ones cs) cs (x+x) i-FF .even (ones cs) cs a i)*(b-a)=(x+x-a)*(FF .even (ones cs) cs b i-FF .even (ones cs) cs a i):=k;rw[show b*hf-a*hf=(b-a)*hf by grind];have hh:hf*(1+1)=1:=by rw[iR];grind
 generalize FF Wy.even (ones cs) cs (x+x) i=u at *;generalize FF Wy.even (ones cs) cs a i=v at *;generalize FF Wy.even (ones cs) cs b i=z at *;generalize hf=H at *;grind
structure JL (w:Wy) (ws cs:List Int) (l:List Rat):Prop where
 cn:Cn (Jt w ws cs) l
 hd:l.head?=some 0
 la:l.getLast?=some (cs.sum:Rat)
def ddR:Rat->List Rat->List Rat
 | _,[]=>[]
 | k,x::l=>if k<x then x::ddR x l else ddR k l
theorem zNP{w:Wy}{ws cs:List Int}:∀ {l:List Rat} {k:Rat},Cn (Jt w ws cs) (k::l)->Cn (fun a b=>a<b/\Jt w ws cs a b) (k::ddR k l)/\(k::ddR k l).getLast?=(k::l).getLast?
 | [],k,_=>⟨trivial,rfl⟩
 | x::l,k,h=>by
  rw[ddR];by_cases z:k<x
  ·rw[if_pos z]
   obtain⟨i1,i2⟩:=zNP h.2;refine⟨⟨⟨z,h.1⟩,i1⟩,?_⟩
   rw[Xc,Xc];exact i2
  ·rw[if_neg z]
   have e:k=x:=by have:=h.1.2.1;grind
   subst e;obtain⟨i1,i2⟩:=zNP h.2;refine⟨i1,?_⟩
   rw[i2,Xc]
theorem zGS:∀(l:List Rat)(k:Rat),(ddR k l).Sublist l
 | [],_=>List.Sublist.refl _
 | x::l,k=>by
  rw[ddR];split
  ·exact(zGS l x).cons₂ x
  ·exact(zGS l k).cons x
structure JS (w:Wy) (ws cs:List Int) (l:List Rat):Prop where
 cn:Cn (fun a b=>a<b/\Jt w ws cs a b) l
 hd:l.head?=some 0
 la:l.getLast?=some (cs.sum:Rat)
theorem JL.js{w:Wy}{ws cs:List Int}{l:List Rat}(h:JL w ws cs (0::l)):JS w ws cs (0::ddR 0 l):=by
 obtain⟨a,b⟩:=zNP h.cn;exact⟨a,rfl,by rw[b];exact h.la⟩
theorem zOj{R:Rat->Rat->Prop}:∀ {l:List Rat},Cn (fun a b=>a<b/\R a b) l->l.Pairwise (· < ·)
 | [],_=>.nil
 | [a],_=>XJ ..
 | a::b::l,h=>by
  have ih:=zOj h.2;refine Qo.mpr ⟨fun x hx=>?_,ih⟩
  rcases Qe.mp hx with rfl | hx
  ·exact h.1.1
  ·have z1:=h.1.1
   have z2:=(Qo.mp ih).1 x hx;grind
theorem zOK{R:Rat->Rat->Prop}:∀ {l:List Rat} {k:Nat} {a b:Rat},Cn R l->l[k]?=some a->l[k+1]?=some b->R a b
 | x::y::l,0,a,b,h,e1,e2=>by cases e1;cases e2;exact h.1
 | x::y::l,k+1,a,b,h,e1,e2=>zOK (k:=k) h.2 (by simpa using e1) (by simpa using e2)
 | [x],0,a,b,h,e1,e2=>by simp at e2
 | [x],k+1,a,b,h,e1,e2=>by simp at e2
 | [],k,a,b,h,e1,e2=>by simp at e1
def jpt(w:Wy)(ws cs:List Int)(l:List Rat)(i:Nat):List Pt:=l.map fun q=>(q,FF w ws cs q i)
theorem JS.bd{w:Wy}{ws cs:List Int}{l:List Rat}(h:JS w ws cs l):∀ x∈l,0<=x/\x<=(cs.sum:Rat):=by
 have p:=zOj h.cn;intro x hx;obtain⟨hd,la⟩:=(⟨h.hd,h.la⟩:_/\_)
 cases l with
 | nil=>cases hx
 | cons a r=>
  cases hd;refine⟨?_,?_⟩
  ·rcases Qe.mp hx with rfl | hx
   ·exact Qh
   ·exact Qg ((Qo.mp p).1 x hx)
  ·have key:∀ {l:List Rat} {e x:Rat},l.Pairwise (· < ·)->l.getLast?=some e->x∈l->x<=e:=by
    intro l
    induction l with
    | nil=>intro e x _ _ hx;cases hx
    | cons a r ih=>
     intro e x hp he hx;obtain⟨p1,p2⟩:=Qo.mp hp
     cases r with
     | nil=>rw[Qp.mp hx];cases he;exact Qh
     | cons b r=>
      rw[Xc] at he;rcases Qe.mp hx with rfl | hx
      ·exact QD (Qg (p1 b Qb)) (ih p2 he Qb)
      ·exact ih p2 he hx
   exact key p la hx
theorem zEl{w:Wy}{ws cs:List Int}{l:List Rat}(hw:w.due ws cs)(hc:Cl cs)(h:JS w ws cs l){i:Nat}(hi:i<cs.length):Ok (jpt w ws cs l i)/\(jpt w ws cs l i).getLast?=some ((cs.sum:Rat),cR cs i):=by
 have b:=h.bd;refine⟨⟨?_,?_⟩,?_⟩
 ·unfold jpt
  rw[Xj,h.hd];show some ((0:Rat),FF w ws cs 0 i)=_
  rw[zIt hw hc hi]
 ·unfold jpt
  rw[VF];refine V6 (fun {x y} hx hy hxy=>?_) (zOj h.cn)
  exact⟨hxy,zMJ hw hc (b x hx).1 (Qg hxy) (b y hy).2 hi⟩
 ·unfold jpt
  rw[VG,h.la];show some ((cs.sum:Rat),FF w ws cs (cs.sum:Rat) i)=_
  rw[zDj hw hc hi]
theorem zOa{w:Wy}{ws cs:List Int}{l:List Rat}(hw:w.due ws cs)(hc:Cl cs)(h:JS w ws cs l){i:Nat}(hi:i<cs.length){x:Rat}(x0:0<=x)(x1:x<=(cs.sum:Rat)):aV (jpt w ws cs l i) x=FF w ws cs x i:=by
 obtain⟨ok,la⟩:=zEl hw hc h hi
 have pt:∀ {k:Nat} {p:Pt},(jpt w ws cs l i)[k]?=some p->l[k]?=some p.1/\p.2=FF w ws cs p.1 i:=fun {k p} e=>by
  unfold jpt at e;rw[Qr] at e
  cases hk:l[k]? with
  | none=>rw[hk] at e;cases e
  | some a=>rw[hk] at e;cases e;exact⟨rfl,rfl⟩
 rcases tQ ok.2 la (fun p hp=>by rw[ok.1] at hp;cases hp;exact x0) x1 with⟨k,p,e1,e2⟩ | ⟨k,p,q,e1,e2,e3,e4⟩
 ·have v:=bN ok.2 e1
  rw[(pt e1).2,e2] at v;exact v
 ·rw[cI ok.2 e1 e2 (Qg e3) (Qg e4)]
  obtain⟨a1,a2⟩:=pt e1;obtain⟨b1,b2⟩:=pt e2;obtain⟨lt,j⟩:=zOK h.cn a1 b1;have k:=j.2.2.2 i hi x (Qg e3) (Qg e4);have k':(FF w ws cs x i-FF w ws cs p.1 i)*(q.1-p.1)=(x-p.1)*(FF w ws cs q.1 i-FF w ws cs p.1 i):=k;unfold itp;rw[a2,b2];generalize FF w ws cs x i=u at *;generalize FF w ws cs p.1 i=v at *;generalize FF w ws cs q.1 i=z at *;have nz:q.1-p.1≠0:=by grind
  refine jH nz ?_
  have e:(x-p.1) / (q.1-p.1)*(q.1-p.1)=x-p.1:=Q2 nz;generalize (x-p.1) / (q.1-p.1)=r at *;grind
def wln(w:Wy)(ws cs:List Int)(l:List Rat)(i:Nat):List Pt:=lD (jpt w ws cs l i)
theorem zLp{w:Wy}{ws cs:List Int}{l:List Rat}(hw:w.due ws cs)(hc:Cl cs)(h:JS w ws cs l){i:Nat}(hi:i<cs.length):zOs (wln w ws cs l i)/\(wln w ws cs l i).getLast?=some ((cs.sum:Rat),cR cs i)/\(∀ p∈wln w ws cs l i,p.1∈l/\p.2=FF w ws cs p.1 i)/\∀ x,0<=x->x<=(cs.sum:Rat)->aV (wln w ws cs l i) x=FF w ws cs x i:=by
 obtain⟨ok,la⟩:=zEl hw hc h hi;unfold wln;refine⟨kH ok,by rw[uN ok.2];exact la,fun p hp=>?_,fun x x0 x1=>by rw[yJ ok.2];exact zOa hw hc h hi x0 x1⟩
 have m:=(nL ok.2).subset hp;unfold jpt at m;obtain⟨q,hq,rfl⟩:=Qj.mp m;exact⟨hq,rfl⟩
theorem tG:∀ {l m:List Rat},l.Perm m->l.Pairwise (·<=·)->m.Pairwise (·<=·)->l=m
 | [],m,p,_,_=>(List.nil_perm.mp p).symm
 | a::l,[],p,_,_=>by cases (List.perm_nil.mp p)
 | a::l,b::m,p,h,k=>by
  obtain⟨h1,h2⟩:=Qo.mp h;obtain⟨k1,k2⟩:=Qo.mp k
  have e:a=b:=by
   have x:a<=b:=by
    rcases Qe.mp (p.mem_iff.mpr Qb) with e | e
    ·rw[e];exact Qh
    ·exact h1 b e
   have y:b<=a:=by
    rcases Qe.mp (p.mem_iff.mp Qb) with e | e
    ·rw[e];exact Qh
    ·exact k1 a e
   grind
  subst e;rw[tG (List.perm_cons a |>.mp p) h2 k2]
theorem zCE{cs:List Int}{cd:D}(sc:Sq cd cs)(hc:Cl cs):fE [cd]=.ok (.f ((rj cs 0).map dq)):=by
 have hi:=hc.hi
 have lp:∀(r:List Int)(a:Int)(acc:List D)(s:Sl),acc.length+r.length<=1000->∃ a' s',loop (gName 3) oC (r.map D.int) [.val cd,.val (.int a),.own (acc++[dq (a:Rat)]),s]=.ok (.nx [.val cd,a',.own (acc++(rj r a).map dq),s']):=by
  intro r
  induction r with
  | nil=>intro a acc s _;exact⟨_,s,rfl⟩
  | cons c r ih=>
   intro a acc s hl;rw[Qn] at hl;obtain⟨a',s',e⟩:=ih (a+c) (acc++[dq (a:Rat)]) (.val (.int c)) (by rw[Qi];simp;omega)
   refine⟨a',s',?_⟩
   rw[Qq,eM (ρ1:=[.val cd,.val (.int a),.own (acc++[dq (a:Rat)]),.val (.int c)]) (ρ2:=[.val cd,.val (.int (a+c)),.own (acc++[dq (a:Rat)]++[dq ((a+c:Int):Rat)]),.val (.int c)]) rfl (by
    symm;rw[bR];symm
    rw[if_pos (by rw[Qi];simp;omega)]),e,rj,Qq,Q4]
   rfl
 obtain⟨a',s',e⟩:=lp cs 0 [] .un (by simp;omega)
 rw[VB,VB] at e;unfold fE;symm;rw[sc.seq];symm;have e0:dq ((0:Int):Rat)=dq 0:=rfl;rw[e0] at e;rw[e];symm
theorem zGo{ws cs:List Int}(h:Wt ws cs){i:Nat}{pre post:List Nat}(hm:∀ j∈pre++i::post,j<cs.length)(so:(pre++i::post).Pairwise fun a b=>lv ws cs a<=lv ws cs b)(p:(pre++i::post).Perm (List.range cs.length)):QQ ws cs (lv ws cs i)=((wS cs pre:Int):Rat)+lv ws cs i*((wS ws (i::post):Int):Rat):=by
 unfold QQ;rw[<-vG p]
 have app:∀(f:Nat->Rat)(a b:List Nat),iI f (a++b)=iI f a+iI f b:=by
  intro f a b
  induction a with
  | nil=>rw[VB,iG,Rat.zero_add]
  | cons x a ih=>rw[Xy,bD,bD,ih];grind
 obtain⟨s1,s2,s3⟩:=Yp.mp so;rw[app,eD (g:=cR cs) (l:=pre) fun j hj=>zFF h (hm j (Vy _ hj)) (s3 j hj i Qb),nE]
 rw[eD (g:=fun j=>cR ws j*lv ws cs i) (l:=i::post) fun j hj=>zFv h (hm j (QA _ hj)) (by
  rcases Qe.mp hj with rfl | hj
  ·exact Qh
  ·exact(Qo.mp s2).1 j hj),dL,nE]
theorem zQj{ws cs:List Int}(h:Wt ws cs)(hc:Cl cs){i:Nat}(hi:i<cs.length):Sz 104 (lv ws cs i)/\Dn (ws.getD i 0) (lv ws cs i):=by
 have w:=h.at hi;have c1:=hc.nn _ (Qm (bO hi));have c2:=hc.up _ (Qm (bO hi));refine⟨?_,cs.getD i 0,?_⟩
 ·unfold lv cR
  rw[<-VD];exact Sz.of (by omega) (by omega) (by omega)
 ·have e:=yD h hi
  have e':((ws.getD i 0:Int):Rat)*lv ws cs i=((cs.getD i 0:Int):Rat):=e;rw[<-e'];grind
theorem zNU{cs:List Int}(hn:∀ c∈cs,0<=c):∀ {π:List Nat},(∀ i∈π,i<cs.length)->0<=wS cs π
 | [],_=>by show(0:Int)<=0;decide
 | i::π,h=>by
  rw[nF];have a:=hn _ (Qm (bO (h i Qb)));have b:=zNU hn fun j hj=>h j (Qc _ hj)
  omega
theorem zKL(cs:List Int)(a b:List Nat):wS cs (a++b)=wS cs a+wS cs b:=by unfold wS;rw[QC,Vl]
theorem pU{ws cs:List Int}{wd cd:D}(sw:Sq wd ws)(sc:Sq cd cs)(h:Wt ws cs)(hc:Cl cs):∃ ls:List Rat,dF [wd,cd]=.ok (.f (((0::ls).map (QQ ws cs)).map dq))/\ls.Pairwise (·<=·)/\ls.Perm ((List.range cs.length).map (lv ws cs))/\QQ ws cs 0=0:=by
 have hcc:∀ c∈cs,0<=c/\c<10^30:=fun c h=>⟨hc.nn c h,hc.up c h⟩
 have hi:=hc.hi;have sm:=hc.sum;have hw:=h.len;have hkr:=yG (zLl h hcc) (by rw[zX hw];exact hi)
 generalize hkz:(lvs ws cs).map (zJo (sP (lvs ws cs)))=kz at hkr;have lz:kz.length=cs.length:=by rw[<-hkz,Qd,zX hw]
 have B0:(0:Rat)<(sP (lvs ws cs):Rat):=by exact_mod_cast yX (lvs ws cs)
 have kat:∀ i,i<cs.length->((kz.getD i 0:Int):Rat)=lv ws cs i*(sP (lvs ws cs):Rat):=fun i h=>by
  have e:=zHY hw h;have e2:kz.getD i 0=zJo (sP (lvs ws cs)) (cR cs i / cR ws i):=by rw[<-hkz,QB,Qr,e];rfl
  rw[e2];exact zLb (Qm e)
 have z0:QQ ws cs 0=0:=by
  unfold QQ;rw[eD (g:=fun i=>cR ws i*0) fun i hi=>zFv h (Qk.mp hi) (zGu h hc (Qk.mp hi)),dL];grind
 have ord:∀ π,gP kz π->π.Perm (List.range cs.length)/\(∀ i∈π,i<cs.length)/\π.Pairwise fun a b=>lv ws cs a<=lv ws cs b:=by
  intro π hπ;obtain⟨hp,ho⟩:=hπ;rw[lz] at hp;have hm:∀ i∈π,i<cs.length:=fun i h=>Qk.mp (hp.mem_iff.mp h)
  refine⟨hp,hm,V6 (fun {i j} h1 h2 h3=>?_) ho⟩
  have h4:((kz.getD i 0:Int):Rat)<=((kz.getD j 0:Int):Rat):=Vd.mpr h3;rw[kat i (hm i h1),kat j (hm j h2)] at h4;exact VV h4 B0
 obtain⟨π0,hπ0⟩:=zDt kz;obtain⟨p0,m0,s0⟩:=ord π0 hπ0
 have key:∀ π,gP kz π->π.map (lv ws cs)=π0.map (lv ws cs):=fun π hπ=>by
  obtain⟨p1,m1,s1⟩:=ord π hπ;exact tG ((p1.trans p0.symm).map _) (VF.mpr s1) (VF.mpr s0)
 refine⟨π0.map (lv ws cs),?_,VF.mpr s0,p0.map _,z0⟩
 have lp:∀(π:List Nat)(hπ:π.Perm (List.range cs.length))(so:π.Pairwise fun a b=>lv ws cs a<=lv ws cs b)(post pre:List Nat)(acc:List D)(s:Sl),π=pre++post->acc.length+post.length<=100->∃ a' b' s',loop (gName 6) fU (jU post) [.val wd,.val cd,.val (.int (wS cs pre)),.val (.int (wS ws post)),.val (.lst ((lvs ws cs).map dq)),.own acc,s]=.ok (.nx [.val wd,.val cd,a',b',.val (.lst ((lvs ws cs).map dq)),.own (acc++post.map fun i=>dq (QQ ws cs (lv ws cs i))),s']):=by
  intro π hπ so post
  induction post with
  | nil=>intro pre acc s _ _;exact⟨_,_,s,by rw[Vm,QW];rfl⟩
  | cons i post ih=>
   intro pre acc s e hl;have hm:∀ j∈pre++i::post,j<cs.length:=fun j hj=>Qk.mp (hπ.mem_iff.mp (by rw[e];exact hj))
   have hii:=hm i (by simp)
   have ss:=zGo h hm (by rw[<-e];exact so) (by rw[<-e];exact hπ)
   have W:=h.sum (π:=i::post) fun j hj=>hm j (QA _ hj)
   have ln:(pre++i::post).length=cs.length:=by rw[<-e,hπ.length_eq,QE]
   rw[Qi,Qn] at ln;rw[Qn] at W hl;have F0:=zNU hc.nn (π:=pre) fun j hj=>hm j (Vy _ hj)
   have F1:wS cs pre<=cs.sum:=by
    have t:=zAl (ws:=cs) (π:=pre++i::post) (by rw[<-e];exact hπ)
    rw[zKL] at t;have:=zNU hc.nn (π:=i::post) fun j hj=>hm j (QA _ hj)
    omega
   obtain⟨a',b',s',e'⟩:=ih (pre++[i]) (acc++[dq (QQ ws cs (lv ws cs i))]) (.val (.int (i:Nat))) (by rw[e];simp) (by rw[Qi];simp;omega)
   refine⟨a',b',s',?_⟩
   have zl:=(zQj h hc hii).1;have zW:Sz 24 ((wS ws (i::post):Int):Rat):=cS (by omega) (by decide)
   have zF:Sz 105 ((wS cs pre:Int):Rat):=cS (by omega) (by decide)
   have ixl:oIx (.lst ((lvs ws cs).map dq)) (.int (i:Int))=.ok (dq (lv ws cs i)):=yC (Vx i) (zHY hw hii);show loop _ _ (.int (i:Nat)::jU post) _=_
   rw[eM (ρ1:=[.val wd,.val cd,.val (.int (wS cs pre)),.val (.int (wS ws (i::post))),.val (.lst ((lvs ws cs).map dq)),.own acc,.val (.int (i:Nat))]) (ρ2:=[.val wd,.val cd,.val (.int (wS cs (pre++[i]))),.val (.int (wS ws post)),.val (.lst ((lvs ws cs).map dq)),.own (acc++[dq (QQ ws cs (lv ws cs i))]),.val (.int (i:Nat))]) rfl (by
    symm;rw[bR];symm;rw[ixl];symm;rw[bR];symm;rw[lZ zl zW (by decide)];symm;rw[zBu zF (zl.mul zW) (by decide),<-ss];symm;rw[if_pos (by omega)];symm;rw[sc.ix hii];symm;rw[sw.ix (by omega)];symm
    rw[zKL,nF ws,show wS cs [i]=cs.getD i 0 by unfold wS;simp,show ws.getD i 0+wS ws post-ws.getD i 0=wS ws post by omega]),e',Q4]
   rfl
 have one:∀ π,gP kz π->aZ (fun ρ=>loop (gName 6) fU (jU π) ρ) nG [.val wd,.val cd,.val (.int 0),.val (.int ws.sum),.val (.lst ((lvs ws cs).map dq)),.own [dq 0],.un]=.ok (.ret (.f (((0::π0.map (lv ws cs)).map (QQ ws cs)).map dq))):=by
  intro π hπ;obtain⟨p1,m1,s1⟩:=ord π hπ;have lπ:π.length=cs.length:=by rw[p1.length_eq,QE]
  obtain⟨a',b',s',e⟩:=lp π p1 s1 π [] [dq 0] .un rfl (by simp;omega)
  rw[show wS cs []=0 from rfl,zAl (ws:=ws) (π:=π) (by rw[hw];exact p1)] at e;refine(zLI (a:=fun ρ=>loop (gName 6) fU (jU π) ρ) e).trans ?_
  rw[<-key π hπ,Qq,z0,Qq,Qw,Qw];rfl
 unfold dF;symm;rw[sw.sum];symm;rw[uD sw sc h hi];symm;unfold mC;rw[zHs (kz:=kz) (by symm; exact hkr) one];rfl
theorem rJ{l:List Rat}{S:Int}(hl:l.length<=1000)(hz:∀ x∈l,Sz 300 x)(hS:S.natAbs<2^105):fX [.lst (l.map dq),dq (S:Rat)]=.ok (.f ((l.reverse.map fun x=>(S:Rat)-x).map dq)):=by
 have zS:Sz 105 (S:Rat):=cS hS (by decide)
 unfold fX;symm;rw[show(l.map dq).reverse=l.reverse.map dq by rw[List.map_reverse]]
 rw[eR (u:=dq) (g:=fun x=>dq ((S:Rat)-x)) (by rw[Vc];omega) (fun x hx=>by
  symm;rw[eI zS (hz x (Yq.mp hx)) (by decide)]
  symm)]
 symm;rw[Qw];rfl
theorem rK{l:List Rat}(hl:l.length<=900)(hz:∀ x∈0::l,Sz 300 x):cY [.lst ((0::l).map dq)]=.ok (.f ((0::ddR 0 l).map dq)):=by
 have lp:∀(r:List Rat)(acc:List Rat)(k:Rat)(d:Sl)(s:Sl),(∀ x∈r,Sz 300 x)->Sz 300 k->acc.length+r.length<=1000->∃ s',loop (gName 2) iP (r.map dq) [d,.own ((acc++[k]).map dq),s]=.ok (.nx [d,.own ((acc++k::ddR k r).map dq),s']):=by
  intro r
  induction r with
  | nil=>intro acc k d s _ _ _;exact⟨s,rfl⟩
  | cons x r ih=>
   intro acc k d s hr hk hl;rw[Qn] at hl;have hx:=hr x Qb;have ixk:oIx (.lst ((acc++[k]).map dq)) (.int (-1))=.ok (dq k):=zDK (k:=1) rfl (by decide) (by rw[Qi];simp) (by rw[Qi];simp)
   have hr':∀ y∈r,Sz 300 y:=fun y hy=>hr y (Qc _ hy)
   rw[Qq,ddR];by_cases z:k<x
   ·obtain⟨s',e⟩:=ih (acc++[k]) x d (.val (dq x)) hr' hx (by rw[Qi];simp;omega)
    refine⟨s',?_⟩
    rw[if_pos z,eM (ρ1:=[d,.own ((acc++[k]).map dq),.val (dq x)]) (ρ2:=[d,.own ((acc++[k]++[x]).map dq),.val (dq x)]) rfl (by
     cases d<;>(
      symm;rw[ixk];symm;rw[jG hk hx (by decide),decide_eq_true z];symm;rw[if_pos (by rw[Qi];simp;omega),QC (l₁:=acc++[k])]
      rfl)),e,Q4]
    rfl
   ·obtain⟨s',e⟩:=ih acc k d (.val (dq x)) hr' hk (by omega)
    refine⟨s',?_⟩
    rw[if_neg z,eM (ρ1:=[d,.own ((acc++[k]).map dq),.val (dq x)]) (ρ2:=[d,.own ((acc++[k]).map dq),.val (dq x)]) rfl (by
     cases d<;>(
      symm;rw[ixk];symm;rw[jG hk hx (by decide),decide_eq_false z]
      symm)),e]
 obtain⟨s',e⟩:=lp (0::l) [] 0 (.val (.lst ((0::l).map dq))) .un hz ⟨by decide,by decide⟩ (by simp;omega)
 rw[VB,VB,ddR,if_neg (by decide)] at e;unfold cY;symm;rw[pD (by decide),show((1:Int).toNat)=1 from rfl,show List.take 1 (dq 0::l.map dq)=[0].map dq from rfl];rw[Qq] at e;rw[e];rfl
theorem zRm{B S:Int}{x:Rat}(h:Dn B x)(hB:0<B)(hB':B<2^30)(h0:0<=x)(h1:x<=(S:Rat))(hS:S<2^104):Sz 300 x:=(h.sz (a:=104) (b:=30) hB hB' h0 h1 hS).mono (by decide)
def Jd(cs:List Int)(l:List Rat):Prop:=l.length<=30/\∀ x∈l,∃ B:Int,0<B/\B<=2*10^6/\Dn B x
theorem zNB{w:Wy}{ws cs:List Int}:∀ {l:List Rat},Cn (Jt w ws cs) l->2<=l.length->∀ x∈l,0<=x/\x<=(cs.sum:Rat)
 | [],_,h,x,hx=>by cases hx
 | [a],_,h,x,hx=>by simp at h
 | [a,b],h,_,x,hx=>by
  obtain⟨h1,h2,h3,_⟩:=h.1;rcases Qe.mp hx with rfl | hx
  ·exact⟨h1,QD h2 h3⟩
  ·rw[Qp.mp hx];exact⟨QD h1 h2,h3⟩
 | a::b::c::l,h,_,x,hx=>by
  obtain⟨h1,h2,h3,_⟩:=h.1;rcases Qe.mp hx with rfl | hx
  ·exact⟨h1,QD h2 h3⟩
  ·exact zNB h.2 (by simp) x hx
theorem zLi:∀(r:List Int)(a:Int),∀ x∈rj r a,∃ k:Int,x=(k:Rat)
 | [],a,x,h=>⟨a,Qp.mp h⟩
 | c::r,a,x,h=>by
  rcases Qe.mp h with rfl | h
  ·exact⟨a,rfl⟩
  ·exact zLi r (a+c) x h
theorem zKQ:∀(r:List Int)(a:Int),(rj r a).length=r.length+1/\(rj r a).getLast?=some ((a+r.sum:Int):Rat)
 | [],a=>⟨rfl,by show some (a:Rat)=_;rw[XD,Yr]⟩
 | c::r,a=>by
  obtain⟨h1,h2⟩:=zKQ r (a+c);refine⟨by rw[rj,Qn,h1,Qn],?_⟩
  obtain⟨t,et⟩:=zCZ r (a+c);rw[rj,et,Xc,<-et,h2,Qx,XG]
theorem zND{ws cs:List Int}(h:Wt ws cs)(hc:Cl cs){ls:List Rat}(so:ls.Pairwise (·<=·))(pm:ls.Perm ((List.range cs.length).map (lv ws cs))):∀ x∈(0::ls).map (QQ ws cs),∃ B:Int,0<B/\B<=10^6/\Dn B x:=by
 have gd:∀(t:Rat)(B:Int),Dn B t->Dn B (QQ ws cs t):=fun t B hB=>by
  have all:∀ l:List Nat,Dn B (iI (dB (cR cs) (cR ws) t) l):=by
   intro l
   induction l with
   | nil=>exact Dn.zero B
   | cons i l ih=>
    rw[bD];refine Dn.add (Dn.mn ?_ (Dn.int _ _)) ih
    obtain⟨k,hk⟩:=hB;refine⟨ws.getD i 0*k,?_⟩
    rw[QL,<-hk];show cR ws i*t*_=cR ws i*_
    grind
  exact all _
 intro x hx;obtain⟨t,ht,rfl⟩:=Qj.mp hx;rcases Qe.mp ht with rfl | ht
 ·exact⟨1,by decide,by decide,gd 0 1 (Dn.zero 1)⟩
 ·obtain⟨i,hi,rfl⟩:=Qj.mp (pm.mem_iff.mp ht)
  have hi':=Qk.mp hi;have w:=h.at hi';exact⟨ws.getD i 0,by omega,w.2,gd _ _ (zQj h hc hi').2⟩
theorem zGj(w:Wy):aU.lookup w.s=some w.con.s:=by
 cases w
 ·exact zIx
 ·exact zAH
 ·exact zEv
 ·exact zG
 ·exact zEa
 ·exact zAE
theorem zHb(w:Wy):dM [.str w.s]=.ok (.v (.str w.con.s)):=by
 have e:tL aU (.str w.s)=.ok (.str w.con.s):=by show zOv (aU.lookup w.s)=_;rw[zGj];rfl
 unfold dM;symm;rw[uW (zGj w)];symm;rw[e];symm
theorem zAa:∀ {l:List Rat} {e x:Rat},l.Pairwise (·<=·)->l.getLast?=some e->x∈l->x<=e
 | [],_,_,_,h,_=>by cases h
 | [a],e,x,_,h,hx=>by rw[Qp.mp hx];cases h;exact Qh
 | a::b::r,e,x,hp,h,hx=>by
  obtain⟨p1,p2⟩:=Qo.mp hp;rw[Xc] at h;rcases Qe.mp hx with rfl | hx
  ·exact QD (p1 b Qb) (zAa p2 h Qb)
  ·exact zAa p2 h hx
theorem zNt{ws cs:List Int}(h:Wt ws cs)(hc:Cl cs){ls:List Rat}(so:ls.Pairwise (·<=·))(pm:ls.Perm ((List.range cs.length).map (lv ws cs)))(z0:QQ ws cs 0=0):JL .even ws cs ((0::ls).map (QQ ws cs)):=by
 have hm:∀ i,i<cs.length->lv ws cs i∈ls:=fun i hi=>pm.mem_iff.mpr (Qj.mpr ⟨i,Qk.mpr hi,rfl⟩)
 have h0:∀ x∈ls,0<=x:=fun x hx=>by
  obtain⟨i,hi,rfl⟩:=Qj.mp (pm.mem_iff.mp hx);exact zGu h hc (Qk.mp hi)
 refine⟨zNO h hc so hm h0,by rw[Qq,z0];rfl,?_⟩
 rw[VG];obtain⟨e,he⟩:∃ e,(0::ls).getLast?=some e:=⟨_,List.getLast?_eq_some_getLast (by simp)⟩
 rw[he];have so':(0::ls).Pairwise (·<=·):=Qo.mpr ⟨h0,so⟩;refine congrArg some ?_
 unfold QQ;rw[eD (g:=cR cs) fun i hi=>zFF h (Qk.mp hi) (zAa so' he (Qc _ (hm i (Qk.mp hi))))];exact sE cs
theorem zLH{w:Wy}{ws cs:List Int}(hw:w.due ws cs)(hc:Cl cs){l:List Rat}(h:JL w ws cs l):JL w.con ws cs (l.reverse.map fun x=>(cs.sum:Rat)-x):=by
 refine⟨zHy (fun a b k=>zLF hw hc k) h.cn,?_,?_⟩
 ·rw[Xj,List.head?_reverse,h.la]
  show some ((cs.sum:Rat)-(cs.sum:Rat))=some 0
  rw[show(cs.sum:Rat)-(cs.sum:Rat)=0 by grind]
 ·rw[VG,Yo,h.hd]
  show some ((cs.sum:Rat)-0)=_
  rw[show(cs.sum:Rat)-0=(cs.sum:Rat) by grind]
theorem zMp{cs:List Int}(hc:Cl cs){l:List Rat}(h:JL .even (ones cs) cs l):JL .half [] cs (l.map (· * hf)++(l.map (· * hf)).reverse.map fun x=>(cs.sum:Rat)-x):=by
 have c1:Cn (Jt .half [] cs) (l.map (· * hf)):=zHA (fun a b k=>zNw hc k) h.cn
 have c2:Cn (Jt .half [] cs) ((l.map (· * hf)).reverse.map fun x=>(cs.sum:Rat)-x):=zHy (fun a b k=>zLF (w:=.half) (ws:=[]) rfl hc k) c1
 have s0:(0:Rat)<=(cs.sum:Rat):=by exact_mod_cast hc.sum.1
 have hh:hf+hf=1:=by rw[iR];grind
 have h0:(0:Rat)<=hf:=by rw[iR];grind
 have m0:=Xb s0 h0;refine⟨zIu c1 c2 fun x y hx hy=>?_,?_,?_⟩
 ·rw[VG,h.la] at hx
  rw[Xj,List.head?_reverse,VG,h.la] at hy;cases hx;cases hy
  have e:(cs.sum:Rat)-(cs.sum:Rat)*hf=(cs.sum:Rat)*hf:=by
   generalize (cs.sum:Rat)=S at *;generalize hf=H at *;grind
  show Jt .half [] cs ((cs.sum:Rat)*hf) ((cs.sum:Rat)-(cs.sum:Rat)*hf)
  rw[e];refine⟨m0,Qh,by grind,fun i hi x x1 x2=>?_⟩
  have:x=(cs.sum:Rat)*hf:=by grind
  subst this;grind
 ·cases l with
  | nil=>cases h.hd
  | cons a l=>
   cases h.hd
   show some ((0:Rat)*hf)=some 0
   rw[X7]
 ·have ne:((l.map (· * hf)).reverse.map fun x=>(cs.sum:Rat)-x).getLast?=some (cs.sum:Rat):=by
   rw[VG,Yo,Xj,h.hd];show some ((cs.sum:Rat)-0*hf)=_
   rw[show(cs.sum:Rat)-0*hf=(cs.sum:Rat) by grind]
  rw[List.getLast?_append,ne];rfl
theorem zMr{w:Wy}{ws cs:List Int}(hc:Cl cs){l:List Rat}(h:JL w ws cs l)(h2:2<=l.length)(d:Jd cs l):∀ x∈l,Sz 300 x:=fun x hx=>by
 obtain⟨b0,b1⟩:=zNB h.cn h2 x hx;obtain⟨B,B0,B1,dn⟩:=d.2 x hx;exact zRm dn B0 (by omega) b0 b1 hc.sum.2
theorem zMU{w:Wy}{ws cs:List Int}{l:List Rat}(h:JL w ws cs l):∃ t,l=0::t:=by
 cases l with
 | nil=>cases h.hd
 | cons a t=>cases h.hd;exact⟨t,rfl⟩
section
variable{n:Nat}{ws cs:List Int}{wd cd e:D}
theorem zPF(sc:Sq cd cs)(hc:Cl cs):bK (n+1) [.str (Str.ofString "row"),e,cd]=.ok (.f ((rj cs 0).map dq)):=by
 show cA (bK n) _=_
 unfold cA;symm;rw[sc.sum];symm;rw[bR];symm;rw[zCE sc hc];symm
theorem zLO(sw:Sq wd ws)(sc:Sq cd cs)(h:Wt ws cs)(hc:Cl cs):∃ ls:List Rat,bK (n+1) [.str (Str.ofString "even"),wd,cd]=.ok (.f (((0::ls).map (QQ ws cs)).map dq))/\ls.Pairwise (·<=·)/\ls.Perm ((List.range cs.length).map (lv ws cs))/\QQ ws cs 0=0:=by
 obtain⟨ls,e1,e2,e3,e4⟩:=pU sw sc h hc;refine⟨ls,?_,e2,e3,e4⟩
 show cA (bK n) _=_
 unfold cA;symm;rw[sc.sum];symm;rw[bR];symm;rw[zRZ];symm;rw[e1];symm
theorem zQv(sc:Sq cd cs):bK (n+1) [.str (Str.ofString "part"),e,cd]=.ok (.f ([0,(cs.sum:Rat)].map dq)):=by
 show cA (bK n) _=_
 unfold cA;symm;rw[sc.sum];symm;rw[bR];symm;rw[zRX];symm;rw[zSj];symm
theorem zQK(sc:Sq cd cs)(hc:Cl cs):∃ ls:List Rat,bK (n+1) [.str (Str.ofString "half"),e,cd]=.ok (.f ((((0::ls).map (QQ (ones cs) cs)).map (· * hf)++(((0::ls).map (QQ (ones cs) cs)).map (· * hf)).reverse.map fun x=>(cs.sum:Rat)-x).map dq))/\ls.Pairwise (·<=·)/\ls.Perm ((List.range cs.length).map (lv (ones cs) cs))/\QQ (ones cs) cs 0=0:=by
 obtain⟨ls,e1,e2,e3,e4⟩:=pU (wd:=.lst ((ones cs).map D.int)) (.inl rfl) sc (eY cs) hc;have hi:=hc.hi;have sm:=hc.sum;have W:=eY cs;have jl:=zNt W hc e2 e3 e4;have ll:((0::ls).map (QQ (ones cs) cs)).length=cs.length+1:=by rw[Qd,Qn,e3.length_eq,Qd,QE]
 have bd:=zNB jl.cn (by rw[ll];have:=hc.lo;omega)
 have dn:=zND W hc e2 e3;refine⟨ls,?_,e2,e3,e4⟩
 generalize (0::ls).map (QQ (ones cs) cs)=l at *
 have zl:∀ x∈l,Sz 134 x:=fun x hx=>by
  obtain⟨B,B0,B1,d⟩:=dn x hx;exact d.sz (a:=104) (b:=30) B0 (by omega) (bd x hx).1 (bd x hx).2 sm.2
 have eo:(ones cs).map D.int=List.replicate cs.length (.int 1):=by unfold ones;rw[List.map_replicate]
 rw[eo] at e1;have hh:=zQB;unfold d_HALF at hh;show cA (bK n) _=_
 unfold cA;symm;rw[sc.sum];symm;rw[bR];symm;rw[zRv];symm;rw[zRr];symm;rw[zRd];symm;rw[sc.len];symm;rw[zEZ (by omega)];symm;rw[e1];symm
 rw[eR (u:=dq) (g:=fun x=>dq (x*hf)) (by omega) (fun x hx=>by
  symm;rw[hh,lZ (zl x hx) zHX (by decide)]
  symm)]
 symm;have lm:l.map (fun x=>dq (x*hf))=(l.map (· * hf)).map dq:=by rw[Qw];rfl
 rw[lm,rJ (S:=cs.sum) (by rw[Qd];omega) (fun x hx=>by
  obtain⟨y,hy,rfl⟩:=Qj.mp hx
  exact((zl y hy).mul zHX).mono (by decide)) (by omega)]
 symm;rw[if_pos (by simp only[Vc,Qd];omega),QC];symm
end
def SzQ(a b:Nat)(p:Pt):Prop:=Sz a p.1/\Sz b p.2
theorem zBm{a b c:Pt}{n m:Nat}(ha:SzQ n m a)(hb:SzQ n m b)(hc:SzQ n m c)(h:2*n+2*m+2<=8999):gT [dp a,dp b,dp c]=.ok (.v (.bl (btw a b c))):=by
 unfold gT;symm;rw[eI hb.2 ha.2 (by omega)];symm;rw[eI hc.2 hb.2 (by omega)];symm;rw[eI hb.1 ha.1 (by omega)];symm;rw[eI hc.1 hb.1 (by omega)];symm;rw[lZ (hb.2.sub ha.2) (hc.1.sub hb.1) (by omega)];symm;rw[lZ (hc.2.sub hb.2) (hb.1.sub ha.1) (by omega)];symm;rfl
theorem zBB{d:D}{ps:List Pt}{n m:Nat}(hd:d=.lst (ps.map dp)∨d=.tup (ps.map dp))(hl:ps.length<=100000)(hs:∀ p∈ps,SzQ n m p)(hn:2*n+2*m+2<=8999)(hk:Ok ps):gN [d]=.ok (.v .non):=by
 obtain⟨hh,hp⟩:=hk;have ln:kU [d]=.ok (.int (ps.length:Int)):=by rcases hd with rfl | rfl<;>simp[bLen_l,bLen_t]
 have ix:∀(i:Int)(k:Nat)(a:Pt),i=(k:Int)->ps[k]?=some a->oIx d (.int i)=.ok (dp a):=by
  intro i k a hi ha;subst hi;rcases hd with rfl | rfl
  ·exact yC (by omega) (by simpa using ha)
  ·exact wF (by omega) (by simpa using ha)
 clear hd
 have hpos:0<ps.length:=by cases ps with
  | nil=>cases hh
  | cons a r=>exact VT _
 have h0:ps[0]?=some (0,0):=by rw[<-VE];exact hh
 unfold gN;symm;rw[ln];symm;rw[decide_eq_false (by omega)];symm;rw[ix 0 0 _ rfl h0];symm;rw[ln];symm;rw[zNo (by omega) (by omega) (by omega) (by omega)];symm;refine kJ (Q:=fun r=>r=Res.ok (Rt.v D.non)) (fun i ρ=>∃ a b c,ρ=[.val d,a,b,c]) ⟨_,_,_,rfl⟩ ?_ ?_
 ·rintro i e ρ hd ⟨a,b,c,rfl⟩
  obtain⟨hi,rfl⟩:=zKK hd;have h1:ps[i]?=some ps[i]:=Qu _;have h2:ps[i+1]?=some ps[i+1]:=Qu _;have z1:=hs _ (Qm h1);have z2:=hs _ (Qm h2);have za:=jZ hp (Va i) h1 h2;generalize ps[i]=u at h1 z1 za;generalize ps[i+1]=v at h2 z2 za;symm;rw[ix _ i _ (by omega) h1];symm;rw[ix _ (i+1) _ (by omega) h2];symm;rw[jG z1.1 z2.1 (by omega)];symm;rw[decide_eq_true za.1];symm;rw[jG z2.2 z1.2 (by omega)];symm;rw[decide_eq_false (by rw[Vk];exact za.2)];symm;exact⟨_,rfl,_,_,_,rfl⟩
 ·rintro ρ' ⟨a,b,c,rfl⟩
  rfl
theorem pK{d:D}{ps:List Pt}{n m:Nat}(hd:d=.lst (ps.map dp)∨d=.tup (ps.map dp))(hl:ps.length<=100000)(hs:∀ p∈ps,SzQ n m p)(hn:2*n+2*m+2<=8999)(hk:Ok ps):eK [d]=.ok (.v (.tup ((lD ps).map dp))):=by
 have sq:zJp d=.ok (ps.map dp):=by rcases hd with rfl | rfl<;>rfl
 unfold eK;symm;rw[zBB hd hl hs hn hk];symm;rw[sq];symm;refine kJ (Q:=fun r=>r.bind fin=.ok (.v (.tup ((lD ps).map dp)))) (fun i ρ=>∃ a,ρ=[.val d,.own (((ps.take i).foldl push []).reverse.map dp),a]/\(∀ p∈(ps.take i).foldl push [],SzQ n m p)/\((ps.take i).foldl push []).length<=i) ⟨_,rfl,fun p hp=>by(rw[Yd] at hp;cases hp),by rw[Yd];exact Qf _⟩ ?_ ?_
 ·rintro i e ρ hd ⟨a,rfl,hz,hlen⟩
  rw[Qr] at hd
  cases hq:ps[i]? with
  | none=>rw[hq] at hd;cases hd
  | some p=>
   rw[hq] at hd;cases hd;have hi:i<ps.length:=(Qz.mp hq).1;have zp:=hs _ (Qm hq);rw[kD hq,List.foldl_append,XS,List.foldl_nil];generalize (ps.take i).foldl push []=s at hz hlen;generalize hK:(tW:Sv)=K;symm;by_cases hc:1<s.length
   case neg=>
    rw[Vc,decide_eq_false (by omega)];subst hK;symm;rw[if_pos (by rw[Vc];omega),zFi hc];exact⟨_,rfl,.val (dp p),by simp,by intro q hq;rcases Qe.mp hq with rfl | hq;exact zp;exact hz q hq,by simp;omega⟩
   match s,hz,hlen,hc with
   | [],_,_,hc=>exact absurd hc (by decide)
   | [b],_,_,hc=>exact absurd hc (by simp)
   | b::a::s,hz,hlen,_=>
    have za:=hz a (Qc _ Qb);have zb:=hz b Qb;have zs:∀ q∈s,SzQ n m q:=fun q hq=>hz q (Qc _ (Qc _ hq))
    have e1:((b::a::s).reverse)[(b::a::s).reverse.length-1]?=some b:=by simp
    have e2:((b::a::s).reverse)[(b::a::s).reverse.length-2]?=some a:=by simp
    rw[Qn,Qn] at hlen;have hll:(b::a::s).reverse.length=s.length+2:=by simp
    rw[hll];rw[decide_eq_true (by omega)];symm;rw[zDK (i:=-2) (k:=2) rfl (by decide) (by rw[hll];omega) e2];symm;rw[zDK (i:=-1) (k:=1) rfl (by decide) (by rw[hll];omega) e1];symm;rw[zBm za zb zp hn];symm
    cases hb:btw a b p with
    | false=>
     subst hK;symm;rw[hll,if_pos (by omega)];refine⟨_,rfl,.val (dp p),?_,?_,?_⟩
     ·rw[push,hb]
      simp
     ·rw[push,hb]
      intro q hq;rcases Qe.mp hq with rfl | hq
      ·exact zp
      ·exact hz q hq
     ·rw[push,hb]
      simp;omega
    | true=>
     subst hK;symm;rw[hll,if_neg (by omega)];symm;rw[if_pos (by simp;omega)];refine⟨_,rfl,.val (dp p),?_,?_,?_⟩
     ·rw[push,hb]
      simp
     ·rw[push,hb]
      intro q hq;rcases Qe.mp hq with rfl | hq
      ·exact zp
      ·exact hz q (Qc _ hq)
     ·rw[push,hb]
      simp;omega
 ·rintro ρ' ⟨a,rfl,_,_⟩
  rw[Qd,Q9];symm;rfl
theorem zPW{w:Wy}{ws cs:List Int}{wd cd:D}{l:List Rat}(hw:w=.back∨w=.lack)(sc:Sq cd cs)(hc:Cl cs)(hl:l.length<=30)(hz:∀ x∈l,Sz 300 x)(e:bK 1 [.str w.con.s,wd,cd]=.ok (.f (l.map dq))):bK 2 [.str w.s,wd,cd]=.ok (.f ((l.reverse.map fun x=>(cs.sum:Rat)-x).map dq)):=by
 have sm:=hc.sum;have c:=zHb w;show cA (bK 1) _=_
 unfold cA;symm;rw[sc.sum];symm;rw[bR];symm;rcases hw with rfl | rfl
 ·rw[show Wy.back.s=Str.ofString "back" from rfl,zSa]
  symm;rw[zRU];symm;rw[zSn];symm;rw[zRQ];symm;rw[show Str.ofString "back" = Wy.back.s from rfl,c];symm;rw[e];symm;rw[rJ (by omega) hz (by omega)];symm
 ·rw[show Wy.lack.s=Str.ofString "lack" from rfl,zSt]
  symm;rw[zSq];symm;rw[zSs];symm;rw[zSf];symm;rw[show Str.ofString "lack" = Wy.lack.s from rfl,c];symm;rw[e];symm;rw[rJ (by omega) hz (by omega)];symm
theorem zLS{cs:List Int}{l:List Rat}(h:Jd cs l):Jd cs (l.reverse.map fun x=>(cs.sum:Rat)-x):=by
 refine⟨by rw[Qd,Vc];exact h.1,fun x hx=>?_⟩
 obtain⟨y,hy,rfl⟩:=Qj.mp hx;obtain⟨B,b0,b1,d⟩:=h.2 y (Yq.mp hy);exact⟨B,b0,b1,(Dn.int B cs.sum).sub d⟩
theorem zKq{w:Wy}{ws cs:List Int}{wd cd:D}(sw:Sq wd ws)(sc:Sq cd cs)(hw:w.due ws cs)(hc:Cl cs):∃ l:List Rat,bK 2 [.str w.s,wd,cd]=.ok (.f (l.map dq))/\JL w ws cs l/\Jd cs l/\2<=l.length:=by
 have hi:=hc.hi;have lo:=hc.lo
 have row:JL .row [] cs (rj cs 0)/\Jd cs (rj cs 0)/\2<=(rj cs 0).length:=by
  obtain⟨l1,l2⟩:=zKQ cs 0;refine⟨⟨zQk hc,?_,by rw[l2,XI]⟩,⟨by omega,fun x hx=>?_⟩,by omega⟩
  ·obtain⟨t,et⟩:=zCZ cs 0
   rw[et];rfl
  ·obtain⟨k,rfl⟩:=zLi cs 0 x hx
   exact⟨1,by decide,by decide,Dn.int 1 k⟩
 have evn:∀ ls:List Rat,Wt ws cs->ls.Pairwise (·<=·)->ls.Perm ((List.range cs.length).map (lv ws cs))->QQ ws cs 0=0->JL .even ws cs ((0::ls).map (QQ ws cs))/\Jd cs ((0::ls).map (QQ ws cs))/\2<=((0::ls).map (QQ ws cs)).length:=fun ls W e2 e3 e4=>by
  have ll:((0::ls).map (QQ ws cs)).length=cs.length+1:=by rw[Qd,Qn,e3.length_eq,Qd,QE]
  refine⟨zNt W hc e2 e3 e4,⟨by omega,fun x hx=>?_⟩,by omega⟩
  obtain⟨B,b0,b1,d⟩:=zND W hc e2 e3 x hx;exact⟨B,b0,by omega,d⟩
 cases w with
 | row=>
  have e:ws=[]:=hw;subst e;exact⟨_,zPF (n:=1) (e:=wd) sc hc,row⟩
 | part=>
  have e:ws=[]:=hw;subst e;refine⟨_,zQv (n:=1) (e:=wd) sc,⟨zOc hc,rfl,rfl⟩,⟨by show 2<=30;decide,fun x hx=>?_⟩,Qf 2⟩
  rcases Qe.mp hx with rfl | hx
  ·exact⟨1,by decide,by decide,Dn.zero 1⟩
  ·rw[Qp.mp hx];exact⟨1,by decide,by decide,Dn.int 1 _⟩
 | even=>
  obtain⟨ls,e1,e2,e3,e4⟩:=zLO (n:=1) sw sc hw hc;exact⟨_,e1,evn ls hw e2 e3 e4⟩
 | back=>
  have e:ws=[]:=hw;subst e;have k:=zPW (w:=.back) (ws:=[]) (.inl rfl) sc hc row.2.1.1 (zMr hc row.1 row.2.2 row.2.1) (zPF (n:=0) (e:=wd) sc hc);exact⟨_,k,zLH (w:=.row) rfl hc row.1,zLS row.2.1,by rw[Qd,Vc];exact row.2.2⟩
 | lack=>
  obtain⟨ls,e1,e2,e3,e4⟩:=zLO (n:=0) sw sc hw hc;obtain⟨r1,r2,r3⟩:=evn ls hw e2 e3 e4;have k:=zPW (w:=.lack) (ws:=ws) (.inr rfl) sc hc r2.1 (zMr hc r1 r3 r2) e1;exact⟨_,k,zLH (w:=.even) hw hc r1,zLS r2,by rw[Qd,Vc];exact r3⟩
 | half=>
  have e:ws=[]:=hw;subst e;obtain⟨ls,e1,e2,e3,e4⟩:=zQK (n:=1) (e:=wd) sc hc;have W:=eY cs;have ll:((0::ls).map (QQ (ones cs) cs)).length=cs.length+1:=by rw[Qd,Qn,e3.length_eq,Qd,QE]
  have jl:=zNt W hc e2 e3 e4;have dn:=zND W hc e2 e3;generalize (0::ls).map (QQ (ones cs) cs)=l at *;refine⟨_,e1,zMp hc jl,⟨?_,fun x hx=>?_⟩,?_⟩
  ·simp only[Qi,Qd,Vc];omega
  ·have early:∀ y∈l.map (· * hf),∃ B:Int,0<B/\B<=2*10^6/\Dn B y:=fun y hy=>by
    obtain⟨z,hz,rfl⟩:=Qj.mp hy;obtain⟨B,b0,b1,d⟩:=dn z hz;exact⟨B*2,by omega,by omega,zIP d⟩
   rcases QF.mp hx with hx | hx
   ·exact early x hx
   ·obtain⟨y,hy,rfl⟩:=Qj.mp hx
    obtain⟨B,b0,b1,d⟩:=early y (Yq.mp hy);exact⟨B,b0,b1,(Dn.int B cs.sum).sub d⟩
  ·simp only[Qi,Qd,Vc];omega
theorem zEe{α:Type}:∀ l:List α,l.zip l=l.map fun x=>(x,x)
 | []=>rfl
 | a::l=>by rw[List.zip_cons_cons,zEe l,Qq]
theorem zDF{w:Wy}{ws cs:List Int}{wd cd:D}(sw:Sq wd ws)(sc:Sq cd cs)(hw:w.due ws cs)(hc:Cl cs):∃ J:List Rat,gA [.str w.s,wd,cd]=.ok (.f ((List.range cs.length).map fun i=>.tup ((wln w ws cs J i).map dp)))/\JS w ws cs J/\J.length<=30/\(∀ x∈J,Sz 300 x/\∀ i,i<cs.length->Sz 670 (FF w ws cs x i))/\Jd cs J:=by
 obtain⟨l,e1,jl,jd,l2⟩:=zKq sw sc hw hc;have zl:=zMr hc jl l2 jd;obtain⟨t,rfl⟩:=zMU jl;have js:=jl.js;have hi:=hc.hi;have lt:=jd.1;rw[Qn] at lt;have e2:=rK (l:=t) (by omega) zl
 have sub:=zGS t 0;have ln:(0::ddR 0 t).length<=30:=by rw[Qn];have:=sub.length_le;omega
 have zj:∀ x∈0::ddR 0 t,Sz 300 x:=fun x hx=>zl x (by
  rcases Qe.mp hx with rfl | hx
  ·exact Qb
  ·exact Qc _ (sub.subset hx))
 have dj:Jd cs (0::ddR 0 t):=⟨ln,fun x hx=>jd.2 x (by
  rcases Qe.mp hx with rfl | hx
  ·exact Qb
  ·exact Qc _ (sub.subset hx))⟩
 generalize 0::ddR 0 t=J at *;have bd:=js.bd
 have rd:∀ q∈J,aO 2 [.str w.s,wd,cd,dq q]=.ok (.f (((List.range cs.length).map (FF w ws cs q)).map dq))/\∀ i,i<cs.length->Sz 670 (FF w ws cs q i):=fun q hq=>by
  have ha:Haul 300 q cs.sum:=⟨(bd q hq).1,(bd q hq).2,zj q hq⟩;obtain⟨f,ef,af⟩:=zBH sw sc (by decide) hw hc ha
  have df:=zNR hw hc ha af;have eq:∀ i,i<cs.length->f i=FF w ws cs q i:=fun i hi=>rF hw hc (bd q hq).1 (bd q hq).2 af hi
  refine⟨by rw[ef,QG (g:=FF w ws cs q) fun i hi=>eq i (Qk.mp hi)],fun i hi=>by rw[<-eq i hi];exact(df.bd i hi).2.2⟩
 refine⟨J,?_,js,ln,fun x hx=>⟨zj x hx,(rd x hx).2⟩,dj⟩
 unfold gA;symm;rw[zEg sw sc hw hc];symm;rw[e1];symm;rw[Qq] at e2;rw[e2];symm
 rw[eR (u:=dq) (g:=fun q=>D.lst (((List.range cs.length).map (FF w ws cs q)).map dq)) (by omega) (fun q hq=>by
  symm;rw[(rd q hq).1]
  symm)]
 symm;rw[sc.len];symm;rw[zDl (by omega) (by omega)];symm;rw[show rng 0 ((cs.length:Int)).toNat 1=(List.range cs.length).map fun j:Nat=>D.int (j:Int) by unfold rng;rw[Vo];exact QG fun j _=>by rw[show(0:Int)+(j:Int)*1=(j:Int) by omega]]
 rw[eR (u:=fun j:Nat=>D.int (j:Int)) (g:=fun i=>D.tup ((wln w ws cs J i).map dp)) (by rw[QE];omega) (fun i hi=>by
  have hi':=Qk.mp hi
  have fl:mQ [.lst (J.map dq),.lst (J.map fun q=>D.lst (((List.range cs.length).map (FF w ws cs q)).map dq)),.int (i:Int)]=.ok (.v (.tup ((wln w ws cs J i).map dp))):=by
   obtain⟨ok,la⟩:=zEl hw hc js hi';unfold mQ;symm;rw[oR rfl rfl];symm
   rw[lT (u:=dq) (v:=fun q=>D.lst (((List.range cs.length).map (FF w ws cs q)).map dq)) (g:=fun x y=>dp (x,FF w ws cs y i)) (by omega) (fun p hp=>by
    have e:oIx (.lst (((List.range cs.length).map (FF w ws cs p.2)).map dq)) (.int (i:Int))=.ok (dq (FF w ws cs p.2 i)):=by
     rw[Qw];exact yC (Vx i) (show(List.range cs.length)[i]?=some i from Vg hi')
    symm;rw[e]
    symm)]
   symm;rw[zEe,Qw,show(J.map ((fun p:Rat×Rat=>dp (p.1,FF w ws cs p.2 i)) ∘ fun x=>(x,x)))=(jpt w ws cs J i).map dp by unfold jpt;rw[Qw];rfl]
   rw[pK (n:=300) (m:=670) (.inl rfl) (by unfold jpt;rw[Qd];omega) (fun p hp=>by
    unfold jpt at hp;obtain⟨q,hq,rfl⟩:=Qj.mp hp
    exact⟨zj q hq,(rd q hq).2 i hi'⟩) (by decide) ok]
   symm;rfl
  symm;rw[fl]
  symm)]
 symm
theorem zEh{ps:List Pt}{p:Pt}(h:ps.getLast?=some p):kM [.tup (ps.map dp)]=.ok (.v (dq p.1)):=by
 have h0:0<ps.length:=by cases ps with
  | nil=>cases h
  | cons a r=>exact VT _
 unfold kM;symm;rw[zHV (i:=-1) (k:=1) rfl (by decide) h0 (by rw[<-QZ];exact h)];symm
theorem zKz{ps:List Pt}{p:Pt}(h:ps.getLast?=some p):pN [.tup (ps.map dp)]=.ok (.v (dq p.2)):=by
 have h0:0<ps.length:=by cases ps with
  | nil=>cases h
  | cons a r=>exact VT _
 unfold pN;symm;rw[zHV (i:=-1) (k:=1) rfl (by decide) h0 (by rw[<-QZ];exact h)];symm
theorem zJf(b:Bool)(p:Pt):oIx (dp p) (.int (axi b))=.ok (dq (ax b p)):=by cases b<;>rfl
theorem zEz(b:Bool)(p:Pt):oIx (dp p) (.int (1-axi b))=.ok (dq (ax (!b) p)):=by cases b<;>rfl
theorem zHc{x l:Rat}{m n:Nat}(hx:Sz m x)(hl:Sz n l)(h:m+n<=99990):dU [dq x,dq l]=.ok (.v (.bl (decide (x<0) || decide (l<x)))):=by
 unfold dU;symm;rw[jG (n:=1) hx ⟨by decide,by decide⟩ (by omega)];symm;by_cases c:x<0
 ·rw[decide_eq_true c]
  symm
 ·rw[decide_eq_false c]
  symm;rw[jG hl hx (by omega)];symm
theorem zFk{x l:Rat}{m n:Nat}(hx:Sz m x)(hl:Sz n l)(h:m+n<=99990)(h0:0<=x)(h1:x<=l):bF [dq x,dq l]=.ok (.v .non):=by
 unfold bF;symm;rw[zHc hx hl h,decide_eq_false (by grind),decide_eq_false (by grind)];symm
theorem sH{ps:List Pt}{n m:Nat}(b:Bool){y:Rat}(h0:0<ps.length)(hl:ps.length<=100000)(hs:∀ p∈ps,Sz n (ax b p))(hy:Sz m y)(hn:n+m<=99999)(hp:ps.Pairwise asc):
  ∃ k:Nat,dJ [.tup (ps.map dp),.int (axi b),dq y]=.ok (.v (.int (k:Int)))/\k<ps.length/\(∀ j p,j<k->ps[j]?=some p->ax b p<y)/\(k+1=ps.length∨∃ p,ps[k]?=some p/\y<=ax b p):=by
 unfold dJ;symm
 refine zDN (fun ρ=>∃(u v:Nat)(r:Sl),ρ=[.val (.tup (ps.map dp)),.val (.int (axi b)),.val (dq y),.val (.int (u:Int)),.val (.int (v:Int)),r]/\u<=v/\v<ps.length/\(∀ j p,j<u->ps[j]?=some p->ax b p<y)/\(v+1=ps.length∨∃ p,ps[v]?=some p/\y<=ax b p))
  (fun ρ=>(slI 4 ρ-slI 3 ρ).toNat)
  (fun r=>∃ k:Nat,(r.bind (zKg jJ)).bind fin=.ok (.v (.int (k:Int)))/\k<ps.length/\(∀ j p,j<k->ps[j]?=some p->ax b p<y)/\(k+1=ps.length∨∃ p,ps[k]?=some p/\y<=ax b p))
  ⟨0,ps.length-1,_,by rw[show((ps.length-1:Nat):Int)=(ps.length:Int)-1 by omega];rfl,by omega,by omega,fun j p h=>absurd h (by omega),.inl (by omega)⟩ ?_
 rintro ρ ⟨u,v,r,rfl,h1,h2,h3,h4⟩
 by_cases c:u<v
 ·refine .inr ⟨?_,?_⟩
  ·symm
   rw[decide_eq_true (by omega)]
  ·obtain⟨mid,e,b1,b2⟩:∃ mid:Nat,((u:Int)+(v:Int)) / 2=(mid:Int)/\u<=mid/\mid<v:=⟨(u+v) / 2,by omega,by omega,by omega⟩
   have hm:mid<ps.length:=Nat.lt_trans b2 h2;have hq:ps[mid]?=some ps[mid]:=Qu hm;have hz:=hs _ (Qm hq);generalize ps[mid]=q at hq hz;symm;rw[e,wF (Vx _) (by rw[Vo];exact hq)];symm;rw[zJf];symm;rw[jG hz hy hn];symm;by_cases d:ax b q<y
   ·rw[decide_eq_true d]
    symm;refine⟨_,rfl,⟨mid+1,v,_,rfl,b2,h2,?_,h4⟩,?_⟩
    ·intro j p hj hpj
     have:=jS hp b (Nat.le_of_lt_succ hj) hpj hq
     grind
    ·show((v:Int)-((mid:Int)+1)).toNat<((v:Int)-(u:Int)).toNat
     omega
   ·rw[decide_eq_false d]
    symm;refine⟨_,rfl,⟨u,mid,_,rfl,b1,hm,h3,.inr ⟨q,hq,by grind⟩⟩,?_⟩
    show((mid:Int)-(u:Int)).toNat<((v:Int)-(u:Int)).toNat
    omega
 ·have e:u=v:=by omega
  subst e;refine .inl ⟨?_,u,?_,h2,h3,h4⟩
  ·symm
   rw[decide_eq_false (by omega)]
  ·symm
theorem zPS{ps:List Pt}{n l m:Nat}(b:Bool){y:Rat}(h0:0<ps.length)(hl:ps.length<=100000)(hs:∀ p∈ps,Sz n (ax b p)/\Sz l (ax (!b) p))(hy:Sz m y)(hn:m+3*n+3*l+4<=8999)(hp:ps.Pairwise asc)(hlo:∀ p,ps[0]?=some p->ax b p<=y)(hhi:∀ p,ps.getLast?=some p->y<=ax b p):
  ∃ r:Rat,vR [.tup (ps.map dp),.int (axi b),dq y]=.ok (.v (dq r))/\∃(k:Nat)(q:Pt),ps[k]?=some q/\(∀ j p,j<k->ps[j]?=some p->ax b p<y)/\
   ((ax b q=y/\r=ax (!b) q)∨(0<k/\y<ax b q/\∃ p,ps[k-1]?=some p/\ax b p<y/\r=ax (!b) p+(y-ax b p) / (ax b q-ax b p)*(ax (!b) q-ax (!b) p))):=by
 obtain⟨k,e,hk,h1,h2⟩:=sH b h0 hl (fun p h=>(hs p h).1) hy (by omega) hp
 have hq:ps[k]?=some ps[k]:=Qu hk;have zq:=hs _ (Qm hq);generalize ps[k]=q at hq zq
 have hyq:y<=ax b q:=by
  rcases h2 with h2 | ⟨p,hp,h2⟩
  ·refine hhi q ?_
   rw[QZ,show ps.length-1=k by omega];exact hq
  ·rw[hq] at hp
   cases hp;exact h2
 unfold vR;symm;rw[e];symm;rw[wF (by omega) (by rw[Vo];exact hq)];symm;rw[zJf];symm;by_cases c:ax b q=y
 ·rw[decide_eq_true c]
  symm;rw[zEz];symm;exact⟨_,rfl,k,q,hq,h1,.inl ⟨c,rfl⟩⟩
 ·have c2:y<ax b q:=by grind
  have k0:0<k:=by
   rcases X8 k with z | z
   ·subst z
    have:=hlo q hq
    grind
   ·exact z
  have hp1:ps[k-1]?=some ps[k-1]:=Qu _;have zp:=hs _ (Qm hp1);generalize ps[k-1]=p at hp1 zp;have lp:=h1 _ p (show k-1<k by omega) hp1
  have nz:ax b q-ax b p≠0:=by grind
  rw[decide_eq_false c];symm;rw[wF (by omega) (by rw[show((k:Int)-1).toNat=k-1 by omega];exact hp1)];symm;rw[zJf];symm;rw[eI hy (zp.1) (by omega)];symm;rw[zJf];symm;rw[zJf];symm;rw[eI (zq.1) (zp.1) (by omega)];symm;have z1:=hy.sub (zp.1);have z2:=(zq.1).sub (zp.1);have z3:=z1.div z2 nz;have z4:=(zq.2).sub (zp.2);rw[zId z1 z2 nz (by omega)];symm;rw[zEz];symm;rw[zEz];symm;rw[zEz];symm;rw[eI (zq.2) (zp.2) (by omega)];symm;rw[lZ z3 z4 (by omega)];symm;rw[zBu (zp.2) (z3.mul z4) (by omega)];symm;exact⟨_,rfl,k,q,hq,h1,.inr ⟨k0,c2,p,hp1,lp,rfl⟩⟩
theorem zIY{ps:List Pt}{a b m:Nat}{x:Rat}{e:Pt}(hl:ps.length<=100000)(hs:∀ p∈ps,SzQ a b p)(hx:Sz m x)(hn:m+3*a+3*b+4<=8999)(hk:Ok ps)(he:ps.getLast?=some e)(h0:0<=x)(h1:x<=e.1):
  qO [.tup (ps.map dp),dq x]=.ok (.v (dq (aV ps x))):=by
 obtain⟨hh,hp⟩:=hk
 have hpos:0<ps.length:=by cases ps with
  | nil=>cases hh
  | cons a r=>exact VT _
 have ze:SzQ a b e:=hs e (YF he)
 obtain⟨r,e1,k,q,hq,hj,h⟩:=zPS false hpos hl (n:=a) (l:=b) hs hx hn hp (fun p hp=>by
  rw[<-VE,hh] at hp;cases hp;exact h0) (fun p hp=>by rw[he] at hp;cases hp;exact h1)
 have er:r=aV ps x:=by
  rcases h with⟨c,rfl⟩ | ⟨k0,c,p,hp1,lp,rfl⟩
  ·have:q.1=x:=c
   rw[<-this];exact(bN hp hq).symm
  ·exact(cI hp hp1 (by rw[show k-1+1=k by omega];exact hq) (Qg lp) (Qg c)).symm
 subst er;unfold qO;symm;rw[zEh he];symm;rw[zFk hx ze.1 (by omega) h0 h1];symm;rw[show(0:Int)=axi false from rfl,e1];symm
theorem zEJ{ps:List Pt}(hl:ps.length<=100000):nR [.tup (ps.map dp)]=.ok (.f ((ps.map Prod.fst).map dq)):=by
 unfold nR;symm;rw[zCf (h:=fun d=>match d with | .tup [x,_]=>x | _=>.non) (by rw[Qd];omega) ?_]
 ·symm
  rw[Qw,Qw];rfl
 ·intro d hd
  obtain⟨p,_,rfl⟩:=Qj.mp hd;symm;rfl
structure Mg (A B:List Rat) (i s:Nat) (C:List Rat):Prop where
 asc:C.Pairwise (· < ·)
 mem:∀ y,y∈C ↔ y∈A.take i∨y∈B.take s
 below:∀(j:Nat)(b:Rat),s<=j->B[j]?=some b->∀ c∈C,c<b
 under:∀(j:Nat)(a:Rat),i<=j->A[j]?=some a->∀ c∈C,c<a
 le:s<=B.length
 len:C.length<=i+s
theorem zDU{C:List Rat}{x:Rat}(h:C.Pairwise (· < ·))(hx:∀ c∈C,c<x):(C++[x]).Pairwise (· < ·):=by
 refine Yp.mpr ⟨h,XJ _ _,fun a ha b hb=>?_⟩
 rcases Qe.mp hb with rfl | hb
 ·exact hx a ha
 ·cases hb
theorem zCh{A:List Rat}(h:A.Pairwise (· < ·)){i j:Nat}{a b:Rat}(l:i<j)(ha:A[i]?=some a)(hb:A[j]?=some b):a<b:=by
 obtain⟨hi,rfl⟩:=Qz.mp ha;obtain⟨hj,rfl⟩:=Qz.mp hb;exact Xr.mp h i j hi hj l
theorem fO{A:List Rat}{i:Nat}{a y:Rat}(h:A[i]?=some a):y∈A.take (i+1) ↔ y∈A.take i∨y=a:=by
 rw[kD h,QF,Qp]
theorem zKi{A B:List Rat}{m:Nat}(ha:A.Pairwise (· < ·))(hb:B.Pairwise (· < ·))(la:A.length<=100000)(lb:B.length<=100000)(za:∀ x∈A,Sz m x)(zb:∀ x∈B,Sz m x)(hm:m<=40000):
  ∃ C:List Rat,pF [.lst (A.map dq),.lst (B.map dq)]=.ok (.f (C.map dq))/\C.Pairwise (· < ·)/\(∀ y,y∈C ↔ y∈A∨y∈B)/\C.length<=A.length+B.length:=by
 have ix:∀(k:Nat)(a:Rat),B[k]?=some a->oIx (.lst (B.map dq)) (.int (k:Int))=.ok (dq a):=by
  intro k a h;exact yC (by omega) (by simpa using h)
 unfold pF;symm
 refine kJ (Q:=fun r=>∃ C:List Rat,r.bind fin=.ok (.f (C.map dq))/\C.Pairwise (· < ·)/\(∀ y,y∈C ↔ y∈A∨y∈B)/\C.length<=A.length+B.length)
  (fun i ρ=>∃(s:Nat)(C:List Rat)(a:Sl),ρ=[.val (.lst (A.map dq)),.val (.lst (B.map dq)),.own (C.map dq),.val (.int (s:Int)),a]/\Mg A B i s C)
  ⟨0,[],_,rfl,⟨List.Pairwise.nil,by simp,by simp,by simp,by omega,by simp⟩⟩ ?_ ?_
 ·rintro i d ρ hd ⟨s,C,a,rfl,g⟩
  rw[Qr] at hd
  cases hq:A[i]? with
  | none=>rw[hq] at hd;cases hd
  | some x=>
   rw[hq] at hd;cases hd;have hi:i<A.length:=(Qz.mp hq).1;have zx:=za x (Qm hq);symm
   refine zDN (fun ρ=>∃(s:Nat)(C:List Rat),ρ=[.val (.lst (A.map dq)),.val (.lst (B.map dq)),.own (C.map dq),.val (.int (s:Int)),.val (dq x)]/\Mg A B i s C)
    (fun ρ=>B.length-(slI 3 ρ).toNat)
    (fun r=>∃ ρ2,r.bind (zKg rS)=.ok (.nx ρ2)/\∃(s:Nat)(C:List Rat)(a:Sl),ρ2=[.val (.lst (A.map dq)),.val (.lst (B.map dq)),.own (C.map dq),.val (.int (s:Int)),a]/\Mg A B (i+1) s C) ⟨s,C,rfl,g⟩ ?_
   rintro ρ ⟨s,C,rfl,g⟩
   have fin1:(s<B.length->∃ b,B[s]?=some b/\¬ b<x)->∃ ρ2,rS [.val (.lst (A.map dq)),.val (.lst (B.map dq)),.own (C.map dq),.val (.int (s:Int)),.val (dq x)]=.ok (.nx ρ2)/\∃(s:Nat)(C:List Rat)(a:Sl),ρ2=[.val (.lst (A.map dq)),.val (.lst (B.map dq)),.own (C.map dq),.val (.int (s:Int)),a]/\Mg A B (i+1) s C:=by
    intro hs
    have base:∀ s':Nat,s'<=B.length->s'<=s+1->(∀ y,(y∈A.take i∨y∈B.take s)∨y=x ↔ y∈A.take (i+1)∨y∈B.take s')->(∀(j:Nat)(b:Rat),s'<=j->B[j]?=some b->x<b/\s<=j)->C.length+1<=i+1+s'->Mg A B (i+1) s' (C++[x]):=by
     intro s' h1 h1' h2 h3 h4;have cx:∀ c∈C,c<x:=g.under i x (Qf _) hq;refine⟨zDU g.asc cx,fun y=>?_,fun j b hj hb' c hc=>?_,fun j a hj ha' c hc=>?_,h1,by rw[Qi];exact h4⟩
     ·rw[QF,Qp,g.mem y]
      exact h2 y
     ·have h5:=h3 j b hj hb'
      rcases QF.mp hc with hc | hc
      ·exact g.below j b h5.2 hb' c hc
      ·rw[Qp.mp hc]
       exact h5.1
     ·have h5:=zCh ha (show i<j by omega) hq ha'
      rcases QF.mp hc with hc | hc
      ·have:=cx c hc
       grind
      ·rw[Qp.mp hc]
       exact h5
    have len:=g.len;have le:=g.le;symm;by_cases c1:s<B.length
    ·obtain⟨b,hb1,hb2⟩:=hs c1
     rw[decide_eq_true (by omega)];symm;rw[ix s b hb1];symm;by_cases c2:b=x
     ·rw[decide_eq_true c2]
      symm;rw[if_pos (by omega)];refine⟨_,rfl,s+1,C++[x],_,by rw[QC];rfl,base (s+1) (by omega) (by omega) (fun y=>?_) (fun j b' hj hb'=>?_) (by omega)⟩
      ·rw[fO hq,fO hb1,c2]
       constructor
       ·rintro ((h | h) | h)
        ·exact .inl (.inl h)
        ·exact .inr (.inl h)
        ·exact .inl (.inr h)
       ·rintro ((h | h) | (h | h))
        ·exact .inl (.inl h)
        ·exact .inr h
        ·exact .inl (.inr h)
        ·exact .inr h
      ·have:=zCh hb (show s<j by omega) hb1 hb'
       rw[c2] at this;exact⟨this,by omega⟩
     ·rw[decide_eq_false c2]
      symm;rw[if_pos (by omega)];refine⟨_,rfl,s,C++[x],_,by rw[QC];rfl,base s le (by omega) (fun y=>?_) (fun j b' hj hb'=>?_) (by omega)⟩
      ·rw[fO hq]
       grind
      ·rcases V4 hj with l | l
       ·have:=zCh hb l hb1 hb'
        exact⟨by grind,hj⟩
       ·subst l
        rw[hb1] at hb';cases hb'
        exact⟨by grind,hj⟩
    ·rw[decide_eq_false (by omega)]
     symm;rw[if_pos (by omega)];refine⟨_,rfl,s,C++[x],_,by rw[QC];rfl,base s le (by omega) (fun y=>?_) (fun j b' hj hb'=>?_) (by omega)⟩
     ·rw[fO hq]
      grind
     ·have:=(Qz.mp hb').1
      omega
   by_cases c1:s<B.length
   ·have hb1:B[s]?=some B[s]:=Qu c1
    have zb1:=zb _ (Qm hb1);generalize B[s]=b at hb1 zb1;by_cases c2:b<x
    ·refine .inr ⟨?_,?_⟩
     ·symm
      rw[decide_eq_true (by omega)];symm;rw[ix s b hb1];symm;rw[jG zb1 zx (by omega),decide_eq_true c2];symm
     ·have len:=g.len
      symm;rw[ix s b hb1];symm;rw[if_pos (by omega)];symm;refine⟨_,rfl,⟨s+1,C++[b],by rw[QC];rfl,⟨zDU g.asc (g.below s b (Qf _) hb1),fun y=>?_,fun j b' hj hb' c hc=>?_,fun j a' hj ha' c hc=>?_,c1,by rw[Qi,XT];omega⟩⟩,?_⟩
      ·rw[QF,Qp,g.mem y,fO hb1]
       grind
      ·have:=zCh hb (show s<j by omega) hb1 hb'
       rcases QF.mp hc with hc | hc
       ·exact g.below j b' (by omega) hb' c hc
       ·rw[Qp.mp hc]
        exact this
      ·rcases QF.mp hc with hc | hc
       ·exact g.under j a' hj ha' c hc
       ·rw[Qp.mp hc]
        rcases V4 hj with l | l
        ·have:=zCh ha l hq ha'
         grind
        ·subst l
         rw[hq] at ha';cases ha'
         exact c2
      ·show B.length-(s+1)<B.length-s
       exact Nat.sub_lt_sub_left c1 (Va s)
    ·refine .inl ⟨?_,?_⟩
     ·symm
      rw[decide_eq_true (by omega)];symm;rw[ix s b hb1];symm;rw[jG zb1 zx (by omega),decide_eq_false c2];symm
     ·exact fin1 fun _=>⟨b,hb1,c2⟩
   ·refine .inl ⟨?_,?_⟩
    ·symm
     rw[decide_eq_false (by omega)];symm
    ·exact fin1 fun h=>absurd h c1
 ·rintro ρ' ⟨s,C,a,rfl,g⟩
  have len:=g.len;have le:=g.le;rw[Qd] at g len;symm;rw[nN (by omega),<-Xd,if_pos (by rw[Qd,V3];omega)];symm;refine⟨C++B.drop s,by rw[QC,Vo],?_,fun y=>?_,by rw[Qi,V3];omega⟩
  ·refine Yp.mpr ⟨g.asc,hb.sublist (List.drop_sublist _ _),fun c hc b hb'=>?_⟩
   obtain⟨j,hj⟩:=V5.mp hb';rw[Ys] at hj;exact g.below (s+j) b (by omega) hj c hc
  ·rw[QF,g.mem y,Q9]
   constructor
   ·rintro ((h | h) | h)
    ·exact .inl h
    ·exact .inr (VI h)
    ·exact .inr (Yt h)
   ·rintro (h | h)
    ·exact .inl (.inl h)
    ·rw[<-VW s B,QF] at h
     rcases h with h | h
     ·exact .inl (.inr h)
     ·exact .inr h
theorem zKl{ps:List Pt}{a b m:Nat}{y:Rat}{e:Pt}(hl:ps.length<=100000)(hs:∀ p∈ps,SzQ a b p)(hy:Sz m y)(hn:m+3*a+3*b+4<=8999)(hk:Ok ps)(he:ps.getLast?=some e)(h0:0<=y)(h1:y<=e.2):
  ∃ r:Rat,vR [.tup (ps.map dp),.int 1,dq y]=.ok (.v (dq r))/\zER ps y r:=by
 have hpos:0<ps.length:=by cases ps with
  | nil=>cases he
  | cons a r=>exact VT _
 obtain⟨r,e1,k,q,hq,hj,h⟩:=zPS true hpos hl (n:=b) (l:=a) (fun p hp=>⟨(hs p hp).2,(hs p hp).1⟩) hy (by omega) hk.2 (fun p hp=>by rw[<-VE,hk.1] at hp;cases hp;exact h0) (fun p hp=>by rw[he] at hp;cases hp;exact h1)
 exact⟨r,e1,k,q,hq,hj,h⟩
theorem zJz{ps qs:List Pt}{e f:Pt}(a b c d n m z:Nat)(hp:Ok ps)(hq:Ok qs)(he:ps.getLast?=some e)(hf:qs.getLast?=some f)(hL:e.1=f.2)(lp:ps.length<=40000)(lq:qs.length<=40000)
  (zp:∀ p∈ps,SzQ a b p) (zq:∀ p∈qs,SzQ c d p) (n1:a+3*c+3*d+4<=8999) (cm:c<=m) (n2:m+3*c+3*d+4<=8999) (n3:n+3*a+3*b+4<=8999) (n4:2*m+2*z+2<=8999)
  (hb:∀ p∈ps,∀ r,zER qs p.1 r->Sz m r) (hv:∀ y,(∃ q∈qs,y=q.2)∨(∃ p∈ps,y=p.1)->Sz n y/\Sz z (aV ps y)):
  ∃ R:List Pt,gI [.tup (ps.map dp),.tup (qs.map dp)]=.ok (.v (.tup (R.map dp)))/\zOs R/\R.getLast?=some (f.1,e.2)/\R.length<=ps.length+qs.length/\(∀ x,0<=x->x<=f.1->aV R x=aV ps (aV qs x))/\(∀ r∈R,SzQ m z r/\((∃ q∈qs,r.1=q.1)∨∃ p∈ps,zER qs p.1 r.1)):=by
 have bp:∀ p∈ps,0<=p.1/\p.1<=f.2:=fun p h=>by have:=fP hp he h;exact⟨this.1,by rw[<-hL];exact this.2.1⟩
 have up:∀ p∈ps,∃ r,vR [.tup (qs.map dp),.int 1,dq p.1]=.ok (.v (dq r))/\zER qs p.1 r:=fun p h=>zKl (by omega) zq (zp p h).1 n1 hq hf (bp p h).1 (bp p h).2
 obtain⟨bf,hbf⟩:∃ bf:Pt->Rat,∀ p∈ps,vR [.tup (qs.map dp),.int 1,dq p.1]=.ok (.v (dq (bf p)))/\zER qs p.1 (bf p):=
  ⟨fun p=>if h:p∈ps then Classical.choose (up p h) else 0,fun p h=>by simp only[dif_pos h];exact XH (up p h)⟩
 have hval:∀ p∈ps,aV qs (bf p)=p.1/\0<=bf p/\bf p<=f.1:=fun p h=>(hbf p h).2.val hq hf
 have hasc:(ps.map bf).Pairwise (· < ·):=by
  refine VF.mpr (V6 ?_ hp.2)
  intro a b ha hb' hab;have h1:=hval a ha;have h2:=hval b hb';rcases (Vq:bf b<=bf a∨bf a<=bf b) with l | l
  ·have:=gJ hq hf h2.2.1 l h1.2.2
   have:=hab.1
   grind
  ·have:bf a≠bf b:=by
    intro z;have:=hab.1
    rw[<-h1.1,<-h2.1,z] at this;grind
   grind
 have zb:∀ x∈ps.map bf,Sz m x:=fun x hx=>by
  obtain⟨p,h,rfl⟩:=Qj.mp hx;exact hb p h _ (hbf p h).2
 have zx:∀ x∈qs.map Prod.fst,Sz m x:=fun x hx=>by
  obtain⟨p,h,rfl⟩:=Qj.mp hx;exact(zq p h).1.mono cm
 obtain⟨C,h1,h2,h3,h4⟩:=zKi (zMd hq.2) hasc (by rw[Qd];omega) (by rw[Qd];omega) zx zb (by omega)
 rw[Qd,Qd] at h4;have zC:∀ t∈C,Sz m t:=fun t ht=>((h3 t).mp ht).elim (zx t) (zb t)
 have from':∀ t∈C,(∃ q∈qs,t=q.1)∨∃ p∈ps,t=bf p:=by
  intro t ht;rcases (h3 t).mp ht with h | h
  ·obtain⟨q,h5,rfl⟩:=Qj.mp h
   exact .inl ⟨q,h5,rfl⟩
  ·obtain⟨q,h5,rfl⟩:=Qj.mp h
   exact .inr ⟨q,h5,rfl⟩
 have J:Joints ps qs f C:=by
  refine⟨h2,fun q h=>(h3 _).mpr (.inl (Qj.mpr ⟨q,h,rfl⟩)),fun p h=>⟨bf p,(h3 _).mpr (.inr (Qj.mpr ⟨p,h,rfl⟩)),(hval p h).1⟩,fun t ht=>?_⟩
  rcases from' t ht with⟨q,h,rfl⟩ | ⟨p,h,rfl⟩
  ·have:=fP hq hf h
   exact⟨this.1,this.2.1⟩
  ·exact(hval p h).2
 have v2:∀ t∈C,(∃ q∈qs,aV qs t=q.2)∨∃ p∈ps,aV qs t=p.1:=by
  intro t ht;rcases from' t ht with⟨q,h,rfl⟩ | ⟨p,h,rfl⟩
  ·obtain⟨i,hi⟩:=V5.mp h
   exact .inl ⟨q,h,bN hq.2 hi⟩
  ·exact .inr ⟨p,h,(hval p h).1⟩
 have sz:∀ t∈C,Sz n (aV qs t)/\Sz z (aV ps (aV qs t)):=fun t ht=>hv _ (v2 t ht)
 obtain⟨ok,la⟩:=zEt hp hq he hf hL J;refine⟨lD (rH ps qs C),?_,kH ok,by rw[uN ok.2];exact la,Qv (nL ok.2).length_le (by unfold rH;rw[Qd];omega),fun x h0 h1=>by rw[yJ ok.2,zHT hp hq he hf hL J h0 h1],fun r hr=>?_⟩
 rotate_left
 ·obtain⟨t,ht,rfl⟩:=Qj.mp ((nL ok.2).subset hr)
  exact⟨⟨zC t ht,(sz t ht).2⟩,(from' t ht).imp id fun ⟨p,h,e⟩=>⟨p,h,e ▸ (hbf p h).2⟩⟩
 unfold gI;symm;rw[zEh he];symm;rw[zKz hf];symm;rw[hL];symm;rw[zEJ (by omega)];symm
 rw[Qw,eR (u:=dq ∘ Prod.fst) (g:=fun p=>dq (bf p)) (by omega) (fun p h=>by
  show aN vR _ [_,_,_,_,.val (dq p.1)]=_
  symm;rw[(hbf p h).1]
  symm)]
 symm;rw[zEJ (by omega)];symm;rw[show(ps.map fun p=>dq (bf p))=(ps.map bf).map dq by rw[Qw];rfl,h1];symm
 rw[eR (u:=dq) (g:=fun t=>dp (t,aV ps (aV qs t))) (by omega) (fun t ht=>by
  have b2:=vO hq hf (J.bd t ht).1 (J.bd t ht).2;symm;rw[zIY (by omega) zq (zC t ht) n2 hq hf (J.bd t ht).1 (J.bd t ht).2];symm;rw[zIY (by omega) zp (sz t ht).1 n3 hp he b2.1 (by rw[hL];exact b2.2)]
  symm)]
 symm;rw[show(C.map fun t=>dp (t,aV ps (aV qs t)))=(rH ps qs C).map dp by unfold rH;rw[Qw];rfl];rw[pK (n:=m) (m:=z) (.inl rfl) (by unfold rH;rw[Qd];omega) ?_ n4 ok]
 ·symm
 ·intro p hp1
  obtain⟨t,ht,rfl⟩:=Qj.mp hp1;exact⟨zC t ht,(sz t ht).2⟩
def wys:List Str:=["row","back","even","lack","part","half"]
def wOK(w:Str)(ws:List Int)(m:Nat):Prop:=(w = "even" ∨ w = "lack")/\ws.length=m/\(∀ x∈ws,1<=x/\x<=10^6)∨¬ (w = "even" ∨ w = "lack")/\ws=[]
def IsC:Nat->D->Prop
 | 0,_=>False
 | n+1,d=>(∃ c:Int,d=.tup [.str "boat", .int c])∨∃(w:Str)(ws:List Int)(ks:List D),d=.tup [.str w,.tup (ws.map D.int),.tup ks]/\(w == "boat")=false/\0<ks.length/\ks.length<=100/\ws.length<=100/\(w∈wys/\wOK w ws ks.length)/\∀ k∈ks,IsC n k
def clm:Nat->D->List Int
 | 0,_=>[]
 | n+1,d=>match d with
  | .tup [_,.int c]=>[c]
  | .tup [_,_,.tup ks]=>ks.flatMap (clm n)
  | _=>[]
def dpt:Nat->D->Int
 | 0,_=>0
 | n+1,d=>match d with
  | .tup [_,_,.tup ks]=>1+mx0 (ks.map (dpt n))
  | _=>1
theorem kB{c:Int}:bP [.tup [.str "boat", .int c]]=.ok (.v (.bl true)):=by
 unfold bP;symm
theorem kC{w:Str}{a b:D}(h:(w == "boat")=false):bP [.tup [.str w,a,b]]=.ok (.v (.bl false)):=by
 unfold bP;symm;rw[h]
theorem zFO{c:Int}:bI [.tup [.str "boat", .int c]]=.ok (.v (.tup [])):=by
 unfold bI;symm;rw[kB];symm
theorem gF{w:Str}{a b:D}(h:(w == "boat")=false):bI [.tup [.str w,a,b]]=.ok (.v b):=by
 unfold bI;symm;rw[kC h];symm
theorem zKW{ks:List D}{n i:Nat}:((ks.take i).flatMap (clm n)).length<=(ks.flatMap (clm n)).length:=by
 conv=>rhs;rw[<-VW i ks,QS,Qi]
 exact Nat.le_add_right _ _
theorem wW{ks:List D}{n:Nat}{k:D}(h:k∈ks):(clm n k).length<=(ks.flatMap (clm n)).length:=by
 obtain⟨a,b,rfl⟩:=List.append_of_mem h;rw[QS,QT,Qi,Qi];omega
theorem oH:∀(n:Nat)(d:D),IsC n d->(clm n d).length<=1000->dW n [d]=.ok (.f ((clm n d).map D.int))
 | 0,d,h,_=>h.elim
 | n+1,d,h,hl=>by
  show kT (dW n) [d]=_
  unfold kT;symm;rcases h with⟨c,rfl⟩ | ⟨w,ws,ks,rfl,hw,k0,k1,w1,hy,hk⟩
  ·rw[kB]
   symm;rfl
  ·rw[kC hw]
   symm;rw[gF hw];symm;refine kJ (Q:=fun r=>r.bind fin=.ok (.f ((ks.flatMap (clm n)).map D.int))) (fun i ρ=>∃ a,ρ=[.val (.tup [.str w,.tup (ws.map D.int),.tup ks]),.own (((ks.take i).flatMap (clm n)).map D.int),a]) ⟨_,rfl⟩ ?_ ?_
   ·rintro i e ρ he ⟨a,rfl⟩
    have hm:=Qm he;have hl':(ks.flatMap (clm n)).length<=1000:=hl;have l1:=wW (n:=n) hm;have l2:=zKW (ks:=ks) (n:=n) (i:=i);symm;rw[oH n e (hk e hm) (by omega)];symm;rw[if_pos (by omega)];refine⟨_,rfl,.val e,?_⟩
    rw[kD he,QS,QC];simp[List.flatMap]
   ·rintro ρ' ⟨a,rfl⟩
    symm;rw[Q9]
theorem qJ:∀(n:Nat)(d:D),IsC n d->eP n [d]=.ok (.v (.int (dpt n d)))
 | 0,d,h=>h.elim
 | n+1,d,h=>by
  show oY (eP n) [d]=_
  unfold oY;symm;rcases h with⟨c,rfl⟩ | ⟨w,ws,ks,rfl,hw,k0,k1,w1,hy,hk⟩
  ·rw[zFO]
   symm;rfl
  ·rw[gF hw]
   symm
   have e:=eR (u:=fun k=>k) (g:=fun k=>.int (dpt n k)) (l:=ks) (f:=aN (eP n) (aD (aI 1) aNil)) (ρ:=[.val (.tup [.str w,.tup (ws.map D.int),.tup ks])]) (by omega) (fun k hm=>by
    symm;rw[qJ n k (hk k hm)]
    symm)
   rw[Yu] at e;rw[e];symm;rw[zIT];symm;rfl
def dOK:Nat->D->Prop
 | 0,_=>False
 | n+1,d=>(∃ i,d=.int i)∨(∃ x,d=.str x)∨∃ ds,d=.tup ds/\ds.length<=1000/\∀ e∈ds,dOK n e
theorem zDR:∀ {n m:Nat} {d:D},dOK n d->n<=m->dOK m d
 | 0,_,_,h,_=>h.elim
 | n+1,0,_,_,l=>absurd l (by omega)
 | n+1,m+1,d,h,l=>by
  rcases h with h | h | ⟨ds,rfl,hl,he⟩
  ·exact .inl h
  ·exact .inr (.inl h)
  ·exact .inr (.inr ⟨ds,rfl,hl,fun e h=>zDR (he e h) (by omega)⟩)
theorem zBI:∀(n:Nat)(d:D),IsC n d->dOK (2*n+1) d
 | 0,d,h=>h.elim
 | n+1,d,h=>by
  rcases h with⟨c,rfl⟩ | ⟨w,ws,ks,rfl,hw,k0,k1,w1,hy,hk⟩
  ·refine .inr (.inr ⟨_,rfl,by simp,fun e he=>?_⟩)
   rcases Qe.mp he with rfl | he
   ·exact .inr (.inl ⟨_,rfl⟩)
   ·rw[Qp.mp he];exact .inl ⟨_,rfl⟩
  ·refine .inr (.inr ⟨_,rfl,by simp,fun e he=>?_⟩)
   rcases Qe.mp he with rfl | he
   ·exact .inr (.inl ⟨_,rfl⟩)
   ·rcases Qe.mp he with rfl | he
    ·refine .inr (.inr ⟨_,rfl,by rw[Qd];omega,fun x hx=>?_⟩)
     obtain⟨i,_,rfl⟩:=Qj.mp hx;exact .inl ⟨_,rfl⟩
    ·rw[Qp.mp he]
     exact .inr (.inr ⟨_,rfl,by omega,fun x hx=>zBI n x (hk x hx)⟩)
theorem zDM:∀(n:Nat)(d:D),dOK n d->noL d=true
 | 0,d,h=>h.elim
 | n+1,d,h=>by
  rcases h with⟨i,rfl⟩ | ⟨x,rfl⟩ | ⟨ds,rfl,hl,he⟩
  ·simp[noL]
  ·simp[noL]
  ·rw[noL]
   clear hl
   induction ds with
   | nil=>rfl
   | cons a r ih=>rw[noLs,zDM n a (he a Qb),ih fun e h=>he e (Qc _ h)];rfl
theorem eS:∀ {n m:Nat} {d:D},IsC n d->n<=m->IsC m d
 | 0,_,_,h,_=>h.elim
 | n+1,0,_,_,l=>absurd l (by omega)
 | n+1,m+1,d,h,l=>by
  rcases h with h | ⟨w,ws,ks,rfl,hw,k0,k1,w1,hy,hk⟩
  ·exact .inl h
  ·exact .inr ⟨w,ws,ks,rfl,hw,k0,k1,w1,hy,fun k h=>eS (hk k h) (by omega)⟩
theorem dZ:∀ {n m:Nat} {d:D},IsC n d->n<=m->clm m d=clm n d
 | 0,_,_,h,_=>h.elim
 | n+1,0,_,_,l=>absurd l (by omega)
 | n+1,m+1,d,h,l=>by
  rcases h with⟨c,rfl⟩ | ⟨w,ws,ks,rfl,hw,k0,k1,w1,hy,hk⟩
  ·rfl
  ·show ks.flatMap (clm m)=ks.flatMap (clm n)
   rw[Ve,Ve];congr 1
   exact QG fun k h=>dZ (hk k h) (by omega)
theorem nO:∀ {n m:Nat} {d:D},IsC n d->n<=m->dpt m d=dpt n d
 | 0,_,_,h,_=>h.elim
 | n+1,0,_,_,l=>absurd l (by omega)
 | n+1,m+1,d,h,l=>by
  rcases h with⟨c,rfl⟩ | ⟨w,ws,ks,rfl,hw,k0,k1,w1,hy,hk⟩
  ·rfl
  ·show 1+mx0 (ks.map (dpt m))=1+mx0 (ks.map (dpt n))
   rw[QG fun k h=>nO (hk k h) (by omega)]
theorem zLo:∀ {l:List Int} {b:Int},0<=b->(∀ x∈l,x<=b)->mx0 l<=b
 | [],b,h,_=>h
 | a::r,b,_,h=>by
  have key:∀(r:List Int)(a:Int),a<=b->(∀ x∈r,x<=b)->uC a r<=b:=by
   intro r
   induction r with
   | nil=>intro a ha _;exact ha
   | cons c r ih=>
    intro a ha hr;rw[uC];refine ih _ ?_ fun x hx=>hr x (Qc _ hx)
    split
    ·exact hr c Qb
    ·exact ha
  exact key r a (h a Qb) fun x hx=>h x (Qc _ hx)
theorem yH:∀ {l:List Int} {x:Int},x∈l->x<=mx0 l
 | [],_,h=>by cases h
 | a::r,x,h=>by
  have key:∀(r:List Int)(a:Int),a<=uC a r/\∀ x∈r,x<=uC a r:=by
   intro r
   induction r with
   | nil=>intro a;exact⟨Vb _,fun x h=>by cases h⟩
   | cons c r ih=>
    intro a;rw[uC];have h1:=ih (if c > a then c else a);refine⟨Q6 ?_ h1.1,fun x hx=>?_⟩
    ·split<;>omega
    ·rcases Qe.mp hx with rfl | hx
     ·refine Q6 ?_ h1.1;split<;>omega
     ·exact h1.2 x hx
  rcases Qe.mp h with rfl | h
  ·exact(key r x).1
  ·exact(key r a).2 x h
theorem zFb:∀ {n:Nat} {d:D},IsC n d->1<=dpt n d/\dpt n d<=n
 | 0,_,h=>h.elim
 | n+1,d,h=>by
  rcases h with⟨c,rfl⟩ | ⟨w,ws,ks,rfl,hw,k0,k1,w1,hy,hk⟩
  ·exact⟨by show(1:Int)<=1;omega,by show(1:Int)<=_;omega⟩
  ·have h1:mx0 (ks.map (dpt n))<=n:=zLo (by omega) fun x hx=>by
    obtain⟨k,hk',rfl⟩:=Qj.mp hx;exact(zFb (hk k hk')).2
   have h2:0<=mx0 (ks.map (dpt n)):=by
    cases ks with
    | nil=>cases k0
    | cons k r=>exact Q6 (by have:=(zFb (hk k Qb)).1;omega) (yH (x:=dpt n k) (by simp))
   exact⟨by show 1<=1+mx0 (ks.map (dpt n));omega,by show 1+mx0 (ks.map (dpt n))<=((n+1:Nat):Int);omega⟩
theorem zD{w:Str}(h:w∈wys):(aU.lookup w).isSome=true/\(w == "boat")=false:=by
 simp only[wys,Qe,V8,or_false] at h;rcases h with rfl | rfl | rfl | rfl | rfl | rfl<;>decide
theorem zCk{w:Str}(h:w∈wys):bX [.str w]=.ok (.v .non):=by
 unfold bX;symm;rw[(zD h).1];symm
theorem zRE{w:Str}:oIn (.str w) (.tup [.str "even", .str "lack"])=.ok (.bl (decide (w = "even" ∨ w = "lack"))):=by
 show(if depS [D.str "even", D.str "lack"]<=50 then Res.ok (D.bl (((Str.ofString "even")==w) || (((Str.ofString "lack")==w) || false))) else .no)=_
 rw[if_pos (by decide),Yi];congr 2
 by_cases h1:w = "even"
 ·subst h1;decide
 ·by_cases h2:w = "lack"
  ·subst h2;decide
  ·rw[decide_eq_false (fun h=>h.elim h1 h2),beq_eq_false_iff_ne.mpr (Ne.symm h1),beq_eq_false_iff_ne.mpr (Ne.symm h2)];rfl
theorem sO{w:Str}{ws:List Int}{m:Nat}{d:D}(hd:d=.lst (ws.map D.int)∨d=.tup (ws.map D.int))(h:wOK w ws m):bA [.str w,d,.int m]=.ok (.v .non):=by
 have sq:zJp d=.ok (ws.map D.int):=by rcases hd with rfl | rfl<;>rfl
 have ln:kU [d]=.ok (.int (ws.length:Int)):=by rcases hd with rfl | rfl<;>simp[bLen_l,bLen_t]
 have fine:∀ x∈ws,1<=x/\x<=10^6:=by
  rcases h with⟨_,_,h⟩ | ⟨_,rfl⟩
  ·exact h
  ·intro x hx;cases hx
 have rest:∀ a:Sl,(fL [.val (.str w),.val d,.val (.int m),a,.un]).bind fin=.ok (.v .non):=by
  intro a;symm;rw[sq];symm;refine zDE (Q:=fun r:Res Rt=>r=.ok (.v .non)) (fun ρ=>∃ b,ρ=[.val (.str w),.val d,.val (.int m),a,b]) ⟨_,rfl⟩ ?_ ?_
  ·rintro e ρ he ⟨b,rfl⟩
   obtain⟨x,hx,rfl⟩:=Qj.mp he;have hf:=fine x hx;symm;rw[decide_eq_false (by omega)];symm;rw[oPow_i (by decide)];symm;rw[decide_eq_false (by omega)];symm;exact⟨_,rfl,_,rfl⟩
  ·rintro ρ' ⟨b,rfl⟩
   rfl
 unfold bA;symm;rw[zRE];unfold jE;generalize (fL:Sv)=K at rest ⊢;rcases h with⟨hw,hl,_⟩ | ⟨hw,rfl⟩
 ·rw[decide_eq_true hw]
  symm;rw[ln];symm;rw[hl];symm;exact rest _
 ·rw[decide_eq_false hw]
  symm;rw[ln];symm;rw[show decide (((0:Nat):Int)=0)=true from rfl];symm;exact rest _
theorem zLc{c:Int}(h0:0<=c)(h1:c<=10^9):yI [.int c]=.ok (.v (.tup [.str "boat", .int c])):=by
 unfold yI;symm;rw[decide_eq_false (by omega)];symm;rw[decide_eq_false (by omega)];symm
theorem zHa{w:Str}{ws:List Int}{ks:List D}{n:Nat}{wd:D}(hd:wd=.lst (ws.map D.int)∨wd=.tup (ws.map D.int))(hw:w∈wys)(hs:wOK w ws ks.length)(l1:ws.length<=100)(k0:0<ks.length)(k1:ks.length<=100)(hn:n<=7)(hk:∀ k∈ks,IsC n k)(hc:(ks.flatMap (clm n)).length<=12):
  pG [.str w,wd,.lst ks]=.ok (.v (.tup [.str w,.tup (ws.map D.int),.tup ks]))/\IsC (n+1) (.tup [.str w,.tup (ws.map D.int),.tup ks]):=by
 have bt:zKu [wd]=.ok (.tup (ws.map D.int)):=by rcases hd with rfl | rfl<;>rfl
 have ic:IsC (n+1) (.tup [.str w,.tup (ws.map D.int),.tup ks]):=.inr ⟨w,ws,ks,rfl,(zD hw).2,k0,k1,l1,⟨hw,hs⟩,hk⟩;have ic':=eS ic (show n+1<=10 by omega)
 have ec:=dZ ic (show n+1<=10 by omega)
 have lc:(clm 10 (.tup [.str w,.tup (ws.map D.int),.tup ks])).length<=12:=by rw[ec];exact hc
 have dd:dpt 10 (.tup [.str w,.tup (ws.map D.int),.tup ks])<=8:=by
  rw[nO ic (show n+1<=10 by omega)];have:=(zFb ic).2
  omega
 refine⟨?_,ic⟩
 unfold pG;symm;rw[zCk hw];symm;rw[sO hd hs];symm;rw[bt];symm;rw[decide_eq_false (by omega)];symm;rw[oH 10 _ ic' (by omega)];symm;rw[decide_eq_false (by omega)];symm;rw[qJ 10 _ ic'];symm;rw[decide_eq_false (by omega)];symm
theorem pX{w:Str}(cell:Int)(m:Nat)(hm:m<=100):∃ ws:List Int,eA [.str w,.int cell,.int m]=.ok (.f (ws.map D.int))/\wOK w ws m/\ws.length<=m:=by
 unfold eA;symm
 have key:(w = "even" ∨ w = "lack")->∃ ws:List Int,((loop (gName 4) mF (rng 0 m 1) [.val (.str w),.val (.int cell),.val (.int m),.own [],.un,.un]).bind (zKg lV)).bind fin=.ok (.f (ws.map D.int))/\wOK w ws m/\ws.length<=m:=by
  intro hw;refine kJ (Q:=fun r=>∃ ws:List Int,r.bind fin=.ok (.f (ws.map D.int))/\wOK w ws m/\ws.length<=m) (fun i ρ=>∃(ws:List Int)(a b:Sl),ρ=[.val (.str w),.val (.int cell),.val (.int m),.own (ws.map D.int),a,b]/\ws.length=i/\∀ x∈ws,1<=x/\x<=10^6) ⟨[],_,_,rfl,rfl,fun x h=>by cases h⟩ ?_ ?_
  ·rintro i e ρ he ⟨ws,a,b,rfl,hl,hf⟩
   obtain⟨hi,rfl⟩:=zKK he;symm;rw[oMul_i (okMul_litr (by omega) (by omega))];symm;generalize cell+7919*(0+(i:Int)*1)*(0+(i:Int)*1)+(0+(i:Int)*1)=z;have b1:0<=z % 2147483647:=QP _ (by decide)
   have b2:z % 2147483647<2147483647:=QR _ (by decide)
   generalize z % 2147483647=y at b1 b2;rw[oMul_i (okMul_litr (by omega) (by omega))];symm;generalize y*y % 1000000007 / 8=v;have p0:(0:Int)<=v % 3/\v % 3<3:=⟨QP _ (by decide),QR _ (by decide)⟩
   have p1:(0:Int)<=v % 4/\v % 4<4:=⟨QP _ (by decide),QR _ (by decide)⟩
   have p2:(0:Int)<=v % 10^6/\v % 10^6<10^6:=⟨QP _ (by decide),QR _ (by decide)⟩
   have p3:(0:Int)<=cell % 3/\cell % 3<3:=⟨QP _ (by decide),QR _ (by decide)⟩
   rw[oPow_i (by decide)];symm
   obtain⟨u,hu,e⟩:∃ u:Int,(1<=u/\u<=10^6)/\oIx (.lst [.int (1+v % 3),.int (2+2*(v % 4)),.int (1+v % 10^6)]) (.int (cell % 3))=.ok (.int u):=by
    generalize cell % 3=k at p3;have hk:k=0∨k=1∨k=2:=by omega
    rcases hk with rfl | rfl | rfl
    ·exact⟨_,by omega,rfl⟩
    ·exact⟨_,by omega,rfl⟩
    ·exact⟨_,by omega,rfl⟩
   rw[e];symm;rw[if_pos (by omega)];refine⟨_,rfl,ws++[u],_,_,by rw[QC];rfl,by rw[Qi,hl];rfl,fun x hx=>?_⟩
   rcases QF.mp hx with hx | hx
   ·exact hf x hx
   ·rw[Qp.mp hx];exact hu
  ·rintro ρ' ⟨ws,a,b,rfl,hl,hf⟩
   have e:(rng 0 m 1).length=m:=by unfold rng;rw[Qd,QE]
   rw[e] at hl;symm;exact⟨ws,rfl,.inl ⟨hw,hl,hf⟩,by omega⟩
 by_cases h1:w = "even"
 ·rw[show(w==Str.ofString "even")=true from beq_iff_eq.mpr h1]
  symm;rw[zDl (by omega) (by omega)];symm;rw[Vo];exact key (.inl h1)
 ·rw[show(w==Str.ofString "even")=false from beq_eq_false_iff_ne.mpr h1]
  symm;by_cases h2:w = "lack"
  ·rw[show(w==Str.ofString "lack")=true from beq_iff_eq.mpr h2]
   symm;rw[zDl (by omega) (by omega)];symm;rw[Vo];exact key (.inr h2)
  ·rw[show(w==Str.ofString "lack")=false from beq_eq_false_iff_ne.mpr h2]
   symm;exact⟨[],rfl,.inr ⟨fun h=>h.elim h1 h2,rfl⟩,by simp⟩
structure Pl (L:List (D×Int)) (boats:Int):Prop where
 each:∀ p∈L,1<=p.2/\p.2<=7/\IsC p.2.toNat p.1
 few:((L.flatMap fun p=>clm 7 p.1).length:Int)<=boats
 most:boats<=12
 rng:∀ c∈(L.flatMap fun p=>clm 7 p.1),0<=c/\c<=10^9
theorem zAc:∀ {l:List D},(∀ d∈l,noL d=true)->noLs l=true
 | [],_=>rfl
 | a::r,h=>by rw[noLs,h a Qb,zAc fun d hd=>h d (Qc _ hd)];rfl
theorem Pl.noL{L:List (D×Int)}{b:Int}(h:Pl L b):∀ d∈L.map Prod.fst,noL d=true:=fun d hd=>by
 obtain⟨p,hp,rfl⟩:=Qj.mp hd;exact zDM _ _ (zBI _ _ (h.each p hp).2.2)
theorem zGT:∀ {n:Nat} {d:D},dOK n d->dep d<=n
 | 0,_,h=>h.elim
 | n+1,d,h=>by
  rcases h with⟨i,rfl⟩ | ⟨x,rfl⟩ | ⟨ds,rfl,hl,he⟩
  ·simp[dep]
  ·simp[dep]
  ·rw[dep]
   clear hl
   have:depS ds<=n:=by
    induction ds with
    | nil=>simp[depS]
    | cons a r ih=>
     rw[depS];exact Xi.mpr ⟨zGT (he a Qb),ih fun e h=>he e (Qc _ h)⟩
   omega
theorem zIa{n:Nat}:∀ {ds:List D},(∀ d∈ds,dOK n d)->depS ds<=n
 | [],_=>by simp[depS]
 | a::r,h=>by rw[depS];exact Xi.mpr ⟨zGT (h a Qb),zIa fun e he=>h e (Qc _ he)⟩
theorem Pl.dOK{L:List (D×Int)}{b:Int}(h:Pl L b):∀ d∈L.map Prod.fst,dOK 15 d:=fun d hd=>by
 obtain⟨p,hp,rfl⟩:=Qj.mp hd;have:=h.each p hp
 exact zDR (zBI _ _ this.2.2) (by omega)
theorem zLn{l:List D}(h:∀ d∈l,dOK 15 d):oEq (.lst l) (.lst [])=.ok (.bl (decide (l.length=0)))/\oNe (.lst l) (.lst [])=.ok (.bl (!decide (l.length=0))):=by
 have hd:dep (.lst l)<=50:=by rw[dep];have:=zIa h;omega
 have e:eqD (.lst l) (.lst [])=decide (l.length=0):=by cases l<;>simp[eqD,zDO]
 unfold oEq oNe;rw[if_pos hd,if_pos hd,e];exact⟨rfl,rfl⟩
abbrev zPe:D:=.lst [.str "row", .str "back", .str "even", .str "lack", .str "part", .str "half"]
def PlS(cs:List Int)(i:Nat)(ρ:Rho):Prop:=∃(L:List (D×Int))(boats:Int)(a5 a6 a7 a8 a9 a10 a11 a12:Sl),ρ=[.val (.lst (cs.map D.int)),.val zPe,.own (L.map Prod.fst),.own ((L.map Prod.snd).map D.int),.val (.int boats),a5,a6,a7,a8,a9,a10,a11,a12]/\Pl L boats/\L.length<=i
theorem zKR(k:Int)(h0:0<=k)(h1:k<6):∃ w∈wys,oIx zPe (.int k)=.ok (.str w):=by
 have hk:k=0∨k=1∨k=2∨k=3∨k=4∨k=5:=by omega
 rcases hk with rfl | rfl | rfl | rfl | rfl | rfl
 all_goals exact⟨_,by simp[wys],rfl⟩
theorem US{cs:List Int}{L:List (D×Int)}{boats cell:Int}{i:Nat}{a6 a7 a8 a9 a10 a11 a12:Sl}(pl:Pl L boats)(hi:L.length<=i)(hi2:i<=1000):
  ∃ ρ2,ifF (aZ (cZ 12 (eOp oIx (eF (lQ (aD (eOp sN (eOp uV (aI 5) (eC (.int 11))) (eC (.int 7))) (aD (eOp sN (eOp uV (aI 5) (eC (.int 77))) (eOp xS (eOp zJu (eC (.int 10)) (eC (.int 9))) (eC (.int 1)))) aNil)))) (eOp sN (eOp uV (aI 5) (eC (.int 77))) (eC (.int 2))))) lU) sNext [.val (.lst (cs.map D.int)),.val zPe,.own (L.map Prod.fst),.own ((L.map Prod.snd).map D.int),.val (.int boats),.val (.int cell),a6,a7,a8,a9,a10,a11,a12] (decide (boats<12))=.ok (.nx ρ2)/\PlS cs (i+1) ρ2:=by
 by_cases c:boats<12
 ·rw[decide_eq_true c]
  symm;rw[oMod_i (by omega),uQ _ (by omega)];symm;have p1:(0:Int)<=cell / 11 % 7/\cell / 11 % 7<7:=⟨QP _ (by decide),QR _ (by decide)⟩
  have p2:(0:Int)<=cell / 77 % (10^9+1)/\cell / 77 % (10^9+1)<10^9+1:=⟨QP _ (by decide),QR _ (by decide)⟩
  have p3:(0:Int)<=cell / 77 % 2/\cell / 77 % 2<2:=⟨QP _ (by decide),QR _ (by decide)⟩
  obtain⟨u,hu,e⟩:∃ u:Int,(0<=u/\u<=10^9)/\oIx (.lst [.int (cell / 11 % 7),.int (cell / 77 % (10^9+1))]) (.int (cell / 77 % 2))=.ok (.int u):=by
   generalize cell / 77 % 2=k at p3;have hk:k=0∨k=1:=by omega
   rcases hk with rfl | rfl
   ·exact⟨_,by omega,rfl⟩
   ·exact⟨_,by omega,rfl⟩
  rw[e];symm;rw[zLc hu.1 hu.2];symm;rw[if_pos (by omega)];symm;rw[if_pos (by omega)];symm;refine⟨_,rfl,L++[(.tup [.str "boat", .int u],1)],boats+1,_,_,_,_,_,_,_,_,by rw[QC,QC,QC];rfl,⟨fun p hp=>?_,?_,by omega,fun c hc=>?_⟩,by rw[Qi];simp;omega⟩
  ·rcases QF.mp hp with hp | hp
   ·exact pl.each p hp
   ·rw[Qp.mp hp];exact⟨(show(1:Int)<=1 by decide),(show(1:Int)<=7 by decide),.inl ⟨u,rfl⟩⟩
  ·have:=pl.few
   rw[QS,Qi];show((_+1:Nat):Int)<=_
   omega
  ·rw[QS] at hc
   rcases QF.mp hc with hc | hc
   ·exact pl.rng c hc
   ·have hc':c∈[u]:=hc
    rw[Qp.mp hc'];exact hu
 ·rw[decide_eq_false c]
  symm;exact⟨_,rfl,L,boats,_,_,_,_,_,_,_,_,rfl,pl,by omega⟩
theorem UQ{cs:List Int}{L:List (D×Int)}{boats cell turn many:Int}{i:Nat}{a8 a9 a10 a11 a12:Sl}(pl:Pl L boats)(hi:L.length<=i)(hi2:i<=63)(m1:1<=many)(m2:many<=4)(m3:many<=L.length)(t1:4<turn)(t2:turn<11)(hx:mx0 ((L.drop (L.length-many.toNat)).map Prod.snd)<7):
  ∃ ρ2,aZ (cZ 8 (eOp oIx (aI 1) (eOp wI (aI 6) (eC (.int 5))))) mW [.val (.lst (cs.map D.int)),.val zPe,.own (L.map Prod.fst),.own ((L.map Prod.snd).map D.int),.val (.int boats),.val (.int cell),.val (.int turn),.val (.int many),a8,a9,a10,a11,a12]=.ok (.nx ρ2)/\PlS cs (i+1) ρ2:=by
 obtain⟨w,hw,ew⟩:=zKR (turn-5) (by omega) (by omega)
 have sub:(((L.length:Int)-many).toNat)=L.length-many.toNat:=by omega
 have lk:(L.drop (L.length-many.toNat)).length=many.toNat:=by rw[V3];omega
 have ec:∀ p∈L.drop (L.length-many.toNat),p∈L:=fun p hp=>Yt hp
 have hn:∀ p∈L.drop (L.length-many.toNat),IsC (mx0 ((L.drop (L.length-many.toNat)).map Prod.snd)).toNat p.1:=fun p hp=>by
  have h1:=pl.each p (ec p hp);have h2:p.2<=mx0 ((L.drop (L.length-many.toNat)).map Prod.snd):=yH (Qj.mpr ⟨p,hp,rfl⟩);exact eS h1.2.2 (by omega)
 have pos:1<=mx0 ((L.drop (L.length-many.toNat)).map Prod.snd):=by
  cases hd:L.drop (L.length-many.toNat) with
  | nil=>rw[hd] at lk;simp at lk;omega
  | cons p r=>
   have h1:=pl.each p (ec p (by rw[hd];exact Qb))
   have h2:p.2<=mx0 ((p::r).map Prod.snd):=yH (by simp)
   omega
 have few:(((L.drop (L.length-many.toNat)).map Prod.fst).flatMap (clm (mx0 ((L.drop (L.length-many.toNat)).map Prod.snd)).toNat)).length<=12:=by
  rw[Xe,Ve,QG fun p hp=>(dZ (hn p hp) (show _<=7 by omega)).symm,<-Ve];have h1:=pl.few;have h2:=pl.most;rw[<-VW (L.length-many.toNat) L,QS,Qi] at h1;omega
 obtain⟨ws,e1,e2,e3⟩:=pX (w:=w) (cell / 44) many.toNat (by omega)
 rw[show((many.toNat:Nat):Int)=many by omega] at e1
 have nl:noLs ((L.drop (L.length-many.toNat)).map Prod.fst)=true:=zAc fun d hd=>by
  obtain⟨p,hp,rfl⟩:=Qj.mp hd;exact pl.noL _ (Qj.mpr ⟨p,ec p hp,rfl⟩)
 obtain⟨k1,k2⟩:=zHa (.inl rfl) (ks:=(L.drop (L.length-many.toNat)).map Prod.fst) hw (by rw[Qd,lk];exact e2) (by omega) (by rw[Qd,lk];omega) (by rw[Qd,lk];omega) (show(mx0 ((L.drop (L.length-many.toNat)).map Prod.snd)).toNat<=7 by omega) (fun k hk=>by obtain⟨p,hp,rfl⟩:=Qj.mp hk;exact hn p hp) few
 symm;rw[ew];symm;rw[nN (by omega),sub,<-Xd,nl];symm;rw[e1];symm;rw[pD (by omega),sub,<-Xf,k1];symm
 have mxe:zBv [.lst (((L.map Prod.snd).map D.int).drop (L.length-many.toNat))]=.ok (.int (mx0 ((L.drop (L.length-many.toNat)).map Prod.snd))):=by
  rw[<-Xd,<-Xd,Qw];exact zBP (p:=Prod.snd) (by rw[lk];omega)
 have nl2:noLs ((L.take (L.length-many.toNat)).map Prod.fst++[.tup [.str w,.tup (ws.map D.int),.tup ((L.drop (L.length-many.toNat)).map Prod.fst)]])=true:=zAc fun d hd=>by
  rcases QF.mp hd with hd | hd
  ·obtain⟨p,hp,rfl⟩:=Qj.mp hd
   exact pl.noL _ (Qj.mpr ⟨p,VI hp,rfl⟩)
  ·rw[Qp.mp hd];exact zDM _ _ (zBI _ _ k2)
 rw[if_pos (by rw[Vt];omega)];symm;rw[nl2];symm;rw[nN (by omega),sub,mxe];symm;rw[pD (by omega),sub];rw[if_pos (by rw[Vt];simp;omega)];symm
 have nl3:noLs (((L.map Prod.snd).map D.int).take (L.length-many.toNat)++[.int (1+mx0 ((L.drop (L.length-many.toNat)).map Prod.snd))])=true:=zAc fun d hd=>by
  rcases QF.mp hd with hd | hd
  ·obtain⟨x,_,rfl⟩:=Qj.mp (VI hd);simp[noL]
  ·rw[Qp.mp hd];simp[noL]
 rw[nl3];symm
 have c7:clm 7 (.tup [.str w,.tup (ws.map D.int),.tup ((L.drop (L.length-many.toNat)).map Prod.fst)])=(L.drop (L.length-many.toNat)).flatMap fun p=>clm 7 p.1:=by
  rw[dZ k2 (by omega)];show((L.drop (L.length-many.toNat)).map Prod.fst).flatMap (clm _)=_
  rw[Xe,Ve,QG fun p hp=>(dZ (hn p hp) (show _<=7 by omega)).symm,<-Ve]
 refine⟨_,rfl,L.take (L.length-many.toNat)++[(.tup [.str w,.tup (ws.map D.int),.tup ((L.drop (L.length-many.toNat)).map Prod.fst)],1+mx0 ((L.drop (L.length-many.toNat)).map Prod.snd))],boats,_,_,_,_,_,_,_,_,by rw[QC,QC,QC,Xf,Xf,Xf];rfl,⟨fun p hp=>?_,?_,pl.most,fun c hc=>?_⟩,by rw[Qi,Vt];simp;omega⟩
 ·rcases QF.mp hp with hp | hp
  ·exact pl.each p (VI hp)
  ·rw[Qp.mp hp]
   refine⟨by show 1<=1+mx0 _;omega,by show 1+mx0 _<=7;omega,?_⟩
   exact eS k2 (by show _<=(1+mx0 _).toNat;omega)
 ·have h1:=pl.few
  rw[QS,Qi];rw[<-VW (L.length-many.toNat) L,QS,Qi] at h1;rw[show List.flatMap (fun p:D×Int=>clm 7 p.1) [(.tup [.str w,.tup (ws.map D.int),.tup ((L.drop (L.length-many.toNat)).map Prod.fst)],1+mx0 ((L.drop (L.length-many.toNat)).map Prod.snd))]=clm 7 (.tup [.str w,.tup (ws.map D.int),.tup ((L.drop (L.length-many.toNat)).map Prod.fst)]) by simp[List.flatMap],c7];exact h1
 ·rw[QS,show List.flatMap (fun p:D×Int=>clm 7 p.1) [(.tup [.str w,.tup (ws.map D.int),.tup ((L.drop (L.length-many.toNat)).map Prod.fst)],1+mx0 ((L.drop (L.length-many.toNat)).map Prod.snd))]=clm 7 (.tup [.str w,.tup (ws.map D.int),.tup ((L.drop (L.length-many.toNat)).map Prod.fst)]) by simp[List.flatMap],c7,<-QS,VW] at hc
  exact pl.rng c hc
theorem zQg{cs:List Int}{L:List (D×Int)}{boats cell:Int}{i:Nat}{a6 a7 a8 a9 a10 a11 a12:Sl}(pl:Pl L boats)(hi:L.length<=i)(hi2:i<=63):
  ∃ ρ2,oA [.val (.lst (cs.map D.int)),.val zPe,.own (L.map Prod.fst),.own ((L.map Prod.snd).map D.int),.val (.int boats),.val (.int cell),a6,a7,a8,a9,a10,a11,a12]=.ok (.nx ρ2)/\PlS cs (i+1) ρ2:=by
 symm;rw[oMod_i (by omega),uQ _ (by omega)];symm;have t1:(0:Int)<=cell % 11/\cell % 11<11:=⟨QP _ (by decide),QR _ (by decide)⟩
 have q1:0<=cell / 11 % max 1 (min 4 (L.length:Int)):=QP _ (by omega)
 have q2:cell / 11 % max 1 (min 4 (L.length:Int))<max 1 (min 4 (L.length:Int)):=QR _ (by omega)
 generalize cell / 11 % max 1 (min 4 (L.length:Int))=q at q1 q2;generalize cell % 11=turn at t1;rw[(zLn pl.dOK).2,Qd];symm;by_cases c0:L.length=0
 ·rw[decide_eq_true c0]
  symm;exact US pl hi (by omega)
 ·rw[decide_eq_false c0]
  symm;by_cases c1:4<turn
  ·rw[decide_eq_true c1]
   symm;have sub:(((L.length:Int)-(1+q)).toNat)=L.length-(1+q).toNat:=by omega
   have mxe:zBv [.lst (((L.map Prod.snd).map D.int).drop (L.length-(1+q).toNat))]=.ok (.int (mx0 ((L.drop (L.length-(1+q).toNat)).map Prod.snd))):=by
    rw[<-Xd,<-Xd,Qw];exact zBP (p:=Prod.snd) (by rw[V3];omega)
   rw[nN (by omega),sub,mxe];symm;by_cases c2:mx0 ((L.drop (L.length-(1+q).toNat)).map Prod.snd)<7
   ·rw[decide_eq_true c2]
    have k:=UQ (cs:=cs) (cell:=cell) (turn:=turn) (many:=1+q) (a8:=a8) (a9:=a9) (a10:=a10) (a11:=a11) (a12:=a12) pl hi (by omega) (by omega) (by omega) (by omega) c1 t1.2 c2
    exact k
   ·rw[decide_eq_false c2]
    symm;exact US pl hi (by omega)
  ·rw[decide_eq_false c1]
   symm;exact US pl hi (by omega)
theorem zBr(cs:List Int)(hc:cs.length<=62):∃ d:D,gU [.lst (cs.map D.int)]=.ok (.v d)/\IsC 8 d/\(clm 8 d).length<=12/\∀ c∈clm 8 d,0<=c/\c<=10^9:=by
 unfold gU;symm;refine kJ (Q:=fun r=>∃ d:D,r.bind fin=.ok (.v d)/\IsC 8 d/\(clm 8 d).length<=12/\∀ c∈clm 8 d,0<=c/\c<=10^9) (PlS cs) ⟨[],0,_,_,_,_,_,_,_,_,rfl,⟨fun p h=>(by cases h),by decide,by decide,fun p h=>(by cases h)⟩,Qf _⟩ ?_ ?_
 ·rintro i e ρ he ⟨L,boats,a5,a6,a7,a8,a9,a10,a11,a12,rfl,pl,hi⟩
  rw[Qr] at he
  cases hcell:cs[i]? with
  | none=>rw[hcell] at he;cases he
  | some cell=>
   rw[hcell] at he;cases he;have hil:i<cs.length:=(Qz.mp hcell).1;exact zQg (cs:=cs) (cell:=cell) (a6:=a6) (a7:=a7) (a8:=a8) (a9:=a9) (a10:=a10) (a11:=a11) (a12:=a12) pl hi (by omega)
 ·rintro ρ' ⟨L,boats,a5,a6,a7,a8,a9,a10,a11,a12,rfl,pl,hi⟩
  rw[Qd] at hi;symm;rw[(zLn pl.dOK).1,Qd];symm;by_cases c0:L.length=0
  ·rw[decide_eq_true c0]
   symm;rw[zLc (by decide) (by decide)];symm;rw[show decide (((1:Nat):Int)=1)=true from rfl];symm;rw[show oIx (.lst [.tup [.str "boat", .int 0]]) (.int 0)=.ok (.tup [.str "boat", .int 0]) from rfl];symm;exact⟨_,rfl,.inl ⟨0,rfl⟩,by decide,fun c hc=>by have hc':c∈[(0:Int)]:=hc;rw[Qp.mp hc'];decide⟩
  ·rw[decide_eq_false c0]
   symm;by_cases c1:L.length=1
   ·rw[decide_eq_true (by omega)]
    match L,c1,pl with
    | [p],_,pl=>
     symm;rw[show oIx (.lst [p.1]) (.int 0)=.ok p.1 from rfl];symm;have h:=pl.each p Qb;have i7:IsC 7 p.1:=eS h.2.2 (by omega)
     refine⟨_,rfl,eS i7 (by decide),?_,fun c hc=>pl.rng c (by rw[dZ i7 (by decide)] at hc;simp[List.flatMap];exact hc)⟩
     rw[dZ i7 (by decide)];have f:=pl.few;have g:=pl.most;simp[List.flatMap] at f
     omega
   ·rw[decide_eq_false (by omega)]
    symm;generalize (L.map Prod.snd).sum=t;obtain⟨w,hw,ew⟩:=zKR (t % 6) (QP _ (by decide)) (QR _ (by decide))
    rw[ew];symm;obtain⟨ws,e1,e2,e3⟩:=pX (w:=w) (cs.length:Int) L.length (by omega)
    rw[e1];symm;have h7:∀ p∈L,IsC 7 p.1:=fun p hp=>eS (pl.each p hp).2.2 (by have:=(pl.each p hp).2.1;omega)
    have few:((L.map Prod.fst).flatMap (clm 7)).length<=12:=by
     rw[Xe];have f:=pl.few;have g:=pl.most;omega
    obtain⟨k1,k2⟩:=zHa (.inl rfl) (n:=7) (ks:=L.map Prod.fst) hw (by rw[Qd];exact e2) (by omega) (by rw[Qd];omega) (by rw[Qd];omega) (by decide) (fun k hk=>by obtain⟨p,hp,rfl⟩:=Qj.mp hk;exact h7 p hp) few
    rw[k1];symm;exact⟨_,rfl,k2,few,fun c hc=>pl.rng c (by rw[<-Xe (f:=Prod.fst) (g:=clm 7)];exact hc)⟩
theorem zHm{w:Str}(h:w∈wys):∃ v:Wy,v.s=w:=by
 unfold wys at h;rcases Qe.mp h with rfl | h
 ·exact⟨.row,rfl⟩
 rcases Qe.mp h with rfl | h
 ·exact⟨.back,rfl⟩
 rcases Qe.mp h with rfl | h
 ·exact⟨.even,rfl⟩
 rcases Qe.mp h with rfl | h
 ·exact⟨.lack,rfl⟩
 rcases Qe.mp h with rfl | h
 ·exact⟨.part,rfl⟩
 ·rw[Qp.mp h];exact⟨.half,rfl⟩
theorem zJh{v:Wy}{ws cs:List Int}(h:wOK v.s ws cs.length):v.due ws cs:=by
 have k:¬ (v.s = "even" ∨ v.s = "lack")->ws=[]:=fun hn=>by
  rcases h with⟨a,_⟩ | ⟨_,b⟩
  ·exact absurd a hn
  ·exact b
 have k2:(v.s = "even" ∨ v.s = "lack")->Wt ws cs:=fun hy=>by
  rcases h with⟨_,b,c⟩ | ⟨a,_⟩
  ·exact⟨b,fun x hx=>(c x hx).1,fun x hx=>(c x hx).2⟩
  ·exact absurd hy a
 cases v with
 | even=>exact k2 (.inl rfl)
 | lack=>exact k2 (.inr rfl)
 | row=>exact k (by decide)
 | back=>exact k (by decide)
 | part=>exact k (by decide)
 | half=>exact k (by decide)
def Gc(n:Nat)(d:D):Prop:=IsC n d/\(clm n d).length<=12/\∀ c∈clm n d,0<=c/\c<=10^9
theorem zKS:∀ {l:List Int},(∀ c∈l,0<=c/\c<=10^9)->0<=l.sum/\l.sum<=l.length*10^9
 | [],_=>by decide
 | c::r,h=>by
  have ih:=zKS fun x hx=>h x (Qc _ hx)
  have a:=h c Qb;rw[Qx,Qn];have:((r.length+1:Nat):Int)*10^9=(r.length:Int)*10^9+10^9:=by rw[V9,Xa];rfl
  omega
theorem Gc.sum{n:Nat}{d:D}(h:Gc n d):0<=(clm n d).sum/\(clm n d).sum<=12*10^9:=by
 have:=zKS h.2.2
 have:=h.2.1
 omega
theorem rT{n:Nat}:∀ ks:List D,(ks.map fun k=>(clm n k).sum).sum=(ks.flatMap (clm n)).sum
 | []=>rfl
 | k::r=>by rw[Qq,Qx,rT r,QT,Vl]
theorem zGO:∀ {n:Nat} {d:D},IsC n d->1<=(clm n d).length
 | 0,_,h=>h.elim
 | n+1,d,h=>by
  rcases h with⟨c,rfl⟩ | ⟨w,ws,ks,rfl,hw,k0,k1,w1,hy,hk⟩
  ·exact Qf 1
  ·cases ks with
   | nil=>simp at k0
   | cons k r=>
    have:=zGO (hk k Qb)
    show 1<=((k::r).flatMap (clm n)).length
    rw[QT,Qi];omega
theorem zCA{n:Nat}:∀ {ks:List D},(∀ k∈ks,IsC n k)->ks.length<=(ks.flatMap (clm n)).length
 | [],_=>QY _
 | k::r,h=>by
  have a:=zGO (h k Qb);have b:=zCA fun x hx=>h x (Qc _ hx)
  rw[Qn,QT,Qi];omega
theorem zLk{n:Nat}{ks:List D}{k:D}(hk:k∈ks){c:Int}(hc:c∈clm n k):c∈ks.flatMap (clm n):=Yv.mpr ⟨k,hk,hc⟩
theorem Gc.kid{n:Nat}{w:D}{a ks:List D}(h:Gc (n+1) (.tup [w,.tup a,.tup ks]))(hi:∀ k∈ks,IsC n k){k:D}(hk:k∈ks):Gc n k:=
 ⟨hi k hk,Qv (wW hk) h.2.1,fun c hc=>h.2.2 c (zLk hk hc)⟩
def kcl(n:Nat)(ks:List D):List Int:=ks.map fun k=>(clm n k).sum
theorem eZ(n:Nat)(ks:List D):(kcl n ks).length=ks.length:=Qd ..
theorem Gc.cl{n:Nat}{w:D}{a ks:List D}(h:Gc (n+1) (.tup [w,.tup a,.tup ks]))(hi:∀ k∈ks,IsC n k)(h0:0<ks.length):Cl (kcl n ks):=by
 have b:∀ c∈kcl n ks,0<=c/\c<=12*10^9:=fun c hc=>by
  obtain⟨k,hk,rfl⟩:=Qj.mp hc;exact(h.kid hi hk).sum
 have l:(ks.flatMap (clm n)).length<=12:=h.2.1;have:=zCA hi
 exact⟨fun c hc=>(b c hc).1,fun c hc=>by have:=(b c hc).2;omega,by rw[eZ];omega,by rw[eZ];omega⟩
def ShL(P:D->Rat->List Rat->Prop):List D->(Nat->Rat)->Nat->List Rat->Prop
 | [],_,_,xs=>xs=[]
 | k::ks,f,i,xs=>∃ a b,xs=a++b/\P k (f i) a/\ShL P ks f (i+1) b
def Sh:Nat->D->Rat->List Rat->Prop
 | 0,_,_,_=>False
 | n+1,d,q,xs=>(∃ c:Int,d=.tup [.str "boat", .int c]/\xs=[q])∨∃(v:Wy)(ws:List Int)(ks:List D)(f:Nat->Rat),d=.tup [.str v.s,.tup (ws.map D.int),.tup ks]/\v.due ws (kcl n ks)/\Al 3000 ws (kcl n ks) q f v/\ShL (Sh n) ks f 0 xs
theorem zHS{P:D->Rat->List Rat->Prop}{n:Nat}{f:Nat->Rat}:∀ {ks:List D} {i:Nat} {xs:List Rat},(∀ k∈ks,∀ q xs,P k q xs->xs.length=(clm n k).length)->ShL P ks f i xs->xs.length=(ks.flatMap (clm n)).length
 | [],i,xs,_,h=>by rw[show xs=[] from h];rfl
 | k::r,i,xs,hp,h=>by
  obtain⟨a,b,rfl,ha,hb⟩:=h;rw[Qi,hp k Qb _ _ ha,zHS (fun x hx=>hp x (Qc _ hx)) hb,QT,Qi]
theorem zLD:∀ {n:Nat} {d:D} {q:Rat} {xs:List Rat},Sh n d q xs->xs.length=(clm n d).length
 | 0,_,_,_,h=>h.elim
 | n+1,d,q,xs,h=>by
  rcases h with⟨c,rfl,rfl⟩ | ⟨v,ws,ks,f,rfl,hd,al,hs⟩
  ·rfl
  ·exact zHS (fun k _ q xs h=>zLD h) hs
theorem nI{a:D}{l:List D}:dD [.tup (a::l)]=.ok (.v a):=by
 unfold dD;symm
theorem lX{a b:D}{l:List D}:bQ [.tup (a::b::l)]=.ok (.v b):=by
 unfold bQ;symm
theorem nM{n:Nat}{d:D}(h:IsC n d)(hn:n<=10)(hl:(clm n d).length<=1000):cP [d]=.ok (.v (.int (clm n d).sum)):=by
 have e:=dZ h hn;unfold cP;symm;rw[oH 10 d (eS h hn) (by rw[e];exact hl)];symm;rw[e]
theorem sA{n:Nat}{w:Str}{a:D}{ks:List D}(hw:(w == "boat")=false)(hi:∀ k∈ks,IsC n k)(hn:n<=10)(hl:(ks.flatMap (clm n)).length<=1000):cQ [.tup [.str w,a,.tup ks]]=.ok (.f ((kcl n ks).map D.int)):=by
 unfold cQ;symm;rw[gF hw];symm
 rw[zCf (h:=fun k=>D.int (clm n k).sum) (by have:=zCA hi;omega) (fun k hk=>by
  symm;rw[nM (hi k hk) hn (Qv (wW hk) hl)]
  symm)]
 symm;unfold kcl;rw[Qw];rfl
theorem zKU(cs:List Int):Sq (.lst (cs.map D.int)) cs:=.inl rfl
theorem xY:∀(n N m:Nat)(d:D)(q:Rat),Gc n d->n<=N->n<=9->0<=q->q<=((clm n d).sum:Rat)->(q.den:Int)<2^m->m+34*n<=2000->∃ xs,fJ N [d,dq q]=.ok (.f (xs.map dq))/\Sh n d q xs
 | 0,_,_,_,_,h,_,_,_,_,_,_=>h.1.elim
 | n+1,0,_,_,_,_,hN,_,_,_,_,_=>by omega
 | n+1,N+1,m,d,q,g,hN,hn,q0,q1,qd,hm=>by
  rcases g.1 with⟨c,rfl⟩ | ⟨w,ws,ks,rfl,hw,k0,k1,w1,hy,hk⟩
  ·refine⟨[q],?_,.inl ⟨c,rfl,rfl⟩⟩
   show iK (fJ N) _=_
   unfold iK;symm;rw[kB];symm
  ·obtain⟨v,rfl⟩:=zHm hy.1
   have cl:=g.cl hk k0;have l12:(ks.flatMap (clm n)).length<=12:=g.2.1;have hs:(kcl n ks).sum=(clm (n+1) (.tup [.str v.s,.tup (ws.map D.int),.tup ks])).sum:=rT ks;have gs:=g.sum;have due:v.due ws (kcl n ks):=zJh (by rw[eZ];exact hy.2)
   have sq:Sz (34+m) q:=(Dn.den q).sz (gC q) qd q0 q1 (by omega)
   have hl:Haul (34+m) q (kcl n ks).sum:=⟨q0,by rw[hs];exact q1,sq⟩
   obtain⟨f,ef,af⟩:=zMB (wd:=.tup (ws.map D.int)) (.inr rfl) (zKU (kcl n ks)) (by omega) due cl hl
   have df:=zNR due cl hl af;have hS:(kcl n ks).sum<2^34:=by rw[hs];omega
   obtain⟨E,e0,e1,e2⟩:=zQJ due cl hS af (Dn.den q)
   have dk:∀ i,i<ks.length->((f i).den:Int)<2^(m+34):=fun i hi=>by
    have a:=(e2 i (by rw[eZ];exact hi)).le (XC (gC q) e0)
    have b:(q.den:Int)*E<2^m*2^34:=Int.mul_lt_mul qd (VO e1) e0 (VO (Xh (by decide)))
    rw[Yw];omega
   have loopOk:∀(js:List D)(i:Nat)(acc:List Rat)(s t:Sl),(∀ k∈js,k∈ks)->i+js.length=ks.length->ks.drop i=js->acc.length+(js.flatMap (clm n)).length<=12->∃ xs s' t',ShL (Sh n) js f i xs/\
     loop (zGK (nX (gName 4) (nX (gName 5) zHJ))) (sC (fJ N)) (jV js ((List.range' i js.length).map fun j=>dq (f j))) [.val (.tup [.str v.s,.tup (ws.map D.int),.tup ks]),.val (dq q),.val (.lst (((List.range (kcl n ks).length).map f).map dq)),.own (acc.map dq),s,t]=
      .ok (.nx [.val (.tup [.str v.s,.tup (ws.map D.int),.tup ks]),.val (dq q),.val (.lst (((List.range (kcl n ks).length).map f).map dq)),.own ((acc++xs).map dq),s',t']):=by
    intro js
    induction js with
    | nil=>intro i acc s t _ _ _ _;exact⟨[],s,t,rfl,by rw[QW];rfl⟩
    | cons k r ih=>
     intro i acc s t hm' hl' hd' ha;have hik:i<ks.length:=by rw[Qn] at hl';omega
     have ik:k∈ks:=hm' k Qb;have gk:=g.kid hk ik;have fk:=df.bd i (by rw[eZ];exact hik)
     have ck:cR (kcl n ks) i=((clm n k).sum:Rat):=by
      unfold cR kcl
      have:ks[i]?=some k:=by
       have:=Ys (xs:=ks) (i:=i) (j:=0)
       rw[hd'] at this;simpa using this.symm
      rw[QB,Qr,this];rfl
     obtain⟨xs,ex,sx⟩:=xY n N (m+34) k (f i) gk (by omega) (by omega) fk.1 (by rw[<-ck];exact fk.2.1) (dk i hik) (by omega)
     have lx:=zLD sx;rw[QT,Qi] at ha;obtain⟨ys,s',t',sy,ey⟩:=ih (i+1) (acc++xs) (.val k) (.val (dq (f i))) (fun x hx=>hm' x (Qc _ hx)) (by rw[Qn] at hl';omega) (by rw[<-List.drop_drop,hd'];rfl) (by rw[Qi];omega)
     refine⟨xs++ys,s',t',⟨xs,ys,rfl,sx,sy⟩,?_⟩
     rw[Qn,List.range'_succ,Qq,show jV (k::r) (dq (f i)::(List.range' (i+1) r.length).map fun j=>dq (f j))=.tup [k,dq (f i)]::jV r ((List.range' (i+1) r.length).map fun j=>dq (f j)) from rfl]
     rw[eM (ρ1:=[.val (.tup [.str v.s,.tup (ws.map D.int),.tup ks]),.val (dq q),.val (.lst (((List.range (kcl n ks).length).map f).map dq)),.own (acc.map dq),.val k,.val (dq (f i))]) (ρ2:=[.val (.tup [.str v.s,.tup (ws.map D.int),.tup ks]),.val (dq q),.val (.lst (((List.range (kcl n ks).length).map f).map dq)),.own ((acc++xs).map dq),.val k,.val (dq (f i))]) (by symm) (by
      symm;rw[ex];symm
      rw[if_pos (by omega),QC]),ey,Q4]
   obtain⟨xs,s',t',sx,ex⟩:=loopOk ks 0 [] .un .un (fun k h=>h) (by omega) rfl (by rw[Vh];omega)
   refine⟨xs,?_,.inr ⟨v,ws,ks,f,rfl,due,af.mono (by omega),sx⟩⟩
   show iK (fJ N) _=_
   unfold iK;symm;rw[kC hw];symm;rw[nI];symm;rw[lX];symm;rw[sA hw hk (by omega) (by omega)];symm;rw[ef];symm;rw[gF hw];symm;rw[oR rfl rfl,show((List.range (kcl n ks).length).map f).map dq=(List.range' 0 ks.length).map fun j=>dq (f j) by rw[Qw,eZ,Yy];rfl];symm;rw[show((List.range (kcl n ks).length).map f).map dq=(List.range' 0 ks.length).map fun j=>dq (f j) by rw[Qw,eZ,Yy];rfl] at ex;rw[Vm] at ex;rw[ex];rfl
theorem zEU{n m:Nat}{d:D}{q:Rat}(g:Gc n d)(hn:n<=9)(q0:0<=q)(q1:q<=((clm n d).sum:Rat))(qd:(q.den:Int)<2^m)(hm:m+34*n<=2000):∃ xs,jA [d,dq q]=.ok (.f (xs.map dq))/\Sh n d q xs:=by
 have gs:=g.sum;obtain⟨xs,ex,sx⟩:=xY n 10 m d q g (by omega) hn q0 q1 qd hm
 refine⟨xs,?_,sx⟩
 have sq:Sz (34+m) q:=(Dn.den q).sz (gC q) qd q0 q1 (by omega)
 unfold jA;symm;rw[nM g.1 (by omega) (by have:=g.2.1;omega)];symm;rw[bR];symm;rw[lH (by omega) ⟨q0,q1,sq⟩ (by omega)];symm;rw[ex];symm
theorem zRA{v v':Wy}(h:v.s=v'.s):v=v':=by cases v<;>cases v'<;>first | rfl | exact absurd h (by decide)
open Classical in
def wyS(w:Str):Wy:=if h:∃ v:Wy,v.s=w then Classical.choose h else .row
theorem zRc(v:Wy):wyS v.s=v:=by
 have h:∃ u:Wy,u.s=v.s:=⟨v,rfl⟩;unfold wyS;rw[dif_pos h];exact zRA (XH h)
def zQO(l:List D):List Int:=l.map fun d=>match d with | .int i=>i | _=>0
theorem zKj(ws:List Int):zQO (ws.map D.int)=ws:=by
 unfold zQO;rw[Qw];exact XB _
def SFL(g:D->Rat->List Rat)(f:Nat->Rat):List D->Nat->List Rat
 | [],_=>[]
 | k::ks,i=>g k (f i)++SFL g f ks (i+1)
def SF:Nat->D->Rat->List Rat
 | 0,_,_=>[]
 | n+1,d,q=>match d with
  | .tup [.str w,.tup a,.tup ks]=>SFL (SF n) (FF (wyS w) (zQO a) (kcl n ks) q) ks 0
  | _=>[q]
theorem mI(n:Nat)(v:Wy)(ws:List Int)(ks:List D)(q:Rat):SF (n+1) (.tup [.str v.s,.tup (ws.map D.int),.tup ks]) q=SFL (SF n) (FF v ws (kcl n ks) q) ks 0:=by
 show SFL (SF n) (FF (wyS v.s) (zQO (ws.map D.int)) (kcl n ks) q) ks 0=_
 rw[zRc,zKj]
theorem zJj(g:D->Rat->List Rat)(f:Nat->Rat):∀(a b:List D)(i:Nat),SFL g f (a++b) i=SFL g f a i++SFL g f b (i+a.length)
 | [],b,i=>rfl
 | k::a,b,i=>by
  show g k (f i)++SFL g f (a++b) (i+1)=(g k (f i)++SFL g f a (i+1))++_
  rw[zJj g f a b (i+1),Q4,Qn,show i+1+a.length=i+(a.length+1) by omega]
theorem zDb{n:Nat}{f:Nat->Rat}:∀ {ks:List D} {i:Nat},(∀ k∈ks,∀ q,(SF n k q).length=(clm n k).length)->(SFL (SF n) f ks i).length=(ks.flatMap (clm n)).length
 | [],i,_=>rfl
 | k::r,i,h=>by
  show(SF n k (f i)++SFL (SF n) f r (i+1)).length=_
  rw[Qi,h k Qb,zDb fun x hx=>h x (Qc _ hx),QT,Qi]
theorem zLw:∀ {n:Nat} {d:D},IsC n d->∀ q:Rat,(SF n d q).length=(clm n d).length
 | 0,_,h,_=>h.elim
 | n+1,d,h,q=>by
  rcases h with⟨c,rfl⟩ | ⟨w,ws,ks,rfl,hw,k0,k1,w1,hy,hk⟩
  ·rfl
  ·obtain⟨v,rfl⟩:=zHm hy.1
   rw[mI];exact zDb fun k hm q=>zLw (hk k hm) q
theorem zEE{n:Nat}{ks:List D}{j:Nat}{k:D}(h:ks[j]?=some k):j<(kcl n ks).length/\cR (kcl n ks) j=((clm n k).sum:Rat):=by
 have hj:=(Qz.mp h).1;refine⟨by rw[eZ];exact hj,?_⟩
 unfold cR kcl;rw[QB,Qr,h];rfl
theorem zLL{P:D->Rat->List Rat->Prop}{n:Nat}{f g:Nat->Rat}:∀ {ks:List D} {i:Nat} {xs:List Rat},(∀ k∈ks,∀ q xs,P k q xs->0<=q->q<=((clm n k).sum:Rat)->xs=SF n k q)->(∀ j k,ks[j]?=some k->f (i+j)=g (i+j)/\0<=f (i+j)/\f (i+j)<=((clm n k).sum:Rat))->ShL P ks f i xs->xs=SFL (SF n) g ks i
 | [],i,xs,_,_,h=>h
 | k::r,i,xs,hp,hf,h=>by
  obtain⟨a,b,rfl,ha,hb⟩:=h;have f0:=hf 0 k rfl;rw[Yz] at f0
  rw[hp k Qb _ _ ha f0.2.1 f0.2.2,zLL (fun x hx=>hp x (Qc _ hx)) (fun j k' hj=>by
   have:=hf (j+1) k' (by simpa using hj)
   rw[show i+1+j=i+(j+1) by omega];exact this) hb,f0.1]
  rfl
theorem zME:∀ {n:Nat} {d:D} {q:Rat} {xs:List Rat},Gc n d->Sh n d q xs->0<=q->q<=((clm n d).sum:Rat)->xs=SF n d q
 | 0,_,_,_,g,_,_,_=>g.1.elim
 | n+1,d,q,xs,g,h,q0,q1=>by
  rcases h with⟨c,rfl,rfl⟩ | ⟨v,ws,ks,f,rfl,hd,al,hs⟩
  ·rfl
  ·rcases g.1 with⟨c,e⟩ | ⟨w,ws',ks',e,hw,k0,k1,w1,hy,hk⟩
   ·simp at e
   simp only[D.tup.injEq,List.cons.injEq,and_true] at e;obtain⟨e1,e2,rfl⟩:=e;have cl:=g.cl hk k0;have se:(kcl n ks).sum=(clm (n+1) (.tup [.str v.s,.tup (ws.map D.int),.tup ks])).sum:=rT ks;have q1':q<=((kcl n ks).sum:Rat):=by rw[se];exact q1
   obtain⟨b1,b2⟩:=zOX hd cl q0 q1' al;rw[mI];refine zLL (P:=Sh n) (fun k hm q xs h1 h2 h3=>zME (g.kid hk hm) h1 h2 h3) (fun j k hj=>?_) hs
   obtain⟨j1,j2⟩:=zEE (n:=n) hj;rw[VC,<-j2];exact⟨rF hd cl q0 q1' al j1,b1 j j1⟩
theorem zQC{ws cs:List Int}(h:Wt ws cs){t y:Rat}{i:Nat}(hi:i<cs.length)(e:cR ws i*t=y){B:Int}(hB:Dn B y):Dn (B*ws.getD i 0) (QQ ws cs t):=by
 obtain⟨F,W,e1,w0,w1,w2⟩:=wB (c:=cR cs) (w:=cR ws) (ci:=fun i=>cs.getD i 0) (wi:=fun i=>ws.getD i 0) (t:=t) (fun _=>rfl) (fun _=>rfl) (List.range cs.length) (fun j hj=>h.at (Qk.mp hj))
 obtain⟨k,hk⟩:=hB;refine⟨W*k+F*(B*ws.getD i 0),?_⟩
 have q:QQ ws cs t=(W:Rat)*t+(F:Rat):=e1;rw[q,QJ,QL,QL,QL,<-hk,<-e];unfold cR;grind
theorem zIj{cs:List Int}(hc:Cl cs){q y:Rat}(q0:0<=q)(q1:q<=(cs.sum:Rat)){i:Nat}(hi:i<cs.length)(e:FF .row [] cs q i=y)(y0:0<y)(y1:y<cR cs i){B:Int}(hB:Dn B y):Dn B q:=by
 rw[<-rF (M:=0) (w:=.row) (ws:=[]) (f:=zBb cs q) rfl hc q0 q1 (fun i _=>rfl) hi] at e;have f:zBb cs q i=mn (ps0 (q-((0+(cs.take i).sum:Int):Rat))) (cR cs i):=rE cs 0 q i hi;rw[f] at e
 have:q=y+((0+(cs.take i).sum:Int):Rat):=by
  unfold mn ps0 at e;grind
 rw[this];exact hB.add (Dn.int B _)
theorem zMf{ws cs:List Int}(h:Wt ws cs)(hc:Cl cs){t:Rat}(t0:0<=t)(q1:QQ ws cs t<=(cs.sum:Rat))(q0:0<=QQ ws cs t){i:Nat}(hi:i<cs.length):FF .even ws cs (QQ ws cs t) i=dB (cR cs) (cR ws) t i:=by
 obtain⟨M,hM⟩:=zIR cs.length (dB (cR cs) (cR ws) t);exact(rF (M:=M) (w:=.even) h hc q0 q1 ⟨t,⟨t0,rfl,hM⟩,fun _ _=>rfl⟩ hi).symm
theorem zEy{ws cs:List Int}(h:Wt ws cs)(hc:Cl cs){q:Rat}(q0:0<=q)(q1:q<=(cs.sum:Rat)):∃ t,0<=t/\QQ ws cs t=q/\∀ i,i<cs.length->FF .even ws cs q i=dB (cR cs) (cR ws) t i:=by
 obtain⟨M,t,tl,e⟩:=sG (w:=.even) h hc q0 q1;exact⟨t,tl.nn,tl.sum,e⟩
theorem zAe{ws cs:List Int}(h:Wt ws cs)(hc:Cl cs){q y:Rat}(q0:0<=q)(q1:q<=(cs.sum:Rat)){i:Nat}(hi:i<cs.length)(e:FF .even ws cs q i=y)(y1:y<cR cs i){B:Int}(hB:Dn B y):Dn (B*ws.getD i 0) q:=by
 obtain⟨t,t0,tq,ef⟩:=zEy h hc q0 q1;rw[ef i hi] at e;rw[<-tq];refine zQC h hi ?_ hB
 unfold dB mn at e;grind
theorem uK(q:Rat):(q+q)*hf=q:=by rw[iR];grind
theorem zCM{cs:List Int}{i:Nat}(hi:i<cs.length):(ones cs).getD i 0=1:=by
 unfold ones;rw[QB,Xm,if_pos hi];rfl
theorem zHd{cs:List Int}(hc:Cl cs){q y:Rat}(q0:0<=q)(q1:q+q<=(cs.sum:Rat)){i:Nat}(hi:i<cs.length)(e:FF .half [] cs q i=y)(y1:y+y<cR cs i){B:Int}(hB:Dn B y):Dn (B*2) q:=by
 rw[tK hc q0 q1 hi] at e
 have e':FF .even (ones cs) cs (q+q) i=y+y:=by
  have:=uK (FF .even (ones cs) cs (q+q) i)
  rw[<-e];grind
 have d:=zAe (eY cs) hc (by grind) q1 hi e' y1 (hB.add hB)
 rw[zCM hi,Q7] at d;have:=zIP d
 rw[uK] at this;exact this
theorem zKZ{cs:List Int}(hc:Cl cs){i:Nat}(hi:i<cs.length):cs.getD i 0<=cs.sum:=by
 have t:=zAi hc.nn hi (Qf _);rw[Q9] at t
 have:0<=(cs.take i).sum:=by
  have:∀ l:List Int,(∀ c∈l,0<=c)->0<=l.sum:=by
   intro l
   induction l with
   | nil=>intro _;decide
   | cons a l ih=>intro hl;rw[Qx];have:=hl a Qb;have:=ih fun x hx=>hl x (Qc _ hx);omega
  exact this _ fun x hx=>hc.nn x (VI hx)
 have:=t.1
 omega
theorem zON{w:Wy}{ws cs:List Int}(hw:w.due ws cs)(hc:Cl cs)(hS:cs.sum<2^34){q y:Rat}(q0:0<=q)(q1:q<=(cs.sum:Rat)){i:Nat}(hi:i<cs.length)(e:FF w ws cs q i=y)(y0:0<y)(y1:y<cR cs i)(least:∀ t,0<=t->t<q->FF w ws cs t i<y){B:Int}(hB:Dn B y):∃ E:Int,0<E/\E<=2^34/\Dn (B*E) q:=by
 have dc:Dn B (cR cs i-y):=(Dn.int B _).sub hB;have S0:(0:Rat)<=(cs.sum:Rat):=by exact_mod_cast hc.sum.1
 have back:∀ {E:Int},Dn (B*E) ((cs.sum:Rat)-q)->Dn (B*E) q:=fun {E} d=>by
  have:=(Dn.int (B*E) cs.sum).sub d
  rw[show(cs.sum:Rat)-((cs.sum:Rat)-q)=q by grind] at this;exact this
 have con:=zLG hw hc q0 q1 hi;rw[e] at con
 cases w with
 | row=>
  have z:ws=[]:=hw;subst z;exact⟨1,by decide,by decide,by rw[Q7];exact zIj hc q0 q1 hi e y0 y1 hB⟩
 | back=>
  have z:ws=[]:=hw;subst z;refine⟨1,by decide,by decide,back ?_⟩
  rw[Q7];exact zIj hc (by grind) (by grind) hi con (by grind) (by grind) dc
 | even=>
  have wi:=Wt.at hw hi;exact⟨ws.getD i 0,by omega,by omega,zAe hw hc q0 q1 hi e y1 hB⟩
 | lack=>
  have wi:=Wt.at hw hi;exact⟨ws.getD i 0,by omega,by omega,back (zAe (ws:=ws) hw hc (by grind) (by grind) hi con (by grind) dc)⟩
 | part=>
  have z:ws=[]:=hw;subst z;rw[<-rF (M:=0) (w:=.part) (ws:=[]) (f:=iY cs q) rfl hc q0 q1 (fun i _=>rfl) hi] at e;have p:=(gZ (q:=q) hc hi).1;rw[e] at p
  have c0:0<cs.getD i 0:=by
   have:(0:Rat)<cR cs i:=by grind
   unfold cR at this;exact_mod_cast this
  have:=zKZ hc hi
  obtain⟨k,hk⟩:=hB;refine⟨cs.getD i 0,c0,by omega,k*cs.sum,?_⟩
  unfold cR at p;rw[QL,QL,<-hk];grind
 | half=>
  have z:ws=[]:=hw;subst z;have W:=eY cs;refine⟨2,by decide,by decide,?_⟩
  by_cases h:q+q<=(cs.sum:Rat)
  ·by_cases l:y+y<cR cs i
   ·exact zHd hc q0 h hi e l hB
   ·have e0:=e
    rw[tK hc q0 h hi] at e;obtain⟨t,t0,tq,ef⟩:=zEy W hc (q:=q+q) (by grind) h
    have g1:=ef i hi
    have g2:FF .even (ones cs) cs (q+q) i=y+y:=by
     have:=uK (FF .even (ones cs) cs (q+q) i)
     rw[<-e];grind
    rw[g2] at g1
    have yc:y+y=cR cs i:=by
     unfold dB mn at g1;grind
    have lt:lv (ones cs) cs i<=t:=by
     rcases (Vq:t<=lv (ones cs) cs i∨lv (ones cs) cs i<=t) with u | u
     ·have:=zFv W hi u
      rw[<-g1,yc,<-yD W hi] at this;have o:cR (ones cs) i=1:=by unfold cR;rw[zCM hi];rfl
      rw[o] at this;grind
     ·exact u
    have m1:=kL W lt;rw[tq] at m1;have l0:=zGu W hc hi
    have Q0:0<=QQ (ones cs) cs (lv (ones cs) cs i):=by
     have:=kL (cs:=cs) W l0
     have z:QQ (ones cs) cs 0=0:=by
      have:∀ j∈List.range cs.length,dB (cR cs) (cR (ones cs)) 0 j=0:=fun j hj=>by
       have:=zGD hc (Qk.mp hj)
       unfold dB mn;grind
      unfold QQ iI;rw[QG (g:=fun _=>(0:Rat)) this]
      induction (List.range cs.length) with
      | nil=>rfl
      | cons a r ih=>rw[Qq,Qx,ih];grind
     grind
    have eq:QQ (ones cs) cs (lv (ones cs) cs i)=q+q:=by
     rcases Rat.le_iff_lt_or_eq.mp m1 with u | u
     ·exfalso
      have hh:QQ (ones cs) cs (lv (ones cs) cs i)*hf+QQ (ones cs) cs (lv (ones cs) cs i)*hf=QQ (ones cs) cs (lv (ones cs) cs i):=by rw[iR];grind
      have v:=least (QQ (ones cs) cs (lv (ones cs) cs i)*hf) (by rw[iR];grind) (by rw[iR];grind)
      rw[tK hc (by rw[iR];grind) (by rw[hh];grind) hi,hh,zMf W hc l0 (by grind) Q0 hi,zFF W hi Qh,<-yc,uK] at v;grind
     ·exact u
    have d:=zQC (cs:=cs) W hi (yD W hi) (Dn.int B (cs.getD i 0));rw[eq,zCM hi,Q7] at d;have:=zIP d
    rw[uK] at this;exact this
  ·have h':((cs.sum:Rat)-q)+((cs.sum:Rat)-q)<=(cs.sum:Rat):=by grind
   have con':FF .half [] cs ((cs.sum:Rat)-q) i=cR cs i-y:=con;by_cases l:(cR cs i-y)+(cR cs i-y)<cR cs i
   ·exact back (zHd hc (by grind) h' hi con' l dc)
   ·exfalso
    have hh:(cs.sum:Rat)*hf+(cs.sum:Rat)*hf=(cs.sum:Rat):=by rw[iR];grind
    have v:=least ((cs.sum:Rat)*hf) (by rw[iR];grind) (by rw[iR];grind)
    rw[tK hc (by rw[iR];grind) (by rw[hh];exact Qh) hi,hh,zDj (w:=.even) W hc hi,iR] at v;grind
theorem zGf{x:Rat}{B E:Int}{m:Nat}(h:Dn (B*E) x)(b0:0<B)(e0:0<E)(hb:B<=2^m)(he:E<=2^34):(x.den:Int)<=2^(m+34):=by
 have a:=h.le (XC b0 e0);have b:B*E<=2^m*2^34:=Int.mul_le_mul hb he (VO e0) (VO (Xh (by decide)))
 rw[Yw];omega
theorem iH(m:Nat):(1:Int)<=2^m:=by
 have:(0:Int)<2^m:=Xh (by decide)
 omega
theorem vB{a b:Nat}(h:a<=b):(2:Int)^a<=2^b:=by
 have e:(2:Int)^b=2^a*2^(b-a):=by rw[<-Yw,Nat.add_sub_cancel' h]
 have p:(0:Int)<2^a:=Xh (by decide)
 have:=YR (iH (b-a)) (VO p)
 rw[e];omega
theorem zOb{w:Wy}{ws cs:List Int}{J:List Rat}(hw:w.due ws cs)(hc:Cl cs)(hS:cs.sum<2^34)(js:JS w ws cs J)(jd:Jd cs J){i:Nat}(hi:i<cs.length){y r:Rat}(u:zER (wln w ws cs J i) y r){m:Nat}(hy:(y.den:Int)<=2^m):(r.den:Int)<=2^(m+34):=by
 obtain⟨ln,la,pts,val⟩:=zLp hw hc js hi;obtain⟨u1,u2,u3⟩:=u.val ln.1 la;have le:=fun t (t0:0<=t) (l:t<r)=>u.least ln.1 la t0 l
 obtain⟨k,q,hq,hj,h⟩:=u;have hqm:=Qm hq;rcases h with⟨e,rfl⟩ | ⟨k0,hlt,p,hp,hp2,e⟩
 ·obtain⟨B,b0,b1,d⟩:=jd.2 _ (pts q hqm).1
  have:=d.le b0
  have:=vB (show 34<=m+34 by omega)
  omega
 ·have bp:=fP ln.1 la (Qm hp)
  have bq:=fP ln.1 la hqm;have y0:0<y:=by have:=bp.2.2.1;grind
  have y1:y<cR cs i:=by have:=bq.2.2.2;grind
  rw[val r u2 u3] at u1
  obtain⟨E,e0,e1,d⟩:=zON hw hc hS u2 u3 hi u1 y0 y1 (fun t t0 l=>by
   have:=le t t0 l
   rw[val t t0 (by grind)] at this
   exact this) (Dn.den y)
  exact zGf d (gC y) e0 hy e1
theorem zQE{w:Wy}{ws cs:List Int}(hw:w.due ws cs)(hc:Cl cs)(hS:cs.sum<2^34){q:Rat}(q0:0<=q)(q1:q<=(cs.sum:Rat)){i:Nat}(hi:i<cs.length){m:Nat}(hq:(q.den:Int)<=2^m):((FF w ws cs q i).den:Int)<=2^(m+34):=by
 obtain⟨M,al⟩:=sG hw hc q0 q1;obtain⟨E,e0,e1,e2⟩:=zQJ hw hc hS al (Dn.den q);exact zGf (e2 i hi) (gC q) e0 hq (VO e1)
theorem zJI{P:Nat->Prop}:∀ n,P n->∃ k,P k/\∀ j,j<k->¬ P j:=by
 intro n
 induction n using Nat.strongRecOn with
 | ind n ih=>
  intro h;by_cases c:∃ j,j<n/\P j
  ·obtain⟨j,l,hj⟩:=c
   exact ih j l hj
  ·exact⟨n,h,fun j l hj=>c ⟨j,l,hj⟩⟩
theorem zQe{ps:List Pt}{e:Pt}{y:Rat}(h:Ok ps)(he:ps.getLast?=some e)(y0:0<=y)(y1:y<=e.2):∃ r,zER ps y r:=by
 obtain⟨k,⟨q,hq,hy⟩,hm⟩:=zJI (P:=fun k=>∃ q:Pt,ps[k]?=some q/\y<=q.2) (ps.length-1) ⟨e,by rw[<-QZ];exact he,y1⟩
 have lt:∀(j:Nat)(p:Pt),j<k->ps[j]?=some p->p.2<y:=fun j p l hp=>Rat.not_le.mp fun z=>hm j l ⟨p,hp,z⟩
 by_cases c:q.2=y
 ·exact⟨q.1,k,q,hq,lt,.inl ⟨c,rfl⟩⟩
 ·have k0:0<k:=by
   rcases X8 k with z | z
   ·subst z
    rw[<-VE,h.1] at hq;cases hq
    have:(0:Rat)=y:=by
     have:y<=(0:Rat):=hy
     grind
    exact absurd this c
   ·exact z
  have kl:=(Qz.mp hq).1;have hp:ps[k-1]?=some (ps[k-1]'(by omega)):=Qu _
  exact⟨_,k,q,hq,lt,.inr ⟨k0,by grind,_,hp,lt _ _ (by omega) hp,rfl⟩⟩
structure CL (S c:Int) (g:Rat->Rat) (m k:Nat) (l:List Pt):Prop where
 ln:zOs l
 la:l.getLast?=some ((S:Rat),(c:Rat))
 val:∀ x,0<=x->x<=(S:Rat)->aV l x=g x
 len:l.length<=k
 den:∀ p∈l,(p.1.den:Int)<=2^m
 yd:∀(x:Rat)(e:Nat),0<=x->x<=(S:Rat)->(x.den:Int)<=2^e->((g x).den:Int)<=2^(e+m)
 inv:∀(y r:Rat)(e:Nat),0<=y->y<=(c:Rat)->(y.den:Int)<=2^e->zER l y r->(r.den:Int)<=2^(e+m)
theorem zDS{x:Rat}{S:Int}{m:Nat}(x0:0<=x)(x1:x<=(S:Rat))(hS:S<2^34)(h:(x.den:Int)<=2^m):Sz (35+m) x:=by
 have:=(Dn.den x).sz (a:=34) (b:=m+1) (gC x) (by rw[Int.pow_succ];have:=iH m;omega) x0 x1 hS
 exact this.mono (by omega)
theorem CL.pt{S c:Int}{g:Rat->Rat}{m k:Nat}{l:List Pt}(h:CL S c g m k l){p:Pt}(hp:p∈l):p.2=g p.1/\0<=p.1/\p.1<=(S:Rat)/\0<=p.2/\p.2<=(c:Rat):=by
 have b:=fP h.ln.1 h.la hp;obtain⟨i,hi⟩:=V5.mp hp;exact⟨by rw[<-h.val _ b.1 b.2.1];exact(bN h.ln.1.2 hi).symm,b⟩
theorem CL.sz{S c:Int}{g:Rat->Rat}{m k:Nat}{l:List Pt}(h:CL S c g m k l)(hS:S<2^34)(hc:c<2^34):∀ p∈l,SzQ (35+m) (35+2*m) p:=fun p hp=>by
 obtain⟨e,a,b,c0,d⟩:=h.pt hp;refine⟨zDS a b hS (h.den p hp),?_⟩
 have:=h.yd _ m a b (h.den p hp)
 rw[<-e] at this;exact(zDS c0 d hc this).mono (by omega)
theorem CL.one{S c c':Int}{g g':Rat->Rat}{m m' k k':Nat}{l l':List Pt}(h:CL S c g m k l)(h':CL S c' g' m' k' l')(e:∀ x,0<=x->x<=(S:Rat)->g x=g' x):l=l':=
 zMy h.ln h'.ln h.la h'.la rfl fun x x0 x1=>by rw[h.val x x0 x1,h'.val x x0 x1];exact e x x0 x1
def lnD(l:List Pt):D:=.tup (l.map dp)
theorem zHZ{w:Wy}{ws cs:List Int}{J:List Rat}(hw:w.due ws cs)(hc:Cl cs)(hS:cs.sum<2^34)(js:JS w ws cs J)(lJ:J.length<=30)(zJ:∀ x∈J,Sz 300 x/\∀ i,i<cs.length->Sz 670 (FF w ws cs x i))(jd:Jd cs J){i:Nat}(hi:i<cs.length){c:Int}{g:Rat->Rat}{m k:Nat}{l:List Pt}(hc2:c<2^34)(h:CL (cs.getD i 0) c g m k l)(hm:m<=272)(hk:k<=1000):
  ∃ R,gI [lnD l,lnD (wln w ws cs J i)]=.ok (.v (lnD R))/\CL cs.sum c (fun x=>g (FF w ws cs x i)) (m+34) (k+30) R:=by
 obtain⟨ln,la,pts,val⟩:=zLp hw hc js hi;have cs1:=zKZ hc hi;have zl:=h.sz (by omega) hc2
 have bl:∀ p∈l,p.1<=cR cs i:=fun p hp=>(h.pt hp).2.2.1
 have wl:(wln w ws cs J i).length<=30:=by
  have:=(nL (zEl hw hc js hi).1.2).length_le
  unfold wln;unfold jpt at this ⊢
  rw[Qd] at this;omega
 have S0:(0:Rat)<=(cs.sum:Rat):=by exact_mod_cast hc.sum.1
 obtain⟨R,e,r1,r2,r3,r4,r5⟩:=zJz (ps:=l) (qs:=wln w ws cs J i) (35+m) (35+2*m) 300 670 670 400 1000 h.ln.1 ln.1 h.la la rfl (by have:=h.len;omega) (by omega) zl
  (fun p hp=>⟨(zJ _ (pts p hp).1).1,by rw[(pts p hp).2];exact(zJ _ (pts p hp).1).2 i hi⟩) (by omega) (by decide) (by omega) (by omega) (by omega)
  (fun p hp r u=>by
   have d:=zOb hw hc hS js jd hi u (h.den p hp);obtain⟨_,v2,v3⟩:=u.val ln.1 la
   exact(zDS v2 v3 hS d).mono (by omega))
  (fun y hy=>by
   have key:0<=y/\y<=cR cs i/\Sz 670 y:=by
    rcases hy with⟨q,hq,rfl⟩ | ⟨p,hp,rfl⟩
    ·have b:=fP ln.1 la hq
     exact⟨b.2.2.1,b.2.2.2,by rw[(pts q hq).2];exact(zJ _ (pts q hq).1).2 i hi⟩
    ·exact⟨(h.pt hp).2.1,bl p hp,(zl p hp).1.mono (by omega)⟩
   obtain⟨y0,y1,y2⟩:=key;refine⟨y2,?_⟩
   have v:=vO h.ln.1 h.la y0 y1;rw[h.val y y0 y1] at v ⊢
   have d:=h.yd y 670 y0 y1 (by have:=y2.2;omega)
   exact(zDS v.1 v.2 hc2 d).mono (by omega))
 refine⟨R,e,r1,r2,fun x x0 x1=>?_,by have:=h.len;omega,fun p hp=>?_,fun x e x0 x1 xd=>?_,fun y r e y0 y1 yd u=>?_⟩
 ·have b:=zHo hw hc x0 x1
  rw[r4 x x0 x1,val x x0 x1,h.val _ (b.1 i hi).1 (b.1 i hi).2]
 ·rcases (r5 p hp).2 with⟨q,hq,e⟩ | ⟨q,hq,u⟩
  ·obtain⟨B,b0,b1,d⟩:=jd.2 _ (pts q hq).1
   rw[e];have:=d.le b0
   have:=vB (show 34<=m+34 by omega)
   omega
  ·exact zOb hw hc hS js jd hi u (h.den q hq)
 ·have b:=zHo hw hc x0 x1
  have:=h.yd _ (e+34) (b.1 i hi).1 (b.1 i hi).2 (zQE hw hc hS x0 x1 hi xd)
  rw[show e+(m+34)=e+34+m by omega];exact this
 ·obtain⟨z,uz⟩:=zQe h.ln.1 h.la y0 y1
  have dz:=h.inv y z e y0 y1 yd uz;obtain⟨z1,z2,z3⟩:=uz.val h.ln.1 h.la;obtain⟨x,ux⟩:=zQe ln.1 la z2 z3;have dx:=zOb hw hc hS js jd hi ux dz;obtain⟨x1,x2,x3⟩:=ux.val ln.1 la
  have er:r=x:=u.uniq r1.1 r2 (by rw[r4 x x2 x3,x1,z1]) x2 fun t t0 l=>by
   have t1:t<=(cs.sum:Rat):=QD (Qg l) x3;rw[r4 t t0 t1];exact uz.least h.ln.1 h.la (vO ln.1 la t0 t1).1 (ux.least ln.1 la t0 l)
  rw[er,show e+(m+34)=e+m+34 by omega];exact dx
theorem zFT{c:Int}(c0:0<=c)(c1:c<2^34):∃ l,fY [.int c]=.ok (.v (lnD l))/\CL c c (fun x=>x) 34 32 l/\l=if c=0 then [(0,0)] else [(0,0),((c:Rat),(c:Rat))]:=by
 have yd:∀(x:Rat)(e:Nat),0<=x->x<=(c:Rat)->(x.den:Int)<=2^e->(x.den:Int)<=2^(e+34):=fun x e _ _ h=>Q6 h (vB (by omega))
 have z0:SzQ 40 40 ((0:Rat),(0:Rat)):=by
  have:=(Dn.zero 1).sz (a:=34) (b:=1) (c:=0) (by decide) (by decide) Qh Qh (by decide)
  exact⟨this.mono (by decide),this.mono (by decide)⟩
 by_cases h:c=0
 ·subst h
  have ok:Ok [((0:Rat),(0:Rat))]:=⟨rfl,XJ _ _⟩;have le:lD [((0:Rat),(0:Rat))]=[((0:Rat),(0:Rat))]:=rfl;refine⟨[(0,0)],?_,⟨le ▸ kH ok,rfl,fun x x0 x1=>?_,by show 1<=32;decide,fun p hp=>?_,yd,fun y r e y0 y1 yd u=>?_⟩,by rw[if_pos rfl]⟩
  ·unfold fY
   symm;rw[show D.lst [dp (0,0)]=.lst ([((0:Rat),(0:Rat))].map dp) from rfl,pK (n:=40) (m:=40) (.inl rfl) (by show 1<=100000;decide) (fun p hp=>by rw[Qp.mp hp];exact z0) (by decide) ok];symm;rfl
  ·have:x=0:=by rw[show((0:Int):Rat)=0 from rfl] at x1;grind
   subst this;exact bN ok.2 (i:=0) rfl
  ·rw[Qp.mp hp]
   exact iH 34
  ·obtain⟨_,r0,r1⟩:=u.val ok (e:=(0,0)) rfl
   have:r=0:=by
    have r1':r<=(0:Rat):=r1;grind
   rw[this];exact iH _
 ·have cp:(0:Rat)<(c:Rat):=by exact_mod_cast (show 0<c by omega)
  have ok:Ok [((0:Rat),(0:Rat)),((c:Rat),(c:Rat))]:=⟨rfl,Qo.mpr ⟨fun p hp=>by rw[Qp.mp hp];exact⟨cp,Qg cp⟩,XJ _ _⟩⟩
  have le:lD [((0:Rat),(0:Rat)),((c:Rat),(c:Rat))]=[((0:Rat),(0:Rat)),((c:Rat),(c:Rat))]:=rfl
  have zc:Sz 40 (c:Rat):=by
   have:=(Dn.int 1 c).sz (a:=34) (b:=1) (by decide) (by decide) (Qg cp) Qh c1
   exact this.mono (by decide)
  have val:∀ x:Rat,0<=x->x<=(c:Rat)->aV [((0:Rat),(0:Rat)),((c:Rat),(c:Rat))] x=x:=fun x x0 x1=>by
   rw[cI ok.2 (i:=0) rfl rfl x0 x1];unfold itp;show(0:Rat)+(x-0) / ((c:Rat)-0)*((c:Rat)-0)=x
   have:(x-0) / ((c:Rat)-0)*((c:Rat)-0)=x-0:=Q2 (by grind)
   rw[this];grind
  refine⟨[(0,0),((c:Rat),(c:Rat))],?_,⟨le ▸ kH ok,rfl,fun x x0 x1=>?_,by show 2<=32;decide,fun p hp=>?_,yd,fun y r e y0 y1 yd u=>?_⟩,by rw[if_neg h]⟩
  ·unfold fY
   symm;rw[decide_eq_false h];symm;rw[bR];symm;rw[bR];symm
   rw[show D.lst [dp (0,0),dp ((c:Rat),(c:Rat))]=.lst ([((0:Rat),(0:Rat)),((c:Rat),(c:Rat))].map dp) from rfl,pK (n:=40) (m:=40) (.inl rfl) (by show 2<=100000;decide) (fun p hp=>by
    rcases Qe.mp hp with rfl | hp
    ·exact z0
    ·rw[Qp.mp hp];exact⟨zc,zc⟩) (by decide) ok]
   symm;rfl
  ·exact val x x0 x1
  ·rcases Qe.mp hp with rfl | hp
   ·exact iH 34
   ·rw[Qp.mp hp];exact iH 34
  ·obtain⟨r2,r0,r1⟩:=u.val ok (e:=((c:Rat),(c:Rat))) rfl
   rw[val r r0 r1] at r2;rw[r2];exact Q6 yd (vB (by omega))
def LLg(S:Int)(A:List Int)(f:Rat->List Rat)(m k:Nat)(ls:List (List Pt)):Prop:=ls.length=A.length/\∀ j,j<A.length->CL S (A.getD j 0) (fun x=>(f x).getD j 0) m k (ls.getD j [])
theorem zGs{α:Type}{a b:List α}{j:Nat}{z:α}(h:j<a.length):(a++b).getD j z=a.getD j z:=by
 rw[QB,QB,QO h]
theorem zGC{α:Type}{a b:List α}{j:Nat}{z:α}(h:a.length<=j):(a++b).getD j z=b.getD (j-a.length) z:=by
 rw[QB,QB,QX h]
theorem zQu{S:Int}{A B:List Int}{f g:Rat->List Rat}{m k:Nat}{la lb:List (List Pt)}(ha:LLg S A f m k la)(hb:LLg S B g m k lb)(fl:∀ x,(f x).length=A.length):LLg S (A++B) (fun x=>f x++g x) m k (la++lb):=by
 refine⟨by rw[Qi,Qi,ha.1,hb.1],fun j hj=>?_⟩
 by_cases h:j<A.length
 ·have e:(fun x=>(f x++g x).getD j 0)=fun x=>(f x).getD j 0:=funext fun x=>zGs (by rw[fl];exact h)
  rw[e,zGs h,zGs (by rw[ha.1];exact h)];exact ha.2 j h
 ·have e:(fun x=>(f x++g x).getD j 0)=fun x=>(g x).getD (j-A.length) 0:=funext fun x=>by rw[zGC (by rw[fl];omega),fl]
  rw[e,zGC (by omega),zGC (by rw[ha.1];omega),ha.1];rw[Qi] at hj;exact hb.2 _ (by omega)
theorem yT{α:Type}(l:List α)(a:α):l=(List.range l.length).map fun j=>l.getD j a:=by
 refine V7 fun j=>?_
 rw[Qr];by_cases h:j<l.length
 ·rw[Vg h,Option.map_some,QB,Qu h]
  rfl
 ·rw[QH (by omega),QH (l:=List.range l.length) (by rw[QE];omega)]
  rfl
theorem zII{w:Wy}{ws cs:List Int}{J:List Rat}(hw:w.due ws cs)(hc:Cl cs)(hS:cs.sum<2^34)(js:JS w ws cs J)(lJ:J.length<=30)(zJ:∀ x∈J,Sz 300 x/\∀ i,i<cs.length->Sz 670 (FF w ws cs x i))(jd:Jd cs J){i:Nat}(hi:i<cs.length){A:List Int}{f:Rat->List Rat}{m k:Nat}{ls:List (List Pt)}(hA:∀ c∈A,c<2^34)(h:LLg (cs.getD i 0) A f m k ls)(hm:m<=272)(hk:k<=1000):
  ∃ bf:Nat->List Pt,(∀ j,j<A.length->gI [lnD (ls.getD j []),lnD (wln w ws cs J i)]=.ok (.v (lnD (bf j))))/\LLg cs.sum A (fun x=>f (FF w ws cs x i)) (m+34) (k+30) ((List.range A.length).map bf):=by
 have each:∀ j,j<A.length->∃ R,gI [lnD (ls.getD j []),lnD (wln w ws cs J i)]=.ok (.v (lnD R))/\CL cs.sum (A.getD j 0) (fun x=>(f (FF w ws cs x i)).getD j 0) (m+34) (k+30) R:=fun j hj=>
  zHZ hw hc hS js lJ zJ jd hi (hA _ (Qm (bO hj))) (h.2 j hj) hm hk
 let bf:Nat->List Pt:=fun j=>if hj:j<A.length then Classical.choose (each j hj) else []
 have hb:∀ j (hj:j<A.length),gI [lnD (ls.getD j []),lnD (wln w ws cs J i)]=.ok (.v (lnD (bf j)))/\CL cs.sum (A.getD j 0) (fun x=>(f (FF w ws cs x i)).getD j 0) (m+34) (k+30) (bf j):=fun j hj=>by
  have e:bf j=Classical.choose (each j hj):=dif_pos hj;rw[e];exact XH (each j hj)
 refine⟨bf,fun j hj=>(hb j hj).1,by rw[Qd,QE],fun j hj=>?_⟩
 have e:((List.range A.length).map bf).getD j []=bf j:=by rw[QB,Qr,Vg hj];rfl
 rw[e];exact(hb j hj).2
theorem qU:∀(n N:Nat)(d:D),Gc n d->n<=N->n<=9->∃ Ls:List (List Pt),eE N [d]=.ok (.f (Ls.map lnD))/\LLg (clm n d).sum (clm n d) (SF n d) (34*n) (2+30*n) Ls
 | 0,_,_,h,_,_=>h.1.elim
 | n+1,0,_,_,hN,_=>by omega
 | n+1,N+1,d,g,hN,hn=>by
  rcases g.1 with⟨c,rfl⟩ | ⟨w,ws,ks,rfl,hw,k0,k1,w1,hy,hk⟩
  ·have c01:0<=c/\c<=10^9:=g.2.2 c Qb
   obtain⟨l,el,cl,_⟩:=zFT c01.1 (by omega)
   have se:(clm (n+1) (.tup [.str "boat", .int c])).sum=c:=by show([c]:List Int).sum=c;simp
   refine⟨[l],?_,rfl,fun j hj=>?_⟩
   ·show iL (eE N) _=_
    unfold iL;symm;rw[kB];symm;rw[nM g.1 (by omega) (by show 1<=1000;decide),se];symm;rw[el];symm
   ·have hj':j<1:=hj
    have j0:j=0:=by omega
    subst j0;rw[se];exact⟨cl.ln,cl.la,cl.val,Qv cl.len (by omega),fun p hp=>Q6 (cl.den p hp) (vB (by omega)),fun x e x0 x1 xd=>Q6 (cl.yd x e x0 x1 xd) (vB (by omega)),fun y r e y0 y1 yd u=>Q6 (cl.inv y r e y0 y1 yd u) (vB (by omega))⟩
  ·obtain⟨v,rfl⟩:=zHm hy.1
   have cl:=g.cl hk k0;have l12:(ks.flatMap (clm n)).length<=12:=g.2.1;have hs:(kcl n ks).sum=(clm (n+1) (.tup [.str v.s,.tup (ws.map D.int),.tup ks])).sum:=rT ks;have gs:=g.sum;have due:v.due ws (kcl n ks):=zJh (by rw[eZ];exact hy.2)
   have hS:(kcl n ks).sum<2^34:=by rw[hs];omega
   obtain⟨J,eJ,js,lJ,zJ,jd⟩:=zDF (wd:=.tup (ws.map D.int)) (.inr rfl) (zKU (kcl n ks)) due cl;have ew:((List.range (kcl n ks).length).map fun i=>D.tup ((wln v ws (kcl n ks) J i).map dp))=(List.range' 0 ks.length).map fun i=>lnD (wln v ws (kcl n ks) J i):=by rw[eZ,Yy];rfl
   rw[ew] at eJ
   have loopOk:∀(js':List D)(i:Nat)(acc:List (List Pt))(s t:Sl),(∀ k∈js',k∈ks)->i+js'.length=ks.length->ks.drop i=js'->LLg (kcl n ks).sum ((ks.take i).flatMap (clm n)) (fun x=>SFL (SF n) (FF v ws (kcl n ks) x) (ks.take i) 0) (34*n+34) (2+30*n+30) acc->∃ xs s' t',LLg (kcl n ks).sum (ks.flatMap (clm n)) (fun x=>SFL (SF n) (FF v ws (kcl n ks) x) ks 0) (34*n+34) (2+30*n+30) xs/\
     loop (zGK (nX (gName 3) (nX (gName 4) zHJ))) (rY (eE N)) (jV js' ((List.range' i js'.length).map fun i=>lnD (wln v ws (kcl n ks) J i))) [.val (.tup [.str v.s,.tup (ws.map D.int),.tup ks]),.val (.lst ((List.range' 0 ks.length).map fun i=>lnD (wln v ws (kcl n ks) J i))),.own (acc.map lnD),s,t]=
      .ok (.nx [.val (.tup [.str v.s,.tup (ws.map D.int),.tup ks]),.val (.lst ((List.range' 0 ks.length).map fun i=>lnD (wln v ws (kcl n ks) J i))),.own (xs.map lnD),s',t']):=by
    intro js'
    induction js' with
    | nil=>
     intro i acc s t _ h1 _ h2;rw[Vh,Yz] at h1;rw[h1,Q9] at h2;exact⟨acc,s,t,h2,rfl⟩
    | cons k r ih=>
     intro i acc s t hm' hl' hd' ha;have hik:i<ks.length:=by rw[Qn] at hl';omega
     have ik:k∈ks:=hm' k Qb;have gk:=g.kid hk ik
     have ki:ks[i]?=some k:=by
      have:=Ys (xs:=ks) (i:=i) (j:=0)
      rw[hd'] at this;simpa using this.symm
     obtain⟨i1,i2⟩:=zEE (n:=n) ki
     have ci:(kcl n ks).getD i 0=(clm n k).sum:=by
      unfold kcl;rw[QB,Qr,ki];rfl
     obtain⟨lk,ek,sk⟩:=qU n N k gk (by omega) (by omega)
     rw[<-ci] at sk;obtain⟨bf,b1,b2⟩:=zII due cl hS js lJ zJ jd i1 (fun c hc=>by have:=(gk.2.2 c hc).2;omega) sk (by omega) (by omega)
     have tk:ks.take (i+1)=ks.take i++[k]:=by rw[List.take_add_one,ki];rfl
     have lt:(ks.take i).length=i:=by rw[Vt];omega
     have nx:LLg (kcl n ks).sum ((ks.take (i+1)).flatMap (clm n)) (fun x=>SFL (SF n) (FF v ws (kcl n ks) x) (ks.take (i+1)) 0) (34*n+34) (2+30*n+30) (acc++(List.range (clm n k).length).map bf):=by
      have q:=zQu ha b2 fun x=>zDb fun k' hk' q=>zLw (hk k' (VI hk')) q
      rw[tk,QS,QT,List.flatMap_nil,QW]
      have e:(fun x=>SFL (SF n) (FF v ws (kcl n ks) x) (ks.take i++[k]) 0)=fun x=>SFL (SF n) (FF v ws (kcl n ks) x) (ks.take i) 0++SF n k (FF v ws (kcl n ks) x i):=funext fun x=>by
       rw[zJj,lt,VC];show _++(SF n k (FF v ws (kcl n ks) x i)++[])=_
       rw[QW]
      rw[e];exact q
     obtain⟨xs,s',t',sy,ey⟩:=ih (i+1) (acc++(List.range (clm n k).length).map bf) (.val k) (.val (lnD (wln v ws (kcl n ks) J i))) (fun x hx=>hm' x (Qc _ hx)) (by rw[Qn] at hl';omega) (by rw[<-List.drop_drop,hd'];rfl) nx
     refine⟨xs,s',t',sy,?_⟩
     have la:=nx.1;have lf:((ks.take (i+1)).flatMap (clm n)).length<=(ks.flatMap (clm n)).length:=zKW;rw[Qi,Qd,QE] at la;have lk':lk.length=(clm n k).length:=sk.1;rw[yT lk [],lk',Qw] at ek;rw[Qn,List.range'_succ,Qq,show jV (k::r) (lnD (wln v ws (kcl n ks) J i)::(List.range' (i+1) r.length).map fun i=>lnD (wln v ws (kcl n ks) J i))=.tup [k,lnD (wln v ws (kcl n ks) J i)]::jV r ((List.range' (i+1) r.length).map fun i=>lnD (wln v ws (kcl n ks) J i)) from rfl]
     rw[eM (ρ1:=[.val (.tup [.str v.s,.tup (ws.map D.int),.tup ks]),.val (.lst ((List.range' 0 ks.length).map fun i=>lnD (wln v ws (kcl n ks) J i))),.own (acc.map lnD),.val k,.val (lnD (wln v ws (kcl n ks) J i))]) (ρ2:=[.val (.tup [.str v.s,.tup (ws.map D.int),.tup ks]),.val (.lst ((List.range' 0 ks.length).map fun i=>lnD (wln v ws (kcl n ks) J i))),.own ((acc++(List.range (clm n k).length).map bf).map lnD),.val k,.val (lnD (wln v ws (kcl n ks) J i))]) (by symm) (by
      symm;rw[ek];symm
      rw[eR (u:=lnD ∘ fun j=>lk.getD j []) (g:=fun j=>lnD (bf j)) (by rw[QE];omega) (fun j hj=>by
       symm;rw[show(lnD ∘ fun j=>lk.getD j []) j=lnD (lk.getD j []) from rfl,b1 j (Qk.mp hj)]
       symm)]
      symm;rw[if_pos (by simp only[Qd,QE];omega),QC,Qw]
      rfl),ey]
   obtain⟨xs,s',t',sx,ex⟩:=loopOk ks 0 [] .un .un (fun k h=>h) (by omega) rfl ⟨rfl,fun j hj=>absurd hj (Nat.not_lt_zero j)⟩
   refine⟨xs,?_,?_⟩
   ·show iL (eE N) _=_
    unfold iL;symm;rw[kC hw];symm;rw[nI];symm;rw[lX];symm;rw[sA hw hk (by omega) (by omega)];symm;rw[eJ];symm;rw[gF hw];symm;rw[oR rfl rfl];symm;rw[Vm] at ex;rw[ex];rfl
   ·have e:(fun x=>SFL (SF n) (FF v ws (kcl n ks) x) ks 0)=SF (n+1) (.tup [.str v.s,.tup (ws.map D.int),.tup ks]):=funext fun x=>(mI n v ws ks x).symm
    rw[e,hs] at sx;exact sx
theorem zDi{c W:Int}(h0:0<=W)(h1:W<2^34):∃ q:Rat,iQ [.int c,.int W]=.ok (.v (dq q))/\0<=q/\q<=(W:Rat)/\(q.den:Int)<2^30:=by
 have rest:∀ b:Int,0<b->b<=10^9->∃ q:Rat,(kK [.val (.int c),.val (.int W),.val (.int b)]).bind fin=.ok (.v (dq q))/\0<=q/\q<=(W:Rat)/\(q.den:Int)<2^30:=by
  intro b p1 p2;have wb:0<=W*b:=XA h0 (by omega)
  have t0:=QP (c / 4) (show W*b+1≠0 by omega)
  have t1:=QR (c / 4) (show 0<W*b+1 by omega)
  symm;rw[oMul_i (dH (m:=34) (n:=30) (by omega) (by omega) (by decide))];symm;rw[oMod_i (show W*b+1≠0 by omega),fmod_pos _ (show 0<W*b+1 by omega)];symm;generalize c / 4 % (W*b+1)=t at t0 t1 ⊢;rw[zFL (n:=30) p1 (by omega) (by decide)];symm;refine⟨_,rfl,zIA t0 p1,?_,Int.lt_of_le_of_lt (Q6 (zCz p1) p2) (by decide)⟩
  rw[VD];have p:(0:Rat)<(b:Rat):=by exact_mod_cast p1
  refine oB p ?_
  rw[Q2 (by grind),<-QL];exact Vd.mpr (by omega)
 unfold iQ;symm;rcases (show c % 4=0∨c % 4=1∨c % 4=2∨c % 4=3 by omega) with h | h | h | h<;>(simp only[h,zRz];generalize hK:(kK:Sv)=K;symm; subst hK)
 ·exact rest 1 (by decide) (by decide)
 ·exact rest (1+c / 4 % 12) (by omega) (by omega)
 ·exact rest 2 (by decide) (by decide)
 ·have a:=QP (c / 4) (show(10:Int)^9≠0 by decide)
  have b:=QR (c / 4) (show(0:Int)<10^9 by decide)
  exact rest (1+c / 4 % 10^9) (by omega) (by omega)
def clp(A c x:Rat):Rat:=mn (ps0 (x-A)) c
theorem zNy{cs:List Int}(hc:∀ c∈cs,0<=c){i:Nat}(hi:i<cs.length):0<=(cs.take i).sum/\(cs.take i).sum+cs.getD i 0<=cs.sum:=by
 have nn:∀ l:List Int,(∀ c∈l,0<=c)->0<=l.sum:=fun l h=>by
  induction l with
  | nil=>exact Vb 0
  | cons a l ih=>rw[Qx];have:=h a Qb;have:=ih fun c hc=>h c (Qc _ hc);omega
 have e:cs.sum=(cs.take i).sum+(cs.getD i 0+(cs.drop (i+1)).sum):=by
  have h1:cs=cs.take i++(cs.getD i 0::cs.drop (i+1)):=by
   rw[QB,Qu hi];show cs=cs.take i++(cs[i]::cs.drop (i+1))
   rw[<-Xw hi,VW]
  have h2:=congrArg List.sum h1;rw[Vl,Qx] at h2;exact h2
 have a:=nn (cs.take i) fun c h=>hc c (VI h)
 have b:=nn (cs.drop (i+1)) fun c h=>hc c (Yt h)
 exact⟨a,by omega⟩
def isW(v:Wy):Prop:=v=.row∨v=.back∨v=.part
def phi(v:Wy)(S A c:Int)(x:Rat):Rat:=match v with
 | .row=>clp (A:Rat) (c:Rat) x
 | .back=>clp ((S-A-c:Int):Rat) (c:Rat) x
 | _=>x*(c:Rat) / (S:Rat)
theorem zPJ{v:Wy}(hv:isW v){cs:List Int}(hc:Cl cs){x:Rat}(x0:0<=x)(x1:x<=(cs.sum:Rat)){i:Nat}(hi:i<cs.length):FF v [] cs x i=phi v cs.sum (cs.take i).sum (cs.getD i 0) x:=by
 have t:=zNy hc.nn hi;have c0:=hc.nn _ (Qm (bO hi));rcases hv with rfl | rfl | rfl
 ·rw[<-rF (M:=0) (w:=.row) (f:=zBb cs x) rfl hc x0 x1 (fun j _=>rfl) hi]
  unfold zBb;rw[rE cs 0 x i hi,XI];rfl
 ·have q0:(0:Rat)<=((cs.take i).sum:Rat):=Xg.mpr t.1
  have qc:(0:Rat)<=(cs.getD i 0:Rat):=Xg.mpr c0;have q1:((cs.take i).sum:Rat)+(cs.getD i 0:Rat)<=(cs.sum:Rat):=by rw[<-QJ];exact Vd.mpr t.2
  rw[<-rF (M:=0) (w:=.back) (f:=fun j=>cR cs j-zBb cs ((cs.sum:Rat)-x) j) rfl hc x0 x1 (fun j _=>rfl) hi];unfold zBb;rw[rE cs 0 _ i hi,XI];unfold phi;rw[Yn,Yn];unfold clp mn ps0 cR;grind
 ·rw[<-rF (M:=0) (w:=.part) (f:=iY cs x) rfl hc x0 x1 (fun j _=>rfl) hi]
  obtain⟨p1,p2⟩:=gZ (q:=x) hc hi;unfold phi;by_cases z:cs.sum=0
  ·have e0:cs.getD i 0=0:=by omega
   rw[p2 z,e0,z];rw[show((0:Int):Rat)=0 from rfl];grind
  ·have S0:=hc.sum.1
   have W:(cs.sum:Rat)≠0:=fun y=>z (by exact_mod_cast y)
   have:x*(cs.getD i 0:Rat) / (cs.sum:Rat)*(cs.sum:Rat)=x*(cs.getD i 0:Rat):=Q2 W
   exact jH W (by rw[p1,this];rfl)
theorem zJi{A C a c x:Rat}(a0:0<=a)(c0:0<=c)(ac:a+c<=C):clp a c (clp A C x)=clp (A+a) c x:=by
 unfold clp mn ps0;grind
theorem zMT{v:Wy}(hv:isW v){S A C a c:Int}{x:Rat}(a0:0<=a)(c0:0<=c)(ac:a+c<=C)(A0:0<=A)(AS:A+C<=S):phi v C a c (phi v S A C x)=phi v S (A+a) c x:=by
 have ra:(0:Rat)<=(a:Rat):=Xg.mpr a0;have rc:(0:Rat)<=(c:Rat):=Xg.mpr c0;rcases hv with rfl | rfl | rfl
 ·show clp (a:Rat) (c:Rat) (clp (A:Rat) (C:Rat) x)=clp ((A+a:Int):Rat) (c:Rat) x
  rw[zJi ra rc (by rw[<-QJ];exact Vd.mpr ac),QJ]
 ·show clp ((C-a-c:Int):Rat) (c:Rat) (clp ((S-A-C:Int):Rat) (C:Rat) x)=clp ((S-(A+a)-c:Int):Rat) (c:Rat) x
  rw[zJi (Xg.mpr (by omega)) rc (by rw[<-QJ];exact Vd.mpr (by omega)),<-QJ,show S-A-C+(C-a-c)=S-(A+a)-c by omega]
 ·show x*(C:Rat) / (S:Rat)*(c:Rat) / (C:Rat)=x*(c:Rat) / (S:Rat)
  by_cases z:C=0
  ·have e0:c=0:=by omega
   rw[e0,z,show((0:Int):Rat)=0 from rfl];grind
  ·have W:(C:Rat)≠0:=fun y=>z (by exact_mod_cast y)
   have:(C:Rat)*(C:Rat)⁻¹=1:=Vi _ W
   rw[QI,QI,QI];grind
def SFp(n:Nat)(v:Wy)(S:Int)(q:Rat):Int->List D->List Rat
 | _,[]=>[]
 | A,k::ks=>SF n k (phi v S A (clm n k).sum q)++SFp n v S q (A+(clm n k).sum) ks
theorem zAm{n:Nat}{v:Wy}(hv:isW v){ks:List D}(hc:Cl (kcl n ks)){q:Rat}(q0:0<=q)(q1:q<=((kcl n ks).sum:Rat)):∀(post pre:List D),ks=pre++post->SFL (SF n) (FF v [] (kcl n ks) q) post pre.length=SFp n v (kcl n ks).sum q (kcl n pre).sum post
 | [],_,_=>rfl
 | k::r,pre,e=>by
  have hi:pre.length<(kcl n ks).length:=by rw[eZ,e,Qi,Qn];omega
  have tk:(kcl n ks).take pre.length=kcl n pre:=by
   unfold kcl;rw[e,QC,<-Qd (as:=pre) (f:=fun k=>(clm n k).sum)];exact List.take_left
  have gd:(kcl n ks).getD pre.length 0=(clm n k).sum:=by
   unfold kcl;rw[e,QB,Qr,QX (Qf _),VS];rfl
  have ih:=zAm hv hc q0 q1 r (pre++[k]) (by rw[e,Q4];rfl)
  have ks1:(kcl n (pre++[k])).sum=(kcl n pre).sum+(clm n k).sum:=by
   unfold kcl;rw[QC,Vl];simp
  rw[Qi,ks1] at ih;show SF n k (FF v [] (kcl n ks) q pre.length)++SFL (SF n) (FF v [] (kcl n ks) q) r (pre.length+1)=SF n k (phi v (kcl n ks).sum (kcl n pre).sum (clm n k).sum q)++SFp n v (kcl n ks).sum q ((kcl n pre).sum+(clm n k).sum) r
  rw[zPJ hv hc q0 q1 hi,tk,gd];exact congrArg _ ih
theorem zDh:∀ {n m:Nat} {d:D},IsC n d->n<=m->∀ q,SF m d q=SF n d q
 | 0,_,_,h,_,_=>h.elim
 | n+1,0,_,_,l,_=>absurd l (by omega)
 | n+1,m+1,d,h,l,q=>by
  rcases h with⟨c,rfl⟩ | ⟨w,ws,ks,rfl,hw,k0,k1,w1,hy,hk⟩
  ·rfl
  ·obtain⟨v,rfl⟩:=zHm hy.1
   rw[mI,mI];have kc:kcl m ks=kcl n ks:=QG fun k hm=>by rw[dZ (hk k hm) (by omega)]
   rw[kc]
   have:∀(js:List D)(i:Nat),(∀ k∈js,k∈ks)->SFL (SF m) (FF v ws (kcl n ks) q) js i=SFL (SF n) (FF v ws (kcl n ks) q) js i:=by
    intro js
    induction js with
    | nil=>intro i _;rfl
    | cons k r ih=>
     intro i hm;show SF m k _++_=SF n k _++_
     rw[zDh (hk k (hm k Qb)) (by omega),ih (i+1) fun x hx=>hm x (Qc _ hx)]
   exact this ks 0 fun k h=>h
theorem zJa(n:Nat)(v:Wy)(S:Int)(q:Rat):∀(a b:List D)(A:Int),SFp n v S q A (a++b)=SFp n v S q A a++SFp n v S q (A+(kcl n a).sum) b
 | [],b,A=>by
  show SFp n v S q A b=SFp n v S q (A+0) b
  rw[Yr]
 | k::a,b,A=>by
  show SF n k _++SFp n v S q (A+(clm n k).sum) (a++b)=(SF n k _++SFp n v S q (A+(clm n k).sum) a)++SFp n v S q (A+(kcl n (k::a)).sum) b
  rw[zJa n v S q a b,Q4,show(kcl n (k::a)).sum=(clm n k).sum+(kcl n a).sum by unfold kcl;rw[Qq,Qx],XG]
def gcL(ws:List Int):Int:=ws.foldl (fun a b=>(Int.gcd a b:Int)) 0
def dvl(ws:List Int):List Int:=ws.map fun x=>x / gcL ws
theorem yM:∀(ws:List Int)(a:Int),ws.foldl (fun a b=>(Int.gcd a b:Int)) a ∣ a/\∀ x∈ws,ws.foldl (fun a b=>(Int.gcd a b:Int)) a ∣ x
 | [],a=>⟨Int.dvd_refl a,fun x h=>by cases h⟩
 | y::r,a=>by
  have ih:=yM r (Int.gcd a y:Int);refine⟨Yk ih.1 (Xn ..),fun x h=>?_⟩
  rcases Qe.mp h with rfl | h
  ·exact Yk ih.1 (Xo ..)
  ·exact ih.2 x h
theorem zLE:∀(ws:List Int)(a c:Int),c ∣ a->(∀ x∈ws,c ∣ x)->c ∣ ws.foldl (fun a b=>(Int.gcd a b:Int)) a
 | [],a,c,h,_=>h
 | y::r,a,c,h,hr=>zLE r _ c (Int.dvd_coe_gcd h (hr y Qb)) fun x hx=>hr x (Qc _ hx)
theorem zOz:∀(ws:List Int)(a:Int),0<=a->0<=ws.foldl (fun a b=>(Int.gcd a b:Int)) a
 | [],_,h=>h
 | _::r,_,_=>zOz r _ (Vx _)
theorem zCt{ws:List Int}(hp:∀ x∈ws,1<=x/\x<=10^6)(hn:ws≠[]):0<gcL ws/\gcL ws<=10^6:=by
 cases ws with
 | nil=>exact absurd rfl hn
 | cons y r=>
  have h:=hp y Qb;have d:=(yM (y::r) 0).2 y Qb;have l:=YA (by omega) d
  have n:=zOz (y::r) 0 (by omega)
  have z:gcL (y::r)≠0:=fun z=>by
   have d':gcL (y::r) ∣ y:=d;rw[z] at d';have:=Int.zero_dvd.mp d'
   omega
  have l':gcL (y::r)<=y:=l;have n':0<=gcL (y::r):=n;omega
theorem zE{ws:List Int}(hp:∀ x∈ws,1<=x/\x<=10^6):∀ x∈dvl ws,1<=x/\x<=10^6:=by
 intro x hx;obtain⟨y,hy,rfl⟩:=Qj.mp hx;have g:=zCt hp (List.ne_nil_of_mem hy);have h:=hp y hy;have d:gcL ws ∣ y:=(yM ws 0).2 y hy;have l:=YA (by omega) d
 have q1:1<=y / gcL ws:=(Int.le_ediv_iff_mul_le g.1).mpr (by omega)
 have q2:y / gcL ws<=y:=Int.ediv_le_self _ (by omega)
 omega
theorem zNf{ws:List Int}(hp:∀ x∈ws,1<=x/\x<=10^6):dvl (dvl ws)=dvl ws:=by
 by_cases hn:ws=[]
 ·subst hn;rfl
 have g:=zCt hp hn;have hn2:dvl ws≠[]:=fun z=>hn (List.map_eq_nil_iff.mp z)
 have g2:=zCt (zE hp) hn2
 have m:gcL ws*gcL (dvl ws) ∣ gcL ws:=zLE ws 0 _ (Int.dvd_zero _) fun x hx=>by
  have d1:gcL ws ∣ x:=(yM ws 0).2 x hx;have d2:gcL (dvl ws) ∣ x / gcL ws:=(yM (dvl ws) 0).2 _ (Qj.mpr ⟨x,hx,rfl⟩);rw[<-Int.mul_ediv_cancel' d1];exact Int.mul_dvd_mul_left _ d2
 have one:gcL (dvl ws)=1:=by
  have l:=YA g.1 m
  have:gcL (dvl ws)<=1:=by
   rcases Int.lt_or_le 1 (gcL (dvl ws)) with h | h
   ·have:gcL ws*2<=gcL ws*gcL (dvl ws):=YR (by omega) (by omega)
    omega
   ·exact h
  omega
 show(dvl ws).map (fun x=>x / gcL (dvl ws))=_
 rw[one,QG (g:=id) fun x _=>Int.ediv_one x,XB]
theorem zGQ{ws:List Int}{d:D}(hd:d=.lst (ws.map D.int)∨d=.tup (ws.map D.int))(hl:ws.length<=100)(hp:∀ x∈ws,1<=x/\x<=10^6):kG [d]=.ok (.f ((dvl ws).map D.int)):=by
 have sq:zJp d=.ok (ws.map D.int):=by rcases hd with rfl | rfl<;>rfl
 unfold kG;symm;rw[sq];symm;refine kJ (Q:=fun r=>r.bind fin=.ok (.f ((dvl ws).map D.int))) (fun i ρ=>∃ a,ρ=[.val d,.val (.int ((ws.take i).foldl (fun a b=>(Int.gcd a b:Int)) 0)),a]) ⟨_,rfl⟩ ?_ ?_
 ·rintro i e ρ he ⟨a,rfl⟩
  rw[Qr] at he
  cases hx:ws[i]? with
  | none=>rw[hx] at he;cases he
  | some x=>
   rw[hx] at he;cases he;symm;rw[lK];symm;refine⟨_,rfl,.val (.int x),?_⟩
   rw[kD hx,List.foldl_append];rfl
 ·rintro ρ' ⟨a,rfl⟩
  rw[Qd,Q9];show((gH (jR (qE (aI 0)) iZ (eOp uV (aI 3) (aI 1))) [.val d,.val (.int (gcL ws)),a]).bind fin)=_
  symm;rw[sq];symm;have g0:ws≠[]->0<gcL ws/\gcL ws<=10^6:=zCt hp
  rw[eR (u:=D.int) (g:=fun x=>.int (x / gcL ws)) (by omega) (fun x hx=>by
   have:=g0 (List.ne_nil_of_mem hx)
   symm
   rw[oDiv_i (okDiv_lit (by omega) (by omega)),XY _ (by omega)])]
  symm;unfold dvl;rw[Qw];rfl
def isO(w:Str):Prop:=w = "row" ∨ w = "back" ∨ w = "part"
instance (w:Str):Decidable (isO w):=by unfold isO;exact inferInstance
def op1(w:Str)(k:D):List D:=match k with
 | .tup [.str v,_,.tup kk]=>if v=w then kk else [k]
 | k=>[k]
def opw(w:Str)(ks:List D):List D:=if isO w then ks.flatMap (op1 w) else ks
theorem zKA{w:Str}:xX (.str w) (.tup [.str "row", .str "back", .str "part"])=.ok (.bl (!decide (isO w))):=by
 show(if depS [D.str "row", D.str "back", D.str "part"]<=50 then Res.ok (D.bl (!(((Str.ofString "row")==w) || (((Str.ofString "back")==w) || (((Str.ofString "part")==w) || false))))) else .no)=_
 rw[if_pos (by decide),Yi];congr 3
 by_cases h:isO w
 ·rw[decide_eq_true h]
  rcases h with rfl | rfl | rfl<;>decide
 ·rw[decide_eq_false h,beq_eq_false_iff_ne.mpr fun z=>h (.inl z.symm),beq_eq_false_iff_ne.mpr fun z=>h (.inr (.inl z.symm)),beq_eq_false_iff_ne.mpr fun z=>h (.inr (.inr z.symm))];rfl
theorem zOB{ks:List D}{w:Str}{i:Nat}:((ks.take i).flatMap (op1 w)).length<=(ks.flatMap (op1 w)).length:=by
 conv=>rhs;rw[<-VW i ks,QS,Qi]
 exact Nat.le_add_right _ _
theorem zNZ{ks:List D}{w:Str}{k:D}(h:k∈ks):(op1 w k).length<=(ks.flatMap (op1 w)).length:=by
 obtain⟨a,b,rfl⟩:=List.append_of_mem h;rw[QS,QT,Qi,Qi];omega
theorem zJO{w:Str}{ks:List D}{n:Nat}(hw:w∈wys)(hk:∀ k∈ks,IsC n k)(hl:(ks.flatMap (op1 w)).length<=1000):∃ r:Rt,nQ [.str w,.lst ks]=.ok r/\r.d=.lst (opw w ks):=by
 unfold nQ;symm;rw[zKA];by_cases ho:isO w
 ·rw[decide_eq_true ho]
  symm;refine kJ (Q:=fun r=>∃ r':Rt,r.bind fin=.ok r'/\r'.d=.lst (opw w ks)) (fun i ρ=>∃ a,ρ=[.val (.str w),.val (.lst ks),.own ((ks.take i).flatMap (op1 w)),a]) ⟨_,rfl⟩ ?_ ?_
  ·rintro i e ρ he ⟨a,rfl⟩
   have hm:=Qm he;have l1:=zNZ (w:=w) hm;have l2:=zOB (ks:=ks) (w:=w) (i:=i)
   have nx:(ks.take (i+1)).flatMap (op1 w)=(ks.take i).flatMap (op1 w)++op1 w e:=by
    rw[kD he,QS];simp[List.flatMap]
   cases n with
   | zero=>exact(hk e hm).elim
   | succ n=>
    rcases hk e hm with⟨c,rfl⟩ | ⟨v,ws,kk,rfl,hv,k0,k1,w1,hy,hkk⟩
    ·symm
     rw[nI];symm;rw[show((Str.ofString "boat")==w)=false by rw[beq_eq_false_iff_ne];intro z;have:=(zD hw).2;rw[<-z] at this;exact absurd this (by decide)];symm;rw[if_pos (by omega)];refine⟨_,rfl,.val (.tup [.str "boat", .int c]),?_⟩
     rw[nx];rfl
    ·symm
     rw[nI];symm;by_cases c:v=w
     ·rw[show(v==w)=true from beq_iff_eq.mpr c]
      symm;rw[gF hv];symm;have e1:op1 w (.tup [.str v,.tup (ws.map D.int),.tup kk])=kk:=if_pos c;rw[e1] at nx l1;rw[if_pos (by omega)];exact⟨_,rfl,.val (.tup [.str v,.tup (ws.map D.int),.tup kk]),by rw[nx]⟩
     ·rw[show(v==w)=false from beq_eq_false_iff_ne.mpr c]
      symm;have e1:op1 w (.tup [.str v,.tup (ws.map D.int),.tup kk])=[.tup [.str v,.tup (ws.map D.int),.tup kk]]:=if_neg c;rw[e1] at nx;rw[if_pos (by omega)];exact⟨_,rfl,.val (.tup [.str v,.tup (ws.map D.int),.tup kk]),by rw[nx]⟩
  ·rintro ρ' ⟨a,rfl⟩
   symm;rw[Q9];exact⟨_,rfl,by unfold opw;rw[if_pos ho]⟩
 ·rw[decide_eq_false ho]
  symm;exact⟨_,rfl,by unfold opw;rw[if_neg ho]⟩
def dvD(ws:List D):List D:=match jX ws with
 | some wi=>(dvl wi).map D.int
 | none=>ws
theorem zAF(ws:List Int):dvD (ws.map D.int)=(dvl ws).map D.int:=by
 unfold dvD;rw[show jX (ws.map D.int)=some ws by have:=qI (fun x:Int=>x) ws;simpa using this]
def pl1(w:Str)(ws:List D):List D->D
 | [k]=>k
 | ks=>.tup [.str w,.tup (dvD ws),.tup (opw w ks)]
def pln:Nat->D->D
 | 0,d=>d
 | n+1,d=>match d with
  | .tup [.str w,.tup ws,.tup ks]=>pl1 w ws (ks.map (pln n))
  | d=>d
theorem zIH:∀ {n:Nat} {d:D},IsC n d->1<=(clm n d).length
 | 0,_,h=>h.elim
 | n+1,d,h=>by
  rcases h with⟨c,rfl⟩ | ⟨w,ws,ks,rfl,hw,k0,k1,w1,hy,hk⟩
  ·exact Qf 1
  ·cases ks with
   | nil=>cases k0
   | cons k r=>exact Qv (zIH (hk k Qb)) (wW (n:=n) Qb)
theorem zEQ:∀ {n:Nat} {ks:List D},(∀ k∈ks,IsC n k)->ks.length<=(ks.flatMap (clm n)).length
 | _,[],_=>QY _
 | n,k::r,h=>by
  rw[QT,Qi,Qn];have h1:=zIH (h k Qb);have h2:=zEQ fun x hx=>h x (Qc _ hx)
  omega
theorem zPf{n:Nat}{w:Str}{k:D}(h:IsC n k):(∀ x∈op1 w k,IsC n x)/\(op1 w k).flatMap (clm n)=clm n k:=by
 cases n with
 | zero=>exact h.elim
 | succ n=>
  have h0:=h;rcases h with⟨c,rfl⟩ | ⟨v,ws,kk,rfl,hv,k0,k1,w1,hy,hkk⟩
  ·exact⟨fun x hx=>by rw[Qp.mp hx];exact h0,by show [D.tup [.str "boat", .int c]].flatMap _=_;simp[List.flatMap]⟩
  ·by_cases c:v=w
   ·have e1:op1 w (.tup [.str v,.tup (ws.map D.int),.tup kk])=kk:=if_pos c
    rw[e1];refine⟨fun x hx=>eS (hkk x hx) (VU n),?_⟩
    show kk.flatMap (clm (n+1))=kk.flatMap (clm n)
    rw[Ve,Ve,QG fun x hx=>dZ (hkk x hx) (VU n)]
   ·have e1:op1 w (.tup [.str v,.tup (ws.map D.int),.tup kk])=[.tup [.str v,.tup (ws.map D.int),.tup kk]]:=if_neg c
    rw[e1];exact⟨fun x hx=>by rw[Qp.mp hx];exact h0,by simp[List.flatMap]⟩
theorem zEd{n:Nat}{w:Str}:∀ {ks:List D},(∀ k∈ks,IsC n k)->(∀ x∈ks.flatMap (op1 w),IsC n x)/\(ks.flatMap (op1 w)).flatMap (clm n)=ks.flatMap (clm n)
 | [],_=>⟨fun x h=>(by cases h),rfl⟩
 | k::r,h=>by
  have h1:=zPf (w:=w) (h k Qb);have h2:=zEd (w:=w) (ks:=r) fun x hx=>h x (Qc _ hx)
  rw[QT];refine⟨fun x hx=>?_,?_⟩
  ·rcases QF.mp hx with hx | hx
   ·exact h1.1 x hx
   ·exact h2.1 x hx
  ·rw[QS,h1.2,h2.2,QT]
theorem zPt{n:Nat}{w:Str}{ks:List D}(h:∀ k∈ks,IsC n k):(∀ x∈opw w ks,IsC n x)/\(opw w ks).flatMap (clm n)=ks.flatMap (clm n):=by
 unfold opw;by_cases c:isO w
 ·rw[if_pos c];exact zEd h
 ·rw[if_neg c];exact⟨h,rfl⟩
theorem qY:∀(n m:Nat)(d:D),IsC n d->n<=m->n<=8->(clm n d).length<=12->kW m [d]=.ok (.v (pln n d))/\IsC n (pln n d)/\clm n (pln n d)=clm n d
 | 0,_,_,h,_,_,_=>h.elim
 | n+1,0,_,_,l,_,_=>absurd l (by omega)
 | n+1,m+1,d,h,l,l8,hl=>by
  show zAP (kW m) [d]=_/\_
  unfold zAP;symm;rcases h with⟨c,rfl⟩ | ⟨w,ws,ks,rfl,hw,k0,k1,w1,hy,hk⟩
  ·rw[kB]
   symm;exact⟨rfl,.inl ⟨c,rfl⟩,rfl⟩
  ·have hl':(ks.flatMap (clm n)).length<=12:=hl
   have ih:∀ k∈ks,kW m [k]=.ok (.v (pln n k))/\IsC n (pln n k)/\clm n (pln n k)=clm n k:=fun k h=>qY n m k (hk k h) (by omega) (by omega) (Qv (wW h) hl')
   have fm:(ks.map (pln n)).flatMap (clm n)=ks.flatMap (clm n):=by rw[Xe,Ve,QG fun k h=>(ih k h).2.2,<-Ve]
   have ic:∀ k∈ks.map (pln n),IsC n k:=fun k hm=>by obtain⟨x,hx,rfl⟩:=Qj.mp hm;exact(ih x hx).2.1
   have ln:(ks.map (pln n)).length=ks.length:=Qd _;rw[kC hw];symm;rw[gF hw];symm
   have e:=eR (u:=fun k=>k) (g:=fun k=>pln n k) (l:=ks) (f:=aN (kW m) (aD (aI 2) aNil)) (ρ:=[.val (.tup [.str w,.tup (ws.map D.int),.tup ks]),.un]) (by omega) (fun k hm=>by
    symm;rw[(ih k hm).1]
    symm)
   rw[Yu] at e;rw[e];symm;show _=Res.ok (Rt.v (pl1 w (ws.map D.int) (ks.map (pln n))))/\IsC (n+1) (pl1 w (ws.map D.int) (ks.map (pln n)))/\clm (n+1) (pl1 w (ws.map D.int) (ks.map (pln n)))=ks.flatMap (clm n)
   by_cases c1:ks.length=1
   ·obtain⟨k,ek⟩:=List.length_eq_one_iff.mp (ln.trans c1)
    rw[ek];rw[ek] at fm ic;rw[decide_eq_true (by omega)];symm;rw[show oIx (.lst [k]) (.int 0)=.ok k from rfl];symm;have hk':=ic k Qb;refine⟨rfl,eS hk' (VU n),?_⟩
    show clm (n+1) k=_
    rw[dZ hk' (VU n),<-fm];simp[List.flatMap]
   ·rw[decide_eq_false (by omega)]
    symm;rw[nI];symm;rw[lX];symm
    have fine:∀ x∈ws,1<=x/\x<=10^6:=by
     rcases hy.2 with⟨_,_,h⟩ | ⟨_,rfl⟩
     ·exact h
     ·intro x hx;cases hx
    rw[zGQ (.inr rfl) w1 fine];symm;rw[nI];symm;have oo:=zEd (w:=w) ic;have ob:((ks.map (pln n)).flatMap (op1 w)).length<=12:=Qv (zEQ oo.1) (by rw[oo.2,fm];exact hl')
    have ow:=zPt (w:=w) ic;have owl:(opw w (ks.map (pln n))).length<=12:=Qv (zEQ ow.1) (by rw[ow.2,fm];exact hl')
    have ow0:0<(opw w (ks.map (pln n))).length:=by
     have h1:=zEQ ic;rw[<-ow.2,ln] at h1
     cases hz:opw w (ks.map (pln n)) with
     | nil=>
      rw[hz] at h1;have h2:ks.length<=0:=h1;omega
     | cons a r=>exact VT _
    have wk:wOK w (dvl ws) (opw w (ks.map (pln n))).length:=by
     rcases hy.2 with⟨h1,h2,h3⟩ | ⟨h1,rfl⟩
     ·refine .inl ⟨h1,?_,zE h3⟩
      have no:¬ isO w:=by rcases h1 with rfl | rfl<;>decide
      unfold opw dvl;rw[if_neg no,Qd,ln,h2]
     ·exact .inr ⟨h1,rfl⟩
    obtain⟨r,q1,q2⟩:=zJO hy.1 ic (by omega)
    rw[q1];simp only[Rt.d] at q2;symm;rw[q2];obtain⟨t1,t2⟩:=zHa (n:=n) (ks:=opw w (ks.map (pln n))) (w:=w) (ws:=dvl ws) (.inl rfl) hy.1 wk (by unfold dvl;rw[Qd];exact w1) ow0 (by omega) (by omega) ow.1 (by rw[ow.2,fm];exact hl')
    rw[t1];symm
    have pe:pl1 w (ws.map D.int) (ks.map (pln n))=.tup [.str w,.tup ((dvl ws).map D.int),.tup (opw w (ks.map (pln n)))]:=by
     rw[<-zAF];generalize ks.map (pln n)=l at ln
     match l,ln with
     | [],ln=>exact absurd ln (by simp;omega)
     | [k],ln=>exact absurd ln.symm c1
     | a::b::r,_=>rfl
    rw[pe];exact⟨rfl,t2,by show(opw w (ks.map (pln n))).flatMap (clm n)=_;rw[ow.2,fm]⟩
def wy:D->Option Str
 | .tup (.str w::_)=>some w
 | _=>none
def isP:Nat->D->Prop
 | 0,_=>False
 | n+1,d=>(∃ c:Int,d=.tup [.str "boat", .int c])∨∃(w:Str)(ws:List Int)(ks:List D),d=.tup [.str w,.tup (ws.map D.int),.tup ks]/\2<=ks.length/\dvl ws=ws/\(isO w->∀ k∈ks,wy k≠some w)/\∀ k∈ks,isP n k
theorem zAr:∀ {n m:Nat} {d:D},isP n d->n<=m->isP m d
 | 0,_,_,h,_=>h.elim
 | n+1,0,_,_,l=>absurd l (by omega)
 | n+1,m+1,d,h,l=>by
  rcases h with h | ⟨w,ws,ks,rfl,h1,h2,h3,h4⟩
  ·exact .inl h
  ·exact .inr ⟨w,ws,ks,rfl,h1,h2,h3,fun k h=>zAr (h4 k h) (by omega)⟩
theorem zML{w:Str}{k:D}(h:wy k≠some w):op1 w k=[k]:=by
 unfold op1;split
 ·rename_i v a kk
  rw[if_neg fun z=>h (by rw[z];rfl)]
 ·rfl
theorem zMG{w:Str}{ks:List D}(h:isO w->∀ k∈ks,wy k≠some w):opw w ks=ks:=by
 unfold opw;by_cases c:isO w
 ·rw[if_pos c]
  have hh:=h c;clear h c
  induction ks with
  | nil=>rfl
  | cons k r ih=>rw[QT,zML (hh k Qb),ih fun x hx=>hh x (Qc _ hx)];rfl
 ·rw[if_neg c]
theorem zGp:∀ {n:Nat} {d:D},isP n d->pln n d=d
 | 0,_,h=>h.elim
 | n+1,d,h=>by
  rcases h with⟨c,rfl⟩ | ⟨w,ws,ks,rfl,h1,h2,h3,h4⟩
  ·rfl
  ·show pl1 w (ws.map D.int) (ks.map (pln n))=_
   rw[QG (f:=pln n) (g:=id) fun k h=>zGp (h4 k h),XB]
   match ks,h1,h3 with
   | a::b::r,_,h3=>
    show D.tup [.str w,.tup (dvD (ws.map D.int)),.tup (opw w (a::b::r))]=_
    rw[zAF,h2,zMG h3]
theorem zIC{n:Nat}{w:Str}{k:D}(hw:w∈wys)(ho:isO w)(hc:IsC n k)(h:isP n k):1<=(op1 w k).length/\∀ x∈op1 w k,isP n x/\wy x≠some w:=by
 cases n with
 | zero=>exact h.elim
 | succ n=>
  have h0:=h;rcases h with⟨c,rfl⟩ | ⟨v,ws,kk,rfl,h1,h2,h3,h4⟩
  ·refine⟨Qf 1,fun x hx=>?_⟩
   rw[Qp.mp hx];refine⟨h0,fun z=>?_⟩
   have z':Str.ofString "boat" = w:=QK z;have:=(zD hw).2
   rw[<-z'] at this;exact absurd this (by decide)
  ·by_cases c:v=w
   ·have e1:op1 w (.tup [.str v,.tup (ws.map D.int),.tup kk])=kk:=if_pos c
    rw[e1];refine⟨by omega,fun x hx=>⟨zAr (h4 x hx) (VU n),?_⟩⟩
    have:=h3 (by rw[c];exact ho) x hx
    rw[c] at this;exact this
   ·have e1:op1 w (.tup [.str v,.tup (ws.map D.int),.tup kk])=[.tup [.str v,.tup (ws.map D.int),.tup kk]]:=if_neg c
    rw[e1];refine⟨Qf 1,fun x hx=>?_⟩
    rw[Qp.mp hx];exact⟨h0,fun z=>c (QK z)⟩
theorem qG{n:Nat}{w:Str}(hw:w∈wys)(ho:isO w):∀ {ks:List D},(∀ k∈ks,IsC n k/\isP n k)->ks.length<=(ks.flatMap (op1 w)).length/\∀ x∈ks.flatMap (op1 w),isP n x/\wy x≠some w
 | [],_=>⟨Qf _,fun x h=>(by cases h)⟩
 | k::r,h=>by
  have h1:=zIC hw ho (h k Qb).1 (h k Qb).2;have h2:=qG hw ho (ks:=r) fun x hx=>h x (Qc _ hx)
  rw[QT,Qi,Qn];refine⟨by omega,fun x hx=>?_⟩
  rcases QF.mp hx with hx | hx
  ·exact h1.2 x hx
  ·exact h2.2 x hx
theorem zIg:∀(n:Nat)(d:D),IsC n d->n<=8->(clm n d).length<=12->isP n (pln n d)
 | 0,_,h,_,_=>h.elim
 | n+1,d,h,l8,hl=>by
  rcases h with⟨c,rfl⟩ | ⟨w,ws,ks,rfl,hw,k0,k1,w1,hy,hk⟩
  ·exact .inl ⟨c,rfl⟩
  ·have hl':(ks.flatMap (clm n)).length<=12:=hl
   have hs:∀ k∈ks,(clm n k).length<=12:=fun k h=>Qv (wW h) hl'
   have ic:∀ k∈ks.map (pln n),IsC n k/\isP n k:=fun k hm=>by
    obtain⟨x,hx,rfl⟩:=Qj.mp hm;exact⟨(qY n n x (hk x hx) (Qf n) (by omega) (hs x hx)).2.1,zIg n x (hk x hx) (by omega) (hs x hx)⟩
   have fine:∀ x∈ws,1<=x/\x<=10^6:=by
    rcases hy.2 with⟨_,_,h⟩ | ⟨_,rfl⟩
    ·exact h
    ·intro x hx;cases hx
   have ln:(ks.map (pln n)).length=ks.length:=Qd _;show isP (n+1) (pl1 w (ws.map D.int) (ks.map (pln n)))
   generalize ks.map (pln n)=l at ic ln
   match l,ic,ln with
   | [],_,ln=>exact absurd ln (by simp;omega)
   | [k],ic,_=>exact zAr (ic k Qb).2 (VU n)
   | a::b::r,ic,_=>
    refine .inr ⟨w,dvl ws,opw w (a::b::r),by show D.tup [.str w,.tup (dvD (ws.map D.int)),_]=_;rw[zAF],?_,zNf fine,?_,?_⟩
    all_goals unfold opw
    ·by_cases c:isO w
     ·rw[if_pos c];exact Qv (by simp) (qG hy.1 c ic).1
     ·rw[if_neg c];simp
    ·intro c
     rw[if_pos c];exact fun k hk=>((qG hy.1 c ic).2 k hk).2
    ·by_cases c:isO w
     ·rw[if_pos c];exact fun k hk=>((qG hy.1 c ic).2 k hk).1
     ·rw[if_neg c];exact fun k hk=>(ic k hk).2
mutual
theorem zNg:∀ {n m:Nat} {d e:D},dOK n d->dOK m e->eqD d e=true->d=e
 | 0,_,_,_,h,_,_=>h.elim
 | _+1,0,_,_,_,h,_=>h.elim
 | n+1,m+1,d,e,h,k,q=>by
  rcases h with⟨i,rfl⟩ | ⟨x,rfl⟩ | ⟨ds,rfl,hl,he⟩<;>rcases k with⟨j,rfl⟩ | ⟨y,rfl⟩ | ⟨es,rfl,kl,ke⟩
  ·rw[eqD] at q;rw[beq_iff_eq.mp q]
  ·cases q
  ·cases q
  ·cases q
  ·rw[eqD] at q;rw[beq_iff_eq.mp q]
  ·cases q
  ·cases q
  ·cases q
  ·rw[eqD] at q;rw[zEi he ke q]
theorem zEi:∀ {n m:Nat} {ds es:List D},(∀ d∈ds,dOK n d)->(∀ e∈es,dOK m e)->zDO ds es=true->ds=es
 | _,_,[],[],_,_,_=>rfl
 | _,_,[],_::_,_,_,q=>by cases q
 | _,_,_::_,[],_,_,q=>by cases q
 | n,m,a::r,b::s,h,k,q=>by
  rw[zDO,Q8] at q;rw[zNg (h a Qb) (k b Qb) q.1,zEi (fun d hd=>h d (Qc _ hd)) (fun d hd=>k d (Qc _ hd)) q.2]
end
theorem zQr{v:Wy}(hv:isW v){S A C:Int}{x:Rat}(C0:0<=C)(A0:0<=A)(AS:A+C<=S)(x0:0<=x)(x1:x<=(S:Rat)):0<=phi v S A C x/\phi v S A C x<=(C:Rat):=by
 have rc:(0:Rat)<=(C:Rat):=Xg.mpr C0;rcases hv with rfl | rfl | rfl
 ·unfold phi clp mn ps0
  grind
 ·unfold phi clp mn ps0
  grind
 ·unfold phi
  by_cases z:S=0
  ·have e0:C=0:=by omega
   rw[e0,z,show((0:Int):Rat)=0 from rfl];grind
  ·have W:(0:Rat)<(S:Rat):=by exact_mod_cast (show 0<S by omega)
   have e:x*(C:Rat) / (S:Rat)*(S:Rat)=x*(C:Rat):=Q2 (by grind)
   have a:x*(C:Rat)<=(S:Rat)*(C:Rat):=Q5 x1 rc;have b:0<=x*(C:Rat):=Xb x0 rc;exact⟨oB W (by rw[e];grind),oB W (by rw[e];grind)⟩
theorem zLf{l:List Int}(h:∀ c∈l,0<=c):0<=l.sum:=by
 induction l with
 | nil=>decide
 | cons a l ih=>rw[Qx];have:=h a Qb;have:=ih fun x hx=>h x (Qc _ hx);omega
theorem zKH{n m:Nat}{v:Wy}(hv:isW v){S A C:Int}{q:Rat}(hn:m<=n)(A0:0<=A)(AS:A+C<=S):∀(kk:List D)(a:Int),0<=a->(∀ k∈kk,Gc m k)->a+(kcl m kk).sum<=C->SFp m v C (phi v S A C q) a kk=SFp n v S q (A+a) kk
 | [],_,_,_,_=>rfl
 | k::r,a,a0,hk,ac=>by
  have gk:=hk k Qb;have c0:=gk.sum.1
  have r0:0<=(kcl m r).sum:=zLf fun c hc=>by
   obtain⟨x,hx,rfl⟩:=Qj.mp hc;exact(hk x (Qc _ hx)).sum.1
  rw[show(kcl m (k::r)).sum=(clm m k).sum+(kcl m r).sum by unfold kcl;rw[Qq,Qx]] at ac;show SF m k (phi v C a (clm m k).sum (phi v S A C q))++SFp m v C (phi v S A C q) (a+(clm m k).sum) r=SF n k (phi v S (A+a) (clm n k).sum q)++SFp n v S q (A+a+(clm n k).sum) r
  rw[zMT hv a0 c0 (by omega) A0 AS,zDh gk.1 hn,dZ gk.1 hn,zKH hv hn A0 AS r (a+(clm m k).sum) (by omega) (fun x hx=>hk x (Qc _ hx)) (by omega),XG]
theorem zRn{v:Wy}(hv:isW v){ws:List Int}{m:Nat}(h:wOK v.s ws m):ws=[]:=by
 rcases h with⟨a,_⟩ | ⟨_,b⟩
 ·rcases hv with rfl | rfl | rfl
  all_goals exact absurd a (by decide)
 ·exact b
theorem zFa{n:Nat}{v:Wy}(hv:isW v){S:Int}{q:Rat}(q0:0<=q)(q1:q<=(S:Rat)):∀(ks:List D)(A:Int),0<=A->(∀ k∈ks,Gc n k)->A+(kcl n ks).sum<=S->SFp n v S q A (ks.flatMap (op1 v.s))=SFp n v S q A ks
 | [],_,_,_,_=>rfl
 | k::r,A,A0,hk,ac=>by
  have gk:=hk k Qb;have c0:=gk.sum.1
  have r0:0<=(kcl n r).sum:=zLf fun c hc=>by
   obtain⟨x,hx,rfl⟩:=Qj.mp hc;exact(hk x (Qc _ hx)).sum.1
  rw[show(kcl n (k::r)).sum=(clm n k).sum+(kcl n r).sum by unfold kcl;rw[Qq,Qx]] at ac;have ih:=zFa hv q0 q1 r (A+(clm n k).sum) (by omega) (fun x hx=>hk x (Qc _ hx)) (by omega)
  rw[QT,zJa];show _=SF n k (phi v S A (clm n k).sum q)++SFp n v S q (A+(clm n k).sum) r
  have one:op1 v.s k=[k]->SFp n v S q A (op1 v.s k)++SFp n v S q (A+(kcl n (op1 v.s k)).sum) (r.flatMap (op1 v.s))=SF n k (phi v S A (clm n k).sum q)++SFp n v S q (A+(clm n k).sum) r:=fun e=>by
   rw[e,show(kcl n [k]).sum=(clm n k).sum by unfold kcl;simp,ih];show(SF n k _++[])++_=_
   rw[QW]
  cases n with
  | zero=>exact gk.1.elim
  | succ n=>
   rcases gk.1 with⟨c,rfl⟩ | ⟨w,ws,kk,rfl,hw,k0,k1,w1,hy,hkk⟩
   ·exact one rfl
   ·by_cases e:w=v.s
    ·subst e
     have ew:=zRn hv hy.2;subst ew
     have op:op1 v.s (.tup [.str v.s,.tup (([]:List Int).map D.int),.tup kk])=kk:=by
      show(if v.s=v.s then kk else _)=kk
      rw[if_pos rfl]
     have cl:=gk.cl hkk k0;have se:(kcl n kk).sum=(clm (n+1) (.tup [.str v.s,.tup (([]:List Int).map D.int),.tup kk])).sum:=rT kk;have kc:kcl (n+1) kk=kcl n kk:=QG fun k hm=>by rw[dZ (hkk k hm) (by omega)]
     have bd:=zQr (x:=q) hv c0 A0 (show A+_<=S by omega) q0 q1
     rw[op,kc,se,ih];congr 1
     have key:=zAm (q:=phi v S A (clm (n+1) (.tup [.str v.s,.tup (([]:List Int).map D.int),.tup kk])).sum q) hv cl bd.1 (by rw[se];exact bd.2) kk [] rfl
     rw[Vh,show(kcl n []).sum=0 from rfl,se] at key;rw[mI,key];have:=zKH (n:=n+1) (m:=n) (q:=q) hv (by omega) A0 (show A+(clm (n+1) (.tup [.str v.s,.tup (([]:List Int).map D.int),.tup kk])).sum<=S by omega) kk 0 (Vb 0) (fun k hm=>gk.kid hkk hm) (by rw[se];omega)
     rw[Yr] at this;exact this.symm
    ·exact one (by show(if w=v.s then kk else _)=_;rw[if_neg e])
theorem zRx{v:Wy}(hv:v=.even∨v=.lack){ws cs:List Int}(h:Wt ws cs)(h':Wt (dvl ws) cs)(hc:Cl cs)(g0:0<gcL ws)(hd:∀ x∈ws,gcL ws ∣ x){q:Rat}(q0:0<=q)(q1:q<=(cs.sum:Rat)){i:Nat}(hi:i<cs.length):FF v (dvl ws) cs q i=FF v ws cs q i:=by
 have G0:(0:Rat)<(gcL ws:Rat):=by exact_mod_cast g0
 have at':∀ j,j<cs.length->cR (dvl ws) j*(gcL ws:Rat)=cR ws j:=fun j hj=>by
  have hj':j<ws.length:=by rw[h.len];exact hj
  have e:(dvl ws).getD j 0=ws.getD j 0 / gcL ws:=by
   unfold dvl;rw[QB,Qr,bO hj'];rfl
  unfold cR;rw[e,<-QL,Int.ediv_mul_cancel (hd _ (Qm (bO hj')))]
 have gt:∀(t:Rat)(j:Nat),j<cs.length->dB (cR cs) (cR (dvl ws)) ((gcL ws:Rat)*t) j=dB (cR cs) (cR ws) t j:=fun t j hj=>by
  unfold dB;rw[<-X3,at' j hj]
 have lv:∀ {M:Nat} {x t:Rat},Lvl M ws cs x t->Lvl M (dvl ws) cs x ((gcL ws:Rat)*t):=fun {M x t} tl=>⟨Xb (Qg G0) tl.nn,by
  rw[<-tl.sum];show((List.range cs.length).map (dB (cR cs) (cR (dvl ws)) ((gcL ws:Rat)*t))).sum=((List.range cs.length).map (dB (cR cs) (cR ws) t)).sum
  rw[QG fun j hj=>gt t j (Qk.mp hj)],fun j hj=>by rw[gt t j hj];exact tl.sz j hj⟩
 rcases hv with rfl | rfl
 ·obtain⟨M,t,tl,e⟩:=sG (w:=.even) h hc q0 q1
  exact(rF (M:=M) (w:=.even) h' hc q0 q1 ⟨_,lv tl,fun j hj=>by rw[e j hj,gt t j hj]⟩ hi).symm
 ·obtain⟨M,t,tl,e⟩:=sG (w:=.lack) h hc q0 q1
  exact(rF (M:=M) (w:=.lack) h' hc q0 q1 ⟨_,lv tl,fun j hj=>by rw[e j hj,gt t j hj]⟩ hi).symm
theorem zAU{n:Nat}{f g:Nat->Rat}{h:D->D}:∀ {ks:List D} {i:Nat},(∀ j k,ks[j]?=some k->SF n (h k) (g (i+j))=SF n k (f (i+j)))->SFL (SF n) g (ks.map h) i=SFL (SF n) f ks i
 | [],i,_=>rfl
 | k::r,i,e=>by
  have e0:=e 0 k rfl;rw[Yz] at e0;show SF n (h k) (g i)++_=SF n k (f i)++_
  rw[e0,zAU fun j k' hj=>by
   have:=e (j+1) k' (by simpa using hj)
   rw[show i+1+j=i+(j+1) by omega];exact this]
theorem zQc{v:Wy}:isO v.s ↔ isW v:=by
 cases v<;>unfold isO isW<;>simp<;>decide
theorem zNE{n:Nat}{v:Wy}{ws:List Int}{js:List D}{q:Rat}(gk:∀ k∈js,Gc n k)(l12:(js.flatMap (clm n)).length<=12)(due:v.due ws (kcl n js))(cl:Cl (kcl n js))(q0:0<=q)(q1:q<=((kcl n js).sum:Rat)):SFL (SF n) (FF v (dvl ws) (kcl n (opw v.s js)) q) (opw v.s js) 0=SFL (SF n) (FF v ws (kcl n js) q) js 0:=by
 have ik:∀ k∈js,IsC n k:=fun k hm=>(gk k hm).1
 by_cases o:isW v
 ·have ew:ws=[]:=by rcases o with rfl | rfl | rfl<;>exact due
  subst ew;have eo:opw v.s js=js.flatMap (op1 v.s):=by unfold opw;rw[if_pos (zQc.mpr o)]
  obtain⟨p1,p2⟩:=zEd (w:=v.s) ik
  have su:(kcl n (js.flatMap (op1 v.s))).sum=(kcl n js).sum:=by
   unfold kcl;rw[rT,rT,p2]
  have cl':Cl (kcl n (js.flatMap (op1 v.s))):=by
   have ll:=zCA p1;rw[p2] at ll
   have b:∀ c∈kcl n (js.flatMap (op1 v.s)),0<=c/\c<=12*10^9:=fun c hc=>by
    obtain⟨x,hx,rfl⟩:=Qj.mp hc
    have gx:Gc n x:=⟨p1 x hx,Qv (wW hx) (by rw[p2];exact l12),fun c hc=>by
     have:c∈js.flatMap (clm n):=by rw[<-p2];exact zLk hx hc
     obtain⟨k,hk,hc'⟩:=Yv.mp this
     exact(gk k hk).2.2 c hc'⟩
    exact gx.sum
   refine⟨fun c hc=>(b c hc).1,fun c hc=>by have:=(b c hc).2;omega,?_,by rw[eZ];omega⟩
   rw[eZ];refine Nat.pos_of_ne_zero fun z=>?_
   have e0:=Xs z;rw[e0,List.flatMap_nil] at p2;have o1:=zCA ik;rw[<-p2,Vh] at o1;have:=cl.lo
   rw[eZ] at this;omega
  have a:=zAm (q:=q) o cl' q0 (by rw[su];exact q1) (js.flatMap (op1 v.s)) [] rfl
  have b:=zAm (q:=q) o cl q0 q1 js [] rfl;rw[Vh,show(kcl n []).sum=0 from rfl] at a b;rw[eo,show dvl ([]:List Int)=[] from rfl,a,b,su];exact zFa o q0 q1 js 0 (Vb 0) gk (by omega)
 ·have eo:opw v.s js=js:=by unfold opw;rw[if_neg fun z=>o (zQc.mp z)]
  rw[eo];by_cases wt:v=.even∨v=.lack
  ·have W:Wt ws (kcl n js):=by rcases wt with rfl | rfl<;>exact due
   have hp:∀ x∈ws,1<=x/\x<=10^6:=fun x hx=>⟨W.lo x hx,W.up x hx⟩
   have ne:ws≠[]:=fun z=>by
    have:=W.len
    rw[z,Vh] at this;have:=cl.lo
    omega
   have W':Wt (dvl ws) (kcl n js):=⟨by unfold dvl;rw[Qd];exact W.len,fun x hx=>(zE hp x hx).1,fun x hx=>(zE hp x hx).2⟩
   have e:=zAU (n:=n) (f:=FF v ws (kcl n js) q) (g:=FF v (dvl ws) (kcl n js) q) (h:=fun k=>k) (ks:=js) (i:=0) fun j k hj=>by
    obtain⟨j1,_⟩:=zEE (n:=n) hj;rw[VC,zRx wt W W' cl (zCt hp ne).1 (fun x hx=>(yM ws 0).2 x hx) q0 q1 j1]
   rw[Yu] at e;exact e
  ·have ew:ws=[]:=by
    cases v with
    | half=>exact due
    | row=>exact absurd (.inl rfl) o
    | back=>exact absurd (.inr (.inl rfl)) o
    | part=>exact absurd (.inr (.inr rfl)) o
    | even=>exact absurd (.inl rfl) wt
    | lack=>exact absurd (.inr rfl) wt
   subst ew;rfl
theorem zHk:∀ {n:Nat} {d:D} {q:Rat},Gc n d->n<=8->0<=q->q<=((clm n d).sum:Rat)->SF n (pln n d) q=SF n d q
 | 0,_,_,g,_,_,_=>g.1.elim
 | n+1,d,q,g,hn,q0,q1=>by
  rcases g.1 with⟨c,rfl⟩ | ⟨w,ws,ks,rfl,hw,k0,k1,w1,hy,hk⟩
  ·rfl
  ·obtain⟨v,rfl⟩:=zHm hy.1
   have cl:=g.cl hk k0;have l12:(ks.flatMap (clm n)).length<=12:=g.2.1;have se:(kcl n ks).sum=(clm (n+1) (.tup [.str v.s,.tup (ws.map D.int),.tup ks])).sum:=rT ks;have due:v.due ws (kcl n ks):=zJh (by rw[eZ];exact hy.2)
   have pk:∀ k∈ks,IsC n (pln n k)/\clm n (pln n k)=clm n k:=fun k hm=>(qY n 10 k (hk k hm) (by omega) (by omega) (Qv (wW hm) l12)).2
   have kc:kcl n (ks.map (pln n))=kcl n ks:=by
    unfold kcl;rw[Qw];exact QG fun k hm=>by show(clm n (pln n k)).sum=_;rw[(pk k hm).2]
   have fmk:(ks.map (pln n)).flatMap (clm n)=ks.flatMap (clm n):=by
    rw[Xe,Ve,Ve];congr 1
    exact QG fun k hm=>(pk k hm).2
   rw[<-se] at q1;obtain⟨b1,b2⟩:=zHo due cl q0 q1
   have step:SF (n+1) (.tup [.str v.s,.tup (ws.map D.int),.tup ks]) q=SFL (SF n) (FF v ws (kcl n ks) q) (ks.map (pln n)) 0:=by
    rw[mI];refine(zAU fun j k hj=>?_).symm
    obtain⟨j1,j2⟩:=zEE (n:=n) hj;have b:=b1 j j1;rw[j2] at b;rw[VC];exact zHk (g.kid hk (Qm hj)) (by omega) b.1 b.2
   rw[step];show SF (n+1) (pl1 v.s (ws.map D.int) (ks.map (pln n))) q=_
   have lk:(ks.map (pln n)).length=ks.length:=Qd ..
   have ik:∀ k∈ks.map (pln n),IsC n k:=fun k hm=>by
    obtain⟨x,hx,rfl⟩:=Qj.mp hm;exact(pk x hx).1
   have gk:∀ k∈ks.map (pln n),Gc n k:=fun k hm=>by
    obtain⟨x,hx,rfl⟩:=Qj.mp hm;exact⟨(pk x hx).1,by rw[(pk x hx).2];exact(g.kid hk hx).2.1,by rw[(pk x hx).2];exact(g.kid hk hx).2.2⟩
   rw[<-fmk] at l12;rw[<-kc] at b2 due cl b1 q1 ⊢
   generalize ks.map (pln n)=js at *
   match js,lk with
   | [],lk=>rw[Vh] at lk;omega
   | [k],_=>
    show SF (n+1) k q=SF n k (FF v ws (kcl n [k]) q 0)++[]
    have:FF v ws (kcl n [k]) q 0=q:=by
     rw[show(kcl n [k]).length=1 from rfl,show List.range 1=[0] from rfl,Qq,Vm,Qx,XD] at b2;grind
    rw[this,QW,zDh (ik k Qb) (by omega)]
   | k::k'::r,_=>
    show SF (n+1) (.tup [.str v.s,.tup (dvD (ws.map D.int)),.tup (opw v.s (k::k'::r))]) q=_
    rw[zAF,mI];exact zNE gk l12 due cl q0 q1
theorem zMu(ls:List (List Pt)):dep (.lst (ls.map lnD))<=50:=by
 rw[dep]
 have:depS (ls.map lnD)<=20:=by
  induction ls with
  | nil=>simp[depS]
  | cons a r ih=>
   rw[Qq,depS];refine Xi.mpr ⟨?_,ih⟩
   unfold lnD;rw[dep];have:=zEK a
   omega
 omega
theorem zPh{n:Nat}{w:Str}{k x:D}(h:IsC n k)(hx:x∈op1 w k):dpt n x<=dpt n k:=by
 cases n with
 | zero=>exact h.elim
 | succ n=>
  rcases h with⟨c,rfl⟩ | ⟨v,ws,kk,rfl,hw,k0,k1,w1,hy,hk⟩
  ·have hx':x∈[_]:=hx
   rw[Qp.mp hx'];exact Vb _
  ·have hx':x∈(if v=w then kk else [.tup [.str v,.tup (ws.map D.int),.tup kk]]):=hx
   by_cases e:v=w
   ·rw[if_pos e] at hx'
    rw[nO (m:=n+1) (hk x hx') (by omega)];have:=yH (l:=kk.map (dpt n)) (Qj.mpr ⟨x,hx',rfl⟩)
    show dpt n x<=1+mx0 (kk.map (dpt n))
    omega
   ·rw[if_neg e] at hx'
    rw[Qp.mp hx'];exact Vb _
theorem zIX:∀ {n:Nat} {d:D},IsC n d->n<=8->(clm n d).length<=12->dpt n (pln n d)<=dpt n d
 | 0,_,h,_,_=>h.elim
 | n+1,d,h,hn,hl=>by
  rcases h with⟨c,rfl⟩ | ⟨w,ws,ks,rfl,hw,k0,k1,w1,hy,hk⟩
  ·exact Vb _
  ·have l12:(ks.flatMap (clm n)).length<=12:=hl
   have pk:∀ k∈ks,IsC n (pln n k)/\dpt n (pln n k)<=mx0 (ks.map (dpt n)):=fun k hm=>⟨(qY n 10 k (hk k hm) (by omega) (by omega) (Qv (wW hm) l12)).2.1,Q6 (zIX (hk k hm) (by omega) (Qv (wW hm) l12)) (yH (Qj.mpr ⟨k,hm,rfl⟩))⟩
   show dpt (n+1) (pl1 w (ws.map D.int) (ks.map (pln n)))<=1+mx0 (ks.map (dpt n))
   have m0:0<=mx0 (ks.map (dpt n)):=by
    cases ks with
    | nil=>cases k0
    | cons k r=>exact Q6 (by have:=(zFb (hk k Qb)).1;omega) (yH (x:=dpt n k) (by simp))
   have ik:∀ k∈ks.map (pln n),IsC n k/\dpt n k<=mx0 (ks.map (dpt n)):=fun k hm=>by
    obtain⟨x,hx,rfl⟩:=Qj.mp hm;exact pk x hx
   have lk:(ks.map (pln n)).length=ks.length:=Qd ..;generalize mx0 (ks.map (dpt n))=b at *;generalize ks.map (pln n)=js at *
   match js,lk with
   | [],lk=>rw[Vh] at lk;omega
   | [k],_=>
    have:=ik k Qb
    show dpt (n+1) k<=_
    rw[nO (m:=n+1) this.1 (by omega)];omega
   | k::k'::r,_=>
    show 1+mx0 ((opw w (k::k'::r)).map (dpt n))<=1+b
    have:mx0 ((opw w (k::k'::r)).map (dpt n))<=b:=zLo m0 fun x hx=>by
     obtain⟨y,hy',rfl⟩:=Qj.mp hx;unfold opw at hy';by_cases o:isO w
     ·rw[if_pos o] at hy'
      obtain⟨z,hz,hyz⟩:=Yv.mp hy';exact Q6 (zPh (ik z hz).1 hyz) (ik z hz).2
     ·rw[if_neg o] at hy'
      exact(ik y hy').2
    omega
theorem law_true:∀ ns:List Int,ns.length<=63->zMX [.lst (ns.map D.int)]=.ok (.v (.bl true)):=by
 intro ns hl;obtain⟨d,ed,hd,hl12,hr⟩:=zBr (ns.take 24) (by rw[Vt];omega)
 have g:Gc 8 d:=⟨hd,hl12,hr⟩;have gs:=g.sum;have hS:(clm 8 d).sum<2^34:=by omega
 obtain⟨p1,p2,p3⟩:=qY 8 10 d hd (by decide) (by decide) hl12
 have g':Gc 8 (pln 8 d):=⟨p2,by rw[p3];exact hl12,by rw[p3];exact hr⟩
 obtain⟨q1,_,_⟩:=qY 8 10 (pln 8 d) p2 (by decide) (by decide) g'.2.1
 rw[zGp (zIg 8 d hd (by decide) hl12)] at q1;have d1:=qJ 10 d (eS hd (by decide))
 have d2:=qJ 10 (pln 8 d) (eS p2 (by decide))
 rw[nO hd (by decide)] at d1;rw[nO p2 (by decide)] at d2;have dd:=zIX hd (by decide) hl12
 obtain⟨Ls,eL,l1,l2⟩:=qU 8 10 d g (by decide) (by decide)
 obtain⟨Lt,eT,t1,t2⟩:=qU 8 10 (pln 8 d) g' (by decide) (by decide)
 rw[p3] at t1 t2
 have same:Lt=Ls:=by
  rw[yT Ls [],yT Lt [],l1,t1]
  exact QG fun j hj=>(t2 j (Qk.mp hj)).one (l2 j (Qk.mp hj)) fun x x0 x1=>by
   show(SF 8 (pln 8 d) x).getD j 0=(SF 8 d x).getD j 0
   rw[zHk g (by decide) x0 x1]
 have hs:∀ x:Rat,0<=x->x<=((clm 8 d).sum:Rat)->(x.den:Int)<2^30->jA [d,dq x]=.ok (.f ((SF 8 d x).map dq))/\jA [pln 8 d,dq x]=.ok (.f ((SF 8 d x).map dq)):=fun x x0 x1 xd=>by
  obtain⟨xs,es,sh⟩:=zEU (m:=30) g (by decide) x0 x1 xd (by decide)
  obtain⟨ys,et,st⟩:=zEU (m:=30) g' (by decide) x0 (by rw[p3];exact x1) xd (by decide)
  rw[es,et,zME g sh x0 x1,zME g' st x0 (by rw[p3];exact x1),zHk g (by decide) x0 x1];exact⟨rfl,rfl⟩
 have dp1:dep (pln 8 d)<=50:=Qv (zGT (zBI _ _ p2)) (by decide)
 unfold zMX;symm;rw[pD (by decide),<-Xf,show((24:Int).toNat)=24 from rfl,ed];symm;rw[p1];symm;rw[q1];symm;rw[zDL dp1];symm;rw[d2];symm;rw[d1];symm;rw[decide_eq_false (by omega)];symm;rw[eT];symm;rw[eL,same];symm;rw[zDL (zMu _)];symm;rw[pD (by decide),<-Xf];symm;rw[if_pos (by rw[Vt];omega),show D.int 0::List.map D.int (List.take 3 ns)=(0::List.take 3 ns).map D.int from rfl];generalize (0::List.take 3 ns)=ms;symm;refine kJ (Q:=fun r=>r.bind fin=.ok (.v (.bl true))) (k:=zKg zGX) (fun i ρ=>∃(a3 a4:Sl),ρ=[.val (.lst (ns.map D.int)),.val d,.val (pln 8 d),a3,a4]) ⟨_,_,rfl⟩ ?_ ?_
 ·rintro i e ρ he ⟨a3,a4,rfl⟩
  obtain⟨c,hcm,rfl⟩:=Qj.mp (Qm he);obtain⟨q,eq,q0,q1',qd⟩:=zDi (c:=c) gs.1 hS;obtain⟨s1,s2⟩:=hs q q0 q1' qd;symm;rw[nM hd (by decide) (by omega)];symm;rw[eq];symm;rw[s2];symm;rw[s1];symm;rw[zDL (zOf _)];symm;exact⟨_,rfl,_,_,rfl⟩
 ·rintro ρ ⟨a3,a4,rfl⟩
  rfl
end Lw
namespace Lw
open PySem PySem.Spec PyProof.Rows L2 L3
local macro_rules | `(tactic| walk_at "b")=>`(tactic| (intro _ _ _ _ _ _ us hl; first | (obtain ⟨_,e⟩:=L3.ln1 hl;subst e;rfl) | (obtain ⟨_,_,e⟩:=L3.ln2 hl;subst e;rfl) | (obtain ⟨_,_,_,e⟩:=L3.ln3 hl;subst e;rfl) | (obtain ⟨_,_,_,_,e⟩:=L3.ln4 hl;subst e;rfl)))
theorem _root_.L3.CanM.mo{P:Program}{w:World}{K:Fg_}{mg:Str->Option Value}{base:Heap}{j k:Nat}{x:Str}{ps:List Str}{m:Mir}(c:CanM P w K mg base j x ps m)(h:j<=k:=by decide):CanM P w K mg base k x ps m:=c.mono h
local macro_rules | `(tactic| walk_at "s")=>`(tactic| exact⟨rfl,rfl,rfl,by decide +kernel,rfl,by decide +kernel,by decide +kernel⟩)
def top(i:Nat):Stmt:=PySem.Challenge.pw_catchhall_k38_whole_plain_deals_alike.main.body.getD i (.Pass ⟨0,0,0,0⟩)
abbrev hU:Stmt:=top 12
theorem cH:FnScope ["one","two","rest"] ["one","two"] (aH hU):=by walk_at "s"
abbrev zGM:Stmt:=top 13
theorem zDc:FnScope ["top","bottom","divisor"] ["top","bottom"] (aH zGM):=by walk_at "s"
abbrev zCT:Stmt:=top 14
theorem zKG:FnScope ["number"] ["number"] (aH zCT):=by walk_at "s"
abbrev zHN:Stmt:=top 15
theorem zMj:FnScope ["one","two"] ["one","two"] (aH zHN):=by walk_at "s"
abbrev zDD:Stmt:=top 16
theorem zJE:FnScope ["one","two"] ["one","two"] (aH zDD):=by walk_at "s"
abbrev zDv:Stmt:=top 17
theorem zKv:FnScope ["one","two"] ["one","two"] (aH zDv):=by walk_at "s"
abbrev zIo:Stmt:=top 18
theorem zMh:FnScope ["one","two"] ["one","two"] (aH zIo):=by walk_at "s"
abbrev zGA:Stmt:=top 19
theorem zNY:FnScope ["one","two"] ["one","two"] (aH zGA):=by walk_at "s"
abbrev zN:Stmt:=top 20
theorem zGi:FnScope ["one","two"] ["one","two"] (aH zN):=by walk_at "s"
abbrev lY:Stmt:=top 21
theorem zM:FnScope ["amount","most"] ["amount","most"] (aH lY):=by walk_at "s"
abbrev hJ:Stmt:=top 22
theorem qP:FnScope ["amount","most"] ["amount","most"] (aH hJ):=by walk_at "s"
abbrev iD:Stmt:=top 23
theorem pL:FnScope ["some","bottom","each"] ["some"] (aH iD):=by walk_at "s"
abbrev zAT:Stmt:=top 28
theorem zHG:FnScope ["way","weights","claims"] ["way","weights","claims"] (aH zAT):=by walk_at "s"
abbrev mV:Stmt:=top 29
theorem zBa:FnScope ["way"] ["way"] (aH mV):=by walk_at "s"
abbrev iV:Stmt:=top 30
theorem lE:FnScope ["claims","claim"] ["claims"] (aH iV):=by walk_at "s"
abbrev gX:Stmt:=top 31
theorem gG:FnScope ["way","weights","many","due","weight"] ["way","weights","many"] (aH gX):=by walk_at "s"
abbrev jO:Stmt:=top 32
theorem tU:FnScope ["way"] ["way"] (aH jO):=by walk_at "s"
abbrev zDp:Stmt:=top 33
theorem zKy:FnScope ["way","weights","claims","catch"] ["way","weights","claims","catch"] (aH zDp):=by walk_at "s"
abbrev dX:Stmt:=top 34
theorem eV:FnScope ["way","weights","claims","catch","most","lacking"] ["way","weights","claims","catch"] (aH dX):=by walk_at "s"
abbrev oF:Stmt:=top 35
theorem fG:FnScope ["claims","catch","left","amounts","claim","amount"] ["claims","catch"] (aH oF):=by walk_at "s"
abbrev mG:Stmt:=top 36
theorem cT:FnScope ["weights","claims","catch","left","weight","amounts","spot","by_weight"] ["weights","claims","catch"] (aH mG):=by walk_at "s"
abbrev kZ:Stmt:=top 37
theorem zCv:FnScope ["weights","claims"] ["weights","claims"] (aH kZ):=by walk_at "s"
abbrev jB:Stmt:=top 38
theorem iF:FnScope ["claims","catch","most","part"] ["claims","catch"] (aH jB):=by walk_at "s"
abbrev jK:Stmt:=top 39
theorem kN:FnScope ["claims","catch","ones"] ["claims","catch"] (aH jK):=by walk_at "s"
abbrev zIs:Stmt:=top 44
theorem zNM:FnScope ["claim"] ["claim"] (aH zIs):=by walk_at "s"
abbrev zHg:Stmt:=top 45
theorem zIB:FnScope ["way","weights","kids","custom"] ["way","weights","kids"] (aH zHg):=by walk_at "s"
abbrev vT:Stmt:=top 46
theorem zFQ:FnScope ["custom"] ["custom"] (aH vT):=by walk_at "s"
abbrev zK:Stmt:=top 47
theorem zHW:FnScope ["custom"] ["custom"] (aH zK):=by walk_at "s"
abbrev mX:Stmt:=top 48
theorem zAg:FnScope ["custom"] ["custom"] (aH mX):=by walk_at "s"
abbrev uF:Stmt:=top 49
theorem zGc:FnScope ["custom"] ["custom"] (aH uF):=by walk_at "s"
abbrev lB:Stmt:=top 50
theorem jN:FnScope ["custom","claims","kid"] ["custom"] (aH lB):=by walk_at "s"
abbrev rQ:Stmt:=top 51
theorem zDg:FnScope ["custom"] ["custom"] (aH rQ):=by walk_at "s"
abbrev jI:Stmt:=top 52
theorem qK:FnScope ["custom"] ["custom"] (aH jI):=by walk_at "s"
abbrev mE:Stmt:=top 53
theorem qZ:FnScope ["custom"] ["custom"] (aH mE):=by walk_at "s"
abbrev yU:Stmt:=top 54
theorem zGm:FnScope ["custom","catch"] ["custom","catch"] (aH yU):=by walk_at "s"
abbrev nJ:Stmt:=top 55
theorem gE:FnScope ["custom","catch","amounts","told","kid","amount"] ["custom","catch"] (aH nJ):=by walk_at "s"
abbrev vE:Stmt:=top 58
theorem sT:FnScope ["custom","kids"] ["custom"] (aH vE):=by walk_at "s"
abbrev zQ:Stmt:=top 59
theorem vC:FnScope ["way","kids","told","kid"] ["way","kids"] (aH zQ):=by walk_at "s"
abbrev pI:Stmt:=top 60
theorem kE:FnScope ["weights","divisor","weight"] ["weights"] (aH pI):=by walk_at "s"
abbrev vP:Stmt:=top 64
theorem qM:FnScope ["points","kept","point"] ["points"] (aH vP):=by walk_at "s"
abbrev mD:Stmt:=top 65
theorem iC:FnScope ["points","spot","ahead","point"] ["points"] (aH mD):=by walk_at "s"
abbrev mH:Stmt:=top 66
theorem fV:FnScope ["ahead","point","later","rise","later_rise","run","later_run"] ["ahead","point","later"] (aH mH):=by walk_at "s"
abbrev zAZ:Stmt:=top 67
theorem zGv:FnScope ["line"] ["line"] (aH zAZ):=by walk_at "s"
abbrev zAI:Stmt:=top 68
theorem zHK:FnScope ["line"] ["line"] (aH zAI):=by walk_at "s"
abbrev zDa:Stmt:=top 69
theorem zKn:FnScope ["line","x"] ["line","x"] (aH zDa):=by walk_at "s"
abbrev hZ:Stmt:=top 70
theorem cE:FnScope ["line","axis","amount","low","high","middle"] ["line","axis","amount"] (aH hZ):=by walk_at "s"
abbrev zOo:Stmt:=top 71
theorem xW:FnScope ["line","axis","amount","other","spot","there","here","part"] ["line","axis","amount"] (aH zOo):=by walk_at "s"
abbrev qD:Stmt:=top 72
theorem lR:FnScope ["one","two","bends","joints"] ["one","two"] (aH qD):=by walk_at "s"
abbrev sY:Stmt:=top 73
theorem zBT:FnScope ["line"] ["line"] (aH sY):=by walk_at "s"
abbrev zAC:Stmt:=top 74
theorem jY:FnScope ["one","two","both","spot","x"] ["one","two"] (aH zAC):=by walk_at "s"
abbrev iU:Stmt:=top 76
theorem gK:FnScope ["way","weights","claims","joints","dealings"] ["way","weights","claims"] (aH iU):=by walk_at "s"
abbrev oW:Stmt:=top 77
theorem zFG:FnScope ["joints","dealings","spot"] ["joints","dealings","spot"] (aH oW):=by walk_at "s"
abbrev iO:Stmt:=top 78
theorem gO:FnScope ["way","weights","claims","most","early"] ["way","weights","claims"] (aH iO):=by walk_at "s"
abbrev lS:Stmt:=top 79
theorem fN:FnScope ["claims","filled","joints","claim"] ["claims"] (aH lS):=by walk_at "s"
abbrev lA:Stmt:=top 80
theorem cC:FnScope ["weights","claims","filled","weight","levels","joints","spot"] ["weights","claims"] (aH lA):=by walk_at "s"
abbrev nK:Stmt:=top 81
theorem vI:FnScope ["joints","most"] ["joints","most"] (aH nK):=by walk_at "s"
abbrev gB:Stmt:=top 82
theorem fQ:FnScope ["joints","kept","joint"] ["joints"] (aH gB):=by walk_at "s"
abbrev jW:Stmt:=top 84
theorem fB:FnScope ["custom","ways","told","kid","way_line"] ["custom"] (aH jW):=by walk_at "s"
abbrev qQ:Stmt:=top 85
theorem uB:FnScope ["claim","start"] ["claim"] (aH qQ):=by walk_at "s"
abbrev kX:Stmt:=top 87
theorem eO:FnScope ["way","cell","many","told","k","mark"] ["way","cell","many"] (aH kX):=by walk_at "s"
abbrev mY:Stmt:=top 88
theorem aT:FnScope ["cells","ways","pile","deep","boats","cell","turn","many","way","kids","weights","high","claim"] ["cells"] (aH mY):=by walk_at "s"
abbrev rA:Stmt:=top 89
theorem fZ:FnScope ["top","bottom","one","other","rest"] ["top","bottom"] (aH rA):=by walk_at "s"
abbrev oG:Stmt:=top 90
theorem rZ:FnScope ["cell","claim","bottom"] ["cell","claim"] (aH oG):=by walk_at "s"
abbrev vY:Stmt:=top 91
theorem zBs:FnScope ["script","custom","found","cell","catch"] ["script"] (aH vY):=by walk_at "s"
structure Bt (mg:Str->Option Value):Prop where
 abs:mg "abs" = none
 sorted:mg "sorted" = none
 range:mg "range" = none
 len:mg "len" = none
 sum:mg "sum" = none
 zip:mg "zip" = none
 tuple:mg "tuple" = none
 max:mg "max" = none
 reversed:mg "reversed" = none
 min:mg "min" = none
structure Kt (K:PySem.W.Frag):Prop where
structure Ct (K:PySem.W.Frag) (mg:Str->Option Value):Prop where
 ACROSS:∃ v u,mg "ACROSS" = some u/\cV v u/\IsD K (fun _=>none) v d_ACROSS
 BOAT:∃ v u,mg "BOAT" = some u/\cV v u/\IsD K (fun _=>none) v d_BOAT
 DEEPEST:∃ v u,mg "DEEPEST" = some u/\cV v u/\IsD K (fun _=>none) v d_DEEPEST
 HALF:∃ v u,mg "HALF" = some u/\cV v u/\IsD K (fun _=>none) v d_HALF
 MOST_BOATS:∃ v u,mg "MOST_BOATS" = some u/\cV v u/\IsD K (fun _=>none) v d_MOST_BOATS
 NOUGHT:∃ v u,mg "NOUGHT" = some u/\cV v u/\IsD K (fun _=>none) v eU
 OPENED:∃ v u,mg "OPENED" = some u/\cV v u/\IsD K (fun _=>none) v d_OPENED
 UP:∃ v u,mg "UP" = some u/\cV v u/\IsD K (fun _=>none) v d_UP
 WEIGHTED:∃ v u,mg "WEIGHTED" = some u/\cV v u/\IsD K (fun _=>none) v d_WEIGHTED
 CONTRARY:∃ a,IsTab K mg "CONTRARY" aU a
structure Rt (K:PySem.W.Frag) (mg:Str->Option Value):Prop where
 BadClaim:∃ C,Err K mg "BadClaim" C
 BadLine:∃ C,Err K mg "BadLine" C
 BadWay:∃ C,Err K mg "BadWay" C
 BadWeights:∃ C,Err K mg "BadWeights" C
 NoFraction:∃ C,Err K mg "NoFraction" C
 Outside:∃ C,Err K mg "Outside" C
 TooMany:∃ C,Err K mg "TooMany" C
 Unlike:∃ C,Err K mg "Unlike" C
structure Et (K:PySem.W.Frag) (mg:Str->Option Value):Prop where
theorem zRu{K:Fg_}{h:Heap}{mg:Str->Option Value}{t0 t1 t2 t3 t4 t5 t6 t7 t8 t9 t10 t11 t12 t13:Tok}{pHALF0:Addr}{o_pHALF0:Option Addr}{n_pHALF0:Nat}{s_pHALF0:Array (Option Value)}{pNOUGHT1:Addr}{o_pNOUGHT1:Option Addr}{n_pNOUGHT1:Nat}{s_pNOUGHT1:Array (Option Value)}{pOPENED2:Addr}{o_pOPENED2:Option Addr}{n_pOPENED2:Nat}{s_pOPENED2:Array (Option Value)}{pWEIGHTED3:Addr}{o_pWEIGHTED3:Option Addr}{n_pWEIGHTED3:Nat}{s_pWEIGHTED3:Array (Option Value)}{a_CONTRARY:Addr}(X:K.In h)(G:h.Ns mainGlobals mg)(n_ACROSS:PySem.W.nsIn K mainGlobals "ACROSS" = some (some (.int (0) t0)))(n_BOAT:PySem.W.nsIn K mainGlobals "BOAT" = some (some (.str "boat" t1)))(n_DEEPEST:PySem.W.nsIn K mainGlobals "DEEPEST" = some (some (.int (8) t2)))(n_HALF:PySem.W.nsIn K mainGlobals "HALF" = some (some (.ref pHALF0)))(pHALF0_l:K.lookup pHALF0=some ⟨.type "tuple", o_pHALF0,.seq #[.int (1) t3,.int (2) t4] n_pHALF0,s_pHALF0⟩)(n_MOST_BOATS:PySem.W.nsIn K mainGlobals "MOST_BOATS" = some (some (.int (12) t5)))(n_NOUGHT:PySem.W.nsIn K mainGlobals "NOUGHT" = some (some (.ref pNOUGHT1)))(pNOUGHT1_l:K.lookup pNOUGHT1=some ⟨.type "tuple", o_pNOUGHT1,.seq #[.int (0) t6,.int (1) t7] n_pNOUGHT1,s_pNOUGHT1⟩)(n_OPENED:PySem.W.nsIn K mainGlobals "OPENED" = some (some (.ref pOPENED2)))(pOPENED2_l:K.lookup pOPENED2=some ⟨.type "tuple", o_pOPENED2,.seq #[.str "row" t8,.str "back" t9,.str "part" t10] n_pOPENED2,s_pOPENED2⟩)(n_UP:PySem.W.nsIn K mainGlobals "UP" = some (some (.int (1) t11)))(n_WEIGHTED:PySem.W.nsIn K mainGlobals "WEIGHTED" = some (some (.ref pWEIGHTED3)))(pWEIGHTED3_l:K.lookup pWEIGHTED3=some ⟨.type "tuple", o_pWEIGHTED3,.seq #[.str "even" t12,.str "lack" t13] n_pWEIGHTED3,s_pWEIGHTED3⟩)(n_CONTRARY:PySem.W.nsIn K mainGlobals "CONTRARY" = some (some (.ref a_CONTRARY)))(aU:PyProof.Rows.KTD.tabLook (PyProof.Rows.KTD.datLooks fun a=>K.lookup a) (fun a=>K.lookup a) a_CONTRARY (zJQ Lw.aU)=true):Ct K mg:=⟨⟨.int (0),_,QU X G n_ACROSS,⟨_,rfl⟩,(.int _)⟩,⟨.str "boat", _,QU X G n_BOAT,⟨_,rfl⟩,(.str _)⟩,⟨.int (8),_,QU X G n_DEEPEST,⟨_,rfl⟩,(.int _)⟩,⟨.ref pHALF0,_,QU X G n_HALF,rfl,(.tup (.inr ⟨_,_,_,pHALF0_l,rfl,rfl,XL rfl,(.cons (show cV (.int (1)) _ from ⟨_,rfl⟩) (.cons (show cV (.int (2)) _ from ⟨_,rfl⟩) .nil))⟩) (.cons (.int _) (.cons (.int _) .nil)))⟩,⟨.int (12),_,QU X G n_MOST_BOATS,⟨_,rfl⟩,(.int _)⟩,⟨.ref pNOUGHT1,_,QU X G n_NOUGHT,rfl,(.tup (.inr ⟨_,_,_,pNOUGHT1_l,rfl,rfl,XL rfl,(.cons (show cV (.int (0)) _ from ⟨_,rfl⟩) (.cons (show cV (.int (1)) _ from ⟨_,rfl⟩) .nil))⟩) (.cons (.int _) (.cons (.int _) .nil)))⟩,⟨.ref pOPENED2,_,QU X G n_OPENED,rfl,(.tup (.inr ⟨_,_,_,pOPENED2_l,rfl,rfl,XL rfl,(.cons (show cV (.str "row") _ from ⟨_,rfl⟩) (.cons (show cV (.str "back") _ from ⟨_,rfl⟩) (.cons (show cV (.str "part") _ from ⟨_,rfl⟩) .nil)))⟩) (.cons (.str _) (.cons (.str _) (.cons (.str _) .nil))))⟩,⟨.int (1),_,QU X G n_UP,⟨_,rfl⟩,(.int _)⟩,⟨.ref pWEIGHTED3,_,QU X G n_WEIGHTED,rfl,(.tup (.inr ⟨_,_,_,pWEIGHTED3_l,rfl,rfl,XL rfl,(.cons (show cV (.str "even") _ from ⟨_,rfl⟩) (.cons (show cV (.str "lack") _ from ⟨_,rfl⟩) .nil))⟩) (.cons (.str _) (.cons (.str _) .nil)))⟩,⟨a_CONTRARY,QU X G n_CONTRARY,fun h X=>PyProof.Rows.KTD.text_of_look X aU⟩⟩
theorem zRH{K:Fg_}{h:Heap}{mg:Str->Option Value}{C_BadClaim:Addr}{C_BadLine:Addr}{C_BadWay:Addr}{C_BadWeights:Addr}{C_NoFraction:Addr}{C_Outside:Addr}{C_TooMany:Addr}{C_Unlike:Addr}(X:K.In h)(G:h.Ns mainGlobals mg)(n_BadClaim:PySem.W.nsIn K mainGlobals "BadClaim" = some (some (.ref C_BadClaim)))(x_BadClaim:PySem.W.excIn K C_BadClaim [.type "ValueError", .type "Exception", .type "BaseException", .type "object"] "ValueError.__new__" = true)(n_BadLine:PySem.W.nsIn K mainGlobals "BadLine" = some (some (.ref C_BadLine)))(x_BadLine:PySem.W.excIn K C_BadLine [.type "ValueError", .type "Exception", .type "BaseException", .type "object"] "ValueError.__new__" = true)(n_BadWay:PySem.W.nsIn K mainGlobals "BadWay" = some (some (.ref C_BadWay)))(x_BadWay:PySem.W.excIn K C_BadWay [.type "ValueError", .type "Exception", .type "BaseException", .type "object"] "ValueError.__new__" = true)(n_BadWeights:PySem.W.nsIn K mainGlobals "BadWeights" = some (some (.ref C_BadWeights)))(x_BadWeights:PySem.W.excIn K C_BadWeights [.type "ValueError", .type "Exception", .type "BaseException", .type "object"] "ValueError.__new__" = true)(n_NoFraction:PySem.W.nsIn K mainGlobals "NoFraction" = some (some (.ref C_NoFraction)))(x_NoFraction:PySem.W.excIn K C_NoFraction [.type "ValueError", .type "Exception", .type "BaseException", .type "object"] "ValueError.__new__" = true)(n_Outside:PySem.W.nsIn K mainGlobals "Outside" = some (some (.ref C_Outside)))(x_Outside:PySem.W.excIn K C_Outside [.type "ValueError", .type "Exception", .type "BaseException", .type "object"] "ValueError.__new__" = true)(n_TooMany:PySem.W.nsIn K mainGlobals "TooMany" = some (some (.ref C_TooMany)))(x_TooMany:PySem.W.excIn K C_TooMany [.type "ValueError", .type "Exception", .type "BaseException", .type "object"] "ValueError.__new__" = true)(n_Unlike:PySem.W.nsIn K mainGlobals "Unlike" = some (some (.ref C_Unlike)))(x_Unlike:PySem.W.excIn K C_Unlike [.type "ValueError", .type "Exception", .type "BaseException", .type "object"] "ValueError.__new__" = true):Rt K mg:=⟨sD X G n_BadClaim x_BadClaim VJ,sD X G n_BadLine x_BadLine VJ,sD X G n_BadWay x_BadWay VJ,sD X G n_BadWeights x_BadWeights VJ,sD X G n_NoFraction x_NoFraction VJ,sD X G n_Outside x_Outside VJ,sD X G n_TooMany x_TooMany VJ,sD X G n_Unlike x_Unlike VJ⟩
theorem zRI{K:Fg_}{h:Heap}{mg:Str->Option Value}(X:K.In h)(G:h.Ns mainGlobals mg):Et K mg:=⟨⟩
section
variable(P:Program)(w:World){K:Fg_}{mg:Str->Option Value}(base:Heap)(k:Nat){f:Addr}{fd:FuncData}
theorem zIz:RankDef iD:=⟨rfl,rfl,rfl,rfl,rfl,fun _ _ _=>⟨_,_,rfl,rfl,rfl⟩⟩
section
variable(B:Bt mg)(KT:Kt K)(C:Ct K mg)(R:Rt K mg)(ET:Et K mg)
include B KT C R ET
theorem rC(F:Fn K mg "common_divisor" hU ["one","two"] f fd):CanM P w K mg base (k+1) "common_divisor" ["one","two"] bZ:=
  aM F cH fun cdv A outer s H E G W WR=>(aF (bH (i:=0) cH.nd rfl (Or.inl rfl) (aR zAY zGq rfl B.abs boot_abs (aA (aJ 0) aE aB)))
 (aF (bH (i:=1) cH.nd rfl (Or.inl rfl) (aR zAY zGq rfl B.abs boot_abs (aA (aJ 1) aE aB)))
 (aF (zAd W.own (tst (neA W.u) zKP (aJ 1) cB (bG _)) (aF (bH (i:=2) cH.nd rfl (Or.inl rfl) (bC dO lO (aJ 0) (aJ 1)))
 (aF (bH (i:=0) cH.nd rfl (Or.inl rfl) (aJ 1))
 (aK (bH (i:=1) cH.nd rfl (Or.inl rfl) (aJ 2))))))
 (aK (cW (aJ 0))))))
theorem zJV(F:Fn K mg "whole" zCT ["number"] f fd):CanM P w K mg base (k+1) "whole" ["number"] bL:=
 aM F zKG fun cdv A outer s H E G W WR=>(aK (cW (mT (aA (aJ 0) (aA cB aE cN) aB))))
theorem zOm(F:Fn K mg "less" zGA ["one","two"] f fd):CanM P w K mg base (k+1) "less" ["one","two"] fH:=
 aM F zNY fun cdv A outer s H E G W WR=>(aK (cW (zGg xG zJs (bC dI lM (nV 0) (nV 1)) (bC dI lM (nV 1) (nV 0)) (bG _))))
theorem zGG(F:Fn K mg "ranked" iD ["some"] f fd){T:Addr}(hT:oU K mg T)(hB:BMn base mg):CanR P w K mg base (k+1) jF:=
 zNz F pL zIz hT hB B.sorted B.range B.len rfl fun cdv A outer s H E G W WR=>⟨(bH (i:=1) pL.nd rfl (Or.inr rfl) cB),(mZ W.own W.calm (gW (aJ 0)) (eN (i:=2) pL.nd rfl (Or.inl rfl)) bV (aK (bH (i:=1) pL.nd rfl (Or.inr rfl) (bC dI lM (aJ 1) (nV 2)))))⟩
theorem zZ(F:Fn K mg "refuse_way" mV ["way"] f fd):CanM P w K mg base (k+1) "refuse_way" ["way"] bX:=
 aM F zBa fun cdv A outer s H E G W WR=>(aK (jC (zJK C.CONTRARY.choose_spec rfl (aJ 0) (by with_unfolding_all rfl)) (aK (fR W WR R.BadWay rfl (aA (mP cM fun _=>.str _) aE cN))) bM))
theorem sJ(F:Fn K mg "refuse_claims" iV ["claims"] f fd):CanM P w K mg base (k+1) "refuse_claims" ["claims"] dR:=
  aM F lE fun cdv A outer s H E G W WR=>(aF (jC (tst (eqA W.u) sX (aR aP cX rfl B.len Qy (aA (aJ 0) aE aB)) cB (bG _)) (aK (fR W WR R.BadClaim rfl (aA (mP cM fun _=>.str _) aE cN))) bM)
 (aK (mZ W.own W.calm (gW (aJ 0)) (eN (i:=1) lE.nd rfl (Or.inl rfl)) bV (aK (jC (tst xG zJs (aJ 1) cB (bG _)) (aK (fR W WR R.BadClaim rfl (aA (mP cM fun _=>.str _) aE cN))) bM)))))
theorem rP(F:Fn K mg "refuse_weights" gX ["way","weights","many"] f fd):CanM P w K mg base (k+1) "refuse_weights" ["way","weights","many"] bA:=
  aM F gG fun cdv A outer s H E G W WR=>(aF (bH (i:=3) gG.nd rfl (Or.inl rfl) (zMl (tst (inA W.u) zSz (aJ 0) (bJ rfl C.WEIGHTED) (by with_unfolding_all rfl)) (aJ 2) cB))
 (aF (jC (tst (neA W.u) zKP (aR aP cX rfl B.len Qy (aA (aJ 1) aE aB)) (aJ 3) (bG _)) (aK (fR W WR R.BadWeights rfl (aA (mP cM fun _=>.str _) aE cN))) bM)
 (aK (mZ W.own W.calm (gW (aJ 1)) (eN (i:=4) gG.nd rfl (Or.inl rfl)) bV (aK (jC (PWd.pt (zOn (tst xG zJs (aJ 4) cB (bG _)) (zIn (tst zBo zLj (aJ 4) (bC tR zHD cB cB) (bG _))))) (aK (fR W WR R.BadWeights rfl (aA (mP cM fun _=>.str _) aE cN))) bM))))))
theorem zNc(F:Fn K mg "boat" zIs ["claim"] f fd):CanM P w K mg base (k+1) "boat" ["claim"] yI:=
  aM F zNM fun cdv A outer s H E G W WR=>(aF (jC (PWd.pt (zOn (tst xG zJs (aJ 0) cB (bG _)) (zIn (tst zBo zLj (aJ 0) (bC tR zHD cB cB) (bG _))))) (aK (fR W WR R.BadClaim rfl (aA (mP cM fun _=>.str _) aE cN))) bM)
 (aK (cW (mT (aA (bJ rfl C.BOAT) (aA (aJ 0) aE aB) aB)))))
theorem zFu(F:Fn K mg "is_boat" vT ["custom"] f fd):CanM P w K mg base (k+1) "is_boat" ["custom"] bP:=
 aM F zFQ fun cdv A outer s H E G W WR=>(aK (cW (zGg (eqA W.u) sX (nV 0) (bJ rfl C.BOAT) (bG _))))
theorem zHL(F:Fn K mg "way_of" zK ["custom"] f fd):CanM P w K mg base (k+1) "way_of" ["custom"] dD:=
 aM F zHW fun cdv A outer s H E G W WR=>(aK (cW (nV 0)))
theorem zAL(F:Fn K mg "weights_of" mX ["custom"] f fd):CanM P w K mg base (k+1) "weights_of" ["custom"] bQ:=
 aM F zAg fun cdv A outer s H E G W WR=>(aK (cW (nV 0)))
theorem zJg(F:Fn K mg "length" zAZ ["line"] f fd):CanM P w K mg base (k+1) "length" ["line"] kM:=
 aM F zGv fun cdv A outer s H E G W WR=>(aK (cW (bY aQ gY (bY aQ gY (aJ 0) (yB cB) (fun _ _=>rfl)) (bJ rfl C.ACROSS) (fun _ _=>rfl))))
theorem zGx(F:Fn K mg "height" zAI ["line"] f fd):CanM P w K mg base (k+1) "height" ["line"] pN:=
 aM F zHK fun cdv A outer s H E G W WR=>(aK (cW (bY aQ gY (bY aQ gY (aJ 0) (yB cB) (fun _ _=>rfl)) (bJ rfl C.UP) (fun _ _=>rfl))))
theorem zHO(F:Fn K mg "places" sY ["line"] f fd):CanM P w K mg base (k+1) "places" ["line"] nR:=
 aM F zBT fun cdv A outer s H E G W WR=>(aK (dP (fM W zBT.nd rfl (sc:=aH sY) rfl rfl (by decide +kernel) (gW (aJ 0)) (fun C2 s2 H2 fp2 G W=>⟨jD,(bY aQ gY (aJ 1) (bJ rfl C.ACROSS) (fun _ _=>rfl))⟩))))
theorem wY(F:Fn K mg "_law_weights" kX ["way","cell","many"] f fd):CanM P w K mg base (k+1) "_law_weights" ["way","cell","many"] eA:=
  aM F eO fun cdv A outer s H E G W WR=>(aF (lW (i:=3) eO.nd rfl (Or.inl rfl) (cD aE))
 (aF (jC (PWd.pt (zOn (tst (eqA W.u) sX (aJ 0) (mP cM fun _=>.str _) (bG _)) (zIn (tst (eqA W.u) sX (aJ 0) (mP cM fun _=>.str _) (bG _))))) (aK (mZ W.own W.calm (zLg rfl B.range (aA (aJ 2) aE aB)) (eN (i:=4) eO.nd rfl (Or.inl rfl)) bV (aF (bH (i:=5) eO.nd rfl (Or.inl rfl) (bC dO lO (bC eH nY (bC eH nY (aJ 1) (bC dI lM (bC dI lM cB (aJ 4)) (aJ 4))) (aJ 4)) cB))
 (aF (bH (i:=5) eO.nd rfl (Or.inl rfl) (bC eG oI (bC dO lO (bC dI lM (aJ 5) (aJ 5)) cB) cB))
 (aK (uZ (i:=3) (pv 3) (bY aQ gY (PEf.d (cD (aA (bC eH nY cB (bC dO lO (aJ 5) cB)) (aA (bC eH nY cB (bC dI lM cB (bC dO lO (aJ 5) cB))) (aA (bC eH nY cB (bC dO lO (aJ 5) (bC tR zHD cB cB))) aE bT) bT) bT))) (bC dO lO (aJ 1) cB) (fun _ _=>rfl)))))))) bM)
 (aK (fT 3 (pv 3)))))
theorem zDm(F:Fn K mg "_law_frac" rA ["top","bottom"] f fd):CanM P w K mg base (k+1) "_law_frac" ["top","bottom"] kF:=
  aM F fZ fun cdv A outer s H E G W WR=>(aF (bH (i:=2) fZ.nd rfl (Or.inl rfl) (aR zAY zGq rfl B.abs boot_abs (aA (aJ 0) aE aB)))
 (aF (bH (i:=3) fZ.nd rfl (Or.inl rfl) (aJ 1))
 (aF (zAd W.own (tst zBo zLj (aJ 3) cB (bG _)) (aF (bH (i:=4) fZ.nd rfl (Or.inl rfl) (bC dO lO (aJ 2) (aJ 3)))
 (aF (bH (i:=2) fZ.nd rfl (Or.inl rfl) (aJ 3))
 (aK (bH (i:=3) fZ.nd rfl (Or.inl rfl) (aJ 4))))))
 (aK (cW (mT (aA (bC eG oI (aJ 0) (aJ 2)) (aA (bC eG oI (aJ 1) (aJ 2)) aE bT) bT)))))))
theorem zOg(F:Fn K mg "made" zGM ["top","bottom"] f fd)(YV:CanM P w K mg base k "common_divisor" ["one","two"] bZ):CanM P w K mg base (k+1) "made" ["top","bottom"] iN:=
  aM F zDc fun cdv A outer s H E G W WR=>(aF (jC (tst (eqA W.u) sX (aJ 1) cB (bG _)) (aK (fR W WR R.NoFraction rfl (aA (mP cM fun _=>.str _) aE cN))) bM)
 (aF (bH (i:=2) zDc.nd rfl (Or.inl rfl) (aG W YV rfl (aA (aJ 0) (aA (aJ 1) aE aB) aB)))
 (aF (jC (tst xG zJs (aJ 1) cB (bG _)) (aK (bH (i:=2) zDc.nd rfl (Or.inl rfl) (yB (aJ 2)))) bM)
 (aK (cW (mT (aA (bC eG oI (aJ 0) (aJ 2)) (aA (bC eG oI (aJ 1) (aJ 2)) aE bT) bT)))))))
theorem zGk(F:Fn K mg "lesser" zN ["one","two"] f fd)(UN:CanM P w K mg base k "less" ["one","two"] fH):CanM P w K mg base (k+1) "lesser" ["one","two"] kI:=
 aM F zGi fun cdv A outer s H E G W WR=>(aK (cW (zMl (zEV (aG W UN rfl (aA (aJ 0) (aA (aJ 1) aE aB) aB))) (aJ 0) (aJ 1))))
theorem yW(F:Fn K mg "is_outside" lY ["amount","most"] f fd)(UN:CanM P w K mg base k "less" ["one","two"] fH):CanM P w K mg base (k+1) "is_outside" ["amount","most"] dU:=
 aM F zM fun cdv A outer s H E G W WR=>(aK (cW (zRw (aG W UN rfl (aA (aJ 0) (aA (bJ rfl C.NOUGHT) aE aB) aB)) (zPK (aG W UN rfl (aA (aJ 1) (aA (aJ 0) aE aB) aB))))))
theorem zHM(F:Fn K mg "looked" zAT ["way","weights","claims"] f fd)(Uc:CanM P w K mg base k "refuse_way" ["way"] bX)(YX:CanM P w K mg base k "refuse_claims" ["claims"] dR)(YU:CanM P w K mg base k "refuse_weights" ["way","weights","many"] bA):CanM P w K mg base (k+1) "looked" ["way","weights","claims"] lC:=
  aM F zHG fun cdv A outer s H E G W WR=>(aF (lG (aG W Uc rfl (aA (aJ 0) aE aB)))
 (aF (lG (aG W YX rfl (aA (aJ 2) aE aB)))
 (aK (lG (aG W YU rfl (aA (aJ 0) (aA (aJ 1) (aA (aR aP cX rfl B.len Qy (aA (aJ 2) aE aB)) aE aL) aB) aB))))))
theorem vD(F:Fn K mg "contrary_way" jO ["way"] f fd)(Uc:CanM P w K mg base k "refuse_way" ["way"] bX):CanM P w K mg base (k+1) "contrary_way" ["way"] dM:=
  aM F tU fun cdv A outer s H E G W WR=>(aF (lG (aG W Uc rfl (aA (aJ 0) aE aB)))
 (aK (cW (zLA C.CONTRARY.choose_spec rfl (aJ 0) (fun _ _=>rfl)))))
theorem zFm(F:Fn K mg "kids_of" uF ["custom"] f fd)(Us:CanM P w K mg base k "is_boat" ["custom"] bP):CanM P w K mg base (k+1) "kids_of" ["custom"] bI:=
 aM F zGc fun cdv A outer s H E G W WR=>(aK (cW (zMl (zEV (aG W Us rfl (aA (aJ 0) aE aB))) (mT aE) (nV 0))))
theorem zFn(F:Fn K mg "divided" pI ["weights"] f fd)(YV:CanM P w K mg base k "common_divisor" ["one","two"] bZ):CanM P w K mg base (k+1) "divided" ["weights"] kG:=
  aM F kE fun cdv A outer s H E G W WR=>(aF (bH (i:=1) kE.nd rfl (Or.inr rfl) cB)
 (aF (mZ W.own W.calm (gW (aJ 0)) (eN (i:=2) kE.nd rfl (Or.inl rfl)) bV (aK (bH (i:=1) kE.nd rfl (Or.inr rfl) (aG W YV rfl (aA (aJ 1) (aA (aJ 2) aE aB) aB)))))
 (aK (dP (fM W kE.nd rfl (sc:=aH pI) rfl rfl (by decide +kernel) (gW (aJ 0)) (fun C2 s2 H2 fp2 G W=>⟨jD,(bC eG oI (aJ 3) (aJ 1))⟩))))))
theorem zAM(F:Fn K mg "refuse_bad" mD ["points"] f fd)(UN:CanM P w K mg base k "less" ["one","two"] fH):CanM P w K mg base (k+1) "refuse_bad" ["points"] gN:=
  aM F iC fun cdv A outer s H E G W WR=>(aF (jC (tst (eqA W.u) sX (aR aP cX rfl B.len Qy (aA (aJ 0) aE aB)) cB (bG _)) (aK (fR W WR R.BadLine rfl (aA (mP cM fun _=>.str _) aE cN))) bM)
 (aF (jC (tst (neA W.u) zKP (nV 0) (mT (aA (bJ rfl C.NOUGHT) (aA (bJ rfl C.NOUGHT) aE aB) aB)) (bG _)) (aK (fR W WR R.BadLine rfl (aA (mP cM fun _=>.str _) aE cN))) bM)
 (aK (mZ W.own W.calm (zPx rfl B.range (aA cB (aA (aR aP cX rfl B.len Qy (aA (aJ 0) aE aB)) aE aL) cN)) (eN (i:=1) iC.nd rfl (Or.inl rfl)) bV (aF (bH (i:=2) iC.nd rfl (Or.inl rfl) (bY aQ gY (aJ 0) (bC mO vX (aJ 1) cB) (fun _ _=>rfl)))
 (aF (bH (i:=3) iC.nd rfl (Or.inl rfl) (bY aQ gY (aJ 0) (aJ 1) (fun _ _=>rfl)))
 (aF (jC (zSo (zEV (aG W UN rfl (aA (bY aQ gY (aJ 2) (bJ rfl C.ACROSS) (fun _ _=>rfl)) (aA (bY aQ gY (aJ 3) (bJ rfl C.ACROSS) (fun _ _=>rfl)) aE aX) aX)))) (aK (fR W WR R.BadLine rfl (aA (mP cM fun _=>.str _) aE cN))) bM)
 (aK (jC (zEV (aG W UN rfl (aA (bY aQ gY (aJ 3) (bJ rfl C.UP) (fun _ _=>rfl)) (aA (bY aQ gY (aJ 2) (bJ rfl C.UP) (fun _ _=>rfl)) aE aX) aX))) (aK (fR W WR R.BadLine rfl (aA (mP cM fun _=>.str _) aE cN))) bM)))))))))
theorem qT(F:Fn K mg "first_reaching" hZ ["line","axis","amount"] f fd)(UN:CanM P w K mg base k "less" ["one","two"] fH):CanM P w K mg base (k+1) "first_reaching" ["line","axis","amount"] dJ:=
  aM F cE fun cdv A outer s H E G W WR=>(aF (bH (i:=3) cE.nd rfl (Or.inl rfl) cB)
 (aF (bH (i:=4) cE.nd rfl (Or.inl rfl) (bC mO vX (aR aP cX rfl B.len Qy (aA (aJ 0) aE aB)) cB))
 (aF (zAd W.own (tst xG zJs (aJ 3) (aJ 4) (bG _)) (aF (bH (i:=5) cE.nd rfl (Or.inl rfl) (bC eG oI (bC eH nY (aJ 3) (aJ 4)) cB))
 (aK (jC (zEV (aG W UN rfl (aA (bY aQ gY (bY aQ gY (aJ 0) (aJ 5) (fun _ _=>rfl)) (aJ 1) (fun _ _=>rfl)) (aA (aJ 2) aE aB) aX))) (aK (bH (i:=3) cE.nd rfl (Or.inl rfl) (bC eH nY (aJ 5) cB))) (aK (bH (i:=4) cE.nd rfl (Or.inl rfl) (aJ 5)))))))
 (aK (cW (aJ 3))))))
theorem zGR(F:Fn K mg "merged" zAC ["one","two"] f fd)(UN:CanM P w K mg base k "less" ["one","two"] fH):CanM P w K mg base (k+1) "merged" ["one","two"] pF:=
  aM F jY fun cdv A outer s H E G W WR=>(aF (lW (i:=2) jY.nd rfl (Or.inl rfl) (cD aE))
 (aF (bH (i:=3) jY.nd rfl (Or.inl rfl) cB)
 (aF (mZ W.own W.calm (gW (aJ 0)) (eN (i:=4) jY.nd rfl (Or.inl rfl)) bV (aF (zAd W.own (PWd.pt (zFq (tst xG zJs (aJ 3) (aR aP cX rfl B.len Qy (aA (aJ 1) aE aB)) (bG _)) (zBC (zEV (aG W UN rfl (aA (bY aQ gY (aJ 1) (aJ 3) (fun _ _=>rfl)) (aA (aJ 4) aE aB) aX)))))) (aF (uZ (i:=2) (pv 2) (bY aQ gY (aJ 1) (aJ 3) (fun _ _=>rfl)))
 (aK (zFM (i:=3) jY.nd rfl (Or.inl rfl) cB zEo zAs sU))))
 (aF (jC (PWd.pt (zFq (tst xG zJs (aJ 3) (aR aP cX rfl B.len Qy (aA (aJ 1) aE aB)) (bG _)) (zBC (tst (eqA W.u) sX (bY aQ gY (aJ 1) (aJ 3) (fun _ _=>rfl)) (aJ 4) (bG _))))) (aK (zFM (i:=3) jY.nd rfl (Or.inl rfl) cB zEo zAs sU)) bM)
 (aK (uZ (i:=2) (pv 2) (aJ 4))))))
 (aF (zKd (i:=2) (pv 2) (iE (aJ 1) (kQ (aJ 3)) kY))
 (aK (fT 2 (pv 2)))))))
theorem zAh(F:Fn K mg "row_joints" lS ["claims"] f fd)(UI:CanM P w K mg base k "whole" ["number"] bL):CanM P w K mg base (k+1) "row_joints" ["claims"] fE:=
  aM F fN fun cdv A outer s H E G W WR=>(aF (bH (i:=1) fN.nd rfl (Or.inl rfl) cB)
 (aF (lW (i:=2) fN.nd rfl (Or.inl rfl) (cD (aA (bJ rfl C.NOUGHT) aE aB)))
 (aF (mZ W.own W.calm (gW (aJ 0)) (eN (i:=3) fN.nd rfl (Or.inl rfl)) bV (aF (zFM (i:=1) fN.nd rfl (Or.inl rfl) (aJ 3) zEo zAs sU)
 (aK (uZ (i:=2) (pv 2) (aG W UI rfl (aA (aJ 1) aE aB))))))
 (aK (fT 2 (pv 2))))))
theorem qL(F:Fn K mg "without_doubles" gB ["joints"] f fd)(UN:CanM P w K mg base k "less" ["one","two"] fH):CanM P w K mg base (k+1) "without_doubles" ["joints"] cY:=
  aM F fQ fun cdv A outer s H E G W WR=>(aF (lW (i:=1) fQ.nd rfl (Or.inl rfl) (iE (aJ 0) kY (kQ cB)))
 (aF (mZ W.own W.calm (gW (aJ 0)) (eN (i:=2) fQ.nd rfl (Or.inl rfl)) bV (aK (jC (PTd.frz (zEV (aG W UN rfl (aA (bY aQ gY (aJ 1) (yB cB) (fun _ _=>rfl)) (aA (aJ 2) aE aB) aX)))) (aK (uZ (i:=1) (pv 1) (aJ 2))) bM)))
 (aK (fT 1 (pv 1)))))
theorem zBG(F:Fn K mg "_law_catch" oG ["cell","claim"] f fd)(Uj:CanM P w K mg base k "_law_frac" ["top","bottom"] kF):CanM P w K mg base (k+1) "_law_catch" ["cell","claim"] iQ:=
  aM F rZ fun cdv A outer s H E G W WR=>(aF (bH (i:=2) rZ.nd rfl (Or.inl rfl) (bY aQ gY (PEf.d (cD (aA cB (aA (bC eH nY cB (bC dO lO (bC eG oI (aJ 0) cB) cB)) (aA cB (aA (bC eH nY cB (bC dO lO (bC eG oI (aJ 0) cB) (bC tR zHD cB cB))) aE bT) cN) bT) cN))) (bC dO lO (aJ 0) cB) (fun _ _=>rfl)))
 (aK (cW (aG W Uj rfl (aA (bC dO lO (bC eG oI (aJ 0) cB) (bC eH nY (bC dI lM (aJ 1) (aJ 2)) cB)) (aA (aJ 2) aE aB) bT)))))
theorem zNF(F:Fn K mg "plus" zHN ["one","two"] f fd)(UO:CanM P w K mg base k "made" ["top","bottom"] iN):CanM P w K mg base (k+1) "plus" ["one","two"] lL:=
 aM F zMj fun cdv A outer s H E G W WR=>(aK (cW (aG W UO rfl (aA (bC eH nY (bC dI lM (nV 0) (nV 1)) (bC dI lM (nV 1) (nV 0))) (aA (bC dI lM (nV 0) (nV 1)) aE bT) bT))))
theorem zKD(F:Fn K mg "minus" zDD ["one","two"] f fd)(UO:CanM P w K mg base k "made" ["top","bottom"] iN):CanM P w K mg base (k+1) "minus" ["one","two"] cO:=
 aM F zJE fun cdv A outer s H E G W WR=>(aK (cW (aG W UO rfl (aA (bC mO vX (bC dI lM (nV 0) (nV 1)) (bC dI lM (nV 1) (nV 0))) (aA (bC dI lM (nV 0) (nV 1)) aE bT) bT))))
theorem zKr(F:Fn K mg "times" zDv ["one","two"] f fd)(UO:CanM P w K mg base k "made" ["top","bottom"] iN):CanM P w K mg base (k+1) "times" ["one","two"] dE:=
 aM F zKv fun cdv A outer s H E G W WR=>(aK (cW (aG W UO rfl (aA (bC dI lM (nV 0) (nV 1)) (aA (bC dI lM (nV 0) (nV 1)) aE bT) bT))))
theorem zMD(F:Fn K mg "over" zIo ["one","two"] f fd)(UO:CanM P w K mg base k "made" ["top","bottom"] iN):CanM P w K mg base (k+1) "over" ["one","two"] oX:=
 aM F zMh fun cdv A outer s H E G W WR=>(aK (cW (aG W UO rfl (aA (bC dI lM (nV 0) (nV 1)) (aA (bC dI lM (nV 0) (nV 1)) aE bT) bT))))
theorem qN(F:Fn K mg "refuse_outside" hJ ["amount","most"] f fd)(Y2:CanM P w K mg base k "is_outside" ["amount","most"] dU):CanM P w K mg base (k+1) "refuse_outside" ["amount","most"] bF:=
 aM F qP fun cdv A outer s H E G W WR=>(aK (jC (zEV (aG W Y2 rfl (aA (aJ 0) (aA (aJ 1) aE aB) aB))) (aK (fR W WR R.Outside rfl (aA (mP cM fun _=>.str _) aE cN))) bM))
theorem zBh(F:Fn K mg "levels_of" kZ ["weights","claims"] f fd)(UO:CanM P w K mg base k "made" ["top","bottom"] iN):CanM P w K mg base (k+1) "levels_of" ["weights","claims"] dQ:=
 aM F zCv fun cdv A outer s H E G W WR=>(aK (dP (tJ (N:=["weights","claims"]) W (by decide +kernel) rfl (sc:=aH kZ) rfl rfl (by decide +kernel) (zGr rfl B.zip (aA (aJ 1) (aA (aJ 0) aE aB) aB)) (fun C2 s2 H2 fp2 G W=>(aG W UO rfl (aA (aJ 2) (aA (aJ 3) aE aB) aB))))))
theorem zGn(F:Fn K mg "opened" zQ ["way","kids"] f fd)(Uz:CanM P w K mg base k "way_of" ["custom"] dD)(Uu:CanM P w K mg base k "kids_of" ["custom"] bI):CanM P w K mg base (k+1) "opened" ["way","kids"] nQ:=
  aM F vC fun cdv A outer s H E G W WR=>(aF (jC (tst (zOH W.u) zNk (aJ 0) (bJ rfl C.OPENED) (by with_unfolding_all rfl)) (aK (cW (aJ 1))) bM)
 (aF (lW (i:=2) vC.nd rfl (Or.inl rfl) (cD aE))
 (aF (mZ W.own W.calm (gW (aJ 1)) (eN (i:=3) vC.nd rfl (Or.inl rfl)) bV (aK (jC (tst (eqA W.u) sX (aG W Uz rfl (aA (aJ 3) aE aB)) (aJ 0) (bG _)) (aK (zOF (i:=2) (pv 2) (aG W Uu rfl (aA (aJ 3) aE aB)))) (aK (uZ (i:=2) (pv 2) (aJ 3))))))
 (aK (fT 2 (pv 2))))))
theorem zBn(F:Fn K mg "row_dealt" oF ["claims","catch"] f fd)(UA:CanM P w K mg base k "lesser" ["one","two"] kI)(UJ:CanM P w K mg base k "minus" ["one","two"] cO)(UI:CanM P w K mg base k "whole" ["number"] bL):CanM P w K mg base (k+1) "row_dealt" ["claims","catch"] gD:=
  aM F fG fun cdv A outer s H E G W WR=>(aF (bH (i:=2) fG.nd rfl (Or.inl rfl) (aJ 1))
 (aF (lW (i:=3) fG.nd rfl (Or.inl rfl) (cD aE))
 (aF (mZ W.own W.calm (gW (aJ 0)) (eN (i:=4) fG.nd rfl (Or.inl rfl)) bV (aF (bH (i:=5) fG.nd rfl (Or.inl rfl) (aG W UA rfl (aA (aJ 2) (aA (aG W UI rfl (aA (aJ 4) aE aB)) aE aL) aB)))
 (aF (uZ (i:=3) (pv 3) (aJ 5))
 (aK (bH (i:=2) fG.nd rfl (Or.inl rfl) (aG W UJ rfl (aA (aJ 2) (aA (aJ 5) aE aB) aB)))))))
 (aK (fT 3 (pv 3))))))
theorem zAf(F:Fn K mg "even_dealt" mG ["weights","claims","catch"] f fd)(Uy:CanR P w K mg base k jF)(Ud:CanM P w K mg base k "levels_of" ["weights","claims"] dQ)(UR:CanM P w K mg base k "over" ["one","two"] oX)(UA:CanM P w K mg base k "lesser" ["one","two"] kI)(UJ:CanM P w K mg base k "minus" ["one","two"] cO)(UK:CanM P w K mg base k "times" ["one","two"] dE)(UI:CanM P w K mg base k "whole" ["number"] bL):CanM P w K mg base (k+1) "even_dealt" ["weights","claims","catch"] dC:=
  aM F cT fun cdv A outer s H E G W WR=>(aF (bH (i:=3) cT.nd rfl (Or.inl rfl) (aJ 2))
 (aF (bH (i:=4) cT.nd rfl (Or.inl rfl) (aR (jM W.calm) rV rfl B.sum gQ (aA (aJ 0) aE aB)))
 (aF (lW (i:=5) cT.nd rfl (Or.inl rfl) (zEC (cD (aA (bJ rfl C.NOUGHT) aE aB)) (aR aP cX rfl B.len Qy (aA (aJ 1) aE aB))))
 (zGY W Uy zPG zLu rfl (aA (PEf.d (bE W Ud rfl (aA (aJ 0) (aA (aJ 1) aE aB) aB))) aE aL) (eN (i:=6) cT.nd rfl (Or.inl rfl)) bV (aF (bH (i:=7) cT.nd rfl (Or.inl rfl) (aG W UR rfl (aA (aG W UK rfl (aA (aJ 3) (aA (aG W UI rfl (aA (bY aQ gY (aJ 0) (aJ 6) (fun _ _=>rfl)) aE aX)) aE aL) aB)) (aA (aG W UI rfl (aA (aJ 4) aE aB)) aE aL) aL)))
 (aF (zRl (i:=5) (pv 5) (aJ 6) (aG W UA rfl (aA (aJ 7) (aA (aG W UI rfl (aA (bY aQ gY (aJ 1) (aJ 6) (fun _ _=>rfl)) aE aX)) aE aL) aB)))
 (aF (bH (i:=3) cT.nd rfl (Or.inl rfl) (PEd.frz (aG W UJ rfl (aA (aJ 3) (aA (bY aQ gY (aJ 5) (aJ 6) (fun _ _=>rfl)) aE aX) aB))))
 (aK (zFM (i:=4) cT.nd rfl (Or.inl rfl) (bY aQ gY (aJ 0) (aJ 6) (fun _ _=>rfl)) zLq zHj zEb))))) (aK (fT 5 (pv 5)))))))
theorem yS(F:Fn K mg "part_dealt" jB ["claims","catch"] f fd)(UR:CanM P w K mg base k "over" ["one","two"] oX)(UI:CanM P w K mg base k "whole" ["number"] bL)(UK:CanM P w K mg base k "times" ["one","two"] dE):CanM P w K mg base (k+1) "part_dealt" ["claims","catch"] fF:=
  aM F iF fun cdv A outer s H E G W WR=>(aF (bH (i:=2) iF.nd rfl (Or.inl rfl) (aR (jM W.calm) rV rfl B.sum gQ (aA (aJ 0) aE aB)))
 (aF (jC (tst (eqA W.u) sX (aJ 2) cB (bG _)) (aK (dP (zEC (cD (aA (bJ rfl C.NOUGHT) aE aB)) (aR aP cX rfl B.len Qy (aA (aJ 0) aE aB))))) bM)
 (aF (bH (i:=3) iF.nd rfl (Or.inr rfl) (aG W UR rfl (aA (aJ 1) (aA (aG W UI rfl (aA (aJ 2) aE aB)) aE aL) aB)))
 (aK (dP (fM W iF.nd rfl (sc:=aH jB) rfl rfl (by decide +kernel) (gW (aJ 0)) (fun C2 s2 H2 fp2 G W=>⟨jD,(aG W UK rfl (aA (aJ 3) (aA (aG W UI rfl (aA (aJ 4) aE aB)) aE aL) aB))⟩)))))))
theorem yY(F:Fn K mg "is_between" mH ["ahead","point","later"] f fd)(UJ:CanM P w K mg base k "minus" ["one","two"] cO)(UK:CanM P w K mg base k "times" ["one","two"] dE):CanM P w K mg base (k+1) "is_between" ["ahead","point","later"] gT:=
  aM F fV fun cdv A outer s H E G W WR=>(aF (bH (i:=3) fV.nd rfl (Or.inl rfl) (aG W UJ rfl (aA (bY aQ gY (aJ 1) (bJ rfl C.UP) (fun _ _=>rfl)) (aA (bY aQ gY (aJ 0) (bJ rfl C.UP) (fun _ _=>rfl)) aE aX) aX)))
 (aF (bH (i:=4) fV.nd rfl (Or.inl rfl) (aG W UJ rfl (aA (bY aQ gY (aJ 2) (bJ rfl C.UP) (fun _ _=>rfl)) (aA (bY aQ gY (aJ 1) (bJ rfl C.UP) (fun _ _=>rfl)) aE aX) aX)))
 (aF (bH (i:=5) fV.nd rfl (Or.inl rfl) (aG W UJ rfl (aA (bY aQ gY (aJ 1) (bJ rfl C.ACROSS) (fun _ _=>rfl)) (aA (bY aQ gY (aJ 0) (bJ rfl C.ACROSS) (fun _ _=>rfl)) aE aX) aX)))
 (aF (bH (i:=6) fV.nd rfl (Or.inl rfl) (aG W UJ rfl (aA (bY aQ gY (aJ 2) (bJ rfl C.ACROSS) (fun _ _=>rfl)) (aA (bY aQ gY (aJ 1) (bJ rfl C.ACROSS) (fun _ _=>rfl)) aE aX) aX)))
 (aK (cW (zGg (eqA W.u) sX (aG W UK rfl (aA (aJ 3) (aA (aJ 6) aE aB) aB)) (aG W UK rfl (aA (aJ 4) (aA (aJ 5) aE aB) aB)) (bG _))))))))
theorem zQA(F:Fn K mg "met" zOo ["line","axis","amount"] f fd)(YW:CanM P w K mg base k "first_reaching" ["line","axis","amount"] dJ)(UR:CanM P w K mg base k "over" ["one","two"] oX)(UT:CanM P w K mg base k "plus" ["one","two"] lL)(UJ:CanM P w K mg base k "minus" ["one","two"] cO)(UK:CanM P w K mg base k "times" ["one","two"] dE):CanM P w K mg base (k+1) "met" ["line","axis","amount"] vR:=
  aM F xW fun cdv A outer s H E G W WR=>(aF (bH (i:=3) xW.nd rfl (Or.inl rfl) (bC mO vX cB (aJ 1)))
 (aF (bH (i:=4) xW.nd rfl (Or.inl rfl) (aG W YW rfl (aA (aJ 0) (aA (aJ 1) (aA (aJ 2) aE aB) aB) aB)))
 (aF (bH (i:=5) xW.nd rfl (Or.inl rfl) (bY aQ gY (aJ 0) (aJ 4) (fun _ _=>rfl)))
 (aF (jC (tst (eqA W.u) sX (bY aQ gY (aJ 5) (aJ 1) (fun _ _=>rfl)) (aJ 2) (bG _)) (aK (cW (bY aQ gY (aJ 5) (aJ 3) (fun _ _=>rfl)))) bM)
 (aF (bH (i:=6) xW.nd rfl (Or.inl rfl) (bY aQ gY (aJ 0) (bC mO vX (aJ 4) cB) (fun _ _=>rfl)))
 (aF (bH (i:=7) xW.nd rfl (Or.inl rfl) (aG W UR rfl (aA (aG W UJ rfl (aA (aJ 2) (aA (bY aQ gY (aJ 6) (aJ 1) (fun _ _=>rfl)) aE aX) aB)) (aA (aG W UJ rfl (aA (bY aQ gY (aJ 5) (aJ 1) (fun _ _=>rfl)) (aA (bY aQ gY (aJ 6) (aJ 1) (fun _ _=>rfl)) aE aX) aX)) aE aL) aL)))
 (aK (cW (aG W UT rfl (aA (bY aQ gY (aJ 6) (aJ 3) (fun _ _=>rfl)) (aA (aG W UK rfl (aA (aJ 7) (aA (aG W UJ rfl (aA (bY aQ gY (aJ 5) (aJ 3) (fun _ _=>rfl)) (aA (bY aQ gY (aJ 6) (aJ 3) (fun _ _=>rfl)) aE aX) aX)) aE aL) aB)) aE aL) aX))))))))))
theorem xA(F:Fn K mg "even_joints" lA ["weights","claims"] f fd)(Ud:CanM P w K mg base k "levels_of" ["weights","claims"] dQ)(Uy:CanR P w K mg base k jF)(UT:CanM P w K mg base k "plus" ["one","two"] lL)(UI:CanM P w K mg base k "whole" ["number"] bL)(UK:CanM P w K mg base k "times" ["one","two"] dE):CanM P w K mg base (k+1) "even_joints" ["weights","claims"] dF:=
  aM F cC fun cdv A outer s H E G W WR=>(aF (bH (i:=2) cC.nd rfl (Or.inl rfl) cB)
 (aF (bH (i:=3) cC.nd rfl (Or.inl rfl) (aR (jM W.calm) rV rfl B.sum gQ (aA (aJ 0) aE aB)))
 (aF (bH (i:=4) cC.nd rfl (Or.inl rfl) (PEf.d (bE W Ud rfl (aA (aJ 0) (aA (aJ 1) aE aB) aB))))
 (aF (lW (i:=5) cC.nd rfl (Or.inl rfl) (cD (aA (bJ rfl C.NOUGHT) aE aB)))
 (zGY W Uy zPG zLu rfl (aA (aJ 4) aE aB) (eN (i:=6) cC.nd rfl (Or.inl rfl)) bV (aF (uZ (i:=5) (pv 5) (aG W UT rfl (aA (aG W UI rfl (aA (aJ 2) aE aB)) (aA (aG W UK rfl (aA (bY aQ gY (aJ 4) (aJ 6) (fun _ _=>rfl)) (aA (aG W UI rfl (aA (aJ 3) aE aB)) aE aL) aX)) aE aL) aL)))
 (aF (zFM (i:=2) cC.nd rfl (Or.inl rfl) (bY aQ gY (aJ 1) (aJ 6) (fun _ _=>rfl)) zEo zAs sU)
 (aK (zFM (i:=3) cC.nd rfl (Or.inl rfl) (bY aQ gY (aJ 0) (aJ 6) (fun _ _=>rfl)) zLq zHj zEb)))) (aK (fT 5 (pv 5))))))))
theorem zCY(F:Fn K mg "mirrored" nK ["joints","most"] f fd)(UJ:CanM P w K mg base k "minus" ["one","two"] cO):CanM P w K mg base (k+1) "mirrored" ["joints","most"] fX:=
 aM F vI fun cdv A outer s H E G W WR=>(aK (dP (fM W vI.nd rfl (sc:=aH nK) rfl rfl (by decide +kernel) (zPV rfl B.reversed (aJ 0)) (fun C2 s2 H2 fp2 G W=>⟨jD,(aG W UJ rfl (aA (aJ 1) (aA (aJ 2) aE aB) aB))⟩))))
theorem zV(F:Fn K mg "half_dealt" jK ["claims","catch"] f fd)(UK:CanM P w K mg base k "times" ["one","two"] dE)(Y7:CanM P w K mg base k "even_dealt" ["weights","claims","catch"] dC)(UT:CanM P w K mg base k "plus" ["one","two"] lL):CanM P w K mg base (k+1) "half_dealt" ["claims","catch"] fK:=
  aM F kN fun cdv A outer s H E G W WR=>(aF (bH (i:=2) kN.nd rfl (Or.inl rfl) (PEf.d (zEC (cD (aA cB aE cN)) (aR aP cX rfl B.len Qy (aA (aJ 0) aE aB)))))
 (aK (dP (fM W kN.nd rfl (sc:=aH jK) rfl rfl (by decide +kernel) (gW (PEf.d (bE W Y7 rfl (aA (aJ 2) (aA (aJ 0) (aA (aG W UT rfl (aA (aJ 1) (aA (aJ 1) aE aB) aB)) aE aL) aB) aB)))) (fun C2 s2 H2 fp2 G W=>⟨jD,(aG W UK rfl (aA (aJ 3) (aA (bJ rfl C.HALF) aE aB) aB))⟩)))))
theorem zFY(F:Fn K mg "line_of" vP ["points"] f fd)(Y6:CanM P w K mg base k "refuse_bad" ["points"] gN)(Ub:CanM P w K mg base k "is_between" ["ahead","point","later"] gT):CanM P w K mg base (k+1) "line_of" ["points"] eK:=
  aM F qM fun cdv A outer s H E G W WR=>(aF (lG (aG W Y6 rfl (aA (aJ 0) aE aB)))
 (aF (lW (i:=1) qM.nd rfl (Or.inl rfl) (cD aE))
 (aF (mZ W.own W.calm (gW (aJ 0)) (eN (i:=2) qM.nd rfl (Or.inl rfl)) bV (aF (jC (PTd.frz (PWd.pt (zFq (tst zBo zLj (aR aP cX rfl B.len Qy (aA (aJ 1) aE aB)) cB (bG _)) (zBC (zEV (aG W Ub rfl (aA (bY aQ gY (aJ 1) (yB cB) (fun _ _=>rfl)) (aA (bY aQ gY (aJ 1) (yB cB) (fun _ _=>rfl)) (aA (aJ 2) aE aB) aX) aX))))))) (aK (zRg (i:=1) (pv 1))) bM)
 (aK (uZ (i:=1) (pv 1) (aJ 2)))))
 (aK (cW (tI kO zIh rfl B.tuple boot_tuple (aA (aJ 1) aE aB)))))))
theorem zKk(F:Fn K mg "value" zDa ["line","x"] f fd)(YT:CanM P w K mg base k "refuse_outside" ["amount","most"] bF)(UV:CanM P w K mg base k "met" ["line","axis","amount"] vR)(UD:CanM P w K mg base k "length" ["line"] kM):CanM P w K mg base (k+1) "value" ["line","x"] qO:=
  aM F zKn fun cdv A outer s H E G W WR=>(aF (lG (aG W YT rfl (aA (aJ 1) (aA (aG W UD rfl (aA (aJ 0) aE aB)) aE aL) aB)))
 (aK (cW (aG W UV rfl (aA (aJ 0) (aA (bJ rfl C.ACROSS) (aA (aJ 1) aE aB) aB) aB)))))
theorem zGe(F:Fn K mg "behind" qD ["one","two"] f fd)(UF:CanM P w K mg base k "merged" ["one","two"] pF)(Ur:CanM P w K mg base k "line_of" ["points"] eK)(UD:CanM P w K mg base k "length" ["line"] kM)(UC:CanM P w K mg base k "height" ["line"] pN)(UV:CanM P w K mg base k "met" ["line","axis","amount"] vR)(Ux:CanM P w K mg base k "places" ["line"] nR)(UL:CanM P w K mg base k "value" ["line","x"] qO):CanM P w K mg base (k+1) "behind" ["one","two"] gI:=
  aM F lR fun cdv A outer s H E G W WR=>(aF (jC (tst (neA W.u) zKP (aG W UD rfl (aA (aJ 0) aE aB)) (aG W UC rfl (aA (aJ 1) aE aB)) (bG _)) (aK (fR W WR R.Unlike rfl (aA (mP cM fun _=>.str _) aE cN))) bM)
 (aF (zIq (i:=2) lR.nd rfl (Or.inl rfl) (PCf.d (zAb W lR.nd rfl (sc:=aH qD) rfl rfl (by decide +kernel) (gW (PEf.d (bE W Ux rfl (aA (aJ 0) aE aB)))) (fun C2 s2 H2 fp2 G W=>⟨jD,(aG W UV rfl (aA (aJ 1) (aA (bJ rfl C.UP) (aA (aJ 4) aE aB) aB) aB))⟩))) rfl)
 (aF (bH (i:=3) lR.nd rfl (Or.inl rfl) (PEf.d (bE W UF rfl (aA (PEf.d (bE W Ux rfl (aA (aJ 1) aE aB))) (aA (aJ 2) aE aB) aL))))
 (aK (cW (aG W Ur rfl (aA (PEf.d (fM W lR.nd rfl (sc:=aH qD) rfl rfl (by decide +kernel) (gW (aJ 3)) (fun C2 s2 H2 fp2 G W=>⟨jD,(mT (aA (aJ 4) (aA (aG W UL rfl (aA (aJ 0) (aA (aG W UL rfl (aA (aJ 1) (aA (aJ 4) aE aB) aB)) aE aL) aB)) aE aL) aB))⟩))) aE)))))))
theorem zFh(F:Fn K mg "line_at" oW ["joints","dealings","spot"] f fd)(Ur:CanM P w K mg base k "line_of" ["points"] eK):CanM P w K mg base (k+1) "line_at" ["joints","dealings","spot"] mQ:=
 aM F zFG fun cdv A outer s H E G W WR=>(aK (cW (aG W Ur rfl (aA (PEf.d (tJ (N:=["joints","dealings","spot"]) W (by decide +kernel) rfl (sc:=aH oW) rfl rfl (by decide +kernel) (zGr rfl B.zip (aA (aJ 0) (aA (aJ 1) aE aB) aB)) (fun C2 s2 H2 fp2 G W=>(mT (aA (aJ 3) (aA (bY aQ gY (aJ 4) (aJ 2) (fun _ _=>rfl)) aE aX) aB))))) aE))))
theorem zCR(F:Fn K mg "straight" qQ ["claim"] f fd)(Ur:CanM P w K mg base k "line_of" ["points"] eK)(UI:CanM P w K mg base k "whole" ["number"] bL):CanM P w K mg base (k+1) "straight" ["claim"] fY:=
  aM F uB fun cdv A outer s H E G W WR=>(aF (bH (i:=1) uB.nd rfl (Or.inl rfl) (mT (aA (bJ rfl C.NOUGHT) (aA (bJ rfl C.NOUGHT) aE aB) aB)))
 (aF (jC (tst (eqA W.u) sX (aJ 0) cB (bG _)) (aK (cW (aG W Ur rfl (aA (PEf.d (cD (aA (aJ 1) aE aB))) aE zDV)))) bM)
 (aK (cW (aG W Ur rfl (aA (PEf.d (cD (aA (aJ 1) (aA (mT (aA (aG W UI rfl (aA (aJ 0) aE aB)) (aA (aG W UI rfl (aA (aJ 0) aE aB)) aE aL) aL)) aE zKc) aB))) aE zDV))))))
theorem zBy{r:Mir}(F:Fn K mg "joints_of" iO ["way","weights","claims"] f fd)(UI:CanM P w K mg base k "whole" ["number"] bL)(Ul:CanM P w K mg base k "mirrored" ["joints","most"] fX)(Y4:CanM P w K mg base k "row_joints" ["claims"] fE)(Y1:CanM P w K mg base k "even_joints" ["weights","claims"] dF)(UK:CanM P w K mg base k "times" ["one","two"] dE)(YZ:CanM P w K mg base k "contrary_way" ["way"] dM)(Uf:CanM P w K mg base k "joints_of" ["way","weights","claims"] r):CanM P w K mg base (k+1) "joints_of" ["way","weights","claims"] (cA r):=
  aM F gO fun cdv A outer s H E G W WR=>(aF (bH (i:=3) gO.nd rfl (Or.inl rfl) (aG W UI rfl (aA (aR (jM W.calm) rV rfl B.sum gQ (aA (aJ 2) aE aB)) aE aL)))
 (aF (jC (tst (eqA W.u) sX (aJ 0) (mP cM fun _=>.str _) (bG _)) (aK (dP (bE W Y4 rfl (aA (aJ 2) aE aB)))) bM)
 (aF (jC (tst (eqA W.u) sX (aJ 0) (mP cM fun _=>.str _) (bG _)) (aK (dP (bE W Y1 rfl (aA (aJ 1) (aA (aJ 2) aE aB) aB)))) bM)
 (aF (jC (tst (eqA W.u) sX (aJ 0) (mP cM fun _=>.str _) (bG _)) (aK (dP (cD (aA (bJ rfl C.NOUGHT) (aA (aJ 3) aE aB) aB)))) bM)
 (aF (jC (tst (eqA W.u) sX (aJ 0) (mP cM fun _=>.str _) (bG _)) (aF (zIq (i:=4) gO.nd rfl (Or.inl rfl) (PCf.d (zAb W gO.nd rfl (sc:=aH iO) rfl rfl (by decide +kernel) (gW (PEf.d (bE W Y1 rfl (aA (PEf.d (zEC (cD (aA cB aE cN)) (aR aP cX rfl B.len Qy (aA (aJ 2) aE aB)))) (aA (aJ 2) aE aB) bT)))) (fun C2 s2 H2 fp2 G W=>⟨jD,(aG W UK rfl (aA (aJ 5) (aA (bJ rfl C.HALF) aE aB) aB))⟩))) rfl)
 (aK (dP (zEG (aJ 4) (PEf.d (bE W Ul rfl (aA (aJ 4) (aA (aJ 3) aE aB) aB))))))) bM)
 (aK (dP (bE W Ul rfl (aA (PEf.d (bE W Uf rfl (aA (aG W YZ rfl (aA (aJ 0) aE aB)) (aA (aJ 1) (aA (aJ 2) aE aB) aB) aL))) (aA (aJ 3) aE aB) aL)))))))))
theorem rX(F:Fn K mg "joints_of" iO ["way","weights","claims"] f fd)(UI:CanM P w K mg base k "whole" ["number"] bL)(Ul:CanM P w K mg base k "mirrored" ["joints","most"] fX)(Y4:CanM P w K mg base k "row_joints" ["claims"] fE)(Y1:CanM P w K mg base k "even_joints" ["weights","claims"] dF)(UK:CanM P w K mg base k "times" ["one","two"] dE)(YZ:CanM P w K mg base k "contrary_way" ["way"] dM):∀ n:Nat,CanM P w K mg base (k+1+n) "joints_of" ["way","weights","claims"] (bK n)
 | 0=>aM F gO fun cdv A outer s H E G W WR=>zDn
 | n+1=>zBy _ _ _ (k+1+n) B KT C R ET F (UI:=UI.mono (by omega)) (Ul:=Ul.mono (by omega)) (Y4:=Y4.mono (by omega)) (Y1:=Y1.mono (by omega)) (UK:=UK.mono (by omega)) (YZ:=YZ.mono (by omega)) (Uf:=rX F (UI:=UI) (Ul:=Ul) (Y4:=Y4) (Y1:=Y1) (UK:=UK) (YZ:=YZ) n)
theorem sK{r:Mir}(F:Fn K mg "rightly_dealt" dX ["way","weights","claims","catch"] f fd)(UI:CanM P w K mg base k "whole" ["number"] bL)(Uh:CanM P w K mg base k "row_dealt" ["claims","catch"] gD)(Y7:CanM P w K mg base k "even_dealt" ["weights","claims","catch"] dC)(Y3:CanM P w K mg base k "part_dealt" ["claims","catch"] fF)(Y9:CanM P w K mg base k "half_dealt" ["claims","catch"] fK)(UJ:CanM P w K mg base k "minus" ["one","two"] cO)(UN:CanM P w K mg base k "less" ["one","two"] fH)(UT:CanM P w K mg base k "plus" ["one","two"] lL)(YY:CanM P w K mg base k "rightly_dealt" ["way","weights","claims","catch"] r):CanM P w K mg base (k+1) "rightly_dealt" ["way","weights","claims","catch"] (aS r):=
  aM F eV fun cdv A outer s H E G W WR=>(aF (bH (i:=4) eV.nd rfl (Or.inl rfl) (aG W UI rfl (aA (aR (jM W.calm) rV rfl B.sum gQ (aA (aJ 2) aE aB)) aE aL)))
 (aF (jC (tst (eqA W.u) sX (aJ 0) (mP cM fun _=>.str _) (bG _)) (aK (dP (bE W Uh rfl (aA (aJ 2) (aA (aJ 3) aE aB) aB)))) bM)
 (aF (jC (tst (eqA W.u) sX (aJ 0) (mP cM fun _=>.str _) (bG _)) (aK (dP (bE W Y7 rfl (aA (aJ 1) (aA (aJ 2) (aA (aJ 3) aE aB) aB) aB)))) bM)
 (aF (jC (tst (eqA W.u) sX (aJ 0) (mP cM fun _=>.str _) (bG _)) (aK (dP (bE W Y3 rfl (aA (aJ 2) (aA (aJ 3) aE aB) aB)))) bM)
 (aF (jC (PWd.pt (zFq (tst (eqA W.u) sX (aJ 0) (mP cM fun _=>.str _) (bG _)) (zBC (zSo (zEV (aG W UN rfl (aA (aJ 4) (aA (aG W UT rfl (aA (aJ 3) (aA (aJ 3) aE aB) aB)) aE aL) aB))))))) (aK (dP (bE W Y9 rfl (aA (aJ 2) (aA (aJ 3) aE aB) aB)))) bM)
 (aF (bH (i:=5) eV.nd rfl (Or.inl rfl) (PEf.d (bE W YY rfl (aA (zLA C.CONTRARY.choose_spec rfl (aJ 0) (fun _ _=>rfl)) (aA (aJ 1) (aA (aJ 2) (aA (aG W UJ rfl (aA (aJ 4) (aA (aJ 3) aE aB) aB)) aE aL) aB) aB) aX))))
 (aK (dP (tJ (N:=["way","weights","claims","catch","most","lacking"]) W (by decide +kernel) rfl (sc:=aH dX) rfl rfl (by decide +kernel) (zGr rfl B.zip (aA (aJ 2) (aA (aJ 5) aE aB) aB)) (fun C2 s2 H2 fp2 G W=>(aG W UJ rfl (aA (aG W UI rfl (aA (aJ 6) aE aB)) (aA (aJ 7) aE aB) aL))))))))))))
theorem lI(F:Fn K mg "rightly_dealt" dX ["way","weights","claims","catch"] f fd)(UI:CanM P w K mg base k "whole" ["number"] bL)(Uh:CanM P w K mg base k "row_dealt" ["claims","catch"] gD)(Y7:CanM P w K mg base k "even_dealt" ["weights","claims","catch"] dC)(Y3:CanM P w K mg base k "part_dealt" ["claims","catch"] fF)(Y9:CanM P w K mg base k "half_dealt" ["claims","catch"] fK)(UJ:CanM P w K mg base k "minus" ["one","two"] cO)(UN:CanM P w K mg base k "less" ["one","two"] fH)(UT:CanM P w K mg base k "plus" ["one","two"] lL):∀ n:Nat,CanM P w K mg base (k+1+n) "rightly_dealt" ["way","weights","claims","catch"] (aO n)
 | 0=>aM F eV fun cdv A outer s H E G W WR=>zDn
 | n+1=>sK _ _ _ (k+1+n) B KT C R ET F (UI:=UI.mono (by omega)) (Uh:=Uh.mono (by omega)) (Y7:=Y7.mono (by omega)) (Y3:=Y3.mono (by omega)) (Y9:=Y9.mono (by omega)) (UJ:=UJ.mono (by omega)) (UN:=UN.mono (by omega)) (UT:=UT.mono (by omega)) (YY:=lI F (UI:=UI) (Uh:=Uh) (Y7:=Y7) (Y3:=Y3) (Y9:=Y9) (UJ:=UJ) (UN:=UN) (UT:=UT) n)
theorem zKb(F:Fn K mg "dealt" zDp ["way","weights","claims","catch"] f fd)(UE:CanM P w K mg base k "looked" ["way","weights","claims"] lC)(YT:CanM P w K mg base k "refuse_outside" ["amount","most"] bF)(YY:CanM P w K mg base k "rightly_dealt" ["way","weights","claims","catch"] (aO 2))(UI:CanM P w K mg base k "whole" ["number"] bL):CanM P w K mg base (k+1) "dealt" ["way","weights","claims","catch"] rB:=
  aM F zKy fun cdv A outer s H E G W WR=>(aF (lG (aG W UE rfl (aA (aJ 0) (aA (aJ 1) (aA (aJ 2) aE aB) aB) aB)))
 (aF (lG (aG W YT rfl (aA (aJ 3) (aA (aG W UI rfl (aA (aR (jM W.calm) rV rfl B.sum gQ (aA (aJ 2) aE aB)) aE aL)) aE aL) aB)))
 (aK (dP (bE W YY rfl (aA (aJ 0) (aA (aJ 1) (aA (aJ 2) (aA (aJ 3) aE aB) aB) aB) aB))))))
theorem zBN(F:Fn K mg "way_lines" iU ["way","weights","claims"] f fd)(UE:CanM P w K mg base k "looked" ["way","weights","claims"] lC)(YS:CanM P w K mg base k "without_doubles" ["joints"] cY)(Uf:CanM P w K mg base k "joints_of" ["way","weights","claims"] (bK 2))(YY:CanM P w K mg base k "rightly_dealt" ["way","weights","claims","catch"] (aO 2))(Ut:CanM P w K mg base k "line_at" ["joints","dealings","spot"] mQ):CanM P w K mg base (k+1) "way_lines" ["way","weights","claims"] gA:=
  aM F gK fun cdv A outer s H E G W WR=>(aF (lG (aG W UE rfl (aA (aJ 0) (aA (aJ 1) (aA (aJ 2) aE aB) aB) aB)))
 (aF (bH (i:=3) gK.nd rfl (Or.inr rfl) (PEf.d (bE W YS rfl (aA (PEf.d (bE W Uf rfl (aA (aJ 0) (aA (aJ 1) (aA (aJ 2) aE aB) aB) aB))) aE aL))))
 (aF (bH (i:=4) gK.nd rfl (Or.inr rfl) (PEf.d (fM W gK.nd rfl (sc:=aH iU) rfl rfl (by decide +kernel) (gW (aJ 3)) (fun C2 s2 H2 fp2 G W=>⟨jD,(PEf.d (bE W YY rfl (aA (aJ 0) (aA (aJ 1) (aA (aJ 2) (aA (aJ 5) aE aB) aB) aB) aB)))⟩))))
 (aK (dP (fM W gK.nd rfl (sc:=aH iU) rfl rfl (by decide +kernel) (zLg rfl B.range (aA (aR aP cX rfl B.len Qy (aA (aJ 2) aE aB)) aE aL)) (fun C2 s2 H2 fp2 G W=>⟨jD,(aG W Ut rfl (aA (aJ 3) (aA (aJ 4) (aA (aJ 5) aE aB) aB) aB))⟩)))))))
theorem zCb{r:Mir}(F:Fn K mg "claims_of" lB ["custom"] f fd)(Us:CanM P w K mg base k "is_boat" ["custom"] bP)(Uu:CanM P w K mg base k "kids_of" ["custom"] bI)(Ue:CanM P w K mg base k "claims_of" ["custom"] r):CanM P w K mg base (k+1) "claims_of" ["custom"] (kT r):=
  aM F jN fun cdv A outer s H E G W WR=>(aF (jC (zEV (aG W Us rfl (aA (aJ 0) aE aB))) (aK (dP (cD (aA (nV 0) aE aX)))) bM)
 (aF (lW (i:=1) jN.nd rfl (Or.inl rfl) (cD aE))
 (aF (mZ W.own W.calm (gW (aG W Uu rfl (aA (aJ 0) aE aB))) (eN (i:=2) jN.nd rfl (Or.inl rfl)) bV (aK (zKd (i:=1) (pv 1) (bE W Ue rfl (aA (aJ 2) aE aB)))))
 (aK (fT 1 (pv 1))))))
theorem rW(F:Fn K mg "claims_of" lB ["custom"] f fd)(Us:CanM P w K mg base k "is_boat" ["custom"] bP)(Uu:CanM P w K mg base k "kids_of" ["custom"] bI):∀ n:Nat,CanM P w K mg base (k+1+n) "claims_of" ["custom"] (dW n)
 | 0=>aM F jN fun cdv A outer s H E G W WR=>zDn
 | n+1=>zCb _ _ _ (k+1+n) B KT C R ET F (Us:=Us.mono (by omega)) (Uu:=Uu.mono (by omega)) (Ue:=rW F (Us:=Us) (Uu:=Uu) n)
theorem zFy{r:Mir}(F:Fn K mg "deep_of" mE ["custom"] f fd)(Uu:CanM P w K mg base k "kids_of" ["custom"] bI)(Uv:CanM P w K mg base k "deep_of" ["custom"] r):CanM P w K mg base (k+1) "deep_of" ["custom"] (oY r):=
 aM F qZ fun cdv A outer s H E G W WR=>(aK (cW (bC eH nY cB (zNp W.calm rfl B.max (PEf.d (fM W qZ.nd rfl (sc:=aH mE) rfl rfl (by decide +kernel) (gW (aG W Uu rfl (aA (aJ 0) aE aB))) (fun C2 s2 H2 fp2 G W=>⟨jD,(aG W Uv rfl (aA (aJ 1) aE aB))⟩))) cB))))
theorem yA(F:Fn K mg "deep_of" mE ["custom"] f fd)(Uu:CanM P w K mg base k "kids_of" ["custom"] bI):∀ n:Nat,CanM P w K mg base (k+1+n) "deep_of" ["custom"] (eP n)
 | 0=>aM F qZ fun cdv A outer s H E G W WR=>zDn
 | n+1=>zFy _ _ _ (k+1+n) B KT C R ET F (Uu:=Uu.mono (by omega)) (Uv:=yA F (Uu:=Uu) n)
theorem zNW(F:Fn K mg "knot" zHg ["way","weights","kids"] f fd)(Uc:CanM P w K mg base k "refuse_way" ["way"] bX)(YU:CanM P w K mg base k "refuse_weights" ["way","weights","many"] bA)(Uv:CanM P w K mg base k "deep_of" ["custom"] (eP 10))(Ue:CanM P w K mg base k "claims_of" ["custom"] (dW 10)):CanM P w K mg base (k+1) "knot" ["way","weights","kids"] pG:=
  aM F zIB fun cdv A outer s H E G W WR=>(aF (lG (aG W Uc rfl (aA (aJ 0) aE aB)))
 (aF (lG (aG W YU rfl (aA (aJ 0) (aA (aJ 1) (aA (aR aP cX rfl B.len Qy (aA (aJ 2) aE aB)) aE aL) aB) aB)))
 (aF (bH (i:=3) zIB.nd rfl (Or.inl rfl) (mT (aA (aJ 0) (aA (tI kO zIh rfl B.tuple boot_tuple (aA (aJ 1) aE aB)) (aA (tI kO zIh rfl B.tuple boot_tuple (aA (aJ 2) aE aB)) aE aL) aL) aB)))
 (aF (jC (PWd.pt (zOn (tst (eqA W.u) sX (aR aP cX rfl B.len Qy (aA (aJ 2) aE aB)) cB (bG _)) (zOn (tst zBo zLj (aR aP cX rfl B.len Qy (aA (PEf.d (bE W Ue rfl (aA (aJ 3) aE aB))) aE aL)) (bJ rfl C.MOST_BOATS) (bG _)) (zIn (tst zBo zLj (aG W Uv rfl (aA (aJ 3) aE aB)) (bJ rfl C.DEEPEST) (bG _)))))) (aK (fR W WR R.TooMany rfl (aA (mP cM fun _=>.str _) aE cN))) bM)
 (aK (cW (aJ 3)))))))
theorem zDf(F:Fn K mg "claim_of" rQ ["custom"] f fd)(Ue:CanM P w K mg base k "claims_of" ["custom"] (dW 10)):CanM P w K mg base (k+1) "claim_of" ["custom"] cP:=
 aM F zDg fun cdv A outer s H E G W WR=>(aK (cW (aR (jM W.calm) rV rfl B.sum gQ (aA (PEf.d (bE W Ue rfl (aA (aJ 0) aE aB))) aE aL))))
theorem zP(F:Fn K mg "kid_claims" jI ["custom"] f fd)(Uo:CanM P w K mg base k "claim_of" ["custom"] cP)(Uu:CanM P w K mg base k "kids_of" ["custom"] bI):CanM P w K mg base (k+1) "kid_claims" ["custom"] cQ:=
 aM F qK fun cdv A outer s H E G W WR=>(aK (dP (fM W qK.nd rfl (sc:=aH jI) rfl rfl (by decide +kernel) (gW (aG W Uu rfl (aA (aJ 0) aE aB))) (fun C2 s2 H2 fp2 G W=>⟨jD,(aG W Uo rfl (aA (aJ 1) aE aB))⟩))))
theorem zAN(F:Fn K mg "_law_custom" mY ["cells"] f fd)(UQ:CanM P w K mg base k "knot" ["way","weights","kids"] pG)(Y0:CanM P w K mg base k "_law_weights" ["way","cell","many"] eA)(US:CanM P w K mg base k "boat" ["claim"] yI):CanM P w K mg base (k+1) "_law_custom" ["cells"] gU:=
  aM F aT fun cdv A outer s H E G W WR=>(aF (bH (i:=1) aT.nd rfl (Or.inl rfl) (PEf.d (cD (aA (mP cM fun _=>.str _) (aA (mP cM fun _=>.str _) (aA (mP cM fun _=>.str _) (aA (mP cM fun _=>.str _) (aA (mP cM fun _=>.str _) (aA (mP cM fun _=>.str _) aE cN) cN) cN) cN) cN) cN))))
 (aF (lW (i:=2) aT.nd rfl (Or.inl rfl) (cD aE))
 (aF (lW (i:=3) aT.nd rfl (Or.inl rfl) (cD aE))
 (aF (bH (i:=4) aT.nd rfl (Or.inl rfl) cB)
 (aF (mZ W.own W.calm (gW (aJ 0)) (eN (i:=5) aT.nd rfl (Or.inl rfl)) bV (aF (bH (i:=6) aT.nd rfl (Or.inl rfl) (bC dO lO (aJ 5) cB))
 (aF (bH (i:=7) aT.nd rfl (Or.inl rfl) (PEd.frz (bC eH nY cB (bC dO lO (bC eG oI (aJ 5) cB) (aR (zIi W.calm) zQl rfl B.max boot_max (aA cB (aA (aR (zJb W.calm) zOQ rfl B.min boot_min (aA cB (aA (aR aP cX rfl B.len Qy (aA (aJ 2) aE aB)) aE aL) cN)) aE aL) cN))))))
 (aK (jC (PTd.frz (PWd.pt (zFq (tst (neA W.u) zKP (aJ 2) (PEf.d (cD aE)) (bG _)) (zFq (tst zBo zLj (aJ 6) cB (bG _)) (zBC (tst xG zJs (aR (zCp W.calm) zGW rfl B.max boot_max (aA (PEf.d (iE (aJ 3) (kQ (bC mO vX (aR aP cX rfl B.len Qy (aA (aJ 2) aE aB)) (aJ 7))) kY)) aE aX)) cB (bG _))))))) (aF (bH (i:=8) aT.nd rfl (Or.inl rfl) (bY aQ gY (aJ 1) (bC mO vX (aJ 6) cB) (fun _ _=>rfl)))
 (aF (bH (i:=9) aT.nd rfl (Or.inl rfl) (PEf.d (PEf.frz (iE (aJ 2) (kQ (bC mO vX (aR aP cX rfl B.len Qy (aA (aJ 2) aE aB)) (aJ 7))) kY))))
 (aF (bH (i:=10) aT.nd rfl (Or.inl rfl) (PEf.d (bE W Y0 rfl (aA (aJ 8) (aA (bC eG oI (aJ 5) cB) (aA (aJ 7) aE aB) bT) aB))))
 (aF (lW (i:=2) aT.nd rfl (Or.inl rfl) (PEf.frz (zEG (PEf.d (iE (aJ 2) kY (kQ (bC mO vX (aR aP cX rfl B.len Qy (aA (aJ 2) aE aB)) (aJ 7))))) (PEf.d (cD (aA (aG W UQ rfl (aA (aJ 8) (aA (aJ 10) (aA (aJ 9) aE aB) aB) aB)) aE aL))))))
 (aF (bH (i:=11) aT.nd rfl (Or.inl rfl) (PEd.frz (bC eH nY cB (aR (zCp W.calm) zGW rfl B.max boot_max (aA (PEf.d (iE (aJ 3) (kQ (bC mO vX (aR aP cX rfl B.len Qy (aA (aJ 3) aE aB)) (aJ 7))) kY)) aE aX)))))
 (aK (lW (i:=3) aT.nd rfl (Or.inl rfl) (PEf.frz (zEG (PEf.d (iE (aJ 3) kY (kQ (bC mO vX (aR aP cX rfl B.len Qy (aA (aJ 3) aE aB)) (aJ 7))))) (PEf.d (cD (aA (aJ 11) aE aB)))))))))))) (aK (jC (tst xG zJs (aJ 4) cB (bG _)) (aF (bH (i:=12) aT.nd rfl (Or.inl rfl) (bY aQ gY (PEf.d (cD (aA (bC dO lO (bC eG oI (aJ 5) cB) cB) (aA (bC dO lO (bC eG oI (aJ 5) cB) (bC eH nY (bC tR zHD cB cB) cB)) aE bT) bT))) (bC dO lO (bC eG oI (aJ 5) cB) cB) (fun _ _=>rfl)))
 (aF (uZ (i:=2) (pv 2) (aG W US rfl (aA (aJ 12) aE aB)))
 (aF (uZ (i:=3) (pv 3) cB)
 (aK (bH (i:=4) aT.nd rfl (Or.inl rfl) (bC eH nY (aJ 4) cB)))))) bM)))))))
 (eX.frzAt 3 (aF (jC (PTd.frz (tst (eqA W.u) sX (aJ 2) (PEf.d (cD aE)) (bG _))) (aK (lW (i:=2) aT.nd rfl (Or.inl rfl) (cD (aA (aG W US rfl (aA cB aE cN)) aE aL)))) bM)
 (eX.frzAt 2 (aF (jC (tst (eqA W.u) sX (aR aP cX rfl B.len Qy (aA (aJ 2) aE aB)) cB (bG _)) (aK (cW (nV 2))) bM)
 (aF (bH (i:=8) aT.nd rfl (Or.inl rfl) (bY aQ gY (aJ 1) (bC dO lO (aR (jM W.calm) rV rfl B.sum gQ (aA (aJ 3) aE aB)) cB) (fun _ _=>rfl)))
 (aK (cW (aG W UQ rfl (aA (aJ 8) (aA (PEf.d (bE W Y0 rfl (aA (aJ 8) (aA (aR aP cX rfl B.len Qy (aA (aJ 0) aE aB)) (aA (aR aP cX rfl B.len Qy (aA (aJ 2) aE aB)) aE aL) aL) aB))) (aA (aJ 2) aE aB) aL) aB))))))))))))))
theorem zJH{r:Mir}(F:Fn K mg "plain" vE ["custom"] f fd)(Us:CanM P w K mg base k "is_boat" ["custom"] bP)(UQ:CanM P w K mg base k "knot" ["way","weights","kids"] pG)(Uz:CanM P w K mg base k "way_of" ["custom"] dD)(Uq:CanM P w K mg base k "divided" ["weights"] kG)(Uw:CanM P w K mg base k "opened" ["way","kids"] nQ)(Uu:CanM P w K mg base k "kids_of" ["custom"] bI)(Ua:CanM P w K mg base k "weights_of" ["custom"] bQ)(UH:CanM P w K mg base k "plain" ["custom"] r):CanM P w K mg base (k+1) "plain" ["custom"] (zAP r):=
  aM F sT fun cdv A outer s H E G W WR=>(aF (jC (zEV (aG W Us rfl (aA (aJ 0) aE aB))) (aK (cW (aJ 0))) bM)
 (aF (zIq (i:=1) sT.nd rfl (Or.inl rfl) (PCf.d (zAb W sT.nd rfl (sc:=aH vE) rfl rfl (by decide +kernel) (gW (aG W Uu rfl (aA (aJ 0) aE aB))) (fun C2 s2 H2 fp2 G W=>⟨jD,(aG W UH rfl (aA (aJ 2) aE aB))⟩))) rfl)
 (aF (jC (tst (eqA W.u) sX (aR aP cX rfl B.len Qy (aA (aJ 1) aE aB)) cB (bG _)) (aK (cW (nV 1))) bM)
 (aK (cW (aG W UQ rfl (aA (aG W Uz rfl (aA (aJ 0) aE aB)) (aA (PEf.d (bE W Uq rfl (aA (aG W Ua rfl (aA (aJ 0) aE aB)) aE aL))) (aA (aG W Uw rfl (aA (aG W Uz rfl (aA (aJ 0) aE aB)) (aA (aJ 1) aE aB) aL)) aE aL) aL) aL)))))))
theorem zEP(F:Fn K mg "plain" vE ["custom"] f fd)(Us:CanM P w K mg base k "is_boat" ["custom"] bP)(UQ:CanM P w K mg base k "knot" ["way","weights","kids"] pG)(Uz:CanM P w K mg base k "way_of" ["custom"] dD)(Uq:CanM P w K mg base k "divided" ["weights"] kG)(Uw:CanM P w K mg base k "opened" ["way","kids"] nQ)(Uu:CanM P w K mg base k "kids_of" ["custom"] bI)(Ua:CanM P w K mg base k "weights_of" ["custom"] bQ):∀ n:Nat,CanM P w K mg base (k+1+n) "plain" ["custom"] (kW n)
 | 0=>aM F sT fun cdv A outer s H E G W WR=>zDn
 | n+1=>zJH _ _ _ (k+1+n) B KT C R ET F (Us:=Us.mono (by omega)) (UQ:=UQ.mono (by omega)) (Uz:=Uz.mono (by omega)) (Uq:=Uq.mono (by omega)) (Uw:=Uw.mono (by omega)) (Uu:=Uu.mono (by omega)) (Ua:=Ua.mono (by omega)) (UH:=zEP F (Us:=Us) (UQ:=UQ) (Uz:=Uz) (Uq:=Uq) (Uw:=Uw) (Uu:=Uu) (Ua:=Ua) n)
theorem zCI{r:Mir}(F:Fn K mg "dealt_on" nJ ["custom","catch"] f fd)(Us:CanM P w K mg base k "is_boat" ["custom"] bP)(UM:CanM P w K mg base k "dealt" ["way","weights","claims","catch"] rB)(Uz:CanM P w K mg base k "way_of" ["custom"] dD)(Ua:CanM P w K mg base k "weights_of" ["custom"] bQ)(Y5:CanM P w K mg base k "kid_claims" ["custom"] cQ)(Uu:CanM P w K mg base k "kids_of" ["custom"] bI)(Um:CanM P w K mg base k "dealt_on" ["custom","catch"] r):CanM P w K mg base (k+1) "dealt_on" ["custom","catch"] (iK r):=
  aM F gE fun cdv A outer s H E G W WR=>(aF (jC (zEV (aG W Us rfl (aA (aJ 0) aE aB))) (aK (dP (cD (aA (aJ 1) aE aB)))) bM)
 (aF (bH (i:=2) gE.nd rfl (Or.inl rfl) (PEf.d (bE W UM rfl (aA (aG W Uz rfl (aA (aJ 0) aE aB)) (aA (aG W Ua rfl (aA (aJ 0) aE aB)) (aA (PEf.d (bE W Y5 rfl (aA (aJ 0) aE aB))) (aA (aJ 1) aE aB) aL) aL) aL))))
 (aF (lW (i:=3) gE.nd rfl (Or.inl rfl) (cD aE))
 (aF (mZ W.own W.calm (zGr rfl B.zip (aA (aG W Uu rfl (aA (aJ 0) aE aB)) (aA (aJ 2) aE aB) aL)) (zQm W.calm (zAW (eN (i:=4) gE.nd rfl (Or.inl rfl)) (zAW (eN (i:=5) gE.nd rfl (Or.inl rfl)) zKY)) (zAv (zAv zKI))) (zHu (sS bV (sS bV zIF))) (aK (zKd (i:=3) (pv 3) (bE W Um rfl (aA (aJ 4) (aA (aJ 5) aE aB) aB)))))
 (aK (fT 3 (pv 3)))))))
theorem uR(F:Fn K mg "dealt_on" nJ ["custom","catch"] f fd)(Us:CanM P w K mg base k "is_boat" ["custom"] bP)(UM:CanM P w K mg base k "dealt" ["way","weights","claims","catch"] rB)(Uz:CanM P w K mg base k "way_of" ["custom"] dD)(Ua:CanM P w K mg base k "weights_of" ["custom"] bQ)(Y5:CanM P w K mg base k "kid_claims" ["custom"] cQ)(Uu:CanM P w K mg base k "kids_of" ["custom"] bI):∀ n:Nat,CanM P w K mg base (k+1+n) "dealt_on" ["custom","catch"] (fJ n)
 | 0=>aM F gE fun cdv A outer s H E G W WR=>zDn
 | n+1=>zCI _ _ _ (k+1+n) B KT C R ET F (Us:=Us.mono (by omega)) (UM:=UM.mono (by omega)) (Uz:=Uz.mono (by omega)) (Ua:=Ua.mono (by omega)) (Y5:=Y5.mono (by omega)) (Uu:=Uu.mono (by omega)) (Um:=uR F (Us:=Us) (UM:=UM) (Uz:=Uz) (Ua:=Ua) (Y5:=Y5) (Uu:=Uu) n)
theorem zCK{r:Mir}(F:Fn K mg "lines_of" jW ["custom"] f fd)(Us:CanM P w K mg base k "is_boat" ["custom"] bP)(Ui:CanM P w K mg base k "way_lines" ["way","weights","claims"] gA)(Uz:CanM P w K mg base k "way_of" ["custom"] dD)(Ua:CanM P w K mg base k "weights_of" ["custom"] bQ)(Y5:CanM P w K mg base k "kid_claims" ["custom"] cQ)(Uu:CanM P w K mg base k "kids_of" ["custom"] bI)(Up:CanM P w K mg base k "straight" ["claim"] fY)(Uo:CanM P w K mg base k "claim_of" ["custom"] cP)(UB:CanM P w K mg base k "behind" ["one","two"] gI)(Uk:CanM P w K mg base k "lines_of" ["custom"] r):CanM P w K mg base (k+1) "lines_of" ["custom"] (iL r):=
  aM F fB fun cdv A outer s H E G W WR=>(aF (jC (zEV (aG W Us rfl (aA (aJ 0) aE aB))) (aK (dP (cD (aA (aG W Up rfl (aA (aG W Uo rfl (aA (aJ 0) aE aB)) aE aL)) aE aL)))) bM)
 (aF (bH (i:=1) fB.nd rfl (Or.inl rfl) (PEf.d (bE W Ui rfl (aA (aG W Uz rfl (aA (aJ 0) aE aB)) (aA (aG W Ua rfl (aA (aJ 0) aE aB)) (aA (PEf.d (bE W Y5 rfl (aA (aJ 0) aE aB))) aE aL) aL) aL))))
 (aF (lW (i:=2) fB.nd rfl (Or.inl rfl) (cD aE))
 (aF (mZ W.own W.calm (zGr rfl B.zip (aA (aG W Uu rfl (aA (aJ 0) aE aB)) (aA (aJ 1) aE aB) aL)) (zQm W.calm (zAW (eN (i:=3) fB.nd rfl (Or.inl rfl)) (zAW (eN (i:=4) fB.nd rfl (Or.inr rfl)) zKY)) (zAv (zAv zKI))) (zHu (sS bV (sS bV zIF))) (aK (zKd (i:=2) (pv 2) (fM W fB.nd rfl (sc:=aH jW) rfl rfl (by decide +kernel) (gW (PEf.d (bE W Uk rfl (aA (aJ 3) aE aB)))) (fun C2 s2 H2 fp2 G W=>⟨jD,(aG W UB rfl (aA (aJ 5) (aA (aJ 4) aE aB) aB))⟩)))))
 (aK (fT 2 (pv 2)))))))
theorem tM(F:Fn K mg "lines_of" jW ["custom"] f fd)(Us:CanM P w K mg base k "is_boat" ["custom"] bP)(Ui:CanM P w K mg base k "way_lines" ["way","weights","claims"] gA)(Uz:CanM P w K mg base k "way_of" ["custom"] dD)(Ua:CanM P w K mg base k "weights_of" ["custom"] bQ)(Y5:CanM P w K mg base k "kid_claims" ["custom"] cQ)(Uu:CanM P w K mg base k "kids_of" ["custom"] bI)(Up:CanM P w K mg base k "straight" ["claim"] fY)(Uo:CanM P w K mg base k "claim_of" ["custom"] cP)(UB:CanM P w K mg base k "behind" ["one","two"] gI):∀ n:Nat,CanM P w K mg base (k+1+n) "lines_of" ["custom"] (eE n)
 | 0=>aM F fB fun cdv A outer s H E G W WR=>zDn
 | n+1=>zCK _ _ _ (k+1+n) B KT C R ET F (Us:=Us.mono (by omega)) (Ui:=Ui.mono (by omega)) (Uz:=Uz.mono (by omega)) (Ua:=Ua.mono (by omega)) (Y5:=Y5.mono (by omega)) (Uu:=Uu.mono (by omega)) (Up:=Up.mono (by omega)) (Uo:=Uo.mono (by omega)) (UB:=UB.mono (by omega)) (Uk:=tM F (Us:=Us) (Ui:=Ui) (Uz:=Uz) (Ua:=Ua) (Y5:=Y5) (Uu:=Uu) (Up:=Up) (Uo:=Uo) (UB:=UB) n)
theorem zIf(F:Fn K mg "shares" yU ["custom","catch"] f fd)(YT:CanM P w K mg base k "refuse_outside" ["amount","most"] bF)(Um:CanM P w K mg base k "dealt_on" ["custom","catch"] (fJ 10))(UI:CanM P w K mg base k "whole" ["number"] bL)(Uo:CanM P w K mg base k "claim_of" ["custom"] cP):CanM P w K mg base (k+1) "shares" ["custom","catch"] jA:=
  aM F zGm fun cdv A outer s H E G W WR=>(aF (lG (aG W YT rfl (aA (aJ 1) (aA (aG W UI rfl (aA (aG W Uo rfl (aA (aJ 0) aE aB)) aE aL)) aE aL) aB)))
 (aK (dP (bE W Um rfl (aA (aJ 0) (aA (aJ 1) aE aB) aB)))))
theorem zPN(F:Fn K mg "law" vY ["script"] f fd)(Y8:CanM P w K mg base k "_law_custom" ["cells"] gU)(UH:CanM P w K mg base k "plain" ["custom"] (kW 10))(Ug:CanM P w K mg base k "_law_catch" ["cell","claim"] iQ)(Uv:CanM P w K mg base k "deep_of" ["custom"] (eP 10))(Uk:CanM P w K mg base k "lines_of" ["custom"] (eE 10))(Uo:CanM P w K mg base k "claim_of" ["custom"] cP)(UG:CanM P w K mg base k "shares" ["custom","catch"] jA):FnOk P w K mg base (CX1 P w) (k+1) f fd ["script"] (spM K mg 1 zMX):=
  zPo F zBs fun cdv A outer s H E G W WR=>(aF (bH (i:=1) zBs.nd rfl (Or.inl rfl) (aG W Y8 rfl (aA (PEf.d (iE (aJ 0) kY (kQ cB))) aE aX)))
 (aF (bH (i:=2) zBs.nd rfl (Or.inl rfl) (aG W UH rfl (aA (aJ 1) aE aB)))
 (aF (jC (PWd.pt (zOn (tst (neA W.u) zKP (aG W UH rfl (aA (aJ 2) aE aB)) (aJ 2) (bG _)) (zOn (tst zBo zLj (aG W Uv rfl (aA (aJ 2) aE aB)) (aG W Uv rfl (aA (aJ 1) aE aB)) (bG _)) (zIn (tst (neA W.u) zKP (PEf.d (bE W Uk rfl (aA (aJ 2) aE aB))) (PEf.d (bE W Uk rfl (aA (aJ 1) aE aB))) (bG _)))))) (aK (cW (mP zLV fun _=>.bl _))) bM)
 (aF (mZ W.own W.calm (gW (PEf.d (zEG (PEf.d (cD (aA cB aE cN))) (PEf.d (iE (aJ 0) kY (kQ cB)))))) (eN (i:=3) zBs.nd rfl (Or.inl rfl)) bV (aF (bH (i:=4) zBs.nd rfl (Or.inl rfl) (aG W Ug rfl (aA (aJ 3) (aA (aG W Uo rfl (aA (aJ 1) aE aB)) aE aL) aB)))
 (aK (jC (tst (neA W.u) zKP (PEf.d (bE W UG rfl (aA (aJ 2) (aA (aJ 4) aE aB) aB))) (PEf.d (bE W UG rfl (aA (aJ 1) (aA (aJ 4) aE aB) aB))) (bG _)) (aK (cW (mP zLV fun _=>.bl _))) bM))))
 (aK (cW (mP zLV fun _=>.bl _)))))))
end
end
def FnK(K:PySem.W.Frag)(x:Str)(st:Stmt):Prop:=∃ f oc od sl kV dc pm an cd ct,PySem.W.nsIn K mainGlobals x=some (some (.ref f))/\K.lookup f=some ⟨oc,od,.func (PySem.W.fnOf x x (jT st) (fS st) (aH st) .none kV dc pm an cd ct),sl⟩/\PySem.W.codeIn K cd x=true/\PySem.W.keepIn K (.ref f)=true
theorem fk{K:Fg_}{h:Heap}{mg:Str->Option Value}{x:Str}{st:Stmt}(X:K.In h)(G:h.Ns mainGlobals mg)(d:FnK K x st)(ps:List Str)(hb:∀ (kV doc pm:Value) (an:Option Addr) (cdv ct:Value) (us:List Value),us.length=ps.length->bindArgs (PySem.W.fnOf x x (jT st) (fS st) (aH st) .none kV doc pm an cdv ct) ⟨us,[]⟩=pure (ps.zip us)):∃ f fd,Fn K mg x st ps f fd:=by
 obtain⟨f,oc,od,sl,kV,dc,pm,an,cd,ct,a,l,c,k⟩:=d;exact⟨f,_,yF (st:=st) l c k,(yF (st:=st) l c k).binds (ps:=ps) hb,k,QU X G a⟩
theorem fkm{K:Fg_}{x:Str}{st:Stmt}{f:Addr}{oc:Value}{od an:Option Addr}{sl:Array (Option Value)}{kV dc pm cd ct:Value}(a:PySem.W.nsIn K mainGlobals x=some (some (.ref f)))(l:K.lookup f=some ⟨oc,od,.func (PySem.W.fnOf x x (jT st) (fS st) (aH st) .none kV dc pm an cd ct),sl⟩)(c:PySem.W.codeIn K cd x=true)(k:PySem.W.keepIn K (.ref f)=true):FnK K x st:=⟨f,oc,od,sl,kV,dc,pm,an,cd,ct,a,l,c,k⟩
theorem zOM{l:PySem.W.OpenLaw}{w:World}{K:Fg_}{h:Heap}{mg:Str->Option Value}{fa f11 f63:Addr}(X:K.In h)(G:h.Ns mainGlobals mg)(hfa:mg "law" = some (.ref fa))
  {od11 an11:Option Addr} {sl11:Array (Option Value)} {oc11 kV11 dc11 pm11 ct11:Value}
  {od63 an63:Option Addr} {sl63:Array (Option Value)} {oc63 kV63 dc63 pm63 cd63 ct63:Value}
  (d0:FnK K "common_divisor" hU)
  (d1:FnK K "made" zGM)
  (d2:FnK K "whole" zCT)
  (d3:FnK K "plus" zHN)
  (d4:FnK K "minus" zDD)
  (d5:FnK K "times" zDv)
  (d6:FnK K "over" zIo)
  (d7:FnK K "less" zGA)
  (d8:FnK K "lesser" zN)
  (d9:FnK K "is_outside" lY)
  (d10:FnK K "refuse_outside" hJ)
  {cR T:Addr}
  (a11:PySem.W.nsIn K mainGlobals "ranked" = some (some (.ref f11))) (l11:K.lookup f11=some ⟨oc11,od11,.func (PySem.W.fnOf "ranked" "ranked" (jT iD) (fS iD) (aH iD) .none kV11 dc11 pm11 an11 (.ref cR) ct11),sl11⟩) (c11:PySem.W.codeIn K (.ref cR) "ranked" = true) (k11:PySem.W.keepIn K (.ref f11)=true)
  (tq:PySem.W.codeHdIn K cR T=true) (tn:K.lookup T=none)
  (d12:FnK K "looked" zAT)
  (d13:FnK K "refuse_way" mV)
  (d14:FnK K "refuse_claims" iV)
  (d15:FnK K "refuse_weights" gX)
  (d16:FnK K "contrary_way" jO)
  (d17:FnK K "dealt" zDp)
  (d18:FnK K "rightly_dealt" dX)
  (d19:FnK K "row_dealt" oF)
  (d20:FnK K "even_dealt" mG)
  (d21:FnK K "levels_of" kZ)
  (d22:FnK K "part_dealt" jB)
  (d23:FnK K "half_dealt" jK)
  (d24:FnK K "boat" zIs)
  (d25:FnK K "knot" zHg)
  (d26:FnK K "is_boat" vT)
  (d27:FnK K "way_of" zK)
  (d28:FnK K "weights_of" mX)
  (d29:FnK K "kids_of" uF)
  (d30:FnK K "claims_of" lB)
  (d31:FnK K "claim_of" rQ)
  (d32:FnK K "kid_claims" jI)
  (d33:FnK K "deep_of" mE)
  (d34:FnK K "shares" yU)
  (d35:FnK K "dealt_on" nJ)
  (d36:FnK K "plain" vE)
  (d37:FnK K "opened" zQ)
  (d38:FnK K "divided" pI)
  (d39:FnK K "line_of" vP)
  (d40:FnK K "refuse_bad" mD)
  (d41:FnK K "is_between" mH)
  (d42:FnK K "length" zAZ)
  (d43:FnK K "height" zAI)
  (d44:FnK K "value" zDa)
  (d45:FnK K "first_reaching" hZ)
  (d46:FnK K "met" zOo)
  (d47:FnK K "behind" qD)
  (d48:FnK K "places" sY)
  (d49:FnK K "merged" zAC)
  (d50:FnK K "way_lines" iU)
  (d51:FnK K "line_at" oW)
  (d52:FnK K "joints_of" iO)
  (d53:FnK K "row_joints" lS)
  (d54:FnK K "even_joints" lA)
  (d55:FnK K "mirrored" nK)
  (d56:FnK K "without_doubles" gB)
  (d57:FnK K "lines_of" jW)
  (d58:FnK K "straight" qQ)
  (d59:FnK K "_law_weights" kX)
  (d60:FnK K "_law_custom" mY)
  (d61:FnK K "_law_frac" rA)
  (d62:FnK K "_law_catch" oG)
  (a63:PySem.W.nsIn K mainGlobals "law" = some (some (.ref f63))) (l63:K.lookup f63=some ⟨oc63,od63,.func (PySem.W.fnOf "law" "law" (jT vY) (fS vY) (aH vY) .none kV63 dc63 pm63 an63 cd63 ct63),sl63⟩) (c63:PySem.W.codeIn K cd63 "law" = true) (k63:PySem.W.keepIn K (.ref f63)=true)
  (z_abs:PySem.W.nsIn K mainGlobals "abs" = some none)
  (z_sorted:PySem.W.nsIn K mainGlobals "sorted" = some none)
  (z_range:PySem.W.nsIn K mainGlobals "range" = some none)
  (z_len:PySem.W.nsIn K mainGlobals "len" = some none)
  (z_sum:PySem.W.nsIn K mainGlobals "sum" = some none)
  (z_zip:PySem.W.nsIn K mainGlobals "zip" = some none)
  (z_tuple:PySem.W.nsIn K mainGlobals "tuple" = some none)
  (z_max:PySem.W.nsIn K mainGlobals "max" = some none)
  (z_reversed:PySem.W.nsIn K mainGlobals "reversed" = some none)
  (z_min:PySem.W.nsIn K mainGlobals "min" = some none)
  (KT:Kt K) (CC:∀(h:Heap)(mg:Str->Option Value),K.In h->h.Ns mainGlobals mg->Ct K mg) (RR:∀(h:Heap)(mg:Str->Option Value),K.In h->h.Ns mainGlobals mg->Rt K mg) (EE:∀(h:Heap)(mg:Str->Option Value),K.In h->h.Ns mainGlobals mg->Et K mg)
  : K.lookup T=none/\oU K mg T/\∃ fd:FuncData,(∀(s:Shared)(v:Value),BindsTo s fd ⟨[v],[]⟩ [("script", v)])/\∀ base:Heap,K.In base->base.Ns mainGlobals mg->BMn base mg->FnOk l.prog w K mg base (CX1 l.prog w) 28 fa fd ["script"] (zPR K mg):=by
 have e:=hfa.symm.trans (QU X G a63);cases e;have B:Bt mg:=⟨Vr X G z_abs,Vr X G z_sorted,Vr X G z_range,Vr X G z_len,Vr X G z_sum,Vr X G z_zip,Vr X G z_tuple,Vr X G z_max,Vr X G z_reversed,Vr X G z_min⟩;have C:Ct K mg:=CC h mg X G;have R:Rt K mg:=RR h mg X G;have ET:Et K mg:=EE h mg X G;have hT:oU K mg T:=⟨f11,_,_,_,_,cR,QU X G a11,l11,rfl,fun h X=>PySem.W.codeHd_of_K X tq⟩
 refine⟨tn,hT,?_⟩
 refine⟨PySem.W.fnOf "law" "law" (jT vY) (fS vY) (aH vY) .none kV63 dc63 pm63 an63 cd63 ct63,fun s v=>.of_eq rfl,fun base _ _ hB=>?_⟩
 obtain⟨_,_,F0⟩:=fk X G d0 ["one","two"] (by walk_at "b")
 have YV:=rC l.prog w base 0 B KT C R ET F0;obtain⟨_,_,F2⟩:=fk X G d2 ["number"] (by walk_at "b")
 have UI:=zJV l.prog w base 0 B KT C R ET F2;obtain⟨_,_,F7⟩:=fk X G d7 ["one","two"] (by walk_at "b")
 have UN:=zOm l.prog w base 0 B KT C R ET F7;have F11:Fn K mg "ranked" iD ["some"] _ _:=⟨yF (st:=iD) l11 c11 k11,(yF (st:=iD) l11 c11 k11).binds (ps:=["some"]) (by walk_at "b"),k11,QU X G a11⟩
 have Uy:=zGG l.prog w base 0 B KT C R ET F11 hT hB;obtain⟨_,_,F13⟩:=fk X G d13 ["way"] (by walk_at "b")
 have Uc:=zZ l.prog w base 0 B KT C R ET F13;obtain⟨_,_,F14⟩:=fk X G d14 ["claims"] (by walk_at "b")
 have YX:=sJ l.prog w base 0 B KT C R ET F14;obtain⟨_,_,F15⟩:=fk X G d15 ["way","weights","many"] (by walk_at "b")
 have YU:=rP l.prog w base 0 B KT C R ET F15;obtain⟨_,_,F24⟩:=fk X G d24 ["claim"] (by walk_at "b")
 have US:=zNc l.prog w base 0 B KT C R ET F24;obtain⟨_,_,F26⟩:=fk X G d26 ["custom"] (by walk_at "b")
 have Us:=zFu l.prog w base 0 B KT C R ET F26;obtain⟨_,_,F27⟩:=fk X G d27 ["custom"] (by walk_at "b")
 have Uz:=zHL l.prog w base 0 B KT C R ET F27;obtain⟨_,_,F28⟩:=fk X G d28 ["custom"] (by walk_at "b")
 have Ua:=zAL l.prog w base 0 B KT C R ET F28;obtain⟨_,_,F42⟩:=fk X G d42 ["line"] (by walk_at "b")
 have UD:=zJg l.prog w base 0 B KT C R ET F42;obtain⟨_,_,F43⟩:=fk X G d43 ["line"] (by walk_at "b")
 have UC:=zGx l.prog w base 0 B KT C R ET F43;obtain⟨_,_,F48⟩:=fk X G d48 ["line"] (by walk_at "b")
 have Ux:=zHO l.prog w base 0 B KT C R ET F48;obtain⟨_,_,F59⟩:=fk X G d59 ["way","cell","many"] (by walk_at "b")
 have Y0:=wY l.prog w base 0 B KT C R ET F59;obtain⟨_,_,F61⟩:=fk X G d61 ["top","bottom"] (by walk_at "b")
 have Uj:=zDm l.prog w base 0 B KT C R ET F61;obtain⟨_,_,F1⟩:=fk X G d1 ["top","bottom"] (by walk_at "b")
 have UO:=zOg l.prog w base 1 B KT C R ET F1 (YV:=YV.mo);obtain⟨_,_,F8⟩:=fk X G d8 ["one","two"] (by walk_at "b")
 have UA:=zGk l.prog w base 1 B KT C R ET F8 (UN:=UN.mo);obtain⟨_,_,F9⟩:=fk X G d9 ["amount","most"] (by walk_at "b")
 have Y2:=yW l.prog w base 1 B KT C R ET F9 (UN:=UN.mo);obtain⟨_,_,F12⟩:=fk X G d12 ["way","weights","claims"] (by walk_at "b")
 have UE:=zHM l.prog w base 1 B KT C R ET F12 (Uc:=Uc.mo) (YX:=YX.mo) (YU:=YU.mo);obtain⟨_,_,F16⟩:=fk X G d16 ["way"] (by walk_at "b")
 have YZ:=vD l.prog w base 1 B KT C R ET F16 (Uc:=Uc.mo);obtain⟨_,_,F29⟩:=fk X G d29 ["custom"] (by walk_at "b")
 have Uu:=zFm l.prog w base 1 B KT C R ET F29 (Us:=Us.mo);obtain⟨_,_,F38⟩:=fk X G d38 ["weights"] (by walk_at "b")
 have Uq:=zFn l.prog w base 1 B KT C R ET F38 (YV:=YV.mo);obtain⟨_,_,F40⟩:=fk X G d40 ["points"] (by walk_at "b")
 have Y6:=zAM l.prog w base 1 B KT C R ET F40 (UN:=UN.mo);obtain⟨_,_,F45⟩:=fk X G d45 ["line","axis","amount"] (by walk_at "b")
 have YW:=qT l.prog w base 1 B KT C R ET F45 (UN:=UN.mo);obtain⟨_,_,F49⟩:=fk X G d49 ["one","two"] (by walk_at "b")
 have UF:=zGR l.prog w base 1 B KT C R ET F49 (UN:=UN.mo);obtain⟨_,_,F53⟩:=fk X G d53 ["claims"] (by walk_at "b")
 have Y4:=zAh l.prog w base 1 B KT C R ET F53 (UI:=UI.mo);obtain⟨_,_,F56⟩:=fk X G d56 ["joints"] (by walk_at "b")
 have YS:=qL l.prog w base 1 B KT C R ET F56 (UN:=UN.mo);obtain⟨_,_,F62⟩:=fk X G d62 ["cell","claim"] (by walk_at "b")
 have Ug:=zBG l.prog w base 1 B KT C R ET F62 (Uj:=Uj.mo);obtain⟨_,_,F3⟩:=fk X G d3 ["one","two"] (by walk_at "b")
 have UT:=zNF l.prog w base 2 B KT C R ET F3 (UO:=UO.mo);obtain⟨_,_,F4⟩:=fk X G d4 ["one","two"] (by walk_at "b")
 have UJ:=zKD l.prog w base 2 B KT C R ET F4 (UO:=UO.mo);obtain⟨_,_,F5⟩:=fk X G d5 ["one","two"] (by walk_at "b")
 have UK:=zKr l.prog w base 2 B KT C R ET F5 (UO:=UO.mo);obtain⟨_,_,F6⟩:=fk X G d6 ["one","two"] (by walk_at "b")
 have UR:=zMD l.prog w base 2 B KT C R ET F6 (UO:=UO.mo);obtain⟨_,_,F10⟩:=fk X G d10 ["amount","most"] (by walk_at "b")
 have YT:=qN l.prog w base 2 B KT C R ET F10 (Y2:=Y2.mo);obtain⟨_,_,F21⟩:=fk X G d21 ["weights","claims"] (by walk_at "b")
 have Ud:=zBh l.prog w base 2 B KT C R ET F21 (UO:=UO.mo);obtain⟨_,_,F37⟩:=fk X G d37 ["way","kids"] (by walk_at "b")
 have Uw:=zGn l.prog w base 2 B KT C R ET F37 (Uz:=Uz.mo) (Uu:=Uu.mo);obtain⟨_,_,F19⟩:=fk X G d19 ["claims","catch"] (by walk_at "b")
 have Uh:=zBn l.prog w base 3 B KT C R ET F19 (UA:=UA.mo) (UJ:=UJ.mo) (UI:=UI.mo);obtain⟨_,_,F20⟩:=fk X G d20 ["weights","claims","catch"] (by walk_at "b")
 have Y7:=zAf l.prog w base 3 B KT C R ET F20 (Uy:=Uy.mono (by decide)) (Ud:=Ud.mo) (UR:=UR.mo) (UA:=UA.mo) (UJ:=UJ.mo) (UK:=UK.mo) (UI:=UI.mo)
 obtain⟨_,_,F22⟩:=fk X G d22 ["claims","catch"] (by walk_at "b")
 have Y3:=yS l.prog w base 3 B KT C R ET F22 (UR:=UR.mo) (UI:=UI.mo) (UK:=UK.mo);obtain⟨_,_,F41⟩:=fk X G d41 ["ahead","point","later"] (by walk_at "b")
 have Ub:=yY l.prog w base 3 B KT C R ET F41 (UJ:=UJ.mo) (UK:=UK.mo);obtain⟨_,_,F46⟩:=fk X G d46 ["line","axis","amount"] (by walk_at "b")
 have UV:=zQA l.prog w base 3 B KT C R ET F46 (YW:=YW.mo) (UR:=UR.mo) (UT:=UT.mo) (UJ:=UJ.mo) (UK:=UK.mo);obtain⟨_,_,F54⟩:=fk X G d54 ["weights","claims"] (by walk_at "b")
 have Y1:=xA l.prog w base 3 B KT C R ET F54 (Ud:=Ud.mo) (Uy:=Uy.mono (by decide)) (UT:=UT.mo) (UI:=UI.mo) (UK:=UK.mo)
 obtain⟨_,_,F55⟩:=fk X G d55 ["joints","most"] (by walk_at "b")
 have Ul:=zCY l.prog w base 3 B KT C R ET F55 (UJ:=UJ.mo);obtain⟨_,_,F23⟩:=fk X G d23 ["claims","catch"] (by walk_at "b")
 have Y9:=zV l.prog w base 4 B KT C R ET F23 (UK:=UK.mo) (Y7:=Y7.mo) (UT:=UT.mo);obtain⟨_,_,F39⟩:=fk X G d39 ["points"] (by walk_at "b")
 have Ur:=zFY l.prog w base 4 B KT C R ET F39 (Y6:=Y6.mo) (Ub:=Ub.mo);obtain⟨_,_,F44⟩:=fk X G d44 ["line","x"] (by walk_at "b")
 have UL:=zKk l.prog w base 4 B KT C R ET F44 (YT:=YT.mo) (UV:=UV.mo) (UD:=UD.mo);obtain⟨_,_,F47⟩:=fk X G d47 ["one","two"] (by walk_at "b")
 have UB:=zGe l.prog w base 5 B KT C R ET F47 (UF:=UF.mo) (Ur:=Ur.mo) (UD:=UD.mo) (UC:=UC.mo) (UV:=UV.mo) (Ux:=Ux.mo) (UL:=UL.mo);obtain⟨_,_,F51⟩:=fk X G d51 ["joints","dealings","spot"] (by walk_at "b")
 have Ut:=zFh l.prog w base 5 B KT C R ET F51 (Ur:=Ur.mo);obtain⟨_,_,F58⟩:=fk X G d58 ["claim"] (by walk_at "b")
 have Up:=zCR l.prog w base 5 B KT C R ET F58 (Ur:=Ur.mo) (UI:=UI.mo);obtain⟨_,_,F52⟩:=fk X G d52 ["way","weights","claims"] (by walk_at "b")
 have Uf:=rX l.prog w base 4 B KT C R ET F52 (UI:=UI.mo) (Ul:=Ul.mo) (Y4:=Y4.mo) (Y1:=Y1.mo) (UK:=UK.mo) (YZ:=YZ.mo) 2;obtain⟨_,_,F18⟩:=fk X G d18 ["way","weights","claims","catch"] (by walk_at "b")
 have YY:=lI l.prog w base 5 B KT C R ET F18 (UI:=UI.mo) (Uh:=Uh.mo) (Y7:=Y7.mo) (Y3:=Y3.mo) (Y9:=Y9.mo) (UJ:=UJ.mo) (UN:=UN.mo) (UT:=UT.mo) 2;obtain⟨_,_,F17⟩:=fk X G d17 ["way","weights","claims","catch"] (by walk_at "b")
 have UM:=zKb l.prog w base 8 B KT C R ET F17 (UE:=UE.mo) (YT:=YT.mo) (YY:=YY.mo) (UI:=UI.mo);obtain⟨_,_,F50⟩:=fk X G d50 ["way","weights","claims"] (by walk_at "b")
 have Ui:=zBN l.prog w base 8 B KT C R ET F50 (UE:=UE.mo) (YS:=YS.mo) (Uf:=Uf.mo) (YY:=YY.mo) (Ut:=Ut.mo);obtain⟨_,_,F30⟩:=fk X G d30 ["custom"] (by walk_at "b")
 have Ue:=rW l.prog w base 2 B KT C R ET F30 (Us:=Us.mo) (Uu:=Uu.mo) 10;obtain⟨_,_,F33⟩:=fk X G d33 ["custom"] (by walk_at "b")
 have Uv:=yA l.prog w base 2 B KT C R ET F33 (Uu:=Uu.mo) 10;obtain⟨_,_,F25⟩:=fk X G d25 ["way","weights","kids"] (by walk_at "b")
 have UQ:=zNW l.prog w base 13 B KT C R ET F25 (Uc:=Uc.mo) (YU:=YU.mo) (Uv:=Uv.mo) (Ue:=Ue.mo);obtain⟨_,_,F31⟩:=fk X G d31 ["custom"] (by walk_at "b")
 have Uo:=zDf l.prog w base 13 B KT C R ET F31 (Ue:=Ue.mo);obtain⟨_,_,F32⟩:=fk X G d32 ["custom"] (by walk_at "b")
 have Y5:=zP l.prog w base 14 B KT C R ET F32 (Uo:=Uo.mo) (Uu:=Uu.mo);obtain⟨_,_,F60⟩:=fk X G d60 ["cells"] (by walk_at "b")
 have Y8:=zAN l.prog w base 14 B KT C R ET F60 (UQ:=UQ.mo) (Y0:=Y0.mo) (US:=US.mo);obtain⟨_,_,F36⟩:=fk X G d36 ["custom"] (by walk_at "b")
 have UH:=zEP l.prog w base 14 B KT C R ET F36 (Us:=Us.mo) (UQ:=UQ.mo) (Uz:=Uz.mo) (Uq:=Uq.mo) (Uw:=Uw.mo) (Uu:=Uu.mo) (Ua:=Ua.mo) 10;obtain⟨_,_,F35⟩:=fk X G d35 ["custom","catch"] (by walk_at "b")
 have Um:=uR l.prog w base 15 B KT C R ET F35 (Us:=Us.mo) (UM:=UM.mo) (Uz:=Uz.mo) (Ua:=Ua.mo) (Y5:=Y5.mo) (Uu:=Uu.mo) 10;obtain⟨_,_,F57⟩:=fk X G d57 ["custom"] (by walk_at "b")
 have Uk:=tM l.prog w base 15 B KT C R ET F57 (Us:=Us.mo) (Ui:=Ui.mo) (Uz:=Uz.mo) (Ua:=Ua.mo) (Y5:=Y5.mo) (Uu:=Uu.mo) (Up:=Up.mo) (Uo:=Uo.mo) (UB:=UB.mo) 10;obtain⟨_,_,F34⟩:=fk X G d34 ["custom","catch"] (by walk_at "b")
 have UG:=zIf l.prog w base 26 B KT C R ET F34 (YT:=YT.mo) (Um:=Um.mo) (UI:=UI.mo) (Uo:=Uo.mo);have F63:Fn K mg "law" vY ["script"] _ _:=⟨yF (st:=vY) l63 c63 k63,(yF (st:=vY) l63 c63 k63).binds (ps:=["script"]) (by walk_at "b"),k63,QU X G a63⟩
 have UU:=zPN l.prog w base 27 B KT C R ET F63 (Y8:=Y8.mo) (UH:=UH.mo) (Ug:=Ug.mo) (Uv:=Uv.mo) (Uk:=Uk.mo) (Uo:=Uo.mo) (UG:=UG.mo);exact zMQ UU law_true
end Lw
open PySem PySem.W PyProof.Rows
local macro_rules | `(tactic| walk_at "fk")=>`(tactic| (refine' Lw.fkm ?a ?l ?c ?k;(case a=>k_is);(case l=>k_is);(case c=>k_is);(case k=>k_is)))
set_option maxRecDepth 100000 in
set_option maxHeartbeats 0 in
theorem PySem.Challenge.cw_catchhall_k38_whole_plain_deals_alike_holds : PySem.Challenge.rw_catchhall_k38_whole_plain_deals_alike.Holds := by
 w_on;o_law;k_head;(case hw=>w_witness2)
 k_fill
 refine L3.zRN (l:=PySem.Challenge.rw_catchhall_k38_whole_plain_deals_alike) (k:=28) rfl rfl ⟨rfl,by decide,by decide⟩ (fun w h Y=>PySem.W.km_in_of Y) (fun w h Y=>PySem.W.km_tabs_of Y _ (.head _)) ?F
 case F=>
  intro w mg fa h KX G hmg
  refine' Lw.zOM KX G hmg ?d0 ?d1 ?d2 ?d3 ?d4 ?d5 ?d6 ?d7 ?d8 ?d9 ?d10 ?a11 ?l11 ?c11 ?k11 ?tq ?tn ?d12 ?d13 ?d14 ?d15 ?d16 ?d17 ?d18 ?d19 ?d20 ?d21 ?d22 ?d23 ?d24 ?d25 ?d26 ?d27 ?d28 ?d29 ?d30 ?d31 ?d32 ?d33 ?d34 ?d35 ?d36 ?d37 ?d38 ?d39 ?d40 ?d41 ?d42 ?d43 ?d44 ?d45 ?d46 ?d47 ?d48 ?d49 ?d50 ?d51 ?d52 ?d53 ?d54 ?d55 ?d56 ?d57 ?d58 ?d59 ?d60 ?d61 ?d62 ?a63 ?l63 ?c63 ?k63 ?z_abs ?z_sorted ?z_range ?z_len ?z_sum ?z_zip ?z_tuple ?z_max ?z_reversed ?z_min ?KT ?CC ?RR ?EE
  (case a11=>k_is)
  (case l11=>k_is)
  (case c11=>k_is)
  (case k11=>k_is)
  (case tq=>first | k_is | kernel_rfl | kn_code | decide +kernel)
  (case tn=>first | k_is | kernel_rfl | kn_code | decide +kernel)
  (case a63=>k_is)
  (case l63=>k_is)
  (case c63=>k_is)
  (case k63=>k_is)
  (case d0=>walk_at "fk")
  (case d1=>walk_at "fk")
  (case d2=>walk_at "fk")
  (case d3=>walk_at "fk")
  (case d4=>walk_at "fk")
  (case d5=>walk_at "fk")
  (case d6=>walk_at "fk")
  (case d7=>walk_at "fk")
  (case d8=>walk_at "fk")
  (case d9=>walk_at "fk")
  (case d10=>walk_at "fk")
  (case d12=>walk_at "fk")
  (case d13=>walk_at "fk")
  (case d14=>walk_at "fk")
  (case d15=>walk_at "fk")
  (case d16=>walk_at "fk")
  (case d17=>walk_at "fk")
  (case d18=>walk_at "fk")
  (case d19=>walk_at "fk")
  (case d20=>walk_at "fk")
  (case d21=>walk_at "fk")
  (case d22=>walk_at "fk")
  (case d23=>walk_at "fk")
  (case d24=>walk_at "fk")
  (case d25=>walk_at "fk")
  (case d26=>walk_at "fk")
  (case d27=>walk_at "fk")
  (case d28=>walk_at "fk")
  (case d29=>walk_at "fk")
  (case d30=>walk_at "fk")
  (case d31=>walk_at "fk")
  (case d32=>walk_at "fk")
  (case d33=>walk_at "fk")
  (case d34=>walk_at "fk")
  (case d35=>walk_at "fk")
  (case d36=>walk_at "fk")
  (case d37=>walk_at "fk")
  (case d38=>walk_at "fk")
  (case d39=>walk_at "fk")
  (case d40=>walk_at "fk")
  (case d41=>walk_at "fk")
  (case d42=>walk_at "fk")
  (case d43=>walk_at "fk")
  (case d44=>walk_at "fk")
  (case d45=>walk_at "fk")
  (case d46=>walk_at "fk")
  (case d47=>walk_at "fk")
  (case d48=>walk_at "fk")
  (case d49=>walk_at "fk")
  (case d50=>walk_at "fk")
  (case d51=>walk_at "fk")
  (case d52=>walk_at "fk")
  (case d53=>walk_at "fk")
  (case d54=>walk_at "fk")
  (case d55=>walk_at "fk")
  (case d56=>walk_at "fk")
  (case d57=>walk_at "fk")
  (case d58=>walk_at "fk")
  (case d59=>walk_at "fk")
  (case d60=>walk_at "fk")
  (case d61=>walk_at "fk")
  (case d62=>walk_at "fk")
  (case z_abs=>k_is)
  (case z_sorted=>k_is)
  (case z_range=>k_is)
  (case z_len=>k_is)
  (case z_sum=>k_is)
  (case z_zip=>k_is)
  (case z_tuple=>k_is)
  (case z_max=>k_is)
  (case z_reversed=>k_is)
  (case z_min=>k_is)
  (case KT=>refine' ⟨⟩<;>(first | kit_is | (show _=some true;kit_is) | (show _=some false;kit_is) | rfl | decide +kernel))
  (case CC=>
   intro h mg X G
   refine' Lw.zRu X G ?n_ACROSS ?n_BOAT ?n_DEEPEST ?n_HALF ?pHALF0_l ?n_MOST_BOATS ?n_NOUGHT ?pNOUGHT1_l ?n_OPENED ?pOPENED2_l ?n_UP ?n_WEIGHTED ?pWEIGHTED3_l ?n_CONTRARY ?aU<;>try first | k_is | kit_is | k_exc | rfl | decide +kernel | kernel_rfl)
  (case RR=>
   intro h mg X G
   refine' Lw.zRH X G ?n_BadClaim ?x_BadClaim ?n_BadLine ?x_BadLine ?n_BadWay ?x_BadWay ?n_BadWeights ?x_BadWeights ?n_NoFraction ?x_NoFraction ?n_Outside ?x_Outside ?n_TooMany ?x_TooMany ?n_Unlike ?x_Unlike<;>try first | k_is | kit_is | k_exc | rfl | decide +kernel | kernel_rfl)
  (case EE=>
   intro h mg X G
   refine' Lw.zRI X G )
