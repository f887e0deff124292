import PyProof.Rows.All
import Wide.All
import OpenK.AllK
import Wide.FinOn
import Lean
import PyProof.EqAt
import PyProof.EqKinds
import PyProof.TupleCall
import PyProof.NeKinds
import KE.KRevIter
import PyProof.Rows.SumAny
import PySem.Challenge.RW_catchhall_k49_whole_dealt_or_not
noncomputable section
set_option Elab.async false
set_option linter.all false
set_option maxRecDepth 100000
def Qb:=@Nat.le_refl
def Qc:=@List.mem_cons
def Qd:=@List.mem_cons_of_mem
def Qe:=@List.mem_cons_self
def Qf:=@List.size_toArray
def Qg:=@List.mem_of_getElem?
def Qh:=@List.length_map
def Qi:=@List.map_cons
def Qj:=@List.getElem?_eq_getElem
def Qk:=@List.length_cons
def Ql:=@Nat.lt_of_lt_of_le
def Qm:=@List.length_append
def Qn:=@List.sum_cons
def Qo:=@Nat.ne_of_lt
def Qp:=@Nat.le_trans
def Qq:=@List.getElem?_map
def Qr:=@List.getD_eq_getElem?_getD
def Qs:=@Int.emod_nonneg
def Qt:=@List.mem_range
def Qu:=@List.mem_append_right
def Qv:=@List.getElem?_eq_none
def Qw:=@List.mem_singleton
def Qx:=@PySem.boot_len
def Qy:=@List.map_append
def Qz:=@List.map_map
def Q0:=@Int.emod_lt_of_pos
def Q2:=@Rat.intCast_add
def Q3:=@Rat.not_lt
def Q4:=@List.not_mem_nil
def Q5:=@List.length_set
def Q6:=@Nat.zero_add
def Q7:=@List.length_range
def Q8:=@PySem.W.mg_of
def Q9:=@List.mem_map
def Va:=@Int.natCast_nonneg
def Vb:=@Rat.intCast_le_intCast
def Vc:=@Option.some.inj
def Vd:=@List.getElem?_eq_some_iff
def Ve:=@List.getElem?_set_self
def Vf:=@List.getElem?_set_ne
def Vg:=@Bool.and_eq_true
def Vh:=@Int.toNat_natCast
def Vi:=@Rat.le_refl
def Vj:=@List.getElem?_append_left
def Vk:=@Nat.zero_le
def Vl:=@List.sum_nil
def Vm:=@Nat.lt_irrefl
def Vn:=@List.length_drop
def Vo:=@Nat.pow_le_pow_right
def Vp:=@Rat.intCast_mul
def Vq:=@Int.mul_one
def Vr:=@List.append_nil
def Vs:=@List.getElem?_append_right
def Vt:=@List.map_nil
def Vu:=@List.lookup_cons
def Vv:=@List.map_congr_left
def Vw:=@Rat.not_le
def Vx:=@PySem.W.mg_none_of
def Vy:=@Rat.num_divInt_den
def Vz:=@Nat.lt_of_le_of_lt
def V0:=@List.all_eq_true
def V3:=@Int.mul_pos
def V4:=@List.flatMap_cons
def V5:=@List.getElem_mem
def V6:=@List.length_take
def V7:=@Nat.succ_le_succ
def V8:=@Bool.or_eq_true
def V9:=@Bool.false_eq_true
def Xa:=@Nat.lt_succ_of_lt
def Xb:=@List.take_length
def Xc:=@Rat.le_of_lt
def Xd:=@List.sum_append
def Xe:=@List.mem_append
def Xf:=@Array.length_toList
def Xg:=@PySem.mem_of_lookup
def Xh:=@List.replicate_succ
def Xi:=@List.append_assoc
def Xj:=@Int.le_of_lt
def Xk:=@Int.mul_ne_zero
def Xl:=@List.getElem?_range
def Xm:=@Int.le_trans
def Xn:=@Int.natCast_add
def Xo:=@Rat.div_mul_cancel
def Xp:=@Int.mul_assoc
def Xq:=@Rat.add_zero
def Xr:=@List.flatMap_append
def Xs:=@Nat.le_of_lt
def Xt:=@List.nodup_cons
def Xu:=@List.length_replicate
def Xv:=@List.flatten_cons
def Xw:=@Nat.le_of_eq
def Xx:=@Int.add_mul
def Xy:=@Int.mul_comm
def Xz:=@Rat.mul_le_mul_of_nonneg_right
def X0:=@Rat.divInt_eq_div
def X1:=@List.cons.injEq
def X2:=@PySem.F.excBase_ValueError
def X3:=@Bool.false_ne_true
def X4:=@Nat.ne_of_gt
def X5:=@PyProof.Rows.callWith_type1
def X6:=@List.of_mem_zip
def X7:=@List.length_singleton
def X8:=@List.length_nil
def X9:=@Nat.min_self
def Yc:=@Nat.sub_self
def Yd:=@Nat.lt_succ_self
def Yf:=@Int.le_refl
def Yg:=@Rat.le_of_mul_le_mul_right
def Yh:=@List.take_append_drop
def Yi:=@Nat.lt_or_eq_of_le
def Yj:=@Rat.mul_lt_mul_right
def Yk:=@List.mem_append_left
def Ym:=@Int.pow_pos
def Yn:=@List.take_succ
def Yo:=@List.drop_eq_nil_of_le
def Yp:=@List.take_of_length_le
def Yq:=@List.range_succ
def Yr:=@List.ext_getElem?
def Ys:=@Nat.succ_pos
def Yt:=@Rat.mul_le_mul_of_nonneg_left
def Yu:=@Nat.not_lt_zero
def Yv:=@List.filterMap_cons
def Yw:=@PyProof.Rows.slot_tuple_getitem
def Yy:=@List.nil_append
def Yz:=@Nat.le_total
def Y0:=@Int.eq_ofNat_of_zero_le
def Y1:=@PySem.F.plainAttrs_list
def Y2:=@List.forIn_cons
def Y3:=@Nat.succ.inj
def Y4:=@List.cons_append
def Y5:=@Int.mul_nonneg
def Y6:=@Rat.le_total
def Y7:=@Rat.le_trans
def Y8:=@List.take_succ_cons
def Y9:=@List.mem_of_mem_take
def Ua:=@List.flatMap_def
def Ub:=@Int.ediv_nonneg
def Uc:=@PySem.W.hideAll_get
def Ud:=@List.mem_filterMap
def Ue:=@List.getElem?_replicate
def Uf:=@PySem.F.slot_tuple_add
def Ug:=@PySem.F.entry_tuple_add
def Uh:=@PySem.F.args_tuple_add_2
def Ui:=@Array.getElem?_toList
def Uj:=@Nat.add_comm
def Uk:=@Int.gcd_dvd_left
def Ul:=@Int.gcd_dvd_right
def Um:=@Int.one_mul
def Uo:=@Rat.divInt_mul_divInt
def Uq:=@Nat.min_eq_left
def Ur:=@PySem.intBits_le_iff
def Us:=@List.eq_nil_of_length_eq_zero
def Ut:=@List.drop_eq_getElem_cons
def Uu:=@List.set_append_right
def Uv:=@Nat.succ_ne_self
def Uw:=@Nat.add_sub_cancel
def Ux:=@Nat.sub_zero
def Uy:=@List.toList_toArray
def Uz:=@List.pairwise_map
def U0:=@Array.size_zip
def U1:=@List.length_zip
def U2:=@List.Pairwise.imp_of_mem
def U3:=@Bool.and_true
def U5:=@Rat.num_nonneg
def U6:=@List.mem_flatMap
def U7:=@Int.pow_add
def U8:=@List.range_eq_range'
def U9:=@Nat.mul_add
def Wa:=@List.mem_of_mem_drop
def Wb:=@Int.ne_of_gt
def Wc:=@Int.lt_of_le_of_lt
def Wd:=@Nat.le_of_ble_eq_true
def We:=@PySem.W.cellsFrom_some
def Wf:=@Option.isSome_iff_exists
def Wg:=@Int.neg_ediv_of_dvd
def Wh:=@Int.fdiv_eq_ediv_of_nonneg
def Wj:=@Int.fmod_eq_emod_of_nonneg
def Wk:=@PySem.F.slot_list_append
def Wl:=@PySem.F.type_list_append
def Wm:=@Array.getElem?_eq_some_iff
def Wn:=@Nat.add_sub_cancel_left
def Wo:=@PySem.F.plain_list_iadd
def Wp:=@List.getElem?_zip_eq_some
def Wq:=@Nat.lt_two_pow_self
def Wr:=@Classical.not_forall
def Ws:=@List.filter_eq_nil_iff
abbrev Fg_:=PySem.W.Frag
namespace L2
open PySem PySem.Spec PyProof.Rows
abbrev Key:=Sum Int Str
def zLw:Key->Value->Bool
 | .inl k,v=>Value.isInt k v
 | .inr x,v=>Value.isStrOf x v
def zOZ(w:World):Key->Int
 | .inl k=>hashInt k
 | .inr x=>hashStr w x
theorem cW:∀ {k:Key} {v:Value},zLw k v=true->(∃ i t,k=Sum.inl i/\v=Value.int i t)∨(∃ x t,k=Sum.inr x/\v=Value.str x t)
 | .inl i,v,h=>by
  obtain⟨t,e⟩:=Value.isInt_shape (k:=i) (v:=v) h;exact .inl ⟨i,t,rfl,e⟩
 | .inr x,v,h=>by
  obtain⟨t,e⟩:=Value.isStrOf_shape (x:=x) (v:=v) h;exact .inr ⟨x,t,rfl,e⟩
theorem zNj(a b:Int):decide ((Sum.inl a:Key)=Sum.inl b)=(a==b):=by
 by_cases e:a=b
 ·subst e;simp
 ·have h:¬ (Sum.inl a:Key)=Sum.inl b:=fun q=>e (Sum.inl.inj q)
  rw[decide_eq_false h];exact(beq_eq_false_iff_ne.mpr e).symm
theorem zLj(a b:Str):decide ((Sum.inr a:Key)=Sum.inr b)=decide (a=b):=by
 by_cases e:a=b
 ·subst e;simp
 ·have h:¬ (Sum.inr a:Key)=Sum.inr b:=fun q=>e (Sum.inr.inj q)
  rw[decide_eq_false h,decide_eq_false e]
theorem zLe(a:Int)(b:Str):decide ((Sum.inl a:Key)=Sum.inr b)=false:=decide_eq_false (fun q=>nomatch q)
theorem zMH(a:Str)(b:Int):decide ((Sum.inr a:Key)=Sum.inl b)=false:=decide_eq_false (fun q=>nomatch q)
def zFt(prog:Program)(w:World):PySem.KeyKind prog w Key where
 is:=zLw
 hash:=zOZ w
 inj:=fun v a b ha hb=>by
  rcases cW ha with⟨i,t,rfl,rfl⟩ | ⟨x,t,rfl,rfl⟩
  ·rcases cW hb with⟨j,u,rfl,e⟩ | ⟨y,u,rfl,e⟩
   ·injection e with e1 _;rw[e1]
   ·exact nomatch e
  ·rcases cW hb with⟨j,u,rfl,e⟩ | ⟨y,u,rfl,e⟩
   ·exact nomatch e
   ·injection e with e1 _;rw[e1]
 byValue:=fun k v h=>by
  rcases cW h with⟨i,t,rfl,rfl⟩ | ⟨x,t,rfl,rfl⟩<;>rfl
 pyHash:=fun hv h=>by
  rcases cW hv with⟨i,t,rfl,rfl⟩ | ⟨x,t,rfl,rfl⟩
  ·exact wpAny_pyHash_int h
  ·exact wpAny_pyHash_str h
 eqBool:=fun hu hv h=>by
  rcases cW hu with⟨i,t,rfl,rfl⟩ | ⟨x,t,rfl,rfl⟩
  ·rcases cW hv with⟨j,u,rfl,rfl⟩ | ⟨y,u,rfl,rfl⟩
   ·rw[zNj] at h;exact wpAny_eqBool_int h
   ·rw[zLe] at h;exact SeqAt.EqAt.int_str i t y u _ _ _ _ h
  ·rcases cW hv with⟨j,u,rfl,rfl⟩ | ⟨y,u,rfl,rfl⟩
   ·rw[zMH] at h;exact SeqAt.EqAt.str_int x t j u _ _ _ _ h
   ·rw[zLj] at h;exact wpAny_eqBool_str h
 «strs» := fun k x t v h=>by
  rcases cW h with⟨i,u,rfl,e⟩ | ⟨y,u,rfl,e⟩
  ·exact nomatch e
  ·injection e with e1 _
   subst e1;cases v<;>rfl
inductive V where
 | non | bl (b:Bool) | int (i:Int) | str (x:Str) | byt (b:Array UInt8) | flt (b:UInt64) | ref (a:Addr) | ty (n:String)
 deriving DecidableEq
def cO:V->Value->Prop
 | .non,u=>u=Value.none
 | .bl b,u=>u=Value.bool b
 | .int i,u=>∃ t,u=Value.int i t
 | .str x,u=>∃ t,u=Value.str x t
 | .byt b,u=>∃ t,u=Value.bytes b t
 | .flt b,u=>∃ t,u=Value.float b t
 | .ref a,u=>u=Value.ref a
 | .ty n,u=>u=Value.type n
abbrev dD:List V->List Value->Prop:=Paired cO
theorem dD.length{xs:List V}{us:List Value}(r:dD xs us):xs.length=us.length:=Paired.length r
theorem dD.get:∀ {xs:List V} {us:List Value} {i:Nat} {x:V},dD xs us->xs[i]?=some x->∃ u,us[i]?=some u/\cO x u
 | _,_,_,_,.nil,e=>by simp at e
 | _,_,0,_,.cons r _,e=>by simp at e;subst e;exact⟨_,rfl,r⟩
 | _,_,i+1,x,.cons _ t,e=>by
  obtain⟨u,h1,h2⟩:=dD.get (i:=i) (x:=x) t (by simpa using e)
  exact⟨u,by simpa using h1,h2⟩
theorem dD.set{x:V}{u:Value}(r:cO x u):∀ {xs:List V} {us:List Value} (i:Nat),dD xs us->dD (xs.set i x) (us.set i u)
 | _,_,_,.nil=>.nil
 | _,_,0,.cons _ t=>.cons r t
 | _,_,i+1,.cons q t=>.cons q (dD.set r i t)
theorem dD.append:∀ {xs ys:List V} {us ws:List Value},dD xs us->dD ys ws->dD (xs++ys) (us++ws)
 | _,_,_,_,.nil,s=>s
 | _,_,_,_,.cons r t,s=>.cons r (dD.append t s)
theorem dD.take:∀ {xs:List V} {us:List Value} (n:Nat),dD xs us->dD (xs.take n) (us.take n)
 | _,_,0,_=>.nil
 | _,_,_+1,.nil=>.nil
 | _,_,n+1,.cons r t=>.cons r (dD.take n t)
theorem dD.drop:∀ {xs:List V} {us:List Value} (n:Nat),dD xs us->dD (xs.drop n) (us.drop n)
 | _,_,0,r=>r
 | _,_,_+1,.nil=>.nil
 | _,_,n+1,.cons _ t=>dD.drop n t
def zOX:Option V->Option Value->Prop
 | some v,some u=>cO v u
 | none,none=>True
 | _,_=>False
def KV{κ:Type}:List (κ×V)->List (κ×Value)->Prop:=Paired fun(p:κ×V) (q:κ×Value)=>p.1=q.1/\cO p.2 q.2
def kV:Key->V
 | .inl i=>.int i
 | .inr x=>.str x
inductive HO where
 | lst (xs:List V)
 | tup (xs:List V)
 | dK (kvs:List (Key×V)) | dT (kvs:List (List Key×V))
 | set (S:Int->Bool) (n:Nat)
 | ins (C dx:Addr) (fs:List (Str×V))
 | own (x:Addr)
 | xd (fs:List (Str×V))
 | met (f x:Addr)
 | rng (lo hi:Int)
 | frz (o:Obj) (u:HO)
 | tbl (ps:Array Value)
 | ext (φ:Heap->Prop)
abbrev Hp:=Addr->Option HO
def upd(H:Hp)(a:Addr)(o:HO):Hp:=fun b=>if b=a then some o else H b
theorem aQ{H:Hp}{a:Addr}{o:HO}:upd H a o a=some o:=by unfold upd;rw[if_pos rfl]
theorem aT{H:Hp}{a b:Addr}{o:HO}(h:b≠a):upd H a o b=H b:=by unfold upd;rw[if_neg h]
theorem zNa{H:Hp}{a b:Addr}{o u:HO}(h:H a=some o)(h':H b=some u)(d:o≠u):a≠b:=by
 intro e;subst e;rw[h] at h';exact d (Vc h')
theorem aV{H:Hp}{a b:Addr}{o:HO}(h:H a=some o)(h':H b=none):a≠b:=by
 intro e;subst e;rw[h] at h';cases h'
section
variable(P:Program)(w:World)
def kE(H:Hp)(h:Heap)(a:Addr):HO->Prop
 | .lst xs=>xs.length<=sizeLine/\∃(its:List Value)(n:Nat),dD xs its/\h.get? a=some { cls:=.type "list", data:=.seq its.toArray n }
 | .tup xs=>xs.length<=sizeLine/\∃ its:List Value,dD xs its/\IsTup h a its.toArray
 | .dK kvs=>kvs.length<=sizeLine/\(a==sysModules)=false/\∃ vs,KV kvs vs/\h.DictOf (zFt P w) a vs
 | .dT kvs=>kvs.length<=sizeLine/\(a==sysModules)=false/\∃ xs:List (List Key×Addr×Value),
   Paired (fun(p:List Key×V) (q:List Key×Addr×Value)=>p.1=q.1/\H q.2.1=some (.tup (p.1.map kV))/\cO p.2 q.2.2) kvs xs/\
   ∃ o es ep,h.get? a=some o/\o.ExactDict/\o.data=.dict es ep/\es.toList=xs.map (entryOfKey (tupleKind (zFt P w)))/\(xs.map (·.1)).Nodup
 | .set S n=>h.SetOf (intKind P w) a S n
 | .ins C dx fs=>H dx=some (.own a)/\fs.length<=1000/\dx≠a/\h.get? a=some (PySem.W.instObj C dx)/\
   ∃ mA,h.Ns1 dx mA/\(∀ f,zOX (fs.lookup f) (mA f))/\PySem.Within mA (fs.map (·.1))
 | .own _=>∃ o,h.get? a=some o
 | .xd fs=>∃ mA,h.Ns1 a mA/\∀ f,zOX (fs.lookup f) (mA f)
 | .rng lo hi=>∃ t u v,h.get? a=some { cls:=.type "range", data:=.fields #[.int lo t,.int hi u,.int 1 v] }
 | .frz o u=>h.get? a=some o/\kE H h a u
 | .tbl ps=>h.get? a=some { cls:=.none,data:=.fields ps }
 | .met f x=>h.get? a=some (PySem.W.methodObj (.ref f) (.ref x))
 | .ext φ=>φ h/\(∃ o,h.get? a=some o)/\∀ h1 h2:Heap,φ h1->(∀ o,h1.get? a=some o->h2.get? a=some o)->φ h2
def HOk(H:Hp)(h:Heap):Prop:=∀ a o,H a=some o->kE P w H h a o
end
section
variable{P:Program}{w:World}{H H':Hp}{h h':Heap}{a:Addr}{o:HO}
theorem kE.lt(x:kE P w H h a o):a<h.objs.size:=by
 cases o with
 | lst xs=>obtain⟨_,_,_,_,e⟩:=x;exact Heap.lt_size e
 | tup xs=>obtain⟨_,_,_,p⟩:=x;exact p.lt
 | dK kvs=>obtain⟨_,_,_,_,o,_,_,e,_⟩:=x;exact Heap.lt_size e
 | dT kvs=>obtain⟨_,_,_,_,o,_,_,e,_⟩:=x;exact Heap.lt_size e
 | set S n=>obtain⟨o,_,_,_,e,_⟩:=x;exact Heap.lt_size e
 | ins C dx fs=>obtain⟨_,_,_,e,_⟩:=x;exact Heap.lt_size e
 | own y=>obtain⟨_,e⟩:=x;exact Heap.lt_size e
 | xd fs=>obtain⟨_,⟨_,_,_,e,_⟩,_⟩:=x;exact Heap.lt_size e
 | rng lo hi=>obtain⟨_,_,_,e⟩:=x;exact Heap.lt_size e
 | frz ob u=>obtain⟨e,_⟩:=x;exact Heap.lt_size e
 | tbl ps=>exact Heap.lt_size (show h.get? a=some _ from x)
 | met f y=>exact Heap.lt_size (show h.get? a=some _ from x)
 | ext φ=>obtain⟨_,⟨_,e⟩,_⟩:=x;exact Heap.lt_size e
theorem Paired.mapP{α β:Type}{F G:α->β->Prop}:∀ {l₁:List α} {l₂:List β},Paired F l₁ l₂->(∀ a b,F a b->G a b)->Paired G l₁ l₂
 | _,_,.nil,_=>.nil
 | _,_,.cons r t,f=>.cons (f _ _ r) (Paired.mapP t f)
theorem kE.stay(x:kE P w H h a o)(k:∀ b u,(b=a∨H b=some (.own a))->h.get? b=some u->h'.get? b=some u)
  (ho:∀ b,H b=some (.own a)->H' b=some (.own a)) (ht:∀ b xs,H b=some (.tup xs)->H' b=some (.tup xs)):kE P w H' h' a o:=by
 induction o with
 | lst xs=>obtain⟨z,its,n,r,e⟩:=x;exact⟨z,its,n,r,k _ _ (.inl rfl) e⟩
 | tup xs=>obtain⟨z,its,r,ob,e,c⟩:=x;exact⟨z,its,r,ob,k _ _ (.inl rfl) e,c⟩
 | dK kvs=>obtain⟨z,y,vs,r,ob,es,ep,e,c⟩:=x;exact⟨z,y,vs,r,ob,es,ep,k _ _ (.inl rfl) e,c⟩
 | dT kvs=>
  obtain⟨z,y,xs,r,ob,es,ep,e,c⟩:=x;exact⟨z,y,xs,Paired.mapP r fun p q z=>⟨z.1,ht _ _ z.2.1,z.2.2⟩,ob,es,ep,k _ _ (.inl rfl) e,c⟩
 | set S n=>obtain⟨ob,es,ep,t,e,c⟩:=x;exact⟨ob,es,ep,t,k _ _ (.inl rfl) e,c⟩
 | ins C dx fs=>
  obtain⟨d,z,ne,e,mA,⟨od,es,ep,e2,c⟩,r⟩:=x;exact⟨ho _ d,z,ne,k _ _ (.inl rfl) e,mA,⟨od,es,ep,k _ _ (.inr d) e2,c⟩,r⟩
 | own y=>obtain⟨ob,e⟩:=x;exact⟨ob,k _ _ (.inl rfl) e⟩
 | xd fs=>obtain⟨mA,⟨od,es,ep,e,c⟩,r⟩:=x;exact⟨mA,⟨od,es,ep,k _ _ (.inl rfl) e,c⟩,r⟩
 | rng lo hi=>obtain⟨t,u,v,e⟩:=x;exact⟨t,u,v,k _ _ (.inl rfl) e⟩
 | frz ob u ih=>obtain⟨e,q⟩:=x;exact⟨k _ _ (.inl rfl) e,ih q⟩
 | tbl ps=>
  have e:h.get? a=some { cls:=.none,data:=.fields ps }:=x;show h'.get? a=some { cls:=.none,data:=.fields ps }
  exact k a _ (.inl rfl) e
 | met f y=>
  have e:h.get? a=some (PySem.W.methodObj (.ref f) (.ref y)):=x;show h'.get? a=some (PySem.W.methodObj (.ref f) (.ref y))
  exact k a _ (.inl rfl) e
 | ext φ=>obtain⟨p,⟨o,e⟩,st⟩:=x;exact⟨st _ _ p fun o q=>k _ _ (.inl rfl) q,⟨o,k _ _ (.inl rfl) e⟩,st⟩
theorem HOk.lt(x:HOk P w H h)(e:H a=some o):a<h.objs.size:=(x a o e).lt
theorem HOk.fresh(x:HOk P w H h)(e:h.objs.size<=a):H a=none:=by
 cases q:H a with
 | none=>rfl
 | some u=>exact absurd (Ql (x.lt q) e) (Vm _)
theorem HOk.kept(x:HOk P w H h)(k:∀ b u,h.get? b=some u->h'.get? b=some u):HOk P w H h':=fun a o e=>
 (x a o e).stay (fun b u _ q=>k b u q) (fun _ q=>q) fun _ _ q=>q
theorem HOk.laid(x:HOk P w H h)(k:∀ b u,h.get? b=some u->h'.get? b=some u)(hp:h.objs.size<=a)(new:kE P w (upd H a o) h' a o):HOk P w (upd H a o) h':=fun b u e=>by
 have hn:=x.fresh hp;by_cases hb:b=a
 ·subst hb;rw[aQ] at e;cases e;exact new
 ·rw[aT hb] at e
  exact(x b u e).stay (fun c v _ q=>k c v q) (fun c q=>by rw[aT (aV q hn)];exact q) fun c xs q=>by rw[aT (aV q hn)];exact q
end
def Rd(H:Hp)(a:Addr)(u:HO):Prop:=H a=some u∨∃ o,H a=some (.frz o u)
theorem Rd.ok{P:Program}{w:World}{H:Hp}{h:Heap}{a:Addr}{u:HO}(r:Rd H a u)(x:HOk P w H h):kE P w H h a u:=by
 rcases r with r | ⟨o,r⟩
 ·exact x a u r
 ·obtain⟨_,q⟩:=x a _ r
  exact q
def Mut:Option HO->Prop
 | some (.lst _)=>True
 | some (.dK _)=>True
 | some (.dT _)=>True
 | some (.set _ _)=>True
 | some (.ins _ _ _)=>True
 | some (.ext _)=>True
 | _=>False
section
variable{P:Program}{w:World}{H:Hp}{h h':Heap}{x e:Addr}{o':HO}
theorem HOk.write(ok:HOk P w H h)(mu:Mut (H x))(he:e=x∨H e=some (.own x))(k:∀ b u,b≠e->h.get? b=some u->h'.get? b=some u)(heo:∃ u,h'.get? e=some u)
  (new:kE P w (upd H x o') h' x o'):HOk P w (upd H x o') h':=fun b u q=>by
 have nown:∀ c y,H c=some (.own y)->c≠x:=fun c y r z=>by subst z;rw[r] at mu;exact mu
 have ntup:∀ c xs,H c=some (.tup xs)->c≠x:=fun c xs r z=>by subst z;rw[r] at mu;exact mu
 by_cases hb:b=x
 ·subst hb;rw[aQ] at q;cases q;exact new
 ·rw[aT hb] at q
  by_cases hbe:b=e
  ·have q':H b=some (.own x):=by
    rcases he with z | z
    ·exact absurd (hbe.trans z) hb
    ·rw[hbe];exact z
   rw[q] at q';cases q'
   obtain⟨v,hv⟩:=heo;exact⟨v,by rw[hbe];exact hv⟩
  ·refine(ok b u q).stay (fun c v hc r=>k c v ?_ r) (fun c r=>by rw[aT (nown c b r)];exact r) fun c xs r=>by rw[aT (ntup c xs r)];exact r
   rcases hc with rfl | hc
   ·exact hbe
   ·rintro rfl
    rcases he with z | z
    ·exact nown c b hc z
    ·rw[hc] at z;cases z;exact hb rfl
end
structure Un (fs ex:List Addr) (H H':Hp) (h h':Heap):Prop where
 keep:∀ b o,h.get? b=some o->H b=none->b∉fs->b∉ex->h'.get? b=some o
 slot:∀ b o,h.get? b=some o->H b=none->b∈fs->b∉ex->∃ sl,h'.get? b=some { o with slots:=sl }
 free:∀ b o,h.get? b=some o->H b=none->b∉ex->H' b=none
 there:∀ b o,h.get? b=some o->b∉ex->∃ o',h'.get? b=some o'
 tups:∀ b xs,H b=some (.tup xs)->H' b=some (.tup xs)
 frzs:∀ b o u,H b=some (.frz o u)->H' b=some (.frz o u)
 tbls:∀ b ps,H b=some (.tbl ps)->∃ more,H' b=some (.tbl (ps++more))
section
variable{fs fs' ex ex':List Addr}{H H1 H2:Hp}{h h1 h2 h':Heap}{a x e:Addr}{o:HO}
theorem Un.any(u:Un fs ex H H1 h h1){b:Addr}{ob:Obj}(q:h.get? b=some ob)(n:H b=none)(hx:b∉ex):∃ sl,h1.get? b=some { ob with slots:=sl }:=by
 by_cases hb:b∈fs
 ·exact u.slot b ob q n hb hx
 ·exact⟨ob.slots,u.keep b ob q n hb hx⟩
theorem Un.kept(k:∀ b u,h.get? b=some u->h'.get? b=some u):Un fs ex H H h h':=
 ⟨fun b ob q _ _ _=>k b ob q,fun b ob q _ _ _=>⟨ob.slots,k b ob q⟩,fun _ _ _ n _=>n,fun b ob q _=>⟨ob,k b ob q⟩,fun _ _ q=>q,fun _ _ _ q=>q,fun _ ps q=>⟨#[],by rw[q];simp⟩⟩
theorem Un.refl:Un fs ex H H h h:=Un.kept fun _ _ q=>q
theorem Un.laid(k:∀ b u,h.get? b=some u->h'.get? b=some u)(hp:h.objs.size<=a)(hn:H a=none):Un fs ex H (upd H a o) h h' where
 keep:=fun b u q _ _ _=>k b u q
 slot:=fun b u q _ _ _=>⟨u.slots,k b u q⟩
 free:=fun b u q n _=>by rw[aT (Qo (Ql (Heap.lt_size q) hp))];exact n
 there:=fun b u q _=>⟨u,k b u q⟩
 tups:=fun b xs q=>by rw[aT (aV q hn)];exact q
 frzs:=fun b u xs q=>by rw[aT (aV q hn)];exact q
 tbls:=fun b ps q=>⟨#[],by rw[aT (aV q hn),q];simp⟩
theorem Un.write(mu:Mut (H x))(he:e=x∨H e=some (.own x))(k:∀ b u,b≠e->h.get? b=some u->h'.get? b=some u)(heo:∃ u,h'.get? e=some u):Un fs ex H (upd H x o) h h':=by
 have hx:∀ b,H b=none->b≠x:=fun b n z=>by subst z;rw[n] at mu;exact mu
 have hb:∀ b,H b=none->b≠e:=fun b n z=>by
  subst z;rcases he with r | r
  ·exact hx b n r
  ·rw[n] at r;cases r
 have hm:∀ b u,H b=some u->¬ Mut (some u)->b≠x:=fun b u q nm z=>by subst z;rw[q] at mu;exact nm mu
 refine⟨fun b u q n _ _=>k b u (hb b n) q,fun b u q n _ _=>⟨u.slots,k b u (hb b n) q⟩,fun b u q n _=>by rw[aT (hx b n)];exact n,fun b u q _=>?_,
  fun b xs q=>by rw[aT (hm b _ q fun z=>z)];exact q,fun b u xs q=>by rw[aT (hm b _ q fun z=>z)];exact q,fun b ps q=>⟨#[],by rw[aT (hm b _ q fun z=>z),q];simp⟩⟩
 by_cases hbe:b=e
 ·subst hbe;exact heo
 ·exact⟨u,k b u hbe q⟩
end
def trk(h:Heap)(H:Hp):List Addr:=(List.range h.objs.size).filter fun a=>(H a).isSome
def zGO(h:Heap)(H:Hp):Heap:=PySem.W.hideAll h (trk h H)
theorem zEi(h:Heap)(H:Hp):(zGO h H).objs.size=h.objs.size:=PySem.W.hideAll_size _ _
theorem zHr{h:Heap}{H:Hp}{b:Addr}{o:Obj}(e:h.get? b=some o)(n:H b=none):(zGO h H).get? b=some o:=
 Uc _ e fun hm=>by
  have q:(H b).isSome=true:=(List.mem_filter.mp hm).2;rw[n] at q;simp at q
theorem zKy{h:Heap}{H:Hp}{b:Addr}{o:Obj}(e:(zGO h H).get? b=some o):h.get? b=some o/\H b=none:=by
 have e':h.get? b=some o:=PySem.W.of_hideAll (trk h H) e;refine⟨e',?_⟩
 cases q:H b with
 | none=>rfl
 | some x=>
  have hm:b∈trk h H:=List.mem_filter.mpr ⟨Qt.mpr (Heap.lt_size e'),by simp[q]⟩
  have z:(zGO h H).get? b=none:=PySem.W.hideAll_none (trk h H) hm;rw[z] at e;cases e
def zKi(g h:Heap)(L:Addr):List (Addr×Obj):=(List.range h.objs.size).filterMap fun a=>if a=L∨(g.get? a).isSome=true then none else (h.get? a).map fun o=>(a,o)
def rest(g h:Heap)(L d:Addr):List (Addr×Obj):=(zKi g h L).filter fun p=>decide (p.1≠d)
structure Mod (K:PySem.W.Frag) (mg:Str->Option Value) (base:Heap):Prop where
 kin:K.In base
 glob:base.Ns mainGlobals mg
 blt:∃ mb,base.Ns builtinsNs mb/\∀ x:Str,x ≠ "__name__" -> mb x=bootBuiltins x
 nolimit:base.NoLimit
structure Cx where
 prog:Program
 w:World
 K:PySem.W.Frag
 mg:Str->Option Value
 base:Heap
 A:Around
 N:List Str
 s₀:Shared
 H₀:Hp
 env:Env
 outer:List Env
 stack:List Env
 ex:List Addr
 fn:Str->Bool
 calm:Bool
 pn:List (Addr×Obj)
 xe:Value->Shared->Prop
def frs(l:List Env):List Addr:=l.filterMap (·.frame)
abbrev Cx.fs(X:Cx):List Addr:=frs X.outer
def Vis(sc:Scope)(x:Str):Prop:=sc.names.lookup x=some .local∨sc.names.lookup x=some .cell∨sc.names.lookup x=some .free
def Loc(sc:Scope)(x:Str):Prop:=sc.names.lookup x=some .local∨sc.names.lookup x=some .cell
def zPH(env:Env)(h:Heap)(m:Str->Option Value)(x:Str)(u:Value):Prop:=
 (env.kindOf x=some .local/\m x=some u)∨((env.kindOf x=some .cell∨env.kindOf x=some .free)/\∃ c,env.cells.lookup x=some c/\h.IsCell c (some u))
structure Cx.Ok (X:Cx):Prop where
 mod:Mod X.K X.mg X.base
 kind:X.env.scope.kind=.function
 glob:X.env.globals=mainGlobals
 blt:X.env.builtins=builtinsNs
 above:X.s₀.heap.objs.size<=X.env.locals
 inj:∀ x y c,X.env.cells.lookup x=some c->X.env.cells.lookup y=some c->x=y
 has:∀ x,(X.env.kindOf x=some .cell∨X.env.kindOf x=some .free)->∃ c,X.env.cells.lookup x=some c
 cab:∀ x c,X.fn x=true->X.env.cells.lookup x=some c->X.s₀.heap.objs.size<=c
 hd:X.calm=true->X.A.handled=none
 frames:X.A.frames=some X.stack
 stk:X.stack=X.outer∨(X.stack=X.env::X.outer/\X.env.frame=some X.env.locals)
 exf:∀ b∈X.ex,b≠X.env.locals/\∀ x c,X.env.cells.lookup x=some c->c≠b
 bs:∀ b o,X.base.get? b=some o->X.s₀.heap.get? b=some o/\X.H₀ b=none
 bsz:X.base.objs.size<=X.s₀.heap.objs.size
 noex:∀ b o,X.base.get? b=some o->b∉X.ex
 exfs:∀ b∈X.ex,b∉X.fs
 funs:X.s₀.heap.FunFrames X.base X.outer
 frf:∀ b∈X.fs,X.H₀ b=none
structure Inv (X:Cx) (pins:List (Addr×Obj)) (σ:List (Option V)) (H:Hp) (s:Shared):Prop where
 ok:X.Ok
 os:s.os=X.s₀.os
 bare:AllBare s.gens
 base:Un X.fs X.ex X.H₀ H X.s₀.heap s.heap
 loc:∃ m,s.heap.Ns X.env.locals m/\∀(i:Nat)(x:Str)(v:V),X.N[i]?=some x->σ[i]?=some (some v)->Vis X.env.scope x->∃ u,cO v u/\zPH X.env s.heap m x u
 cell:∀ x c,X.env.cells.lookup x=some c->∃ v,s.heap.IsCell c v
 free:H X.env.locals=none
 freeC:∀ x c,X.env.cells.lookup x=some c->H c=none
 pin:∀ p∈X.pn++pins,s.heap.get? p.1=some p.2/\H p.1=none/\p.1≠X.env.locals/\p.1∉X.fs/\∀ v,p.2.data≠.cell v
 hok:HOk X.prog X.w H s.heap
 len:σ.length=X.N.length
section
variable{X:Cx}{pins:List (Addr×Obj)}{σ:List (Option V)}{H H':Hp}{s:Shared}{h':Heap}
theorem Cx.Ok.nofr(ok:X.Ok){b:Addr}{o:Obj}(e:X.base.get? b=some o):b∉X.fs:=fun hb=>by
 have:=(ok.funs.mem hb).1
 rw[e] at this;cases this
theorem Inv.bs(I:Inv X pins σ H s):∀ b o,X.base.get? b=some o->s.heap.get? b=some o/\H b=none:=fun b o e=>
 ⟨I.base.keep b o (I.ok.bs b o e).1 (I.ok.bs b o e).2 (I.ok.nofr e) (I.ok.noex b o e),I.base.free b o (I.ok.bs b o e).1 (I.ok.bs b o e).2 (I.ok.noex b o e)⟩
theorem Inv.bk(I:Inv X pins σ H s):∀ b o,X.base.get? b=some o->s.heap.get? b=some o:=fun b o e=>(I.bs b o e).1
theorem Inv.mod(I:Inv X pins σ H s):Mod X.K X.mg X.base:=I.ok.mod
theorem Inv.kIn(I:Inv X pins σ H s):X.K.In s.heap:=I.ok.mod.kin.keeps I.bk
theorem Inv.lt(I:Inv X pins σ H s):X.env.locals<s.heap.objs.size:=let ⟨_,hn,_⟩:=I.loc;hn.lt
theorem Inv.sz(I:Inv X pins σ H s):X.s₀.heap.objs.size<=s.heap.objs.size:=Qp I.ok.above (Xs I.lt)
theorem Inv.nofs(I:Inv X pins σ H s){a:Addr}(h:s.heap.objs.size<=a):a∉X.fs:=fun hb=>by
 obtain⟨_,o,ho,_⟩:=I.ok.funs.mem hb;exact absurd (Ql (Heap.lt_size ho) (Qp I.sz h)) (Vm _)
theorem Inv.cne(I:Inv X pins σ H s):∀ x c,X.env.cells.lookup x=some c->c≠X.env.locals:=fun x c e z=>by
 obtain⟨v,o,ho,hd⟩:=I.cell x c e;obtain⟨m,⟨o',es,ep,ho',hd',_⟩,_⟩:=I.loc;rw[z,ho'] at ho;cases ho;rw[hd'] at hd;cases hd
theorem Inv.funs(I:Inv X pins σ H s):s.heap.FunFrames X.base X.outer:=by
 have all:∀(l:List Env),(∀ b∈frs l,b∈X.fs)->X.s₀.heap.FunFrames X.base l->s.heap.FunFrames X.base l:=by
  intro l
  induction l with
  | nil=>intro _ _;trivial
  | cons env r ih=>
   intro hs hl;obtain⟨hk,⟨L,o,hf,hn,ho,hd⟩,hr⟩:=hl;have hL:L∈X.fs:=hs L (by unfold frs;rw[Yv,hf];exact Qe)
   obtain⟨sl,e⟩:=I.base.slot L o ho (I.ok.frf L hL) hL fun z=>I.ok.exfs L z hL
   exact⟨hk,⟨L,_,hf,hn,e,hd⟩,ih (fun b hb=>hs b (by unfold frs;rw[Yv,hf];exact Qd _ hb)) hr⟩
 exact all X.outer (fun _ hb=>hb) I.ok.funs
theorem Inv.stack(I:Inv X pins σ H s):s.heap.FunFrames X.base X.stack:=by
 rcases I.ok.stk with e | ⟨e,hf⟩
 ·rw[e];exact I.funs
 ·rw[e]
  obtain⟨m,hn,_⟩:=I.loc;refine .cons (by rw[I.ok.kind];decide) hf hn ?_ I.funs
  exact Heap.get?_none_of_le (Qp I.ok.bsz I.ok.above)
theorem Inv.stkSub(I:Inv X pins σ H s):∀ b∈frs X.stack,b∈X.env.locals::X.fs:=fun b hb=>by
 rcases I.ok.stk with e | ⟨e,hf⟩
 ·rw[e] at hb;exact Qd _ hb
 ·rw[e] at hb
  unfold frs at hb;rw[Yv,hf] at hb;exact hb
theorem Inv.stkFree(I:Inv X pins σ H s):∀ b∈frs X.stack,H b=none:=fun b hb=>by
 rcases Qc.mp (I.stkSub b hb) with e | hb
 ·rw[e];exact I.free
 ·obtain⟨_,o,ho,_⟩:=I.ok.funs.mem hb
  exact I.base.free b o ho (I.ok.frf b hb) fun z=>I.ok.exfs b z hb
theorem Inv.step{g':Array GenState}{t':Nat}{d':Drawn}{ch:List Addr}(I:Inv X pins σ H s)
  (hch:∀ b∈ch,(b∈X.ex∨X.s₀.heap.objs.size<=b)/\b≠X.env.locals/\(∀ x c,X.env.cells.lookup x=some c->c≠b)/\∀ p∈X.pn++pins,p.1≠b)
  (keep:∀ b o,b≠X.env.locals->b∉X.fs->b∉ch->s.heap.get? b=some o->H b=none->h'.get? b=some o)
  (slot:∀ b o,b≠X.env.locals->b∈X.fs->b∉ch->s.heap.get? b=some o->H b=none->∃ sl,h'.get? b=some { o with slots:=sl }) (free:∀ b o,b∉ch->s.heap.get? b=some o->H b=none->H' b=none)
  (there:∀ b o,b∉ch->s.heap.get? b=some o->∃ o',h'.get? b=some o')
  (tups:∀ b xs,H b=some (.tup xs)->H' b=some (.tup xs)) (frzs:∀ b o u,H b=some (.frz o u)->H' b=some (.frz o u)) (tbls:∀ b ps,H b=some (.tbl ps)->∃ more,H' b=some (.tbl (ps++more)))
  (ns:∀ m,s.heap.Ns X.env.locals m->h'.Ns X.env.locals m) (hok:HOk X.prog X.w H' h') (hg:AllBare g'):
  Inv X pins σ H' { s with heap:=h',gens:=g',drawn:=d',toks:=t' }:=by
 have neL:∀ b o,X.s₀.heap.get? b=some o->b≠X.env.locals:=fun b o e=>Qo (Ql (Heap.lt_size e) I.ok.above)
 have neC:∀ b o,X.s₀.heap.get? b=some o->b∉X.ex->b∉ch:=fun b o e hx hb=>by
  rcases (hch b hb).1 with z | z
  ·exact hx z
  ·exact absurd (Ql (Heap.lt_size e) z) (Vm _)
 have cellK:∀ x c,X.env.cells.lookup x=some c->∀ v,s.heap.IsCell c v->h'.IsCell c v:=fun x c e v ⟨o,ho,hd⟩=>by
  have nch:c∉ch:=fun z=>(hch c z).2.2.1 x c e rfl
  by_cases hc:c∈X.fs
  ·obtain⟨sl,q⟩:=slot c o (I.cne x c e) hc nch ho (I.freeC x c e)
   exact⟨_,q,hd⟩
  ·exact⟨o,keep c o (I.cne x c e) hc nch ho (I.freeC x c e),hd⟩
 refine⟨I.ok,I.os,hg,⟨fun b o e n hb hx=>?_,fun b o e n hb hx=>?_,fun b o e n hx=>?_,fun b o e hx=>?_,fun b xs e=>tups b xs (I.base.tups b xs e),fun b o xs e=>frzs b o xs (I.base.frzs b o xs e),fun b ps e=>?_⟩,?_,fun x c e=>?_,?_,fun x c e=>?_,fun p hp=>?_,hok,I.len⟩
 ·exact keep b o (neL b o e) hb (neC b o e hx) (I.base.keep b o e n hb hx) (I.base.free b o e n hx)
 ·obtain⟨sl,e1⟩:=I.base.slot b o e n hb hx
  obtain⟨sl',e2⟩:=slot b _ (neL b o e) hb (neC b o e hx) e1 (I.base.free b o e n hx);exact⟨sl',e2⟩
 ·obtain⟨o',e1⟩:=I.base.there b o e hx
  exact free b o' (neC b o e hx) e1 (I.base.free b o e n hx)
 ·obtain⟨o',e1⟩:=I.base.there b o e hx
  exact there b o' (neC b o e hx) e1
 ·obtain⟨m1,e1⟩:=I.base.tbls b ps e
  obtain⟨m2,e2⟩:=tbls b _ e1;exact⟨m1++m2,by rw[e2,Array.append_assoc]⟩
 ·obtain⟨m,hn,hl⟩:=I.loc
  refine⟨m,ns m hn,fun i x v e1 e2 e3=>?_⟩
  obtain⟨u,r,l⟩:=hl i x v e1 e2 e3;refine⟨u,r,?_⟩
  rcases l with l | ⟨k,c,e,z⟩
  ·exact .inl l
  ·exact .inr ⟨k,c,e,cellK x c e _ z⟩
 ·obtain⟨v,z⟩:=I.cell x c e
  exact⟨v,cellK x c e v z⟩
 ·obtain⟨m,⟨o,_,_,ho,_⟩,_⟩:=I.loc
  exact free _ o (fun z=>(hch _ z).2.1 rfl) ho I.free
 ·obtain⟨v,o,ho,hd⟩:=I.cell x c e
  exact free c o (fun z=>(hch c z).2.2.1 x c e rfl) ho (I.freeC x c e)
 ·obtain⟨e,n,ne,nf,d⟩:=I.pin p hp
  have nch:p.1∉ch:=fun z=>(hch p.1 z).2.2.2 p hp rfl
  exact⟨keep p.1 p.2 ne nf nch e n,free p.1 p.2 nch e n,ne,nf,d⟩
theorem Inv.un{t':Nat}(I:Inv X pins σ H s)(u:Un X.fs [] H H' s.heap h')(hok:HOk X.prog X.w H' h'):Inv X pins σ H' { s with heap:=h',toks:=t' }:=by
 obtain⟨m,⟨o,es,ep,ho,r⟩,_⟩:=id I.loc;obtain⟨sl,hL⟩:=u.any ho I.free (by simp)
 exact I.step (g':=s.gens) (d':=s.drawn) (ch:=[]) (fun _ z=>nomatch z) (fun b o _ hb _ e n=>u.keep b o e n hb (by simp)) (fun b o _ hb _ e n=>u.slot b o e n hb (by simp)) (fun b o _ e n=>u.free b o e n (by simp)) (fun b o _ e=>u.there b o e (by simp)) u.tups u.frzs u.tbls (fun m' hm=>by
  obtain⟨o',es',ep',ho',r'⟩:=hm;rw[ho] at ho';cases ho'
  exact⟨_,es',ep',hL,r'⟩) hok I.bare
theorem Inv.call{g':Array GenState}{t':Nat}{d':Drawn}{ch:List Addr}(I:Inv X pins σ H s)(u:Un (frs X.stack) ch H H' s.heap h')(hok:HOk X.prog X.w H' h')(hg:AllBare g')
  (hch:∀ b∈ch,(b∈X.ex∨X.s₀.heap.objs.size<=b)/\b≠X.env.locals/\(∀ x c,X.env.cells.lookup x=some c->c≠b)/\∀ p∈X.pn++pins,p.1≠b):
  Inv X pins σ H' { s with heap:=h',gens:=g',drawn:=d',toks:=t' }:=by
 obtain⟨m,⟨o,es,ep,ho,r⟩,_⟩:=id I.loc;obtain⟨sl,hL⟩:=u.any ho I.free fun z=>(hch _ z).2.1 rfl
 exact I.step (ch:=ch) hch (fun b o hL hb hc e n=>u.keep b o e n (fun z=>(Qc.mp (I.stkSub b z)).elim hL hb) hc) (fun b o _ _ hc e n=>u.any e n hc) (fun b o hc e n=>u.free b o e n hc) (fun b o hc e=>u.there b o e hc) u.tups u.frzs u.tbls (fun m' hm=>by
  obtain⟨o',es',ep',ho',r'⟩:=hm;rw[ho] at ho';cases ho'
  exact⟨_,es',ep',hL,r'⟩) hok hg
theorem Inv.turned{t':Nat}{it:Addr}(I:Inv X pins σ H s)(k:∀ b o,b≠it->s.heap.get? b=some o->h'.get? b=some o)(hn:H it=none)(hL:it≠X.env.locals)
  (h1:it∈X.ex∨X.s₀.heap.objs.size<=it) (h2:∀ x c,X.env.cells.lookup x=some c->c≠it) (h3:∀ p∈X.pn++pins,p.1≠it):Inv X pins σ H { s with heap:=h',toks:=t' }:=by
 have nit:∀ b u,H b=some u->b≠it:=fun b u e z=>by rw[z,hn] at e;cases e
 refine I.step (g':=s.gens) (d':=s.drawn) (ch:=[it]) (fun b hb=>?_) (fun b o _ _ hc e _=>k b o (fun z=>hc (by simp[z])) e) (fun b o _ _ hc e _=>⟨o.slots,k b o (fun z=>hc (by simp[z])) e⟩) (fun _ _ _ _ n=>n)
  (fun b o hc e=>⟨o,k b o (fun z=>hc (by simp[z])) e⟩) (fun _ _ e=>e) (fun _ _ _ e=>e) (fun b ps e=>⟨#[],by rw[e];simp⟩) (fun m hm=>?_) (fun b u e=>?_) I.bare
 ·have e:b=it:=by simpa using hb
  subst e;exact⟨h1,hL,h2,h3⟩
 ·obtain⟨o,es,ep,ho,r⟩:=hm
  exact⟨o,es,ep,k _ o (Ne.symm hL) ho,r⟩
 ·refine(I.hok b u e).stay (fun c v hc q=>k c v ?_ q) (fun _ q=>q) fun _ _ q=>q
  rcases hc with z | z
  ·rw[z];exact nit b u e
  ·exact nit c _ z
theorem Inv.tok(I:Inv X pins σ H s)(t:Nat):Inv X pins σ H { s with toks:=t }:=I.un (h':=s.heap) (t':=t) Un.refl I.hok
theorem Inv.kept{t':Nat}(I:Inv X pins σ H s)(k:∀ b u,s.heap.get? b=some u->h'.get? b=some u):Inv X pins σ H { s with heap:=h',toks:=t' }:=I.un (Un.kept k) (I.hok.kept k)
theorem Inv.laid{a:Addr}{o:HO}{t':Nat}(I:Inv X pins σ H s)(k:∀ b u,s.heap.get? b=some u->h'.get? b=some u)(hp:s.heap.objs.size<=a)(new:kE X.prog X.w (upd H a o) h' a o):
  Inv X pins σ (upd H a o) { s with heap:=h',toks:=t' }:=I.un (Un.laid k hp (I.hok.fresh hp)) (I.hok.laid k hp new)
theorem Inv.write{x e:Addr}{o:HO}{t':Nat}(I:Inv X pins σ H s)(mu:Mut (H x))(he:e=x∨H e=some (.own x))(k:∀ b u,b≠e->s.heap.get? b=some u->h'.get? b=some u)(heo:∃ u,h'.get? e=some u)
  (new:kE X.prog X.w (upd H x o) h' x o):Inv X pins σ (upd H x o) { s with heap:=h',toks:=t' }:=I.un (Un.write mu he k heo) (I.hok.write mu he k heo new)
theorem Inv.pins_of{pins':List (Addr×Obj)}(I:Inv X pins σ H s)(h:∀ p∈pins',s.heap.get? p.1=some p.2/\H p.1=none/\p.1≠X.env.locals/\p.1∉X.fs/\∀ v,p.2.data≠.cell v):Inv X pins' σ H s:=
 ⟨I.ok,I.os,I.bare,I.base,I.loc,I.cell,I.free,I.freeC,fun p hp=>(Xe.mp hp).elim (fun z=>I.pin p (Yk _ z)) (h p),I.hok,I.len⟩
theorem zCy{N:List Str}(hN:N.Nodup){i j:Nat}{x:Str}(a:N[i]?=some x)(b:N[j]?=some x):i=j:=by
 obtain⟨h1,e1⟩:=Vd.mp a;obtain⟨h2,e2⟩:=Vd.mp b;exact(List.getElem_inj hN).mp (e1.trans e2.symm)
theorem zEt{M:Model}{A:Around}{E:Value->Shared->Prop}{i:Nat}{x:Str}{v:V}{u:Value}{Q:Unit->Shared->Prop}(I:Inv X pins σ H s)(hN:X.N.Nodup)(hi:X.N[i]?=some x)(hx:Loc X.env.scope x)(r:cO v u)
  (h:∀ s',Inv X pins (σ.set i (some v)) H s'->(∃ a,Heap.SameBut a s.heap s'.heap/\(a=X.env.locals∨X.env.cells.lookup x=some a))->Q () s') (hf:X.fn x=true∨X.env.scope.names.lookup x=some .local:=by first | exact .inl rfl | exact .inr rfl | assumption):wpAny M A (storeName X.env x u) Q E s:=by
 obtain⟨m,hn,hl⟩:=id I.loc;have hcls:(X.env.scope.kind==.class || (X.env.scope.kind==.module && X.env.locals != X.env.globals))=false:=by rw[I.ok.kind];rfl
 have hiσ:i<σ.length:=by rw[I.len];exact(Vd.mp hi).1
 have cne:=I.cne
 have tracked:∀ {a:Addr} {h':Heap},(∃ o,s.heap.get? a=some o/\H a=none)->Heap.SameBut a s.heap h'->HOk X.prog X.w H h':=fun {a h'} ha hs b ob e=>by
  obtain⟨_,_,hfree⟩:=ha;refine(I.hok b ob e).stay (fun c w' hc q=>(hs.2 c ?_).trans q) (fun _ q=>q) fun _ _ q=>q
  rintro rfl
  rcases hc with rfl | hc
  ·rw[hfree] at e;cases e
  ·rw[hfree] at hc;cases hc
 rcases hx with hk | hk
 ·refine wpAny_storeName_local hk hn (fun h' hn' hs=>?_) hcls
  obtain⟨oL,_,_,hoL,_⟩:=id hn;refine h _ ⟨I.ok,I.os,I.bare,⟨fun b o e n hb hx=>?_,fun b o e n hb hx=>?_,I.base.free,fun b o e hx=>?_,I.base.tups,I.base.frzs,I.base.tbls⟩,⟨_,hn',fun j y v' e1 e2 e3=>?_⟩,fun y c e=>?_,I.free,I.freeC,fun p hp=>?_,tracked ⟨oL,hoL,I.free⟩ hs,by simpa using I.len⟩ ⟨_,hs,.inl rfl⟩
  ·exact(hs.2 b (Qo (Ql (Heap.lt_size e) I.ok.above))).trans (I.base.keep b o e n hb hx)
  ·obtain⟨sl,e1⟩:=I.base.slot b o e n hb hx
   exact⟨sl,(hs.2 b (Qo (Ql (Heap.lt_size e) I.ok.above))).trans e1⟩
  ·obtain⟨o',e1⟩:=I.base.there b o e hx
   exact⟨o',(hs.2 b (Qo (Ql (Heap.lt_size e) I.ok.above))).trans e1⟩
  ·by_cases hj:j=i
   ·subst hj
    rw[hi] at e1;cases e1
    rw[Ve hiσ] at e2;cases e2;exact⟨u,r,.inl ⟨hk,by simp⟩⟩
   ·rw[Vf (Ne.symm hj)] at e2
    obtain⟨u',r',q⟩:=hl j y v' e1 e2 e3;refine⟨u',r',?_⟩
    rcases q with⟨k,e⟩ | ⟨k,c,e,z⟩
    ·refine .inl ⟨k,?_⟩
     have:y≠x:=fun e=>hj (zCy hN e1 (e ▸ hi))
     simp[this,e]
    ·exact .inr ⟨k,c,e,z.sameBut hs (cne y c e)⟩
  ·obtain⟨w',z⟩:=I.cell y c e
   exact⟨w',z.sameBut hs (cne y c e)⟩
  ·obtain⟨e,n,ne,nf,d⟩:=I.pin p hp
   exact⟨(hs.2 p.1 ne).trans e,n,ne,nf,d⟩
 ·have hfn:X.fn x=true:=by
   rcases hf with z | z
   ·exact z
   ·rw[z] at hk;cases hk
  obtain⟨c,hc⟩:=I.ok.has x (.inl hk);obtain⟨w',z⟩:=I.cell x c hc;refine wpAny_storeName_cell I.ok.kind hk hc z (fun h' hc' hs=>?_)
  obtain⟨oc,hoc,hocd⟩:=id z;refine h { s with heap:=h' } ⟨I.ok,I.os,I.bare,⟨fun b o e n hb hx=>?_,fun b o e n hb hx=>?_,I.base.free,fun b o e hx=>?_,I.base.tups,I.base.frzs,I.base.tbls⟩,⟨m,hn.sameBut hs (Ne.symm (cne x c hc)),fun j y v' e1 e2 e3=>?_⟩,fun y c' e=>?_,I.free,I.freeC,fun p hp=>?_,tracked ⟨oc,hoc,I.freeC x c hc⟩ hs,by simpa using I.len⟩ ⟨c,hs,.inr hc⟩
  ·exact(hs.2 b (Qo (Ql (Heap.lt_size e) (I.ok.cab x c hfn hc)))).trans (I.base.keep b o e n hb hx)
  ·obtain⟨sl,e1⟩:=I.base.slot b o e n hb hx
   exact⟨sl,(hs.2 b (Qo (Ql (Heap.lt_size e) (I.ok.cab x c hfn hc)))).trans e1⟩
  ·obtain⟨o',e1⟩:=I.base.there b o e hx
   exact⟨o',(hs.2 b (Qo (Ql (Heap.lt_size e) (I.ok.cab x c hfn hc)))).trans e1⟩
  ·by_cases hj:j=i
   ·subst hj
    rw[hi] at e1;cases e1
    rw[Ve hiσ] at e2;cases e2;exact⟨u,r,.inr ⟨.inl hk,c,hc,hc'⟩⟩
   ·rw[Vf (Ne.symm hj)] at e2
    obtain⟨u',r',q⟩:=hl j y v' e1 e2 e3;refine⟨u',r',?_⟩
    rcases q with q | ⟨k,c',e,z'⟩
    ·exact .inl q
    ·refine .inr ⟨k,c',e,z'.sameBut hs ?_⟩
     rintro rfl
     exact hj (zCy hN e1 (I.ok.inj _ _ _ e hc ▸ hi))
  ·by_cases hcc:c'=c
   ·subst hcc;exact⟨_,hc'⟩
   ·obtain⟨w2,z2⟩:=I.cell y c' e
    exact⟨w2,z2.sameBut hs hcc⟩
  ·obtain⟨e,n,ne,nf,d⟩:=I.pin p hp
   refine⟨(hs.2 p.1 ?_).trans e,n,ne,nf,d⟩
   intro q;rw[q,hoc] at e;have q':oc=p.2:=Vc e;exact d w' (by rw[<-q'];exact hocd)
theorem nM{M:Model}{A:Around}{E:Value->Shared->Prop}{i:Nat}{x:Str}{v:V}{u:Value}{Q:Unit->Shared->Prop}(I:Inv X pins σ H s)(hN:X.N.Nodup)(hi:X.N[i]?=some x)(hx:Loc X.env.scope x)(r:cO v u)
  (h:∀ s',Inv X pins (σ.set i (some v)) H s'->Q () s') (hf:X.fn x=true∨X.env.scope.names.lookup x=some .local:=by first | exact .inl rfl | exact .inr rfl | assumption):wpAny M A (storeName X.env x u) Q E s:=
 zEt I hN hi hx r (fun s' I' _=>h s' I') hf
theorem Inv.call'{s':Shared}{ch:List Addr}(I:Inv X pins σ H s)(ho:s'.os=s.os)(u:Un (frs X.stack) ch H H' s.heap s'.heap)(hok:HOk X.prog X.w H' s'.heap)(hg:AllBare s'.gens)
  (hch:∀ b∈ch,(b∈X.ex∨X.s₀.heap.objs.size<=b)/\b≠X.env.locals/\(∀ x c,X.env.cells.lookup x=some c->c≠b)/\∀ p∈X.pn++pins,p.1≠b):Inv X pins σ H' s':=by
 obtain⟨h',g',d',t',o'⟩:=s';have e:o'=s.os:=ho;subst e;exact I.call (g':=g') (t':=t') (d':=d') u hok hg hch
end
abbrev XK:=Value->Option Addr->Hp->Prop
abbrev St:=List (Option V)
abbrev VK:=V->Hp->Prop
abbrev TE:=St->Hp->VK->Prop
abbrev TT:=St->Hp->(Bool->Hp->Prop)->Prop
abbrev TA:=St->Hp->(List V->Hp->Prop)->Prop
structure Ends where
 nx:St->Hp->Prop
 rt:VK
 bk:St->Hp->Prop:=fun _ _=>False
 ct:St->Hp->Prop:=fun _ _=>False
abbrev TS:=Ends->St->Hp->Prop
def EP(X:Cx)(pins:List (Addr×Obj))(σ:St)(Q:VK)(u:Value)(s':Shared):Prop:=∃ v H',Inv X pins σ H' s'/\cO v u/\Q v H'
def TP(X:Cx)(pins:List (Addr×Obj))(σ:St)(Q:Bool->Hp->Prop)(b:Bool)(s':Shared):Prop:=∃ H',Inv X pins σ H' s'/\Q b H'
def AP(X:Cx)(pins:List (Addr×Obj))(σ:St)(Q:List V->Hp->Prop)(us:List Value)(s':Shared):Prop:=∃ vs H',Inv X pins σ H' s'/\dD vs us/\Q vs H'
def SP(X:Cx)(pins:List (Addr×Obj))(D:Ends)(f:Flow)(s':Shared):Prop:=
 match f with
 | .next=>∃ σ' H',Inv X pins σ' H' s'/\D.nx σ' H'
 | .brk=>∃ σ' H',Inv X pins σ' H' s'/\D.bk σ' H'
 | .cont=>∃ σ' H',Inv X pins σ' H' s'/\D.ct σ' H'
 | .ret u=>∃ v σ' H',Inv X pins σ' H' s'/\cO v u/\D.rt v H'
def PE(X:Cx)(e:Expr)(t:TE):Prop:=
 ∀(pins:List (Addr×Obj))(s:Shared)(σ:St)(H:Hp)(Q:VK),Inv X pins σ H s->t σ H Q->wpAny (model X.prog X.w) X.A (eval e X.env) (EP X pins σ Q) X.xe s
def PT(X:Cx)(e:Expr)(t:TT):Prop:=
 ∀(pins:List (Addr×Obj))(s:Shared)(σ:St)(H:Hp)(Q:Bool->Hp->Prop),Inv X pins σ H s->t σ H Q->wpAny (model X.prog X.w) X.A (isTrue e X.env (eval e X.env)) (TP X pins σ Q) X.xe s
def PW(X:Cx)(e:Expr)(t:TT):Prop:=
 ∀(whole:Sem Value)(pins:List (Addr×Obj))(s:Shared)(σ:St)(H:Hp)(Q:Bool->Hp->Prop),Inv X pins σ H s->t σ H Q->wpAny (model X.prog X.w) X.A (isTrue e X.env whole) (TP X pins σ Q) X.xe s
theorem PW.pt{X:Cx}{e:Expr}{t:TT}(h:PW X e t):PT X e t:=h _
def PA(X:Cx)(es:List Expr)(t:TA):Prop:=
 ∀(pos:Pos)(pins:List (Addr×Obj))(s:Shared)(σ:St)(H:Hp)(Q:List V->Hp->Prop),Inv X pins σ H s->t σ H Q->wpAny (model X.prog X.w) X.A (spliced (backTo pos (starEach es X.env))) (AP X pins σ Q) X.xe s
def PS(X:Cx)(st:Stmt)(t:TS):Prop:=
 ∀(pins:List (Addr×Obj))(s:Shared)(σ:St)(H:Hp)(D:Ends),Inv X pins σ H s->t D σ H->wpAny (model X.prog X.w) X.A (exec st X.env) (SP X pins D) X.xe s
def PSs(X:Cx)(st:List Stmt)(t:TS):Prop:=
 ∀(pins:List (Addr×Obj))(s:Shared)(σ:St)(H:Hp)(D:Ends),Inv X pins σ H s->t D σ H->wpAny (model X.prog X.w) X.A (execs st X.env) (SP X pins D) X.xe s
theorem thn{α:Type}{t:Sem α}{Q Q':α->Shared->Prop}{M:Model}{A:Around}{E:Value->Shared->Prop}{s:Shared}(h:wpAny M A t Q E s)(hQ:∀ a s,Q a s->Q' a s):wpAny M A t Q' E s:=wpAny_mono h hQ fun _ _ x=>x
section
variable{X:Cx}
theorem bin{a b:Expr}{ta tb:TE}(ha:PE X a ta)(hb:PE X b tb){pins:List (Addr×Obj)}{s:Shared}{σ:St}{H:Hp}{R:V->V->Hp->Prop}(I:Inv X pins σ H s)(h:ta σ H fun x H1=>tb σ H1 fun y H2=>R x y H2)
  {α:Type} {Q:α->Shared->Prop} {f:Value->Value->Sem α}
  (hf:∀ v u s2 x y H2,Inv X pins σ H2 s2->cO x v->cO y u->R x y H2->wpAny (model X.prog X.w) X.A (f v u) Q X.xe s2):
  wpAny (model X.prog X.w) X.A (eval a X.env) (fun v s₁=>wpAny (model X.prog X.w) X.A (eval b X.env) (fun u s₂=>wpAny (model X.prog X.w) X.A (f v u) Q X.xe s₂) X.xe s₁) X.xe s:=by
 refine thn (ha pins s σ H _ I h) fun v s1 ⟨x,H1,I1,r1,q1⟩=>?_
 refine thn (hb pins s1 σ H1 _ I1 q1) fun u s2 ⟨y,H2,I2,r2,q2⟩=>?_
 exact hf v u s2 x y H2 I2 r1 r2 q2
abbrev zAY(i:Nat):TE:=fun σ H Q=>∃ v,σ[i]?=some (some v)/\Q v H
abbrev tC(v:V):TE:=fun _ H Q=>Q v H
theorem sW{i:Nat}{x:Str}{pos:Pos}(hN:X.N[i]?=some x)(hv:Vis X.env.scope x)(hd:(x==("__debug__" : Str))=false:=by decide)(hcd:(x==("__classdict__" : Str))=false:=by decide):PE X (.Name x pos) (zAY i):=by
 intro pins s σ H Q I h;obtain⟨v,e,h⟩:=h;obtain⟨m,hn,hl⟩:=I.loc;obtain⟨u,r,l⟩:=hl i x v hN e hv;have fin:EP X pins σ Q u s:=⟨v,H,I,r,h⟩;rcases l with⟨hk,hm⟩ | ⟨hk,c,hc,hcell⟩
 ·exact wpAny_Name (wpAny_loadName_local I.ok.kind hk hn hm fin) hd
 ·rcases hk with hk | hk
  ·exact wpAny_Name (wpAny_loadName_cell I.ok.kind hk hc hcell fin) hd
  ·exact wpAny_Name (wpAny_loadName_free I.ok.kind hk hc hcell fin hcd) hd
theorem zEY{i j pos}:PE X (.Constant (.int i) j pos) (tC (.int i)):=fun _ _ _ H _ I h=>wpAny_Constant_int ⟨.int i,H,I.tok _,⟨_,rfl⟩,h⟩
theorem zHu{b j pos}:PE X (.Constant (.bool b) j pos) (tC (.bl b)):=fun _ _ _ H _ I h=>Constant_bool ⟨.bl b,H,I,rfl,h⟩
theorem vA{j pos}:PE X (.Constant .none j pos) (tC .non):=fun _ _ _ H _ I h=>Constant_none ⟨.non,H,I,rfl,h⟩
theorem iA{x j pos}:PE X (.Constant (.str x) j pos) (tC (.str x)):=fun _ _ _ H _ I h=>Calls.Constant_str ⟨.str x,H,I.tok _,⟨_,rfl⟩,h⟩
def Gl(X:Cx)(x:Str):Prop:=X.env.kindOf x=some .globalImplicit
theorem tG{E:Value->Shared->Prop}{pins:List (Addr×Obj)}{s:Shared}{σ:St}{H:Hp}{x:Str}{u:Value}{pos:Pos}{Q:Value->Shared->Prop}(I:Inv X pins σ H s)(hg:Gl X x)(hm:X.mg x=some u)(h:Q u s)
  (hd:(x==("__debug__" : Str))=false:=by decide):wpAny (model X.prog X.w) X.A (eval (.Name x pos) X.env) Q E s:=
 Calls.Name_function_global I.ok.kind hg (Calls.loadGlobal_global (by rw[I.ok.glob];exact I.mod.glob.keeps I.bk) hm h) hd
theorem oH{E:Value->Shared->Prop}{pins:List (Addr×Obj)}{s:Shared}{σ:St}{H:Hp}{x:Str}{u:Value}{pos:Pos}{Q:Value->Shared->Prop}(I:Inv X pins σ H s)(hg:Gl X x)(hm:X.mg x=none)(hv:bootBuiltins x=some u)(h:Q u s)
  (hn:x ≠ "__name__" := by decide) (hd:(x==("__debug__" : Str))=false:=by decide):wpAny (model X.prog X.w) X.A (eval (.Name x pos) X.env) Q E s:=by
 obtain⟨mb,h1,h2⟩:=I.mod.blt;exact Calls.Name_function_global I.ok.kind hg (Calls.loadGlobal_builtin (by rw[I.ok.glob];exact I.mod.glob.keeps I.bk) hm (by rw[I.ok.blt];exact h1.keeps I.bk) ((h2 x hn).trans hv) h) hd
theorem zGp{x:Str}{v:V}{u:Value}{pos:Pos}(hg:Gl X x)(hm:X.mg x=some u)(r:cO v u)(hd:(x==("__debug__" : Str))=false:=by decide):PE X (.Name x pos) (tC v):=
 fun _ _ _ H _ I h=>tG I hg hm ⟨v,H,I,r,h⟩ hd
variable{a b:Expr}{ta tb:TE}{pos:Pos}
def PC(X:Cx)(op:CmpOp)(a b:Expr)(t:TE):Prop:=
 ∀(pins:List (Addr×Obj))(s:Shared)(σ:St)(H:Hp)(Q:VK),Inv X pins σ H s->t σ H Q->
  wpAny (model X.prog X.w) X.A (eval a X.env) (fun v s₁=>wpAny (model X.prog X.w) X.A (eval b X.env) (fun u s₂=>wpAny (model X.prog X.w) X.A (compareOp op v u) (EP X pins σ Q) X.xe s₂) X.xe s₁) X.xe s
theorem zHy(b:Expr){op:CmpOp}(h:op≠.In)(h2:op≠.NotIn):behindInMarks op b=false:=by
 have e1:(op==CmpOp.In)=false:=by cases op<;>first | rfl | exact absurd rfl h
 have e2:(op==CmpOp.NotIn)=false:=by cases op<;>first | rfl | exact absurd rfl h2
 cases b<;>simp[behindInMarks,e1,e2]
abbrev tB(t:TE):TT:=fun σ H Q=>t σ H fun x H1=>∃ c,x=.bl c/\Q c H1
theorem zOM{op:CmpOp}{t:TE}(h:PC X op a b t)(h1:behindInMarks op b=false:=by first | exact zHy _ (by decide) (by decide) | rfl):PT X (.Compare a [op] [b] pos) (tB t):=by
 intro pins s σ H Q I hw;refine wpAny_isTrue_Compare1 (thn (h pins s σ H _ I hw) fun v s1 h1=>thn h1 fun u s2 h2=>thn h2 fun c s3 ⟨x,H1,I1,r1,q1⟩=>?_) h1
 obtain⟨d,rfl,q⟩:=q1;cases r1;exact wpAny_truthy_bool ⟨H1,I1,q⟩
theorem zMY{e:Expr}{t:TE}(h:PE X e t)(he:∀ whole,isTrue e X.env whole=(do let v <-whole;standAt e.pos;holding [v] (truthy v)):=by intro _;rfl):PT X e (tB t):=by
 intro pins s σ H Q I hw;refine isTrue_plain (thn (h pins s σ H _ I hw) fun v s1 ⟨x,H1,I1,r1,q1⟩=>?_) (he _)
 obtain⟨d,rfl,q⟩:=q1;cases r1;exact wpAny_truthy_bool ⟨H1,I1,q⟩
variable{tA tB':TT}{rest:List Expr}
abbrev zPL(t u:TT):TT:=fun σ H Q=>t σ H fun c H1=>if c=true then u σ H1 Q else Q false H1
abbrev tOr(t u:TT):TT:=fun σ H Q=>t σ H fun c H1=>if c=true then Q true H1 else u σ H1 Q
abbrev zPz(t:TT):TT:=fun σ H Q=>t σ H fun c H1=>Q (!c) H1
theorem zJp(ha:PT X a tA):PW X (.BoolOp .And [a] pos) tA:=by
 intro wh pins s σ H Q I h;refine isTrue_and (thn (ha pins s σ H Q I h) fun c s1 e=>?_)
 cases c with
 | true=>exact isTrue_and_nil e
 | false=>exact e
theorem zLQ(ha:PT X a tA):PW X (.BoolOp .Or [a] pos) tA:=by
 intro wh pins s σ H Q I h;refine isTrue_or (thn (ha pins s σ H Q I h) fun c s1 e=>?_)
 cases c with
 | false=>exact isTrue_or_nil e
 | true=>exact e
theorem zNq(ha:PT X a tA)(hb:PW X (.BoolOp .And (b::rest) pos) tB'):PW X (.BoolOp .And (a::b::rest) pos) (zPL tA tB'):=by
 intro wh pins s σ H Q I h;refine isTrue_and (thn (ha pins s σ H _ I h) fun c s1 ⟨H1,I1,q1⟩=>?_)
 cases c with
 | true=>exact hb wh pins s1 σ H1 Q I1 q1
 | false=>exact⟨H1,I1,q1⟩
theorem zOt(ha:PT X a tA)(hb:PW X (.BoolOp .Or (b::rest) pos) tB'):PW X (.BoolOp .Or (a::b::rest) pos) (tOr tA tB'):=by
 intro wh pins s σ H Q I h;refine isTrue_or (thn (ha pins s σ H _ I h) fun c s1 ⟨H1,I1,q1⟩=>?_)
 cases c with
 | true=>exact⟨H1,I1,q1⟩
 | false=>exact hb wh pins s1 σ H1 Q I1 q1
theorem zMV(ha:PT X a tA):PT X (.UnaryOp .Not a pos) (zPz tA):=by
 intro pins s σ H Q I h;exact isTrue_not (ha pins s σ H (fun c H1=>Q (!c) H1) I h)
abbrev zOj(ta tb:TE):TE:=fun σ H Q=>ta σ H fun x H1=>∃ c,x=.bl c/\if c=true then tb σ H1 Q else Q (.bl false) H1
abbrev zPk(ta tb:TE):TE:=fun σ H Q=>ta σ H fun x H1=>∃ c,x=.bl c/\if c=true then Q (.bl true) H1 else tb σ H1 Q
theorem zLS{op}{t:TE}(h:PE X a t):PE X (.BoolOp op [a] pos) t:=fun pins s σ H Q I hw=>BoolOp_one (h pins s σ H Q I hw)
theorem zMu(ha:PE X a ta)(hb:PE X (.BoolOp .And (b::rest) pos) tb):PE X (.BoolOp .And (a::b::rest) pos) (zOj ta tb):=by
 intro pins s σ H Q I h;refine BoolOp_and (thn (ha pins s σ H _ I h) fun v s1 ⟨x,H1,I1,r1,q1⟩=>?_)
 obtain⟨c,rfl,q1⟩:=q1;cases r1;refine wpAny_truthy_bool ?_
 cases c with
 | true=>exact hb pins s1 σ H1 Q I1 q1
 | false=>exact⟨.bl false,H1,I1,rfl,q1⟩
theorem zNI(ha:PE X a ta)(hb:PE X (.BoolOp .Or (b::rest) pos) tb):PE X (.BoolOp .Or (a::b::rest) pos) (zPk ta tb):=by
 intro pins s σ H Q I h;refine BoolOp_or (thn (ha pins s σ H _ I h) fun v s1 ⟨x,H1,I1,r1,q1⟩=>?_)
 obtain⟨c,rfl,q1⟩:=q1;cases r1;refine wpAny_truthy_bool ?_
 cases c with
 | false=>exact hb pins s1 σ H1 Q I1 q1
 | true=>exact⟨.bl true,H1,I1,rfl,q1⟩
abbrev tIf(t:TT)(ta tb:TE):TE:=fun σ H Q=>t σ H fun c H1=>if c=true then ta σ H1 Q else tb σ H1 Q
theorem zHM{c:Expr}(hc:PT X c tA)(ha:PE X a ta)(hb:PE X b tb):PE X (.IfExp c a b pos) (tIf tA ta tb):=by
 intro pins s σ H Q I h;refine wpAny_IfExp (thn (hc pins s σ H _ I h) fun d s1 ⟨H1,I1,q1⟩=>?_)
 cases d with
 | true=>exact ha pins s1 σ H1 Q I1 q1
 | false=>exact hb pins s1 σ H1 Q I1 q1
end
def SqL(K:PySem.W.Frag)(H:Hp)(a:Addr)(xs:List V):Prop:=
 Rd H a (.lst xs)∨
  ∃(o:Obj)(its:Array Value)(n:Nat),K.lookup a=some o/\o.cls=.type "list" /\ o.dict=none/\o.data=.seq its n/\its.size<=sizeLine/\dD xs its.toList
def SqT(K:PySem.W.Frag)(H:Hp)(a:Addr)(xs:List V):Prop:=
 Rd H a (.tup xs)∨
  ∃(o:Obj)(its:Array Value)(n:Nat),K.lookup a=some o/\o.cls=.type "tuple" /\ o.data=.seq its n/\its.size<=sizeLine/\dD xs its.toList
def zPM:Value->Option V
 | .none=>some .non
 | .bool b=>some (.bl b)
 | .int i _=>some (.int i)
 | .str x _=>some (.str x)
 | .bytes b _=>some (.byt b)
 | .float b _=>some (.flt b)
 | .ref a=>some (.ref a)
 | .type n=>some (.ty n)
 | _=>none
theorem cO.abs{x:V}{u:Value}(r:cO x u):zPM u=some x:=by
 cases x with
 | non=>cases r;rfl
 | bl _=>cases r;rfl
 | int _=>obtain⟨t,rfl⟩:=r;rfl
 | str _=>obtain⟨t,rfl⟩:=r;rfl
 | byt _=>obtain⟨t,rfl⟩:=r;rfl
 | flt _=>obtain⟨t,rfl⟩:=r;rfl
 | ref _=>cases r;rfl
 | ty _=>cases r;rfl
theorem cO.inj{x y:V}{u:Value}(r:cO x u)(q:cO y u):x=y:=Vc (r.abs.symm.trans q.abs)
theorem dD.inj:∀ {xs ys:List V} {us:List Value},dD xs us->dD ys us->xs=ys
 | _,_,_,.nil,.nil=>rfl
 | _,_,_,.cons r t,.cons r' t'=>by rw[r.inj r',dD.inj t t']
section
variable{X:Cx}{pins:List (Addr×Obj)}{σ:St}{H:Hp}{s:Shared}{a:Addr}{xs ys:List V}
theorem SqL.of{K:Fg_}(h:H a=some (.lst xs)):SqL K H a xs:=.inl (.inl h)
theorem SqT.of{K:Fg_}(h:H a=some (.tup xs)):SqT K H a xs:=.inl (.inl h)
theorem Inv.list(I:Inv X pins σ H s)(h:SqL X.K H a xs):∃ its:List Value,dD xs its/\PlainL s.heap a its.toArray/\xs.length<=sizeLine:=by
 rcases h with h | ⟨o,its,n,hk,hc,hd,hs,hz,r⟩
 ·obtain⟨z,its,n,r,e⟩:=h.ok I.hok
  exact⟨its,r,⟨_,n,e,rfl,rfl,rfl⟩,z⟩
 ·refine⟨its.toList,r,⟨o,n,I.kIn a o hk,hc,hd,by simpa using hs⟩,?_⟩
  have e:=r.length;simp only[Xf] at e;omega
theorem Inv.tuple(I:Inv X pins σ H s)(h:SqT X.K H a xs):∃ its:List Value,dD xs its/\IsTup s.heap a its.toArray/\xs.length<=sizeLine:=by
 rcases h with h | ⟨o,its,n,hk,hc,hs,hz,r⟩
 ·obtain⟨z,its,r,p⟩:=h.ok I.hok
  exact⟨its,r,p,z⟩
 ·refine⟨its.toList,r,⟨o,I.kIn a o hk,hc,n,by simpa using hs⟩,?_⟩
  have e:=r.length;simp only[Xf] at e;omega
theorem Inv.list_inj(I:Inv X pins σ H s)(h:SqL X.K H a xs)(h':SqL X.K H a ys):xs=ys:=by
 obtain⟨its,r,⟨o,n,e,_,_,d⟩,_⟩:=I.list h;obtain⟨its',r',⟨o',n',e',_,_,d'⟩,_⟩:=I.list h';rw[e] at e';cases e'
 rw[d] at d';injection d' with d1 _
 have:its=its':=by simpa using congrArg Array.toList d1
 subst this;exact r.inj r'
theorem Inv.tuple_inj(I:Inv X pins σ H s)(h:SqT X.K H a xs)(h':SqT X.K H a ys):xs=ys:=by
 obtain⟨its,r,⟨o,e,_,n,d⟩,_⟩:=I.tuple h;obtain⟨its',r',⟨o',e',_,n',d'⟩,_⟩:=I.tuple h';rw[e] at e';cases e'
 rw[d] at d';injection d' with d1 _
 have:its=its':=by simpa using congrArg Array.toList d1
 subst this;exact r.inj r'
end
abbrev Cx.wish(X:Cx)(E:Value->Shared->Prop):Cx:={ X with xe:=E }
abbrev Cx.nox(X:Cx):Cx:=X.wish fun _ _=>False
theorem Cx.Ok.wish{X:Cx}(ok:X.Ok)(E:Value->Shared->Prop):(X.wish E).Ok:=
 ⟨ok.mod,ok.kind,ok.glob,ok.blt,ok.above,ok.inj,ok.has,ok.cab,ok.hd,ok.frames,ok.stk,ok.exf,ok.bs,ok.bsz,ok.noex,ok.exfs,ok.funs,ok.frf⟩
theorem Cx.Ok.unwish{X:Cx}{E:Value->Shared->Prop}(ok:(X.wish E).Ok):X.Ok:=
 ⟨ok.mod,ok.kind,ok.glob,ok.blt,ok.above,ok.inj,ok.has,ok.cab,ok.hd,ok.frames,ok.stk,ok.exf,ok.bs,ok.bsz,ok.noex,ok.exfs,ok.funs,ok.frf⟩
section
variable{X:Cx}{pins:List (Addr×Obj)}{σ:St}{H:Hp}{s:Shared}{E:Value->Shared->Prop}
theorem Inv.wish(I:Inv X pins σ H s)(E:Value->Shared->Prop):Inv (X.wish E) pins σ H s:=⟨I.ok.wish E,I.os,I.bare,I.base,I.loc,I.cell,I.free,I.freeC,I.pin,I.hok,I.len⟩
theorem Inv.unwish(I:Inv (X.wish E) pins σ H s):Inv X pins σ H s:=⟨I.ok.unwish,I.os,I.bare,I.base,I.loc,I.cell,I.free,I.freeC,I.pin,I.hok,I.len⟩
end
section
variable{X:Cx}{st:Stmt}{rest:List Stmt}{t u:TS}{e:Expr}{te:TE}{pos:Pos}
abbrev zOh:TS:=fun D σ H=>D.nx σ H
abbrev zOA(t u:TS):TS:=fun D σ H=>t { D with nx:=u D } σ H
theorem zJP:PSs X [] zOh:=fun _ _ σ H _ I h=>wpAny_execs_nil ⟨σ,H,I,h⟩
theorem rD(h1:PS X st t)(h2:PSs X rest u):PSs X (st::rest) (zOA t u):=by
 intro pins s σ H D I h;refine wpAny_execs_cons (thn (h1 pins s σ H { D with nx:=u D } I h) fun f s1 q=>?_)
 cases f with
 | next=>
  obtain⟨σ',H',I',q⟩:=q;exact h2 pins s1 σ' H' D I' q
 | ret v=>exact q
 | brk=>exact q
 | cont=>exact q
theorem zBZ(h1:PS X st t):PSs X [st] t:=by
 intro pins s σ H D I h;refine wpAny_execs_cons (thn (h1 pins s σ H D I h) fun f s1 q=>?_)
 cases f with
 | next=>exact wpAny_execs_nil q
 | ret v=>exact q
 | brk=>exact q
 | cont=>exact q
theorem Inv.quiet{pins:List (Addr×Obj)}{σ:St}{H:Hp}{s:Shared}(I:Inv X pins σ H s):interactive X.env=false:=by simp[interactive,I.ok.kind]
abbrev zNJ(te:TE):TS:=fun D σ H=>te σ H fun _ H1=>D.nx σ H1
theorem xI(he:PE X e te)(hs:swapsWith e none pos.line X.env=pure false:=by rfl):PS X (.Expr e pos) (zNJ te):=by
 intro pins s σ H D I h;exact wpAny_Expr_any (thn (he pins s σ H _ I h) fun v s1 ⟨x,H1,I1,r1,q1⟩=>⟨σ,H1,I1,q1⟩) I.quiet hs
abbrev zOS(te:TE):TS:=fun D σ H=>te σ H D.rt
theorem zCE(he:PE X e te):PS X (.Return (some e) pos) (zOS te):=by
 intro pins s σ H D I h;exact wpAny_Return_some (thn (he pins s σ H _ I h) fun v s1 ⟨x,H1,I1,r1,q1⟩=>⟨x,σ,H1,I1,r1,q1⟩)
abbrev zPA(c:TT)(t u:TS):TS:=fun D σ H=>c σ H fun b H1=>if b=true then t D σ H1 else u D σ H1
theorem zOg{c:Expr}{a b:List Stmt}{tc:TT}(hc:PT X c tc)(ha:PSs X a t)(hb:PSs X b u):PS X (.If c a b pos) (zPA tc t u):=by
 intro pins s σ H D I h;refine wpAny_If (thn (hc pins s σ H _ I h) fun d s1 ⟨H1,I1,q1⟩=>?_)
 cases d with
 | true=>exact ha pins s1 σ H1 D I1 q1
 | false=>exact hb pins s1 σ H1 D I1 q1
end
abbrev TG:=V->St->Hp->(St->Hp->Prop)->Prop
abbrev TGs:=List V->St->Hp->(St->Hp->Prop)->Prop
def PG(X:Cx)(target:Expr)(t:TG):Prop:=
 ∀(pins:List (Addr×Obj))(s:Shared)(σ:St)(H:Hp)(v:V)(u:Value)(Q:St->Hp->Prop),Inv X pins σ H s->cO v u->t v σ H Q->
  wpAny (model X.prog X.w) X.A (assign target X.env u) (fun _ s'=>∃ σ' H',Inv X pins σ' H' s'/\Q σ' H') X.xe s
def PGs(X:Cx)(ts:List Expr)(t:TGs):Prop:=
 ∀(pins:List (Addr×Obj))(s:Shared)(σ:St)(H:Hp)(vs:List V)(us:List Value)(Q:St->Hp->Prop),Inv X pins σ H s->dD vs us->t vs σ H Q->
  wpAny (model X.prog X.w) X.A (assignInOrder ((assignEach ts X.env).map (·.2)) us) (fun _ s'=>∃ σ' H',Inv X pins σ' H' s'/\Q σ' H') X.xe s
abbrev zOa:=V->V->V->Hp->(Hp->Prop)->Prop
def zOU(X:Cx)(t:zOa):Prop:=
 ∀(pins:List (Addr×Obj))(s:Shared)(σ:St)(H:Hp)(o i v:V)(ov iv u:Value)(Q:Hp->Prop),Inv X pins σ H s->cO o ov->cO i iv->cO v u->t o i v H Q->
  wpAny (model X.prog X.w) X.A (setItem ov iv u) (fun _ s'=>∃ H',Inv X pins σ H' s'/\Q H') X.xe s
abbrev TIp:=V->V->Hp->VK->Prop
def PIp(X:Cx)(op:Operator)(t:TIp):Prop:=
 ∀(pins:List (Addr×Obj))(s:Shared)(σ:St)(H:Hp)(x y:V)(v u:Value)(Q:VK),Inv X pins σ H s->cO x v->cO y u->t x y H Q->
  wpAny (model X.prog X.w) X.A (inplaceOp op v u) (EP X pins σ Q) X.xe s
section
variable{X:Cx}{pos:Pos}
abbrev gName(i:Nat):TG:=fun v σ H Q=>Q (σ.set i (some v)) H
theorem zBK{i:Nat}{x:Str}(hN:X.N.Nodup)(hi:X.N[i]?=some x)(hx:Loc X.env.scope x)(hf:X.fn x=true∨X.env.scope.names.lookup x=some .local:=by first | exact .inl rfl | exact .inr rfl | assumption):PG X (.Name x pos) (gName i):=by
 intro pins s σ H v u Q I r h;exact wpAny_assign_Name (nM I hN hi hx r (fun s' I'=>⟨_,H,I',h⟩) hf)
def zBm:TGs:=fun vs σ H Q=>vs=[]/\Q σ H
def gB(t:TG)(u:TGs):TGs:=fun vs σ H Q=>∃ v r,vs=v::r/\t v σ H fun σ' H'=>u r σ' H' Q
theorem zEu:PGs X [] zBm:=by
 intro pins s σ H vs us Q I r h;obtain⟨e,h⟩:=h;subst e;cases r;exact assignInOrder_nil ⟨σ,H,I,h⟩
theorem xP{e:Expr}{es:List Expr}{t:TG}{u:TGs}(h1:PG X e t)(h2:PGs X es u)
  (hs:(assignEach (e::es) X.env).map (·.2)=assign e X.env::(assignEach es X.env).map (·.2):=by rfl):PGs X (e::es) (gB t u):=by
 intro pins s σ H vs us Q I r h;obtain⟨v,vr,e1,h⟩:=h;subst e1
 cases r with
 | cons r rr=>
  rw[hs];refine assignInOrder_cons (thn (h1 pins s σ H _ _ _ I r h) fun _ s1 ⟨σ1,H1,I1,q1⟩=>?_)
  exact h2 pins s1 σ1 H1 _ _ Q I1 rr q1
def zBb(K:PySem.W.Frag)(n:Nat)(t:TGs):TG:=fun v σ H Q=>∃ a xs,v=.ref a/\SqT K H a xs/\xs.length=n/\t xs σ H Q
theorem zIG{es:List Expr}{k:Nat}{t:TGs}{n:Nat}(hc:X.calm=true)(h:PGs X es t)
  (hn:(assignEach es X.env).length=n:=by rfl) (hst:(assignEach es X.env).findIdx? (·.1)=none:=by rfl):PG X (.Tuple es k pos) (zBb X.K n t):=by
 intro pins s σ H v u Q I r hw;obtain⟨a,xs,e1,hq,hl,hw⟩:=hw;subst e1;cases r;obtain⟨its,rv,ht,hz⟩:=I.tuple hq;refine assign_Tuple_tuple (I.ok.hd hc) ht (by simp[hn,<-hl,rv.length]) hst fun h' hx=>?_
 have I1:Inv X pins σ H { s with heap:=h' }:=I.kept (t':=s.toks) fun b o e=>hx b o (Qo (Heap.lt_size e)) e
 exact h pins _ σ H xs _ Q I1 (by simpa using rv) hw
def zPx(to ti:TE)(t:zOa):TG:=fun v σ H Q=>to σ H fun o H1=>ti σ H1 fun i H2=>t o i v H2 fun H3=>Q σ H3
theorem zLH{o i:Expr}{to ti:TE}{t:zOa}(ho:PE X o to)(hi:PE X i ti)(hs:zOU X t)
  (ha:∀ v,assign (.Subscript o i pos) X.env v=(do
   let ov <-holding [v] (eval o X.env)
   let iv <-holding [v,ov] (eval i X.env)
   standAt pos
   holding [v,ov,iv] (setItem ov iv v)
   release [v,ov,iv] []):=by intro _;rfl):PG X (.Subscript o i pos) (zPx to ti t):=by
 intro pins s σ H v u Q I r h;rw[ha];refine wpAny_bind (wpAny_holding (thn (ho pins s σ H _ I h) fun ov s1 ⟨x,H1,I1,r1,q1⟩=>?_))
 refine wpAny_bind (wpAny_holding (thn (hi pins s1 σ H1 _ I1 q1) fun iv s2 ⟨y,H2,I2,r2,q2⟩=>?_))
 refine wpAny_bind (wpAny_standAt (wpAny_bind (wpAny_holding (thn (hs pins s2 σ H2 x y v ov iv u _ I2 r1 r2 r q2) fun _ s3 ⟨H3,I3,q3⟩=>?_))))
 exact wpAny_release ⟨σ,H3,I3,q3⟩
abbrev zOI(te:TE)(g:TG):TS:=fun D σ H=>te σ H fun x H1=>g x σ H1 D.nx
theorem zMX{tg e:Expr}{te:TE}{g:TG}(he:PE X e te)(hg:PG X tg g)(hs:swapsWithSole [tg] e pos.line X.env=pure false:=by rfl)(hw:swappedStores [tg] e X.env=pure none:=by rfl)
  (h1:(assignEach [tg] X.env).map (·.2)=[assign tg X.env]:=by rfl):PS X (.Assign [tg] e pos) (zOI te g):=by
 intro pins s σ H D I h;refine wpAny_Assign_stores (thn (he pins s σ H _ I h) fun v s1 ⟨x,H1,I1,r1,q1⟩=>?_) hs hw
 rw[h1];exact thn (hg pins s1 σ H1 x v _ I1 r1 q1) fun _ s2 q=>q
theorem zIi{i:Nat}{x:Str}{e:Expr}{te:TE}{pos':Pos}(hN:X.N.Nodup)(hi:X.N[i]?=some x)(hx:Loc X.env.scope x)(he:PE X e te)(hs:swapsWith e (some (.Name x pos')) pos.line X.env=pure false:=by rfl)(hf:X.fn x=true∨X.env.scope.names.lookup x=some .local:=by first | exact .inl rfl | exact .inr rfl | assumption):
  PS X (.Assign [.Name x pos'] e pos) (zOI te (gName i)):=by
 intro pins s σ H D I h;refine wpAny_Assign_Name (thn (he pins s σ H _ I h) fun v s1 ⟨y,H1,I1,r1,q1⟩=>?_) hs
 exact nM I1 hN hi hx r1 (fun s2 I2=>⟨_,H1,I2,q1⟩) hf
abbrev zPK(i:Nat)(te:TE)(ti:TIp):TS:=fun D σ H=>∃ x,σ[i]?=some (some x)/\te σ H fun y H1=>ti x y H1 fun z H2=>D.nx (σ.set i (some z)) H2
theorem zLo{i:Nat}{x:Str}{e:Expr}{te:TE}{op:Operator}{ti:TIp}{pos':Pos}(hN:X.N.Nodup)(hi:X.N[i]?=some x)(hx:Loc X.env.scope x)(he:PE X e te)(ho:PIp X op ti)(hf:X.fn x=true∨X.env.scope.names.lookup x=some .local:=by first | exact .inl rfl | exact .inr rfl | assumption):
  PS X (.AugAssign (.Name x pos') op e pos) (zPK i te ti):=by
 intro pins s σ H D I h;obtain⟨v,e1,h⟩:=h;obtain⟨m,hn,hl⟩:=I.loc;have vis:Vis X.env.scope x:=by rcases hx with k | k;exact .inl k;exact .inr (.inl k)
 obtain⟨u,r,l⟩:=hl i x v hi e1 vis;refine wpAny_AugAssign_Name ?_
 have go:wpAny (model X.prog X.w) X.A (eval e X.env) (fun w s₂=>wpAny (model X.prog X.w) X.A (inplaceOp op u w) (fun r s₃=>wpAny (model X.prog X.w) X.A (storeName X.env x r) (fun _=>SP X pins D .next) X.xe s₃) X.xe s₂) X.xe s:=by
  refine thn (he pins s σ H _ I h) fun w s1 ⟨y,H1,I1,r1,q1⟩=>?_
  refine thn (ho pins s1 σ H1 v y u w _ I1 r r1 q1) fun z s2 ⟨zv,H2,I2,r2,q2⟩=>?_
  exact nM I2 hN hi hx r2 (fun s3 I3=>⟨_,H2,I3,q2⟩) hf
 rcases l with⟨hk,hm⟩ | ⟨hk,c,hc,hcell⟩
 ·exact wpAny_loadName_local I.ok.kind hk hn hm go
 ·rcases hk with hk | hk
  ·exact wpAny_loadName_cell I.ok.kind hk hc hcell go
  ·rcases hx with k | k
   ·have:X.env.scope.names.lookup x=some .free:=hk
    rw[k] at this;cases this
   ·have:X.env.scope.names.lookup x=some .free:=hk
    rw[k] at this;cases this
def ipI(f:Int->Int->Int):TIp:=fun x y H Q=>∃ i j,x=.int i/\y=.int j/\Q (.int (f i j)) H
theorem zMJ:PIp X .Sub (ipI fun i j=>i-j):=by
 intro pins s σ H x y v u Q I r1 r2 h;obtain⟨i,j,e1,e2,q⟩:=h;subst e1;subst e2
 obtain⟨t,rfl⟩:=r1;obtain⟨t',rfl⟩:=r2;exact isub_int ⟨.int _,H,I.tok _,⟨_,rfl⟩,q⟩
end
section
variable{X:Cx}{pos:Pos}
def zLF(c:TT)(tb:TS):TS:=fun D σ H=>∃ W:Nat->St->Hp->Prop,(∃ m,W m σ H)/\∀ m σ H,W m σ H->
 c σ H fun b H1=>if b=true then ∃ N:St->Hp->Prop,(∀ σ' H',N σ' H'->∃ m',m' < m/\W m' σ' H')/\tb { D with nx:=N,ct:=N,bk:=D.nx } σ H1 else D.nx σ H1
theorem zHQ{c:Expr}{body:List Stmt}{tc:TT}{tb:TS}(hp:PassesOwn (model X.prog X.w) X.A X.env X.xe)(hc:PT X c tc)(hb:PSs X body tb):PS X (.While c body [] pos) (zLF tc tb):=by
 intro pins s σ H D I h;obtain⟨W,⟨m0,w0⟩,turn⟩:=h;refine wpAny_While (codeAny_whileLoop (fun n s'=>∃ σ' H',Inv X pins σ' H' s'/\W n σ' H') ?_ m0 ⟨σ,H,I,w0⟩)
 rintro n s1 ⟨σ1,H1,I1,w1⟩
 refine wpAny_passesOwn hp (thn (hc pins s1 σ1 H1 _ I1 (turn n σ1 H1 w1)) fun b s2 ⟨H2,I2,q2⟩=>?_)
 cases b with
 | true=>
  obtain⟨N,hN,q2⟩:=q2;rw[if_pos rfl];refine wpAny_passesOwn hp (thn (hb pins s2 σ1 H2 _ I2 q2) fun f s3 q3=>?_)
  cases f with
  | next=>
   obtain⟨σ3,H3,I3,n3⟩:=q3;obtain⟨m',hm,w3⟩:=hN σ3 H3 n3;exact⟨m',hm,σ3,H3,I3,w3⟩
  | cont=>
   obtain⟨σ3,H3,I3,n3⟩:=q3;obtain⟨m',hm,w3⟩:=hN σ3 H3 n3;exact⟨m',hm,σ3,H3,I3,w3⟩
  | brk=>exact q3
  | ret v=>exact q3
 | false=>
  rw[if_neg X3];exact wpAny_execs_nil ⟨σ1,H2,I2,q2⟩
end
structure It where
 go:Nat->Hp->Prop
 yld:Nat->Hp->V->Hp->Prop
 stop:Nat->Hp->Prop
def qS(X:Cx)(pins:List (Addr×Obj))(H:Hp)(b:Addr):Prop:=
 H b=none/\b≠X.env.locals/\b∉X.fs/\(b∈X.ex∨X.s₀.heap.objs.size<=b)/\(∀ x c,X.env.cells.lookup x=some c->c≠b)/\∀ p∈X.pn++pins,p.1≠b
theorem Inv.fpOk{X:Cx}{pins:List (Addr×Obj)}{σ:St}{H H':Hp}{s:Shared}{b:Addr}(I:Inv X pins σ H s)(hb:s.heap.objs.size<=b)(hn:H' b=none):qS X pins H' b:=by
 refine⟨hn,X4 (Ql I.lt hb),I.nofs hb,.inr (Qp I.sz hb),fun x c e z=>?_,fun p hp z=>?_⟩
 ·obtain⟨v,q⟩:=I.cell x c e
  exact absurd (Ql q.lt (by rw[z];exact hb)) (Vm _)
 ·exact absurd (Ql (Heap.lt_size (I.pin p hp).1) (by rw[z];exact hb)) (Vm _)
structure Turn (P:Program) (w:World) (K:PySem.W.Frag) (tg:Expr) (J:It) (fp:List Addr) (it:Addr) (tn:Nat->Heap->Prop):Prop where
 mem:it∈fp
 obj:∀ i h,tn i h->∀ b∈fp,∃ o,h.get? b=some o/\∀ v,o.data≠.cell v
 keep:∀ i h h',tn i h->(∀ b∈fp,∀ o,h.get? b=some o->h'.get? b=some o)->tn i h'
 item:∀(X:Cx),X.prog=P->X.w=w->X.K=K->X.calm=true->∀(i:Nat)(pins:List (Addr×Obj))(s:Shared)(σ:St)(H:Hp)(E:Value->Shared->Prop),Inv X pins σ H s->(∀ b∈fp,qS X pins H b)->tn i s.heap->J.go i H->
  wpAny (model P w) X.A (pyNext (.ref it)) (fun r s1=>∃ u,r=some u/\
   wpAny (model P w) X.A (letOwnedTupleGo tg (.ref it) u) (fun _ s2=>∃ x H',Inv X pins σ H' s2/\cO x u/\J.yld i H x H'/\tn (i+1) s2.heap/\∀ b∈fp,H' b=none) E s1) E s
 done:∀(X:Cx),X.prog=P->X.w=w->X.K=K->X.calm=true->∀(i:Nat)(pins:List (Addr×Obj))(s:Shared)(σ:St)(H:Hp)(E:Value->Shared->Prop),Inv X pins σ H s->(∀ b∈fp,qS X pins H b)->tn i s.heap->J.stop i H->
  wpAny (model P w) X.A (pyNext (.ref it)) (fun r s1=>r=none/\Inv X pins σ H s1) E s
 self:∀(A:Around)(i:Nat)(s:Shared)(Q:Value->Shared->Prop)(E:Value->Shared->Prop),tn i s.heap->Q (.ref it) s->wpAny (model P w) A (pyIter (.ref it)) Q E s
abbrev TI:=St->Hp->(It->Hp->Prop)->Prop
def PIE(X:Cx)(pins:List (Addr×Obj))(σ:St)(tg:Expr)(R:It->Hp->Prop)(itv:Value)(s2:Shared):Prop:=
 ∃(it:Addr)(fp:List Addr)(tn:Nat->Heap->Prop)(J:It)(H':Hp),itv=.ref it/\Inv X pins σ H' s2/\Turn X.prog X.w X.K tg J fp it tn/\tn 0 s2.heap/\(∀ b∈fp,qS X pins H' b)/\R J H'
def PI(X:Cx)(tg iter:Expr)(wi:TI):Prop:=
 ∀(pins:List (Addr×Obj))(s:Shared)(σ:St)(H:Hp)(R:It->Hp->Prop),Inv X pins σ H s->wi σ H R->
  wpAny (model X.prog X.w) X.A (eval iter X.env) (fun v s1=>wpAny (model X.prog X.w) X.A (pyIter v) (PIE X pins σ tg R) X.xe s1) X.xe s
theorem zJO{M:Model}{A:Around}{E:Value->Shared->Prop}{s:Shared}{tg:Expr}{it:Addr}{u:Value}{o:Obj}{n:String}{vs:Array Value}{Q:Unit->Shared->Prop}(ho:s.heap.get? it=some o)(hc:o.cls=.type n)(hd:o.data=.fields vs)
    (hn:["enumerate","zip","dict_itemiterator","dict_reverseitemiterator","odict_iterator","itertools.zip_longest","itertools.pairwise"].contains n=false) (hQ:Q () s):wpAny M A (letOwnedTupleGo tg (.ref it) u) Q E s:=by
  unfold letOwnedTupleGo
  cases tg<;>first
    | exact wpAny_pure hQ
    | (cases u<;>first
        | exact wpAny_pure hQ
        | (refine wpAny_bind (wpAny_load ho ?_)
           rw[hc,hd];show wpAny M A (if (["enumerate","zip","dict_itemiterator","dict_reverseitemiterator","odict_iterator","itertools.zip_longest","itertools.pairwise"].contains n && vs[0]?==some (rawInt _))=true then _ else _) Q E s
           rw[if_neg (by intro h;rw[hn,Bool.false_and] at h;cases h)]
           exact wpAny_pure hQ))
def Itl(K:PySem.W.Frag)(a:Addr):It:=
 ⟨fun i H=>∃ xs x,SqL K H a xs/\xs[i]?=some x,fun i H x H'=>H'=H/\∀ xs,SqL K H a xs->xs[i]?=some x,fun i H=>∃ xs,SqL K H a xs/\xs.length<=i⟩
def Itt(K:PySem.W.Frag)(a:Addr):It:=
 ⟨fun i H=>∃ xs x,SqT K H a xs/\xs[i]?=some x,fun i H x H'=>H'=H/\∀ xs,SqT K H a xs->xs[i]?=some x,fun i H=>∃ xs,SqT K H a xs/\xs.length<=i⟩
def Itr(lo:Int)(n:Nat):It:=⟨fun i _=>i<n,fun i H x H'=>H'=H/\x=.int (lo+i),fun i _=>n<=i⟩
theorem zAw{P:Program}{w:World}{K:Fg_}{tg:Expr}(a it:Addr):Turn P w K tg (Itl K a) [it] it (fun i h=>h.IsListIter it a i) where
 mem:=by simp
 obj:=fun i h st b hb=>by
  have e:b=it:=by simpa using hb
  subst e;obtain⟨o,e,c,d⟩:=st;exact⟨o,e,fun v z=>by rw[d] at z;cases z⟩
 keep:=fun i h h' st k=>st.at fun o e=>k it (by simp) o e
 item:=by
  intro X hP hw hK hc i pins s σ H E I hf st hg;subst hP hw hK;obtain⟨xs,x,hq,hx⟩:=hg;obtain⟨its,rv,p,hz⟩:=I.list hq;obtain⟨u,hu,ru⟩:=rv.get hx;obtain⟨f0,f1,f2,f3,f4,f5⟩:=hf it (by simp)
  refine wpAny_pyNext_list_item st p.isList (x:=u) (by simpa using hu) fun h' st' sb=>?_
  have I1:Inv X pins σ H { s with heap:=h' }:=I.turned (t':=s.toks) (fun b o hb e=>(sb.2 b hb).trans e) f0 f1 f3 f4 f5
  obtain⟨o,e,c,d⟩:=id st';exact⟨u,rfl,zJO (s:={ s with heap:=h' }) e c d (by decide) ⟨x,H,I1,ru,⟨rfl,fun ys hy=>by rw[I.list_inj hy hq];exact hx⟩,st',fun b hb=>(hf b hb).1⟩⟩
 done:=by
  intro X hP hw hK hc i pins s σ H E I hf st hg;subst hP hw hK;obtain⟨xs,hq,hx⟩:=hg;obtain⟨its,rv,p,hz⟩:=I.list hq;obtain⟨f0,f1,f2,f3,f4,f5⟩:=hf it (by simp)
  have hl:=rv.length;exact wpAny_pyNext_list_end (I.ok.hd hc) st p.isList (by simp;omega) fun h' eb=>⟨rfl,I.turned (t':=s.toks) (fun b o hb e=>eb b o hb e) f0 f1 f3 f4 f5⟩
 self:=fun _ _ _ _ _ st h=>wpAny_pyIter_listiter st h
theorem zDp{P:Program}{w:World}{K:Fg_}{tg:Expr}(a it:Addr):Turn P w K tg (Itt K a) [it] it (fun i h=>h.IsTupleIter it a i) where
 mem:=by simp
 obj:=fun i h st b hb=>by
  have e:b=it:=by simpa using hb
  subst e;obtain⟨o,e,c,d⟩:=st;exact⟨o,e,fun v z=>by rw[d] at z;cases z⟩
 keep:=fun i h h' st k=>st.at fun o e=>k it (by simp) o e
 item:=by
  intro X hP hw hK hc i pins s σ H E I hf st hg;subst hP hw hK;obtain⟨xs,x,hq,hx⟩:=hg;obtain⟨its,rv,p,hz⟩:=I.tuple hq;obtain⟨u,hu,ru⟩:=rv.get hx;obtain⟨f0,f1,f2,f3,f4,f5⟩:=hf it (by simp)
  refine wpAny_pyNext_tuple_item st (show s.heap.IsTuple a its.toArray from p) (x:=u) (by simpa using hu) fun h' st' sb=>?_
  have I1:Inv X pins σ H { s with heap:=h' }:=I.turned (t':=s.toks) (fun b o hb e=>(sb.2 b hb).trans e) f0 f1 f3 f4 f5
  obtain⟨o,e,c,d⟩:=id st';exact⟨u,rfl,zJO (s:={ s with heap:=h' }) e c d (by decide) ⟨x,H,I1,ru,⟨rfl,fun ys hy=>by rw[I.tuple_inj hy hq];exact hx⟩,st',fun b hb=>(hf b hb).1⟩⟩
 done:=by
  intro X hP hw hK hc i pins s σ H E I hf st hg;subst hP hw hK;obtain⟨xs,hq,hx⟩:=hg;obtain⟨its,rv,p,hz⟩:=I.tuple hq;obtain⟨f0,f1,f2,f3,f4,f5⟩:=hf it (by simp)
  have hl:=rv.length;exact wpAny_pyNext_tuple_end (I.ok.hd hc) st (show s.heap.IsTuple a its.toArray from p) (by simp;omega) fun h' eb=>⟨rfl,I.turned (t':=s.toks) (fun b o hb e=>eb b o hb e) f0 f1 f3 f4 f5⟩
 self:=fun _ _ _ _ _ st h=>wpAny_pyIter_tupleiter st h
theorem zDK{P:Program}{w:World}{K:Fg_}{tg:Expr}(it:Addr)(lo:Int)(n:Nat):Turn P w K tg (Itr lo n) [it] it (fun i h=>IsRangeIter h it (lo+(i:Nat)*1) ((n:Int)-(i:Nat)) 1) where
 mem:=by simp
 obj:=fun i h st b hb=>by
  have e:b=it:=by simpa using hb
  subst e
  exact⟨_,st,fun v z=>by
   have z':Data.fields _=Data.cell v:=z
   cases z'⟩
 keep:=fun i h h' st k=>k it (by simp) _ st
 item:=by
  intro X hP hw hK hc i pins s σ H E I hf st hg;subst hP hw hK;obtain⟨f0,f1,f2,f3,f4,f5⟩:=hf it (by simp)
  have W:=Walks.range (prog:=X.prog) (w:=X.w) (I.ok.hd hc) it lo 1 n;refine W.item i s _ _ hg st fun v h' tk hv st' kk=>?_
  obtain⟨t,rfl⟩:=hv;have I1:Inv X pins σ H { s with heap:=h',toks:=tk }:=I.turned (fun b o hb e=>kk b o (by simpa using hb) e) f0 f1 f3 f4 f5
  refine⟨_,rfl,zJO (s:={ s with heap:=h',toks:=tk }) (n := "range_iterator") st' rfl rfl (by decide) ⟨.int (lo+i),H,I1,⟨t,?_⟩,⟨rfl,rfl⟩,st',fun b hb=>(hf b hb).1⟩⟩
  rw[Vq]
 done:=by
  intro X hP hw hK hc i pins s σ H E I hf st hg;subst hP hw hK;obtain⟨f0,f1,f2,f3,f4,f5⟩:=hf it (by simp)
  exact wpAny_pyNext_range_end (I.ok.hd hc) st (by have:n<=i:=hg;omega) fun h' eb=>⟨rfl,I.turned (t':=s.toks) (fun b o hb e=>eb b o hb e) f0 f1 f3 f4 f5⟩
 self:=fun _ _ _ _ _ st h=>wpAny_pyIter_rangeiter st h
section
variable{X:Cx}{tg:Expr}
abbrev zOk(K:PySem.W.Frag)(tl:TE):TI:=fun σ H R=>tl σ H fun x H1=>∃ a,x=.ref a/\(∃ xs,SqL K H1 a xs)/\R (Itl K a) H1
theorem zJR{l:Expr}{tl:TE}(hl:PE X l tl):PI X tg l (zOk X.K tl):=by
 intro pins s σ H R I h;refine thn (hl pins s σ H _ I h) fun v s1 ⟨x,H1,I1,r1,q1⟩=>?_
 obtain⟨a,e,⟨xs,hq⟩,q⟩:=q1;subst e;cases r1;obtain⟨its,rv,p,hz⟩:=I1.list hq;refine wpAny_pyIter_list p.isList ?_
 refine⟨s1.heap.objs.size,[s1.heap.objs.size],_,_,H1,rfl,I1.kept (t':=s1.toks) fun b o e=>Heap.get?_push_of_some _ e,zAw a _,⟨_,Heap.get?_push_size _ rfl,rfl,rfl⟩,fun b hb=>?_,q⟩
 have e:b=s1.heap.objs.size:=by simpa using hb
 subst e;exact I1.fpOk (Qb _) (I1.hok.fresh (Qb _))
theorem zCa{pins:List (Addr×Obj)}{σ:St}{H:Hp}{s:Shared}{R:It->Hp->Prop}{E:Value->Shared->Prop}{lo hi:Int}{t u v:Tok}{tk:Nat}(I:Inv X pins σ H s)(h1:-(2^62)<=lo)(h2:lo<2^62)(h3:-(2^62)<=hi)(h4:hi<2^62)
  (q:R (Itr lo (hi-lo).toNat) H):wpAny (model X.prog X.w) X.A (pyIter (.ref s.heap.objs.size)) (PIE X pins σ tg R) E { s with heap:=s.heap.push { cls:=.type "range", data:=.fields #[.int lo t,.int hi u,.int 1 v] },toks:=tk }:=by
 refine wpAny_pyIter_range (IsRange.new ..) (small_one h1 h2 h3 h4) ?_
 have I1:Inv X pins σ H { s with heap:=s.heap.push { cls:=.type "range", data:=.fields #[.int lo t,.int hi u,.int 1 v] },toks:=tk }:=I.kept fun b o e=>Heap.get?_push_of_some _ e
 refine⟨(s.heap.push { cls:=.type "range", data:=.fields #[.int lo t,.int hi u,.int 1 v] }).objs.size,[(s.heap.push { cls:=.type "range", data:=.fields #[.int lo t,.int hi u,.int 1 v] }).objs.size],_,_,H,rfl,
  I1.kept (t':=tk) fun b o e=>Heap.get?_push_of_some _ e,zDK _ lo (hi-lo).toNat,?_,fun b hb=>?_,q⟩
 ·have e1:lo+((0:Nat):Int)*1=lo:=by simp
  have e2:(((hi-lo).toNat:Nat):Int)-((0:Nat):Int)=Builtin.Range.rangeSize lo hi 1:=by rw[rangeSize_one];split<;>omega
  show IsRangeIter _ _ (lo+((0:Nat):Int)*1) ((((hi-lo).toNat:Nat):Int)-((0:Nat):Int)) 1
  rw[e1,e2];exact Heap.get?_push_size _ rfl
 ·have e:b=(s.heap.push { cls:=.type "range", data:=.fields #[.int lo t,.int hi u,.int 1 v] }).objs.size:=by simpa using hb
  subst e;exact I1.fpOk (Qb _) (I1.hok.fresh (Qb _))
abbrev zJ(ta:TA):TI:=fun σ H R=>ta σ H fun vs H1=>∃ j:Int,vs=[.int j]/\-(2^62)<=j/\j<2^62/\R (Itr 0 j.toNat) H1
abbrev zEl(ta:TA):TI:=fun σ H R=>ta σ H fun vs H1=>∃ i j:Int,vs=[.int i,.int j]/\(-(2^62)<=i/\i<2^62/\-(2^62)<=j/\j<2^62)/\R (Itr i (j-i).toNat) H1
theorem zFR{a:Expr}{ta:TA}{p pos:Pos}(hg:Gl X "range")(hm:X.mg "range" = none)(ha:PA X [a] ta)(hs:starEach [a] X.env=[(false,eval a X.env)]:=by rfl):PI X tg (.Call (.Name "range" p) [a] [] pos) (zJ ta):=by
 intro pins s σ H R I h;refine Call_ (oH I hg hm boot_range (X5 (thn (ha pos pins s σ H _ I h) fun us s1 ⟨vs,H1,I1,r1,q1⟩=>?_) hs rfl))
 obtain⟨j,e,q1,q2,q⟩:=q1;subst e
 cases r1 with
 | cons r rr=>
  cases rr;obtain⟨t,rfl⟩:=r;exact call_range_1 (zCa I1 (by omega) (by omega) q1 q2 (by simpa using q))
theorem zEw{a b:Expr}{ta:TA}{p pos:Pos}(hg:Gl X "range")(hm:X.mg "range" = none)(ha:PA X [a,b] ta)(hs:starEach [a,b] X.env=[(false,eval a X.env),(false,eval b X.env)]:=by rfl)(hs2:starEach [b] X.env=[(false,eval b X.env)]:=by rfl):
  PI X tg (.Call (.Name "range" p) [a,b] [] pos) (zEl ta):=by
 intro pins s σ H R I h;refine Call_ (oH I hg hm boot_range (X5 (thn (ha pos pins s σ H _ I h) fun us s1 ⟨vs,H1,I1,r1,q1⟩=>?_) (by rw[hs,hs2]) (by rw[hs2];rfl)))
 obtain⟨i,j,e,⟨q1,q2,q3,q4⟩,q⟩:=q1;subst e
 cases r1 with
 | cons r rr=>
  cases rr with
  | cons r' rr=>
   cases rr;obtain⟨t,rfl⟩:=r;obtain⟨t',rfl⟩:=r';exact call_range_2 (zCa I1 q1 q2 q3 q4 q)
abbrev zON(wi:TI)(g:TG)(tb:TS):TS:=fun D σ H=>wi σ H fun J H1=>∃ W:Nat->Nat->St->Hp->Prop,(∃ m,W 0 m σ H1)/\∀ i m σ H,W i m σ H->
 (J.stop i H/\D.nx σ H)∨(J.go i H/\∃ N:St->Hp->Prop,(∀ σ' H',N σ' H'->∃ m',m' < m/\W (i+1) m' σ' H')/\∀ x H',J.yld i H x H'->g x σ H' fun σ2 H2=>tb { D with nx:=N,ct:=N,bk:=D.nx } σ2 H2)
def sU(fp:List Addr)(h:Heap):List (Addr×Obj):=fp.filterMap fun b=>(h.get? b).map fun o=>(b,o)
theorem eE{fp:List Addr}{h:Heap}{b:Addr}{o:Obj}(hb:b∈fp)(e:h.get? b=some o):(b,o)∈sU fp h:=Ud.mpr ⟨b,hb,by rw[e];rfl⟩
theorem zGe{fp:List Addr}{h:Heap}{p:Addr×Obj}(hp:p∈sU fp h):p.1∈fp/\h.get? p.1=some p.2:=by
 obtain⟨b,hb,e⟩:=Ud.mp hp
 cases q:h.get? b with
 | none=>rw[q] at e;cases e
 | some o=>
  rw[q] at e;have e':(b,o)=p:=Vc e;subst e';exact⟨hb,q⟩
theorem Inv.pinned{pins:List (Addr×Obj)}{σ:St}{H:Hp}{s:Shared}{fp:List Addr}(I:Inv X pins σ H s)(hf:∀ b∈fp,qS X pins H b)(ho:∀ b∈fp,∃ o,s.heap.get? b=some o/\∀ v,o.data≠.cell v):Inv X (pins++sU fp s.heap) σ H s:=
 I.pins_of fun p hp=>(Xe.mp hp).elim (fun z=>I.pin p (Qu _ z)) fun z=>by
  obtain⟨hb,e⟩:=zGe z;obtain⟨f0,f1,f2,_⟩:=hf p.1 hb;obtain⟨o,e',d⟩:=ho p.1 hb;rw[e] at e';cases e'
  exact⟨e,f0,f1,f2,d⟩
theorem Inv.unpinned{pins pl:List (Addr×Obj)}{σ:St}{H:Hp}{s:Shared}(I:Inv X (pins++pl) σ H s):Inv X pins σ H s:=I.pins_of fun p hp=>I.pin p (Qu _ (Yk _ hp))
theorem zIq{iter:Expr}{body:List Stmt}{wi:TI}{g:TG}{tb:TS}{pos:Pos}(hp:PassesOwn (model X.prog X.w) X.A X.env X.xe)(hc:X.calm=true)(hi:PI X tg iter wi)(hg:PG X tg g)(hb:PSs X body tb)
  (hs:∀ x,foldedSetIterable iter X.env x=pure x:=by intro _;rfl):PS X (.For tg iter body [] pos) (zON wi g tb):=by
 intro pins s σ H D I h;refine wpAny_For (thn (hi pins s σ H _ I h) fun v s1 h1=>thn h1 fun itv s2 h2=>?_) hs
 obtain⟨it,fp,tn,J,H2,e,I2,T,st2,f2,W,⟨m0,w0⟩,turn⟩:=h2;subst e;have stat:∀ {H':Hp},(∀ b∈fp,H' b=none)->∀ b∈fp,qS X pins H' b:=fun hn b hb=>⟨hn b hb,(f2 b hb).2⟩
 refine codeAny_forLoop_any (fun n s'=>∃ i σ' H',Inv X pins σ' H' s'/\tn i s'.heap/\(∀ b∈fp,H' b=none)/\W i n σ' H') ?_ m0 ⟨0,σ,H2,I2,st2,fun b hb=>(f2 b hb).1,w0⟩
 rintro n s3 ⟨i,σ3,H3,I3,st3,fr3,w3⟩
 rcases turn i n σ3 H3 w3 with⟨stop,qn⟩ | ⟨go,N,hN,step⟩
 ·refine wpAny_passesOwn hp (thn (T.done X rfl rfl rfl hc i pins s3 σ3 H3 X.xe I3 (stat fr3) st3 stop) fun r s4 ⟨hr,I4⟩=>?_)
  subst hr;exact wpAny_execs_nil ⟨σ3,H3,I4,qn⟩
 ·refine wpAny_passesOwn hp (thn (T.item X rfl rfl rfl hc i pins s3 σ3 H3 X.xe I3 (stat fr3) st3 go) fun r s4 ⟨u,hr,h4⟩=>?_)
  subst hr;refine wpAny_passesOwn hp (thn h4 fun _ s5 ⟨x,H5,I5,r5,y5,st5,fr5⟩=>?_)
  have I5':=I5.pinned (stat fr5) (T.obj _ _ st5);refine wpAny_passesOwn hp (thn (hg _ s5 σ3 H5 x u _ I5' r5 (step x H5 y5)) fun _ s6 ⟨σ6,H6,I6,q6⟩=>?_)
  refine wpAny_passesOwn hp (thn (hb _ s6 σ6 H6 _ I6 q6) fun f s7 q7=>?_)
  have again:∀ {σ7:St} {H7:Hp},Inv X (pins++sU fp s5.heap) σ7 H7 s7->N σ7 H7->∃ m,m<n/\∃ i σ' H',Inv X pins σ' H' s7/\tn i s7.heap/\(∀ b∈fp,H' b=none)/\W i m σ' H':=fun {σ7 H7} I7 n7=>by
   obtain⟨m',hm,w7⟩:=hN σ7 H7 n7;refine⟨m',hm,i+1,σ7,H7,I7.unpinned,T.keep _ _ _ st5 fun b hb o e=>(I7.pin (b,o) (Qu _ (Qu _ (eE hb e)))).1,fun b hb=>?_,w7⟩
   obtain⟨o,e,d⟩:=T.obj _ _ st5 b hb;exact(I7.pin (b,o) (Qu _ (Qu _ (eE hb e)))).2.1
  cases f with
  | next=>obtain⟨σ7,H7,I7,n7⟩:=q7;exact again I7 n7
  | cont=>obtain⟨σ7,H7,I7,n7⟩:=q7;exact again I7 n7
  | brk=>obtain⟨σ7,H7,I7,q7⟩:=q7;exact⟨σ7,H7,I7.unpinned,q7⟩
  | ret v=>obtain⟨x7,σ7,H7,I7,r7,q7⟩:=q7;exact⟨x7,σ7,H7,I7.unpinned,r7,q7⟩
end
abbrev R2:=V->V->Hp->VK->Prop
def OpR(X:Cx)(f:Value->Value->Sem Value)(r:R2):Prop:=
 ∀(pins:List (Addr×Obj))(s:Shared)(σ:St)(H:Hp)(x y:V)(v u:Value)(Q:VK),Inv X pins σ H s->cO x v->cO y u->r x y H Q->
  wpAny (model X.prog X.w) X.A (f v u) (EP X pins σ Q) X.xe s
def UnR(X:Cx)(f:Value->Sem Value)(r:V->Hp->VK->Prop):Prop:=
 ∀(pins:List (Addr×Obj))(s:Shared)(σ:St)(H:Hp)(x:V)(v:Value)(Q:VK),Inv X pins σ H s->cO x v->r x H Q->
  wpAny (model X.prog X.w) X.A (f v) (EP X pins σ Q) X.xe s
def uO(X:Cx)(f:Value)(r:List V->Hp->VK->Prop):Prop:=
 ∀(pins:List (Addr×Obj))(s:Shared)(σ:St)(H:Hp)(xs:List V)(us:List Value)(Q:VK),Inv X pins σ H s->dD xs us->r xs H Q->
  wpAny (model X.prog X.w) X.A (call f us) (EP X pins σ Q) X.xe s
abbrev tOp(r:R2)(ta tb:TE):TE:=fun σ H Q=>ta σ H fun x H1=>tb σ H1 fun y H2=>r x y H2 Q
abbrev tUn(r:V->Hp->VK->Prop)(ta:TE):TE:=fun σ H Q=>ta σ H fun x H1=>r x H1 Q
def rI(C:Int->Int->Prop)(g:Int->Int->V):R2:=fun x y H Q=>∃ i j,x=.int i/\y=.int j/\C i j/\Q (g i j) H
def rI0(g:Int->Int->V):R2:=fun x y H Q=>∃ i j,x=.int i/\y=.int j/\Q (g i j) H
def rU(g:Int->V):V->Hp->VK->Prop:=fun x H Q=>∃ i,x=.int i/\Q (g i) H
section
variable{X:Cx}{a b c:Expr}{ta tb tc:TE}{pos:Pos}
theorem zOl(ha:PE X a ta)(hb:PE X b tb){pins:List (Addr×Obj)}{s:Shared}{σ:St}{H:Hp}{R:V->V->Hp->Prop}(I:Inv X pins σ H s)
  (h:ta σ H fun x H1=>tb σ H1 fun y H2=>R x y H2) {Q:Value->Shared->Prop} {f:Value->Value->Sem Value}
  (hf:∀ v u s2 x y H2,Inv X pins σ H2 s2->cO x v->cO y u->R x y H2->wpAny (model X.prog X.w) X.A (f v u) Q X.xe s2):
  wpAny (model X.prog X.w) X.A (eval a X.env) (fun v s₁=>wpAny (model X.prog X.w) X.A (eval b X.env) (fun u s₂=>wpAny (model X.prog X.w) X.A (f v u) Q X.xe s₂) X.xe s₁) X.xe s:=by
 refine thn (ha pins s σ H _ I h) fun v s1 ⟨x,H1,I1,r1,q1⟩=>?_
 refine thn (hb pins s1 σ H1 _ I1 q1) fun u s2 ⟨y,H2,I2,r2,q2⟩=>?_
 exact hf v u s2 x y H2 I2 r1 r2 q2
theorem zV{op:Operator}{r:R2}(ho:OpR X (binaryOp op) r)(ha:PE X a ta)(hb:PE X b tb):PE X (.BinOp a op b pos) (tOp r ta tb):=by
 intro pins s σ H Q I h;exact wpAny_BinOp (zOl ha hb I h fun v u s2 x y H2 I2 rx ry q=>ho pins s2 σ H2 x y v u Q I2 rx ry q)
theorem zNQ{op:UnaryOp}{r:V->Hp->VK->Prop}(ho:UnR X (unaryOp op) r)(ha:PE X a ta):PE X (.UnaryOp op a pos) (tUn r ta):=by
 intro pins s σ H Q I h;exact UnaryOp_ (thn (ha pins s σ H _ I h) fun v s1 ⟨x,H1,I1,r1,q1⟩=>ho pins s1 σ H1 x v Q I1 r1 q1)
theorem opI{f:Value->Value->Sem Value}{C:Int->Int->Prop}{g:Int->Int->Int}
  (rule:∀(i j:Int)(t u:Tok)(s:Shared)(Q:Value->Shared->Prop)(E:Value->Shared->Prop),C i j->Q (.int (g i j) s.toks) { s with toks:=s.toks+1 }->wpAny (model X.prog X.w) X.A (f (.int i t) (.int j u)) Q E s):
  OpR X f (rI C fun i j=>.int (g i j)):=by
 intro pins s σ H x y v u Q I rx ry h;obtain⟨i,j,rfl,rfl,hc,q⟩:=h;obtain⟨t,rfl⟩:=rx;obtain⟨t',rfl⟩:=ry;exact rule i j t t' s _ _ hc ⟨.int (g i j),H,I.tok _,⟨_,rfl⟩,q⟩
theorem zOV{f:Value->Value->Sem Value}{g:Int->Int->Int}
  (rule:∀(i j:Int)(t u:Tok)(s:Shared)(Q:Value->Shared->Prop)(E:Value->Shared->Prop),Q (.int (g i j) s.toks) { s with toks:=s.toks+1 }->wpAny (model X.prog X.w) X.A (f (.int i t) (.int j u)) Q E s):
  OpR X f (rI0 fun i j=>.int (g i j)):=by
 intro pins s σ H x y v u Q I rx ry h;obtain⟨i,j,rfl,rfl,q⟩:=h;obtain⟨t,rfl⟩:=rx;obtain⟨t',rfl⟩:=ry;exact rule i j t t' s _ _ ⟨.int (g i j),H,I.tok _,⟨_,rfl⟩,q⟩
theorem zNU{f:Value->Value->Sem Value}{g:Int->Int->Bool}
  (rule:∀(i j:Int)(t u:Tok)(s:Shared)(Q:Value->Shared->Prop)(E:Value->Shared->Prop),Q (.bool (g i j)) s->wpAny (model X.prog X.w) X.A (f (.int i t) (.int j u)) Q E s):
  OpR X f (rI0 fun i j=>.bl (g i j)):=by
 intro pins s σ H x y v u Q I rx ry h;obtain⟨i,j,rfl,rfl,q⟩:=h;obtain⟨t,rfl⟩:=rx;obtain⟨t',rfl⟩:=ry;exact rule i j t t' s _ _ ⟨.bl (g i j),H,I,rfl,q⟩
def zNz(i j:Int):Prop:=(-(2^64)<i/\i<2^64)∨(-(2^64)<j/\j<2^64)
theorem zNz.ok{i j:Int}(h:zNz i j):IntMulOk i j:=by
 rcases h with⟨h1,h2⟩ | ⟨h1,h2⟩
 ·exact .of_left (intBits_le_64 h1 h2)
 ·exact .of_right (intBits_le_64 h1 h2)
theorem zNu:OpR X (binaryOp .Add) (rI0 fun i j=>.int (i+j)):=zOV fun _ _ _ _ _ _ _ q=>add_int q
theorem zCq:OpR X (binaryOp .Sub) (rI0 fun i j=>.int (i-j)):=zOV fun _ _ _ _ _ _ _ q=>sub_int q
theorem bD:OpR X (binaryOp .Mod) (rI (fun _ j=>j≠0) fun i j=>.int (i.fmod j)):=opI fun _ _ _ _ _ _ _ hc q=>mod_int' hc q
theorem unI{f:Value->Sem Value}{g:Int->Int}
  (rule:∀(i:Int)(t:Tok)(s:Shared)(Q:Value->Shared->Prop)(E:Value->Shared->Prop),Q (.int (g i) s.toks) { s with toks:=s.toks+1 }->wpAny (model X.prog X.w) X.A (f (.int i t)) Q E s):
  UnR X f (rU fun i=>.int (g i)):=by
 intro pins s σ H x v Q I rx h;obtain⟨i,rfl,q⟩:=h;obtain⟨t,rfl⟩:=rx;exact rule i t s _ _ ⟨.int (g i),H,I.tok _,⟨_,rfl⟩,q⟩
theorem zNf:UnR X (unaryOp .USub) (rU fun i=>.int (-i)):=unI fun _ _ _ _ _ q=>neg_int q
end
section
variable{X:Cx}{a b c:Expr}{ta tb tc:TE}{pos:Pos}
theorem zLB{pins:List (Addr×Obj)}{σ:St}{H:Hp}{s:Shared}{Q:VK}{k k':Bool}(I:Inv X pins σ H s)(q:Q (.bl k) H)(e:k=k'):EP X pins σ Q (.bool k') s:=by
 subst e;exact⟨.bl k,H,I,rfl,q⟩
theorem tM:OpR X (compareOp .Lt) (rI0 fun i j=>.bl (decide (i<j))):=zNU fun _ _ _ _ _ _ _ q=>lt_int q
theorem wF:OpR X (compareOp .Gt) (rI0 fun i j=>.bl (decide (j<i))):=zNU fun _ _ _ _ _ _ _ q=>gt_int q
theorem zOd:OpR X (compareOp .GtE) (rI0 fun i j=>.bl (decide (j<=i))):=zNU fun _ _ _ _ _ _ _ q=>ge_int q
theorem zJe:OpR X (compareOp .IsNot) (fun x y H Q=>y=.non/\Q (.bl (!decide (x=.non))) H):=by
 intro pins s σ H x y v u Q I rx ry h;obtain⟨rfl,q⟩:=h;cases ry;refine isnot_none_gen (zLB I q ?_)
 cases x<;>first
  | (cases rx;rfl)
  | (obtain⟨t,rfl⟩:=rx;rfl)
theorem OpR.or{f:Value->Value->Sem Value}{r r':R2}(h:OpR X f r)(h':OpR X f r'):OpR X f (fun x y H Q=>r x y H Q∨r' x y H Q):=by
 intro pins s σ H x y v u Q I rx ry q;rcases q with q | q
 ·exact h pins s σ H x y v u Q I rx ry q
 ·exact h' pins s σ H x y v u Q I rx ry q
theorem aZ(b:Expr){op:CmpOp}(h:op≠.In:=by decide)(h2:op≠.NotIn:=by decide):behindInMarks op b=false:=by
 have e1:(op==CmpOp.In)=false:=by cases op<;>first | rfl | exact absurd rfl h
 have e2:(op==CmpOp.NotIn)=false:=by cases op<;>first | rfl | exact absurd rfl h2
 cases b<;>simp[behindInMarks,e1,e2]
theorem zKc{op:CmpOp}{r:R2}(ho:OpR X (compareOp op) r)(ha:PE X a ta)(hb:PE X b tb)(hm:behindInMarks op b=false):PE X (.Compare a [op] [b] pos) (tOp r ta tb):=by
 intro pins s σ H Q I h;exact wpAny_Compare1 (zOl ha hb I h fun v u s2 x y H2 I2 rx ry q=>ho pins s2 σ H2 x y v u Q I2 rx ry q) hm
abbrev zNn(t:TE):TT:=fun σ H Q=>t σ H fun x H'=>∃ k,x=.bl k/\Q k H'
theorem zBz{op:CmpOp}{r:R2}(ho:OpR X (compareOp op) r)(ha:PE X a ta)(hb:PE X b tb)(hm:behindInMarks op b=false):PT X (.Compare a [op] [b] pos) (zNn (tOp r ta tb)):=by
 intro pins s σ H Q I h
 refine wpAny_isTrue_Compare1 (thn (ha pins s σ H _ I h) fun v s1 ⟨x,H1,I1,r1,q1⟩=>thn (hb pins s1 σ H1 _ I1 q1) fun u s2 ⟨y,H2,I2,r2,q2⟩=>
  thn (ho pins s2 σ H2 x y v u _ I2 r1 r2 q2) fun c s3 ⟨z,H3,I3,r3,k,e,q3⟩=>?_) hm
 subst e;cases r3;exact wpAny_truthy_bool ⟨H3,I3,q3⟩
theorem zCK:(sizeLine:Nat)<2^63:=by rw[sizeLine_eq];decide
theorem zBS{x:V}{us:List Value}(r:dD [x] us):∃ u,us=[u]/\cO x u:=by
 cases r with
 | cons r1 r2=>cases r2;exact⟨_,rfl,r1⟩
theorem zNR{x y:V}{us:List Value}(r:dD [x,y] us):∃ u w',us=[u,w']/\cO x u/\cO y w':=by
 cases r with
 | cons r1 r2=>
  cases r2 with
  | cons r3 r4=>cases r4;exact⟨_,_,rfl,r1,r3⟩
theorem yF:uO X (.builtin "abs") (fun xs H Q=>∃ i,xs=[.int i]/\Q (.int (if i<0 then -i else i)) H):=by
 intro pins s σ H xs us Q I r h;obtain⟨i,rfl,q⟩:=h;obtain⟨u,rfl,t,rfl⟩:=zBS r;exact call_abs_int fun u tk=>⟨.int (if i<0 then -i else i),H,I.tok _,⟨_,rfl⟩,q⟩
theorem zFh(hc:X.calm=true):uO X (.builtin "min") (fun xs H Q=>∃ i j,xs=[.int i,.int j]/\Q (.int (if j<i then j else i)) H):=by
 intro pins s σ H xs us Q I r h;obtain⟨i,j,rfl,q⟩:=h;obtain⟨u,w',rfl,⟨t,rfl⟩,⟨t',rfl⟩⟩:=zNR r;refine min_two_ints (I.ok.hd hc) fun h' tk k=>⟨_,H,I.kept k,?_,q⟩
 by_cases hj:j<i
 ·rw[if_pos hj,if_pos hj];exact⟨_,rfl⟩
 ·rw[if_neg hj,if_neg hj];exact⟨_,rfl⟩
end
section
variable{prog:Program}{w:World}{A:Around}{E:Value->Shared->Prop}{s:Shared}{K:Fg_}{x dx C f:Addr}{mA:Str->Option Value}{name:Str}{v:Value}
end
section
variable{P:Program}{w:World}{H H':Hp}{h h':Heap}{a C dx:Addr}{fs fs':List (Str×V)}
end
section
variable{X:Cx}{pins:List (Addr×Obj)}{σ:St}{H:Hp}{s:Shared}{a C dx:Addr}{fs:List (Str×V)}{f:Str}{v:V}{A:Around}{E:Value->Shared->Prop}
end
section
variable{X:Cx}{o e value:Expr}{f:Str}{pos pos' tpos:Pos}{ta tv:TE}
end
section
variable{X:Cx}{pins:List (Addr×Obj)}{σ:St}{H:Hp}{s:Shared}{A:Around}{E:Value->Shared->Prop}{Q:Value->Shared->Prop}{c:Value}{b:Bool}
end
structure Room (k:Nat) (A:Around):Prop where
 hd:A.handled=none
 dp:A.depth+3*k+5<recursionLimit
 un:A.units+16*k+200<cLine
theorem Room.mono{j k:Nat}{A:Around}(r:Room k A)(h:j<=k):Room j A:=⟨r.hd,by have:=r.dp;omega,by have:=r.un;omega⟩
theorem Room.deeper{k:Nat}{A:Around}(r:Room (k+1) A)(env:Env):Room k (A.deeper env):=
 ⟨r.hd,by have:=r.dp;show A.depth+1+3*k+5<_;omega,by have:=r.un;show A.units+3+16*k+200<_;omega⟩
theorem Room.depth{k:Nat}{A:Around}(r:Room k A):A.depth<recursionLimit:=by have:=r.dp;omega
theorem Room.units{k:Nat}{A:Around}(r:Room k A):A.units+64<cLine:=by have:=r.un;omega
abbrev zPo:TA:=fun _ H Q=>Q [] H
abbrev zNV(ta:TE)(tr:TA):TA:=fun σ H Q=>ta σ H fun x H1=>tr σ H1 fun xs H2=>Q (x::xs) H2
section
variable{X:Cx}{e:Expr}{es:List Expr}{te:TE}{t:TA}{pos:Pos}
theorem mJ:PA X [] zPo:=fun _ _ _ _ H Q I h=>Calls.spliced_nil ⟨[],H,I,.nil,h⟩
theorem iP(ha:PE X e te)(hr:PA X es t)(hs:starEach (e::es) X.env=(false,eval e X.env)::starEach es X.env:=by rfl):PA X (e::es) (zNV te t):=by
 intro pos pins s σ H Q I h;rw[hs];show wpAny _ _ (spliced ((false,eval e X.env)::backTo pos (starEach es X.env))) _ _ s
 refine Calls.spliced_cons (thn (ha pins s σ H _ I h) fun u s1 ⟨x,H1,I1,r1,q1⟩=>?_)
 exact thn (hr pos pins s1 σ H1 _ I1 q1) fun us s2 ⟨xs,H2,I2,r2,q2⟩=>⟨x::xs,H2,I2,.cons r1 r2,q2⟩
abbrev zPN(t:TA):TE:=fun σ H Q=>t σ H fun xs H1=>xs.length<=sizeLine/\∀ p,H1 p=none->Q (.ref p) (upd H1 p (.tup xs))
abbrev zPm(t:TA):TE:=fun σ H Q=>t σ H fun xs H1=>xs.length<=sizeLine/\∀ p,H1 p=none->Q (.ref p) (upd H1 p (.lst xs))
theorem zMs{x1}(h:PA X es t):PE X (.Tuple es x1 pos) (zPN t):=by
 intro pins s σ H Q I hq;refine wpAny_Tuple_spliced (thn (h pos pins s σ H _ I hq) fun us s1 ⟨xs,H1,I1,r,z,q⟩=>⟨by rw[<-r.length];exact z,?_⟩)
 have hf:H1 s1.heap.objs.size=none:=I1.hok.fresh (Qb _);refine⟨.ref s1.heap.objs.size,upd H1 s1.heap.objs.size (.tup xs),I1.laid (t':=s1.toks) (fun b u e=>Heap.get?_push_of_some _ e) (Qb _) ?_,rfl,q _ hf⟩
 exact⟨z,us,r,⟨_,Heap.get?_push_size _ rfl,rfl,_,rfl⟩⟩
theorem zNt(h:PA X es t):PE X (.List es pos) (zPm t):=by
 intro pins s σ H Q I hq;refine wpAny_List_spliced (thn (h pos pins s σ H _ I hq) fun us s1 ⟨xs,H1,I1,r,z,q⟩=>⟨by rw[<-r.length];exact z,?_⟩)
 have hf:H1 s1.heap.objs.size=none:=I1.hok.fresh (Qb _);refine⟨.ref s1.heap.objs.size,upd H1 s1.heap.objs.size (.lst xs),I1.laid (t':=s1.toks) (fun b u e=>Heap.get?_push_of_some _ e) (Qb _) ?_,rfl,q _ hf⟩
 exact⟨z,us,0,r,Heap.get?_push_size _ rfl⟩
end
abbrev Sp:=List V->Hp->VK->XK->Prop
abbrev CXT:=List Env->Hp->Shared->XK->Value->Shared->Prop
structure Env0 (P:Program) (w:World) (K:PySem.W.Frag) (mg:Str->Option Value) (base:Heap) (A:Around) (outer:List Env) (s:Shared) (H:Hp):Prop where
 frames:A.frames=some outer
 mod:Mod K mg base
 bs:∀ b o,base.get? b=some o->s.heap.get? b=some o/\H b=none
 bsz:base.objs.size<=s.heap.objs.size
 funs:s.heap.FunFrames base outer
 frf:∀ b∈frs outer,H b=none
 hok:HOk P w H s.heap
 bare:AllBare s.gens
def CE(outer:List Env)(P:Program)(w:World)(H:Hp)(s:Shared)(Q:VK)(u:Value)(s':Shared):Prop:=
 ∃ v H',s'.os=s.os/\AllBare s'.gens/\Un (frs outer) [] H H' s.heap s'.heap/\HOk P w H' s'.heap/\cO v u/\Q v H'
def CR(CX:CXT)(outer:List Env)(P:Program)(w:World)(H:Hp)(s:Shared)(Q:VK)(E:XK)(r:Result)(s':Shared):Prop:=
 match r with
 | .ok (.ret u)=>CE outer P w H s Q u s'
 | .ok _=>False
 | .error e=>CX outer H s E e s'
structure FnOk (P:Program) (w:World) (K:PySem.W.Frag) (mg:Str->Option Value) (base:Heap) (CX:CXT) (k:Nat) (f:Addr) (fd:FuncData) (ps:List Str) (sp:Sp):Prop where
 len:∀ vs H Q E,sp vs H Q E->vs.length=ps.length
 run:∀(A:Around)(outer:List Env)(s:Shared)(H:Hp)(args:Args)(us:List Value)(vs:List V)(Q:VK)(E:XK),Room k A->Env0 P w K mg base A outer s H->BindsTo s fd args (ps.zip us)->dD vs us->sp vs H Q E->
  codeAny (model P w) A (.call (.ref f) args) (CR CX outer P w H s Q E) s
theorem FnOk.mono{P:Program}{w:World}{K:Fg_}{mg:Str->Option Value}{base:Heap}{CX:CXT}{j k:Nat}{f:Addr}{fd:FuncData}{ps:List Str}{sp:Sp}(F:FnOk P w K mg base CX j f fd ps sp)(h:j<=k):
  FnOk P w K mg base CX k f fd ps sp:=⟨F.len,fun A outer s H args us vs Q E hr=>F.run A outer s H args us vs Q E (hr.mono h)⟩
theorem FnOk.imp{P:Program}{w:World}{K:Fg_}{mg:Str->Option Value}{base:Heap}{CX:CXT}{k:Nat}{f:Addr}{fd:FuncData}{ps:List Str}{sp sp':Sp}(F:FnOk P w K mg base CX k f fd ps sp)
  (h:∀ vs H Q E,sp' vs H Q E->sp vs H Q E):FnOk P w K mg base CX k f fd ps sp':=
 ⟨fun vs H Q E q=>F.len vs H Q E (h _ _ _ _ q),fun A outer s H args us vs Q E hr he hb hv hs=>F.run A outer s H args us vs Q E hr he hb hv (h _ _ _ _ hs)⟩
theorem Env0.in1{P:Program}{w:World}{K:Fg_}{mg:Str->Option Value}{base:Heap}{A:Around}{outer:List Env}{s:Shared}{H:Hp}(e:Env0 P w K mg base A outer s H):
  Env0 P w K mg base A.in1 outer s H:=⟨e.frames,e.mod,e.bs,e.bsz,e.funs,e.frf,e.hok,e.bare⟩
section
variable{X:Cx}{pins:List (Addr×Obj)}{σ:St}{H:Hp}{s s':Shared}
theorem Inv.env0(I:Inv X pins σ H s):Env0 X.prog X.w X.K X.mg X.base X.A X.stack s H:=
 ⟨I.ok.frames,I.ok.mod,I.bs,Qp I.ok.bsz I.sz,I.stack,I.stkFree,I.hok,I.bare⟩
theorem Inv.after{Q:VK}{u:Value}(I:Inv X pins σ H s)(h:CE X.stack X.prog X.w H s Q u s'):EP X pins σ Q u s':=by
 obtain⟨v,H',os,bare,un,hok,r,q⟩:=h;obtain⟨hh,g,d,t,os'⟩:=s';obtain rfl:os'=s.os:=os;exact⟨v,H',I.call (h':=hh) (g':=g) (d':=d) (t':=t) (ch:=[]) un hok bare (fun b z=>absurd z (by simp)),r,q⟩
end
abbrev zJw(sp:Sp)(dvs:List V)(E:XK)(t:TA):TE:=fun σ H Q=>t σ H fun vs H1=>sp (vs++dvs) H1 Q E
def zE(K:PySem.W.Frag)(fd:FuncData)(ps:List Str)(ds:List Value):Prop:=
 ∀(s:Shared)(us:List Value),K.In s.heap->(us++ds).length=ps.length->BindsTo s fd ⟨us,[]⟩ (ps.zip (us++ds))
theorem zE.all{K:Fg_}{fd:FuncData}{ps:List Str}(h:∀ us:List Value,us.length=ps.length->bindArgs fd ⟨us,[]⟩=pure (ps.zip us)):zE K fd ps []:=fun s us _ hl=>by
 rw[Vr] at hl ⊢
 exact .of_eq (h us hl)
def zCJ(CX:CXT)(X:Cx)(E:XK):Prop:=∀(pins:List (Addr×Obj))(σ:St)(H:Hp)(s:Shared)(e:Value)(s':Shared),Inv X pins σ H s->CX X.stack H s E e s'->X.xe e s'
section
variable{X:Cx}{CX:CXT}{k:Nat}{f C:Addr}{fd:FuncData}{ps:List Str}{sp:Sp}{dvs:List V}{ds:List Value}{E:XK}{x m:Str}{p pos apos:Pos}{e o:Expr}{es:List Expr}{ta:TE}{t:TA}
theorem zME{pins:List (Addr×Obj)}{σ:St}{H:Hp}{s:Shared}{Q:VK}{us:List Value}{vs:List V}(F:FnOk X.prog X.w X.K X.mg X.base CX k f fd ps sp)(hr:Room k X.A)(hb:zE X.K fd ps ds)(hd:dD dvs ds)(hx:zCJ CX X E)
  (I:Inv X pins σ H s) (r:dD vs us) (h:sp (vs++dvs) H Q E):wpAny (model X.prog X.w) X.A (call (.ref f) us) (EP X pins σ Q) X.xe s:=by
 have r2:dD (vs++dvs) (us++ds):=r.append hd;have hl:(us++ds).length=ps.length:=by rw[<-r2.length];exact F.len _ _ _ _ h
 refine wpAny_call (codeAny_mono (F.run X.A X.stack s H ⟨us,[]⟩ (us++ds) (vs++dvs) Q E hr I.env0 (hb s us I.kIn hl) r2 h) fun r s' hq=>?_)
 cases r with
 | error e=>exact hx pins σ H s e s' I hq
 | ok fl=>
  cases fl with
  | ret u=>exact I.after hq
  | next=>exact False.elim hq
  | brk=>exact False.elim hq
  | cont=>exact False.elim hq
theorem zBH(F:FnOk X.prog X.w X.K X.mg X.base CX k f fd ps sp)(hr:Room k X.A)(hg:Gl X x)(hm:X.mg x=some (.ref f))(hk:PySem.W.keepIn X.K (.ref f)=true)(hb:zE X.K fd ps ds)(hd:dD dvs ds)(hx:zCJ CX X E)
  (ha:PA X (e::es) t) (hdb:(x==("__debug__" : Str))=false:=by decide) (he:starEach (e::es) X.env=(false,eval e X.env)::starEach es X.env:=by rfl) (hpl:(backTo pos (starEach es X.env)).any (·.1)=false:=by rfl):
  PE X (.Call (.Name x p) (e::es) [] pos) (zJw sp dvs E t):=by
 intro pins s σ H Q I h;refine wpAny_Call_Name_kw (tG I hg hm ?_ hdb)
 refine PySem.W.callWith_K (h₀:=X.base) I.ok.mod.kin hk (thn (ha pos pins s σ H _ I h) fun us s1 ⟨vs,H1,I1,r,q⟩=>⟨I1.kIn,?_⟩) he hpl
 exact zME F hr hb hd hx I1 r q
end
section
variable{X:Cx}{CX:CXT}{k:Nat}{f C:Addr}{fd:FuncData}{ps ks:List Str}{sp:Sp}{E:XK}{x m:Str}{p pos apos kpos:Pos}{e o:Expr}{es:List Expr}{kws:List Keyword}{te ta:TE}{t tk:TA}{nm:Option Str}
variable{g:List Value->List Value->List Value}{gV:List V->List V->List V}
end
structure FnScope (N P:List Str) (sc:Scope):Prop where
 kind:sc.kind=.function
 co:sc.isCoroutine=false
 gen:sc.isGenerator=false
 nd:N.Nodup
 pre:N.take P.length=P
 par:∀ x∈P,sc.names.lookup x=some .local∨sc.names.lookup x=some .cell
 nofree:∀ y∈sc.names,y.2≠.free
theorem yX{kindOf:Str->Option NameKind}{x:Str}:∀ {binds:List (Str×Value)} {m:Str->Option Value},(∀ v,(x,v)∉binds)->bindL kindOf binds m x=m x
 | [],_,_=>rfl
 | (n,v)::r,m,h=>by
  unfold bindL;rw[yX fun w hw=>h w (Qd _ hw)];split
  ·have:x≠n:=by rintro rfl;exact h v Qe
   simp[this]
  ·rfl
theorem zAP{kindOf:Str->Option NameKind}{x:Str}:∀ {binds:List (Str×Value)} {m:Str->Option Value},(∀ v,(x,v)∉binds)->bindC kindOf binds m x=m x
 | [],_,_=>rfl
 | (n,v)::r,m,h=>by
  unfold bindC;rw[zAP fun w hw=>h w (Qd _ hw)];split
  ·rfl
  ·have:x≠n:=by rintro rfl;exact h v Qe
   simp[this]
theorem zAs{kindOf:Str->Option NameKind}{x:Str}{v:Value}:∀ {P:List Str} {vs:List Value} {i:Nat} {m:Str->Option Value},P.Nodup->P[i]?=some x->vs[i]?=some v->kindOf x=some .local->
  bindL kindOf (P.zip vs) m x=some v
 | [],_,_,_,_,h,_,_=>by simp at h
 | _::_,[],_,_,_,_,h,_=>by simp at h
 | p::P,w::vs,0,m,nd,h1,h2,hk=>by
  simp at h1 h2;subst h1;subst h2
  show bindL kindOf ((p,w)::P.zip vs) m p=_
  unfold bindL;rw[yX fun v hv=>(Xt.mp nd).1 (X6 hv).1,if_pos hk];simp
 | p::P,w::vs,i+1,m,nd,h1,h2,hk=>by
  show bindL kindOf ((p,w)::P.zip vs) m x=_
  unfold bindL;exact zAs (i:=i) (Xt.mp nd).2 (by simpa using h1) (by simpa using h2) hk
theorem yN{kindOf:Str->Option NameKind}{x:Str}{v:Value}:∀ {P:List Str} {vs:List Value} {i:Nat} {m:Str->Option Value},P.Nodup->P[i]?=some x->vs[i]?=some v->kindOf x≠some .local->
  bindC kindOf (P.zip vs) m x=some v
 | [],_,_,_,_,h,_,_=>by simp at h
 | _::_,[],_,_,_,_,h,_=>by simp at h
 | p::P,w::vs,0,m,nd,h1,h2,hk=>by
  simp at h1 h2;subst h1;subst h2
  show bindC kindOf ((p,w)::P.zip vs) m p=_
  unfold bindC;rw[zAP fun v hv=>(Xt.mp nd).1 (X6 hv).1,if_neg hk];simp
 | p::P,w::vs,i+1,m,nd,h1,h2,hk=>by
  show bindC kindOf ((p,w)::P.zip vs) m x=_
  unfold bindC;exact yN (i:=i) (Xt.mp nd).2 (by simpa using h1) (by simpa using h2) hk
def start(N:List Str)(vs:List V):St:=vs.map some++List.replicate (N.length-vs.length) none
def zDs(CX:CXT)(P:Program)(w:World)(K:PySem.W.Frag)(mg:Str->Option Value)(base:Heap)(N:List Str)(qual:Str)(scope:Scope)(f:Addr)(cd:Value)(A:Around)(outer:List Env)(s:Shared)(H:Hp)(E:XK):Cx where
 prog:=P
 w:=w
 K:=K
 mg:=mg
 base:=base
 A:=A.deeper (envOfC qual scope s.heap.objs.size f cd)
 N:=N
 s₀:=s
 H₀:=H
 env:=envOfC qual scope s.heap.objs.size f cd
 outer:=outer
 stack:=envOfC qual scope s.heap.objs.size f cd::outer
 ex:=[]
 calm:=true
 fn:=fun _=>true
 pn:=[]
 xe:=fun e s'=>wpAny (model P w) (A.deeper (envOfC qual scope s.heap.objs.size f cd)) (leaving (envOfC qual scope s.heap.objs.size f cd) e) (fun _ s''=>CX outer H s E e s'') (fun e' s''=>CX outer H s E e' s'') s'
theorem zCo{sc:Scope}{n:Nat}{x:Str}(h:sc.names.lookup x=some .cell):∃ c,(cellsFrom n sc.names []).lookup x=some c:=by
 have q:=We sc.names n [] (.inl h);exact Wf.mp q
theorem zES{CX:CXT}{P:Program}{w:World}{K:Fg_}{mg:Str->Option Value}{base:Heap}{N ps:List Str}{qual:Str}{scope:Scope}{f:Addr}{cd:Value}{A:Around}{outer:List Env}{s s1:Shared}{H:Hp}{E:XK}{us:List Value}{vs:List V}
  (S:FnScope N ps scope) (hd:A.handled=none) (e0:Env0 P w K mg base A outer s H) (hl:vs.length=ps.length) (r:dD vs us)
  (x:InCallC s s.heap.objs.size (bindL (envOfC qual scope s.heap.objs.size f cd).kindOf (ps.zip us) fun _=>none) (cellsFrom (s.heap.objs.size+1) scope.names []) (bindC (envOfC qual scope s.heap.objs.size f cd).kindOf (ps.zip us) fun _=>none) s1):
  Inv (zDs CX P w K mg base N qual scope f cd A outer s H E) [] (start N vs) H s1:=by
 have hpl:ps.length<=N.length:=by have:=congrArg List.length S.pre;rw[V6] at this;omega
 obtain⟨h1,tk,rfl,hk⟩:=x.done;have noA:∀ b:Addr,b∉(zDs CX P w K mg base N qual scope f cd A outer s H E).ex:=fun b z=>absurd (show b∈([]:List Addr) from z) (by simp)
 refine⟨⟨e0.mod,S.kind,rfl,rfl,Qb _,fun y z c h1 h2=>?_,fun y hy=>?_,fun y c _ h=>?_,fun _=>hd,Around.frames_deeper e0.frames,.inr ⟨rfl,rfl⟩,fun b z=>absurd z (noA b),e0.bs,e0.bsz,fun b _ _=>noA b,fun b z=>absurd z (noA b),e0.funs,e0.frf⟩,
  rfl,e0.bare,Un.kept hk,⟨_,x.toInCall.ns,fun i y v h1 h2 h3=>?_⟩,fun y c h=>⟨_,x.cell y c h⟩,e0.hok.fresh (Qb _),fun y c h=>?_,fun p hp=>absurd (show p∈([]:List (Addr×Obj)) from hp) (by simp),e0.hok.kept hk,?_⟩
 ·exact name_of_addr x.apart (Xg h1) (Xg h2)
 ·have hy:scope.names.lookup y=some .cell∨scope.names.lookup y=some .free:=hy
  rcases hy with hy | hy
  ·exact zCo hy
  ·exact absurd rfl (S.nofree _ (Xg hy))
 ·exact Xs (x.above y c (Xg h))
 ·have hi:i<vs.length:=by
   unfold start at h2;by_cases hi:i<vs.length
   ·exact hi
   ·rw[Vs (by simpa using hi)] at h2
    rw[Ue] at h2;split at h2<;>cases h2
  have ha:vs[i]?=some v:=by
   unfold start at h2;rw[Vj (by simpa using hi),Qq] at h2
   cases e:vs[i]? with
   | none=>rw[e] at h2;cases h2
   | some a=>rw[e] at h2;cases h2;rfl
  obtain⟨u,hu,rv⟩:=r.get ha
  have hp:ps[i]?=some y:=by
   rw[<-S.pre,List.getElem?_take_of_lt (by omega)];exact h1
  have ndP:ps.Nodup:=by rw[<-S.pre];exact S.nd.sublist (List.take_sublist _ _)
  refine⟨u,rv,?_⟩
  rcases S.par y (Qg hp) with k | k
  ·exact .inl ⟨k,zAs ndP hp hu k⟩
  ·obtain⟨c,e⟩:=zCo (n:=s.heap.objs.size+1) k
   refine .inr ⟨.inl k,c,e,?_⟩
   have q:=x.cell y c e;rw[yN ndP hp hu (by show scope.names.lookup y≠_;rw[k];decide)] at q;exact q
 ·exact e0.hok.fresh (Xs (x.above y c (Xg h)))
 ·unfold start
  show _=N.length
  rw[Qm,Qh,Xu];omega
theorem zMc{CX:CXT}{P:Program}{w:World}{K:Fg_}{mg:Str->Option Value}{base:Heap}{k:Nat}{f:Addr}{name qual:Str}{params:Arguments}{body:List Stmt}{scope:Scope}{dV kV doc pm cdv ct oc:Value}{an od:Option Addr}
  {osl:Array (Option Value)} {N ps:List Str} {sp:Sp} (lk:K.lookup f=some ⟨oc,od,.func (PySem.W.fnOf name qual params body scope dV kV doc pm an cdv ct),osl⟩) (hcd:PySem.W.codeIn K cdv qual=true) (S:FnScope N ps scope)
  (len:∀ vs H Q E,sp vs H Q E->vs.length=ps.length)
  (hbody:∀(A:Around)(outer:List Env)(s:Shared)(H:Hp)(vs:List V)(Q:VK)(E:XK),Room k (A.deeper (envOfC qual scope s.heap.objs.size f cdv))->sp vs H Q E->
   ∃ t,PSs (zDs CX P w K mg base N qual scope f cdv A outer s H E) body t/\t { nx:=fun _ H'=>Q .non H',rt:=Q } (start N vs) H):
  FnOk P w K mg base CX (k+1) f (PySem.W.fnOf name qual params body scope dV kV doc pm an cdv ct) ps sp:=by
 refine⟨len,fun A outer s H args us vs Q E hr e0 hb r hsp=>?_⟩
 have hl:=len _ _ _ _ hsp;have KX:K.In s.heap:=e0.mod.kin.keeps fun b o e=>(e0.bs b o e).1
 have lim:s.heap.NoLimit:=e0.mod.nolimit.keeps fun b o e=>(e0.bs b o e).1
 have hkind:∀ y∈ps.zip us,scope.names.lookup y.1=some .local∨(scope.names.lookup y.1=some .cell/\((cellsFrom (s.heap.objs.size+1) scope.names []).lookup y.1).isSome=true):=fun ⟨n,v⟩ hy=>by
  rcases S.par n (X6 hy).1 with q | q
  ·exact .inl q
  ·exact .inr ⟨q,We _ _ _ (.inl q)⟩
 refine codeAny_call_function hr.depth (KX _ _ lk) rfl S.co S.gen rfl (PySem.W.codeRec_of KX hcd) (hb _ _ _ _ ?_)
 refine wpAny_newFunctionEnv_cells S.kind hkind fun env he s1 x=>?_
 subst he;refine⟨lim.keeps x.toInCall.keep,codeAny_func ?_⟩
 obtain⟨t,ht,hq⟩:=hbody A outer s H vs Q E (hr.deeper _) hsp;have I:Inv (zDs CX P w K mg base N qual scope f cdv A outer s H E) [] (start N vs) H s1:=zES S hr.hd e0 hl r x;refine wpAny_mono (ht [] s1 (start N vs) H _ I hq) (fun fl s' hs=>?_) fun e s' hs=>hs
 have fin:∀ {σ':St} {H':Hp} {v:V} {u:Value},Inv (zDs CX P w K mg base N qual scope f cdv A outer s H E) [] σ' H' s'->cO v u->Q v H'->CE outer P w H s Q u s':=
  fun {σ' H' v u} J rv q=>⟨v,H',J.os,J.bare,J.base,J.hok,rv,q⟩
 cases fl with
 | ret u=>
  obtain⟨v,σ',H',J,rv,q⟩:=hs;exact fin J rv q
 | next=>
  obtain⟨σ',H',J,q⟩:=hs;exact fin (v:=V.non) (u:=Value.none) J rfl q
 | brk=>
  obtain⟨_,_,_,q⟩:=hs;exact False.elim q
 | cont=>
  obtain⟨_,_,_,q⟩:=hs;exact False.elim q
section
variable{X:Cx}{x:Str}{p pos:Pos}{e:Expr}{es:List Expr}{t:TA}{id T:String}{r:List V->Hp->VK->Prop}
abbrev tCB(r:List V->Hp->VK->Prop)(t:TA):TE:=fun σ H Q=>t σ H fun vs H1=>r vs H1 Q
theorem zCj(hc:uO X (.builtin id) r)(hg:Gl X x)(hm:X.mg x=none)(hv:bootBuiltins x=some (.builtin id))(ha:PA X (e::es) t)(hn:x ≠ "__name__" := by decide)(hdb:(x==("__debug__" : Str))=false:=by decide)
  (he:starEach (e::es) X.env=(false,eval e X.env)::starEach es X.env:=by rfl) (hpl:(backTo pos (starEach es X.env)).any (·.1)=false:=by rfl):PE X (.Call (.Name x p) (e::es) [] pos) (tCB r t):=by
 intro pins s σ H Q I h;refine wpAny_Call_Name_kw (oH I hg hm hv ?_ hn hdb)
 exact PyProof.Rows.callWith_builtin1 (thn (ha pos pins s σ H _ I h) fun us s1 ⟨vs,H1,I1,r1,q1⟩=>hc pins s1 σ H1 vs us Q I1 r1 q1) he hpl
theorem zAt(hc:uO X (.type T) r)(hg:Gl X x)(hm:X.mg x=none)(hv:bootBuiltins x=some (.type T))(ha:PA X (e::es) t)(hn:x ≠ "__name__" := by decide)(hdb:(x==("__debug__" : Str))=false:=by decide)
  (he:starEach (e::es) X.env=(false,eval e X.env)::starEach es X.env:=by rfl) (hpl:(backTo pos (starEach es X.env)).any (·.1)=false:=by rfl):PE X (.Call (.Name x p) (e::es) [] pos) (tCB r t):=by
 intro pins s σ H Q I h;refine wpAny_Call_Name_kw (oH I hg hm hv ?_ hn hdb)
 exact X5 (thn (ha pos pins s σ H _ I h) fun us s1 ⟨vs,H1,I1,r1,q1⟩=>hc pins s1 σ H1 vs us Q I1 r1 q1) he hpl
end
end L2
namespace HT
open PySem PyProof.Rows
section
open PySem.SeqAt
open PySem.AutoSeq1 (wpAny_loadPart')
open PySem.MeetsSeq PySem.MeetsSeq2 PySem.MeetsSeq3
end
section
variable{prog:Program}{w:World}{A:Around}{E:Value->Shared->Prop}{s:Shared}
theorem cat_tup{t b:Addr}{vs ws:List Value}{Q:Value->Shared->Prop}(ht:IsTup s.heap t vs.toArray)(hb:IsTup s.heap b ws.toArray)(hv:vs≠[])
  (h1:ws=[]->Q (.ref t) s) (h2:ws≠[]->Q (.ref s.heap.objs.size) { s with heap:=s.heap.push { cls:=.type "tuple", data:=.seq (vs++ws).toArray } })
  (hsz:vs.length+ws.length<=sizeLine):wpAny (model prog w) A (binaryOp .Add (.ref t) (.ref b)) Q E s:=by
 obtain⟨⟨cls,dd,data,sl⟩,ho,hc,n,hd⟩:=id ht;obtain⟨⟨cls2,dd2,data2,sl2⟩,ho2,hc2,n2,hd2⟩:=id hb;simp only at hc hd hc2 hd2
 subst hc hd hc2 hd2;have e:vs.toArray++ws.toArray=(vs++ws).toArray:=by simp
 by_cases hw:ws=[]
 ·exact concat_meets ⟨_,ho,rfl⟩ ⟨_,ho2,rfl⟩ noFill_tuple_add seq_tuple_add Uf Ug (Uh _ _)
   (tuple_addW1 t b vs.toArray ws.toArray n n2 dd dd2 sl sl2 (by simpa using hv) (by simp[hw])) ⟨ho,ho2,h1 hw⟩
 ·refine concat_meets ⟨_,ho,rfl⟩ ⟨_,ho2,rfl⟩ noFill_tuple_add seq_tuple_add Uf Ug (Uh _ _)
   (tuple_addW2 t b vs.toArray ws.toArray n n2 dd dd2 sl sl2 (by simpa using hv) (by simpa using hw) (by rw[Qf,Qf];exact hsz)) ⟨ho,ho2,?_⟩
  rw[e];exact h2 hw
def sIx(n d:Nat):Option Int->Nat
 | none=>d
 | some v=>if v<0 then (v+(n:Int)).toNat else min v.toNat n
theorem zLI(n d:Nat)(hd:d<=n)(o:Option Int):sIx n d o<=n:=by
 cases o with
 | none=>exact hd
 | some v=>
  show(if v<0 then (v+(n:Int)).toNat else min v.toNat n)<=n
  by_cases hv:v<0
  ·rw[if_pos hv];omega
  ·rw[if_neg hv];exact Nat.min_le_right _ _
theorem zFr(v:Int)(n d:Nat):(if v<0 then max (v+(n:Int)) 0 else min v (n:Int))=((sIx n d (some v):Nat):Int):=by
 show(if v<0 then max (v+(n:Int)) 0 else min v (n:Int))=(((if v<0 then (v+(n:Int)).toNat else min v.toNat n):Nat):Int)
 by_cases hv:v<0
 ·simp only[if_pos hv];omega
 ·simp only[if_neg hv];omega
theorem zDm(lo hi:Option Int)(n:Nat):Builtin.Slice.sliceAdjust lo hi 1 (n:Int)=(((sIx n 0 lo:Nat):Int),((sIx n n hi:Nat):Int)):=by
 have h1:¬ ((1:Int)<0):=by omega
 unfold Builtin.Slice.sliceAdjust;simp only[h1,if_false];refine Prod.ext ?_ ?_
 ·cases lo with
  | none=>rfl
  | some v=>exact zFr v n 0
 ·cases hi with
  | none=>rfl
  | some v=>exact zFr v n n
theorem zDN(i j:Nat):Builtin.Slice.slicePlaces (i:Int) (j:Int) 1=j-i:=by
 unfold Builtin.Slice.slicePlaces;have h1:(1:Int) > 0:=by omega
 simp only[h1,if_true,Int.ediv_one];split<;>omega
theorem vK{v:Value}{o:Option Int}{Q:Option Int->Shared->Prop}(p:IsPart v o)(h:Q o s):wpAny (model prog w) A (Builtin.Slice.slicePartIndex v) Q E s:=by
 cases p with
 | none=>exact slicePart_none h
 | int i t=>exact slicePart_int h
theorem sliceApplied_gen{sl:Addr}{vl vu:Value}{lo hi:Option Int}{n:Nat}{Q:Int×Int×Nat->Shared->Prop}(hs:s.heap.IsSliceOf sl vl vu .none)(pl:IsPart vl lo)(pu:IsPart vu hi)
  (h:Q (((sIx n 0 lo:Nat):Int),1,sIx n n hi-sIx n 0 lo) s):wpAny (model prog w) A (Builtin.Slice.sliceApplied (.ref sl) (pure (n:Int))) Q E s:=by
 obtain⟨os,hos,hcs,hds⟩:=id hs;unfold Builtin.Slice.sliceApplied Builtin.Slice.sliceFields;refine wpAny_bind (wpAny_bind (wpAny_field hos hds (x:=vl) rfl (wpAny_bind (wpAny_field hos hds (x:=vu) rfl (wpAny_bind (wpAny_field hos hds (x:=.none) rfl (wpAny_pure ?_)))))))
 refine wpAny_bind (slicePart_none ?_)
 show wpAny _ _ (if ((1:Int)==0)=true then _ else _) _ _ s
 rw[if_neg (by decide)];refine wpAny_bind (vK pl (wpAny_bind (vK pu (wpAny_bind (wpAny_pure ?_)))))
 show wpAny _ _ (match Builtin.Slice.sliceAdjust lo hi 1 (n:Int) with | (lo,hi)=>pure (lo,(1:Int),Builtin.Slice.slicePlaces lo hi 1)) _ _ s
 rw[zDm lo hi n];show wpAny _ _ (pure (((sIx n 0 lo:Nat):Int),(1:Int),Builtin.Slice.slicePlaces ((sIx n 0 lo:Nat):Int) ((sIx n n hi:Nat):Int) 1)) _ _ s
 rw[zDN];exact wpAny_pure h
theorem zHo(xs:Array Value)(i k:Nat):((List.range k).filterMap fun(m:Nat)=>xs[((i:Int)+(m:Int)*1).toNat]?).toArray=((xs.toList.drop i).take k).toArray:=by
 have e:(fun(m:Nat)=>xs[((i:Int)+(m:Int)*1).toNat]?)=fun m=>xs[i+m]?:=by
  funext m
  have:((i:Int)+(m:Int)*1).toNat=i+m:=by omega
  rw[this]
 rw[e];have:=pick_run xs i k
 rw[List.filterMap_map] at this;have e2:((fun x=>xs[x]?) ∘ fun x=>i+x)=fun m=>xs[i+m]?:=rfl
 rw[e2] at this;rw[this]
theorem getItem_tuple_cut{t sl:Addr}{items:Array Value}{vl vu:Value}{lo hi:Option Int}{Q:Value->Shared->Prop}(ht:IsTup s.heap t items)(hs:s.heap.IsSliceOf sl vl vu .none)(pl:IsPart vl lo)(pu:IsPart vu hi)
  (hw:¬ (sIx items.size 0 lo=0/\sIx items.size items.size hi=items.size))
  (h:Q (.ref s.heap.objs.size) { s with heap:=s.heap.push { cls:=.type "tuple", data:=.seq ((items.toList.drop (sIx items.size 0 lo)).take (sIx items.size items.size hi-sIx items.size 0 lo)).toArray } })
  (hsz:items.size<=sizeLine):wpAny (model prog w) A (getItem (.ref t) (.ref sl)) Q E s:=by
 have htake:sizeOk (.seq ((items.toList.drop (sIx items.size 0 lo)).take (sIx items.size items.size hi-sIx items.size 0 lo)).toArray):=by
  show((items.toList.drop (sIx items.size 0 lo)).take (sIx items.size items.size hi-sIx items.size 0 lo)).toArray.size<=sizeLine
  rw[Qf,V6,Vn,Xf];omega
 have hj:sIx items.size items.size hi<=items.size:=zLI _ _ (Qb _) hi;obtain⟨os,hos,hcs,hds⟩:=id hs;have hTs:s.TypeIs (.ref sl) "slice" := ⟨os,hos,hcs⟩;unfold getItem;try with_reducible refine wpAny_holding ?_
 first | refine wpAny_bind (wpAny_pure ?_) | skip
 refine wpAny_bind (wpAny_sequenceKey ht.typeIs (by decide) ?_)
 refine wpAny_bind (wpAny_callSpecial?_slot (name:=Str.ofString "__getitem__") ht.typeIs Yw
  (wpAny_call_entry Yw ht.typeIs entry_tuple_getitem ?_ (args_tuple_getitem _ _)))
 show wpAny _ _ (Builtin.Tuple.tupleItemsOf (.ref t) >>= _) _ _ s
 refine wpAny_bind (tupleItemsOf_ ht ?_)
 refine wpAny_bind (wpAny_typeOf hTs ?_)
 rw[if_pos (by decide)];refine wpAny_bind (sliceApplied_gen hs pl pu ?_)
 have hno:¬ ((((sIx items.size 0 lo:Nat):Int)==0 && (1:Int)==1 && (sIx items.size items.size hi-sIx items.size 0 lo)==items.size)=true):=by
  intro q;rw[Vg,Vg] at q;have q1:((sIx items.size 0 lo:Nat):Int)=0:=eq_of_beq q.1.1;have q2:sIx items.size items.size hi-sIx items.size 0 lo=items.size:=eq_of_beq q.2;exact hw ⟨by omega,by omega⟩
 show wpAny _ _ (if (((sIx items.size 0 lo:Nat):Int)==0 && (1:Int)==1 && (sIx items.size items.size hi-sIx items.size 0 lo)==items.size)=true then _ else _) _ _ s
 rw[if_neg hno,zHo]
 first
  | exact wpAny_bind (m:=Builtin.Tuple.tupleExact _) (wpAny_newObj_type (wpAny_pure ⟨_,rfl,wpAny_pure h⟩) htake)
  | exact wpAny_bind (m:=Builtin.Tuple.tupleExact _) (wpAny_newObj_type (wpAny_bind (wpAny_pure (wpAny_pure ⟨_,rfl,wpAny_pure h⟩))) htake)
  | exact wpAny_bind (wpAny_bind (m:=Builtin.Tuple.tupleExact _) (wpAny_newObj_type (wpAny_pure (wpAny_pure ⟨_,rfl,wpAny_pure h⟩)) htake))
  | exact wpAny_bind (wpAny_bind (m:=Builtin.Tuple.tupleExact _) (wpAny_newObj_type (wpAny_pure ⟨_,rfl,wpAny_pure h⟩) htake))
end
end HT
namespace L2
open PySem PySem.Spec PyProof.Rows
abbrev TO:=St->Hp->(Option Int->Hp->Prop)->Prop
def PO(X:Cx)(e:Option Expr)(t:TO):Prop:=
 ∀(pins:List (Addr×Obj))(s:Shared)(σ:St)(H:Hp)(Q:Option Int->Hp->Prop),Inv X pins σ H s->t σ H Q->
  wpAny (model X.prog X.w) X.A (evalPart e X.env) (fun u s'=>∃ o H',Inv X pins σ H' s'/\IsPart u o/\Q o H') X.xe s
abbrev zKN:TO:=fun _ H Q=>Q none H
abbrev zOf(t:TE):TO:=fun σ H Q=>t σ H fun x H1=>∃ i,x=.int i/\Q (some i) H1
section
variable{X:Cx}{e:Expr}{te:TE}{lo hi:Option Expr}{tl th:TO}{pos p2:Pos}
theorem zKj:PO X none zKN:=by
 intro pins s σ H Q I h;rw[evalPart_none];exact wpAny_pure ⟨none,H,I,.none,h⟩
theorem zKs(h:PE X e te):PO X (some e) (zOf te):=by
 intro pins s σ H Q I hw;rw[evalPart_some];refine thn (h pins s σ H _ I hw) fun u s1 ⟨x,H1,I1,r1,q1⟩=>?_
 obtain⟨i,rfl,q⟩:=q1;obtain⟨t,rfl⟩:=r1;exact⟨some i,H1,I1,.int i t,q⟩
def SlR(X:Cx)(r:V->Option Int->Option Int->Hp->VK->Prop):Prop:=
 ∀(pins:List (Addr×Obj))(s:Shared)(σ:St)(H:Hp)(x:V)(v vl vu:Value)(lo hi:Option Int)(sl:Addr)(Q:VK),Inv X pins σ H s->cO x v->s.heap.IsSliceOf sl vl vu .none->IsPart vl lo->IsPart vu hi->r x lo hi H Q->
  ∃ T id,typeLookup (.type T) "__getitem__" = pure (some (.builtin id))/\s.TypeIs v T/\wpAny (model X.prog X.w) X.A (getItem v (.ref sl)) (EP X pins σ Q) X.xe s
theorem SlR.or{r r':V->Option Int->Option Int->Hp->VK->Prop}(h:SlR X r)(h':SlR X r'):SlR X (fun x lo hi H Q=>r x lo hi H Q∨r' x lo hi H Q):=by
 intro pins s σ H x v vl vu lo hi sl Q I rx hs pl pu q;rcases q with q | q
 ·exact h pins s σ H x v vl vu lo hi sl Q I rx hs pl pu q
 ·exact h' pins s σ H x v vl vu lo hi sl Q I rx hs pl pu q
abbrev tSl(r:V->Option Int->Option Int->Hp->VK->Prop)(te:TE)(tl th:TO):TE:=fun σ H Q=>te σ H fun x H1=>tl σ H1 fun l H2=>th σ H2 fun u H3=>r x l u H3 Q
theorem zCn{r:V->Option Int->Option Int->Hp->VK->Prop}(hr:SlR X r)(he:PE X e te)(hl:PO X lo tl)(hu:PO X hi th):PE X (.Subscript e (.Slice lo hi none p2) pos) (tSl r te tl th):=by
 intro pins s σ H Q I h;refine Subscript_ (thn (he pins s σ H _ I h) fun v s1 ⟨x,H1,I1,r1,q1⟩=>?_)
 refine wpAny_Slice (thn (hl pins s1 σ H1 _ I1 q1) fun vl s2 ⟨l,H2,I2,pl,q2⟩=>thn (hu pins s2 σ H2 _ I2 q2) fun vu s3 ⟨u,H3,I3,pu,q3⟩=>?_)
 rw[evalPart_none];refine wpAny_pure ?_
 have I4:Inv X pins σ H3 { s3 with heap:=s3.heap.push { cls:=.type "slice", data:=.fields #[vl,vu,.none] } }:=I3.kept (t':=s3.toks) fun b ob q=>Heap.get?_push_of_some _ q
 obtain⟨T,id,hT,ht,hg⟩:=hr pins { s3 with heap:=s3.heap.push { cls:=.type "slice", data:=.fields #[vl,vu,.none] } } σ H3 x v vl vu l u s3.heap.objs.size Q I4 r1 (Heap.IsSliceOf.new ..) pl pu q3;show wpAny (model X.prog X.w) X.A (subscriptTail e (.Slice lo hi none p2) v (.ref s3.heap.objs.size)) (EP X pins σ Q) X.xe { s3 with heap:=s3.heap.push { cls:=.type "slice", data:=.fields #[vl,vu,.none] } }
 exact tail_any (ops:=[.ref s3.heap.objs.size,v]) ht hT hg (by with_unfolding_all rfl)
def zGP(xs:List V)(lo hi:Option Int):List V:=(xs.drop (HT.sIx xs.length 0 lo)).take (HT.sIx xs.length xs.length hi-HT.sIx xs.length 0 lo)
theorem sA(xs:List V)(lo hi:Option Int):(zGP xs lo hi).length<=xs.length:=by
 unfold zGP;rw[V6,Vn];omega
def zPd(K:PySem.W.Frag):V->Option Int->Option Int->Hp->VK->Prop:=fun x lo hi H Q=>∃ a xs,x=.ref a/\SqT K H a xs/\
 ¬ (HT.sIx xs.length 0 lo=0/\HT.sIx xs.length xs.length hi=xs.length)/\∀ p,H p=none->Q (.ref p) (upd H p (.tup (zGP xs lo hi)))
theorem zLz:SlR X (zPd X.K):=by
 intro pins s σ H x v vl vu lo hi sl Q I rx hs pl pu h;obtain⟨a,xs,rfl,hx,hw,q⟩:=h;cases rx;obtain⟨its,r,ht,hz⟩:=I.tuple hx;have hlen:its.toArray.size=xs.length:=by rw[Qf];exact r.length.symm
 refine⟨"tuple", _,PyProof.Rows.slot_tuple_getitem.lookup,ht.typeIs,?_⟩
 refine HT.getItem_tuple_cut ht hs pl pu (by rw[hlen];exact hw) ?_ (by rw[hlen];exact hz)
 rw[hlen];refine⟨.ref s.heap.objs.size,_,I.laid (t':=s.toks) (o:=.tup (zGP xs lo hi)) (fun b ob q=>Heap.get?_push_of_some _ q) (Qb _) ?_,rfl,q _ (I.hok.fresh (Qb _))⟩
 exact⟨Qp (sA xs lo hi) hz,_,(r.drop (HT.sIx xs.length 0 lo)).take (HT.sIx xs.length xs.length hi-HT.sIx xs.length 0 lo),IsTup.new _ _⟩
def zNd(K:PySem.W.Frag):R2:=fun x y H Q=>∃ a b xs ys,x=.ref a/\y=.ref b/\SqT K H a xs/\SqT K H b ys/\xs≠[]/\xs.length+ys.length<=sizeLine/\
 (ys=[]->Q (.ref a) H)/\(ys≠[]->∀ p,H p=none->Q (.ref p) (upd H p (.tup (xs++ys))))
theorem dD.nil_iff{xs:List V}{us:List Value}(r:dD xs us):us=[] ↔ xs=[]:=by
 cases r with
 | nil=>simp
 | cons _ _=>simp
theorem zJd:OpR X (binaryOp .Add) (zNd X.K):=by
 intro pins s σ H x y v u Q I rx ry h;obtain⟨a,b,xs,ys,rfl,rfl,ha,hb,hx,hz,q1,q2⟩:=h;cases rx;cases ry;obtain⟨its,r1,p1,_⟩:=I.tuple ha;obtain⟨its2,r2,p2,_⟩:=I.tuple hb;refine HT.cat_tup p1 p2 (fun z=>hx (r1.nil_iff.mp z)) (fun z=>⟨.ref a,H,I,rfl,q1 (r2.nil_iff.mp z)⟩) (fun z=>?_) (by rw[<-r1.length,<-r2.length];exact hz)
 refine⟨.ref s.heap.objs.size,_,I.laid (t':=s.toks) (o:=.tup (xs++ys)) (fun b ob q=>Heap.get?_push_of_some _ q) (Qb _) ?_,rfl,q2 (fun w=>z (r2.nil_iff.mpr w)) _ (I.hok.fresh (Qb _))⟩
 exact⟨by rw[Qm];exact hz,_,r1.append r2,IsTup.new _ _⟩
end
def ixN(n:Nat)(i:Int):Option Nat:=if 0<=i then (if i<n then some i.toNat else none) else if -(n:Int)<=i then some (i+n).toNat else none
def atI{α:Type}(xs:List α)(i:Int):Option α:=(ixN xs.length i).bind fun j=>xs[j]?
theorem zFc{n:Nat}{i:Int}{j:Nat}(h:ixN n i=some j):seqIndex? i n=some j/\j<n/\-(n:Int)<=i/\i<n:=by
 unfold ixN at h;by_cases h0:0<=i
 ·rw[if_pos h0] at h
  by_cases h1:i<n
  ·rw[if_pos h1] at h
   have e:i.toNat=j:=Vc h;exact⟨by rw[seqIndex_of h0 h1,e],by omega,by omega,h1⟩
  ·rw[if_neg h1] at h;cases h
 ·rw[if_neg h0] at h
  by_cases h1:-(n:Int)<=i
  ·rw[if_pos h1] at h
   have e:(i+n).toNat=j:=Vc h;exact⟨by rw[seqIndex_neg (by omega) h1,e],by omega,h1,by omega⟩
  ·rw[if_neg h1] at h;cases h
theorem zGc{α:Type}{xs:List α}{i:Int}{v:α}(h:atI xs i=some v):∃ j,seqIndex? i xs.length=some j/\xs[j]?=some v/\j<xs.length/\-(xs.length:Int)<=i/\i<xs.length:=by
 unfold atI at h
 cases e:ixN xs.length i with
 | none=>rw[e] at h;cases h
 | some j=>
  rw[e] at h;obtain⟨h1,h2,h3,h4⟩:=zFc e;exact⟨j,h1,h,h2,h3,h4⟩
theorem zBT{α:Type}{xs:List α}{j:Nat}{v:α}(h:xs[j]?=some v):atI xs (j:Int)=some v:=by
 have hj:j<xs.length:=(Vd.mp h).1
 have e:ixN xs.length (j:Int)=some j:=by
  unfold ixN;rw[if_pos (by omega),if_pos (by omega)];simp
 unfold atI;rw[e];exact h
def zBj(b:Expr):Prop:=∀ o i,subscripted b false o i=operate [o,i] (getItem o i)
def IxR(X:Cx)(r:R2):Prop:=
 ∀(value slice:Expr)(pins:List (Addr×Obj))(s:Shared)(σ:St)(H:Hp)(x y:V)(v u:Value)(Q:VK),Inv X pins σ H s->cO x v->cO y u->r x y H Q->
  subscripted slice false v u=operate [v,u] (getItem v u)->wpAny (model X.prog X.w) X.A (subscriptTail value slice v u) (EP X pins σ Q) X.xe s
def MtR(X:Cx)(id:String)(r:V->List V->Hp->VK->Prop):Prop:=
 ∀(pins:List (Addr×Obj))(s:Shared)(σ:St)(H:Hp)(x:V)(xs:List V)(v:Value)(us:List Value)(Q:VK),Inv X pins σ H s->cO x v->dD xs us->r x xs H Q->
  wpAny (model X.prog X.w) X.A (call (.builtin id) (v::us)) (EP X pins σ Q) X.xe s
section
variable{X:Cx}{a b:Expr}{ta tb:TE}{pos:Pos}
theorem IxR.or{r r':R2}(h:IxR X r)(h':IxR X r'):IxR X (fun x y H Q=>r x y H Q∨r' x y H Q):=by
 intro value slice pins s σ H x y v u Q I rx ry q hs;rcases q with q | q
 ·exact h value slice pins s σ H x y v u Q I rx ry q hs
 ·exact h' value slice pins s σ H x y v u Q I rx ry q hs
theorem zDq{r:R2}(hr:IxR X r)(ha:PE X a ta)(hb:PE X b tb)(hs:zBj b):PE X (.Subscript a b pos) (tOp r ta tb):=by
 intro pins s σ H Q I h;exact Subscript_ (zOl ha hb I h fun v u s2 x y H2 I2 rx ry q=>hr a b pins s2 σ H2 x y v u Q I2 rx ry q (hs _ _))
def zND(K:PySem.W.Frag):R2:=fun x y H Q=>∃ p xs i v,x=.ref p/\y=.int i/\SqL K H p xs/\atI xs i=some v/\Q v H
def zNC(K:PySem.W.Frag):R2:=fun x y H Q=>∃ p xs i v,x=.ref p/\y=.int i/\SqT K H p xs/\atI xs i=some v/\Q v H
theorem zJV:IxR X (zND X.K):=by
 intro value slice pins s σ H x y v u Q I rx ry h hs;obtain⟨p,xs,i,z,rfl,rfl,hq,he,q⟩:=h;cases rx;obtain⟨t,rfl⟩:=ry;obtain⟨its,r,pl,hz⟩:=I.list hq;obtain⟨j,h1,h2,h3,h4,h5⟩:=zGc he;obtain⟨w,ew,rw'⟩:=r.get h2;have hl:=r.length;have hn:=zCK;have fin:EP X pins σ Q w s:=⟨z,H,I,rw',q⟩;by_cases h0:0<=i
 ·have hj:i.toNat=j:=by
   rw[seqIndex_of h0 h5] at h1;exact Vc h1
  exact item_listR pl.isList h0 (by omega) (by rw[hj];simpa using ew) fin hs
 ·have hj:(i+(its.toArray.size:Int)).toNat=j:=by
   rw[seqIndex_neg (by omega) h4] at h1;rw[Qf,<-hl];exact Vc h1
  exact subscriptTail_builtinR (x:=w) pl.isList.typeIs slot_list_getitem.lookup
   (wpAny_getItem_list_neg (Q:=fun r s'=>r=w/\EP X pins σ Q r s') pl.isList (by omega) (by rw[Qf]<;>omega) (by omega) (by rw[hj];simpa using ew) ⟨rfl,fin⟩) hs
theorem zLy:IxR X (zNC X.K):=by
 intro value slice pins s σ H x y v u Q I rx ry h hs;obtain⟨p,xs,i,z,rfl,rfl,hq,he,q⟩:=h;cases rx;obtain⟨t,rfl⟩:=ry;obtain⟨its,r,pl,hz⟩:=I.tuple hq;obtain⟨j,h1,h2,h3,h4,h5⟩:=zGc he;obtain⟨w,ew,rw'⟩:=r.get h2;have hl:=r.length;have hn:=zCK;have fin:EP X pins σ Q w s:=⟨z,H,I,rw',q⟩
 exact subscriptTail_builtinR (x:=w) pl.typeIs slot_tuple_getitem.lookup
  (getItem_tuple (j:=j) (Q:=fun r s'=>r=w/\EP X pins σ Q r s') pl (by omega) (by omega) (by rw[Qf,<-hl];exact h1) (by simpa using ew) ⟨rfl,fin⟩) hs
theorem zDh(its:List Value)(n j:Nat)(u:Value):Obj.mapSeq (·.setIfInBounds j u) { cls:=.type "list", data:=.seq its.toArray n }={ cls:=.type "list", data:=.seq (its.set j u).toArray n }:=by
 simp[Obj.mapSeq]
theorem Inv.lst{pins:List (Addr×Obj)}{σ:St}{H:Hp}{s:Shared}{p:Addr}{xs:List V}(I:Inv X pins σ H s)(h:H p=some (.lst xs)):
  ∃(its:List Value)(n:Nat),dD xs its/\s.heap.get? p=some { cls:=.type "list", data:=.seq its.toArray n }/\xs.length<=sizeLine:=by
 obtain⟨z,its,n,r,e⟩:=I.hok p _ h;exact⟨its,n,r,e,z⟩
theorem Inv.lstUpd{pins:List (Addr×Obj)}{σ:St}{H:Hp}{s:Shared}{p:Addr}{xs ys:List V}{its its':List Value}{n n':Nat}{f:Obj->Obj}(I:Inv X pins σ H s)(h:H p=some (.lst xs))
  (ho:s.heap.get? p=some { cls:=.type "list", data:=.seq its.toArray n }) (hf:f { cls:=.type "list", data:=.seq its.toArray n }={ cls:=.type "list", data:=.seq its'.toArray n' }) (r:dD ys its') (hz:ys.length<=sizeLine) (t:Nat):
  Inv X pins σ (upd H p (.lst ys)) { s with heap:=s.heap.update p f,toks:=t }:=by
 have e:(s.heap.update p f).get? p=some { cls:=.type "list", data:=.seq its'.toArray n' }:=by
  rw[Heap.get?_update_self f ho (by rw[hf]<;>rfl),hf]
 refine I.write (x:=p) (e:=p) (by rw[h];trivial) (.inl rfl) (fun b u hb q=>(Heap.get?_update_other _ _ (Ne.symm hb)).trans q) ⟨_,e⟩ ?_
 exact⟨hz,its',n',r,e⟩
def zOu:V->V->V->Hp->(Hp->Prop)->Prop:=fun o i v H Q=>∃ p xs k j,o=.ref p/\i=.int k/\H p=some (.lst xs)/\ixN xs.length k=some j/\Q (upd H p (.lst (xs.set j v)))
theorem zHO:zOU X zOu:=by
 intro pins s σ H o i v ov iv u Q I ro ri rv h;obtain⟨p,xs,k,j,rfl,rfl,hp,hj,q⟩:=h;cases ro;obtain⟨t,rfl⟩:=ri;obtain⟨its,n,r,ho,hz⟩:=I.lst hp;obtain⟨h1,h2,h3,h4⟩:=zFc hj;have hl:=r.length;have hn:=zCK
 have I':Inv X pins σ (upd H p (.lst (xs.set j v))) { s with heap:=s.heap.update p (Obj.mapSeq (·.setIfInBounds j u)) }:=
  I.lstUpd hp ho (zDh its n j u) (r.set rv j) (by rw[Q5];exact hz) s.toks
 by_cases h0:0<=k
 ·have hk:k.toNat=j:=by
   rw[seqIndex_of h0 h4] at h1;exact Vc h1
  exact PySem.W.ki_setAt ho h0 (by omega) (by rw[Qf,<-hl];exact h4) (by rw[hk];exact⟨_,I',q⟩)
 ·have hk:(k+(its.toArray.size:Int)).toNat=j:=by
   rw[seqIndex_neg (by omega) h3] at h1;rw[Qf,<-hl];exact Vc h1
  exact PySem.W.ki_setBack ho (by omega) (by rw[Qf,<-hl];exact h3) (by omega) (by rw[hk];exact⟨_,I',q⟩)
theorem yS(lo hi:Option Int)(n:Nat):(sliceBounds lo hi none n).1=((HT.sIx n 0 lo:Nat):Int)/\(sliceBounds lo hi none n).2.1=((HT.sIx n n hi:Nat):Int)/\(sliceBounds lo hi none n).2.2=1:=by
 refine⟨?_,?_,rfl⟩
 ·cases lo with
  | none=>simp[sliceBounds,HT.sIx]
  | some i=>
   simp only[sliceBounds,HT.sIx,Option.getD_none,show(1:Int) > 0 by decide,if_true];by_cases h:i<0
   ·simp only[h,if_true]<;>omega
   ·simp only[h,if_false]<;>omega
 ·cases hi with
  | none=>simp[sliceBounds,HT.sIx]
  | some i=>
   simp only[sliceBounds,HT.sIx,Option.getD_none,show(1:Int) > 0 by decide,if_true];by_cases h:i<0
   ·simp only[h,if_true]<;>omega
   ·simp only[h,if_false]<;>omega
theorem yE(its:List Value)(lo hi:Option Int):slicePick its.toArray lo hi none=((its.drop (HT.sIx its.length 0 lo)).take (HT.sIx its.length its.length hi-HT.sIx its.length 0 lo)).toArray:=by
 obtain⟨h1,h2,h3⟩:=yS lo hi its.toArray.size;unfold slicePick;rw[h1,h2,h3];simp only[sliceRange_one,pick_run,Qf]<;>rfl
def zPy(K:PySem.W.Frag):V->Option Int->Option Int->Hp->VK->Prop:=fun x lo hi H Q=>∃ a xs,x=.ref a/\SqL K H a xs/\∀ p,H p=none->Q (.ref p) (upd H p (.lst (zGP xs lo hi)))
theorem zFM:SlR X (zPy X.K):=by
 intro pins s σ H x v vl vu lo hi sl Q I rx hs pl pu h;obtain⟨a,xs,rfl,hx,q⟩:=h;cases rx;obtain⟨its,r,ht,hz⟩:=I.list hx;have hlen:=r.length;refine⟨"list", _,slot_list_getitem.lookup,ht.isList.typeIs,?_⟩
 refine wpAny_getItem_list_slice ht.isList hs pl pu .none (by simp) ?_ (by rw[Qf]<;>omega)
 rw[yE,<-hlen];refine⟨.ref s.heap.objs.size,_,I.laid (t':=s.toks) (o:=.lst (zGP xs lo hi)) (fun b ob q=>Heap.get?_push_of_some _ q) (Qb _) ?_,rfl,q _ (I.hok.fresh (Qb _))⟩
 exact⟨Qp (sA xs lo hi) hz,_,0,(r.drop (HT.sIx xs.length 0 lo)).take (HT.sIx xs.length xs.length hi-HT.sIx xs.length 0 lo),Heap.get?_push_size _ rfl⟩
theorem aO:uO X (.builtin "len") (fun xs H Q=>∃ p ys,xs=[.ref p]/\(SqL X.K H p ys∨SqT X.K H p ys)/\Q (.int ys.length) H):=by
 intro pins s σ H xs us Q I r h;obtain⟨p,ys,rfl,hq,q⟩:=h;obtain⟨u,rfl,rx⟩:=zBS r;cases rx;have hn:=zCK;rcases hq with hq | hq
 ·obtain⟨its,r',pl,hz⟩:=I.list hq
  have hlen:=r'.length;exact Calls.call_len_list pl.isList (by simp only[Qf]<;>omega) ⟨.int ys.length,H,I.tok _,⟨s.toks+1,by rw[Qf,hlen]⟩,q⟩
 ·obtain⟨its,r',pl,hz⟩:=I.tuple hq
  have hlen:=r'.length;exact len_tuple pl (by simp only[Qf]<;>omega) ⟨.int ys.length,H,I.tok _,⟨s.toks+1,by rw[Qf,hlen]⟩,q⟩
theorem zAC:uO X (.type "list") (fun xs H Q=>∃ p ys,xs=[.ref p]/\(SqL X.K H p ys∨SqT X.K H p ys)/\∀ l,H l=none->Q (.ref l) (upd H l (.lst ys))):=by
 intro pins s σ H xs us Q I r h;obtain⟨p,ys,rfl,hq,q⟩:=h;obtain⟨u,rfl,rx⟩:=zBS r;cases rx
 have fin:∀(its:List Value),dD ys its->ys.length<=sizeLine->∀(h':Heap)(c':Nat),(∀ b o',s.heap.get? b=some o'->h'.get? b=some o')->
   h'.get? s.heap.objs.size=some { cls:=.type "list", dict:=none,data:=.seq its.toArray c',slots:=#[] }->EP X pins σ Q (.ref s.heap.objs.size) { s with heap:=h' }:=fun its r' hz h' c' kp e=>
  ⟨.ref s.heap.objs.size,_,I.laid (t':=s.toks) kp (Qb _) (show kE X.prog X.w _ h' _ (.lst ys) from ⟨hz,its,c',r',e⟩),rfl,q _ (I.hok.fresh (Qb _))⟩
 rcases hq with hq | hq
 ·obtain⟨its,r',pl,hz⟩:=I.list hq
  have hlen:=r'.length;obtain⟨o,ho,hc,n,hd⟩:=pl.isList;exact call_list_seq p (.inl rfl) ho hc hd (fun h' c' kp e=>fin its r' hz h' c' kp e) (by simp only[Qf]<;>omega)
 ·obtain⟨its,r',pl,hz⟩:=I.tuple hq
  have hlen:=r'.length;obtain⟨o,ho,hc,n,hd⟩:=pl;exact call_list_seq p (.inr rfl) ho hc hd (fun h' c' kp e=>fin its r' hz h' c' kp e) (by simp only[Qf]<;>omega)
theorem nH:uO X (.type "tuple") (fun xs H Q=>∃ p ys,xs=[.ref p]/\((SqL X.K H p ys/\∀ l,H l=none->Q (.ref l) (upd H l (.tup ys)))∨(SqT X.K H p ys/\Q (.ref p) H))):=by
 intro pins s σ H xs us Q I r h;obtain⟨p,ys,rfl,h⟩:=h;obtain⟨u,rfl,rx⟩:=zBS r;cases rx;rcases h with⟨hq,q⟩ | ⟨hq,q⟩
 ·obtain⟨its,r',pl,hz⟩:=I.list hq
  have hlen:=r'.length;refine call_tuple_list pl.isList (fun h' kp=>?_) (by simp only[Qf]<;>omega)
  have I1:Inv X pins σ H { s with heap:=h' }:=I.kept (t':=s.toks) kp
  have I2:Inv X pins σ (upd H h'.objs.size (.tup ys)) { s with heap:=h'.push { cls:=.type "tuple", data:=.seq its.toArray } }:=
   I1.laid (t':=s.toks) (fun b o e=>Heap.get?_push_of_some _ e) (Qb _) (show kE X.prog X.w _ _ _ (.tup ys) from ⟨hz,its,r',IsTup.new _ _⟩)
  exact⟨.ref h'.objs.size,_,I2,rfl,q _ (I1.hok.fresh (Qb _))⟩
 ·obtain⟨its,r',pl,hz⟩:=I.tuple hq
  exact call_tuple_same pl ⟨.ref p,H,I,rfl,q⟩
def tyV(K:PySem.W.Frag)(T:String)(x:V)(H:Hp):Prop:=match x with
 | .str _=>T = "str"
 | .int _=>T = "int"
 | .ref p=>(T = "list" /\ ∃ xs,SqL K H p xs)∨(T = "tuple" /\ ∃ o,K.lookup p=some o/\o.cls=.type "tuple" /\ o.dict=none)∨
   (T = "dict" /\ ((∃ kvs,H p=some (.dK kvs))∨∃ kvs,H p=some (.dT kvs)))∨(T = "set" /\ ∃ S n,H p=some (.set S n))
 | _=>False
theorem zMn{pins:List (Addr×Obj)}{σ:St}{H:Hp}{s:Shared}{T:String}{x:V}{v:Value}(I:Inv X pins σ H s)(r:cO x v)(ty:tyV X.K T x H):
  s.TypeIs v T/\∀ a,v=.ref a->∃ ob,s.heap.get? a=some ob/\ob.dict=none:=by
 cases x with
 | str z=>
  obtain⟨t,rfl⟩:=r;cases (show T = "str" from ty)
  exact⟨typeIs_str s z t,fun _ e=>nomatch e⟩
 | int i=>
  obtain⟨t,rfl⟩:=r;cases (show T = "int" from ty)
  exact⟨typeIs_int s i t,fun _ e=>nomatch e⟩
 | ref p=>
  cases r;rcases ty with⟨rfl,xs,hq⟩ | ⟨rfl,o,hk,hc,hd⟩ | ⟨rfl,hk⟩ | ⟨rfl,S,n,hk⟩
  ·obtain⟨its,_,pl,_⟩:=I.list hq
   refine⟨pl.isList.typeIs,fun a e=>?_⟩
   cases e;obtain⟨o,n,e,c,hd,_⟩:=pl;exact⟨o,e,hd⟩
  ·refine⟨⟨o,I.kIn p o hk,hc⟩,fun a e=>?_⟩
   cases e;exact⟨o,I.kIn _ o hk,hd⟩
  ·have z:∃ o,s.heap.get? p=some o/\o.ExactDict:=by
    rcases hk with⟨kvs,hk⟩ | ⟨kvs,hk⟩
    ·obtain⟨_,_,_,_,o,_,_,e,ex,_⟩:=I.hok p _ hk
     exact⟨o,e,ex⟩
    ·obtain⟨_,_,_,_,o,_,_,e,ex,_⟩:=I.hok p _ hk
     exact⟨o,e,ex⟩
   obtain⟨o,e,ex⟩:=z;refine⟨⟨o,e,ex.1⟩,fun a e2=>?_⟩
   cases e2;exact⟨o,e,ex.2.1⟩
  ·obtain⟨o,_,_,_,e,ex,_⟩:=I.hok p _ hk
   refine⟨⟨o,e,ex.1⟩,fun a e2=>?_⟩
   cases e2;exact⟨o,e,ex.2.1⟩
 | _=>exact False.elim ty
abbrev tBM(K:PySem.W.Frag)(T:String)(r:V->List V->Hp->VK->Prop)(to:TE)(t:TA):TE:=fun σ H Q=>to σ H fun x H1=>tyV K T x H1/\t σ H1 fun xs H2=>r x xs H2 Q
variable{o e:Expr}{es:List Expr}{to:TE}{t:TA}{name:Str}{apos cpos:Pos}{T id:String}{r:V->List V->Hp->VK->Prop}
theorem zHX(pa:PlainAttrs T)(slot:Slot T name id)(hty:typeOf (.builtin id)=pure (.type "method_descriptor"))(hm:MtR X id r)(ho:PE X o to)(ha:PA X (e::es) t)
  (hbase:attributeBase o name X.env (eval o X.env)=eval o X.env:=by rfl)
  (hfew:((backTo cpos (starEach (e::es) X.env)).all (fun x=>!x.1) && (backToKw cpos (keywordEach [] X.env)).all (fun x=>x.1.isSome)
   && decide ((e::es).length+([]:List Keyword).length+(if ([]:List Keyword).isEmpty then 0 else 1)<30))=true:=by rfl)
  (hline:(apos.endLine==cpos.line)=true:=by rfl) (hs:starEach (e::es) X.env=(false,eval e X.env)::starEach es X.env:=by rfl) (hplain:(backTo cpos (starEach es X.env)).any (·.1)=false:=by rfl):
  PE X (.Call (.Attribute o name apos) (e::es) [] cpos) (tBM X.K T r to t):=by
 intro pins s σ H Q I h;refine wpAny_Call_method_late hbase hfew hline rfl (thn (ho pins s σ H _ I h) fun v s1 ⟨x,H1,I1,r1,ty,q1⟩=>?_)
 obtain⟨h1,h2⟩:=zMn I1 r1 ty;refine⟨T,id,pa,slot,hty,h1,h2,?_⟩
 have hA:=ha cpos pins s1 σ H1 _ I1 q1;rw[hs] at hA ⊢
 refine Calls.callWith_builtin (by show(false || (backTo cpos (starEach es X.env)).any (·.1))=false;rw[hplain]<;>rfl) (Calls.evalArgs_plain ?_)
 exact thn hA fun us s2 ⟨vs,H2,I2,r2,q2⟩=>hm pins s2 σ H2 x vs v us Q I2 r1 r2 q2
end
def MtM(X:Cx)(id:String)(r:V->List V->Hp->VK->Prop):Prop:=
 ∀(pins:List (Addr×Obj))(s:Shared)(σ:St)(H:Hp)(x:V)(xs:List V)(v:Value)(us:List Value)(Q:VK),Inv X pins σ H s->cO x v->dD xs us->r x xs H Q->
  wpAny (model X.prog X.w) X.A (call (.builtin id) (v::us)) (EP X pins σ Q) X.xe s
theorem dD.one:∀ {x:V} {us:List Value},dD [x] us->∃ u,us=[u]/\cO x u
 | _,_,.cons r .nil=>⟨_,rfl,r⟩
theorem dD.eraseIdx:∀ {xs:List V} {us:List Value} (i:Nat),dD xs us->dD (xs.eraseIdx i) (us.eraseIdx i)
 | _,_,_,.nil=>.nil
 | _,_,0,.cons _ t=>t
 | _,_,i+1,.cons r t=>.cons r (dD.eraseIdx i t)
theorem dD.rep{xs:List V}{us:List Value}(h:dD xs us):∀ k:Nat,dD (List.replicate k xs).flatten (List.replicate k us).flatten
 | 0=>.nil
 | k+1=>by
  rw[Xh,Xh,Xv,Xv];exact dD.append h (dD.rep h k)
theorem zAn{α:Type}:∀(l:List α)(i:Nat),(l.eraseIdx i).length<=l.length
 | [],_=>Qb _
 | _::_,0=>Nat.le_succ _
 | _::r,i+1=>V7 (zAn r i)
theorem zAL(its:List Value):∀(k:Nat)(acc:List Value),
  List.foldl (fun x1 x2=>x1++x2) acc.toArray (List.replicate k its.toArray)=(acc++(List.replicate k its).flatten).toArray
 | 0,acc=>by simp
 | k+1,acc=>by
  have e:acc.toArray++its.toArray=(acc++its).toArray:=by simp
  have e2:(acc++its)++(List.replicate k its).flatten=acc++(List.replicate (k+1) its).flatten:=by
   rw[Xh,Xv,Xi]
  rw[<-e2,<-zAL its k (acc++its),<-e,Xh,List.foldl_cons]
section
variable{X:Cx}{pins:List (Addr×Obj)}{σ:St}{H:Hp}{s:Shared}{l b:Addr}{xs ys zs:List V}
theorem Inv.lset{its its':List Value}{n:Nat}{f:Array Value->Array Value}{t':Nat}(I:Inv X pins σ H s)(hH:H l=some (.lst xs))
  (e:s.heap.get? l=some { cls:=.type "list", data:=.seq its.toArray n }) (hf:f its.toArray=its'.toArray) (hv:dD ys its') (hz:ys.length<=sizeLine):
  Inv X pins σ (upd H l (.lst ys)) { s with heap:=s.heap.update l (Obj.mapSeq f),toks:=t' }:=by
 have q:=PySem.IsL.update e f;rw[hf] at q;refine I.write (x:=l) (e:=l) (by rw[hH];exact trivial) (.inl rfl) (fun b' u hb hu=>(Heap.get?_update_other s.heap (Obj.mapSeq f) (Ne.symm hb)).trans hu) ⟨_,q⟩ ?_
 exact⟨hz,its',_,hv,q⟩
theorem Inv.lnew{its:List Value}{t':Nat}(I:Inv X pins σ H s)(hv:dD ys its)(hz:ys.length<=sizeLine):
  Inv X pins σ (upd H s.heap.objs.size (.lst ys)) { s with heap:=s.heap.push { cls:=.type "list", data:=.seq its.toArray },toks:=t' }:=
 I.laid (fun _ _ q=>Heap.get?_push_of_some _ q) (Qb _) ⟨hz,its,0,hv,Heap.get?_push_size _ rfl⟩
theorem Inv.fresh(I:Inv X pins σ H s):H s.heap.objs.size=none:=I.hok.fresh (Qb _)
theorem Inv.lstM(I:Inv X pins σ H s)(hH:H l=some (.lst xs)):xs.length<=sizeLine/\∃(its:List Value)(n:Nat),dD xs its/\xs.length=its.length/\s.heap.get? l=some { cls:=.type "list", data:=.seq its.toArray n }:=by
 obtain⟨z,its,n,r,e⟩:=I.hok l _ hH;exact⟨z,its,n,r,r.length,e⟩
theorem zCX{n:Nat}(h:n<=sizeLine):Builtin.List.listTooLong n=false:=by
 unfold Builtin.List.listTooLong;exact decide_eq_false (by omega)
end
section
variable{X:Cx}
def zKg:V->List V->Hp->VK->Prop:=fun x vs H Q=>∃ l xs y,x=.ref l/\vs=[y]/\H l=some (.lst xs)/\xs.length<sizeLine/\Q .non (upd H l (.lst (xs++[y])))
theorem nR:MtM X "list.append" zKg:=by
 intro pins s σ H x vs v us Q I rx rv h;obtain⟨l,xs,y,rfl,rfl,hH,hz,q⟩:=h;cases rx;obtain⟨u,rfl,ru⟩:=rv.one;obtain⟨z,its,n,r,hl,e⟩:=I.lstM hH;refine call_meets F.slot_list_append ⟨_,e,rfl⟩ F.entry_list_append (F.args_list_append_2 _ _) (PySem.list_append l its.toArray n u (by rw[Qf];omega)) ⟨e,?_⟩
 refine⟨.non,_,I.lset (its':=its++[u]) hH e (by simp) (r.append (.cons ru .nil)) ?_,rfl,q⟩
 rw[Qm,X7];omega
def zKl:V->List V->Hp->VK->Prop:=fun x vs H Q=>∃ l b xs zs,x=.ref l/\vs=[.ref b]/\H l=some (.lst xs)/\H b=some (.lst zs)/\xs.length+zs.length<=sizeLine/\Q .non (upd H l (.lst (xs++zs)))
theorem zFD:MtM X "list.extend" zKl:=by
 intro pins s σ H x vs v us Q I rx rv h;obtain⟨l,b,xs,zs,rfl,rfl,hH,hB,hz,q⟩:=h;cases rx;obtain⟨u,rfl,ru⟩:=rv.one;cases ru;obtain⟨z,its,n,r,hl,e⟩:=I.lstM hH;obtain⟨z2,its2,n2,r2,hl2,e2⟩:=I.lstM hB;have hsz:its.toArray.size+its2.toArray.size<=sizeLine:=by rw[Qf,Qf];omega
 have hlong:¬ (!its.toArray.isEmpty && Builtin.List.listTooLong (its.toArray.size+its2.toArray.size))=true:=by
  rw[zCX hsz,Bool.and_false];exact X3
 refine call_meets F.slot_list_extend ⟨_,e,rfl⟩ F.entry_list_extend (F.args_list_extend_2 _ _)
  (AutoSeq1.list_extend_list_list_0 l its.toArray n b its2.toArray n2 hlong (by rw[Qf];omega) (by omega)) ⟨e,e2,?_⟩
 refine⟨.non,_,I.lset (its':=its++its2) hH e (by simp) (r.append r2) ?_,rfl,q⟩
 rw[Qm];omega
def zNe:V->List V->Hp->VK->Prop:=fun x vs H Q=>∃ l xs i k y,x=.ref l/\vs=[.int i]/\H l=some (.lst xs)/\-(2^63)<=i/\i<2^63/\seqIndex? i xs.length=some k/\xs[k]?=some y/\Q y (upd H l (.lst (xs.eraseIdx k)))
theorem zIe:MtM X "list.pop" zNe:=by
 intro pins s σ H x vs v us Q I rx rv h;obtain⟨l,xs,i,k,y,rfl,rfl,hH,h1,h2,hk,hy,q⟩:=h;cases rx;obtain⟨u,rfl,ru⟩:=rv.one;obtain⟨t,rfl⟩:=ru;obtain⟨z,its,n,r,hl,e⟩:=I.lstM hH;obtain⟨w,hw,rw'⟩:=r.get hy
 refine call_meets F.slot_list_pop ⟨_,e,rfl⟩ F.entry_list_pop (F.args_list_pop_2 _ _)
  (MeetsSeq.list_pop_at l its.toArray n i t k w (fitsIndex_both h1 h2) (by rw[Qf,<-hl];exact hk) (by rw[<-Ui];exact hw) (by rw[Qf];omega)) ⟨e,?_⟩
 refine⟨y,_,I.lset (its':=its.eraseIdx k) hH e ?_ (r.eraseIdx k) ?_,rw',q⟩
 ·show its.toArray.eraseIdxIfInBounds k=(its.eraseIdx k).toArray
  rw[List.eraseIdxIfInBounds_toArray]
 ·have:=zAn xs k
  omega
def zPj:R2:=fun x y H Q=>∃ l k xs,x=.ref l/\y=.int k/\H l=some (.lst xs)/\-(2^63)<=k/\k<2^63/\xs.length*k.toNat<=sizeLine/\
 ∀ p,H p=none->Q (.ref p) (upd H p (.lst (List.replicate k.toNat xs).flatten))
theorem zKd{α:Type}(xs:List α)(k:Nat):(List.replicate k xs).flatten.length=k*xs.length:=by
 induction k with
 | zero=>simp
 | succ k ih=>rw[Xh,Xv,Qm,ih,Nat.succ_mul,Uj]
theorem zMo:OpR X (binaryOp .Mult) zPj:=by
 intro pins s σ H x y v u Q I rx ry h;obtain⟨l,k,xs,rfl,rfl,hH,h1,h2,hz,q⟩:=h;cases rx;obtain⟨t,rfl⟩:=ry;obtain⟨z,its,n,r,hl,e⟩:=I.lstM hH;have hlen:its.toArray.size*k.toNat<=sizeLine:=by rw[Qf,<-hl];exact hz
 have hcap:¬ its.toArray.size*k.toNat > (2^63-1) / 8:=by
  have:(sizeLine:Nat)<=(2^63-1) / 8:=by decide
  omega
 have hfit:¬ (!Builtin.List.listFitsIndex k)=true:=by
  rw[fitsIndex_both h1 h2];exact X3
 have hlong:¬ Builtin.List.listTooLong (its.toArray.size*k.toNat)=true:=by
  rw[zCX hlen];exact X3
 have hnew:List.foldl (fun x1 x2=>x1++x2) #[] (List.replicate (if its.toArray.isEmpty=true then 0 else k.toNat) its.toArray)=(List.replicate k.toNat its).flatten.toArray:=by
  have f0:∀ m:Nat,List.foldl (fun x1 x2=>x1++x2) #[] (List.replicate m its.toArray)=(List.replicate m its).flatten.toArray:=fun m=>by
   have:=zAL its m []
   rw[Yy] at this;exact this
  rw[f0]
  cases its with
  | nil=>simp
  | cons a r'=>rw[if_neg (by simp)]
 refine wpAny_binaryOp_repeat_ref (T := "list") (U := "int") (by decide) ⟨_,e,rfl⟩ (fun s'=>typeIs_int s' k t) noFill_list_mul F.fills_int_mul F.slot_int_rmul repeat_list F.slot_int_index.lookup
  (call_meets F.slot_int_rmul (typeIs_int s k t) F.entry_int_rmul (F.args_int_rmul_2 _ _) (int___rmul___int_list k t l its.toArray n)
   ⟨e,rfl,⟨_,e,rfl⟩,call_meets F.slot_list_mul ⟨_,e,rfl⟩ F.entry_list_mul (F.args_list_mul_2 _ _) (AutoListH.list___mul___list_int_3 l its.toArray n k t hfit hcap hlong) ⟨e,?_⟩⟩)
 rw[hnew];exact⟨.ref _,_,I.lnew (t':=s.toks) (r.rep k.toNat) (by rw[zKd,Nat.mul_comm];exact hz),rfl,q _ I.fresh⟩
end
section
variable{prog:Program}{w:World}{A:Around}{E:Value->Shared->Prop}{s:Shared}
set_option maxRecDepth 100000 in
end
section
variable{X:Cx}
end
end L2
namespace Att
open PySem PySem.W PySem.Calls PyProof.Rows
theorem sB{P:Params}{h:Heap}:∀(ns:List Int)(vs:List Value),WellAll P h vs (ns.map WData.int)->IntsAre vs ns:=by
 intro ns
 induction ns with
 | nil=>
  intro vs w;rw[Vt] at w;cases w;exact .nil
 | cons n ns ih=>
  intro vs w;rw[Qi] at w
  cases w with
  | cons a b=>
   cases a;exact .cons _ _ (ih _ b)
theorem script_of{l:OpenLaw}{n:Nat}(hn:l.most=some n){P:Params}{h:Heap}{args:List WData}{vals:List Value}
  (hpre:l.row.toRowW.claim.pre args=true) (hwl:WellAll P h vals args):
  ∃ a vs ns,vals=[Value.ref a]/\args=[WData.list (ns.map WData.int)]/\h.get? a=some { cls:=.type "list", data:=.seq vs.toArray }/\IntsAre vs ns/\ns.length<=n:=by
 have hsh:WShape.hasAll [] args [.list .int]=true:=(pre_splitW hpre).1;have hc:l.pre.holds [] { args:=args }=true:=(pre_splitW hpre).2;obtain⟨d,r,rfl,h1,h2⟩:=hasAllW_cons hsh;obtain rfl:=hasAllW_nil h2;obtain⟨xs,rfl,h3⟩:=hasW_list h1;obtain⟨ns,rfl⟩:=items_int h3
 have hlen:ns.length<=n:=by
  unfold OpenLaw.pre at hc
  have h4:(WTm.not (.lt (.lit (.int (n:Int))) (.len (.arg 0)))).holds [] { args:=[.list (ns.map .int)] }=true:=by
   have h4:=(holds_andW hc).1;rw[hn] at h4;exact h4
  have h5:=condW_of h4 (w_not (w_lt w_lit (w_len_list (w_arg rfl))));rw[Qh] at h5;refine Nat.le_of_not_lt fun q=>?_
  have q':(n:Int)<((ns.length:Nat):Int):=by omega
  first
   | (rw[decide_eq_true q'] at h5;exact absurd h5 (by decide))
   | (simp at h5;omega)
 cases hwl with
 | cons w1 w2=>
  cases w2
  cases w1 with
  | list ho hall=>exact⟨_,_,ns,rfl,rfl,ho,sB ns _ hall,hlen⟩
theorem post_true(l:OpenLaw)(args:List WData):l.row.toRowW.claim.post args (.bool true) args=true:=
 postW_of (r:=l.row.toRowW) (X:=(true==true))
  (show WShape.has [] (.bool true) .bool=true by first | rfl | decide | simp[WShape.has,WShape.arms,WShape.armsAll])
  (show(WTm.eq .res (.lit (.bool true))).value [] { args:=args,res:=some (.bool true),after:=args }=some (.bool (true==true)) from w_eq_bool (w_res rfl) w_lit) rfl
section
variable{prog:Program}{w:World}{A:Around}{E:Value->Shared->Prop}{s:Shared}{K:Frag}
end
end Att
namespace L2
open PySem PySem.Spec PyProof.Rows
theorem zP:∀ {vs:List Value} {ns:List Int},IntsAre vs ns->dD (ns.map V.int) vs
 | _,_,.nil=>.nil
 | _,_,.cons n t h=>.cons ⟨t,rfl⟩ (zP h)
def zPr(H:Hp):Prop:=∀ b,H b=none∨∃ o xs,H b=some (.frz o (.lst xs))
def iR(s:Stmt):Arguments:=match s with
 | .FunctionDef _ a _ _ _ _ _ _ _ _=>a
 | _=>{ posonlyargs:=[],args:=[],vararg:=none,kwonlyargs:=[],kw_defaults:=[],kwarg:=none,defaults:=[] }
def eA(s:Stmt):List Stmt:=match s with
 | .FunctionDef _ _ b _ _ _ _ _ _ _=>b
 | _=>[]
def aE(s:Stmt):Scope:=match s with
 | .FunctionDef _ _ _ _ _ _ sc _ _ _=>sc
 | _=>{ kind:=.function,names:=[],isGenerator:=false,isCoroutine:=false }
structure Fun (K:PySem.W.Frag) (x qual:Str) (st:Stmt) (f:Addr) (fd:FuncData):Prop where
 ex:∃(oc:Value)(od:Option Addr)(kV doc pm:Value)(an:Option Addr)(cdv ct:Value)(osl:Array (Option Value)),
  fd=PySem.W.fnOf x qual (iR st) (eA st) (aE st) .none kV doc pm an cdv ct/\K.lookup f=some ⟨oc,od,.func fd,osl⟩/\PySem.W.codeIn K cdv qual=true
 kp:PySem.W.keepIn K (.ref f)=true
section
variable{P:Program}{w:World}{K:Fg_}{mg:Str->Option Value}{base:Heap}
theorem Fun.binds{x qual:Str}{st:Stmt}{f:Addr}{fd:FuncData}{ps:List Str}(F:Fun K x qual st f fd)
  (h:∀(kV doc pm:Value)(an:Option Addr)(cdv ct:Value)(us:List Value),us.length=ps.length->bindArgs (PySem.W.fnOf x qual (iR st) (eA st) (aE st) .none kV doc pm an cdv ct) ⟨us,[]⟩=pure (ps.zip us)):zE K fd ps []:=by
 obtain⟨oc,od,kV,doc,pm,an,cdv,ct,osl,rfl,lk,hcd⟩:=F.ex;exact .all (h kV doc pm an cdv ct)
theorem uR{x qual:Str}{st:Stmt}{f:Addr}{oc:Value}{od an:Option Addr}{osl:Array (Option Value)}{kV doc pm cdv ct:Value}(l:K.lookup f=some ⟨oc,od,.func (PySem.W.fnOf x qual (iR st) (eA st) (aE st) .none kV doc pm an cdv ct),osl⟩)
  (c:PySem.W.codeIn K cdv qual=true) (k:PySem.W.keepIn K (.ref f)=true):Fun K x qual st f (PySem.W.fnOf x qual (iR st) (eA st) (aE st) .none kV doc pm an cdv ct):=⟨⟨oc,od,kV,doc,pm,an,cdv,ct,osl,rfl,l,c⟩,k⟩
end
section
variable{X:Cx}
theorem pv(i:Nat){x:Str}{pos:Pos}(hN:X.N[i]?=some x:=by rfl)(hv:Vis X.env.scope x:=by first | exact Or.inl rfl | exact Or.inr (Or.inl rfl) | exact Or.inr (Or.inr rfl))(hd:(x==("__debug__" : Str))=false:=by decide)
  (hcd:(x==("__classdict__" : Str))=false:=by decide):PE X (.Name x pos) (zAY i):=sW hN hv hd hcd
end
def Same(H H':Hp):Prop:=∀ b o,H b=some o->H' b=some o
theorem Same.refl(H:Hp):Same H H:=fun _ _ h=>h
theorem Same.trans{H H1 H2:Hp}(a:Same H H1)(b:Same H1 H2):Same H H2:=fun c o h=>b c o (a c o h)
end L2
set_option maxHeartbeats 4000000
set_option exponentiation.threshold 20000
namespace L2
open PySem PySem.Spec PyProof.Rows
section
variable{X:Cx}
variable{tg:Expr}
end
section
variable{P:Program}{w:World}{H H':Hp}{h:Heap}{a:Addr}{o:HO}
theorem kE.here(x:kE P w H h a o):∃ ob,h.get? a=some ob:=by
 cases o with
 | lst xs=>obtain⟨_,_,_,_,e⟩:=x;exact⟨_,e⟩
 | tup xs=>obtain⟨_,_,_,e⟩:=x;obtain⟨ob,e,_⟩:=e;exact⟨_,e⟩
 | dK kvs=>obtain⟨_,_,_,_,e⟩:=x;obtain⟨ob,_,_,e,_⟩:=e;exact⟨_,e⟩
 | dT kvs=>obtain⟨_,_,_,_,ob,_,_,e,_⟩:=x;exact⟨_,e⟩
 | set S n=>obtain⟨ob,_,_,_,e,_⟩:=x;exact⟨_,e⟩
 | ins C dx fs=>obtain⟨_,_,_,e,_⟩:=x;exact⟨_,e⟩
 | own y=>exact x
 | xd fs=>obtain⟨_,⟨ob,_,_,e,_⟩,_⟩:=x;exact⟨_,e⟩
 | met f y=>exact⟨_,x⟩
 | rng lo hi=>obtain⟨_,_,_,e⟩:=x;exact⟨_,e⟩
 | frz ob u=>exact⟨_,x.1⟩
 | tbl ps=>exact⟨_,x⟩
 | ext φ=>exact x.2.1
theorem HOk.none_of(ok:HOk P w H h)(e:h.get? a=none):H a=none:=by
 cases q:H a with
 | none=>rfl
 | some o=>
  obtain⟨ob,z⟩:=(ok a o q).here;rw[e] at z;cases z
end
structure Fly (P:Program) (w:World) (l:List Env) (H H':Hp) (s:Shared) (ea:Addr) (cls:Value) (s':Shared):Prop where
 os:s'.os=s.os
 bare:AllBare s'.gens
 un:Un (frs l) [] H H' s.heap s'.heap
 hok:HOk P w H' s'.heap
 ne:H' ea=none
 new:s.heap.get? ea=none
 fly:∃ B a0,Heap.FlyingW B l ea cls a0 s'.heap/\(∀ b o,s'.heap.get? b=some o->((∃ o',s.heap.get? b=some o')∨H' b≠none)->b∉frs l->B.get? b=some o)
def CX1(P:Program)(w:World):CXT:=fun outer H s E e s'=>∃ ea cls H',e=.ref ea/\Fly P w outer H H' s ea cls s'/\E cls none H'
structure Own (X:Cx):Prop where
 stk:X.stack=X.env::X.outer
 fr:X.env.frame=some X.env.locals
 ex:X.ex=[]
section
variable{X:Cx}{pins:List (Addr×Obj)}{σ:St}{H H':Hp}{s s':Shared}{ea:Addr}{cls:Value}
theorem zCv(O:Own X):frs X.stack=X.env.locals::X.fs:=by
 rw[O.stk];show List.filterMap _ (_::_)=_
 rw[Yv,O.fr];rfl
theorem Inv.there0(I:Inv X pins σ H s)(O:Own X){b:Addr}{o:Obj}(e:X.s₀.heap.get? b=some o):∃ o',s.heap.get? b=some o':=I.base.there b o e (by rw[O.ex];simp)
theorem Inv.ne0(I:Inv X pins σ H s){b:Addr}{o:Obj}(e:X.s₀.heap.get? b=some o):b≠X.env.locals:=Qo (Ql (Heap.lt_size e) I.ok.above)
theorem Fly.leave(I:Inv X pins σ H s)(O:Own X)(F:Fly X.prog X.w X.stack H H' s ea cls s'){h':Heap}{B:Heap}{a0:Value}
  (hf:Heap.FlyingW B X.stack ea cls a0 s'.heap) (cov:∀ b o,s'.heap.get? b=some o->((∃ o',s.heap.get? b=some o')∨H' b≠none)->b∉frs X.stack->B.get? b=some o)
  (hf':Heap.FlyingW B X.outer ea cls a0 h') (up:s'.heap.UpToSlots h'):Fly X.prog X.w X.outer X.H₀ H' X.s₀ ea cls { s' with heap:=h' }:=by
 have fst:frs X.stack=X.env.locals::X.fs:=zCv O;have nin:∀ {b:Addr},b≠X.env.locals->b∉X.fs->b∉frs X.stack:=fun h1 h2=>by rw[fst];simp[h1,h2]
 have trk:∀ {b:Addr},H' b≠none->b∉frs X.stack:=fun {b} hb hm=>by
  have h1:=I.stkFree b hm;obtain⟨_,o,ho,_⟩:=I.stack.mem hm;exact hb (F.un.free b o ho h1 (by simp))
 have keepB:∀ {b:Addr} {o:Obj},s'.heap.get? b=some o->((∃ o',s.heap.get? b=some o')∨H' b≠none)->b∉frs X.stack->h'.get? b=some o:=fun e1 e2 e3=>hf'.1 _ _ (cov _ _ e1 e2 e3)
 have slotOf:∀ {b:Addr} {o:Obj},b∈frs X.stack->s'.heap.get? b=some o->∃ sl,h'.get? b=some { o with slots:=sl }:=fun {b o} hm e=>by
  obtain⟨_,o',ho',hn⟩:=hf.2.2.1.mem hm;rw[e] at ho';cases ho'
  exact up b o e hn
 refine⟨F.os.trans I.os,F.bare,⟨?_,?_,?_,?_,?_,?_,?_⟩,?_,F.ne,?_,⟨B,a0,hf',?_⟩⟩
 ·intro b o e n hb hx
  have e1:=I.base.keep b o e n hb (by rw[O.ex];simp)
  have n1:=I.base.free b o e n (by rw[O.ex];simp)
  have hs:b∉frs X.stack:=nin (I.ne0 e) hb;exact keepB (F.un.keep b o e1 n1 hs (by simp)) (.inl ⟨o,e1⟩) hs
 ·intro b o e n hb hx
  obtain⟨sl,e1⟩:=I.base.slot b o e n hb (by rw[O.ex];simp)
  have n1:=I.base.free b o e n (by rw[O.ex];simp)
  have hs:b∈frs X.stack:=by rw[fst];exact Qd _ hb
  obtain⟨sl2,e2⟩:=F.un.slot b _ e1 n1 hs (by simp)
  obtain⟨sl3,e3⟩:=slotOf hs e2;exact⟨sl3,e3⟩
 ·intro b o e n hx
  obtain⟨o1,e1⟩:=I.there0 O e;exact F.un.free b o1 e1 (I.base.free b o e n (by rw[O.ex];simp)) (by simp)
 ·intro b o e hx
  obtain⟨o1,e1⟩:=I.there0 O e;obtain⟨o2,e2⟩:=F.un.there b o1 e1 (by simp)
  by_cases hs:b∈frs X.stack
  ·obtain⟨sl,e3⟩:=slotOf hs e2
   exact⟨_,e3⟩
  ·exact⟨o2,keepB e2 (.inl ⟨o1,e1⟩) hs⟩
 ·exact fun b xs e=>F.un.tups b xs (I.base.tups b xs e)
 ·exact fun b o u e=>F.un.frzs b o u (I.base.frzs b o u e)
 ·intro b ps e
  obtain⟨m1,e1⟩:=I.base.tbls b ps e;obtain⟨m2,e2⟩:=F.un.tbls b _ e1;exact⟨m1++m2,by rw[e2,Array.append_assoc]⟩
 ·intro a o e
  refine(F.hok a o e).stay (fun b u hb z=>?_) (fun b z=>z) (fun b xs z=>z)
  have hb':H' b≠none:=by
   rcases hb with rfl | hb
   ·rw[e];simp
   ·rw[hb];simp
  exact keepB z (.inr hb') (trk hb')
 ·show X.s₀.heap.get? ea=none
  cases q:X.s₀.heap.get? ea with
  | none=>rfl
  | some o=>
   obtain⟨o1,e1⟩:=I.there0 O q;rw[F.new] at e1;cases e1
 ·intro b o e c hb
  have c':(∃ o',s.heap.get? b=some o')∨H' b≠none:=by
   rcases c with⟨o',c⟩ | c
   ·exact .inl (I.there0 O c)
   ·exact .inr c
  have hs:b∉frs X.stack:=by
   rcases c with⟨o',c⟩ | c
   ·exact nin (I.ne0 c) hb
   ·exact trk c
  have ex:∃ o2,s'.heap.get? b=some o2:=by
   rcases c' with⟨o',c1⟩ | c1
   ·exact F.un.there b o' c1 (by simp)
   ·cases q:H' b with
    | none=>exact absurd q c1
    | some u=>exact(F.hok b u q).here
  obtain⟨o2,e2⟩:=ex;have z:=keepB e2 c' hs;have z':h'.get? b=some o:=e;rw[z] at z';cases z'
  exact cov b o e2 c' hs
end
section
variable{X:Cx}{pins:List (Addr×Obj)}{σ:St}{H H':Hp}{s s':Shared}{ea:Addr}{cls:Value}
theorem zMe(l:List Env):∀ env∈l,∀ b,env.frame=some b->b∈frs l:=fun env he b hb=>Ud.mpr ⟨env,he,hb⟩
theorem Fly.made(I:Inv X pins σ H s)(O:Own X){vs:List Value}(hx:Heap.MadeExcOf s.heap s'.heap ea cls vs)(hos:s'.os=s.os)(hg:AllBare s'.gens){h':Heap}{t:Addr}
  (hf':Heap.FlyingW (PySem.W.hideAll s.heap (frs X.stack)) X.outer ea cls (.ref t) h') (up:s'.heap.UpToSlots h'):Fly X.prog X.w X.outer X.H₀ H X.s₀ ea cls { s' with heap:=h' }:=by
 have fst:frs X.stack=X.env.locals::X.fs:=zCv O;have nin:∀ {b:Addr},b≠X.env.locals->b∉X.fs->b∉frs X.stack:=fun h1 h2=>by rw[fst];simp[h1,h2]
 have trk:∀ {b:Addr},H b≠none->b∉frs X.stack:=fun {b} hb hm=>hb (I.stkFree b hm)
 have keepB:∀ {b:Addr} {o:Obj},s.heap.get? b=some o->b∉frs X.stack->h'.get? b=some o:=fun e1 e3=>hf'.1 _ _ (Uc _ e1 e3)
 have slotOf:∀ {b:Addr} {o:Obj},b∈frs X.stack->s.heap.get? b=some o->∃ sl,h'.get? b=some { o with slots:=sl }:=fun {b o} hm e=>by
  obtain⟨_,o',ho',hn⟩:=I.stack.mem hm;rw[e] at ho';cases ho'
  exact up b o (hx.keeps b o e) hn
 refine⟨hos.trans I.os,hg,⟨?_,?_,?_,?_,?_,?_,?_⟩,?_,?_,?_,⟨_,_,hf',?_⟩⟩
 ·intro b o e n hb hx'
  exact keepB (I.base.keep b o e n hb (by rw[O.ex];simp)) (nin (I.ne0 e) hb)
 ·intro b o e n hb hx'
  obtain⟨sl,e1⟩:=I.base.slot b o e n hb (by rw[O.ex];simp)
  have hs:b∈frs X.stack:=by rw[fst];exact Qd _ hb
  obtain⟨sl3,e3⟩:=slotOf hs e1;exact⟨sl3,e3⟩
 ·exact fun b o e n hx'=>I.base.free b o e n (by rw[O.ex];simp)
 ·intro b o e hx'
  obtain⟨o1,e1⟩:=I.there0 O e;by_cases hs:b∈frs X.stack
  ·obtain⟨sl,e3⟩:=slotOf hs e1
   exact⟨_,e3⟩
  ·exact⟨o1,keepB e1 hs⟩
 ·exact fun b xs e=>I.base.tups b xs e
 ·exact fun b o u e=>I.base.frzs b o u e
 ·exact fun b ps e=>I.base.tbls b ps e
 ·intro a o e
  refine(I.hok a o e).stay (fun b u hb z=>?_) (fun b z=>z) (fun b xs z=>z)
  have hb':H b≠none:=by
   rcases hb with rfl | hb
   ·rw[e];simp
   ·rw[hb];simp
  exact keepB z (trk hb')
 ·exact I.hok.none_of hx.new
 ·show X.s₀.heap.get? ea=none
  cases q:X.s₀.heap.get? ea with
  | none=>rfl
  | some o=>
   obtain⟨o1,e1⟩:=I.there0 O q;rw[hx.new] at e1;cases e1
 ·intro b o e c hb
  have hs:b∉frs X.stack:=by
   rcases c with⟨o',c⟩ | c
   ·exact nin (I.ne0 c) hb
   ·exact trk c
  have ex:∃ o2,s.heap.get? b=some o2:=by
   rcases c with⟨o',c1⟩ | c1
   ·exact I.there0 O c1
   ·cases q:H b with
    | none=>exact absurd q c1
    | some u=>exact(I.hok b u q).here
  obtain⟨o2,e2⟩:=ex;have z:=keepB e2 hs;have z':h'.get? b=some o:=e;rw[z] at z';cases z'
  exact Uc _ e2 hs
end
section
variable{CX:CXT}{P:Program}{w:World}{K:Fg_}{mg:Str->Option Value}{base:Heap}{N:List Str}{qual:Str}{scope:Scope}{f:Addr}{cd:Value}{A:Around}{outer:List Env}{s₀:Shared}{H₀:Hp}{E:XK}
theorem zFd:Own (zDs CX P w K mg base N qual scope f cd A outer s₀ H₀ E):=⟨rfl,rfl,rfl⟩
theorem zNN{E':XK}(h:∀ c H',E' c none H'->E c none H'):zCJ (CX1 P w) (zDs (CX1 P w) P w K mg base N qual scope f cd A outer s₀ H₀ E) E':=by
 intro pins σ H s e s' I hc;obtain⟨ea,cls,H',rfl,F,q⟩:=hc;obtain⟨B,a0,hf,cov⟩:=F.fly;have O:Own (zDs (CX1 P w) P w K mg base N qual scope f cd A outer s₀ H₀ E):=zFd;exact wpAny_leaves_onW (I.ok.frames.trans (congrArg some O.stk)) O.fr hf fun h' hf' up=>⟨ea,cls,H',rfl,F.leave I O hf cov hf' up,h _ _ q⟩
theorem zBv{pins:List (Addr×Obj)}{σ:St}{H:Hp}{s s':Shared}{ea:Addr}{cls:Value}{vs:List Value}(I:Inv (zDs (CX1 P w) P w K mg base N qual scope f cd A outer s₀ H₀ E) pins σ H s)
  (hx:Heap.MadeExcOf s.heap s'.heap ea cls vs) (hos:s'.os=s.os) (hg:AllBare s'.gens) (q:E cls none H):(zDs (CX1 P w) P w K mg base N qual scope f cd A outer s₀ H₀ E).xe (.ref ea) s':=by
 have O:Own (zDs (CX1 P w) P w K mg base N qual scope f cd A outer s₀ H₀ E):=zFd;have hst:=O.stk
 exact wpAny_leaves_madeW (base:=PySem.W.hideAll s.heap (frs (zDs (CX1 P w) P w K mg base N qual scope f cd A outer s₀ H₀ E).stack)) (h:=s.heap) (I.ok.frames.trans (congrArg some O.stk)) O.fr (fun b o z=>PySem.W.of_hideAll _ z)
  (PySem.W.funFrames_hide (I.stack) (zMe _)) hx fun h' t hf' _ _ up=>⟨ea,cls,H,rfl,Fly.made I O hx hos hg hf' up,q⟩
end
structure Err (K:PySem.W.Frag) (mg:Str->Option Value) (x:Str) (C:Addr):Prop where
 own:∀ h:Heap,K.In h->∃ bm newId B initId,OwnCls x C bm newId mg h/\ExcBaseFacts B newId initId bm
end L2
namespace L3
open PySem
inductive D where
 | non | bl (b:Bool) | int (i:Int) | str (x:Str) | tup (ds:List D) | lst (ds:List D)
inductive Res (α:Type) where
 | ok (a:α) | err (c:Str) | no
def Res.bind{α β:Type}(x:Res α)(f:α->Res β):Res β:=match x with
 | .ok a=>f a
 | .err c=>.err c
 | .no=>.no
theorem Res.ok_bind{α β:Type}{a:α}{f:α->Res β}:(Res.ok a).bind f=f a:=rfl
inductive Sl where
 | un | val (d:D) | own (ds:List D) | exc (c:Str) | tab (T:List (Str×Str))
abbrev Rho:=List Sl
inductive Rt where
 | v (d:D) | f (ds:List D)
def Rt.d:Rt->D
 | .v d=>d
 | .f ds=>.lst ds
inductive Fl where
 | nx (ρ:Rho) | ret (r:Rt) | brk (ρ:Rho) | ctn (ρ:Rho)
abbrev Ev:=Rho->Res D
abbrev Fv:=Rho->Res (List D)
abbrev Tv:=Rho->Res Bool
abbrev Sv:=Rho->Res Fl
abbrev Mir:=List D->Res Rt
mutual
def eqD:D->D->Bool
 | .non,.non=>true
 | .bl a,.bl b=>a==b
 | .bl a,.int b=>(if a then 1 else 0)==b
 | .int a,.bl b=>a==(if b then 1 else 0)
 | .int a,.int b=>a==b
 | .str a,.str b=>a==b
 | .tup ds,.tup es=>uS ds es
 | .lst ds,.lst es=>uS ds es
 | _,_=>false
def uS:List D->List D->Bool
 | [],[]=>true
 | d::ds,e::es=>eqD d e && uS ds es
 | _,_=>false
end
mutual
def dep:D->Nat
 | .tup ds=>depS ds+1
 | .lst ds=>depS ds+1
 | _=>0
def depS:List D->Nat
 | []=>0
 | d::ds=>max (dep d) (depS ds)
end
mutual
def noL:D->Bool
 | .tup ds=>noLs ds
 | .lst _=>false
 | _=>true
def noLs:List D->Bool
 | []=>true
 | d::ds=>noL d && noLs ds
end
theorem rQ:∀ {ds:List D} {d:D},d∈ds->dep d<=depS ds
 | e::ds,d,h=>by
  rw[depS];rcases Qc.mp h with rfl | h
  ·exact Nat.le_max_left ..
  ·exact Qp (rQ h) (Nat.le_max_right ..)
theorem zGR:∀ {ds:List D},noLs ds=true ↔ ∀ d∈ds,noL d=true
 | []=>by simp[noLs]
 | d::ds=>by rw[noLs,Vg,zGR];simp
theorem lQ:∀(ds es:List D),uS ds es=((List.range (min ds.length es.length)).all (fun j=>eqD (ds.getD j .non) (es.getD j .non)) && ds.length==es.length)
 | [],[]=>rfl
 | [],e::es=>by simp[uS]
 | d::ds,[]=>by simp[uS]
 | d::ds,e::es=>by
  rw[uS,lQ ds es];have h:min (d::ds).length (e::es).length=min ds.length es.length+1:=by simp only[Qk];omega
  rw[h,List.range_succ_eq_map];simp[List.all_map,Function.comp_def,Bool.and_assoc]
mutual
theorem rG:∀ d:D,eqD d d=true
 | .non=>rfl
 | .bl b=>by simp[eqD]
 | .int i=>by simp[eqD]
 | .str x=>by simp[eqD]
 | .tup ds=>by rw[eqD];exact rX ds
 | .lst ds=>by rw[eqD];exact rX ds
theorem rX:∀ ds:List D,uS ds ds=true
 | []=>rfl
 | d::ds=>by rw[uS,rG d,rX ds];rfl
end
def nb(i:Int):Nat:=i.natAbs.log2+1
theorem zJu(i:Int):i.natAbs<2^nb i:=Nat.lt_log2_self
theorem zNP{i:Int}{m:Nat}(h:i.natAbs<2^m)(hm:0<m):nb i<=m:=by
 unfold nb;by_cases h0:i.natAbs=0
 ·rw[h0];exact hm
 ·exact(Nat.log2_lt h0).mpr h
def hG(i j:Int):Bool:=(decide (-(2^64)<i) && decide (i<2^64)) || (decide (-(2^64)<j) && decide (j<2^64)) || decide (nb i+nb j<=134217728)
def kF(j:Int):Bool:=decide (j≠0) && decide (nb j<=9000)
def pE(i j:Int):Bool:=decide (0<=j) && decide ((nb i:Int)*j<=2^27)
abbrev Op2:=D->D->Res D
def pJ:Op2
 | .int i,.int j=>.ok (.int (i+j))
 | .tup a,.tup b=>if a.length+b.length<=16777216 then .ok (.tup (a++b)) else .no
 | _,_=>.no
def zPB:Op2
 | .int i,.int j=>.ok (.int (i+j))
 | _,_=>.no
def zAa:Op2
 | .int i,.int j=>.ok (.int (i-j))
 | _,_=>.no
def oO:Op2
 | .int i,.int j=>if hG i j=true then .ok (.int (i*j)) else .no
 | _,_=>.no
def lC:Op2
 | .int i,.int j=>if kF j=true then .ok (.int (i.fdiv j)) else .no
 | _,_=>.no
def jC:Op2
 | .int i,.int j=>if j≠0 then .ok (.int (i.fmod j)) else .no
 | _,_=>.no
def zA:Op2
 | .int i,.int j=>if pE i j=true then .ok (.int (i^j.toNat)) else .no
 | _,_=>.no
def oEq(x y:D):Res D:=if dep x<=50 then .ok (.bl (eqD x y)) else .no
def oNe(x y:D):Res D:=if dep x<=50 then .ok (.bl (!eqD x y)) else .no
def oLt:Op2
 | .int i,.int j=>.ok (.bl (decide (i<j)))
 | _,_=>.no
def oLe:Op2
 | .int i,.int j=>.ok (.bl (decide (i<=j)))
 | _,_=>.no
def oGt:Op2
 | .int i,.int j=>.ok (.bl (decide (j<i)))
 | _,_=>.no
def oGe:Op2
 | .int i,.int j=>.ok (.bl (decide (j<=i)))
 | _,_=>.no
def atD(ds:List D)(i:Int):Option D:=if 0<=i then ds[i.toNat]? else if 0<=(ds.length:Int)+i then ds[((ds.length:Int)+i).toNat]? else none
def ofO{α:Type}:Option α->Res α
 | some a=>.ok a
 | none=>.no
def oIx:Op2
 | .tup ds,.int i=>ofO (atD ds i)
 | .lst ds,.int i=>ofO (atD ds i)
 | _,_=>.no
def oIn:Op2
 | d,.lst ds=>if depS ds<=50 then .ok (.bl (ds.any fun e=>eqD e d)) else .no
 | d,.tup ds=>if depS ds<=50 then .ok (.bl (ds.any fun e=>eqD e d)) else .no
 | _,_=>.no
def zLr:D->Res D
 | .int i=>.ok (.int (-i))
 | _=>.no
def zPf:D->Res D
 | .bl b=>.ok (.bl (!b))
 | _=>.no
def aD(i:Nat)(ρ:Rho):Res D:=match ρ[i]? with
 | some (.val d)=>.ok d
 | _=>.no
def eC(d:D)(_ρ:Rho):Res D:=.ok d
def eOp(o:Op2)(a b:Ev)(ρ:Rho):Res D:=(a ρ).bind fun x=>(b ρ).bind fun y=>o x y
def eUn(o:D->Res D)(a:Ev)(ρ:Rho):Res D:=(a ρ).bind o
def zNx(a b:Ev)(ρ:Rho):Res D:=(a ρ).bind fun x=>match x with
 | .bl c=>if c=true then b ρ else .ok (.bl false)
 | _=>.no
def eOr(a b:Ev)(ρ:Rho):Res D:=(a ρ).bind fun x=>match x with
 | .bl c=>if c=true then .ok (.bl true) else b ρ
 | _=>.no
def eIf(t:Tv)(a b:Ev)(ρ:Rho):Res D:=(t ρ).bind fun c=>if c=true then a ρ else b ρ
def aNil(_ρ:Rho):Res (List D):=.ok []
def aB(e:Ev)(r:Fv)(ρ:Rho):Res (List D):=(e ρ).bind fun d=>(r ρ).bind fun ds=>.ok (d::ds)
def qO(a:Fv)(ρ:Rho):Res D:=(a ρ).bind fun ds=>if ds.length<=16777216 then .ok (.tup ds) else .no
def aM(m:Mir)(a:Fv)(ρ:Rho):Res D:=(a ρ).bind fun ds=>(m ds).bind fun r=>.ok r.d
def lA:List D->Res D
 | [.lst ds]=>.ok (.int ds.length)
 | [.tup ds]=>.ok (.int ds.length)
 | _=>.no
def zKx:List D->Res D
 | [.int i]=>.ok (.int (if i<0 then -i else i))
 | _=>.no
def zPQ:List D->Res D
 | [.int i,.int j]=>.ok (.int (if j > i then j else i))
 | _=>.no
def zLJ:List D->Res D
 | [.int i,.int j]=>.ok (.int (if j<i then j else i))
 | _=>.no
def zIj:List D->Res D
 | [.lst ds]=>.ok (.tup ds)
 | [.tup ds]=>.ok (.tup ds)
 | _=>.no
def eB(b:List D->Res D)(a:Fv)(ρ:Rho):Res D:=(a ρ).bind b
def tyN:D->String
 | .non => "NoneType" | .bl _ => "bool" | .int _ => "int" | .str _ => "str" | .tup _ => "tuple" | .lst _ => "list"
def isT(T:String)(d:D):Bool:=tyN d==T || (T == "int" && tyN d == "bool")
def zPE(T:String)(a:Ev)(ρ:Rho):Res D:=(a ρ).bind fun d=>.ok (.bl (isT T d))
def isNon:D->Bool
 | .non=>true
 | _=>false
def zDk(a:Ev)(ρ:Rho):Res D:=(a ρ).bind fun d=>.ok (.bl (!isNon d))
def Sl.frz:Sl->Sl
 | .own ds=>.val (.lst ds)
 | s=>s
def zCf(e:Ev)(ρ:Rho):Res D:=(e (ρ.map Sl.frz)).bind fun d=>if noL d=true then .ok d else .no
def oA(a:Fv)(ρ:Rho):Res (List D):=(a ρ).bind fun ds=>if ds.length<=16777216 then .ok ds else .no
def eP(m:Mir)(a:Fv)(ρ:Rho):Res (List D):=(a ρ).bind fun ds=>(m ds).bind fun r=>match r with
 | .f ds=>.ok ds
 | .v _=>.no
def zKB(a:Fv)(ρ:Rho):Res (List D):=(a ρ).bind fun ds=>match ds with
 | [.lst ds]=>.ok ds
 | [.tup ds]=>.ok ds
 | _=>.no
def zMZ(a b:Ev)(ρ:Rho):Res (List D):=(a ρ).bind fun x=>(b ρ).bind fun y=>match x,y with
 | .lst ds,.lst es=>if ds.length+es.length<=16777216 then .ok (ds++es) else .no
 | _,_=>.no
def eF(f:Fv)(ρ:Rho):Res D:=(f ρ).bind fun ds=>.ok (.lst ds)
def zNG(f:Fv)(ρ:Rho):Res (List D):=(f (ρ.map Sl.frz)).bind fun ds=>if noLs ds=true then .ok ds else .no
def cut(n:Nat)(i:Option Int)(d:Nat):Nat:=match i with
 | none=>d
 | some i=>if 0<=i then min i.toNat n else ((n:Int)+i).toNat
def dU(ds:List D)(lo hi:Option Int):List D:=(ds.drop (cut ds.length lo 0)).take (cut ds.length hi ds.length-cut ds.length lo 0)
abbrev Ov:=Rho->Res (Option Int)
def oN(_ρ:Rho):Res (Option Int):=.ok none
def oS(e:Ev)(ρ:Rho):Res (Option Int):=(e ρ).bind fun d=>match d with
 | .int i=>.ok (some i)
 | _=>.no
def fSl(a:Ev)(lo hi:Ov)(ρ:Rho):Res (List D):=(a ρ).bind fun x=>(lo ρ).bind fun l=>(hi ρ).bind fun h=>match x with
 | .lst ds=>.ok (dU ds l h)
 | _=>.no
def zPO(a:Ev)(lo hi:Ov)(ρ:Rho):Res D:=(a ρ).bind fun x=>(lo ρ).bind fun l=>(hi ρ).bind fun h=>match x with
 | .tup ds=>if (dU ds l h).length<ds.length then .ok (.tup (dU ds l h)) else .no
 | _=>.no
def dR(e:Ev)(ρ:Rho):Res Bool:=(e ρ).bind fun d=>match d with
 | .bl b=>.ok b
 | _=>.no
def tFrzB(t:Tv)(ρ:Rho):Res Bool:=t (ρ.map Sl.frz)
def zGH(t:Tv)(ρ:Rho):Res Bool:=(t ρ).bind fun b=>.ok (!b)
def zAo(t u:Tv)(ρ:Rho):Res Bool:=(t ρ).bind fun b=>if b=true then u ρ else .ok false
def zFN(t u:Tv)(ρ:Rho):Res Bool:=(t ρ).bind fun b=>if b=true then .ok true else u ρ
def sNext(ρ:Rho):Res Fl:=.ok (.nx ρ)
def bB(a b:Sv)(ρ:Rho):Res Fl:=(a ρ).bind fun f=>match f with
 | .nx ρ'=>b ρ'
 | f=>.ok f
def sIf(t:Tv)(a b:Sv)(ρ:Rho):Res Fl:=(t ρ).bind fun c=>if c=true then a ρ else b ρ
def cQ(i:Nat)(e:Ev)(ρ:Rho):Res Fl:=(e ρ).bind fun d=>.ok (.nx (ρ.set i (.val d)))
def zDQ(i:Nat)(f:Fv)(ρ:Rho):Res Fl:=(f ρ).bind fun ds=>.ok (.nx (ρ.set i (.own ds)))
def rZ(e:Ev)(ρ:Rho):Res Fl:=(e ρ).bind fun _=>.ok (.nx ρ)
def fZ(e:Ev)(ρ:Rho):Res Fl:=(e (ρ.map Sl.frz)).bind fun d=>.ok (.ret (.v d))
def mB(f:Fv)(ρ:Rho):Res Fl:=(f (ρ.map Sl.frz)).bind fun ds=>.ok (.ret (.f ds))
def gU(i:Nat)(ρ:Rho):Res Fl:=match ρ[i]? with
 | some (.own ds)=>.ok (.ret (.f ds))
 | _=>.no
def sRetN(_ρ:Rho):Res Fl:=.ok (.ret (.v .non))
def jX(c:Str)(a:Fv)(ρ:Rho):Res Fl:=(a ρ).bind fun ds=>if ds.length<=16777216 then .err c else .no
def sNo(_ρ:Rho):Res Fl:=.no
def zGS(i:Nat)(e:Ev)(ρ:Rho):Res Fl:=match ρ[i]? with
 | some (.own ds)=>(e ρ).bind fun d=>if ds.length<16777216 then .ok (.nx (ρ.set i (.own (ds++[d])))) else .no
 | _=>.no
def zKV(i:Nat)(e:Fv)(ρ:Rho):Res Fl:=match ρ[i]? with
 | some (.own ds)=>(e ρ).bind fun es=>if ds.length+es.length<=16777216 then .ok (.nx (ρ.set i (.own (ds++es)))) else .no
 | _=>.no
def zDf(i:Nat)(k e:Ev)(ρ:Rho):Res Fl:=(e ρ).bind fun d=>match ρ[i]? with
 | some (.own ds)=>(k ρ).bind fun j=>match j with
  | .int j=>if 0<=j/\j<ds.length then .ok (.nx (ρ.set i (.own (ds.set j.toNat d)))) else if -(ds.length:Int)<=j/\j<0 then .ok (.nx (ρ.set i (.own (ds.set (j+ds.length).toNat d)))) else .no
  | _=>.no
 | _=>.no
def zNb(i:Nat)(o:Op2)(e:Ev)(ρ:Rho):Res Fl:=match ρ[i]? with
 | some (.val x)=>(e ρ).bind fun y=>(o x y).bind fun d=>.ok (.nx (ρ.set i (.val d)))
 | _=>.no
def sFrz(s:Sv)(ρ:Rho):Res Fl:=s (ρ.map Sl.frz)
def frzAt(i:Nat)(ρ:Rho):Rho:=match ρ[i]? with
 | some (.own ds)=>ρ.set i (.val (.lst ds))
 | _=>ρ
def sFrzAt(i:Nat)(s:Sv)(ρ:Rho):Res Fl:=s (frzAt i ρ)
def noErr{α:Type}:Res α->Res α
 | .err _=>.no
 | r=>r
def zNH(i:Nat)(m:Mir)(a:Fv)(ρ:Rho):Res Fl:=(noErr (a ρ)).bind fun ds=>(m ds).bind fun r=>.ok (.nx (ρ.set i (.val r.d)))
abbrev Gv:=D->Rho->Res Rho
def gName(i:Nat)(d:D)(ρ:Rho):Res Rho:=.ok (ρ.set i (.val d))
def zBb(gs:List D->Rho->Res Rho)(d:D)(ρ:Rho):Res Rho:=match d with
 | .tup ds=>gs ds ρ
 | _=>.no
def zBm(ds:List D)(ρ:Rho):Res Rho:=match ds with
 | []=>.ok ρ
 | _=>.no
def gB(g:Gv)(r:List D->Rho->Res Rho)(ds:List D)(ρ:Rho):Res Rho:=match ds with
 | d::ds=>(g d ρ).bind fun ρ'=>r ds ρ'
 | []=>.no
def zPq(g:Gv)(f:Ev)(ρ:Rho):Res Fl:=(f ρ).bind fun d=>(g d ρ).bind fun ρ'=>.ok (.nx ρ')
def loop(g:Gv)(b:Sv):List D->Rho->Res Fl
 | [],ρ=>.ok (.nx ρ)
 | d::ds,ρ=>(g d ρ).bind fun ρ1=>(b ρ1).bind fun f=>match f with
  | .nx ρ2=>loop g b ds ρ2
  | .ctn ρ2=>loop g b ds ρ2
  | .brk ρ2=>.ok (.nx ρ2)
  | .ret r=>.ok (.ret r)
def tX(it:Fv)(g:Gv)(b:Sv)(ρ:Rho):Res Fl:=(it ρ).bind fun ds=>loop g b ds ρ
def xK(e:Ev)(ρ:Rho):Res (List D):=(e ρ).bind fun d=>match d with
 | .lst ds=>.ok ds
 | .tup ds=>.ok ds
 | _=>.no
def rng(lo:Int)(n:Nat)(c:Int):List D:=(List.range n).map fun(i:Nat)=>D.int (lo+(i:Int)*c)
def zJ(a:Fv)(ρ:Rho):Res (List D):=(a ρ).bind fun ds=>match ds with
 | [.int j]=>if -(2^62)<=j/\j<2^62 then .ok (rng 0 j.toNat 1) else .no
 | _=>.no
def zEl(a:Fv)(ρ:Rho):Res (List D):=(a ρ).bind fun ds=>match ds with
 | [.int i,.int j]=>if -(2^62)<=i/\i<2^62/\-(2^62)<=j/\j<2^62 then .ok (rng i (j-i).toNat 1) else .no
 | _=>.no
def wh(t:Tv)(b:Sv):Nat->Rho->Res Fl
 | 0,_=>.no
 | n+1,ρ=>(t ρ).bind fun c=>if c=true then (b ρ).bind fun f=>match f with
   | .nx ρ2=>wh t b n ρ2
   | .ctn ρ2=>wh t b n ρ2
   | .brk ρ2=>.ok (.nx ρ2)
   | .ret r=>.ok (.ret r)
  else .ok (.nx ρ)
open Classical in
def eR(t:Tv)(b:Sv)(ρ:Rho):Res Fl:=if h:∃ n,wh t b n ρ≠.no then wh t b h.choose ρ else .no
theorem xD{t:Tv}{b:Sv}:∀ {n:Nat} {ρ:Rho} {k:Nat},wh t b n ρ≠.no->n<=k->wh t b k ρ=wh t b n ρ
 | 0,ρ,k,h,_=>absurd rfl h
 | n+1,ρ,0,h,l=>absurd l (by omega)
 | n+1,ρ,k+1,h,l=>by
  rw[wh,wh];rw[wh] at h
  cases ht:t ρ with
  | no=>rfl
  | err c=>rfl
  | ok c=>
   rw[ht] at h;simp only[Res.bind] at h ⊢
   cases c with
   | false=>rfl
   | true=>
    simp only[if_true] at h ⊢
    cases hb:b ρ with
    | no=>rfl
    | err c=>rfl
    | ok f=>
     rw[hb] at h
     cases f with
     | nx ρ2=>exact xD h (by omega)
     | ctn ρ2=>exact xD h (by omega)
     | brk ρ2=>rfl
     | ret r=>rfl
theorem fS{t:Tv}{b:Sv}{n:Nat}{ρ:Rho}(h:wh t b n ρ≠.no):eR t b ρ=wh t b n ρ:=by
 have hx:∃ n,wh t b n ρ≠.no:=⟨n,h⟩;unfold eR;rw[dif_pos hx];rcases Yz n hx.choose with l | l
 ·exact xD h l
 ·exact(xD hx.choose_spec l).symm
theorem mZ{t:Tv}{b:Sv}{ρ:Rho}(h:eR t b ρ≠.no):∃ n,eR t b ρ=wh t b n ρ:=by
 unfold eR at h ⊢
 split
 ·exact⟨_,rfl⟩
 ·rename_i hx;rw[dif_neg hx] at h;exact absurd rfl h
theorem zAA{t:Tv}{b:Sv}{ρ:Rho}:eR t b ρ=((t ρ).bind fun c=>if c=true then (b ρ).bind fun f=>match f with
   | .nx ρ2=>eR t b ρ2
   | .ctn ρ2=>eR t b ρ2
   | .brk ρ2=>.ok (.nx ρ2)
   | .ret r=>.ok (.ret r)
  else .ok (.nx ρ)):=by
 have key:∀ n,wh t b (n+1) ρ≠.no->wh t b (n+1) ρ=((t ρ).bind fun c=>if c=true then (b ρ).bind fun f=>match f with
   | .nx ρ2=>eR t b ρ2
   | .ctn ρ2=>eR t b ρ2
   | .brk ρ2=>.ok (.nx ρ2)
   | .ret r=>.ok (.ret r)
  else .ok (.nx ρ)):=by
  intro n h;rw[wh] at h ⊢
  cases ht:t ρ with
  | no=>rfl
  | err c=>rfl
  | ok c=>
   rw[ht] at h;simp only[Res.bind] at h ⊢
   cases c with
   | false=>rfl
   | true=>
    simp only[if_true] at h ⊢
    cases hb:b ρ with
    | no=>rfl
    | err c=>rfl
    | ok f=>
     rw[hb] at h
     cases f with
     | nx ρ2=>exact(fS h).symm
     | ctn ρ2=>exact(fS h).symm
     | brk ρ2=>rfl
     | ret r=>rfl
 by_cases h:eR t b ρ=.no
 ·rw[h]
  cases ht:t ρ with
  | no=>rfl
  | err c=>
   exfalso
   have q:wh t b 1 ρ=.err c:=by rw[wh,ht];rfl
   have:=fS (t:=t) (b:=b) (ρ:=ρ) (n:=1) (by rw[q];exact fun z=>by cases z)
   rw[h,q] at this;cases this
  | ok c=>
   simp only[Res.bind]
   cases c with
   | false=>
    exfalso
    have q:wh t b 1 ρ=.ok (.nx ρ):=by rw[wh,ht];rfl
    have:=fS (t:=t) (b:=b) (ρ:=ρ) (n:=1) (by rw[q];exact fun z=>by cases z)
    rw[h,q] at this;cases this
   | true=>
    simp only[if_true]
    cases hb:b ρ with
    | no=>rfl
    | err c=>
     exfalso
     have q:wh t b 1 ρ=.err c:=by rw[wh,ht];simp[Res.bind,hb]
     have:=fS (t:=t) (b:=b) (ρ:=ρ) (n:=1) (by rw[q];exact fun z=>by cases z)
     rw[h,q] at this;cases this
    | ok f=>
     have again:∀ ρ2,(f=.nx ρ2∨f=.ctn ρ2)->eR t b ρ2=.no:=by
      intro ρ2 hf;by_cases h2:eR t b ρ2=.no
      ·exact h2
      ·exfalso
       obtain⟨n,e⟩:=mZ h2
       have q:wh t b (n+1) ρ=wh t b n ρ2:=by
        rw[wh,ht];simp only[Res.bind,if_true,hb];rcases hf with rfl | rfl<;>rfl
       have h3:wh t b (n+1) ρ≠.no:=by rw[q,<-e];exact h2
       have:=fS h3
       rw[h] at this;exact h3 this.symm
     cases f with
     | nx ρ2=>exact(again ρ2 (.inl rfl)).symm
     | ctn ρ2=>exact(again ρ2 (.inr rfl)).symm
     | brk ρ2=>
      exfalso
      have q:wh t b 1 ρ=.ok (.nx ρ2):=by rw[wh,ht];simp[Res.bind,hb]
      have:=fS (t:=t) (b:=b) (ρ:=ρ) (n:=1) (by rw[q];exact fun z=>by cases z)
      rw[h,q] at this;cases this
     | ret r=>
      exfalso
      have q:wh t b 1 ρ=.ok (.ret r):=by rw[wh,ht];simp[Res.bind,hb]
      have:=fS (t:=t) (b:=b) (ρ:=ρ) (n:=1) (by rw[q];exact fun z=>by cases z)
      rw[h,q] at this;cases this
 ·obtain⟨n,e⟩:=mZ h
  cases n with
  | zero=>rw[e] at h;exact absurd rfl h
  | succ n=>rw[e];exact key n (by rw[<-e];exact h)
def zKU(f:Fv)(g:Ev)(ρ:Rho):Res (List D):=(f ρ).bind fun ds=>(g ρ).bind fun d=>match d with
 | .int k=>if 0<=k/\k<2^62/\ds.length*k.toNat<=16777216 then .ok (List.replicate k.toNat ds).flatten else .no
 | _=>.no
def sZ(_ρ:Rho):Res Bool:=.ok true
def fF(t:Tv)(f:Ev)(ρ:Rho):List D->Res (List D)
 | []=>.ok []
 | d::ds=>(noErr (t (ρ++[.val d]))).bind fun c=>if c=true then (noErr (f (ρ++[.val d]))).bind fun e=>(fF t f ρ ds).bind fun es=>.ok (e::es) else fF t f ρ ds
def xL(it:Fv)(t:Tv)(f:Ev)(ρ:Rho):Res (List D):=(it ρ).bind fun ds=>if ds.length<=16777215 then fF t f ρ ds else .no
def start(n:Nat)(ds:List D):Rho:=ds.map Sl.val++List.replicate (n-ds.length) .un
def fin:Fl->Res Rt
 | .nx _=>.ok (.v .non)
 | .ret r=>.ok r
 | .brk _=>.no
 | .ctn _=>.no
def fn(p n:Nat)(b:Sv)(ds:List D):Res Rt:=if ds.length=p then (b (start n ds)).bind fin else .no
def zGQ:D->Option (List D)
 | .lst ds=>some ds
 | .tup ds=>some ds
 | _=>none
def kD:List D->List D->List D
 | a::r,b::q=>.tup [a,b]::kD r q
 | _,_=>[]
def zKS(a:Fv)(ρ:Rho):Res (List D):=(a ρ).bind fun ds=>match ds with
 | [x,y]=>match zGQ x,zGQ y with
  | some xs,some ys=>.ok (kD xs ys)
  | _,_=>.no
 | _=>.no
def kG:Nat->List D->List D
 | _,[]=>[]
 | n,d::r=>.tup [.int n,d]::kG (n+1) r
def zGv(e:Ev)(ρ:Rho):Res (List D):=(e ρ).bind fun d=>match d with
 | .lst ds=>.ok (kG 0 ds)
 | .tup ds=>.ok (kG 0 ds)
 | _=>.no
def eX(f:Ev)(ρ:Rho):List D->Res (List D)
 | []=>.ok []
 | .tup [a,b]::ds=>(noErr (f (ρ++[.val a,.val b]))).bind fun e=>(eX f ρ ds).bind fun es=>.ok (e::es)
 | _::_=>.no
def vF(it:Fv)(f:Ev)(ρ:Rho):Res (List D):=(it ρ).bind fun ds=>if ds.length<=16777215 then eX f ρ ds else .no
def slQ(l h:Option Int):D->Res D
 | .lst ds=>.ok (.lst (dU ds l h))
 | .tup ds=>.ok (.tup (dU ds l h))
 | _=>.no
def zOi(a:Ev)(lo hi:Ov)(ρ:Rho):Res D:=(a ρ).bind fun x=>(lo ρ).bind fun l=>(hi ρ).bind fun h=>slQ l h x
def zPs:D->Option Str
 | .str x=>some x
 | .int i=>if i.natAbs.log2<1920 then some (toString i) else none
 | _=>none
def zPv:Str->List D->Option Str
 | a,[]=>some a
 | a,d::r=>match zPs d with
  | some x=>if x.length<=sizeLine/\(a++x).length<=sizeLine then zPv (a++x) r else none
  | none=>none
def mC:List D->Option (List Int)
 | []=>some []
 | .int i::ds=>match mC ds with
  | some ns=>some (i::ns)
  | none=>none
 | _::_=>none
def zAS:List D->Res D
 | [.lst ds]=>(match mC ds with
  | some ns=>.ok (.int ns.sum)
  | none=>.no)
 | [.tup ds]=>(match mC ds with
  | some ns=>.ok (.int ns.sum)
  | none=>.no)
 | _=>.no
def chO:Option Nat->Res D
 | some c=>.ok (.str ⟨#[c]⟩)
 | none=>.no
def slS(l u:Option Int):D->Res D
 | .str x=>if x.length<=sizeLine then .ok (.str (Txt.slice x l u)) else .no
 | _=>.no
def pP(T:List (Str×Str)):D->Res D
 | .str x=>.ok (.bl (!(T.lookup x).isSome))
 | _=>.no
def zLb:Option Str->Res D
 | some y=>.ok (.str y)
 | none=>.no
def zF(T:List (Str×Str)):D->Res D
 | .str x=>zLb (T.lookup x)
 | _=>.no
def wA:Int->List Int->Int
 | a,[]=>a
 | a,b::r=>wA (if b > a then b else a) r
def zAX:List D->Res D
 | [.lst ds,.int d]=>(match mC ds with | some (a::r)=>.ok (.int (wA a r)) | some []=>.ok (.int d) | none=>.no)
 | _=>.no
end L3
namespace L3
open PySem
def gI(kz:List Int)(π:List Nat):Prop:=π.Perm (List.range kz.length)/\π.Pairwise (fun i j=>kz.getD i 0<=kz.getD j 0)/\π.Pairwise (fun i j=>kz.getD i 0=kz.getD j 0->i<j)
def zGM(b:Int):D->Res Int
 | .tup [.int t,.int d]=>if kF d && hG t (b.fdiv d) then .ok (t*b.fdiv d) else .no
 | _=>.no
def nE(b:Int):List D->Res (List Int)
 | []=>.ok []
 | d::r=>(zGM b d).bind fun k=>(nE b r).bind fun ks=>.ok (k::ks)
def kQ(π:List Nat):List D:=π.map fun i:Nat=>D.int (i:Int)
theorem zJr{b k:Int}{d:D}(h:zGM b d=.ok k):∃ t c,d=.tup [.int t,.int c]/\kF c=true/\hG t (b.fdiv c)=true/\k=t*b.fdiv c:=by
 unfold zGM at h;split at h
 ·rename_i t c
  split at h
  ·rename_i hc
   rw[Vg] at hc;cases h;exact⟨t,c,rfl,hc.1,hc.2,rfl⟩
  ·cases h
 ·cases h
theorem yC{b:Int}:∀ {rows:List D} {kz:List Int},nE b rows=.ok kz->kz.length=rows.length/\∀(j:Nat)(k:Int),kz[j]?=some k->∃ d,rows[j]?=some d/\zGM b d=.ok k
 | [],kz,h=>by cases h;exact⟨rfl,fun j k z=>by simp at z⟩
 | d::r,kz,h=>by
  unfold nE at h
  cases e:zGM b d with
  | no=>rw[e] at h;cases h
  | err c=>rw[e] at h;cases h
  | ok k0=>
   rw[e] at h;have h':(nE b r).bind (fun ks=>Res.ok (k0::ks))=.ok kz:=h
   cases e2:nE b r with
   | no=>rw[e2] at h';cases h'
   | err c=>rw[e2] at h';cases h'
   | ok ks=>
    rw[e2] at h';cases h'
    obtain⟨h1,h2⟩:=yC e2;refine⟨by rw[Qk,Qk,h1],fun j k z=>?_⟩
    cases j with
    | zero=>simp at z;subst z;exact⟨d,rfl,e⟩
    | succ j=>exact h2 j k (by simpa using z)
def zCV(ρ:Rho):Res (List Int):=match ρ[0]?,ρ[1]? with
 | some (Sl.val (.lst rows)),some (Sl.val (.int b))=>if rows.length<64 then nE b rows else .no
 | _,_=>.no
def xY(sa sb:Sv)(ds:List D):Res (List Int):=if ds.length=1 then (match sa (L3.start 3 ds) with
 | .ok (.nx ρ)=>(match sb ρ with
  | .ok (.nx ρ')=>zCV ρ'
  | _=>.no)
 | _=>.no) else .no
theorem zCD{b:Int}:∀ {rows:List D} {c:Str},nE b rows≠.err c
 | [],c,h=>by cases h
 | d::r,c,h=>by
  unfold nE at h
  have k0:∀ c,zGM b d≠.err c:=fun c z=>by
   unfold zGM at z;split at z
   ·split at z<;>cases z
   ·cases z
  cases e:zGM b d with
  | no=>rw[e] at h;cases h
  | err c'=>exact k0 _ e
  | ok k=>
   rw[e] at h;have h':(nE b r).bind (fun ks=>Res.ok (k::ks))=.err c:=h
   cases e2:nE b r with
   | no=>rw[e2] at h';cases h'
   | err c'=>exact zCD e2
   | ok ks=>rw[e2] at h';cases h'
theorem zNZ{sa sb:Sv}(ds:List D)(c:Str):xY sa sb ds≠.err c:=fun h=>by
 unfold xY zCV at h;split at h
 ·split at h
  ·split at h
   ·split at h
    ·split at h
     ·exact zCD h
     ·cases h
    ·cases h
   ·cases h
  ·cases h
 ·cases h
theorem zLa{sa sb:Sv}(ds:List D)(h:xY sa sb ds≠.no):ds.length=1:=by
 unfold xY at h;split at h
 ·assumption
 ·exact absurd rfl h
open Classical in
def mW(kz:List Int)(F:List Nat->Res Fl):Res Fl:=if h:∃ x,∀ π,gI kz π->F π=x then h.choose else .no
theorem zDF{kz:List Int}{F:List Nat->Res Fl}{π:List Nat}(h:mW kz F≠.no)(hπ:gI kz π):F π=mW kz F:=by
 unfold mW at h ⊢
 split at h
 ·rename_i z;rw[dif_pos z];exact z.choose_spec π hπ
 ·exact absurd rfl h
theorem zDy{kz:List Int}{F:List Nat->Res Fl}{x:Res Fl}{π:List Nat}(hπ:gI kz π)(h:∀ π,gI kz π->F π=x):mW kz F=x:=by
 have z:∃ x,∀ π,gI kz π->F π=x:=⟨x,h⟩;unfold mW;rw[dif_pos z,<-z.choose_spec π hπ];exact h π hπ
def zHg(fs:Fv)(kf:List D->Res (List Int))(g:Gv)(b r:Sv):Sv:=fun ρ=>((fs ρ).bind kf).bind fun kz=>mW kz fun π=>bB (fun ρ=>loop g b (kQ π) ρ) r ρ
abbrev Tri:=D×List D×List D
def zLu(kz:List Int)(i j:Nat):Bool:=decide (kz.getD i 0<kz.getD j 0) || decide (kz.getD i 0=kz.getD j 0) && decide (i<=j)
theorem nQ{kz:List Int}{i j:Nat}:zLu kz i j=true ↔ kz.getD i 0<kz.getD j 0∨kz.getD i 0=kz.getD j 0/\i<=j:=by
 unfold zLu;rw[V8,Vg,decide_eq_true_eq,decide_eq_true_eq,decide_eq_true_eq]
def zCQ(kz:List Int):List Nat:=(List.range kz.length).mergeSort (zLu kz)
theorem zGt(kz:List Int):(zCQ kz).Pairwise fun i j=>zLu kz i j=true:=
 List.pairwise_mergeSort (le:=zLu kz) (fun a b c h1 h2=>by rw[nQ] at *;omega) (fun a b=>by rw[V8,nQ,nQ];omega) _
theorem zFm(kz:List Int):gI kz (zCQ kz):=by
 have p:(zCQ kz).Perm (List.range kz.length):=List.mergeSort_perm _ _;have nd:(zCQ kz).Nodup:=p.nodup_iff.mpr List.nodup_range;have w:=zGt kz;refine⟨p,w.imp fun h=>?_,(List.Pairwise.and w nd).imp fun h=>?_⟩
 ·rw[nQ] at h;omega
 ·obtain⟨h1,h2⟩:=h
  rw[nQ] at h1;intro e;omega
def zFT(ce:Str)(b h:Sv)(ρ:Rho):Res Fl:=match b ρ with
 | .err c=>if (c==ce)=true then (match h ρ with
   | .ok (.ret r)=>.ok (.ret r)
   | _=>.no) else .no
 | r=>r
def zKP:Res Fl->Res Fl
 | .ok (.ret r)=>.ok (.ret r)
 | _=>.no
def zNy(ce:Str)(h:Sv)(ρ:Rho):Res Fl->Res Fl
 | .err c=>if (c==ce)=true then zKP (h ρ) else .no
 | .ok f=>.ok f
 | .no=>.no
theorem sTryN_at{ce:Str}{b h:Sv}{ρ:Rho}:zFT ce b h ρ=zNy ce h ρ (b ρ):=by
 unfold zFT zNy
 cases b ρ with
 | ok f=>rfl
 | no=>rfl
 | err c=>
  show(if (c==ce)=true then _ else _)=if (c==ce)=true then _ else _
  congr 1
theorem tryN_ok{ce:Str}{h:Sv}{ρ:Rho}{f:Fl}:zNy ce h ρ (.ok f)=.ok f:=rfl
theorem zHI{ce:Str}{h:Sv}{ρ:Rho}:zNy ce h ρ (.err ce)=zKP (h ρ):=by
 show(if (ce==ce)=true then zKP (h ρ) else .no)=_
 rw[if_pos (beq_self_eq_true ce)]
theorem retO_r{r:Rt}:zKP (.ok (.ret r))=.ok (.ret r):=rfl
def zDz(i:Nat)(a b m:Ev)(ρ:Rho):Res Fl:=match ρ[i]? with
 | some (.own (y::r))=>(a (ρ.set i (.own r))).bind fun x=>(oO y x).bind fun u=>(b (ρ.set i (.own r))).bind fun z=>(pJ u z).bind fun w=>(m (ρ.set i (.own r))).bind fun k=>(jC w k).bind fun v=>if r.length<16777216 then .ok (.nx (ρ.set i (.own (r++[v])))) else .no
 | _=>.no
end L3
namespace Fq
theorem zCp{a b:Int}(ha:0<=a)(hb:0<b):Int.gcd b (a % b)=Int.gcd a b:=by
 obtain⟨m,rfl⟩:=Y0 ha;obtain⟨n,rfl⟩:=Y0 (Xj hb);show Nat.gcd n (m % n)=Nat.gcd m n
 rw[Nat.gcd_comm n (m % n),Nat.gcd_comm m n,Nat.gcd_rec n m]
def dv(t b:Int):Int:=if b<0 then -(Int.gcd t b:Int) else (Int.gcd t b:Int)
theorem zJG{t b:Int}(hb:b≠0):0<(Int.gcd t b:Int):=by
 have h:Int.gcd t b≠0:=fun h=>hb (Int.gcd_eq_zero_iff.mp h).2
 omega
theorem zLh{t b:Int}(hb:b≠0):dv t b≠0:=by
 have:=zJG (t:=t) hb
 unfold dv;split<;>omega
theorem wU(t b:Int):dv t b ∣ t:=by
 unfold dv;split
 ·exact Int.neg_dvd.mpr (Uk ..)
 ·exact Uk ..
theorem zCZ(t b:Int):dv t b ∣ b:=by
 unfold dv;split
 ·exact Int.neg_dvd.mpr (Ul ..)
 ·exact Ul ..
theorem nA{t d:Int}(h:d ∣ t):t.fdiv d=t / d:=by
 rw[Int.fdiv_eq_ediv];simp[h]
theorem zZ{t b:Int}(hb:b≠0):t.fdiv (dv t b)=(Rat.divInt t b).num:=by
 rw[nA (wU t b),Rat.num_divInt,Int.gcd_comm b t];unfold dv;rcases Int.lt_trichotomy b 0 with h | h | h
 ·rw[if_pos h,Int.sign_eq_neg_one_of_neg h,Int.ediv_neg]
  have:(-1:Int)*t=-t:=by omega
  rw[this,Wg (Uk ..)]
 ·exact absurd h hb
 ·rw[if_neg (by omega),Int.sign_eq_one_of_pos h,Um]
theorem yI{t b:Int}(hb:b≠0):b.fdiv (dv t b)=((Rat.divInt t b).den:Int):=by
 rw[nA (zCZ t b),Rat.den_divInt,if_neg hb,Int.gcd_comm b t];unfold dv;rcases Int.lt_trichotomy b 0 with h | h | h
 ·rw[if_pos h,Int.ediv_neg,Int.natCast_ediv]
  have e:((b.natAbs:Nat):Int)=-b:=by omega
  rw[e,Wg (Ul ..)]
 ·exact absurd h hb
 ·rw[if_neg (by omega),Int.natCast_ediv]
  have e:((b.natAbs:Nat):Int)=b:=by omega
  rw[e]
theorem eV(q:Rat):(q.den:Int)≠0:=by have:=q.den_nz;omega
theorem dQ(q:Rat):(0:Int)<(q.den:Int):=by have:=q.den_nz;omega
theorem zDZ(p q:Rat):Rat.divInt (p.num*q.den+q.num*p.den) (p.den*q.den)=p+q:=by
 rw[<-Rat.divInt_add_divInt _ _ (eV p) (eV q),Vy,Vy]
theorem zIu(p q:Rat):Rat.divInt (p.num*q.den-q.num*p.den) (p.den*q.den)=p-q:=by
 rw[<-Rat.divInt_sub_divInt _ _ (eV p) (eV q),Vy,Vy]
theorem zIF(p q:Rat):Rat.divInt (p.num*q.num) (p.den*q.den)=p*q:=by
 rw[<-Uo,Vy,Vy]
theorem zEK(p q:Rat):Rat.divInt (p.num*q.den) (p.den*q.num)=p / q:=by
 rw[<-Uo,Vy,Rat.div_def,Rat.inv_def]
theorem zIx{q:Rat}:q.num≠0 ↔ q≠0:=by
 constructor
 ·intro h e;exact h (by rw[e];rfl)
 ·intro h e;exact h (Rat.num_eq_zero.mp e)
def Sz(n:Nat)(q:Rat):Prop:=q.num.natAbs<2^n/\q.den<2^n
theorem Sz.mono{m n:Nat}{q:Rat}(h:Sz m q)(l:m<=n):Sz n q:=
 ⟨Ql h.1 (Vo (by decide) l),Ql h.2 (Vo (by decide) l)⟩
theorem zMk{t b:Int}(hb:b≠0):(Rat.divInt t b).num.natAbs<=t.natAbs:=by
 rw[<-zZ hb,nA (wU t b),Int.natAbs_ediv_of_dvd (wU t b)];exact Nat.div_le_self ..
theorem zCt{t b:Int}(hb:b≠0):(Rat.divInt t b).den<=b.natAbs:=by
 rw[Rat.den_divInt,if_neg hb];exact Nat.div_le_self ..
theorem Sz.of{n:Nat}{t b:Int}(hb:b≠0)(ht:t.natAbs<2^n)(h:b.natAbs<2^n):Sz n (Rat.divInt t b):=
 ⟨Vz (zMk hb) ht,Vz (zCt hb) h⟩
theorem eY{a b:Int}{m n:Nat}(ha:a.natAbs<2^m)(hb:b.natAbs<2^n):(a*b).natAbs<2^(m+n):=by
 rw[Int.natAbs_mul,Nat.pow_add];exact Nat.mul_lt_mul'' ha hb
theorem zLX{a b:Int}{m:Nat}(ha:a.natAbs<2^m)(hb:b.natAbs<2^m):(a+b).natAbs<2^(m+1):=by
 rw[Nat.pow_succ];omega
theorem zNv{a b:Int}{m:Nat}(ha:a.natAbs<2^m)(hb:b.natAbs<2^m):(a-b).natAbs<2^(m+1):=by
 rw[Nat.pow_succ];omega
theorem Sz.d{n:Nat}{q:Rat}(h:Sz n q):((q.den:Int)).natAbs<2^n:=h.2
theorem Sz.add{m n:Nat}{p q:Rat}(hp:Sz m p)(hq:Sz n q):Sz (m+n+1) (p+q):=by
 rw[<-zDZ];refine Sz.of (by have:=dQ p;have:=dQ q;exact Xk (eV p) (eV q)) (zLX (eY hp.1 hq.d) ?_) ?_
 ·rw[Uj m n];exact eY hq.1 hp.d
 ·exact Ql (eY hp.d hq.d) (Vo (by decide) (by omega))
theorem Sz.sub{m n:Nat}{p q:Rat}(hp:Sz m p)(hq:Sz n q):Sz (m+n+1) (p-q):=by
 rw[<-zIu];refine Sz.of (Xk (eV p) (eV q)) (zNv (eY hp.1 hq.d) ?_) ?_
 ·rw[Uj m n];exact eY hq.1 hp.d
 ·exact Ql (eY hp.d hq.d) (Vo (by decide) (by omega))
theorem Sz.mul{m n:Nat}{p q:Rat}(hp:Sz m p)(hq:Sz n q):Sz (m+n) (p*q):=by
 rw[<-zIF];exact Sz.of (Xk (eV p) (eV q)) (eY hp.1 hq.1) (eY hp.d hq.d)
theorem Sz.div{m n:Nat}{p q:Rat}(hp:Sz m p)(hq:Sz n q)(h:q≠0):Sz (m+n) (p / q):=by
 rw[<-zEK];exact Sz.of (Xk (eV p) (zIx.mpr h)) (eY hp.1 hq.d) (eY hp.d hq.1)
end Fq
namespace Fr
open L3 PySem Fq
theorem zIm{t:Tv}{b:Sv}{ρ:Rho}(P:Rho->Prop)(μ:Rho->Nat)(Q:Res Fl->Prop)(h0:P ρ)
  (step:∀ ρ,P ρ->(t ρ=.ok false/\Q (.ok (.nx ρ)))∨(t ρ=.ok true/\∃ ρ',b ρ=.ok (.nx ρ')/\P ρ'/\μ ρ' < μ ρ)):Q (eR t b ρ):=by
 have main:∀ n ρ,μ ρ<=n->P ρ->Q (eR t b ρ):=by
  intro n
  induction n with
  | zero=>
   intro ρ hn hp;rw[zAA];rcases step ρ hp with⟨h1,h2⟩ | ⟨h1,ρ',h2,h3,h4⟩
   ·rw[h1];exact h2
   ·omega
  | succ n ih=>
   intro ρ hn hp;rw[zAA];rcases step ρ hp with⟨h1,h2⟩ | ⟨h1,ρ',h2,h3,h4⟩
   ·rw[h1];exact h2
   ·rw[h1]
    simp only[Res.bind,if_true,h2];exact ih ρ' (by omega) h3
 exact main _ ρ (Qb _) h0
theorem zFY{i:Int}{m:Nat}(h:i.natAbs<2^m):nb i<=m+1:=zNP (Ql h (Vo (by decide) (by omega))) (by omega)
theorem bQ{i j:Int}{m n:Nat}(hi:i.natAbs<2^m)(hj:j.natAbs<2^n)(h:m+n<=100000000):hG i j=true:=by
 unfold hG;have h1:=zFY hi;have h2:=zFY hj;rw[V8];exact .inr (decide_eq_true (by omega))
theorem zKt{i j:Int}(h1:-(2^64)<j)(h2:j<2^64):hG i j=true:=by
 unfold hG;rw[V8,V8];exact .inl (.inr (by rw[decide_eq_true h1,decide_eq_true h2];rfl))
theorem zJl{i j:Int}(h1:-(2^64)<i)(h2:i<2^64):hG i j=true:=by
 unfold hG;rw[V8,V8];exact .inl (.inl (by rw[decide_eq_true h1,decide_eq_true h2];rfl))
theorem rB{j:Int}{m:Nat}(h0:j≠0)(hj:j.natAbs<2^m)(h:m<=8999):kF j=true:=by
 unfold kF;have h1:=zFY hj;rw[decide_eq_true h0,decide_eq_true (show nb j<=9000 by omega)];rfl
theorem okDiv_lit{j:Int}(h0:0<j)(h:j<1000000000000000000):kF j=true:=rB (m:=64) (by omega) (by omega) (by decide)
theorem okMul_litr{i j:Int}(h1:-1000000000000000000<j)(h2:j<1000000000000000000):hG i j=true:=zKt (by omega) (by omega)
theorem okMul_litl{i j:Int}(h1:-1000000000000000000<i)(h2:i<1000000000000000000):hG i j=true:=zJl (by omega) (by omega)
theorem p10(n:Nat):(0:Int)<10^n:=Ym (by decide)
theorem p10ne(n:Nat):((10:Int)^n=0)=False:=eq_false (by have:=p10 n;omega)
theorem p10pos2(n:Nat):(0:Int)<2*10^n:=by have:=p10 n;omega
theorem p10ne2(n:Nat):((2:Int)*10^n=0)=False:=eq_false (by have:=p10 n;omega)
theorem okp9:pE 10 9=true:=by decide
theorem okp30:pE 10 30=true:=by decide
theorem okp40:pE 10 40=true:=by decide
def dq(q:Rat):D:=.tup [.int q.num,.int (q.den:Int)]
def dp(p:Rat×Rat):D:=.tup [dq p.1,dq p.2]
theorem eq_dq(p q:Rat):eqD (dq p) (dq q)=decide (p=q):=by
 show((p.num==q.num) && (((p.den:Int)==(q.den:Int)) && true))=decide (p=q)
 by_cases h:p=q
 ·subst h;simp
 ·rw[decide_eq_false h]
  by_cases h1:p.num=q.num
  ·have h2:p.den≠q.den:=fun e=>h (Rat.ext h1 e)
   have:((p.den:Int)==(q.den:Int))=false:=by simp;omega
   rw[this];simp
  ·simp[h1]
theorem dep_dq(q:Rat):dep (dq q)=1:=rfl
theorem ix_dq0(q:Rat):oIx (dq q) (.int 0)=.ok (.int q.num):=rfl
theorem ix_dq1(q:Rat):oIx (dq q) (.int 1)=.ok (.int (q.den:Int)):=rfl
theorem ty_dq(q:Rat):tyN (dq q) = "tuple" := rfl
theorem len_dq(q:Rat):lA [dq q]=.ok (.int 2):=rfl
theorem oEq_dq(p q:Rat):oEq (dq p) (dq q)=.ok (.bl (decide (p=q))):=by
 rw[<-eq_dq];rfl
theorem oNe_dq(p q:Rat):oNe (dq p) (dq q)=.ok (.bl (!decide (p=q))):=by
 rw[<-eq_dq];rfl
theorem noL_dq(q:Rat):noL (dq q)=true:=rfl
theorem zML(p q:Rat×Rat):eqD (dp p) (dp q)=decide (p=q):=by
 show(eqD (dq p.1) (dq q.1) && (eqD (dq p.2) (dq q.2) && true))=decide (p=q)
 rw[eq_dq,eq_dq];obtain⟨a,b⟩:=p;obtain⟨c,d⟩:=q;simp
theorem dp_mk(a b:Rat):(.tup [dq a,dq b]:D)=dp (a,b):=rfl
theorem ix_dp0(p:Rat×Rat):oIx (dp p) (.int 0)=.ok (dq p.1):=rfl
theorem ix_dp1(p:Rat×Rat):oIx (dp p) (.int 1)=.ok (dq p.2):=rfl
theorem ty_dp(p:Rat×Rat):tyN (dp p) = "tuple" := rfl
theorem len_dp(p:Rat×Rat):lA [dp p]=.ok (.int 2):=rfl
theorem dep_dp(p:Rat×Rat):dep (dp p)=2:=rfl
theorem noL_dp(p:Rat×Rat):noL (dp p)=true:=rfl
theorem oEq_dp(p q:Rat×Rat):oEq (dp p) (dp q)=.ok (.bl (decide (p=q))):=by
 rw[<-zML];rfl
theorem oNe_dp(p q:Rat×Rat):oNe (dp p) (dp q)=.ok (.bl (!decide (p=q))):=by
 rw[<-zML];rfl
theorem yP:∀(l m:List Rat),uS (l.map dq) (m.map dq)=decide (l=m)
 | [],[]=>rfl
 | [],_::_=>rfl
 | _::_,[]=>rfl
 | p::l,q::m=>by
  rw[Qi,Qi,uS,eq_dq,yP l m];simp
theorem fdiv_pos(a:Int){b:Int}(h:0<b):a.fdiv b=a / b:=Wh a (by omega)
theorem fmod_pos(a:Int){b:Int}(h:0<b):a.fmod b=a % b:=Wj a (by omega)
theorem zJY(a:Int){b:Int}(h:0<=b):a.fdiv b=a / b:=Wh a h
theorem zBt(a:Int){b:Int}(h:0<=b):a.fmod b=a % b:=Wj a h
theorem noLs_dps:∀ l:List (Rat×Rat),noLs (l.map dp)=true
 | []=>rfl
 | q::l=>by rw[Qi,noLs,noL_dp,noLs_dps l];rfl
theorem vG{α:Type}{l:List α}{i:Nat}{a:α}(h:l[i]?=some a):l.take (i+1)=l.take i++[a]:=by rw[Yn,h];rfl
theorem zMP{b:Int}(h:0<b):(.tup [.int 1,.int b]:D)=dq (Rat.divInt 1 b):=by
 have hb:b≠0:=by omega
 have e:Fq.dv 1 b=1:=by unfold Fq.dv;rw[if_neg (by omega)];simp
 unfold dq;rw[<-Fq.zZ hb,<-Fq.yI hb,e];simp
theorem zLV(k:Int):(.tup [.int k,.int 1]:D)=dq (k:Rat):=rfl
end Fr
namespace L3
open PySem
def zCC(b:Sv):Fl->Res Fl
 | .nx ρ=>b ρ
 | .ret r=>.ok (.ret r)
 | .brk ρ=>.ok (.brk ρ)
 | .ctn ρ=>.ok (.ctn ρ)
theorem sSeq_at{a b:Sv}{ρ:Rho}:bB a b ρ=(a ρ).bind (zCC b):=by
 unfold bB;congr;funext f;cases f<;>rfl
def ifF(a b:Sv)(ρ:Rho):Bool->Res Fl
 | true=>a ρ
 | false=>b ρ
theorem sIf_at{t:Tv}{a b:Sv}{ρ:Rho}:sIf t a b ρ=(t ρ).bind (ifF a b ρ):=by
 unfold sIf;congr;funext c;cases c<;>rfl
def zOn(a b:Ev)(ρ:Rho):Bool->Res D
 | true=>a ρ
 | false=>b ρ
theorem eIf_at{t:Tv}{a b:Ev}{ρ:Rho}:eIf t a b ρ=(t ρ).bind (zOn a b ρ):=by
 unfold eIf;congr;funext c;cases c<;>rfl
def zOs(b:Ev)(ρ:Rho):D->Res D
 | .bl true=>b ρ
 | .bl false=>.ok (.bl false)
 | _=>.no
theorem eAnd_at{a b:Ev}{ρ:Rho}:zNx a b ρ=(a ρ).bind (zOs b ρ):=by
 unfold zNx;congr;funext c;cases c<;>try rfl
 rename_i c;cases c<;>rfl
def orF(b:Ev)(ρ:Rho):D->Res D
 | .bl true=>.ok (.bl true)
 | .bl false=>b ρ
 | _=>.no
theorem eOr_at{a b:Ev}{ρ:Rho}:eOr a b ρ=(a ρ).bind (orF b ρ):=by
 unfold eOr;congr;funext c;cases c<;>try rfl
 rename_i c;cases c<;>rfl
def opF(o:Op2)(b:Ev)(ρ:Rho)(x:D):Res D:=(b ρ).bind (o x)
theorem eOp_at{o:Op2}{a b:Ev}{ρ:Rho}:eOp o a b ρ=(a ρ).bind (opF o b ρ):=rfl
def consG(d:D)(ds:List D):Res (List D):=.ok (d::ds)
def consF(r:Fv)(ρ:Rho)(d:D):Res (List D):=(r ρ).bind (consG d)
theorem aCons_at{e:Ev}{r:Fv}{ρ:Rho}:aB e r ρ=(e ρ).bind (consF r ρ):=rfl
def tupF(ds:List D):Res D:=if ds.length<=16777216 then .ok (.tup ds) else .no
theorem eTup_at{a:Fv}{ρ:Rho}:qO a ρ=(a ρ).bind tupF:=rfl
def rtF(r:Rt):Res D:=.ok r.d
def callF(m:Mir)(ds:List D):Res D:=(m ds).bind rtF
theorem eCall_at{m:Mir}{a:Fv}{ρ:Rho}:aM m a ρ=(a ρ).bind (callF m):=rfl
def isTF(T:String)(d:D):Res D:=.ok (.bl (isT T d))
theorem eIsT_at{T:String}{a:Ev}{ρ:Rho}:zPE T a ρ=(a ρ).bind (isTF T):=rfl
def notNF(d:D):Res D:=.ok (.bl (!isNon d))
theorem eNotN_at{a:Ev}{ρ:Rho}:zDk a ρ=(a ρ).bind notNF:=rfl
def frzF(d:D):Res D:=if noL d=true then .ok d else .no
theorem eFrz_at{e:Ev}{ρ:Rho}:zCf e ρ=(e (ρ.map Sl.frz)).bind frzF:=rfl
def fLstF(ds:List D):Res (List D):=if ds.length<=16777216 then .ok ds else .no
theorem fLst_at{a:Fv}{ρ:Rho}:oA a ρ=(a ρ).bind fLstF:=rfl
def rtFF:Rt->Res (List D)
 | .f ds=>.ok ds
 | .v _=>.no
def fcallF(m:Mir)(ds:List D):Res (List D):=(m ds).bind rtFF
theorem fCall_at{m:Mir}{a:Fv}{ρ:Rho}:eP m a ρ=(a ρ).bind (fcallF m):=by
 unfold eP fcallF;congr
def zGb:List D->Res (List D)
 | [.lst ds]=>.ok ds
 | [.tup ds]=>.ok ds
 | _=>.no
theorem fListF_l{ds:List D}:zGb [.lst ds]=.ok ds:=rfl
theorem fListF_t{ds:List D}:zGb [.tup ds]=.ok ds:=rfl
theorem fList_at{a:Fv}{ρ:Rho}:zKB a ρ=(a ρ).bind zGb:=rfl
def catG(x y:D):Res (List D):=match x,y with
 | .lst ds,.lst es=>if ds.length+es.length<=16777216 then .ok (ds++es) else .no
 | _,_=>.no
def catF(b:Ev)(ρ:Rho)(x:D):Res (List D):=(b ρ).bind (catG x)
theorem fCat_at{a b:Ev}{ρ:Rho}:zMZ a b ρ=(a ρ).bind (catF b ρ):=rfl
def efF(ds:List D):Res D:=.ok (.lst ds)
theorem eF_at{f:Fv}{ρ:Rho}:eF f ρ=(f ρ).bind efF:=rfl
def fFrzF(ds:List D):Res (List D):=if noLs ds=true then .ok ds else .no
theorem fFrz_at{f:Fv}{ρ:Rho}:zNG f ρ=(f (ρ.map Sl.frz)).bind fFrzF:=rfl
def oSF:D->Res (Option Int)
 | .int i=>.ok (some i)
 | _=>.no
theorem oS_at{e:Ev}{ρ:Rho}:oS e ρ=(e ρ).bind oSF:=by
 unfold oS;congr
def fSlH(x:D)(l h:Option Int):Res (List D):=match x with
 | .lst ds=>.ok (dU ds l h)
 | _=>.no
def fSlG(hi:Ov)(ρ:Rho)(x:D)(l:Option Int):Res (List D):=(hi ρ).bind (fSlH x l)
def fSlF(lo hi:Ov)(ρ:Rho)(x:D):Res (List D):=(lo ρ).bind (fSlG hi ρ x)
theorem fSl_at{a:Ev}{lo hi:Ov}{ρ:Rho}:fSl a lo hi ρ=(a ρ).bind (fSlF lo hi ρ):=rfl
def zPR(x:D)(l h:Option Int):Res D:=match x with
 | .tup ds=>if (dU ds l h).length<ds.length then .ok (.tup (dU ds l h)) else .no
 | _=>.no
def blF:D->Res Bool
 | .bl b=>.ok b
 | _=>.no
theorem tVal_at{e:Ev}{ρ:Rho}:dR e ρ=(e ρ).bind blF:=by
 unfold dR;congr
def notF(b:Bool):Res Bool:=.ok (!b)
theorem tNotB_at{t:Tv}{ρ:Rho}:zGH t ρ=(t ρ).bind notF:=rfl
def zKE(u:Tv)(ρ:Rho):Bool->Res Bool
 | true=>u ρ
 | false=>.ok false
theorem tAndB_at{t u:Tv}{ρ:Rho}:zAo t u ρ=(t ρ).bind (zKE u ρ):=by
 unfold zAo;congr;funext c;cases c<;>rfl
def zNO(u:Tv)(ρ:Rho):Bool->Res Bool
 | true=>.ok true
 | false=>u ρ
theorem tOrB_at{t u:Tv}{ρ:Rho}:zFN t u ρ=(t ρ).bind (zNO u ρ):=by
 unfold zFN;congr;funext c;cases c<;>rfl
def setF(i:Nat)(ρ:Rho)(d:D):Res Fl:=.ok (.nx (ρ.set i (.val d)))
theorem sSet_at{i:Nat}{e:Ev}{ρ:Rho}:cQ i e ρ=(e ρ).bind (setF i ρ):=rfl
def ownF(i:Nat)(ρ:Rho)(ds:List D):Res Fl:=.ok (.nx (ρ.set i (.own ds)))
theorem sOwn_at{i:Nat}{f:Fv}{ρ:Rho}:zDQ i f ρ=(f ρ).bind (ownF i ρ):=rfl
def dropF(ρ:Rho)(_d:D):Res Fl:=.ok (.nx ρ)
theorem sDrop_at{e:Ev}{ρ:Rho}:rZ e ρ=(e ρ).bind (dropF ρ):=rfl
def retF(d:D):Res Fl:=.ok (.ret (.v d))
theorem sRet_at{e:Ev}{ρ:Rho}:fZ e ρ=(e (ρ.map Sl.frz)).bind retF:=rfl
def retFF(ds:List D):Res Fl:=.ok (.ret (.f ds))
theorem sRetF_at{f:Fv}{ρ:Rho}:mB f ρ=(f (ρ.map Sl.frz)).bind retFF:=rfl
def raiseF(c:Str)(ds:List D):Res Fl:=if ds.length<=16777216 then .err c else .no
theorem sRaise_at{c:Str}{a:Fv}{ρ:Rho}:jX c a ρ=(a ρ).bind (raiseF c):=rfl
def appF(i:Nat)(ρ:Rho)(ds:List D)(d:D):Res Fl:=if ds.length<16777216 then .ok (.nx (ρ.set i (.own (ds++[d])))) else .no
def appS(i:Nat)(e:Ev)(ρ:Rho):Option Sl->Res Fl
 | some (.own ds)=>(e ρ).bind (appF i ρ ds)
 | _=>.no
theorem sApp_at{i:Nat}{e:Ev}{ρ:Rho}:zGS i e ρ=appS i e ρ ρ[i]?:=by
 unfold zGS appS;rfl
def extF(i:Nat)(ρ:Rho)(ds:List D)(es:List D):Res Fl:=if ds.length+es.length<=16777216 then .ok (.nx (ρ.set i (.own (ds++es)))) else .no
def extS(i:Nat)(e:Fv)(ρ:Rho):Option Sl->Res Fl
 | some (.own ds)=>(e ρ).bind (extF i ρ ds)
 | _=>.no
theorem sExt_at{i:Nat}{e:Fv}{ρ:Rho}:zKV i e ρ=extS i e ρ ρ[i]?:=by
 unfold zKV extS;rfl
def augF(i:Nat)(ρ:Rho)(o:Op2)(x y:D):Res Fl:=(o x y).bind (setF i ρ)
def augS(i:Nat)(o:Op2)(e:Ev)(ρ:Rho):Option Sl->Res Fl
 | some (.val x)=>(e ρ).bind (augF i ρ o x)
 | _=>.no
theorem sAug_at{i:Nat}{o:Op2}{e:Ev}{ρ:Rho}:zNb i o e ρ=augS i o e ρ ρ[i]?:=by
 unfold zNb augS;rfl
def dropG(ρ:Rho)(_r:Rt):Res Fl:=.ok (.nx ρ)
def setG(i:Nat)(ρ:Rho)(r:Rt):Res Fl:=.ok (.nx (ρ.set i (.val r.d)))
def xsetF(i:Nat)(m:Mir)(ρ:Rho)(ds:List D):Res Fl:=(m ds).bind (setG i ρ)
theorem xSet_at{i:Nat}{m:Mir}{a:Fv}{ρ:Rho}:zNH i m a ρ=(noErr (a ρ)).bind (xsetF i m ρ):=rfl
def varS:Option Sl->Res D
 | some (.val d)=>.ok d
 | _=>.no
theorem eVar_at{i:Nat}{ρ:Rho}:aD i ρ=varS ρ[i]?:=by
 unfold aD varS;rfl
def retS:Option Sl->Res Fl
 | some (.own ds)=>.ok (.ret (.f ds))
 | _=>.no
theorem sRetOwn_at{i:Nat}{ρ:Rho}:gU i ρ=retS ρ[i]?:=by
 unfold gU retS;rfl
def nxF(ρ:Rho):Res Fl:=.ok (.nx ρ)
def unpF(g:Gv)(ρ:Rho)(d:D):Res Fl:=(g d ρ).bind nxF
theorem sUnp_at{g:Gv}{f:Ev}{ρ:Rho}:zPq g f ρ=(f ρ).bind (unpF g ρ):=rfl
def gtF(gs:List D->Rho->Res Rho)(ρ:Rho):D->Res Rho
 | .tup ds=>gs ds ρ
 | _=>.no
theorem gTup_at{gs:List D->Rho->Res Rho}{d:D}{ρ:Rho}:zBb gs d ρ=gtF gs ρ d:=by
 unfold zBb gtF;rfl
theorem gCons_at{g:Gv}{r:List D->Rho->Res Rho}{d:D}{ds:List D}{ρ:Rho}:gB g r (d::ds) ρ=(g d ρ).bind (r ds):=rfl
theorem gNil_at{ρ:Rho}:zBm [] ρ=.ok ρ:=rfl
def forF(g:Gv)(b:Sv)(ρ:Rho)(ds:List D):Res Fl:=loop g b ds ρ
theorem sFor_at{it:Fv}{g:Gv}{b:Sv}{ρ:Rho}:tX it g b ρ=(it ρ).bind (forF g b ρ):=rfl
def zHZ:D->Res (List D)
 | .lst ds=>.ok ds
 | .tup ds=>.ok ds
 | _=>.no
theorem seqD_l{ds:List D}:zHZ (.lst ds)=.ok ds:=rfl
theorem seqD_t{ds:List D}:zHZ (.tup ds)=.ok ds:=rfl
theorem iSeq_at{e:Ev}{ρ:Rho}:xK e ρ=(e ρ).bind zHZ:=by
 unfold xK;congr
def zMq:List D->Res (List D)
 | [.int j]=>if -(2^62)<=j/\j<2^62 then .ok (rng 0 j.toNat 1) else .no
 | _=>.no
theorem iRng1_at{a:Fv}{ρ:Rho}:zJ a ρ=(a ρ).bind zMq:=rfl
def zKZ:List D->Res (List D)
 | [.int i,.int j]=>if -(2^62)<=i/\i<2^62/\-(2^62)<=j/\j<2^62 then .ok (rng i (j-i).toNat 1) else .no
 | _=>.no
theorem iRng2_at{a:Fv}{ρ:Rho}:zEl a ρ=(a ρ).bind zKZ:=rfl
theorem fn_at{p n:Nat}{b:Sv}{ds:List D}(h:ds.length=p):fn p n b ds=(b (start n ds)).bind fin:=by
 unfold fn;rw[if_pos h]
theorem nr{α:Sort _}{a b:α}(h:a=b):a=b:=h
theorem okb{α β:Type}{a:α}{f:α->Res β}:(Res.ok a).bind f=f a:=nr rfl
theorem erb{α β:Type}{c:Str}{f:α->Res β}:(Res.err c).bind f=.err c:=nr rfl
theorem seqF_nx{b:Sv}{ρ:Rho}:zCC b (.nx ρ)=b ρ:=nr rfl
theorem seqF_ret{b:Sv}{r:Rt}:zCC b (.ret r)=.ok (.ret r):=nr rfl
theorem gtF_t{gs:List D->Rho->Res Rho}{ρ:Rho}{ds:List D}:gtF gs ρ (.tup ds)=gs ds ρ:=nr rfl
theorem ifF_t{a b:Sv}{ρ:Rho}:ifF a b ρ true=a ρ:=nr rfl
theorem ifF_f{a b:Sv}{ρ:Rho}:ifF a b ρ false=b ρ:=nr rfl
theorem eifF_t{a b:Ev}{ρ:Rho}:zOn a b ρ true=a ρ:=nr rfl
theorem eifF_f{a b:Ev}{ρ:Rho}:zOn a b ρ false=b ρ:=nr rfl
theorem andF_t{b:Ev}{ρ:Rho}:zOs b ρ (.bl true)=b ρ:=nr rfl
theorem andF_f{b:Ev}{ρ:Rho}:zOs b ρ (.bl false)=.ok (.bl false):=nr rfl
theorem orF_t{b:Ev}{ρ:Rho}:orF b ρ (.bl true)=.ok (.bl true):=nr rfl
theorem orF_f{b:Ev}{ρ:Rho}:orF b ρ (.bl false)=b ρ:=nr rfl
theorem tandF_t{u:Tv}{ρ:Rho}:zKE u ρ true=u ρ:=nr rfl
theorem tandF_f{u:Tv}{ρ:Rho}:zKE u ρ false=.ok false:=nr rfl
theorem torF_t{u:Tv}{ρ:Rho}:zNO u ρ true=.ok true:=nr rfl
theorem torF_f{u:Tv}{ρ:Rho}:zNO u ρ false=u ρ:=nr rfl
theorem oAdd_i{i j:Int}:pJ (.int i) (.int j)=.ok (.int (i+j)):=rfl
theorem oSub_i{i j:Int}:zAa (.int i) (.int j)=.ok (.int (i-j)):=rfl
theorem oMul_i{i j:Int}(h:hG i j=true):oO (.int i) (.int j)=.ok (.int (i*j)):=if_pos h
theorem oDiv_i{i j:Int}(h:kF j=true):lC (.int i) (.int j)=.ok (.int (i.fdiv j)):=if_pos h
theorem oMod_i{i j:Int}(h:j≠0):jC (.int i) (.int j)=.ok (.int (i.fmod j)):=if_pos h
theorem oPow_i{i j:Int}(h:pE i j=true):zA (.int i) (.int j)=.ok (.int (i^j.toNat)):=if_pos h
theorem oEq_i{i j:Int}:oEq (.int i) (.int j)=.ok (.bl (decide (i=j))):=rfl
theorem oNe_i{i j:Int}:oNe (.int i) (.int j)=.ok (.bl (!decide (i=j))):=rfl
theorem oLt_i{i j:Int}:oLt (.int i) (.int j)=.ok (.bl (decide (i<j))):=rfl
theorem oLe_i{i j:Int}:oLe (.int i) (.int j)=.ok (.bl (decide (i<=j))):=rfl
theorem oGt_i{i j:Int}:oGt (.int i) (.int j)=.ok (.bl (decide (j<i))):=rfl
theorem oGe_i{i j:Int}:oGe (.int i) (.int j)=.ok (.bl (decide (j<=i))):=rfl
theorem ofO_some{α:Type}{a:α}:ofO (some a)=.ok a:=rfl
theorem oNeg_i{i:Int}:zLr (.int i)=.ok (.int (-i)):=rfl
theorem oNot_b{b:Bool}:zPf (.bl b)=.ok (.bl (!b)):=rfl
theorem bAbs_i{i:Int}:zKx [.int i]=.ok (.int (i.natAbs:Int)):=by
 show Res.ok (D.int (if i<0 then -i else i))=_
 congr 2;split<;>omega
theorem bMin_i{i j:Int}:zLJ [.int i,.int j]=.ok (.int (min i j)):=by
 show Res.ok (D.int (if j<i then j else i))=_
 congr 2;split<;>omega
theorem pQ{j:Int}(h1:-(2^62)<=j)(h2:j<2^62):zMq [.int j]=.ok (rng 0 j.toNat 1):=if_pos ⟨h1,h2⟩
theorem zJz{i j:Int}(h1:-(2^62)<=i)(h2:i<2^62)(h3:-(2^62)<=j)(h4:j<2^62):zKZ [.int i,.int j]=.ok (rng i (j-i).toNat 1):=if_pos ⟨h1,h2,h3,h4⟩
theorem zBU{α:Type}{g:Gv}{b:Sv}{ds:List D}{ρ:Rho}{k:Fl->Res α}{Q:Res α->Prop}(P:Rho->Prop)(h0:P ρ)
  (st:∀ d ρ,d∈ds->P ρ->∃ ρ2,(g d ρ).bind b=.ok (.nx ρ2)/\P ρ2) (fi:∀ ρ',P ρ'->Q (k (.nx ρ'))):Q ((loop g b ds ρ).bind k):=by
 suffices h:∃ ρ',loop g b ds ρ=.ok (.nx ρ')/\P ρ' by
  obtain⟨ρ',e,hp⟩:=h;rw[e];exact fi ρ' hp
 clear fi
 induction ds generalizing ρ with
 | nil=>exact⟨ρ,rfl,h0⟩
 | cons d ds ih=>
  obtain⟨ρ2,e,hp⟩:=st d ρ Qe h0;obtain⟨ρ',e',hp'⟩:=ih hp fun d' ρ' hd=>st d' ρ' (Qd _ hd)
  refine⟨ρ',?_,hp'⟩
  rw[loop]
  cases hg:g d ρ with
  | no=>rw[hg] at e;cases e
  | err c=>rw[hg] at e;cases e
  | ok ρ1=>
   rw[hg] at e;have e2:b ρ1=.ok (.nx ρ2):=e;simp only[Res.bind,e2];exact e'
theorem ty_i{i:Int}:tyN (.int i) = "int" := rfl
theorem ty_b{b:Bool}:tyN (.bl b) = "bool" := rfl
theorem ty_t{ds:List D}:tyN (.tup ds) = "tuple" := rfl
theorem ty_l{ds:List D}:tyN (.lst ds) = "list" := rfl
theorem ty_s{x:Str}:tyN (.str x) = "str" := rfl
theorem ty_n:tyN .non = "NoneType" := rfl
theorem bLen_t{ds:List D}:lA [.tup ds]=.ok (.int ds.length):=rfl
theorem bLen_l{ds:List D}:lA [.lst ds]=.ok (.int ds.length):=rfl
theorem bTup_t{ds:List D}:zIj [.tup ds]=.ok (.tup ds):=rfl
theorem bTup_l{ds:List D}:zIj [.lst ds]=.ok (.tup ds):=rfl
theorem kU{α:Type}{g:Gv}{b:Sv}{ds:List D}{ρ:Rho}{k:Fl->Res α}{Q:Res α->Prop}(P:Nat->Rho->Prop)(h0:P 0 ρ)
  (st:∀ i d ρ,ds[i]?=some d->P i ρ->∃ ρ2,(g d ρ).bind b=.ok (.nx ρ2)/\P (i+1) ρ2) (fi:∀ ρ',P ds.length ρ'->Q (k (.nx ρ'))):Q ((loop g b ds ρ).bind k):=by
 suffices h:∀(ds:List D)(j:Nat)(ρ:Rho),P j ρ->(∀ i d ρ,ds[i]?=some d->P (j+i) ρ->∃ ρ2,(g d ρ).bind b=.ok (.nx ρ2)/\P (j+i+1) ρ2)->∃ ρ',loop g b ds ρ=.ok (.nx ρ')/\P (j+ds.length) ρ' by
  obtain⟨ρ',e,hp⟩:=h ds 0 ρ h0 (fun i d ρ hd hp=>by rw[Q6] at hp ⊢;exact st i d ρ hd hp)
  rw[e];exact fi ρ' (by rw[Q6] at hp;exact hp)
 intro ds
 induction ds with
 | nil=>intro j ρ hp _;exact⟨ρ,rfl,hp⟩
 | cons d ds ih=>
  intro j ρ hp st;obtain⟨ρ2,e,hp2⟩:=st 0 d ρ rfl hp
  obtain⟨ρ',e',hp'⟩:=ih (j+1) ρ2 hp2 fun i d' ρ' hd hp=>by
   have:=st (i+1) d' ρ' (by simpa using hd) (by rw[show j+(i+1)=j+1+i by omega];exact hp)
   rw[show j+(i+1)=j+1+i by omega] at this;exact this
  refine⟨ρ',?_,by rw[Qk,show j+(ds.length+1)=j+1+ds.length by omega];exact hp'⟩
  rw[loop]
  cases hg:g d ρ with
  | no=>rw[hg] at e;cases e
  | err c=>rw[hg] at e;cases e
  | ok ρ1=>
   rw[hg] at e;have e2:b ρ1=.ok (.nx ρ2):=e;simp only[Res.bind,e2];exact e'
theorem zGK{lo c:Int}{n i:Nat}{d:D}(h:(rng lo n c)[i]?=some d):i<n/\d=.int (lo+(i:Int)*c):=by
 unfold rng at h;rw[Qq] at h;by_cases hi:i<n
 ·rw[Xl hi] at h
  cases h;exact⟨hi,rfl⟩
 ·rw[Qv (by rw[Q7];omega)] at h
  cases h
theorem zLd{lo c:Int}{n:Nat}:(rng lo n c).length=n:=by unfold rng;rw[Qh,Q7]
theorem zCN{f:Ev}{ρ:Rho}{h:D->D}:∀ {ds:List D},(∀ d∈ds,f (ρ++[.val d])=.ok (h d))->fF sZ f ρ ds=.ok (ds.map h)
 | [],_=>rfl
 | d::ds,hf=>by
  rw[fF,hf d Qe];simp only[sZ,noErr,Res.bind,if_true];rw[zCN fun e he=>hf e (Qd _ he)];rfl
def zAb(t:Tv)(f:Ev)(ρ:Rho)(ds:List D):Res (List D):=if ds.length<=16777215 then fF t f ρ ds else .no
theorem fComp_at{it:Fv}{t:Tv}{f:Ev}{ρ:Rho}:xL it t f ρ=(it ρ).bind (zAb t f ρ):=rfl
theorem zEq{f:Ev}{ρ:Rho}{h:D->D}{ds:List D}(hl:ds.length<=16777215)(hf:∀ d∈ds,f (ρ++[.val d])=.ok (h d)):zAb sZ f ρ ds=.ok (ds.map h):=by
 unfold zAb;rw[if_pos hl,zCN hf]
theorem zJE{d:D}(h:dep d<=50):oNe d d=.ok (.bl false):=by unfold oNe;rw[if_pos h,rG];rfl
theorem zCU{α:Type}(l:List α)(a:Nat):l.drop (min a l.length)=l.drop a:=by
 rcases Yz a l.length with h | h
 ·rw[Uq h]
 ·rw[Nat.min_eq_right h,List.drop_length,Yo h]
theorem zFo{ds:List D}{a b:Int}(h1:0<=a)(h2:0<=b):dU ds (some a) (some b)=(ds.drop a.toNat).take (b.toNat-a.toNat):=by
 unfold dU cut;simp only[h1,h2,if_true];rw[zCU];rcases Yz ds.length a.toNat with c | c
 ·rw[Yo c,List.take_nil,List.take_nil]
 ·rw[Uq c]
  rcases Yz b.toNat ds.length with d | d
  ·rw[Uq d]
  ·rw[Nat.min_eq_right d,Yp (by rw[Vn];exact Qb _),Yp (by rw[Vn];exact Nat.sub_le_sub_right d _)]
theorem zDr{ds:List D}{a:Int}(h1:0<=a):dU ds (some a) none=ds.drop a.toNat:=by
 unfold dU cut;simp only[h1,if_true];rw[zCU,Yp (by rw[Vn];omega)]
theorem mE{α:Type}{f:α->D}{l:List α}{i:Int}{a:α}(h0:0<=i)(h:l[i.toNat]?=some a):oIx (.lst (l.map f)) (.int i)=.ok (f a):=by
 show ofO (atD (l.map f) i)=_
 unfold atD;rw[if_pos h0,Qq,h];rfl
theorem oIx_tc{d:D}{ds:List D}{i:Int}:oIx (.tup (d::ds)) (.int i)=ofO (atD (d::ds) i):=rfl
theorem xV{α:Type}{f:α->D}{l:List α}{i:Int}{a:α}(h0:0<=i)(h:l[i.toNat]?=some a):oIx (.tup (l.map f)) (.int i)=.ok (f a):=by
 show ofO (atD (l.map f) i)=_
 unfold atD;rw[if_pos h0,Qq,h];rfl
def zOv(ds:List D):D->Res (List D)
 | .int k=>if 0<=k/\k<2^62/\ds.length*k.toNat<=16777216 then .ok (List.replicate k.toNat ds).flatten else .no
 | _=>.no
def repF(g:Ev)(ρ:Rho)(ds:List D):Res (List D):=(g ρ).bind (zOv ds)
theorem fRep_at{f:Fv}{g:Ev}{ρ:Rho}:zKU f g ρ=(f ρ).bind (repF g ρ):=by
 unfold zKU repF;congr
theorem zGs{d:D}{k:Nat}(h:k<=16777216):zOv [d] (.int (k:Int))=.ok (List.replicate k d):=by
 have e:∀ n,(List.replicate n [d]).flatten=List.replicate n d:=by
  intro n
  induction n with
  | zero=>rfl
  | succ n ih=>rw[Xh,Xv,ih];rfl
 unfold zOv;dsimp only
 rw[if_pos ⟨by omega,by omega,by simp only[Qk,X8,Vh];omega⟩,Vh,e]
theorem zFb{α:Type}{u:α->D}{f:Ev}{ρ:Rho}{g:α->D}:∀ {l:List α},(∀ a∈l,f (ρ++[.val (u a)])=.ok (g a))->fF sZ f ρ (l.map u)=.ok (l.map g)
 | [],_=>rfl
 | a::l,h=>by
  rw[Qi,fF,h a Qe];simp only[sZ,noErr,Res.bind,if_true];rw[zFb fun b hb=>h b (Qd _ hb)];rfl
theorem xX{α:Type}{u:α->D}{f:Ev}{ρ:Rho}{g:α->D}{l:List α}(hl:l.length<=16777215)(h:∀ a∈l,f (ρ++[.val (u a)])=.ok (g a)):zAb sZ f ρ (l.map u)=.ok (l.map g):=by
 unfold zAb;rw[if_pos (by rw[Qh];exact hl),zFb h]
theorem bSum_l{ns:List Int}:zAS [.lst (ns.map D.int)]=.ok (.int ns.sum):=by
 have e:∀ ns:List Int,mC (ns.map D.int)=some ns:=by
  intro ns
  induction ns with
  | nil=>rfl
  | cons i ns ih=>rw[Qi,mC,ih]
 show(match mC (ns.map D.int) with | some ns=>Res.ok (D.int ns.sum) | none=>.no)=_
 rw[e]
theorem bSum_t{ns:List Int}:zAS [.tup (ns.map D.int)]=.ok (.int ns.sum):=by
 have e:∀ ns:List Int,mC (ns.map D.int)=some ns:=by
  intro ns
  induction ns with
  | nil=>rfl
  | cons i ns ih=>rw[Qi,mC,ih]
 show(match mC (ns.map D.int) with | some ns=>Res.ok (D.int ns.sum) | none=>.no)=_
 rw[e]
def slI(i:Nat)(ρ:Rho):Int:=match ρ[i]? with
 | some (.val (.int x))=>x
 | _=>0
theorem chO_s{c:Nat}:chO (some c)=.ok (.str ⟨#[c]⟩):=rfl
theorem zNm{x:Str}:dep (.str x)<=50:=by simp[dep]
theorem oEq_s{x y:Str}:oEq (.str x) (.str y)=.ok (.bl (x==y)):=by
 unfold oEq;rw[if_pos zNm,eqD]
theorem oNe_s{x y:Str}:oNe (.str x) (.str y)=.ok (.bl (!(x==y))):=by
 unfold oNe;rw[if_pos zNm,eqD]
theorem dW{g:Gv}{b:Sv}{d:D}{ds:List D}{ρ ρ1 ρ2:Rho}(hg:g d ρ=.ok ρ1)(hb:b ρ1=.ok (.nx ρ2)):loop g b (d::ds) ρ=loop g b ds ρ2:=by
 rw[loop];simp only[hg,Res.bind,hb]
theorem zFq{g:Gv}{b:Sv}{d:D}{ds:List D}{ρ ρ1:Rho}{r:Rt}(hg:g d ρ=.ok ρ1)(hb:b ρ1=.ok (.ret r)):loop g b (d::ds) ρ=.ok (.ret r):=by
 rw[loop];simp only[hg,Res.bind,hb]
theorem oTabNot_s{T:List (Str×Str)}{x:Str}:pP T (.str x)=.ok (.bl (!(T.lookup x).isSome)):=rfl
theorem yL{α:Type}(p:α->Int):∀ l:List α,mC (l.map fun a=>D.int (p a))=some (l.map p)
 | []=>rfl
 | a::l=>by rw[Qi,mC,yL p l];rfl
def mx0:List Int->Int
 | []=>0
 | a::r=>wA a r
theorem zFL{α:Type}{p:α->Int}{l:List α}:zAX [.lst (l.map fun a=>D.int (p a)),.int 0]=.ok (.int (mx0 (l.map p))):=by
 show(match mC (l.map fun a=>D.int (p a)) with | some (a::r)=>Res.ok (D.int (wA a r)) | some []=>.ok (.int 0) | none=>.no)=_
 rw[yL];cases l<;>rfl
def zOP:List D->Res (List D)
 | [x,y]=>match zGQ x,zGQ y with
  | some xs,some ys=>.ok (kD xs ys)
  | _,_=>.no
 | _=>.no
theorem iZip_at{a:Fv}{ρ:Rho}:zKS a ρ=(a ρ).bind zOP:=by
 unfold zKS;congr
theorem sX{x y:D}{xs ys:List D}(hx:zGQ x=some xs)(hy:zGQ y=some ys):zOP [x,y]=.ok (kD xs ys):=by
 show(match zGQ x,zGQ y with | some xs,some ys=>Res.ok (kD xs ys) | _,_=>.no)=_
 rw[hx,hy]
def zJq:D->Res (List D)
 | .lst ds=>.ok (kG 0 ds)
 | .tup ds=>.ok (kG 0 ds)
 | _=>.no
theorem enumF_t{ds:List D}:zJq (.tup ds)=.ok (kG 0 ds):=rfl
theorem enumF_l{ds:List D}:zJq (.lst ds)=.ok (kG 0 ds):=rfl
theorem iEnum_at{e:Ev}{ρ:Rho}:zGv e ρ=(e ρ).bind zJq:=by
 unfold zGv;congr
def zFG(f:Ev)(ρ:Rho)(ds:List D):Res (List D):=if ds.length<=16777215 then eX f ρ ds else .no
theorem fComp2_at{it:Fv}{f:Ev}{ρ:Rho}:vF it f ρ=(it ρ).bind (zFG f ρ):=rfl
theorem zCS{α β:Type}{u:α->D}{v:β->D}{f:Ev}{ρ:Rho}{g:α->β->D}:∀ {l:List α} {m:List β},(∀ p∈l.zip m,f (ρ++[.val (u p.1),.val (v p.2)])=.ok (g p.1 p.2))->
  eX f ρ (kD (l.map u) (m.map v))=.ok ((l.zip m).map fun p=>g p.1 p.2)
 | [],m,h=>by cases m<;>rfl
 | a::l,[],h=>rfl
 | a::l,b::m,h=>by
  have h1:=h (a,b) Qe;have h2:=zCS (l:=l) (m:=m) (u:=u) (v:=v) (g:=g) fun p hp=>h p (Qd _ hp)
  show(noErr (f (ρ++[.val (u a),.val (v b)]))).bind (fun e=>(eX f ρ (kD (l.map u) (m.map v))).bind fun es=>.ok (e::es))=_
  rw[h1,h2];rfl
theorem oK{α β:Type}{u:α->D}{v:β->D}{f:Ev}{ρ:Rho}{g:α->β->D}{l:List α}{m:List β}(hl:l.length<=16777215)(h:∀ p∈l.zip m,f (ρ++[.val (u p.1),.val (v p.2)])=.ok (g p.1 p.2)):
  zFG f ρ (kD (l.map u) (m.map v))=.ok ((l.zip m).map fun p=>g p.1 p.2):=by
 unfold zFG;rw[if_pos,zCS h]
 have:∀(a b:List D),(kD a b).length<=a.length:=by
  intro a
  induction a with
  | nil=>intro b;cases b<;>exact Qb _
  | cons x a ih=>intro b;cases b with
   | nil=>exact Vk _
   | cons y b=>exact V7 (ih b)
 exact Qp (this _ _) (by rw[Qh];exact hl)
def zOO(hi:Ov)(ρ:Rho)(x:D)(l:Option Int):Res D:=(hi ρ).bind fun h=>slQ l h x
def slQF(lo hi:Ov)(ρ:Rho)(x:D):Res D:=(lo ρ).bind (zOO hi ρ x)
theorem eSlQ_at{a:Ev}{lo hi:Ov}{ρ:Rho}:zOi a lo hi ρ=(a ρ).bind (slQF lo hi ρ):=rfl
def zKQ(x:D)(l h:Option Int):Res D:=slQ l h x
theorem slQE_at{hi:Ov}{ρ:Rho}{x:D}{l:Option Int}:zOO hi ρ x l=(hi ρ).bind (zKQ x l):=rfl
theorem slQG_l{ds:List D}{l h:Option Int}:zKQ (.lst ds) l h=.ok (.lst (dU ds l h)):=rfl
theorem slQG_t{ds:List D}{l h:Option Int}:zKQ (.tup ds) l h=.ok (.tup (dU ds l h)):=rfl
end L3
namespace Ln
open Fq
abbrev Pt:=Rat×Rat
def asc(a b:Pt):Prop:=a.1<b.1/\a.2<=b.2
def btw(a b c:Pt):Bool:=decide ((b.2-a.2)*(c.1-b.1)=(c.2-b.2)*(b.1-a.1))
def push:List Pt->Pt->List Pt
 | b::a::s,c=>if btw a b c=true then c::a::s else c::b::a::s
 | s,c=>c::s
def few:Pt->List Pt->List Pt
 | _,[]=>[]
 | _,[b]=>[b]
 | a,b::c::r=>if btw a b c=true then few b (c::r) else b::few b (c::r)
def Ok(ps:List Pt):Prop:=ps.head?=some (0,0)/\ps.Pairwise asc
theorem lt_iff{p q:Rat}:p.num*q.den<q.num*p.den ↔ p<q:=Rat.lt_iff p q |>.symm
end Ln
namespace L3
open PySem PySem.Spec PyProof.Rows L2
abbrev St:=L2.St
mutual
inductive IsD (K:PySem.W.Frag) (H:Hp):V->D->Prop where
 | non:IsD K H .non .non
 | bl (b:Bool):IsD K H (.bl b) (.bl b)
 | int (i:Int):IsD K H (.int i) (.int i)
 | str (x:Str):IsD K H (.str x) (.str x)
 | tup {a:Addr} {xs:List V} {ds:List D}:SqT K H a xs->IsDs K H xs ds->IsD K H (.ref a) (.tup ds)
 | lst {a:Addr} {xs:List V} {ds:List D}:SqL K H a xs->IsDs K H xs ds->IsD K H (.ref a) (.lst ds)
inductive IsDs (K:PySem.W.Frag) (H:Hp):List V->List D->Prop where
 | nil:IsDs K H [] []
 | cons {v:V} {d:D} {vs:List V} {ds:List D}:IsD K H v d->IsDs K H vs ds->IsDs K H (v::vs) (d::ds)
end
theorem _root_.L2.Same.rd{H H':Hp}(e:Same H H'){a:Addr}{u:HO}(h:Rd H a u):Rd H' a u:=by
 rcases h with h | ⟨o,h⟩
 ·exact .inl (e _ _ h)
 ·exact .inr ⟨o,e _ _ h⟩
theorem bN{K:Fg_}{H H':Hp}(e:Same H H'){a:Addr}{xs:List V}(h:SqT K H a xs):SqT K H' a xs:=h.imp (Same.rd e) id
theorem cC{K:Fg_}{H H':Hp}(e:Same H H'){a:Addr}{xs:List V}(h:SqL K H a xs):SqL K H' a xs:=h.imp (Same.rd e) id
section
variable{K:Fg_}{H H':Hp}
mutual
theorem IsD.mono(e:Same H H'):∀ {v:V} {d:D},IsD K H v d->IsD K H' v d
 | _,_,.non=>.non
 | _,_,.bl b=>.bl b
 | _,_,.int i=>.int i
 | _,_,.str x=>.str x
 | _,_,.tup h hs=>.tup (bN e h) (IsDs.mono e hs)
 | _,_,.lst h hs=>.lst (cC e h) (IsDs.mono e hs)
theorem IsDs.mono(e:Same H H'):∀ {vs:List V} {ds:List D},IsDs K H vs ds->IsDs K H' vs ds
 | _,_,.nil=>.nil
 | _,_,.cons h hs=>.cons (IsD.mono e h) (IsDs.mono e hs)
end
theorem IsDs.length:∀ {vs:List V} {ds:List D},IsDs K H vs ds->vs.length=ds.length
 | _,_,.nil=>rfl
 | _,_,.cons _ hs=>by rw[Qk,Qk,IsDs.length hs]
theorem IsDs.at:∀ {vs:List V} {ds:List D} {j:Nat} {d:D},IsDs K H vs ds->ds[j]?=some d->∃ v,vs[j]?=some v/\IsD K H v d
 | _,_,_,_,.nil,e=>by simp at e
 | _,_,0,_,.cons r _,e=>by simp at e;subst e;exact⟨_,rfl,r⟩
 | _,_,j+1,d,.cons _ t,e=>by
  obtain⟨v,h1,h2⟩:=IsDs.at (j:=j) (d:=d) t (by simpa using e)
  exact⟨v,by simpa using h1,h2⟩
theorem IsDs.append:∀ {vs ws:List V} {ds es:List D},IsDs K H vs ds->IsDs K H ws es->IsDs K H (vs++ws) (ds++es)
 | _,_,_,_,.nil,s=>s
 | _,_,_,_,.cons r t,s=>.cons r (IsDs.append t s)
theorem IsDs.take:∀ {vs:List V} {ds:List D} (n:Nat),IsDs K H vs ds->IsDs K H (vs.take n) (ds.take n)
 | _,_,0,_=>.nil
 | _,_,_+1,.nil=>.nil
 | _,_,n+1,.cons r t=>.cons r (IsDs.take n t)
theorem IsDs.drop:∀ {vs:List V} {ds:List D} (n:Nat),IsDs K H vs ds->IsDs K H (vs.drop n) (ds.drop n)
 | _,_,0,r=>r
 | _,_,_+1,.nil=>.nil
 | _,_,n+1,.cons _ t=>IsDs.drop n t
theorem IsDs.set{v:V}{d:D}(h:IsD K H v d):∀ {vs:List V} {ds:List D} (j:Nat),IsDs K H vs ds->IsDs K H (vs.set j v) (ds.set j d)
 | _,_,_,.nil=>.nil
 | _,_,0,.cons _ t=>.cons h t
 | _,_,j+1,.cons q t=>.cons q (IsDs.set h j t)
mutual
theorem IsD.noL(k:∀ b xs,Rd H b (.tup xs)->Rd H' b (.tup xs)):∀ {v:V} {d:D},IsD K H v d->L3.noL d=true->IsD K H' v d
 | _,_,.non,_=>.non
 | _,_,.bl b,_=>.bl b
 | _,_,.int i,_=>.int i
 | _,_,.str x,_=>.str x
 | _,_,.tup h hs,e=>.tup (h.imp (k _ _) id) (IsDs.noL k hs (by rw[L3.noL] at e;exact e))
 | _,_,.lst h hs,e=>by rw[L3.noL] at e;cases e
theorem IsDs.noL(k:∀ b xs,Rd H b (.tup xs)->Rd H' b (.tup xs)):∀ {vs:List V} {ds:List D},IsDs K H vs ds->L3.noLs ds=true->IsDs K H' vs ds
 | _,_,.nil,_=>.nil
 | _,_,.cons h hs,e=>by
  rw[L3.noLs,Vg] at e;exact .cons (IsD.noL k h e.1) (IsDs.noL k hs e.2)
end
end
theorem IsD.intI{K:Fg_}{H:Hp}{v:V}{i:Int}(h:IsD K H v (.int i)):v=.int i:=by cases h;rfl
theorem IsD.blI{K:Fg_}{H:Hp}{v:V}{b:Bool}(h:IsD K H v (.bl b)):v=.bl b:=by cases h;rfl
theorem IsD.strI{K:Fg_}{H:Hp}{v:V}{x:Str}(h:IsD K H v (.str x)):v=.str x:=by cases h;rfl
theorem IsD.tupI{K:Fg_}{H:Hp}{v:V}{ds:List D}(h:IsD K H v (.tup ds)):∃ a xs,v=.ref a/\SqT K H a xs/\IsDs K H xs ds:=by
 cases h with
 | tup h hs=>exact⟨_,_,rfl,h,hs⟩
theorem IsD.lstI{K:Fg_}{H:Hp}{v:V}{ds:List D}(h:IsD K H v (.lst ds)):∃ a xs,v=.ref a/\SqL K H a xs/\IsDs K H xs ds:=by
 cases h with
 | lst h hs=>exact⟨_,_,rfl,h,hs⟩
def qP:Str := "ranked.<locals>.<lambda>"
def zAJ(P:Addr)(H:Hp):Prop:=∃ ps,H P=some (.tbl ps)/\TriplesOk ps.toList/\∀(pos:Pos)(cv:Value),codeAmong pos ps.toList=some cv->∃ c oc vs t u,cv=.ref c/\H c=some (.frz oc u)/\oc.data=.fields vs/\vs[1]?=some (.str qP t)
theorem zAJ.put{P a:Addr}{H:Hp}{x:HO}(h:zAJ P H)(h1:∀ ps,H a≠some (.tbl ps))(h2:∀ o u,H a≠some (.frz o u)):zAJ P (upd H a x):=by
 obtain⟨ps,e,t,k⟩:=h;refine⟨ps,by rw[aT (show P≠a from fun z=>h1 ps (by rw[<-z];exact e))];exact e,t,fun pos cv q=>?_⟩
 obtain⟨c,oc,vs,tk,u,r1,r2,r3⟩:=k pos cv q;exact⟨c,oc,vs,tk,u,r1,by rw[aT (show c≠a from fun z=>h2 oc u (by rw[<-z];exact r2))];exact r2,r3⟩
structure Keep (H H':Hp):Prop where
 k:∀ b o,H b=some o->H' b=some o∨∃ ps ps',o=.tbl ps/\H' b=some (.tbl ps')
 t:∀ P,zAJ P H->zAJ P H'
theorem Keep.refl(H:Hp):Keep H H:=⟨fun _ _ e=>.inl e,fun _ e=>e⟩
theorem Keep.trans{H H1 H2:Hp}(a:Keep H H1)(b:Keep H1 H2):Keep H H2:=
 ⟨fun c o e=>by
  rcases a.k c o e with z | ⟨ps,ps',rfl,z⟩
  ·exact b.k c o z
  ·rcases b.k c _ z with y | ⟨qs,qs',_,y⟩
   ·exact .inr ⟨ps,ps',rfl,y⟩
   ·exact .inr ⟨ps,qs',rfl,y⟩,fun P e=>b.t P (a.t P e)⟩
theorem Keep.at{H H':Hp}(k:Keep H H'){b:Addr}{o:HO}(e:H b=some o)(ho:∀ ps,o≠.tbl ps:=by intro ps z;cases z):H' b=some o:=by
 rcases k.k b o e with z | ⟨ps,ps',z,_⟩
 ·exact z
 ·exact absurd z (ho ps)
theorem Keep.none{H H':Hp}(k:Keep H H'){p:Addr}(e:H' p=none):H p=none:=by
 cases z:H p with
 | none=>rfl
 | some o=>rcases k.k p o z with y | ⟨_,_,_,y⟩<;>(rw[y] at e;cases e)
structure Ext (Hi H Hi' H':Hp):Prop where
 i:Same Hi Hi'
 h:Keep H H'
 s:Same Hi' H'
 n:∀ b,Hi b=none->Hi' b≠none->H b=none
theorem Ext.refl{Hi H:Hp}(h:Same Hi H):Ext Hi H Hi H:=⟨Same.refl _,Keep.refl _,h,fun _ e q=>absurd e q⟩
theorem Ext.trans{Hi H Hi1 H1 Hi2 H2:Hp}(a:Ext Hi H Hi1 H1)(b:Ext Hi1 H1 Hi2 H2):Ext Hi H Hi2 H2:=
 ⟨a.i.trans b.i,a.h.trans b.h,b.s,fun c e q=>by
  cases z:Hi1 c with
  | some o=>exact a.n c e (by rw[z];exact fun w=>by cases w)
  | none=>
   have z2:=b.n c z q
   exact a.h.none z2⟩
theorem bU{H:Hp}{p:Addr}(h:H p=none)(o:HO):Same H (upd H p o):=fun b u q=>by rw[aT (aV q h)];exact q
theorem zCm{H:Hp}{p:Addr}(h:H p=none)(o:HO):Keep H (upd H p o):=⟨fun b u q=>.inl (bU h o b u q),fun P e=>e.put (fun ps z=>by rw[h] at z;cases z) (fun ob u z=>by rw[h] at z;cases z)⟩
theorem _root_.L2.Same.none{H H':Hp}(h:Same H H'){p:Addr}(e:H' p=none):H p=none:=by
 cases z:H p with
 | none=>rfl
 | some o=>rw[h _ _ z] at e;cases e
theorem Ext.new{Hi H:Hp}{p:Addr}{o:HO}(h:Same Hi H)(hp:H p=none):Ext Hi H (upd Hi p o) (upd H p o) where
 i:=bU (h.none hp) o
 h:=zCm hp o
 s:=fun b u q=>by
  by_cases e:b=p
  ·subst e;rw[aQ] at q ⊢;exact q
  ·rw[aT e] at q ⊢;exact h _ _ q
 n:=fun b e q=>by
  by_cases z:b=p
  ·rw[z];exact hp
  ·rw[aT z] at q;exact absurd e q
theorem Ext.newF{Hi H:Hp}{p:Addr}{o:HO}(h:Same Hi H)(hp:H p=none):Ext Hi H Hi (upd H p o) where
 i:=Same.refl _
 h:=zCm hp o
 s:=h.trans (bU hp o)
 n:=fun b e q=>absurd e q
theorem Ext.out{Hi H Hi' H':Hp}(e:Ext Hi H Hi' H'){a:Addr}{o:HO}(h:H a=some o)(hi:Hi a=none)(ho:∀ ps,o≠.tbl ps:=by intro ps z;cases z):H' a=some o/\Hi' a=none:=by
 refine⟨e.h.at h ho,?_⟩
 cases z:Hi' a with
 | none=>rfl
 | some u=>have:=e.n a hi (by rw[z];exact fun w=>by cases w);rw[h] at this;cases this
theorem Ext.hold{Hi H Hi' H':Hp}(e:Ext Hi H Hi' H'){a:Addr}{o:HO}(hn:H a=none)(h:H' a=some o)(hi:Hi' a=none):Ext Hi H (upd Hi' a o) H' where
 i:=e.i.trans (bU hi o)
 h:=e.h
 s:=fun b u q=>by
  by_cases z:b=a
  ·subst z;rw[aQ] at q;cases q;exact h
  ·rw[aT z] at q;exact e.s _ _ q
 n:=fun b z q=>by
  by_cases w:b=a
  ·rw[w];exact hn
  ·rw[aT w] at q;exact e.n b z q
def zNM(a C:Addr):Heap->Prop:=fun h=>∃ o vs,h.get? a=some o/\o.cls=.ref C/\o.data=.fields vs
def kvT(T:List (Str×Str)):List (Key×V):=T.map fun q=>(Sum.inr q.1,V.str q.2)
def zCP(K:PySem.W.Frag)(mg:Str->Option Value)(B Hi H:Hp)(o:Option (Option V)):Sl->Prop
 | .un=>True
 | .val d=>∃ v,o=some (some v)/\IsD K Hi v d
 | .own ds=>∃ a xs,o=some (some (.ref a))/\H a=some (.lst xs)/\Hi a=none/\B a=none/\IsDs K Hi xs ds
 | .exc c=>∃ a C,o=some (some (.ref a))/\H a=some (.ext (zNM a C))/\Hi a=none/\B a=none/\mg c=some (.ref C)
 | .tab T=>∃ a,o=some (some (.ref a))/\Hi a=some (.dK (kvT T))
structure Rel (K:PySem.W.Frag) (mg:Str->Option Value) (B Bi Hi H:Hp) (σ:St) (ρ:Rho):Prop where
 len:σ.length=ρ.length
 ext:Ext Bi B Hi H
 slot:∀(i:Nat)(s:Sl),ρ[i]?=some s->zCP K mg B Hi H σ[i]? s
 dist:∀(i j:Nat)(a:Addr)(ds es:List D),ρ[i]?=some (.own ds)->ρ[j]?=some (.own es)->σ[i]?=some (some (.ref a))->σ[j]?=some (some (.ref a))->i=j
section
variable{K:Fg_}{mg:Str->Option Value}{B Bi Hi H Hi' H':Hp}{σ:St}{ρ:Rho}
theorem zCP.ext{o:Option (Option V)}{s:Sl}(h:zCP K mg B Hi H o s)(e:Ext Hi H Hi' H'):zCP K mg B Hi' H' o s:=by
 cases s with
 | un=>trivial
 | val d=>obtain⟨v,q,r⟩:=h;exact⟨v,q,r.mono e.i⟩
 | own ds=>
  obtain⟨a,xs,q,h1,h2,h3,h4⟩:=h;obtain⟨e1,e2⟩:=e.out h1 h2;exact⟨a,xs,q,e1,e2,h3,h4.mono e.i⟩
 | exc c=>
  obtain⟨a,C,q,h1,h2,h3,h4⟩:=h;obtain⟨e1,e2⟩:=e.out h1 h2;exact⟨a,C,q,e1,e2,h3,h4⟩
 | tab T=>obtain⟨a,q,h1⟩:=h;exact⟨a,q,e.i _ _ h1⟩
theorem Rel.grow(R:Rel K mg B Bi Hi H σ ρ)(e:Ext Hi H Hi' H'):Rel K mg B Bi Hi' H' σ ρ:=⟨R.len,R.ext.trans e,fun i s q=>(R.slot i s q).ext e,R.dist⟩
theorem Rel.s(R:Rel K mg B Bi Hi H σ ρ):Same Hi H:=R.ext.s
theorem Rel.set{i:Nat}{v:V}{d:D}(R:Rel K mg B Bi Hi H σ ρ)(h:IsD K Hi v d):Rel K mg B Bi Hi H (σ.set i (some v)) (ρ.set i (.val d)) where
 len:=by rw[Q5,Q5];exact R.len
 ext:=R.ext
 slot:=fun j s q=>by
  by_cases e:i=j
  ·subst e
   by_cases hl:i<ρ.length
   ·rw[Ve hl] at q;cases q
    exact⟨v,by rw[Ve (by rw[R.len];exact hl)],h⟩
   ·rw[Qv (by rw[Q5];omega)] at q;cases q
  ·rw[Vf e] at q ⊢
   exact R.slot j s q
 dist:=fun j k a ds es q1 q2 q3 q4=>by
  have h1:∀ {j:Nat} {ds:List D},(ρ.set i (.val d))[j]?=some (.own ds)->i≠j:=fun {j ds} q e=>by
   subst e;by_cases hl:i<ρ.length
   ·rw[Ve hl] at q;cases q
   ·rw[Qv (by rw[Q5];omega)] at q;cases q
  have n1:=h1 q1;have n2:=h1 q2;rw[Vf n1] at q1 q3;rw[Vf n2] at q2 q4;exact R.dist j k a ds es q1 q2 q3 q4
theorem Rel.setOwn{i:Nat}{a:Addr}{xs:List V}{ds:List D}(R:Rel K mg B Bi Hi H σ ρ)(e:Ext Hi H Hi' H')(hn:H a=none)(h:H' a=some (.lst xs))(hi:Hi' a=none)(hs:IsDs K Hi' xs ds):
  Rel K mg B Bi Hi' H' (σ.set i (some (.ref a))) (ρ.set i (.own ds)) where
 len:=by rw[Q5,Q5];exact R.len
 ext:=R.ext.trans e
 slot:=fun j s q=>by
  by_cases z:i=j
  ·subst z
   by_cases hl:i<ρ.length
   ·rw[Ve hl] at q;cases q
    exact⟨a,xs,by rw[Ve (by rw[R.len];exact hl)],h,hi,R.ext.h.none hn,hs⟩
   ·rw[Qv (by rw[Q5];omega)] at q;cases q
  ·rw[Vf z] at q ⊢
   exact(R.slot j s q).ext e
 dist:=fun j k b es fs q1 q2 q3 q4=>by
  have h1:∀ {j:Nat} {es:List D},i≠j->ρ[j]?=some (.own es)->σ[j]?=some (some (.ref a))->False:=fun {j es} _ p1 p2=>by
   obtain⟨a',xs',q,h1,_⟩:=R.slot j _ p1;rw[p2] at q;cases q;rw[hn] at h1;cases h1
  have h2:∀ {j:Nat} {es:List D},(ρ.set i (.own ds))[j]?=some (.own es)->i<σ.length∨i≠j:=fun {j es} p=>by
   by_cases z:i=j
   ·subst z
    by_cases hl:i<ρ.length
    ·exact .inl (by rw[R.len];exact hl)
    ·rw[Qv (by rw[Q5];omega)] at p;cases p
   ·exact .inr z
  by_cases z1:i=j
  ·by_cases z2:i=k
   ·rw[<-z1,<-z2]
   ·exfalso
    subst z1;have hl:i<σ.length:=(h2 q1).resolve_right (fun w=>w rfl)
    rw[Ve hl] at q3;cases q3
    rw[Vf z2] at q2 q4;exact h1 z2 q2 q4
  ·by_cases z2:i=k
   ·exfalso
    subst z2;have hl:i<σ.length:=(h2 q2).resolve_right (fun w=>w rfl)
    rw[Ve hl] at q4;cases q4
    rw[Vf z1] at q1 q3;exact h1 z1 q1 q3
   ·rw[Vf z1] at q1 q3
    rw[Vf z2] at q2 q4;exact R.dist j k b es fs q1 q2 q3 q4
theorem Rel.write{i:Nat}{a:Addr}{ys:List V}{ds es:List D}(R:Rel K mg B Bi Hi H σ ρ)(e:ρ[i]?=some (.own ds))(ea:σ[i]?=some (some (.ref a)))(hs:IsDs K Hi ys es):
  Rel K mg B Bi Hi (upd H a (.lst ys)) σ (ρ.set i (.own es)):=by
 obtain⟨a',xs',q,h1,h2,h3,h4⟩:=R.slot i _ e;rw[ea] at q;cases q
 have hl:i<ρ.length:=by
  by_cases hl:i<ρ.length
  ·exact hl
  ·rw[Qv (by omega)] at e;cases e
 refine⟨by rw[Q5];exact R.len,⟨R.ext.i,⟨fun b o z=>?_,fun P z=>(R.ext.h.t P z).put (fun ps y=>by rw[h1] at y;cases y) (fun ob u y=>by rw[h1] at y;cases y)⟩,fun b o z=>?_,R.ext.n⟩,fun j s z=>?_,fun j k b fs gs q1 q2 q3 q4=>?_⟩
 ·rw[aT (aV z h3)];exact R.ext.h.k _ _ z
 ·rw[aT (aV z h2)];exact R.ext.s _ _ z
 ·by_cases w:i=j
  ·subst w
   rw[Ve hl] at z;cases z
   exact⟨a,ys,ea,aQ,h2,h3,hs⟩
  ·rw[Vf w] at z
   have S:=R.slot j s z
   cases s with
   | un=>trivial
   | val d=>exact S
   | own fs=>
    obtain⟨b,zs,p,g1,g2,g3,g4⟩:=S;have hb:b≠a:=fun c=>w (R.dist i j a ds fs e z ea (by rw[p,c]))
    exact⟨b,zs,p,by rw[aT hb];exact g1,g2,g3,g4⟩
   | exc c=>
    obtain⟨b,C,p,g1,g2,g3,g4⟩:=S;have hb:b≠a:=zNa g1 h1 (by intro z;cases z)
    exact⟨b,C,p,by rw[aT hb];exact g1,g2,g3,g4⟩
   | tab T=>exact S
 ·have own:∀ {j:Nat} {fs:List D},(ρ.set i (.own es))[j]?=some (.own fs)->∃ gs,ρ[j]?=some (.own gs):=fun {j fs} p=>by
   by_cases w:i=j
   ·subst w;exact⟨ds,e⟩
   ·rw[Vf w] at p;exact⟨fs,p⟩
  obtain⟨fs',q1'⟩:=own q1;obtain⟨gs',q2'⟩:=own q2;exact R.dist j k b fs' gs' q1' q2' q3 q4
theorem Rel.frzAt{i:Nat}(R:Rel K mg B Bi Hi H σ ρ):∃ Hi',Same Hi Hi'/\Rel K mg B Bi Hi' H σ (L3.frzAt i ρ):=by
 unfold L3.frzAt;split
 ·rename_i ds e
  obtain⟨a,xs,q,h1,h2,h3,h4⟩:=R.slot i _ e
  have hl:i<ρ.length:=by
   by_cases hl:i<ρ.length
   ·exact hl
   ·rw[Qv (by omega)] at e;cases e
  have sm:Same Hi (upd Hi a (.lst xs)):=bU h2 _
  have ss:Same (upd Hi a (.lst xs)) H:=fun b u z=>by
   by_cases w:b=a
   ·subst w;rw[aQ] at z;cases z;exact h1
   ·rw[aT w] at z;exact R.s _ _ z
  refine⟨upd Hi a (.lst xs),sm,by rw[Q5];exact R.len,⟨R.ext.i.trans sm,R.ext.h,ss,fun b z w=>?_⟩,fun j s z=>?_,fun j k b fs gs q1 q2 q3 q4=>?_⟩
  ·by_cases c:b=a
   ·rw[c];exact h3
   ·rw[aT c] at w;exact R.ext.n b z w
  ·by_cases w:i=j
   ·subst w
    rw[Ve hl] at z;cases z
    exact⟨.ref a,q,.lst (SqL.of aQ) (h4.mono sm)⟩
   ·rw[Vf w] at z
    have S:=R.slot j s z
    cases s with
    | un=>trivial
    | val d=>obtain⟨v,p,r⟩:=S;exact⟨v,p,r.mono sm⟩
    | own fs=>
     obtain⟨b,zs,p,g1,g2,g3,g4⟩:=S;have hb:b≠a:=fun c=>w (R.dist i j a ds fs e z q (by rw[p,c]))
     exact⟨b,zs,p,g1,by rw[aT hb];exact g2,g3,g4.mono sm⟩
    | exc c=>
     obtain⟨b,C,p,g1,g2,g3,g4⟩:=S;have hb:b≠a:=zNa g1 h1 (by intro z;cases z)
     exact⟨b,C,p,g1,by rw[aT hb];exact g2,g3,g4⟩
    | tab T=>obtain⟨b,p,g1⟩:=S;exact⟨b,p,sm _ _ g1⟩
  ·have own:∀ {j:Nat} {fs:List D},(ρ.set i (.val (.lst ds)))[j]?=some (.own fs)->ρ[j]?=some (.own fs):=fun {j fs} p=>by
    by_cases w:i=j
    ·subst w;rw[Ve hl] at p;cases p
    ·rw[Vf w] at p;exact p
   exact R.dist j k b fs gs (own q1) (own q2) q3 q4
 ·exact⟨Hi,Same.refl _,R⟩
end
end L3
namespace L3
open PySem PySem.Spec PyProof.Rows L2
section
variable{K:Fg_}{mg:Str->Option Value}{B Bi Hi H Hi' H':Hp}{σ:St}{ρ:Rho}
theorem Rel.frz(R:Rel K mg B Bi Hi H σ ρ):∃ Hf,Same Hi Hf/\Rel K mg B Bi Hf H σ (ρ.map Sl.frz)/\∀ b,Hi b=none->Hf b≠none->∃ xs,Hf b=some (.lst xs):=by
 let own:Addr->Prop:=fun b=>∃(i:Nat)(ds:List D),ρ[i]?=some (.own ds)/\σ[i]?=some (some (.ref b))
 have dec:∀ b,Decidable (own b):=fun b=>Classical.propDecidable _
 let Hf:Hp:=fun b=>match Hi b with
  | some o=>some o
  | none=>if own b then H b else none
 have hf1:∀ b o,Hi b=some o->Hf b=some o:=fun b o e=>by show(match Hi b with | some o=>some o | none=>if own b then H b else none)=_;rw[e]
 have hf2:∀ b,Hi b=none->own b->Hf b=H b:=fun b e z=>by show(match Hi b with | some o=>some o | none=>if own b then H b else none)=_;rw[e];exact if_pos z
 have hf3:∀ b,Hi b=none->¬ own b->Hf b=none:=fun b e z=>by show(match Hi b with | some o=>some o | none=>if own b then H b else none)=_;rw[e];exact if_neg z
 have lst:∀ b,own b->∃ xs,H b=some (.lst xs)/\Hi b=none/\B b=none:=fun b ⟨i,ds,e1,e2⟩=>by
  obtain⟨a,xs,q,h1,h2,h3,h4⟩:=R.slot i _ e1;rw[e2] at q;cases q
  exact⟨xs,h1,h2,h3⟩
 have ss:Same Hf H:=fun b o z=>by
  cases q:Hi b with
  | some u=>rw[hf1 b u q] at z;cases z;exact R.s _ _ q
  | none=>
   by_cases w:own b
   ·rw[hf2 b q w] at z;exact z
   ·rw[hf3 b q w] at z;cases z
 refine⟨Hf,hf1,⟨by rw[Qh];exact R.len,⟨R.ext.i.trans hf1,R.ext.h,ss,fun b z w=>?_⟩,fun j s z=>?_,fun j k b fs gs q1 q2 q3 q4=>?_⟩,fun b z w=>?_⟩
 ·cases q:Hi b with
  | some u=>exact R.ext.n b z (by rw[q];exact fun c=>by cases c)
  | none=>
   by_cases c:own b
   ·exact(lst b c).choose_spec.2.2
   ·exact absurd (hf3 b q c) w
 ·rw[Qq] at z
  cases e:ρ[j]? with
  | none=>rw[e] at z;cases z
  | some t=>
   rw[e] at z;cases z;have S:=R.slot j t e
   cases t with
   | un=>trivial
   | val d=>obtain⟨v,p,r⟩:=S;exact⟨v,p,r.mono hf1⟩
   | own ds=>
    obtain⟨a,xs,q,h1,h2,h3,h4⟩:=S;exact⟨.ref a,q,.lst (SqL.of (by rw[hf2 a h2 ⟨j,ds,e,q⟩];exact h1)) (h4.mono hf1)⟩
   | exc c=>
    obtain⟨a,C,q,h1,h2,h3,h4⟩:=S;refine⟨a,C,q,h1,?_,h3,h4⟩
    refine hf3 a h2 fun c=>?_
    obtain⟨xs,g,_⟩:=lst a c;rw[h1] at g;cases g
   | tab T=>obtain⟨a,q,h1⟩:=S;exact⟨a,q,hf1 _ _ h1⟩
 ·exfalso
  rw[Qq] at q1
  cases e:ρ[j]? with
  | none=>rw[e] at q1;cases q1
  | some t=>rw[e] at q1;cases t<;>cases q1
 ·by_cases c:own b
  ·obtain⟨xs,g,_⟩:=lst b c
   exact⟨xs,by rw[hf2 b z c];exact g⟩
  ·exact absurd (hf3 b z c) w
theorem Ext.thaw{Hf:Hp}(s:Same Hi Hf)(fl:∀ b,Hi b=none->Hf b≠none->∃ xs,Hf b=some (.lst xs))(hs:Same Hf H)(e:Ext Hf H Hi' H'):
  ∃ Ht,Ext Hi H Ht H'/\(∀ b xs,Rd Hi' b (.tup xs)->Rd Ht b (.tup xs))/\Same Ht Hi'/\∀ b,Ht b=none->Hi' b=none∨∃ xs,H b=some (.lst xs):=by
 have dec:∀ b,Decidable (Hi b=none/\Hf b≠none):=fun b=>Classical.propDecidable _
 let Ht:Hp:=fun b=>if Hi b=none/\Hf b≠none then none else Hi' b
 have t1:∀ b,¬ (Hi b=none/\Hf b≠none)->Ht b=Hi' b:=fun b z=>if_neg z
 have t2:∀ b,(Hi b=none/\Hf b≠none)->Ht b=none:=fun b z=>if_pos z
 have tt:Same Ht Hi':=fun b o z=>by
  by_cases w:Hi b=none/\Hf b≠none
  ·rw[t2 b w] at z;cases z
  ·rw[t1 b w] at z;exact z
 refine⟨Ht,⟨fun b o z=>?_,e.h,tt.trans e.s,fun b z w=>?_⟩,fun b xs r=>?_,tt,fun b z=>?_⟩
 ·rw[t1 b (fun w=>by rw[z] at w;cases w.1)];exact e.i _ _ (s _ _ z)
 ·by_cases c:Hi b=none/\Hf b≠none
  ·exact absurd (t2 b c) w
  ·rw[t1 b c] at w
   have:Hf b=none:=by
    cases q:Hf b with
    | none=>rfl
    | some u=>exact absurd ⟨z,by rw[q];exact fun c=>by cases c⟩ c
   exact e.n b this w
 ·have nl:¬ (Hi b=none/\Hf b≠none):=fun w=>by
   obtain⟨ys,g⟩:=fl b w.1 w.2;have g':=e.i _ _ g;rcases r with r | ⟨o,r⟩<;>(rw[g'] at r;cases r)
  rcases r with r | ⟨o,r⟩
  ·exact .inl (by rw[t1 b nl];exact r)
  ·exact .inr ⟨o,by rw[t1 b nl];exact r⟩
 ·by_cases c:Hi b=none/\Hf b≠none
  ·obtain⟨ys,g⟩:=fl b c.1 c.2
   exact .inr ⟨ys,hs _ _ g⟩
  ·exact .inl (by rw[t1 b c] at z;exact z)
end
structure Gx where
 B:Hp
 Bi:Hp
 E:Str->Hp->Prop
abbrev jG(X:Cx)(G:Gx)(Hi H:Hp)(σ:St)(ρ:Rho):Prop:=Rel X.K X.mg G.B G.Bi Hi H σ ρ
def Out(G:Gx)(Hi H:Hp){α:Type}(r:Res α)(k:α->Hp->Hp->Prop):Prop:=match r with
 | .ok a=>∀ Hi' H',Ext Hi H Hi' H'->k a Hi' H'
 | .err c=>∀ Hi' H',Ext Hi H Hi' H'->G.E c H'
 | .no=>False
theorem Out.bind{G:Gx}{Hi H:Hp}{α β:Type}{r:Res α}{f:α->Res β}{k:β->Hp->Hp->Prop}(h:Out G Hi H (r.bind f) k):
  Out G Hi H r fun a Hi' H'=>Out G Hi' H' (f a) k:=by
 cases r with
 | no=>exact h
 | err c=>exact h
 | ok a=>
  intro Hi1 H1 e;have h':Out G Hi H (f a) k:=h;show Out G Hi1 H1 (f a) k
  cases q:f a with
  | no=>rw[q] at h';exact h'
  | err c=>rw[q] at h';exact fun Hi2 H2 e2=>h' _ _ (e.trans e2)
  | ok b=>rw[q] at h';exact fun Hi2 H2 e2=>h' _ _ (e.trans e2)
theorem Out.imp{G:Gx}{Hi H:Hp}{α:Type}{r:Res α}{k k':α->Hp->Hp->Prop}(h:Out G Hi H r k)(f:∀ a Hi' H',Ext Hi H Hi' H'->k a Hi' H'->k' a Hi' H'):Out G Hi H r k':=by
 cases r with
 | no=>exact h
 | err c=>exact h
 | ok a=>exact fun Hi1 H1 e=>f a Hi1 H1 e (h Hi1 H1 e)
theorem Out.here{G:Gx}{Hi H:Hp}{α:Type}{a:α}{k:α->Hp->Hp->Prop}(h:Out G Hi H (.ok a) k)(s:Same Hi H):k a Hi H:=h Hi H (Ext.refl s)
def tD(X:Cx)(G:Gx)(f:Ev):TE:=fun σ H Q=>∃ ρ Hi,jG X G Hi H σ ρ/\Out G Hi H (f ρ) fun d Hi' H'=>∀ v,IsD X.K Hi' v d->Q v H'
def zHY(K:PySem.W.Frag)(H Hi' H':Hp)(a:Addr)(ds:List D):Prop:=H a=none/\Hi' a=none/\∃ xs,H' a=some (.lst xs)/\IsDs K Hi' xs ds
def tF(X:Cx)(G:Gx)(f:Fv):TE:=fun σ H Q=>∃ ρ Hi,jG X G Hi H σ ρ/\Out G Hi H (f ρ) fun ds Hi' H'=>∀ a,zHY X.K H Hi' H' a ds->Q (.ref a) H'
def tTb(X:Cx)(G:Gx)(f:Tv):TT:=fun σ H Q=>∃ ρ Hi,jG X G Hi H σ ρ/\Out G Hi H (f ρ) fun b _ H'=>Q b H'
def tAs(X:Cx)(G:Gx)(f:Fv):TA:=fun σ H Q=>∃ ρ Hi,jG X G Hi H σ ρ/\Out G Hi H (f ρ) fun ds Hi' H'=>∀ vs,IsDs X.K Hi' vs ds->Q vs H'
def Fin(X:Cx)(G:Gx)(Hi:Hp)(E:Ends)(r:Res Fl):Prop:=match r with
 | .ok (.nx ρ')=>∀ σ' Hi' H',Same Hi Hi'->jG X G Hi' H' σ' ρ'->E.nx σ' H'
 | .ok (.brk ρ')=>∀ σ' Hi' H',Same Hi Hi'->jG X G Hi' H' σ' ρ'->E.bk σ' H'
 | .ok (.ctn ρ')=>∀ σ' Hi' H',Same Hi Hi'->jG X G Hi' H' σ' ρ'->E.ct σ' H'
 | .ok (.ret (.v d))=>∀ v Hi' H',Ext G.Bi G.B Hi' H'->IsD X.K Hi' v d->E.rt v H'
 | .ok (.ret (.f ds))=>∀ a Hi' H',Ext G.Bi G.B Hi' H'->zHY X.K G.B Hi' H' a ds->E.rt (.ref a) H'
 | .err c=>∀ Hi' H',Ext G.Bi G.B Hi' H'->G.E c H'
 | .no=>False
theorem Fin.mono{X:Cx}{G:Gx}{Hi Hi':Hp}{E:Ends}{r:Res Fl}(h:Fin X G Hi E r)(s:Same Hi Hi'):Fin X G Hi' E r:=by
 cases r with
 | no=>exact h
 | err c=>exact h
 | ok f=>
  cases f with
  | nx ρ=>exact fun σ' Hi2 H2 s2=>h σ' Hi2 H2 (s.trans s2)
  | brk ρ=>exact fun σ' Hi2 H2 s2=>h σ' Hi2 H2 (s.trans s2)
  | ctn ρ=>exact fun σ' Hi2 H2 s2=>h σ' Hi2 H2 (s.trans s2)
  | ret r=>cases r<;>exact h
def tS(X:Cx)(G:Gx)(f:Sv):TS:=fun E σ H=>∃ ρ Hi,jG X G Hi H σ ρ/\Fin X G Hi E (f ρ)
@[irreducible] def PEd (X:Cx) (G:Gx) (e:Expr) (f:Ev):Prop:=PE X e (tD X G f)
unseal PEd
@[irreducible] def PEf (X:Cx) (G:Gx) (e:Expr) (f:Fv):Prop:=PE X e (tF X G f)
unseal PEf
@[irreducible] def PTd (X:Cx) (G:Gx) (e:Expr) (f:Tv):Prop:=PT X e (tTb X G f)
unseal PTd
@[irreducible] def PWd (X:Cx) (G:Gx) (e:Expr) (f:Tv):Prop:=PW X e (tTb X G f)
unseal PWd
@[irreducible] def PAd (X:Cx) (G:Gx) (es:List Expr) (f:Fv):Prop:=PA X es (tAs X G f)
unseal PAd
@[irreducible] def PSd (X:Cx) (G:Gx) (s:Stmt) (f:Sv):Prop:=PS X s (tS X G f)
unseal PSd
@[irreducible] def dF (X:Cx) (G:Gx) (s:List Stmt) (f:Sv):Prop:=PSs X s (tS X G f)
unseal dF
theorem PE.wk{X:Cx}{e:Expr}{t t':TE}(h:PE X e t)(w:∀ σ H Q,t' σ H Q->t σ H Q):PE X e t':=fun pins s σ H Q I q=>h pins s σ H Q I (w σ H Q q)
theorem PT.wk{X:Cx}{e:Expr}{t t':TT}(h:PT X e t)(w:∀ σ H Q,t' σ H Q->t σ H Q):PT X e t':=fun pins s σ H Q I q=>h pins s σ H Q I (w σ H Q q)
theorem PW.wk{X:Cx}{e:Expr}{t t':TT}(h:PW X e t)(w:∀ σ H Q,t' σ H Q->t σ H Q):PW X e t':=fun wh pins s σ H Q I q=>h wh pins s σ H Q I (w σ H Q q)
theorem PA.wk{X:Cx}{es:List Expr}{t t':TA}(h:PA X es t)(w:∀ σ H Q,t' σ H Q->t σ H Q):PA X es t':=fun pos pins s σ H Q I q=>h pos pins s σ H Q I (w σ H Q q)
theorem PS.wk{X:Cx}{s:Stmt}{t t':TS}(h:PS X s t)(w:∀ E σ H,t' E σ H->t E σ H):PS X s t':=fun pins s σ H E I q=>h pins s σ H E I (w E σ H q)
theorem PSs.wk{X:Cx}{s:List Stmt}{t t':TS}(h:PSs X s t)(w:∀ E σ H,t' E σ H->t E σ H):PSs X s t':=fun pins s σ H E I q=>h pins s σ H E I (w E σ H q)
section
variable{X:Cx}{G:Gx}{a b e:Expr}{es:List Expr}{pos:Pos}{f g:Ev}
theorem zMC(i:Nat)(h:PE X e (zAY i)):PEd X G e (aD i):=PE.wk h fun σ H Q q=>by
 obtain⟨ρ,Hi,R,o⟩:=q;unfold aD at o
 cases z:ρ[i]? with
 | none=>rw[z] at o;exact o.elim
 | some s=>
  rw[z] at o
  cases s with
  | val d=>
   obtain⟨v,p,r⟩:=R.slot i _ z;exact⟨v,p,o.here R.s v r⟩
  | un=>exact o.elim
  | own ds=>exact o.elim
  | exc c=>exact o.elim
  | tab T=>exact o.elim
theorem sP{v:V}{d:D}(h:PE X e (tC v))(r:∀ H,IsD X.K H v d):PEd X G e (eC d):=PE.wk h fun σ H Q q=>by
 obtain⟨ρ,Hi,R,o⟩:=q;exact o.here R.s v (r Hi)
theorem zBD{Hi H:Hp}{σ:St}{ρ:Rho}{β:Type}{k:D->Res β}{k':β->Hp->Hp->Prop}{Q:VK}(R:jG X G Hi H σ ρ)(o:Out G Hi H ((f ρ).bind k) k')
  (w:∀ v d Hi' H',Ext Hi H Hi' H'->jG X G Hi' H' σ ρ->IsD X.K Hi' v d->Out G Hi' H' (k d) k'->Q v H'):tD X G f σ H Q:=
 ⟨ρ,Hi,R,o.bind.imp fun d Hi' H' e q v r=>w v d Hi' H' e (R.grow e) r q⟩
def OpK(X:Cx)(r:R2)(o:Op2):Prop:=(∀ a b c,o a b≠.err c)/\∀(Hi H:Hp)(x y:V)(a b d:D)(Q:VK),Same Hi H->IsD X.K Hi x a->IsD X.K Hi y b->o a b=.ok d->
 (∀ v Hi' H',Ext Hi H Hi' H'->IsD X.K Hi' v d->Q v H')->r x y H Q
theorem op2{r:R2}{o:Op2}(k:OpK X r o):∀ σ H Q,tD X G (eOp o f g) σ H Q->tOp r (tD X G f) (tD X G g) σ H Q:=fun σ H Q q=>by
 obtain⟨ρ,Hi,R,ou⟩:=q;refine zBD R ou fun v d Hi1 H1 e1 R1 r1 o1=>?_
 refine zBD R1 o1 fun w d' Hi2 H2 e2 R2 r2 o2=>?_
 cases z:o d d' with
 | no=>rw[z] at o2;exact o2.elim
 | err c=>exact absurd z (k.1 d d' c)
 | ok u=>
  rw[z] at o2;exact k.2 Hi2 H2 v w d d' u Q R2.s (r1.mono e2.i) r2 z fun x Hi3 H3 e3 r3=>o2 Hi3 H3 e3 x r3
theorem aN{op:Operator}{r:R2}{o:Op2}(ho:OpR X (binaryOp op) r)(k:OpK X r o)(ha:PEd X G a f)(hb:PEd X G b g):PEd X G (.BinOp a op b pos) (eOp o f g):=PE.wk (zV ho ha hb) (op2 k)
theorem sO{op:CmpOp}{r:R2}{o:Op2}(ho:OpR X (compareOp op) r)(k:OpK X r o)(ha:PEd X G a f)(hb:PEd X G b g)(hm:behindInMarks op b=false):PEd X G (.Compare a [op] [b] pos) (eOp o f g):=PE.wk (zKc ho ha hb hm) (op2 k)
theorem zD{r:R2}{o:Op2}(ho:IxR X r)(k:OpK X r o)(ha:PEd X G a f)(hb:PEd X G b g)(hs:zBj b):PEd X G (.Subscript a b pos) (eOp o f g):=PE.wk (zDq ho ha hb hs) (op2 k)
theorem tst{op:CmpOp}{r:R2}{o:Op2}(ho:OpR X (compareOp op) r)(k:OpK X r o)(ha:PEd X G a f)(hb:PEd X G b g)(hm:behindInMarks op b=false):PTd X G (.Compare a [op] [b] pos) (dR (eOp o f g)):=
 PT.wk (zBz ho ha hb hm) fun σ H Q q=>by
  obtain⟨ρ,Hi,R,ou⟩:=q;refine op2 k σ H _ ⟨ρ,Hi,R,ou.bind.imp fun d Hi' H' e o v r=>?_⟩
  cases d with
  | bl c=>rw[r.blI];exact⟨c,rfl,o.here e.s⟩
  | _=>exact o.elim
theorem zDi(h:PEd X G a f)(he:∀ whole,isTrue a X.env whole=(do let v <-whole;standAt a.pos;holding [v] (truthy v)):=by intro _;rfl):PTd X G a (dR f):=PT.wk (zMY h he) fun σ H Q q=>by
 obtain⟨ρ,Hi,R,ou⟩:=q;refine⟨ρ,Hi,R,ou.bind.imp fun d Hi' H' e o v r=>?_⟩
 cases d with
 | bl c=>rw[r.blI];exact⟨c,rfl,o.here e.s⟩
 | _=>exact o.elim
variable{t u:Tv}
theorem zNA{Hi H:Hp}{σ:St}{ρ:Rho}{β:Type}{k:Bool->Res β}{k':β->Hp->Hp->Prop}{Q:Bool->Hp->Prop}(R:jG X G Hi H σ ρ)(o:Out G Hi H ((t ρ).bind k) k')
  (w:∀ c Hi' H',Ext Hi H Hi' H'->jG X G Hi' H' σ ρ->Out G Hi' H' (k c) k'->Q c H'):tTb X G t σ H Q:=
 ⟨ρ,Hi,R,o.bind.imp fun d Hi' H' e q=>w d Hi' H' e (R.grow e) q⟩
theorem zOw(h:PTd X G a t):PTd X G (.UnaryOp .Not a pos) (zGH t):=PT.wk (zMV h) fun σ H Q q=>by
 obtain⟨ρ,Hi,R,ou⟩:=q;exact zNA R ou fun c Hi1 H1 e1 R1 o1=>o1.here R1.s
theorem zCd(h:PTd X G a t):PWd X G (.BoolOp .And [a] pos) t:=zJp h
theorem zDj(h:PTd X G a t):PWd X G (.BoolOp .Or [a] pos) t:=zLQ h
theorem zGy{rest:List Expr}(ha:PTd X G a t)(hb:PWd X G (.BoolOp .And (b::rest) pos) u):PWd X G (.BoolOp .And (a::b::rest) pos) (zAo t u):=PW.wk (zNq ha hb) fun σ H Q q=>by
 obtain⟨ρ,Hi,R,ou⟩:=q;refine zNA R ou fun c Hi1 H1 e1 R1 o1=>?_
 cases c with
 | true=>exact⟨ρ,Hi1,R1,o1⟩
 | false=>exact o1.here R1.s
theorem zKa{rest:List Expr}(ha:PTd X G a t)(hb:PWd X G (.BoolOp .Or (b::rest) pos) u):PWd X G (.BoolOp .Or (a::b::rest) pos) (zFN t u):=PW.wk (zOt ha hb) fun σ H Q q=>by
 obtain⟨ρ,Hi,R,ou⟩:=q;refine zNA R ou fun c Hi1 H1 e1 R1 o1=>?_
 cases c with
 | true=>exact o1.here R1.s
 | false=>exact⟨ρ,Hi1,R1,o1⟩
theorem PWd.pt{e:Expr}(h:PWd X G e t):PTd X G e t:=PW.pt h
theorem zII{op}(h:PEd X G a f):PEd X G (.BoolOp op [a] pos) f:=zLS h
theorem zLZ{rest:List Expr}(ha:PEd X G a f)(hb:PEd X G (.BoolOp .And (b::rest) pos) g):PEd X G (.BoolOp .And (a::b::rest) pos) (zNx f g):=PE.wk (zMu ha hb) fun σ H Q q=>by
 obtain⟨ρ,Hi,R,ou⟩:=q;refine zBD R ou fun v d Hi1 H1 e1 R1 r1 o1=>?_
 cases d with
 | bl c=>
  refine⟨c,r1.blI,?_⟩
  cases c with
  | true=>exact⟨ρ,Hi1,R1,o1⟩
  | false=>exact o1.here R1.s _ (.bl false)
 | _=>exact o1.elim
theorem zOq{rest:List Expr}(ha:PEd X G a f)(hb:PEd X G (.BoolOp .Or (b::rest) pos) g):PEd X G (.BoolOp .Or (a::b::rest) pos) (eOr f g):=PE.wk (zNI ha hb) fun σ H Q q=>by
 obtain⟨ρ,Hi,R,ou⟩:=q;refine zBD R ou fun v d Hi1 H1 e1 R1 r1 o1=>?_
 cases d with
 | bl c=>
  refine⟨c,r1.blI,?_⟩
  cases c with
  | true=>exact o1.here R1.s _ (.bl true)
  | false=>exact⟨ρ,Hi1,R1,o1⟩
 | _=>exact o1.elim
theorem zEo(ha:PEd X G a f):PEd X G (.UnaryOp .USub a pos) (eUn zLr f):=PE.wk (zNQ zNf ha) fun σ H Q q=>by
 obtain⟨ρ,Hi,R,ou⟩:=q;refine zBD R ou fun v d Hi1 H1 e1 R1 r1 o1=>?_
 cases d with
 | int c=>exact⟨c,r1.intI,o1.here R1.s _ (.int _)⟩
 | _=>exact o1.elim
theorem zKe{c:Expr}(hc:PTd X G c t)(ha:PEd X G a f)(hb:PEd X G b g):PEd X G (.IfExp c a b pos) (eIf t f g):=PE.wk (zHM hc ha hb) fun σ H Q q=>by
 obtain⟨ρ,Hi,R,ou⟩:=q;refine zNA R ou fun c Hi1 H1 e1 R1 o1=>?_
 cases c with
 | true=>exact⟨ρ,Hi1,R1,o1⟩
 | false=>exact⟨ρ,Hi1,R1,o1⟩
variable{fs:Fv}
theorem aI:PAd X G [] aNil:=PA.wk mJ fun σ H Q q=>by
 obtain⟨ρ,Hi,R,ou⟩:=q;exact ou.here R.s [] .nil
theorem aA(ha:PEd X G e f)(hr:PAd X G es fs)(hs:starEach (e::es) X.env=(false,eval e X.env)::starEach es X.env:=by rfl):PAd X G (e::es) (aB f fs):=PA.wk (iP ha hr hs) fun σ H Q q=>by
 obtain⟨ρ,Hi,R,ou⟩:=q;refine zBD R ou fun v d Hi1 H1 e1 R1 r1 o1=>?_
 refine⟨ρ,Hi1,R1,o1.bind.imp fun ds Hi2 H2 e2 o2 vs rs=>?_⟩
 exact o2.here e2.s _ (.cons (r1.mono e2.i) rs)
theorem zGN{Hi H:Hp}{σ:St}{ρ:Rho}{β:Type}{k:List D->Res β}{k':β->Hp->Hp->Prop}{Q:List V->Hp->Prop}(R:jG X G Hi H σ ρ)(o:Out G Hi H ((fs ρ).bind k) k')
  (w:∀ vs ds Hi' H',Ext Hi H Hi' H'->jG X G Hi' H' σ ρ->IsDs X.K Hi' vs ds->Out G Hi' H' (k ds) k'->Q vs H'):tAs X G fs σ H Q:=
 ⟨ρ,Hi,R,o.bind.imp fun d Hi' H' e q v r=>w v d Hi' H' e (R.grow e) r q⟩
theorem eU{x1}(h:PAd X G es fs):PEd X G (.Tuple es x1 pos) (qO fs):=PE.wk (zMs h) fun σ H Q q=>by
 obtain⟨ρ,Hi,R,ou⟩:=q;refine zGN R ou fun vs ds Hi1 H1 e1 R1 r1 o1=>?_
 by_cases hz:ds.length<=16777216
 ·rw[if_pos hz] at o1
  refine⟨by rw[r1.length];exact hz,fun p hp=>?_⟩
  exact o1 _ _ (Ext.new R1.s hp) (.ref p) (.tup (SqT.of aQ) (r1.mono (bU (R1.s.none hp) _)))
 ·rw[if_neg hz] at o1;exact o1.elim
theorem cZ(h:PAd X G es fs):PEf X G (.List es pos) (oA fs):=PE.wk (zNt h) fun σ H Q q=>by
 obtain⟨ρ,Hi,R,ou⟩:=q;refine zGN R ou fun vs ds Hi1 H1 e1 R1 r1 o1=>?_
 by_cases hz:ds.length<=16777216
 ·rw[if_pos hz] at o1
  refine⟨by rw[r1.length];exact hz,fun p hp=>?_⟩
  exact o1 _ _ (Ext.newF R1.s hp) p ⟨e1.h.none hp,R1.s.none hp,vs,aQ,r1⟩
 ·rw[if_neg hz] at o1;exact o1.elim
theorem PEf.d(h:PEf X G e fs):PEd X G e (eF fs):=PE.wk h fun σ H Q q=>by
 obtain⟨ρ,Hi,R,ou⟩:=q;refine⟨ρ,Hi,R,?_⟩
 cases z:fs ρ with
 | no=>unfold eF at ou;rw[z] at ou;exact ou
 | err c=>unfold eF at ou;rw[z] at ou;exact ou
 | ok ds=>
  unfold eF at ou;rw[z] at ou
  intro Hi1 H1 e1 a n;obtain⟨n1,n2,xs,n3,n4⟩:=n;have ou':∀ Hi' H',Ext Hi H Hi' H'->∀ v,IsD X.K Hi' v (.lst ds)->Q v H':=ou;exact ou' _ _ (e1.hold n1 n3 n2) (.ref a) (.lst (SqL.of aQ) (n4.mono (bU n2 _)))
theorem PEd.frz(h:PEd X G e f):PEd X G e (zCf f):=PE.wk h fun σ H Q q=>by
 obtain⟨ρ,Hi,R,ou⟩:=q;obtain⟨Hf,s1,R1,fl⟩:=R.frz;refine⟨ρ.map Sl.frz,Hf,R1,?_⟩
 unfold zCf at ou
 cases z:f (ρ.map Sl.frz) with
 | no=>rw[z] at ou;exact ou
 | err c=>
  rw[z] at ou;intro Hi1 H1 e1;have ou':∀ Hi' H',Ext Hi H Hi' H'->G.E c H':=ou;obtain⟨Ht,e2,k,s2,n⟩:=Ext.thaw s1 fl R1.s e1;exact ou' Ht H1 e2
 | ok d=>
  rw[z] at ou;by_cases hz:noL d=true
  ·have ou':Out G Hi H (if noL d=true then Res.ok d else .no) _:=ou
   rw[if_pos hz] at ou';intro Hi1 H1 e1 v r;obtain⟨Ht,e2,k,s2,n⟩:=Ext.thaw s1 fl R1.s e1;exact ou' Ht H1 e2 v (r.noL k hz)
  ·have ou':Out G Hi H (if noL d=true then Res.ok d else .no) _:=ou
   rw[if_neg hz] at ou';exact ou'.elim
end
end L3
namespace L3
open PySem PySem.Spec PyProof.Rows L2
unseal PEd PEf PTd PWd PAd PSd dF
section
variable{X:Cx}{G:Gx}{a b e:Expr}{es:List Expr}{pos:Pos}{f g:Ev}{fs:Fv}{t u:Tv}
theorem PEf.frz(h:PEf X G e fs):PEf X G e (zNG fs):=PE.wk h fun σ H Q q=>by
 obtain⟨ρ,Hi,R,ou⟩:=q;obtain⟨Hf,s1,R1,fl⟩:=R.frz;refine⟨ρ.map Sl.frz,Hf,R1,?_⟩
 unfold zNG at ou
 cases z:fs (ρ.map Sl.frz) with
 | no=>rw[z] at ou;exact ou
 | err c=>
  rw[z] at ou;intro Hi1 H1 e1;have ou':∀ Hi' H',Ext Hi H Hi' H'->G.E c H':=ou;obtain⟨Ht,e2,k,s2,n⟩:=Ext.thaw s1 fl R1.s e1;exact ou' Ht H1 e2
 | ok ds=>
  rw[z] at ou;have ou':Out G Hi H (if noLs ds=true then Res.ok ds else .no) _:=ou;by_cases hz:noLs ds=true
  ·rw[if_pos hz] at ou'
   intro Hi1 H1 e1 a n;obtain⟨n1,n2,xs,n3,n4⟩:=n;obtain⟨Ht,e2,k,s2,_⟩:=Ext.thaw s1 fl R1.s e1;exact ou' Ht H1 e2 a ⟨n1,s2.none n2,xs,n3,n4.noL k hz⟩
  ·rw[if_neg hz] at ou';exact ou'.elim
theorem OpR.or{o:Value->Value->Sem Value}{r r':R2}(h:OpR X o r)(h':OpR X o r'):OpR X o (fun x y H Q=>r x y H Q∨r' x y H Q):=by
 intro pins s σ H x y v u Q I rx ry q;rcases q with q | q
 ·exact h pins s σ H x y v u Q I rx ry q
 ·exact h' pins s σ H x y v u Q I rx ry q
theorem zMx{o:Op2}{h:Int->Int->Int}(hi:∀ i j,o (.int i) (.int j)=.ok (.int (h i j)))(hn:∀ a b d,o a b=.ok d->∃ i j,a=.int i/\b=.int j)(he:∀ a b c,o a b≠.err c):OpK X (rI0 fun i j=>.int (h i j)) o:=
 ⟨he,fun Hi H x y a b d Q s r1 r2 z q=>by
  obtain⟨i,j,rfl,rfl⟩:=hn a b d z;rw[hi] at z;cases z
  exact⟨i,j,r1.intI,r2.intI,q _ Hi H (Ext.refl s) (.int _)⟩⟩
theorem zET{o:Op2}{h:Int->Int->Bool}(hi:∀ i j,o (.int i) (.int j)=.ok (.bl (h i j)))(hn:∀ a b d,o a b=.ok d->∃ i j,a=.int i/\b=.int j)(he:∀ a b c,o a b≠.err c):OpK X (rI0 fun i j=>.bl (h i j)) o:=
 ⟨he,fun Hi H x y a b d Q s r1 r2 z q=>by
  obtain⟨i,j,rfl,rfl⟩:=hn a b d z;rw[hi] at z;cases z
  exact⟨i,j,r1.intI,r2.intI,q _ Hi H (Ext.refl s) (.bl _)⟩⟩
theorem zHa:OpK X (rI0 fun i j=>.int (i-j)) zAa:=zMx (fun _ _=>rfl) (fun a b d z=>by unfold zAa at z;split at z<;>first | exact⟨_,_,rfl,rfl⟩ | cases z) (fun a b c z=>by unfold zAa at z;split at z<;>cases z)
theorem zGL:OpK X (rI0 fun i j=>.bl (decide (i<j))) oLt:=zET (fun _ _=>rfl) (fun a b d z=>by unfold oLt at z;split at z<;>first | exact⟨_,_,rfl,rfl⟩ | cases z) (fun a b c z=>by unfold oLt at z;split at z<;>cases z)
theorem zHR:OpK X (rI0 fun i j=>.bl (decide (j<i))) oGt:=zET (fun _ _=>rfl) (fun a b d z=>by unfold oGt at z;split at z<;>first | exact⟨_,_,rfl,rfl⟩ | cases z) (fun a b c z=>by unfold oGt at z;split at z<;>cases z)
theorem zPc:OpK X (rI0 fun i j=>.bl (decide (j<=i))) oGe:=zET (fun _ _=>rfl) (fun a b d z=>by unfold oGe at z;split at z<;>first | exact⟨_,_,rfl,rfl⟩ | cases z) (fun a b c z=>by unfold oGe at z;split at z<;>cases z)
theorem zGX{o:Op2}{C:Int->Int->Prop}{h:Int->Int->Int}(hn:∀ a b d,o a b=.ok d->∃ i j,a=.int i/\b=.int j/\C i j/\d=.int (h i j))(he:∀ a b c,o a b≠.err c):OpK X (rI C fun i j=>.int (h i j)) o:=
 ⟨he,fun Hi H x y a b d Q s r1 r2 z q=>by
  obtain⟨i,j,rfl,rfl,hc,rfl⟩:=hn a b d z
  exact⟨i,j,r1.intI,r2.intI,hc,q _ Hi H (Ext.refl s) (.int _)⟩⟩
def zMr(i j:Int):Prop:=hG i j=true
theorem cA:OpR X (binaryOp .Mult) (rI zMr fun i j=>.int (i*j)):=opI fun i j _ _ _ _ _ hc q=>by
 have hc':hG i j=true:=hc;unfold hG at hc';simp only[V8,Vg,decide_eq_true_eq] at hc';rcases hc' with (⟨h1,h2⟩ | ⟨h1,h2⟩) | h
 ·exact mul_int q (zNz.ok (.inl ⟨h1,h2⟩))
 ·exact mul_int q (zNz.ok (.inr ⟨h1,h2⟩))
 ·exact mul_int q (PySem.IntMulOk.of_le (Ur.mpr (zJu i)) (Ur.mpr (zJu j)) h)
def zLO(_ j:Int):Prop:=kF j=true
theorem bM:OpR X (binaryOp .FloorDiv) (rI zLO fun i j=>.int (i.fdiv j)):=opI fun i j _ _ _ _ _ hc q=>by
 have hc':kF j=true:=hc;unfold kF at hc';simp only[Vg,decide_eq_true_eq] at hc';refine floordiv_int hc'.1 q (.inl (PyProof.noPylong_of_log2 ?_))
 have h2:=hc'.2;unfold nb at h2;omega
def zLM(i j:Int):Prop:=pE i j=true
theorem gO:OpR X (binaryOp .Pow) (rI zLM fun i j=>.int (i^j.toNat)):=opI fun i j _ _ _ _ _ hc q=>by
 have hc':pE i j=true:=hc;unfold pE at hc';simp only[Vg,decide_eq_true_eq] at hc';refine pow_int hc'.1 (Xm (Int.mul_le_mul_of_nonneg_right ?_ hc'.1) hc'.2) q
 have:=Ur.mpr (zJu i)
 omega
theorem gM:OpK X (rI zMr fun i j=>.int (i*j)) oO:=zGX (fun a b d z=>by
 unfold oO at z;split at z
 case h_2=>cases z
 rename_i i j
 have z':(if hG i j=true then Res.ok (D.int (i*j)) else .no)=.ok d:=z;by_cases h:hG i j=true
 ·rw[if_pos h] at z';cases z';exact⟨i,j,rfl,rfl,h,rfl⟩
 ·rw[if_neg h] at z';cases z') (fun a b c z=>by
 unfold oO at z;split at z
 case h_2=>cases z
 rename_i i j
 have z':(if hG i j=true then Res.ok (D.int (i*j)) else .no)=.err c:=z;by_cases h:hG i j=true
 ·rw[if_pos h] at z';cases z'
 ·rw[if_neg h] at z';cases z')
theorem eZ:OpK X (rI zLO fun i j=>.int (i.fdiv j)) lC:=zGX (fun a b d z=>by
 unfold lC at z;split at z
 case h_2=>cases z
 rename_i i j
 have z':(if kF j=true then Res.ok (D.int (i.fdiv j)) else .no)=.ok d:=z;by_cases h:kF j=true
 ·rw[if_pos h] at z';cases z';exact⟨i,j,rfl,rfl,h,rfl⟩
 ·rw[if_neg h] at z';cases z') (fun a b c z=>by
 unfold lC at z;split at z
 case h_2=>cases z
 rename_i i j
 have z':(if kF j=true then Res.ok (D.int (i.fdiv j)) else .no)=.err c:=z;by_cases h:kF j=true
 ·rw[if_pos h] at z';cases z'
 ·rw[if_neg h] at z';cases z')
theorem dP:OpK X (rI (fun _ j=>j≠0) fun i j=>.int (i.fmod j)) jC:=zGX (fun a b d z=>by
 unfold jC at z;split at z
 case h_2=>cases z
 rename_i i j
 have z':(if j≠0 then Res.ok (D.int (i.fmod j)) else .no)=.ok d:=z;by_cases h:j≠0
 ·rw[if_pos h] at z';cases z';exact⟨i,j,rfl,rfl,h,rfl⟩
 ·rw[if_neg h] at z';cases z') (fun a b c z=>by
 unfold jC at z;split at z
 case h_2=>cases z
 rename_i i j
 have z':(if j≠0 then Res.ok (D.int (i.fmod j)) else .no)=.err c:=z;by_cases h:j≠0
 ·rw[if_pos h] at z';cases z'
 ·rw[if_neg h] at z';cases z')
theorem rN:OpK X (rI zLM fun i j=>.int (i^j.toNat)) zA:=zGX (fun a b d z=>by
 unfold zA at z;split at z
 case h_2=>cases z
 rename_i i j
 have z':(if pE i j=true then Res.ok (D.int (i^j.toNat)) else .no)=.ok d:=z;by_cases h:pE i j=true
 ·rw[if_pos h] at z';cases z';exact⟨i,j,rfl,rfl,h,rfl⟩
 ·rw[if_neg h] at z';cases z') (fun a b c z=>by
 unfold zA at z;split at z
 case h_2=>cases z
 rename_i i j
 have z':(if pE i j=true then Res.ok (D.int (i^j.toNat)) else .no)=.err c:=z;by_cases h:pE i j=true
 ·rw[if_pos h] at z';cases z'
 ·rw[if_neg h] at z';cases z')
def zLn(K:PySem.W.Frag):R2:=fun x y H Q=>∃ a b ys,x=.ref a/\y=.ref b/\SqT K H a []/\SqT K H b ys/\Q (.ref b) H
theorem zJC:OpR X (binaryOp .Add) (zLn X.K):=by
 intro pins s σ H x y v u Q I rx ry h;obtain⟨a,b,ys,rfl,rfl,ha,hb,q⟩:=h;cases rx;cases ry;obtain⟨its,r1,p1,_⟩:=I.tuple ha;obtain⟨its2,r2,p2,_⟩:=I.tuple hb;cases r1;obtain⟨⟨c1,d1,t1,s1⟩,ho1,hc1,n1,hd1⟩:=id p1;obtain⟨⟨c2,d2,t2,s2⟩,ho2,hc2,n2,hd2⟩:=id p2;simp only at hc1 hd1 hc2 hd2
 subst hc1 hd1 hc2 hd2;exact concat_meets ⟨_,ho1,rfl⟩ ⟨_,ho2,rfl⟩ noFill_tuple_add seq_tuple_add Uf Ug (Uh _ _) (tuple_addW0 a b #[] its2.toArray n1 n2 d1 d2 s1 s2 rfl) ⟨ho1,ho2,⟨.ref b,H,I,rfl,q⟩⟩
def zMQ(K:PySem.W.Frag):R2:=fun x y H Q=>rI0 (fun i j=>.int (i+j)) x y H Q∨(zNd K x y H Q∨zLn K x y H Q)
theorem cN:OpR X (binaryOp .Add) (zMQ X.K):=OpR.or zNu (OpR.or zJd zJC)
theorem gZ:OpK X (zMQ X.K) pJ:=⟨fun a b c z=>(by
  unfold pJ at z;split at z
  case h_1=>cases z
  case h_3=>cases z
  rename_i as bs
  have z':(if as.length+bs.length<=16777216 then Res.ok (D.tup (as++bs)) else .no)=.err c:=z
  split at z'<;>cases z'),fun Hi H x y a b d Q s r1 r2 z q=>by
  unfold pJ at z;split at z
  case h_3=>cases z
  ·cases z
   exact .inl ⟨_,_,r1.intI,r2.intI,q _ Hi H (Ext.refl s) (.int _)⟩
  ·rename_i as bs
   have z':(if as.length+bs.length<=16777216 then Res.ok (D.tup (as++bs)) else .no)=.ok d:=z;split at z'
   ·rename_i hz
    cases z'
    obtain⟨p,xs,rfl,h1,i1⟩:=r1.tupI;obtain⟨p',ys,rfl,h2,i2⟩:=r2.tupI;by_cases h0:as.length=0
    ·have e0:as=[]:=Us h0
     subst e0;cases i1;exact .inr (.inr ⟨p,p',ys,rfl,rfl,bN s h1,bN s h2,q _ Hi H (Ext.refl s) (.tup h2 i2)⟩)
    refine .inr (.inl ⟨p,p',xs,ys,rfl,rfl,bN s h1,bN s h2,fun e=>h0 (by rw[<-i1.length,e];rfl),by rw[i1.length,i2.length];exact hz,fun e=>?_,fun _ l hl=>?_⟩)
    ·subst e
     cases i2;rw[Vr] at q;exact q _ Hi H (Ext.refl s) (.tup h1 i1)
    ·exact q _ _ _ (Ext.new s hl) (.tup (SqT.of aQ) ((i1.append i2).mono (bU (s.none hl) _)))
   ·cases z'⟩
theorem zJy{α:Type}{xs:List α}{i:Int}{v:α}(h0:i<0)(h1:0<=(xs.length:Int)+i)(h:xs[((xs.length:Int)+i).toNat]?=some v):atI xs i=some v:=by
 have e:ixN xs.length i=some ((xs.length:Int)+i).toNat:=by
  unfold ixN;rw[if_neg (by omega),if_pos (by omega)];congr 2
  omega
 unfold atI;rw[e];exact h
theorem zEA{K:Fg_}{H:Hp}{xs:List V}{ds:List D}{i:Int}{d:D}(h:IsDs K H xs ds)(e:atD ds i=some d):∃ v,atI xs i=some v/\IsD K H v d:=by
 unfold atD at e;by_cases h0:0<=i
 ·rw[if_pos h0] at e
  obtain⟨v,hv,r⟩:=h.at e;refine⟨v,?_,r⟩
  have:=zBT hv
  rw[show((i.toNat:Nat):Int)=i by omega] at this;exact this
 ·rw[if_neg h0] at e
  by_cases h1:0<=(ds.length:Int)+i
  ·rw[if_pos h1] at e
   obtain⟨v,hv,r⟩:=h.at e;refine⟨v,?_,r⟩
   have hl:=h.length;have e2:((ds.length:Int)+i).toNat=((xs.length:Int)+i).toNat:=by rw[hl]
   rw[e2] at hv;exact zJy (by omega) (by omega) hv
  ·rw[if_neg h1] at e;cases e
theorem zIC:OpK X (fun x y H Q=>zND X.K x y H Q∨zNC X.K x y H Q) oIx:=⟨fun a b c z=>(by
  unfold oIx at z;split at z
  case h_3=>cases z
  ·rename_i ds i
   have z':ofO (atD ds i)=Res.err c:=z;cases q:atD ds i<;>rw[q] at z'<;>cases z'
  ·rename_i ds i
   have z':ofO (atD ds i)=Res.err c:=z
   cases q:atD ds i<;>rw[q] at z'<;>cases z'),fun Hi H x y a b d Q s r1 r2 z q=>by
  unfold oIx at z;split at z
  case h_3=>cases z
  ·rename_i ds i
   have z':ofO (atD ds i)=Res.ok d:=z
   cases w:atD ds i with
   | none=>rw[w] at z';cases z'
   | some d'=>
    rw[w] at z';cases z'
    obtain⟨p,xs,rfl,h1,i1⟩:=r1.tupI;obtain⟨v,hv,r⟩:=zEA i1 w;exact .inr ⟨p,xs,i,v,rfl,r2.intI,bN s h1,hv,q v Hi H (Ext.refl s) r⟩
  ·rename_i ds i
   have z':ofO (atD ds i)=Res.ok d:=z
   cases w:atD ds i with
   | none=>rw[w] at z';cases z'
   | some d'=>
    rw[w] at z';cases z'
    obtain⟨p,xs,rfl,h1,i1⟩:=r1.lstI;obtain⟨v,hv,r⟩:=zEA i1 w
    exact .inl ⟨p,xs,i,v,rfl,r2.intI,cC s h1,hv,q v Hi H (Ext.refl s) r⟩⟩
theorem fW:IxR X (fun x y H Q=>zND X.K x y H Q∨zNC X.K x y H Q):=zJV.or zLy
end
section
variable{X:Cx}{pins:List (Addr×Obj)}{σ:St}{H:Hp}{s:Shared}
mutual
theorem IsD.inj(I:Inv X pins σ H s):∀ {v:V} {d e:D},IsD X.K H v d->IsD X.K H v e->d=e
 | _,_,_,.non,h=>by cases h;rfl
 | _,_,_,.bl b,h=>by cases h;rfl
 | _,_,_,.int i,h=>by cases h;rfl
 | _,_,_,.str x,h=>by cases h;rfl
 | _,_,_,.tup h hs,h2=>by
  cases h2 with
  | tup h' hs'=>
   have e:=I.tuple_inj h h';subst e;rw[IsDs.inj I hs hs']
  | lst h' hs'=>
   exfalso
   obtain⟨_,_,⟨o,e,c,_⟩,_⟩:=I.tuple h;obtain⟨_,_,⟨o',n',e',c',_⟩,_⟩:=I.list h';rw[e] at e';cases e';rw[c] at c';exact absurd c' (by decide)
 | _,_,_,.lst h hs,h2=>by
  cases h2 with
  | lst h' hs'=>
   have e:=I.list_inj h h';subst e;rw[IsDs.inj I hs hs']
  | tup h' hs'=>
   exfalso
   obtain⟨_,_,⟨o,e,c,_⟩,_⟩:=I.tuple h';obtain⟨_,_,⟨o',n',e',c',_⟩,_⟩:=I.list h;rw[e] at e';cases e';rw[c] at c';exact absurd c' (by decide)
theorem IsDs.inj(I:Inv X pins σ H s):∀ {vs:List V} {ds es:List D},IsDs X.K H vs ds->IsDs X.K H vs es->ds=es
 | _,_,_,.nil,h=>by cases h;rfl
 | _,_,_,.cons h hs,h2=>by
  cases h2 with
  | cons h' hs'=>rw[IsD.inj I h h',IsDs.inj I hs hs']
end
theorem zEe{α:Type}{l:List α}{j:Nat}{x d:α}(h:l[j]?=some x):l.getD j d=x:=by
 rw[Qr,h];rfl
theorem lU{A:Around}{xs xs':List V}{ds ds':List D}{its its':List Value}(hs:IsDs X.K H xs ds)(hs':IsDs X.K H xs' ds')(rv:dD xs its)(rv':dD xs' its')
  (rc:∀(d d':D)(v v':V)(u u':Value),d∈ds->IsD X.K H v d->IsD X.K H v' d'->cO v u->cO v' u'->SeqAt.EqAt A s u u' (eqD d d'))
  (j:Nat) (g1:j<its.toArray.size) (g2:j<its'.toArray.size):SeqAt.EqAt A s its.toArray[j] its'.toArray[j] (eqD (ds.getD j .non) (ds'.getD j .non)):=by
 have g1':j<its.length:=by simpa using g1
 have g2':j<its'.length:=by simpa using g2
 have l1:its.length=ds.length:=by rw[<-rv.length,hs.length]
 have l2:its'.length=ds'.length:=by rw[<-rv'.length,hs'.length]
 obtain⟨d,hd⟩:∃ d,ds[j]?=some d:=⟨_,Qj (by omega)⟩
 obtain⟨d',hd'⟩:∃ d,ds'[j]?=some d:=⟨_,Qj (by omega)⟩
 obtain⟨v,hv,iv⟩:=hs.at hd;obtain⟨v',hv',iv'⟩:=hs'.at hd';obtain⟨w1,hw,rw1⟩:=rv.get hv;obtain⟨w2,hw',rw2⟩:=rv'.get hv'
 have e1:its.toArray[j]=w1:=by
  rw[Qj g1'] at hw;simpa using hw
 have e2:its'.toArray[j]=w2:=by
  rw[Qj g2'] at hw';simpa using hw'
 rw[e1,e2,zEe hd,zEe hd'];exact rc d d' v v' w1 w2 (Qg hd) iv iv' rw1 rw2
theorem gT{ds ds':List D}(h:ds.length=ds'.length):((List.range ds.length).all fun j=>eqD (ds.getD j .non) (ds'.getD j .non))=uS ds ds':=by
 rw[lQ,<-h,X9];simp
theorem xH{ds ds':List D}(h:ds.length≠ds'.length):uS ds ds'=false:=by
 rw[lQ];simp[h]
theorem zAh(I:Inv X pins σ H s){A:Around}{v v':V}{d d':D}{u u':Value}(h1:IsD X.K H v d)(h2:IsD X.K H v' d')(r1:cO v u)(r2:cO v' u')(hu:A.units<cLine)
  (rc:∀ ds,(d=.tup ds∨d=.lst ds)->∀(e e':D)(w w':V)(z z':Value),e∈ds->IsD X.K H w e->IsD X.K H w' e'->cO w z->cO w' z'->SeqAt.EqAt A.in1 s z z' (eqD e e')):
  SeqAt.EqAt A s u u' (eqD d d'):=by
 cases h1 with
 | non=>
  cases (show u=Value.none from r1)
  cases h2 with
  | non=>cases (show u'=Value.none from r2);exact SeqAt.EqAt.same _
  | bl b=>cases (show u'=Value.bool _ from r2);exact SeqAt.EqAt.none_bool _
  | int i=>obtain⟨t,rfl⟩:=r2;exact SeqAt.EqAt.none_int _ _
  | str x=>obtain⟨t,rfl⟩:=r2;exact SeqAt.EqAt.none_str _ _
  | tup h hs=>cases (show u'=Value.ref _ from r2);obtain⟨its,rv,p,hz⟩:=I.tuple h;exact SeqAt.EqAt.none_tuple (show s.heap.IsTuple _ its.toArray from p) hu
  | lst h hs=>cases (show u'=Value.ref _ from r2);obtain⟨its,rv,p,hz⟩:=I.list h;exact SeqAt.EqAt.none_list p.isList hu
 | bl b=>
  cases (show u=Value.bool _ from r1)
  cases h2 with
  | non=>cases (show u'=Value.none from r2);exact SeqAt.EqAt.bool_none _
  | bl b=>cases (show u'=Value.bool _ from r2);exact SeqAt.EqAt.bool_bool _ _
  | int i=>obtain⟨t,rfl⟩:=r2;exact SeqAt.EqAt.bool_int _ _ _
  | str x=>obtain⟨t,rfl⟩:=r2;exact SeqAt.EqAt.bool_str _ _ _
  | tup h hs=>cases (show u'=Value.ref _ from r2);obtain⟨its,rv,p,hz⟩:=I.tuple h;exact SeqAt.EqAt.bool_tuple _ (show s.heap.IsTuple _ its.toArray from p) hu
  | lst h hs=>cases (show u'=Value.ref _ from r2);obtain⟨its,rv,p,hz⟩:=I.list h;exact SeqAt.EqAt.bool_list _ p.isList hu
 | int i=>
  obtain⟨t,rfl⟩:=r1
  cases h2 with
  | non=>cases (show u'=Value.none from r2);exact SeqAt.EqAt.int_none _ _
  | bl b=>cases (show u'=Value.bool _ from r2);exact SeqAt.EqAt.int_bool _ _ _
  | int i=>obtain⟨t,rfl⟩:=r2;exact SeqAt.EqAt.int_int _ _ _ _
  | str x=>obtain⟨t,rfl⟩:=r2;exact SeqAt.EqAt.int_str _ _ _ _
  | tup h hs=>cases (show u'=Value.ref _ from r2);obtain⟨its,rv,p,hz⟩:=I.tuple h;exact SeqAt.EqAt.int_tuple _ _ (show s.heap.IsTuple _ its.toArray from p) hu
  | lst h hs=>cases (show u'=Value.ref _ from r2);obtain⟨its,rv,p,hz⟩:=I.list h;exact SeqAt.EqAt.int_list _ _ p.isList hu
 | str x=>
  obtain⟨t,rfl⟩:=r1
  cases h2 with
  | non=>cases (show u'=Value.none from r2);exact SeqAt.EqAt.str_none _ _
  | bl b=>cases (show u'=Value.bool _ from r2);exact SeqAt.EqAt.str_bool _ _ _
  | int i=>obtain⟨t,rfl⟩:=r2;exact SeqAt.EqAt.str_int _ _ _ _
  | str x=>obtain⟨t,rfl⟩:=r2;exact SeqAt.EqAt.str_str _ _ _ _
  | tup h hs=>cases (show u'=Value.ref _ from r2);obtain⟨its,rv,p,hz⟩:=I.tuple h;exact SeqAt.EqAt.str_tuple _ _ (show s.heap.IsTuple _ its.toArray from p) hu
  | lst h hs=>cases (show u'=Value.ref _ from r2);obtain⟨its,rv,p,hz⟩:=I.list h;exact SeqAt.EqAt.str_list _ _ p.isList hu
 | @tup a xs ds h hs=>
  cases (show u=Value.ref a from r1)
  obtain⟨its,rv,p,hz⟩:=I.tuple h
  cases h2 with
  | non=>cases (show u'=Value.none from r2);exact SeqAt.EqAt.tuple_none (show s.heap.IsTuple _ its.toArray from p) hu
  | bl b=>cases (show u'=Value.bool _ from r2);exact SeqAt.EqAt.tuple_bool _ (show s.heap.IsTuple _ its.toArray from p) hu
  | int i=>obtain⟨t,rfl⟩:=r2;exact SeqAt.EqAt.tuple_int _ _ (show s.heap.IsTuple _ its.toArray from p) hu
  | str x=>obtain⟨t,rfl⟩:=r2;exact SeqAt.EqAt.tuple_str _ _ (show s.heap.IsTuple _ its.toArray from p) hu
  | @tup a' xs' ds' h' hs'=>
   cases (show u'=Value.ref a' from r2)
   by_cases e:a=a'
   ·subst e
    have e:=I.tuple_inj h h';subst e;have e:=IsDs.inj I hs hs';subst e;rw[rG];exact SeqAt.EqAt.same _
   ·obtain⟨its',rv',p',hz'⟩:=I.tuple h'
    have l1:its.toArray.size=ds.length:=by rw[Qf,<-rv.length,hs.length]
    have l2:its'.toArray.size=ds'.length:=by rw[Qf,<-rv'.length,hs'.length]
    have key:=SeqAt.RcAt.tuples (A:=A) (s:=s) (show s.heap.IsTuple a its.toArray from p) (show s.heap.IsTuple a' its'.toArray from p') hu
     (lU (A:=A.in1) (s:=s) hs hs' rv rv' fun d d' v v' u u' hm iv iv' r r'=>rc ds (.inl rfl) d d' v v' u u' hm iv iv' r r')
    rw[l1,l2,<-lQ] at key;exact SeqAt.EqAt.of_refs e key
  | @lst a' xs' ds' h' hs'=>
   cases (show u'=Value.ref a' from r2)
   obtain⟨its',rv',p',hz'⟩:=I.list h';exact SeqAt.EqAt.tuple_list (show s.heap.IsTuple _ its.toArray from p) p'.isList hu
 | @lst a xs ds h hs=>
  cases (show u=Value.ref a from r1)
  obtain⟨its,rv,p,hz⟩:=I.list h
  cases h2 with
  | non=>cases (show u'=Value.none from r2);exact SeqAt.EqAt.list_none p.isList hu
  | bl b=>cases (show u'=Value.bool _ from r2);exact SeqAt.EqAt.list_bool _ p.isList hu
  | int i=>obtain⟨t,rfl⟩:=r2;exact SeqAt.EqAt.list_int _ _ p.isList hu
  | str x=>obtain⟨t,rfl⟩:=r2;exact SeqAt.EqAt.list_str _ _ p.isList hu
  | @tup a' xs' ds' h' hs'=>
   cases (show u'=Value.ref a' from r2)
   obtain⟨its',rv',p',hz'⟩:=I.tuple h';exact SeqAt.EqAt.list_tuple p.isList (show s.heap.IsTuple _ its'.toArray from p') hu
  | @lst a' xs' ds' h' hs'=>
   cases (show u'=Value.ref a' from r2)
   by_cases e:a=a'
   ·subst e
    have e:=I.list_inj h h';subst e;have e:=IsDs.inj I hs hs';subst e;rw[rG];exact SeqAt.EqAt.same _
   ·obtain⟨its',rv',p',hz'⟩:=I.list h'
    have l1:its.toArray.size=ds.length:=by rw[Qf,<-rv.length,hs.length]
    have l2:its'.toArray.size=ds'.length:=by rw[Qf,<-rv'.length,hs'.length]
    by_cases hl:ds.length=ds'.length
    ·have key:=SeqAt.RcAt.lists (A:=A) (s:=s) p.isList p'.isList (by rw[l1,l2,hl]) hu
      (lU (A:=A.in1) (s:=s) hs hs' rv rv' fun d d' v v' u u' hm iv iv' r r'=>rc ds (.inr rfl) d d' v v' u u' hm iv iv' r r')
     rw[l1,gT hl] at key;exact SeqAt.EqAt.of_refs e key
    ·have key:=SeqAt.RcAt.lists_lengths (A:=A) (s:=s) p.isList p'.isList (by rw[l1,l2];simp[hl]) hu
     rw[eqD,xH hl];exact SeqAt.EqAt.of_refs e key
theorem zEE(I:Inv X pins σ H s)(n:Nat):∀ {v v':V} {d d':D},dep d<=n->IsD X.K H v d->IsD X.K H v' d'->
  ∀(A:Around)(u u':Value),A.units+n<cLine->cO v u->cO v' u'->SeqAt.EqAt A s u u' (eqD d d'):=by
 induction n with
 | zero=>
  intro v v' d d' hn h1 h2 A u u' hu r1 r2;refine zAh I h1 h2 r1 r2 (by omega) fun ds hd=>?_
  rcases hd with rfl | rfl<;>(rw[dep] at hn;omega)
 | succ n ih=>
  intro v v' d d' hn h1 h2 A u u' hu r1 r2;refine zAh I h1 h2 r1 r2 (by omega) fun ds hd e e' w w' z z' hm i1 i2 q1 q2=>?_
  refine ih ?_ i1 i2 A.in1 z z' (by show A.units+1+n<cLine;omega) q1 q2
  have:=rQ hm
  rcases hd with rfl | rfl<;>(rw[dep] at hn;omega)
theorem zEc(I:Inv X pins σ H s){A:Around}{v v':V}{d d':D}{u u':Value}(h1:IsD X.K H v d)(h2:IsD X.K H v' d')(r1:cO v u)(r2:cO v' u')(hu:A.units<cLine)
  (rc:∀ ds,(d=.tup ds∨d=.lst ds)->∀(e e':D)(w w':V)(z z':Value),e∈ds->IsD X.K H w e->IsD X.K H w' e'->cO w z->cO w' z'->SeqAt.EqAt A.in1 s z z' (eqD e e')):
  SeqAt.RcAt A s u u' (eqD d d'):=by
 cases h1 with
 | non=>
  cases (show u=Value.none from r1)
  cases h2 with
  | non=>cases (show u'=Value.none from r2);exact SeqAt.RcAt.none_none
  | bl b=>cases (show u'=Value.bool _ from r2);exact SeqAt.RcAt.none_bool _
  | int i=>obtain⟨t,rfl⟩:=r2;exact SeqAt.RcAt.none_int _ _
  | str x=>obtain⟨t,rfl⟩:=r2;exact SeqAt.RcAt.none_str _ _
  | tup h hs=>cases (show u'=Value.ref _ from r2);obtain⟨its,rv,p,hz⟩:=I.tuple h;exact SeqAt.RcAt.none_tuple (show s.heap.IsTuple _ its.toArray from p) hu
  | lst h hs=>cases (show u'=Value.ref _ from r2);obtain⟨its,rv,p,hz⟩:=I.list h;exact SeqAt.RcAt.none_list p.isList hu
 | bl b=>
  cases (show u=Value.bool _ from r1)
  cases h2 with
  | non=>cases (show u'=Value.none from r2);exact SeqAt.RcAt.bool_none _
  | bl b=>cases (show u'=Value.bool _ from r2);exact SeqAt.RcAt.bool_bool _ _
  | int i=>obtain⟨t,rfl⟩:=r2;exact SeqAt.RcAt.bool_int _ _ _
  | str x=>obtain⟨t,rfl⟩:=r2;exact SeqAt.RcAt.bool_str _ _ _
  | tup h hs=>cases (show u'=Value.ref _ from r2);obtain⟨its,rv,p,hz⟩:=I.tuple h;exact SeqAt.RcAt.bool_tuple _ (show s.heap.IsTuple _ its.toArray from p) hu
  | lst h hs=>cases (show u'=Value.ref _ from r2);obtain⟨its,rv,p,hz⟩:=I.list h;exact SeqAt.RcAt.bool_list _ p.isList hu
 | int i=>
  obtain⟨t,rfl⟩:=r1
  cases h2 with
  | non=>cases (show u'=Value.none from r2);exact SeqAt.RcAt.int_none _ _
  | bl b=>cases (show u'=Value.bool _ from r2);exact SeqAt.RcAt.int_bool _ _ _
  | int i=>obtain⟨t,rfl⟩:=r2;exact SeqAt.RcAt.int_int _ _ _ _
  | str x=>obtain⟨t,rfl⟩:=r2;exact SeqAt.RcAt.int_str _ _ _ _
  | tup h hs=>cases (show u'=Value.ref _ from r2);obtain⟨its,rv,p,hz⟩:=I.tuple h;exact SeqAt.RcAt.int_tuple _ _ (show s.heap.IsTuple _ its.toArray from p) hu
  | lst h hs=>cases (show u'=Value.ref _ from r2);obtain⟨its,rv,p,hz⟩:=I.list h;exact SeqAt.RcAt.int_list _ _ p.isList hu
 | str x=>
  obtain⟨t,rfl⟩:=r1
  cases h2 with
  | non=>cases (show u'=Value.none from r2);exact SeqAt.RcAt.str_none _ _
  | bl b=>cases (show u'=Value.bool _ from r2);exact SeqAt.RcAt.str_bool _ _ _
  | int i=>obtain⟨t,rfl⟩:=r2;exact SeqAt.RcAt.str_int _ _ _ _
  | str x=>obtain⟨t,rfl⟩:=r2;exact SeqAt.RcAt.str_str _ _ _ _
  | tup h hs=>cases (show u'=Value.ref _ from r2);obtain⟨its,rv,p,hz⟩:=I.tuple h;exact SeqAt.RcAt.str_tuple _ _ (show s.heap.IsTuple _ its.toArray from p) hu
  | lst h hs=>cases (show u'=Value.ref _ from r2);obtain⟨its,rv,p,hz⟩:=I.list h;exact SeqAt.RcAt.str_list _ _ p.isList hu
 | @tup a xs ds h hs=>
  cases (show u=Value.ref a from r1)
  obtain⟨its,rv,p,hz⟩:=I.tuple h
  cases h2 with
  | non=>cases (show u'=Value.none from r2);exact SeqAt.RcAt.tuple_none (show s.heap.IsTuple _ its.toArray from p) hu
  | bl b=>cases (show u'=Value.bool _ from r2);exact SeqAt.RcAt.tuple_bool _ (show s.heap.IsTuple _ its.toArray from p) hu
  | int i=>obtain⟨t,rfl⟩:=r2;exact SeqAt.RcAt.tuple_int _ _ (show s.heap.IsTuple _ its.toArray from p) hu
  | str x=>obtain⟨t,rfl⟩:=r2;exact SeqAt.RcAt.tuple_str _ _ (show s.heap.IsTuple _ its.toArray from p) hu
  | @tup a' xs' ds' h' hs'=>
   cases (show u'=Value.ref a' from r2)
   ·obtain⟨its',rv',p',hz'⟩:=I.tuple h'
    have l1:its.toArray.size=ds.length:=by rw[Qf,<-rv.length,hs.length]
    have l2:its'.toArray.size=ds'.length:=by rw[Qf,<-rv'.length,hs'.length]
    have key:=SeqAt.RcAt.tuples (A:=A) (s:=s) (show s.heap.IsTuple a its.toArray from p) (show s.heap.IsTuple a' its'.toArray from p') hu
     (lU (A:=A.in1) (s:=s) hs hs' rv rv' fun d d' v v' u u' hm iv iv' r r'=>rc ds (.inl rfl) d d' v v' u u' hm iv iv' r r')
    rw[l1,l2,<-lQ] at key;exact key
  | @lst a' xs' ds' h' hs'=>
   cases (show u'=Value.ref a' from r2)
   obtain⟨its',rv',p',hz'⟩:=I.list h';exact SeqAt.RcAt.tuple_list (show s.heap.IsTuple _ its.toArray from p) p'.isList hu
 | @lst a xs ds h hs=>
  cases (show u=Value.ref a from r1)
  obtain⟨its,rv,p,hz⟩:=I.list h
  cases h2 with
  | non=>cases (show u'=Value.none from r2);exact SeqAt.RcAt.list_none p.isList hu
  | bl b=>cases (show u'=Value.bool _ from r2);exact SeqAt.RcAt.list_bool _ p.isList hu
  | int i=>obtain⟨t,rfl⟩:=r2;exact SeqAt.RcAt.list_int _ _ p.isList hu
  | str x=>obtain⟨t,rfl⟩:=r2;exact SeqAt.RcAt.list_str _ _ p.isList hu
  | @tup a' xs' ds' h' hs'=>
   cases (show u'=Value.ref a' from r2)
   obtain⟨its',rv',p',hz'⟩:=I.tuple h';exact SeqAt.RcAt.list_tuple p.isList (show s.heap.IsTuple _ its'.toArray from p') hu
  | @lst a' xs' ds' h' hs'=>
   cases (show u'=Value.ref a' from r2)
   ·obtain⟨its',rv',p',hz'⟩:=I.list h'
    have l1:its.toArray.size=ds.length:=by rw[Qf,<-rv.length,hs.length]
    have l2:its'.toArray.size=ds'.length:=by rw[Qf,<-rv'.length,hs'.length]
    by_cases hl:ds.length=ds'.length
    ·have key:=SeqAt.RcAt.lists (A:=A) (s:=s) p.isList p'.isList (by rw[l1,l2,hl]) hu
      (lU (A:=A.in1) (s:=s) hs hs' rv rv' fun d d' v v' u u' hm iv iv' r r'=>rc ds (.inr rfl) d d' v v' u u' hm iv iv' r r')
     rw[l1,gT hl] at key;exact key
    ·have key:=SeqAt.RcAt.lists_lengths (A:=A) (s:=s) p.isList p'.isList (by rw[l1,l2];simp[hl]) hu
     rw[eqD,xH hl];exact key
theorem zFQ(I:Inv X pins σ H s){A:Around}{v v':V}{d d':D}{u u':Value}(h1:IsD X.K H v d)(h2:IsD X.K H v' d')(r1:cO v u)(r2:cO v' u')(hu:A.units<cLine)
  (rc:∀ ds,(d=.tup ds∨d=.lst ds)->∀(e e':D)(w w':V)(z z':Value),e∈ds->IsD X.K H w e->IsD X.K H w' e'->cO w z->cO w' z'->SeqAt.EqAt A.in1 s z z' (eqD e e')):
  SeqAt.RcNeAt A s u u' (!eqD d d'):=by
 cases h1 with
 | non=>
  cases (show u=Value.none from r1)
  cases h2 with
  | non=>cases (show u'=Value.none from r2);exact SeqAt.RcNeAt.none_none
  | bl b=>cases (show u'=Value.bool _ from r2);exact SeqAt.RcNeAt.none_bool _
  | int i=>obtain⟨t,rfl⟩:=r2;exact SeqAt.RcNeAt.none_int _ _
  | str x=>obtain⟨t,rfl⟩:=r2;exact SeqAt.RcNeAt.none_str _ _
  | tup h hs=>cases (show u'=Value.ref _ from r2);obtain⟨its,rv,p,hz⟩:=I.tuple h;exact SeqAt.RcNeAt.none_tuple (show s.heap.IsTuple _ its.toArray from p) hu
  | lst h hs=>cases (show u'=Value.ref _ from r2);obtain⟨its,rv,p,hz⟩:=I.list h;exact SeqAt.RcNeAt.none_list p.isList hu
 | bl b=>
  cases (show u=Value.bool _ from r1)
  cases h2 with
  | non=>cases (show u'=Value.none from r2);exact SeqAt.RcNeAt.bool_none _
  | bl b=>cases (show u'=Value.bool _ from r2);exact SeqAt.RcNeAt.bool_bool _ _
  | int i=>obtain⟨t,rfl⟩:=r2;exact SeqAt.RcNeAt.bool_int _ _ _
  | str x=>obtain⟨t,rfl⟩:=r2;exact SeqAt.RcNeAt.bool_str _ _ _
  | tup h hs=>cases (show u'=Value.ref _ from r2);obtain⟨its,rv,p,hz⟩:=I.tuple h;exact SeqAt.RcNeAt.bool_tuple _ (show s.heap.IsTuple _ its.toArray from p) hu
  | lst h hs=>cases (show u'=Value.ref _ from r2);obtain⟨its,rv,p,hz⟩:=I.list h;exact SeqAt.RcNeAt.bool_list _ p.isList hu
 | int i=>
  obtain⟨t,rfl⟩:=r1
  cases h2 with
  | non=>cases (show u'=Value.none from r2);exact SeqAt.RcNeAt.int_none _ _
  | bl b=>cases (show u'=Value.bool _ from r2);exact SeqAt.RcNeAt.int_bool _ _ _
  | int i=>obtain⟨t,rfl⟩:=r2;exact SeqAt.RcNeAt.int_int _ _ _ _
  | str x=>obtain⟨t,rfl⟩:=r2;exact SeqAt.RcNeAt.int_str _ _ _ _
  | tup h hs=>cases (show u'=Value.ref _ from r2);obtain⟨its,rv,p,hz⟩:=I.tuple h;exact SeqAt.RcNeAt.int_tuple _ _ (show s.heap.IsTuple _ its.toArray from p) hu
  | lst h hs=>cases (show u'=Value.ref _ from r2);obtain⟨its,rv,p,hz⟩:=I.list h;exact SeqAt.RcNeAt.int_list _ _ p.isList hu
 | str x=>
  obtain⟨t,rfl⟩:=r1
  cases h2 with
  | non=>cases (show u'=Value.none from r2);exact SeqAt.RcNeAt.str_none _ _
  | bl b=>cases (show u'=Value.bool _ from r2);exact SeqAt.RcNeAt.str_bool _ _ _
  | int i=>obtain⟨t,rfl⟩:=r2;exact SeqAt.RcNeAt.str_int _ _ _ _
  | str x=>obtain⟨t,rfl⟩:=r2;exact SeqAt.RcNeAt.str_str _ _ _ _
  | tup h hs=>cases (show u'=Value.ref _ from r2);obtain⟨its,rv,p,hz⟩:=I.tuple h;exact SeqAt.RcNeAt.str_tuple _ _ (show s.heap.IsTuple _ its.toArray from p) hu
  | lst h hs=>cases (show u'=Value.ref _ from r2);obtain⟨its,rv,p,hz⟩:=I.list h;exact SeqAt.RcNeAt.str_list _ _ p.isList hu
 | @tup a xs ds h hs=>
  cases (show u=Value.ref a from r1)
  obtain⟨its,rv,p,hz⟩:=I.tuple h
  cases h2 with
  | non=>cases (show u'=Value.none from r2);exact SeqAt.RcNeAt.tuple_none (show s.heap.IsTuple _ its.toArray from p) hu
  | bl b=>cases (show u'=Value.bool _ from r2);exact SeqAt.RcNeAt.tuple_bool _ (show s.heap.IsTuple _ its.toArray from p) hu
  | int i=>obtain⟨t,rfl⟩:=r2;exact SeqAt.RcNeAt.tuple_int _ _ (show s.heap.IsTuple _ its.toArray from p) hu
  | str x=>obtain⟨t,rfl⟩:=r2;exact SeqAt.RcNeAt.tuple_str _ _ (show s.heap.IsTuple _ its.toArray from p) hu
  | @tup a' xs' ds' h' hs'=>
   cases (show u'=Value.ref a' from r2)
   ·obtain⟨its',rv',p',hz'⟩:=I.tuple h'
    have l1:its.toArray.size=ds.length:=by rw[Qf,<-rv.length,hs.length]
    have l2:its'.toArray.size=ds'.length:=by rw[Qf,<-rv'.length,hs'.length]
    have key:=SeqAt.RcNeAt.tuples (A:=A) (s:=s) (show s.heap.IsTuple a its.toArray from p) (show s.heap.IsTuple a' its'.toArray from p') hu
     (lU (A:=A.in1) (s:=s) hs hs' rv rv' fun d d' v v' u u' hm iv iv' r r'=>rc ds (.inl rfl) d d' v v' u u' hm iv iv' r r')
    rw[l1,l2,<-lQ] at key;exact key
  | @lst a' xs' ds' h' hs'=>
   cases (show u'=Value.ref a' from r2)
   obtain⟨its',rv',p',hz'⟩:=I.list h';exact SeqAt.RcNeAt.tuple_list (show s.heap.IsTuple _ its.toArray from p) p'.isList hu
 | @lst a xs ds h hs=>
  cases (show u=Value.ref a from r1)
  obtain⟨its,rv,p,hz⟩:=I.list h
  cases h2 with
  | non=>cases (show u'=Value.none from r2);exact SeqAt.RcNeAt.list_none p.isList hu
  | bl b=>cases (show u'=Value.bool _ from r2);exact SeqAt.RcNeAt.list_bool _ p.isList hu
  | int i=>obtain⟨t,rfl⟩:=r2;exact SeqAt.RcNeAt.list_int _ _ p.isList hu
  | str x=>obtain⟨t,rfl⟩:=r2;exact SeqAt.RcNeAt.list_str _ _ p.isList hu
  | @tup a' xs' ds' h' hs'=>
   cases (show u'=Value.ref a' from r2)
   obtain⟨its',rv',p',hz'⟩:=I.tuple h';exact SeqAt.RcNeAt.list_tuple p.isList (show s.heap.IsTuple _ its'.toArray from p') hu
  | @lst a' xs' ds' h' hs'=>
   cases (show u'=Value.ref a' from r2)
   ·obtain⟨its',rv',p',hz'⟩:=I.list h'
    have l1:its.toArray.size=ds.length:=by rw[Qf,<-rv.length,hs.length]
    have l2:its'.toArray.size=ds'.length:=by rw[Qf,<-rv'.length,hs'.length]
    by_cases hl:ds.length=ds'.length
    ·have key:=SeqAt.RcNeAt.lists (A:=A) (s:=s) p.isList p'.isList (by rw[l1,l2,hl]) hu
      (lU (A:=A.in1) (s:=s) hs hs' rv rv' fun d d' v v' u u' hm iv iv' r r'=>rc ds (.inr rfl) d d' v v' u u' hm iv iv' r r')
     rw[l1,gT hl] at key;exact key
    ·have key:=SeqAt.RcNeAt.lists_lengths (A:=A) (s:=s) p.isList p'.isList (by rw[l1,l2];simp[hl]) hu
     rw[eqD,xH hl];exact key
theorem eqA{X:Cx}(hu:X.A.units+64<cLine):OpR X (compareOp .Eq) (fun x y H Q=>∃ d d',IsD X.K H x d/\IsD X.K H y d'/\dep d<=50/\Q (.bl (eqD d d')) H):=by
 intro pins s σ H x y v u Q I rx ry h;obtain⟨d,d',h1,h2,hn,q⟩:=h;refine zEc I h1 h2 rx ry (by omega) (fun ds hd e e' w w' z z' hm i1 i2 q1 q2=>?_) X.prog X.w X.xe _ ⟨.bl _,H,I,rfl,q⟩
 refine zEE I 50 ?_ i1 i2 X.A.in1 z z' (by show X.A.units+1+50<cLine;omega) q1 q2
 have:=rQ hm
 rcases hd with rfl | rfl<;>(rw[dep] at hn;omega)
theorem neA{X:Cx}(hu:X.A.units+64<cLine):OpR X (compareOp .NotEq) (fun x y H Q=>∃ d d',IsD X.K H x d/\IsD X.K H y d'/\dep d<=50/\Q (.bl (!eqD d d')) H):=by
 intro pins s σ H x y v u Q I rx ry h;obtain⟨d,d',h1,h2,hn,q⟩:=h;refine zFQ I h1 h2 rx ry (by omega) (fun ds hd e e' w w' z z' hm i1 i2 q1 q2=>?_) X.prog X.w X.xe _ ⟨.bl _,H,I,rfl,q⟩
 refine zEE I 50 ?_ i1 i2 X.A.in1 z z' (by show X.A.units+1+50<cLine;omega) q1 q2
 have:=rQ hm
 rcases hd with rfl | rfl<;>(rw[dep] at hn;omega)
theorem yH{X:Cx}:OpK X (fun x y H Q=>∃ d d',IsD X.K H x d/\IsD X.K H y d'/\dep d<=50/\Q (.bl (eqD d d')) H) oEq:=⟨fun a b c z=>(by
  unfold oEq at z;split at z<;>cases z),fun Hi H x y a b d Q s r1 r2 z q=>by
  unfold oEq at z;split at z
  ·rename_i h;cases z;exact⟨a,b,r1.mono s,r2.mono s,h,q _ Hi H (Ext.refl s) (.bl _)⟩
  ·cases z⟩
theorem zKR{X:Cx}:OpK X (fun x y H Q=>∃ d d',IsD X.K H x d/\IsD X.K H y d'/\dep d<=50/\Q (.bl (!eqD d d')) H) oNe:=⟨fun a b c z=>(by
  unfold oNe at z;split at z<;>cases z),fun Hi H x y a b d Q s r1 r2 z q=>by
  unfold oNe at z;split at z
  ·rename_i h;cases z;exact⟨a,b,r1.mono s,r2.mono s,h,q _ Hi H (Ext.refl s) (.bl _)⟩
  ·cases z⟩
open Classical in
def zKT(K:PySem.W.Frag)(H:Hp)(dx:D)(u:Value):Bool:=if ∃ w d,IsD K H w d/\cO w u/\eqD d dx=true then true else false
theorem zFi(I:Inv X pins σ H s){dx d:D}{w:V}{u:Value}(h:IsD X.K H w d)(r:cO w u):zKT X.K H dx u=eqD d dx:=by
 unfold zKT;by_cases e:eqD d dx=true
 ·rw[if_pos ⟨w,d,h,r,e⟩,e]
 ·rw[if_neg]
  ·simpa using e
  ·rintro⟨w',d',h',r',e'⟩
   have:=r.inj r'
   subst this;have:=IsD.inj I h h'
   subst this;exact e e'
theorem zBP(I:Inv X pins σ H s){dx:D}:∀ {xs:List V} {ds:List D} {us:List Value},IsDs X.K H xs ds->dD xs us->us.any (zKT X.K H dx)=ds.any fun d=>eqD d dx
 | _,_,_,.nil,.nil=>rfl
 | _,_,_,.cons h hs,.cons r t=>by rw[List.any_cons,List.any_cons,zFi I h r,zBP I hs t]
theorem zBw(I:Inv X pins σ H s){A:Around}{dx:D}{x:V}{ux:Value}(hx:IsD X.K H x dx)(rx:cO x ux)(hu:A.units+50<cLine):∀ {xs:List V} {ds:List D} {us:List Value},IsDs X.K H xs ds->dD xs us->(∀ d∈ds,dep d<=50)->∀ u∈us,SeqAt.EqAt A s u ux (zKT X.K H dx u)
 | _,_,_,.nil,.nil,_=>fun u hu=>by cases hu
 | _,_,_,.cons h hs,.cons r t,f=>fun u hm=>by
  rcases Qc.mp hm with rfl | hm
  ·rw[zFi I h r];exact zEE I 50 (f _ Qe) h hx A _ ux hu r rx
  ·exact zBw I hx rx hu hs t (fun d hd=>f d (Qd _ hd)) u hm
def zOJ(K:PySem.W.Frag)(neg:Bool):R2:=fun x y H Q=>∃ d ds,IsD K H x d/\(IsD K H y (.lst ds)∨IsD K H y (.tup ds))/\depS ds<=50/\Q (.bl (if neg=true then !(ds.any fun e=>eqD e d) else ds.any fun e=>eqD e d)) H
theorem inA{X:Cx}(hu:X.A.units+64<cLine):OpR X (compareOp .In) (zOJ X.K false):=by
 intro pins s σ H x y v u Q I rx ry h;obtain⟨d,ds,h1,h2,hn,q⟩:=h;have hd:∀ e∈ds,dep e<=50:=fun e he=>Qp (rQ he) hn
 rcases h2 with h2 | h2
 ·obtain⟨a,xs,rfl,hl,hs⟩:=h2.lstI
  cases ry;obtain⟨its,rv,p,hz⟩:=I.list hl;refine SeqAt.in_listAt (zKT X.K H d) p.isList (fun y hy=>zBw I h1 rx (by show X.A.units+1+50<cLine;omega) hs rv hd y (by simpa using hy)) ?_
  exact⟨.bl _,H,I,by rw[List.any_toArray,zBP I hs rv];rfl,q⟩
 ·obtain⟨a,xs,rfl,hl,hs⟩:=h2.tupI
  cases ry;obtain⟨its,rv,p,hz⟩:=I.tuple hl;refine SeqAt.in_tupleAt (zKT X.K H d) (show s.heap.IsTuple _ its.toArray from p) (fun y hy=>zBw I h1 rx (by show X.A.units+1+50<cLine;omega) hs rv hd y (by simpa using hy)) ?_
  exact⟨.bl _,H,I,by rw[List.any_toArray,zBP I hs rv];rfl,q⟩
theorem zOG{X:Cx}:OpK X (zOJ X.K false) oIn:=⟨fun a b c z=>(by
  cases b<;>first | cases z | (simp only[oIn] at z;split at z<;>cases z)),fun Hi H x y a b d Q s r1 r2 z q=>by
  cases b<;>first | cases z | skip
  ·rename_i ds
   simp only[oIn] at z;split at z
   ·rename_i h;cases z;exact⟨a,ds,r1.mono s,.inr (r2.mono s),h,q _ Hi H (Ext.refl s) (.bl _)⟩
   ·cases z
  ·rename_i ds
   simp only[oIn] at z;split at z
   ·rename_i h;cases z;exact⟨a,ds,r1.mono s,.inl (r2.mono s),h,q _ Hi H (Ext.refl s) (.bl _)⟩
   ·cases z⟩
end
end L3
namespace L3
open PySem PySem.Spec PyProof.Rows L2
unseal PEd PEf PTd PWd PAd PSd dF
section
variable{X:Cx}{G:Gx}{a b e:Expr}{es:List Expr}{pos p:Pos}{f g:Ev}{fs gs:Fv}{t u:Tv}{x:Str}{id T:String}
def zB(X:Cx)(r:List V->Hp->VK->Prop)(o:List D->Res D):Prop:=(∀ a c,o a≠.err c)/\∀(Hi H:Hp)(vs:List V)(ds:List D)(d:D)(Q:VK),Same Hi H->IsDs X.K Hi vs ds->o ds=.ok d->
 (∀ v Hi' H',Ext Hi H Hi' H'->IsD X.K Hi' v d->Q v H')->r vs H Q
theorem zMj{r:List V->Hp->VK->Prop}{o:List D->Res D}(k:zB X r o):∀ σ H Q,tD X G (eB o fs) σ H Q->tCB r (tAs X G fs) σ H Q:=fun σ H Q q=>by
 obtain⟨ρ,Hi,R,ou⟩:=q;refine zGN R ou fun vs ds Hi1 H1 e1 R1 r1 o1=>?_
 cases z:o ds with
 | no=>rw[z] at o1;exact o1.elim
 | err c=>exact absurd z (k.1 ds c)
 | ok d=>rw[z] at o1;exact k.2 Hi1 H1 vs ds d Q R1.s r1 z fun v Hi2 H2 e2 r2=>o1 Hi2 H2 e2 v r2
theorem aW{r:List V->Hp->VK->Prop}{o:List D->Res D}(hc:uO X (.builtin id) r)(k:zB X r o)(hg:Gl X x)(hm:X.mg x=none)(hv:bootBuiltins x=some (.builtin id))(ha:PAd X G (e::es) fs)(hn:x ≠ "__name__" := by decide)(hdb:(x==("__debug__" : Str))=false:=by decide)
  (he:starEach (e::es) X.env=(false,eval e X.env)::starEach es X.env:=by rfl) (hpl:(backTo pos (starEach es X.env)).any (·.1)=false:=by rfl):PEd X G (.Call (.Name x p) (e::es) [] pos) (eB o fs):=
 PE.wk (zCj hc hg hm hv ha hn hdb he hpl) (zMj k)
theorem zI{r:List V->Hp->VK->Prop}{o:List D->Res D}(hc:uO X (.type T) r)(k:zB X r o)(hg:Gl X x)(hm:X.mg x=none)(hv:bootBuiltins x=some (.type T))(ha:PAd X G (e::es) fs)(hn:x ≠ "__name__" := by decide)(hdb:(x==("__debug__" : Str))=false:=by decide)
  (he:starEach (e::es) X.env=(false,eval e X.env)::starEach es X.env:=by rfl) (hpl:(backTo pos (starEach es X.env)).any (·.1)=false:=by rfl):PEd X G (.Call (.Name x p) (e::es) [] pos) (eB o fs):=
 PE.wk (zAt hc hg hm hv ha hn hdb he hpl) (zMj k)
theorem IsDs.one{K:Fg_}{H:Hp}{vs:List V}{d:D}(h:IsDs K H vs [d]):∃ v,vs=[v]/\IsD K H v d:=by
 cases h with
 | cons h t=>cases t;exact⟨_,rfl,h⟩
theorem IsDs.two{K:Fg_}{H:Hp}{vs:List V}{d d':D}(h:IsDs K H vs [d,d']):∃ v w,vs=[v,w]/\IsD K H v d/\IsD K H w d':=by
 cases h with
 | cons h t=>obtain⟨w,rfl,hw⟩:=t.one;exact⟨_,w,rfl,h,hw⟩
theorem dS:zB X (fun xs H Q=>∃ p ys,xs=[.ref p]/\(SqL X.K H p ys∨SqT X.K H p ys)/\Q (.int ys.length) H) lA:=⟨fun a c z=>(by
  unfold lA at z;split at z<;>cases z),fun Hi H vs ds d Q s r z q=>by
  unfold lA at z;split at z
  ·cases z
   obtain⟨v,rfl,h⟩:=r.one;obtain⟨a,xs,rfl,h1,h2⟩:=h.lstI;refine⟨a,xs,rfl,.inl (cC s h1),?_⟩
   rw[h2.length];exact q _ Hi H (Ext.refl s) (.int _)
  ·cases z
   obtain⟨v,rfl,h⟩:=r.one;obtain⟨a,xs,rfl,h1,h2⟩:=h.tupI;refine⟨a,xs,rfl,.inr (bN s h1),?_⟩
   rw[h2.length];exact q _ Hi H (Ext.refl s) (.int _)
  ·cases z⟩
theorem zDW:zB X (fun xs H Q=>∃ i,xs=[.int i]/\Q (.int (if i<0 then -i else i)) H) zKx:=⟨fun a c z=>(by
  unfold zKx at z;split at z<;>cases z),fun Hi H vs ds d Q s r z q=>by
  unfold zKx at z;split at z
  ·cases z
   obtain⟨v,rfl,h⟩:=r.one;exact⟨_,by rw[h.intI],q _ Hi H (Ext.refl s) (.int _)⟩
  ·cases z⟩
theorem zLR:zB X (fun xs H Q=>∃ i j,xs=[.int i,.int j]/\Q (.int (if j<i then j else i)) H) zLJ:=⟨fun a c z=>(by
  unfold zLJ at z;split at z<;>cases z),fun Hi H vs ds d Q s r z q=>by
  unfold zLJ at z;split at z
  ·cases z
   obtain⟨v,w,rfl,h,h'⟩:=r.two;exact⟨_,_,by rw[h.intI,h'.intI],q _ Hi H (Ext.refl s) (.int _)⟩
  ·cases z⟩
theorem zIH:zB X (fun xs H Q=>∃ p ys,xs=[.ref p]/\((SqL X.K H p ys/\∀ l,H l=none->Q (.ref l) (upd H l (.tup ys)))∨(SqT X.K H p ys/\Q (.ref p) H))) zIj:=⟨fun a c z=>(by
  unfold zIj at z;split at z<;>cases z),fun Hi H vs ds d Q s r z q=>by
  unfold zIj at z;split at z
  ·cases z
   obtain⟨v,rfl,h⟩:=r.one;obtain⟨a,xs,rfl,h1,h2⟩:=h.lstI;exact⟨a,xs,rfl,.inl ⟨cC s h1,fun l hl=>q _ _ _ (Ext.new s hl) (.tup (SqT.of aQ) (h2.mono (bU (s.none hl) _)))⟩⟩
  ·cases z
   obtain⟨v,rfl,h⟩:=r.one;obtain⟨a,xs,rfl,h1,h2⟩:=h.tupI;exact⟨a,xs,rfl,.inr ⟨bN s h1,q _ Hi H (Ext.refl s) (.tup h1 h2)⟩⟩
  ·cases z⟩
theorem zIX(hg:Gl X "list")(hm:X.mg "list" = none)(hv:bootBuiltins "list" = some (.type "list"))(ha:PAd X G (e::es) fs)
  (he:starEach (e::es) X.env=(false,eval e X.env)::starEach es X.env:=by rfl) (hpl:(backTo pos (starEach es X.env)).any (·.1)=false:=by rfl):PEf X G (.Call (.Name "list" p) (e::es) [] pos) (zKB fs):=
 PE.wk (zAt zAC hg hm hv ha (by decide) (by decide) he hpl) fun σ H Q q=>by
 obtain⟨ρ,Hi,R,ou⟩:=q;refine zGN R ou fun vs ds Hi1 H1 e1 R1 r1 o1=>?_
 split at o1
 ·obtain⟨v,rfl,h⟩:=r1.one
  obtain⟨a,xs,rfl,h1,h2⟩:=h.lstI;exact⟨a,xs,rfl,.inl (cC R1.s h1),fun l hl=>o1 _ _ (Ext.newF R1.s hl) l ⟨e1.h.none hl,R1.s.none hl,xs,aQ,h2⟩⟩
 ·obtain⟨v,rfl,h⟩:=r1.one
  obtain⟨a,xs,rfl,h1,h2⟩:=h.tupI;exact⟨a,xs,rfl,.inr (bN R1.s h1),fun l hl=>o1 _ _ (Ext.newF R1.s hl) l ⟨e1.h.none hl,R1.s.none hl,xs,aQ,h2⟩⟩
 ·exact o1.elim
theorem zJH{K:Fg_}{H:Hp}{v:V}{d:D}(h:IsD K H v d):decide (v=.non)=isNon d:=by
 cases h<;>simp[isNon]
variable{lo hi:Option Expr}{l h:Ov}{p2:Pos}
def tOv(X:Cx)(G:Gx)(f:Ov):TO:=fun σ H Q=>∃ ρ Hi,jG X G Hi H σ ρ/\Out G Hi H (f ρ) fun o _ H'=>Q o H'
@[irreducible] def POd (X:Cx) (G:Gx) (e:Option Expr) (f:Ov):Prop:=PO X e (tOv X G f)
unseal POd
theorem PO.wk{X:Cx}{e:Option Expr}{t t':TO}(h:PO X e t)(w:∀ σ H Q,t' σ H Q->t σ H Q):PO X e t':=fun pins s σ H Q I q=>h pins s σ H Q I (w σ H Q q)
theorem zBa:POd X G none oN:=PO.wk zKj fun σ H Q q=>by
 obtain⟨ρ,Hi,R,ou⟩:=q;exact ou.here R.s
theorem tE(he:PEd X G e f):POd X G (some e) (oS f):=PO.wk (zKs he) fun σ H Q q=>by
 obtain⟨ρ,Hi,R,ou⟩:=q;refine zBD R ou fun v d Hi1 H1 e1 R1 r1 o1=>?_
 cases d with
 | int i=>exact⟨i,r1.intI,o1.here R1.s⟩
 | _=>exact o1.elim
theorem zNB{f:Ov}{Hi H:Hp}{σ:St}{ρ:Rho}{β:Type}{k:Option Int->Res β}{k':β->Hp->Hp->Prop}{Q:Option Int->Hp->Prop}(R:jG X G Hi H σ ρ)(o:Out G Hi H ((f ρ).bind k) k')
  (w:∀ c Hi' H',Ext Hi H Hi' H'->jG X G Hi' H' σ ρ->Out G Hi' H' (k c) k'->Q c H'):tOv X G f σ H Q:=
 ⟨ρ,Hi,R,o.bind.imp fun d Hi' H' e q=>w d Hi' H' e (R.grow e) q⟩
theorem zFv(n d:Nat)(i:Option Int):cut n i d=HT.sIx n d i:=by
 cases i with
 | none=>rfl
 | some i=>
  simp only[cut,HT.sIx];split<;>split<;>omega
theorem IsDs.cut{K:Fg_}{H:Hp}{xs:List V}{ds:List D}(h:IsDs K H xs ds)(l r:Option Int):IsDs K H (zGP xs l r) (dU ds l r):=by
 unfold zGP dU;rw[zFv,zFv,h.length];exact(h.drop _).take _
theorem wE(he:PEd X G e f)(hl:POd X G lo l)(hu:POd X G hi h):PEf X G (.Subscript e (.Slice lo hi none p2) pos) (fSl f l h):=PE.wk (zCn zFM he hl hu) fun σ H Q q=>by
 obtain⟨ρ,Hi,R,ou⟩:=q;refine zBD R ou fun v d Hi1 H1 e1 R1 r1 o1=>?_
 refine zNB R1 o1 fun i Hi2 H2 e2 R2 o2=>?_
 refine zNB R2 o2 fun j Hi3 H3 e3 R3 o3=>?_
 cases d with
 | lst ds=>
  obtain⟨a,xs,rfl,h1,h2⟩:=r1.lstI;refine⟨a,xs,rfl,cC (e2.i.trans (e3.i.trans R3.s)) h1,fun p hp=>?_⟩
  exact o3 _ _ (Ext.newF R3.s hp) p ⟨(e1.h.trans (e2.h.trans e3.h)).none hp,R3.s.none hp,_,aQ,(h2.cut i j).mono (e2.i.trans e3.i)⟩
 | _=>exact o3.elim
def zOy(K:PySem.W.Frag):R2:=fun x y H Q=>∃ l b xs zs,x=.ref l/\y=.ref b/\SqL K H l xs/\SqL K H b zs/\xs.length+zs.length<=sizeLine/\∀ p,H p=none->Q (.ref p) (upd H p (.lst (xs++zs)))
theorem zKn:OpR X (binaryOp .Add) (zOy X.K):=by
 intro pins s σ H x y v u Q I rx ry h;obtain⟨l,b,xs,zs,rfl,rfl,hl,hb,hz,q⟩:=h;cases rx;cases ry;obtain⟨its,r,p,_⟩:=I.list hl;obtain⟨its2,r2,p2,_⟩:=I.list hb;obtain⟨⟨cls,dd,data,sl⟩,ho,hc,n,hd⟩:=id p.isList;obtain⟨⟨cls2,dd2,data2,sl2⟩,ho2,hc2,n2,hd2⟩:=id p2.isList;simp only at hc hd hc2 hd2
 subst hc hd hc2 hd2;have hsz:its.toArray.size+its2.toArray.size<=sizeLine:=by rw[Qf,Qf,<-r.length,<-r2.length];exact hz
 have e:its.toArray++its2.toArray=(its++its2).toArray:=by simp
 refine concat_meets ⟨_,ho,rfl⟩ ⟨_,ho2,rfl⟩ noFill_list_add seq_list_add PySem.F.slot_list_add PySem.F.entry_list_add (PySem.F.args_list_add_2 _ _) (list_addW l b its.toArray its2.toArray n n2 dd dd2 sl sl2 hsz) ⟨ho,ho2,?_⟩
 rw[e];exact⟨.ref _,_,I.lnew (t':=s.toks) (r.append r2) (by rw[Qm];exact hz),rfl,q _ I.fresh⟩
theorem zDY(ha:PEd X G a f)(hb:PEd X G b g):PEf X G (.BinOp a .Add b pos) (zMZ f g):=PE.wk (zV zKn ha hb) fun σ H Q q=>by
 obtain⟨ρ,Hi,R,ou⟩:=q;refine zBD R ou fun v d Hi1 H1 e1 R1 r1 o1=>?_
 refine zBD R1 o1 fun w d' Hi2 H2 e2 R2 r2 o2=>?_
 cases d<;>first | exact o2.elim | skip
 cases d'<;>first | exact o2.elim | skip
 rename_i ds es
 obtain⟨a,xs,rfl,h1,h2⟩:=r1.lstI;obtain⟨b,ys,rfl,h3,h4⟩:=r2.lstI;have o2':Out G Hi2 H2 (if ds.length+es.length<=16777216 then Res.ok (ds++es) else .no) _:=o2;by_cases hz:ds.length+es.length<=16777216
 ·rw[if_pos hz] at o2'
  refine⟨a,b,xs,ys,rfl,rfl,cC (e2.i.trans e2.s) h1,cC e2.s h3,by rw[h2.length,h4.length];exact hz,fun p hp=>?_⟩
  exact o2' _ _ (Ext.newF e2.s hp) p ⟨(e1.h.trans e2.h).none hp,e2.s.none hp,_,aQ,(h2.mono e2.i).append h4⟩
 ·rw[if_neg hz] at o2';exact o2'.elim
end
end L3
namespace L3
open PySem PySem.Spec PyProof.Rows L2
unseal PEd PEf PTd PWd PAd PSd dF POd
section
variable{X:Cx}{G:Gx}{a b e:Expr}{es:List Expr}{pos p:Pos}{f g:Ev}{fs gs:Fv}{t u:Tv}{x:Str}{st:Stmt}{rest:List Stmt}{sa sb:Sv}
theorem kH{Hi H:Hp}{σ:St}{ρ:Rho}{E:Ends}{α:Type}{r:Res α}{k:α->Res Fl}(R:jG X G Hi H σ ρ)(h:Fin X G Hi E (r.bind k)){Q:α->Hp->Hp->Prop}
  (w:∀ a Hi' H',r=.ok a->Ext Hi H Hi' H'->Fin X G Hi' E (k a)->Q a Hi' H'):Out G Hi H r Q:=by
 cases r with
 | no=>exact h
 | err c=>exact fun Hi' H' e=>h Hi' H' (R.ext.trans e)
 | ok a=>exact fun Hi' H' e=>w a Hi' H' rfl e (Fin.mono (show Fin X G Hi E (k a) from h) e.i)
theorem bO:dF X G [] sNext:=PSs.wk zJP fun E σ H q=>by
 obtain⟨ρ,Hi,R,h⟩:=q;exact h σ Hi H (Same.refl _) R
theorem zLq{E:Ends}{Hi:Hp}{ρ:Rho}(h:Fin X G Hi E (bB sa sb ρ)):Fin X G Hi { E with nx:=tS X G sb E } (sa ρ):=by
 unfold bB at h
 cases z:sa ρ with
 | no=>rw[z] at h;exact h
 | err c=>rw[z] at h;exact h
 | ok fl=>
  rw[z] at h
  cases fl with
  | nx ρ'=>exact fun σ' Hi' H' s R'=>⟨ρ',Hi',R',Fin.mono (show Fin X G Hi E (sb ρ') from h) s⟩
  | brk ρ'=>exact h
  | ctn ρ'=>exact h
  | ret r=>cases r<;>exact h
theorem zMf{E:Ends}{σ:St}{H:Hp}(q:tS X G (bB sa sb) E σ H):tS X G sa { E with nx:=tS X G sb E } σ H:=by
 obtain⟨ρ,Hi,R,h⟩:=q;exact⟨ρ,Hi,R,zLq h⟩
theorem aC(h1:PSd X G st sa)(h2:dF X G rest sb):dF X G (st::rest) (bB sa sb):=PSs.wk (rD h1 h2) fun _ _ _ q=>zMf q
theorem aG(h1:PSd X G st sa):dF X G [st] sa:=zBZ h1
theorem oD(he:PEd X G e f)(hs:swapsWith e none pos.line X.env=pure false:=by rfl):PSd X G (.Expr e pos) (rZ f):=PS.wk (xI he hs) fun E σ H q=>by
 obtain⟨ρ,Hi,R,h⟩:=q;exact⟨ρ,Hi,R,kH R h fun d Hi' H' _ e h' v r=>h' σ Hi' H' (Same.refl _) (R.grow e)⟩
theorem cB(he:PEd X G e f):PSd X G (.Return (some e) pos) (fZ f):=PS.wk (zCE he) fun E σ H q=>by
 obtain⟨ρ,Hi,R,h⟩:=q;obtain⟨Hf,s1,R1,fl⟩:=R.frz;refine⟨ρ.map Sl.frz,Hf,R1,kH R1 (Fin.mono h s1) fun d Hi' H' _ e h' v r=>?_⟩
 exact h' v Hi' H' (R1.ext.trans e) r
theorem hZ(he:PEf X G e fs):PSd X G (.Return (some e) pos) (mB fs):=PS.wk (zCE he) fun E σ H q=>by
 obtain⟨ρ,Hi,R,h⟩:=q;obtain⟨Hf,s1,R1,fl⟩:=R.frz;refine⟨ρ.map Sl.frz,Hf,R1,kH R1 (Fin.mono h s1) fun ds Hi' H' _ e h' a n=>?_⟩
 obtain⟨n1,n2,xs,n3,n4⟩:=n;exact h' a Hi' H' (R1.ext.trans e) ⟨R1.ext.h.none n1,n2,xs,n3,n4⟩
theorem jL(i:Nat)(he:PE X e (zAY i)):PSd X G (.Return (some e) pos) (gU i):=PS.wk (zCE he) fun E σ H q=>by
 obtain⟨ρ,Hi,R,h⟩:=q;unfold gU at h
 cases z:ρ[i]? with
 | none=>rw[z] at h;exact h.elim
 | some s=>
  rw[z] at h
  cases s with
  | own ds=>
   obtain⟨a,xs,p,h1,h2,h3,h4⟩:=R.slot i _ z;exact⟨.ref a,p,h a Hi H R.ext ⟨h3,h2,xs,h1,h4⟩⟩
  | un=>exact h.elim
  | val d=>exact h.elim
  | exc c=>exact h.elim
  | tab T=>exact h.elim
theorem kC{c:Expr}{as bs:List Stmt}(hc:PTd X G c t)(ha:dF X G as sa)(hb:dF X G bs sb):PSd X G (.If c as bs pos) (sIf t sa sb):=PS.wk (zOg hc ha hb) fun E σ H q=>by
 obtain⟨ρ,Hi,R,h⟩:=q;refine⟨ρ,Hi,R,kH R h fun c Hi' H' _ e h'=>?_⟩
 cases c with
 | true=>exact⟨ρ,Hi',R.grow e,h'⟩
 | false=>exact⟨ρ,Hi',R.grow e,h'⟩
theorem zOx{i:Nat}{pos':Pos}(hN:X.N.Nodup)(hi:X.N[i]?=some x)(hx:Loc X.env.scope x)(he:PEd X G e f)(hs:swapsWith e (some (.Name x pos')) pos.line X.env=pure false:=by rfl)
  (hf:X.fn x=true∨X.env.scope.names.lookup x=some .local:=by first | exact .inl rfl | exact .inr rfl | assumption):PSd X G (.Assign [.Name x pos'] e pos) (cQ i f):=PS.wk (zIi hN hi hx he hs hf) fun E σ H q=>by
 obtain⟨ρ,Hi,R,h⟩:=q;exact⟨ρ,Hi,R,kH R h fun d Hi' H' _ e h' v r=>h' _ Hi' H' (Same.refl _) ((R.grow e).set r)⟩
theorem uH{i:Nat}{pos':Pos}(hN:X.N.Nodup)(hi:X.N[i]?=some x)(hx:Loc X.env.scope x)(he:PEf X G e fs)(hs:swapsWith e (some (.Name x pos')) pos.line X.env=pure false:=by rfl)
  (hf:X.fn x=true∨X.env.scope.names.lookup x=some .local:=by first | exact .inl rfl | exact .inr rfl | assumption):PSd X G (.Assign [.Name x pos'] e pos) (zDQ i fs):=PS.wk (zIi hN hi hx he hs hf) fun E σ H q=>by
 obtain⟨ρ,Hi,R,h⟩:=q;refine⟨ρ,Hi,R,kH R h fun ds Hi' H' _ e h' a n=>?_⟩
 obtain⟨n1,n2,xs,n3,n4⟩:=n;exact h' _ Hi' H' (Same.refl _) (R.setOwn e n1 n3 n2 n4)
theorem zEU{i:Nat}{o:Expr}{apos cpos:Pos}(ho:PE X o (zAY i))(he:PEd X G e f)
  (hbase:attributeBase o "append" X.env (eval o X.env)=eval o X.env:=by rfl)
  (hfew:((backTo cpos (starEach [e] X.env)).all (fun x=>!x.1) && (backToKw cpos (keywordEach [] X.env)).all (fun x=>x.1.isSome)
   && decide ([e].length+([]:List Keyword).length+(if ([]:List Keyword).isEmpty then 0 else 1)<30))=true:=by rfl)
  (hline:(apos.endLine==cpos.line)=true:=by rfl) (hs:starEach [e] X.env=(false,eval e X.env)::starEach [] X.env:=by rfl)
  (hsw:swapsWith (.Call (.Attribute o "append" apos) [e] [] cpos) none pos.line X.env=pure false:=by rfl):
  PSd X G (.Expr (.Call (.Attribute o "append" apos) [e] [] cpos) pos) (zGS i f):=
 PS.wk (xI (zHX Y1 Wk Wl nR ho (iP he mJ hs) hbase hfew hline hs) hsw) fun E σ H q=>by
 obtain⟨ρ,Hi,R,h⟩:=q;unfold zGS at h
 cases z:ρ[i]? with
 | none=>rw[z] at h;exact h.elim
 | some s=>
  rw[z] at h
  cases s with
  | own ds=>
   obtain⟨a,xs,p,h1,h2,h3,h4⟩:=R.slot i _ z;refine⟨.ref a,p,.inl ⟨rfl,xs,SqL.of h1⟩,?_⟩
   refine⟨ρ,Hi,R,kH R h fun d Hi' H' _ e h' v r=>?_⟩
   have R':=R.grow e;obtain⟨g1,g2⟩:=e.out h1 h2;by_cases hz:ds.length<16777216
   ·rw[if_pos hz] at h'
    refine⟨a,xs,v,rfl,rfl,g1,by rw[h4.length];exact hz,?_⟩
    exact h' σ Hi' _ (Same.refl _) (R'.write z p ((h4.mono e.i).append (.cons r .nil)))
   ·rw[if_neg hz] at h';exact h'.elim
  | un=>exact h.elim
  | val d=>exact h.elim
  | exc c=>exact h.elim
  | tab T=>exact h.elim
theorem zKY{i:Nat}{o:Expr}{apos cpos:Pos}(ho:PE X o (zAY i))(he:PEf X G e fs)
  (hbase:attributeBase o "extend" X.env (eval o X.env)=eval o X.env:=by rfl)
  (hfew:((backTo cpos (starEach [e] X.env)).all (fun x=>!x.1) && (backToKw cpos (keywordEach [] X.env)).all (fun x=>x.1.isSome)
   && decide ([e].length+([]:List Keyword).length+(if ([]:List Keyword).isEmpty then 0 else 1)<30))=true:=by rfl)
  (hline:(apos.endLine==cpos.line)=true:=by rfl) (hs:starEach [e] X.env=(false,eval e X.env)::starEach [] X.env:=by rfl)
  (hsw:swapsWith (.Call (.Attribute o "extend" apos) [e] [] cpos) none pos.line X.env=pure false:=by rfl):
  PSd X G (.Expr (.Call (.Attribute o "extend" apos) [e] [] cpos) pos) (zKV i fs):=
 PS.wk (xI (zHX Y1 PySem.F.slot_list_extend PySem.F.type_list_extend zFD ho (iP he mJ hs) hbase hfew hline hs) hsw) fun E σ H q=>by
 obtain⟨ρ,Hi,R,h⟩:=q;unfold zKV at h
 cases z:ρ[i]? with
 | none=>rw[z] at h;exact h.elim
 | some s=>
  rw[z] at h
  cases s with
  | own ds=>
   obtain⟨a,xs,p,h1,h2,h3,h4⟩:=R.slot i _ z;refine⟨.ref a,p,.inl ⟨rfl,xs,SqL.of h1⟩,?_⟩
   refine⟨ρ,Hi,R,kH R h fun es Hi' H' _ e h' b n=>?_⟩
   obtain⟨n1,n2,ys,n3,n4⟩:=n;have R':=R.grow e;obtain⟨g1,g2⟩:=e.out h1 h2;by_cases hz:ds.length+es.length<=16777216
   ·rw[if_pos hz] at h'
    refine⟨a,b,xs,ys,rfl,rfl,g1,n3,by rw[h4.length,n4.length];exact hz,?_⟩
    exact h' σ Hi' _ (Same.refl _) (R'.write z p ((h4.mono e.i).append n4))
   ·rw[if_neg hz] at h';exact h'.elim
  | un=>exact h.elim
  | val d=>exact h.elim
  | exc c=>exact h.elim
  | tab T=>exact h.elim
theorem zEj{i:Nat}{o k:Expr}{fk:Ev}{tpos:Pos}(ho:PE X o (zAY i))(hk:PEd X G k fk)(he:PEd X G e f)(hs:swapsWithSole [.Subscript o k tpos] e pos.line X.env=pure false:=by rfl)(hw:swappedStores [.Subscript o k tpos] e X.env=pure none:=by rfl)
  (h1:(assignEach [.Subscript o k tpos] X.env).map (·.2)=[assign (.Subscript o k tpos) X.env]:=by rfl)
  (ha:∀ v,assign (.Subscript o k tpos) X.env v=(do
   let ov <-holding [v] (eval o X.env)
   let iv <-holding [v,ov] (eval k X.env)
   standAt tpos
   holding [v,ov,iv] (setItem ov iv v)
   release [v,ov,iv] []):=by intro _;rfl):PSd X G (.Assign [.Subscript o k tpos] e pos) (zDf i fk f):=
 PS.wk (zMX he (zLH ho hk zHO ha) hs hw h1) fun E σ H q=>by
 obtain⟨ρ,Hi,R,h⟩:=q;refine⟨ρ,Hi,R,kH R h fun d Hi1 H1 _ e1 h1 v r=>?_⟩
 have R1:=R.grow e1
 cases z:ρ[i]? with
 | none=>rw[z] at h1;exact h1.elim
 | some s=>
  rw[z] at h1
  cases s with
  | own ds=>
   obtain⟨a,xs,p,g1,g2,g3,g4⟩:=R1.slot i _ z;refine⟨.ref a,p,?_⟩
   refine⟨ρ,Hi1,R1,kH R1 h1 fun j Hi2 H2 _ e2 h2 w rw'=>?_⟩
   have R2:=R1.grow e2;obtain⟨k1,k2⟩:=e2.out g1 g2
   cases j with
   | int j=>
    have hl:=g4.length;have h2':Fin X G Hi2 E (if 0<=j/\j<ds.length then Res.ok (.nx (ρ.set i (.own (ds.set j.toNat d)))) else if -(ds.length:Int)<=j/\j<0 then .ok (.nx (ρ.set i (.own (ds.set (j+ds.length).toNat d)))) else .no):=h2;by_cases c1:0<=j/\j<ds.length
    ·rw[if_pos c1] at h2'
     refine⟨a,xs,j,j.toNat,rfl,rw'.intI,k1,by unfold ixN;rw[if_pos c1.1,if_pos (by omega)],?_⟩
     exact h2' σ Hi2 _ (Same.refl _) (R2.write z p ((g4.mono e2.i).set (r.mono e2.i) j.toNat))
    ·rw[if_neg c1] at h2'
     by_cases c2:-(ds.length:Int)<=j/\j<0
     ·rw[if_pos c2] at h2'
      refine⟨a,xs,j,(j+ds.length).toNat,rfl,rw'.intI,k1,by unfold ixN;rw[if_neg (by omega),if_pos (by omega),hl],?_⟩
      exact h2' σ Hi2 _ (Same.refl _) (R2.write z p ((g4.mono e2.i).set (r.mono e2.i) (j+ds.length).toNat))
     ·rw[if_neg c2] at h2';exact h2'.elim
   | _=>exact h2.elim
  | un=>exact h1.elim
  | val d=>exact h1.elim
  | exc c=>exact h1.elim
  | tab T=>exact h1.elim
theorem zOz{i:Nat}{op:Operator}{o:Op2}{r:Int->Int->Int}{pos':Pos}(hN:X.N.Nodup)(hi:X.N[i]?=some x)(hx:Loc X.env.scope x)(he:PEd X G e f)(ho:PIp X op (ipI r))(hr:∀ a b d,o a b=.ok d->∃ i j,a=.int i/\b=.int j/\d=.int (r i j))(hn:∀ a b c,o a b≠.err c)
  (hf:X.fn x=true∨X.env.scope.names.lookup x=some .local:=by first | exact .inl rfl | exact .inr rfl | assumption):PSd X G (.AugAssign (.Name x pos') op e pos) (zNb i o f):=PS.wk (zLo hN hi hx he ho hf) fun E σ H q=>by
 obtain⟨ρ,Hi,R,h⟩:=q;unfold zNb at h
 cases z:ρ[i]? with
 | none=>rw[z] at h;exact h.elim
 | some s=>
  rw[z] at h
  cases s with
  | val d=>
   obtain⟨v,p,rv⟩:=R.slot i _ z;refine⟨v,p,ρ,Hi,R,kH R h fun d' Hi' H' _ e h' w rw'=>?_⟩
   cases q:o d d' with
   | no=>rw[q] at h';exact h'.elim
   | err c=>exact absurd q (hn _ _ _)
   | ok u=>
    rw[q] at h';obtain⟨i',j',rfl,rfl,rfl⟩:=hr _ _ _ q;exact⟨i',j',rv.intI,rw'.intI,h' _ Hi' H' (Same.refl _) ((R.grow e).set (.int _))⟩
  | un=>exact h.elim
  | own ds=>exact h.elim
  | exc c=>exact h.elim
  | tab T=>exact h.elim
theorem dF.frzAt(i:Nat){sts:List Stmt}(h:dF X G sts sa):dF X G sts (sFrzAt i sa):=PSs.wk h fun E σ H q=>by
 obtain⟨ρ,Hi,R,h⟩:=q;obtain⟨Hi',s,R'⟩:=R.frzAt (i:=i);exact⟨_,Hi',R',Fin.mono h s⟩
def tGv(X:Cx)(G:Gx)(g:Gv):TG:=fun v σ H Q=>∃ d ρ Hi,IsD X.K Hi v d/\jG X G Hi H σ ρ/\∃ ρ',g d ρ=.ok ρ'/\∀ σ' Hi' H',Same Hi Hi'->jG X G Hi' H' σ' ρ'->Q σ' H'
@[irreducible] def PGd (X:Cx) (G:Gx) (e:Expr) (g:Gv):Prop:=PG X e (tGv X G g)
unseal PGd
theorem zMD{i:Nat}(hN:X.N.Nodup)(hi:X.N[i]?=some x)(hx:Loc X.env.scope x)(hf:X.fn x=true∨X.env.scope.names.lookup x=some .local:=by first | exact .inl rfl | exact .inr rfl | assumption):PGd X G (.Name x pos) (gName i):=
 fun pins s σ H v u Q I r q=>zBK hN hi hx hf pins s σ H v u Q I r (by
  obtain⟨d,ρ,Hi,rd,R,ρ',e,k⟩:=q;cases e
  exact k _ Hi H (Same.refl _) (R.set rd))
def zPg(X:Cx)(G:Gx)(g:List D->Rho->Res Rho):TGs:=fun vs σ H Q=>∃ ds ρ Hi,IsDs X.K Hi vs ds/\jG X G Hi H σ ρ/\∃ ρ',g ds ρ=.ok ρ'/\∀ σ' Hi' H',Same Hi Hi'->jG X G Hi' H' σ' ρ'->Q σ' H'
@[irreducible] def fT (X:Cx) (G:Gx) (es:List Expr) (g:List D->Rho->Res Rho):Prop:=PGs X es (zPg X G g)
unseal fT
theorem zEF:fT X G [] zBm:=fun pins s σ H vs us Q I r q=>zEu pins s σ H vs us Q I r (by
  obtain⟨ds,ρ,Hi,rd,R,ρ',e,k⟩:=q
  cases ds with
  | nil=>cases rd;cases e;exact⟨rfl,k _ Hi H (Same.refl _) R⟩
  | cons d ds=>cases e)
theorem pD{g:Gv}{r:List D->Rho->Res Rho}(h1:PGd X G e g)(h2:fT X G es r)(hs:(assignEach (e::es) X.env).map (·.2)=assign e X.env::(assignEach es X.env).map (·.2):=by rfl):fT X G (e::es) (gB g r):=
 fun pins s σ H vs us Q I rr q=>xP h1 h2 hs pins s σ H vs us Q I rr (by
  obtain⟨ds,ρ,Hi,rd,R,ρ',e,k⟩:=q
  cases ds with
  | nil=>cases e
  | cons d ds=>
   cases rd with
   | cons rd rds=>
    refine⟨_,_,rfl,d,ρ,Hi,rd,R,?_⟩
    have e':(g d ρ).bind (fun ρ'=>r ds ρ')=.ok ρ':=e
    cases z:g d ρ with
    | no=>rw[z] at e';cases e'
    | err c=>rw[z] at e';cases e'
    | ok ρ1=>
     rw[z] at e'
     exact⟨ρ1,rfl,fun σ1 Hi1 H1 s1 R1=>⟨ds,ρ1,Hi1,rds.mono s1,R1,ρ',e',fun σ2 Hi2 H2 s2 R2=>k σ2 Hi2 H2 (s1.trans s2) R2⟩⟩)
theorem zIY{k:Nat}{r:List D->Rho->Res Rho}{n:Nat}(hc:X.calm=true)(h:fT X G es r)(hr:∀ ds ρ ρ',r ds ρ=.ok ρ'->ds.length=n)(hn:(assignEach es X.env).length=n:=by rfl)(hst:(assignEach es X.env).findIdx? (·.1)=none:=by rfl):PGd X G (.Tuple es k pos) (zBb r):=
 fun pins s σ H v u Q I rr q=>zIG hc h hn hst pins s σ H v u Q I rr (by
  obtain⟨d,ρ,Hi,rd,R,ρ',e,kk⟩:=q
  cases d with
  | tup ds=>
   obtain⟨a,xs,rfl,h1,h2⟩:=rd.tupI;exact⟨a,xs,rfl,bN R.s h1,by rw[h2.length];exact hr ds ρ ρ' e,ds,ρ,Hi,h2,R,ρ',e,kk⟩
  | _=>cases e)
def uQ(K:PySem.W.Frag)(Hi:Hp)(J:It)(ds:List D):Prop:=∀(Hi1 H1:Hp),Same Hi Hi1->Same Hi1 H1->∀ i,
 (ds.length<=i->J.stop i H1)/\∀ d,ds[i]?=some d->J.go i H1/\∀ x H2,J.yld i H1 x H2->∃ Hi2,Ext Hi1 H1 Hi2 H2/\IsD K Hi2 x d
def tIv(X:Cx)(G:Gx)(f:Fv):TI:=fun σ H R=>∃ ρ Hi,jG X G Hi H σ ρ/\Out G Hi H (f ρ) fun ds Hi' H'=>∀ J,uQ X.K Hi' J ds->R J H'
@[irreducible] def PId (X:Cx) (G:Gx) (tg e:Expr) (f:Fv):Prop:=PI X tg e (tIv X G f)
unseal PId
theorem PI.wk{tg:Expr}{t t':TI}(h:PI X tg e t)(w:∀ σ H Q,t' σ H Q->t σ H Q):PI X tg e t':=fun pins s σ H Q I q=>h pins s σ H Q I (w σ H Q q)
theorem zIP{g:Gv}{J:It}{ds:List D}{Hi1 H1:Hp}{σ:St}{ρ:Rho}{E:Ends}(hge:∀ d ρ c,g d ρ≠.err c)(R1:jG X G Hi1 H1 σ ρ)(h1:Fin X G Hi1 E (loop g sa ds ρ))(gv:uQ X.K Hi1 J ds):zON (fun _ _ R=>R J H1) (tGv X G g) (tS X G sa) E σ H1:=by
 refine⟨fun i m σ' H'=>m=ds.length-i/\∃ ρ' Hi',Same Hi1 Hi'/\jG X G Hi' H' σ' ρ'/\Fin X G Hi' E (loop g sa (ds.drop i) ρ'),⟨_,rfl,ρ,Hi1,Same.refl _,R1,h1⟩,?_⟩
 rintro i m σ' H' ⟨rfl,ρ',Hi',s',R',h'⟩
 obtain⟨w1,w2⟩:=gv Hi' H' s' R'.s i;by_cases hl:i<ds.length
 ·obtain⟨d,hd⟩:∃ d,ds[i]?=some d:=⟨_,Qj hl⟩
  obtain⟨go,yl⟩:=w2 d hd
  have e3:ds.drop i=d::ds.drop (i+1):=by
   rw[Qj hl] at hd;cases hd;exact Ut hl
  rw[e3] at h';refine .inr ⟨go,fun σ2 H2=>∃ ρ2 Hi2,Same Hi1 Hi2/\jG X G Hi2 H2 σ2 ρ2/\Fin X G Hi2 E (loop g sa (ds.drop (i+1)) ρ2),fun σ2 H2 z=>⟨ds.length-(i+1),by omega,rfl,z⟩,fun x H2 y=>?_⟩
  obtain⟨Hi2,e2,r2⟩:=yl x H2 y;have R2:=R'.grow e2
  have h2:Fin X G Hi2 E ((g d ρ').bind fun ρ1=>(sa ρ1).bind fun f=>match f with
   | .nx ρ2=>loop g sa (ds.drop (i+1)) ρ2
   | .ctn ρ2=>loop g sa (ds.drop (i+1)) ρ2
   | .brk ρ2=>.ok (.nx ρ2)
   | .ret r=>.ok (.ret r)):=Fin.mono h' e2.i
  cases z:g d ρ' with
  | no=>rw[z] at h2;exact h2.elim
  | err c=>exact absurd z (hge _ _ _)
  | ok ρ1=>
   rw[z] at h2;refine⟨d,ρ',Hi2,r2,R2,ρ1,z,fun σ3 Hi3 H3 s3 R3=>⟨ρ1,Hi3,R3,?_⟩⟩
   have h3:=Fin.mono h2 s3;have sm:Same Hi1 Hi3:=(s'.trans e2.i).trans s3;simp only[Res.bind] at h3
   cases zb:sa ρ1 with
   | no=>rw[zb] at h3;exact h3.elim
   | err c=>rw[zb] at h3;exact h3
   | ok fl=>
    rw[zb] at h3
    cases fl with
    | nx ρ2=>exact fun σ4 Hi4 H4 s4 R4=>⟨ρ2,Hi4,sm.trans s4,R4,Fin.mono (show Fin X G Hi3 E (loop g sa (ds.drop (i+1)) ρ2) from h3) s4⟩
    | ctn ρ2=>exact fun σ4 Hi4 H4 s4 R4=>⟨ρ2,Hi4,sm.trans s4,R4,Fin.mono (show Fin X G Hi3 E (loop g sa (ds.drop (i+1)) ρ2) from h3) s4⟩
    | brk ρ2=>exact h3
    | ret r=>cases r<;>exact h3
 ·rw[Yo (by omega)] at h'
  exact .inl ⟨w1 (by omega),h' σ' Hi' H' (Same.refl _) R'⟩
theorem jJ{tg iter:Expr}{body:List Stmt}{it:Fv}{g:Gv}(hp:PassesOwn (model X.prog X.w) X.A X.env X.xe)(hc:X.calm=true)(hi:PId X G tg iter it)(hg:PGd X G tg g)(hge:∀ d ρ c,g d ρ≠.err c)(hb:dF X G body sa)
  (hs:∀ x,foldedSetIterable iter X.env x=pure x:=by intro _;rfl):PSd X G (.For tg iter body [] pos) (tX it g sa):=PS.wk (zIq hp hc hi hg hb hs) fun E σ H q=>by
 obtain⟨ρ,Hi,R,h⟩:=q;exact⟨ρ,Hi,R,kH R h fun ds Hi1 H1 _ e1 h1 J gv=>zIP hge (R.grow e1) h1 gv⟩
theorem zEp{c:Expr}{body:List Stmt}(hp:PassesOwn (model X.prog X.w) X.A X.env X.xe)(hc:PTd X G c t)(hb:dF X G body sa):PSd X G (.While c body [] pos) (eR t sa):=PS.wk (zHQ hp hc hb) fun E σ H q=>by
 obtain⟨ρ,Hi,R,h⟩:=q;have hn:eR t sa ρ≠.no:=fun z=>by rw[z] at h;exact h
 obtain⟨n,en⟩:=mZ hn;rw[en] at h;refine⟨fun m σ' H'=>∃ ρ' Hi',Same Hi Hi'/\jG X G Hi' H' σ' ρ'/\Fin X G Hi' E (wh t sa m ρ'),⟨n,ρ,Hi,Same.refl _,R,h⟩,?_⟩
 rintro m σ' H' ⟨ρ',Hi',s',R',h'⟩
 cases m with
 | zero=>exact h'.elim
 | succ m=>
  rw[wh] at h';refine⟨ρ',Hi',R',kH R' h' fun c Hi1 H1 _ e1 h1=>?_⟩
  have R1:=R'.grow e1
  cases c with
  | false=>exact h1 σ' Hi1 H1 (Same.refl _) R1
  | true=>
   refine⟨fun σ2 H2=>∃ ρ2 Hi2,Same Hi Hi2/\jG X G Hi2 H2 σ2 ρ2/\Fin X G Hi2 E (wh t sa m ρ2),fun σ2 H2 z=>⟨m,by omega,z⟩,ρ',Hi1,R1,?_⟩
   have sm:Same Hi Hi1:=s'.trans e1.i;simp only[if_true] at h1
   cases zb:sa ρ' with
   | no=>rw[zb] at h1;exact h1.elim
   | err c=>rw[zb] at h1;exact h1
   | ok fl=>
    rw[zb] at h1
    cases fl with
    | nx ρ2=>exact fun σ4 Hi4 H4 s4 R4=>⟨ρ2,Hi4,sm.trans s4,R4,Fin.mono (show Fin X G Hi1 E (wh t sa m ρ2) from h1) s4⟩
    | ctn ρ2=>exact fun σ4 Hi4 H4 s4 R4=>⟨ρ2,Hi4,sm.trans s4,R4,Fin.mono (show Fin X G Hi1 E (wh t sa m ρ2) from h1) s4⟩
    | brk ρ2=>exact h1
    | ret r=>cases r<;>exact h1
theorem zFB{K:Fg_}{Hi:Hp}{a:Addr}{xs:List V}{ds:List D}(h:SqT K Hi a xs)(hs:IsDs K Hi xs ds):uQ K Hi (Itt K a) ds:=fun Hi1 H1 s1 s2 i=>by
 have h1:=bN (s1.trans s2) h;refine⟨fun hl=>⟨xs,h1,by rw[hs.length];exact hl⟩,fun d hd=>?_⟩
 obtain⟨v,hv,r⟩:=hs.at hd;refine⟨⟨xs,v,h1,hv⟩,fun x H2 y=>?_⟩
 obtain⟨e,y⟩:=y;subst e;have:=y xs h1
 rw[hv] at this;cases this;exact⟨Hi1,Ext.refl s2,r.mono s1⟩
theorem zJa{lo c:Int}{n i:Nat}{d:D}(h:(rng lo n c)[i]?=some d):i<n/\d=.int (lo+(i:Int)*c):=by
 unfold rng at h;rw[Qq] at h;by_cases hl:i<n
 ·rw[Xl hl] at h;cases h;exact⟨hl,rfl⟩
 ·rw[Qv (by rw[Q7];omega)] at h;cases h
theorem zIZ(lo c:Int)(n:Nat):(rng lo n c).length=n:=by unfold rng;rw[Qh,Q7]
theorem zAc{K:Fg_}{Hi:Hp}(lo:Int)(n:Nat):uQ K Hi (Itr lo n) (rng lo n 1):=fun Hi1 H1 s1 s2 i=>by
 refine⟨fun hl=>by rw[zIZ] at hl;exact hl,fun d hd=>?_⟩
 obtain⟨h1,rfl⟩:=zJa hd;refine⟨h1,fun x H2 y=>?_⟩
 obtain⟨e,y⟩:=y;subst e y;rw[Vq];exact⟨Hi1,Ext.refl s2,.int _⟩
theorem zCz{tg:Expr}(hg:Gl X "range")(hm:X.mg "range" = none)(ha:PAd X G [a] fs)(hs:starEach [a] X.env=[(false,eval a X.env)]:=by rfl):PId X G tg (.Call (.Name "range" p) [a] [] pos) (zJ fs):=PI.wk (zFR hg hm ha hs) fun σ H Q q=>by
 obtain⟨ρ,Hi,R,ou⟩:=q;refine zGN R ou fun vs ds Hi1 H1 e1 R1 r1 o1=>?_
 split at o1
 ·rename_i j
  obtain⟨v,rfl,h⟩:=r1.one;by_cases hz:-(2^62)<=j/\j<2^62
  ·rw[if_pos hz] at o1
   exact⟨j,by rw[h.intI],hz.1,hz.2,o1.here R1.s _ (zAc 0 j.toNat)⟩
  ·rw[if_neg hz] at o1;exact o1.elim
 ·exact o1.elim
theorem zLA{tg:Expr}(hg:Gl X "range")(hm:X.mg "range" = none)(ha:PAd X G [a,b] fs)(hs:starEach [a,b] X.env=[(false,eval a X.env),(false,eval b X.env)]:=by rfl)(hs2:starEach [b] X.env=[(false,eval b X.env)]:=by rfl):PId X G tg (.Call (.Name "range" p) [a,b] [] pos) (zEl fs):=PI.wk (zEw hg hm ha hs hs2) fun σ H Q q=>by
 obtain⟨ρ,Hi,R,ou⟩:=q;refine zGN R ou fun vs ds Hi1 H1 e1 R1 r1 o1=>?_
 split at o1
 ·rename_i i j
  obtain⟨v,w,rfl,h,h'⟩:=r1.two;by_cases hz:-(2^62)<=i/\i<2^62/\-(2^62)<=j/\j<2^62
  ·rw[if_pos hz] at o1
   exact⟨i,j,by rw[h.intI,h'.intI],hz,o1.here R1.s _ (zAc i (j-i).toNat)⟩
  ·rw[if_neg hz] at o1;exact o1.elim
 ·exact o1.elim
end
end L3
namespace L3
open PySem PySem.Spec PyProof.Rows L2
unseal PEd PEf PTd PWd PAd PSd dF POd PGd fT PId
structure Fn (K:PySem.W.Frag) (mg:Str->Option Value) (x:Str) (st:Stmt) (ps:List Str) (f:Addr) (fd:FuncData):Prop where
 fn:Fun K x x st f fd
 bd:zE K fd ps []
 kp:PySem.W.keepIn K (.ref f)=true
 mg:mg x=some (.ref f)
def XE(X:Cx)(G:Gx):XK:=fun cls _ H=>∃ c,X.mg c=some cls/\G.E c H
def nN(K:PySem.W.Frag)(mg:Str->Option Value)(P:Addr):Prop:=∃ f oc od fd osl c,mg "ranked" = some (.ref f)/\K.lookup f=some ⟨oc,od,.func fd,osl⟩/\fd.code=.ref c/\∀ h,K.In h->PySem.W.CodeHd h c P
def TB(K:PySem.W.Frag)(mg:Str->Option Value)(Hi H:Hp):Prop:=∀ P,nN K mg P->zAJ P H/\Hi P=none
theorem TB.ext{K:Fg_}{mg:Str->Option Value}{Hi H Hi' H':Hp}(t:TB K mg Hi H)(e:Ext Hi H Hi' H'):TB K mg Hi' H':=fun P h=>⟨e.h.t P (t P h).1,by
 cases z:Hi' P with
 | none=>rfl
 | some o=>
  obtain⟨⟨ps,q,_⟩,n⟩:=t P h;have:=e.n P n (by rw[z];exact fun w=>by cases w)
  rw[q] at this;cases this⟩
structure Good (X:Cx) (G:Gx) (k:Nat):Prop where
 calm:X.calm=true
 room:Room k X.A
 pass:zCJ (CX1 X.prog X.w) X (XE X G)
 own:PassesOwn (model X.prog X.w) X.A X.env X.xe
 tb:TB X.K X.mg G.Bi G.B
def zDo(X:Cx)(G:Gx):Prop:=∀(pins:List (Addr×Obj))(σ:St)(H:Hp)(s s':Shared)(ea:Addr)(cls:Value)(vs:List Value),Inv X pins σ H s->Heap.MadeExcOf s.heap s'.heap ea cls vs->s'.os=s.os->AllBare s'.gens->XE X G cls none H->X.xe (.ref ea) s'
def spM(K:PySem.W.Frag)(mg:Str->Option Value)(p:Nat)(m:Mir):Sp:=fun vs H Q E=>vs.length=p/\∃ Bi ds,TB K mg Bi H/\Same Bi H/\IsDs K Bi vs ds/\match m ds with
 | .ok (.v d)=>∀ v Hi' H',Ext Bi H Hi' H'->IsD K Hi' v d->Q v H'
 | .ok (.f es)=>∀ a Hi' H',Ext Bi H Hi' H'->zHY K H Hi' H' a es->Q (.ref a) H'
 | .err c=>∀ C,mg c=some C->∀ Hi' H',Ext Bi H Hi' H'->E C none H'
 | .no=>False
structure CanM (P:Program) (w:World) (K:PySem.W.Frag) (mg:Str->Option Value) (base:Heap) (k:Nat) (x:Str) (ps:List Str) (m:Mir):Prop where
 ex:∃ f fd,FnOk P w K mg base (CX1 P w) k f fd ps (spM K mg ps.length m)/\zE K fd ps []/\PySem.W.keepIn K (.ref f)=true/\mg x=some (.ref f)
 ln:∀ ds,m ds≠.no->ds.length=ps.length
theorem Good.u{X:Cx}{G:Gx}{k:Nat}(W:Good X G k):X.A.units+64<cLine:=W.room.units
theorem CanM.mono{P:Program}{w:World}{K:Fg_}{mg:Str->Option Value}{base:Heap}{j k:Nat}{x:Str}{ps:List Str}{m:Mir}(c:CanM P w K mg base j x ps m)(h:j<=k):CanM P w K mg base k x ps m:=by
 obtain⟨⟨f,fd,F,r⟩,l⟩:=c;exact⟨⟨f,fd,F.mono h,r⟩,l⟩
section
variable{X:Cx}{G:Gx}{a b e:Expr}{es:List Expr}{pos p:Pos}{f g:Ev}{fs gs:Fv}{t u:Tv}{x:Str}{st:Stmt}{rest:List Stmt}{sa sb:Sv}{k:Nat}{ps:List Str}{m:Mir}
theorem zLx{ps:List Str}(tb:TB X.K X.mg G.Bi G.B)(ln:∀ ds,m ds≠.no->ds.length=ps.length):∀ σ H Q,tD X G (aM m fs) σ H Q->zJw (spM X.K X.mg ps.length m) [] (XE X G) (tAs X G fs) σ H Q:=fun σ H Q q=>by
 obtain⟨ρ,Hi,R,ou⟩:=q;refine zGN R ou fun vs ds Hi1 H1 e1 R1 r1 o1=>?_
 rw[Vr];have hm:m ds≠.no:=fun z=>by rw[z] at o1;exact o1
 refine⟨by rw[r1.length];exact ln ds hm,Hi1,ds,tb.ext R1.ext,R1.s,r1,?_⟩
 cases z:m ds with
 | no=>exact absurd z hm
 | err c=>rw[z] at o1;exact fun C hC Hi2 H2 e2=>⟨c,hC,o1 Hi2 H2 e2⟩
 | ok r=>
  rw[z] at o1
  cases r with
  | v d=>exact fun v Hi2 H2 e2 r2=>o1 Hi2 H2 e2 v r2
  | f ds=>
   intro a Hi2 H2 e2 n;obtain⟨n1,n2,xs,n3,n4⟩:=n;exact o1 _ _ (e2.hold n1 n3 n2) (.ref a) (.lst (SqL.of aQ) (n4.mono (bU n2 _)))
theorem aF(W:Good X G k)(c:CanM X.prog X.w X.K X.mg X.base k x ps m)(hg:Gl X x)(ha:PAd X G (e::es) fs)
  (hdb:(x==("__debug__" : Str))=false:=by decide) (he:starEach (e::es) X.env=(false,eval e X.env)::starEach es X.env:=by rfl) (hpl:(backTo pos (starEach es X.env)).any (·.1)=false:=by rfl):
  PEd X G (.Call (.Name x p) (e::es) [] pos) (aM m fs):=by
 obtain⟨⟨f,fd,F,b,kp,hm⟩,ln⟩:=c;exact PE.wk (zBH F W.room hg hm kp b .nil W.pass ha hdb he hpl) (zLx W.tb ln)
theorem zIU{ps:List Str}(tb:TB X.K X.mg G.Bi G.B)(ln:∀ ds,m ds≠.no->ds.length=ps.length):∀ σ H Q,tF X G (eP m fs) σ H Q->zJw (spM X.K X.mg ps.length m) [] (XE X G) (tAs X G fs) σ H Q:=fun σ H Q q=>by
 obtain⟨ρ,Hi,R,ou⟩:=q;refine zGN R ou fun vs ds Hi1 H1 e1 R1 r1 o1=>?_
 rw[Vr];have hm:m ds≠.no:=fun z=>by rw[z] at o1;exact o1
 refine⟨by rw[r1.length];exact ln ds hm,Hi1,ds,tb.ext R1.ext,R1.s,r1,?_⟩
 cases z:m ds with
 | no=>exact absurd z hm
 | err c=>rw[z] at o1;exact fun C hC Hi2 H2 e2=>⟨c,hC,o1 Hi2 H2 e2⟩
 | ok r=>
  rw[z] at o1
  cases r with
  | v d=>exact o1.elim
  | f ds=>exact fun a Hi2 H2 e2 n=>o1 Hi2 H2 e2 a ⟨e1.h.none n.1,n.2⟩
theorem bT(W:Good X G k)(c:CanM X.prog X.w X.K X.mg X.base k x ps m)(hg:Gl X x)(ha:PAd X G (e::es) fs)
  (hdb:(x==("__debug__" : Str))=false:=by decide) (he:starEach (e::es) X.env=(false,eval e X.env)::starEach es X.env:=by rfl) (hpl:(backTo pos (starEach es X.env)).any (·.1)=false:=by rfl):
  PEf X G (.Call (.Name x p) (e::es) [] pos) (eP m fs):=by
 obtain⟨⟨f,fd,F,b,kp,hm⟩,ln⟩:=c;exact PE.wk (zBH F W.room hg hm kp b .nil W.pass ha hdb he hpl) (zIU W.tb ln)
theorem fH{d:D}(hg:Gl X x)(h:∃ v u',X.mg x=some u'/\cO v u'/\IsD X.K (fun _=>none) v d)(hdb:(x==("__debug__" : Str))=false:=by decide):PEd X G (.Name x pos) (eC d):=by
 obtain⟨v,u',hm,r,hd⟩:=h;exact sP (zGp hg hm r hdb) fun H=>hd.mono fun b o z=>by cases z
end
abbrev BX(P:Program)(w:World)(K:PySem.W.Frag)(mg:Str->Option Value)(base:Heap)(N:List Str)(x:Str)(st:Stmt)(f:Addr)(cdv:Value)(A:Around)(outer:List Env)(s:Shared)(H:Hp)(E:XK):Cx:=
 zDs (CX1 P w) P w K mg base N x (aE st) f cdv A outer s H E
theorem zAq{K:Fg_}{mg:Str->Option Value}{Bi H:Hp}{N:List Str}{vs:List V}{ds:List D}(s:Same Bi H)(h:IsDs K Bi vs ds):Rel K mg H Bi Bi H (L2.start N vs) (L3.start N.length ds) where
 len:=by
  unfold L2.start L3.start;rw[Qm,Qm,Qh,Qh,Xu,Xu,h.length]
 ext:=Ext.refl s
 slot:=fun i sl e=>by
  unfold L3.start at e;by_cases hi:i<ds.length
  ·rw[Vj (by rw[Qh];exact hi),Qq] at e
   obtain⟨d,hd⟩:∃ d,ds[i]?=some d:=⟨_,Qj hi⟩;rw[hd] at e;cases e
   obtain⟨v,hv,r⟩:=h.at hd;refine⟨v,?_,r⟩
   unfold L2.start;rw[Vj (by rw[Qh,h.length];exact hi),Qq,hv];rfl
  ·rw[Vs (by rw[Qh];omega),Ue] at e
   split at e
   ·cases e;trivial
   ·cases e
 dist:=fun i j a es fs e _ _ _=>by
  exfalso
  unfold L3.start at e;by_cases hi:i<ds.length
  ·rw[Vj (by rw[Qh];exact hi),Qq] at e
   cases z:ds[i]? with
   | none=>rw[z] at e;cases e
   | some d=>rw[z] at e;cases e
  ·rw[Vs (by rw[Qh];omega),Ue] at e
   split at e<;>cases e
section
variable{P:Program}{w:World}{K:Fg_}{mg:Str->Option Value}{base:Heap}{N ps:List Str}{x:Str}{st:Stmt}{f:Addr}{fd:FuncData}{k:Nat}{b:Sv}
theorem zFf{cdv:Value}{A:Around}{outer:List Env}{s:Shared}{H Bi:Hp}{E:XK}(hr:Room k (A.deeper (envOfC x (aE st) s.heap.objs.size f cdv)))(tb:TB K mg Bi H):
  Good (BX P w K mg base N x st f cdv A outer s H E) ⟨H,Bi,fun c H'=>∀ C,mg c=some C->E C none H'⟩ k where
 calm:=rfl
 room:=hr
 pass:=zNN fun c H' q=>by
  obtain⟨c',h1,h2⟩:=q;exact h2 c h1
 own:=PassesOwn.leaving
 tb:=tb
theorem zCF{cdv:Value}{A:Around}{outer:List Env}{s:Shared}{H Bi:Hp}{E:XK}:
  zDo (BX P w K mg base N x st f cdv A outer s H E) ⟨H,Bi,fun c H'=>∀ C,mg c=some C->E C none H'⟩:=fun pins σ H1 s1 s' ea cls vs I hx hos hg q=>by
 obtain⟨c',h1,h2⟩:=q;exact zBv I hx hos hg (h2 cls h1)
theorem zLE(F:Fn K mg x st ps f fd)(S:FnScope N ps (aE st))
  (h:∀(cdv:Value)(A:Around)(outer:List Env)(s:Shared)(H:Hp)(E:XK)(G:Gx),Good (BX P w K mg base N x st f cdv A outer s H E) G k->zDo (BX P w K mg base N x st f cdv A outer s H E) G->dF (BX P w K mg base N x st f cdv A outer s H E) G (eA st) b):
  FnOk P w K mg base (CX1 P w) (k+1) f fd ps (spM K mg ps.length (fn ps.length N.length b)):=by
 obtain⟨oc,od,kV,doc,pm,an,cdv,ct,osl,rfl,lk,hcd⟩:=F.fn.ex;refine zMc lk hcd S (fun vs H Q E h=>h.1) fun A outer s H vs Q E hr hsp=>?_
 obtain⟨hl,Bi,ds,tb,sm,hd,hq⟩:=hsp;have hg:=zFf (P:=P) (w:=w) (K:=K) (mg:=mg) (base:=base) (N:=N) (outer:=outer) (H:=H) (Bi:=Bi) (E:=E) hr tb;refine⟨_,h cdv A outer s H E _ hg zCF,L3.start N.length ds,Bi,zAq sm hd,?_⟩
 have hlen:ds.length=ps.length:=by rw[<-hd.length];exact hl
 unfold fn at hq;rw[if_pos hlen] at hq
 cases z:b (L3.start N.length ds) with
 | no=>rw[z] at hq;exact hq
 | err c=>rw[z] at hq;exact fun Hi' H' e C hC=>hq C hC Hi' H' e
 | ok fl=>
  rw[z] at hq
  cases fl with
  | nx ρ'=>exact fun σ' Hi' H' s R=>hq .non Hi' H' R.ext .non
  | brk ρ'=>exact hq.elim
  | ctn ρ'=>exact hq.elim
  | ret r=>
   cases r with
   | v d=>exact hq
   | f es=>exact hq
theorem nF(F:Fn K mg x st ps f fd)(S:FnScope N ps (aE st))
  (h:∀(cdv:Value)(A:Around)(outer:List Env)(s:Shared)(H:Hp)(E:XK)(G:Gx),Good (BX P w K mg base N x st f cdv A outer s H E) G k->zDo (BX P w K mg base N x st f cdv A outer s H E) G->dF (BX P w K mg base N x st f cdv A outer s H E) G (eA st) b):
  CanM P w K mg base (k+1) x ps (fn ps.length N.length b):=by
 refine⟨⟨f,fd,zLE F S h,F.bd,F.kp,F.mg⟩,fun ds hm=>?_⟩
 unfold fn at hm;split at hm
 ·assumption
 ·exact absurd rfl hm
end
section
variable{X:Cx}{G:Gx}{a b e:Expr}{es:List Expr}{pos p:Pos}{f g:Ev}{fs gs:Fv}{t u:Tv}{x:Str}{st:Stmt}{rest:List Stmt}{sa sb:Sv}{k:Nat}
theorem xZ{c:Expr}(ha:PEd X G a f)(hc:PE X c (tC .non))(hm:behindInMarks .IsNot c=false):PTd X G (.Compare a [.IsNot] [c] pos) (dR (zDk f)):=PT.wk (zBz zJe ha hc hm) fun σ H Q q=>by
 obtain⟨ρ,Hi,R,ou⟩:=q;unfold dR zDk at ou
 cases z:f ρ with
 | no=>rw[z] at ou;exact ou.elim
 | err c=>rw[z] at ou;exact⟨ρ,Hi,R,by rw[z];exact ou⟩
 | ok d=>
  rw[z] at ou;refine⟨ρ,Hi,R,?_⟩
  rw[z];intro Hi1 H1 e1 v r;exact⟨rfl,_,rfl,by rw[zJH r];exact ou Hi1 H1 e1⟩
theorem PTd.frz(h:PTd X G e t):PTd X G e (tFrzB t):=PT.wk h fun σ H Q q=>by
 obtain⟨ρ,Hi,R,ou⟩:=q;obtain⟨Hf,s1,R1,fl⟩:=R.frz;refine⟨ρ.map Sl.frz,Hf,R1,?_⟩
 unfold tFrzB at ou
 cases z:t (ρ.map Sl.frz) with
 | no=>rw[z] at ou;exact ou
 | err c=>
  rw[z] at ou;intro Hi1 H1 e1;obtain⟨Ht,e2,k,s2,n⟩:=Ext.thaw s1 fl R1.s e1;exact ou Ht H1 e2
 | ok c=>
  rw[z] at ou;intro Hi1 H1 e1;obtain⟨Ht,e2,k,s2,n⟩:=Ext.thaw s1 fl R1.s e1;exact ou Ht H1 e2
def iSq(K:PySem.W.Frag)(tl:TE):TI:=fun σ H R=>tl σ H fun x H1=>∃ a,x=.ref a/\(((∃ xs,SqL K H1 a xs)/\R (Itl K a) H1)∨((∃ xs,SqT K H1 a xs)/\R (Itt K a) H1))
theorem zLG{tg l:Expr}{tl:TE}(hl:PE X l tl):PI X tg l (iSq X.K tl):=by
 intro pins s σ H R I h;refine thn (hl pins s σ H _ I h) fun v s1 ⟨x,H1,I1,r1,q1⟩=>?_
 obtain⟨a,e,q1⟩:=q1;subst e;cases r1;rcases q1 with⟨⟨xs,hq⟩,q⟩ | ⟨⟨xs,hq⟩,q⟩
 ·obtain⟨its,rv,p,hz⟩:=I1.list hq
  refine wpAny_pyIter_list p.isList ?_
  refine⟨s1.heap.objs.size,[s1.heap.objs.size],_,_,H1,rfl,I1.kept (t':=s1.toks) fun b o e=>Heap.get?_push_of_some _ e,zAw a _,⟨_,Heap.get?_push_size _ rfl,rfl,rfl⟩,fun b hb=>?_,q⟩
  have e:b=s1.heap.objs.size:=by simpa using hb
  subst e;exact I1.fpOk (Qb _) (I1.hok.fresh (Qb _))
 ·obtain⟨its,rv,p,hz⟩:=I1.tuple hq
  refine wpAny_pyIter_tuple (show s1.heap.IsTuple a its.toArray from p) ?_
  refine⟨s1.heap.objs.size,[s1.heap.objs.size],_,_,H1,rfl,I1.kept (t':=s1.toks) fun b o e=>Heap.get?_push_of_some _ e,zDp a _,⟨_,Heap.get?_push_size _ rfl,rfl,rfl⟩,fun b hb=>?_,q⟩
  have e:b=s1.heap.objs.size:=by simpa using hb
  subst e;exact I1.fpOk (Qb _) (I1.hok.fresh (Qb _))
theorem zU{K:Fg_}{Hi:Hp}{a:Addr}{xs:List V}{ds:List D}(h1:SqL K Hi a xs)(h2:IsDs K Hi xs ds):uQ K Hi (Itl K a) ds:=fun Hi1 H1 s1 s2 i=>by
 have h3:=cC (s1.trans s2) h1;refine⟨fun hl=>⟨xs,h3,by rw[h2.length];exact hl⟩,fun d hd=>?_⟩
 obtain⟨v,hv,r⟩:=h2.at hd;refine⟨⟨xs,v,h3,hv⟩,fun x H2 y=>?_⟩
 obtain⟨e,y⟩:=y;subst e;have:=y xs h3
 rw[hv] at this;cases this;exact⟨Hi1,Ext.refl s2,r.mono s1⟩
theorem mD{tg:Expr}(h:PEd X G e f):PId X G tg e (xK f):=PI.wk (zLG h) fun σ H Q q=>by
 obtain⟨ρ,Hi,R,ou⟩:=q;refine zBD R ou fun v d Hi1 H1 e1 R1 r1 o1=>?_
 cases d with
 | lst ds=>
  obtain⟨a,xs,rfl,h1,h2⟩:=r1.lstI;exact⟨a,rfl,.inl ⟨⟨xs,cC R1.s h1⟩,o1.here R1.s _ (zU h1 h2)⟩⟩
 | tup ds=>
  obtain⟨a,xs,rfl,h1,h2⟩:=r1.tupI;exact⟨a,rfl,.inr ⟨⟨xs,bN R1.s h1⟩,o1.here R1.s _ (zFB h1 h2)⟩⟩
 | _=>exact o1.elim
theorem bK{i:Nat}:∀ d ρ c,gName i d ρ≠.err c:=fun d ρ c z=>by cases z
theorem zBd:∀ d ρ c,zBm d ρ≠.err c:=fun d ρ c z=>by cases d<;>cases z
theorem lS{g:Gv}{r:List D->Rho->Res Rho}(h1:∀ d ρ c,g d ρ≠.err c)(h2:∀ d ρ c,r d ρ≠.err c):∀ d ρ c,gB g r d ρ≠.err c:=fun d ρ c z=>by
 cases d with
 | nil=>cases z
 | cons d ds=>
  have z':(g d ρ).bind (fun ρ'=>r ds ρ')=.err c:=z
  cases q:g d ρ with
  | no=>rw[q] at z';cases z'
  | err c'=>exact h1 _ _ _ q
  | ok ρ'=>rw[q] at z';exact h2 _ _ _ z'
theorem zBG{r:List D->Rho->Res Rho}(h:∀ d ρ c,r d ρ≠.err c):∀ d ρ c,zBb r d ρ≠.err c:=fun d ρ c z=>by
 cases d<;>first | cases z | exact h _ _ _ z
theorem zFV:∀(ds:List D)(ρ ρ':Rho),zBm ds ρ=.ok ρ'->ds.length=0:=fun ds ρ ρ' z=>by
 cases ds with
 | nil=>rfl
 | cons d ds=>cases z
theorem oU{g:Gv}{r:List D->Rho->Res Rho}{n:Nat}(h:∀ (ds:List D) (ρ ρ':Rho),r ds ρ=.ok ρ'->ds.length=n):∀(ds:List D)(ρ ρ':Rho),gB g r ds ρ=.ok ρ'->ds.length=n+1:=fun ds ρ ρ' z=>by
 cases ds with
 | nil=>cases z
 | cons d ds=>
  have z':(g d ρ).bind (fun ρ'=>r ds ρ')=.ok ρ':=z
  cases q:g d ρ with
  | no=>rw[q] at z';cases z'
  | err c'=>rw[q] at z';cases z'
  | ok ρ1=>rw[q] at z';rw[Qk,h ds ρ1 ρ' z']
theorem zKD:∀ a b d,zAa a b=.ok d->∃ i j,a=.int i/\b=.int j/\d=.int (i-j):=fun a b d z=>by
 unfold zAa at z;split at z
 ·cases z;exact⟨_,_,rfl,rfl,rfl⟩
 ·cases z
theorem zGY:∀ a b c,zAa a b≠.err c:=fun a b c z=>by unfold zAa at z;split at z<;>cases z
end
theorem zY{K:Fg_}{H:Hp}:∀ ns:List Int,IsDs K H (ns.map V.int) (ns.map D.int)
 | []=>.nil
 | n::ns=>.cons (.int n) (zY ns)
section
variable{X:Cx}{G:Gx}{e:Expr}{es:List Expr}{pos np cpos:Pos}{fs:Fv}{k:Nat}{c:Str}
theorem iQ(W:Good X G k)(WR:zDo X G)(hR:∃ C,Err X.K X.mg c C)(hg:Gl X c)(ha:PAd X G (e::es) fs)
  (he:starEach (e::es) X.env=(false,eval e X.env)::starEach es X.env:=by rfl) (hplain:(backTo cpos (starEach es X.env)).any (·.1)=false:=by rfl) (hd:(c==("__debug__" : Str))=false:=by decide):
  PSd X G (.Raise (some (.Call (.Name c np) (e::es) [] cpos)) none pos) (jX c fs):=by
 intro pins s σ H E I q;obtain⟨ρ,Hi,R,h⟩:=q;obtain⟨C,Er⟩:=hR;obtain⟨bmB,newId,B,initId,O,FB⟩:=Er.own X.base I.mod.kin;obtain⟨tl,N,nm,q,bs,hdct,sn,sub,ab,col,dd,k0,k1,k2,k3,k5,mN,hC,hN,hni,T⟩:=O.obj
 have hA:=ha cpos pins s σ H (fun vs H1=>vs.length<=sizeLine/\XE X G (.ref C) none H1) I ⟨ρ,Hi,R,kH R h fun ds Hi' H' _ e1 h' vs r=>by
  have h':Fin X G Hi' E (if ds.length<=16777216 then (.err c:Res Fl) else .no):=h';by_cases hz:ds.length<=16777216
  ·rw[if_pos hz] at h'
   exact⟨by rw[r.length];exact hz,c,O.bound,h' Hi' H' (R.ext.trans e1)⟩
  ·rw[if_neg hz] at h';exact h'.elim⟩
 refine wpAny_Raise_call_subT (C:=C) (nm:=nm) (q:=q) (N:=N) (bs:=bs) (bm:=tl) (hdct:=hdct) (sn:=sn) (sub:=sub) (ab:=ab) (col:=col) (dd:=dd) (k0:=k0) (k1:=k1) (k2:=k2) (k3:=k3) (k5:=k5)
  FB (mN:=mN) (T.hasType FB.hasBase) (I.ok.hd W.calm) (by rw[he];show(false || (backTo cpos (starEach es X.env)).any (·.1))=false;rw[hplain];rfl) hni (tG I hg O.bound ⟨rfl,?_⟩ hd)
 rw[he] at hA ⊢
 refine Calls.evalArgs_plain (wpAny_mono hA (fun us s₂ h₂=>?_) fun _ _ y=>y)
 obtain⟨vs,H2,I2,rv,hz,hx⟩:=h₂;exact⟨rfl,by show us.length<=sizeLine;rw[<-rv.length];exact hz,I2.bk _ _ hC,hN.keeps I2.bk,T.keeps I2.bk,fun h' ea hm=>WR pins σ H2 s₂ { s₂ with heap:=h' } ea (.ref C) us I2 hm rfl I2.bare hx⟩
end
end L3
namespace L3
open PySem PySem.Spec PyProof.Rows L2 PySem.W Builtin Builtin.ObjectAttr Builtin.Getset_descriptor
unseal PEd PEf PTd PWd PAd PSd dF POd PGd fT PId
section
variable{prog:Program}{w:World}{A:Around}{E:Value->Shared->Prop}{s:Shared}{K:Frag}{x D:Addr}{ox:Obj}
def zNF(x D:Addr)(h:Heap):Prop:=∃ o,h.get? x=some o/\o.cls=.ref D
theorem zNF.looks{h:Heap}(I:zNF x D h){M:Model}:Looks M h (typeOf (.ref x)) (.ref D):=by
 obtain⟨o,h1,h2⟩:=I;exact h2 ▸ (Looks.ld h1).andThen .now
structure ExK (K:Frag) (D:Addr):Prop where
 hc:(clsIn K D).isSome=true
 ga:findIn K (.ref D) "__getattribute__" = some (some (.builtin "BaseException.__getattribute__"))
 no:findIn K (.ref D) "__getattr__" = some none
 ha:findIn K (.ref D) "__class__" = some (some (.builtin "object.__class__"))
 hn:specialIn K (.builtin "object.__class__") "__get__" = some (some (.builtin "getset_descriptor.__get__"))
 tk:takesIn K (.builtin "object.__class__")=some true
 mo:mroIn K D (.type "object")=some true
 mb:mroIn K D (.type "BaseException")=some true
end
section
variable{prog:Program}{w:World}{A:Around}{E:Value->Shared->Prop}{s:Shared}{K:Frag}{x C CE:Addr}{ox:Obj}
structure CaK (K:Frag) (CE:Addr):Prop where
 ty:typeIn K (.ref CE)=some (.type "type")
 cl:(clsIn K CE).isSome=true
 mb:mroIn K CE (.type "BaseException")=some true
theorem zGJ(T:CaK K CE)(hm:mroIn K C (.ref CE)=some true){Q:Bool->Shared->Prop}(X:K.In s.heap)(I:zNF x C s.heap)(h:Q true s):wpAny (model prog w) A (excMatches (.ref x) (.ref CE)) Q E s:=by
 obtain⟨hh,g,d,t,os⟩:=s;have L0:=I.looks (M:=model prog w);have L1:=looks_typeIn (M:=model prog w) X T.ty;have L2:=looks_mroIn (M:=model prog w) X T.mb;have L3:=looks_mroIn (M:=model prog w) X hm
 have Lt:Looks (model prog w) hh (isType (.ref CE)) true:=by
  obtain⟨cd,hcD⟩:=Wf.mp T.cl;unfold clsIn at hcD;split at hcD
  ·rename_i c' d' cd' sl' ho
   intro A' Q' E' s' k q;unfold isType loadHead;exact wpAny_bind (wpAny_loadPart (k _ _ (X _ _ ho)) (wpAny_pure q))
  ·cases hcD
 unfold excMatches isInstance isExcClass;refine wpAny_bind (wpAny_bind ?_)
 refine L1.at ?_
 refine wpAny_of_eq tc_notTuple ?_
 show wpAny _ _ (forIn [Value.ref CE] PUnit.unit _ >>= _) _ _ _
 rw[Y2];refine wpAny_bind (wpAny_bind (wpAny_bind (wpAny_bind ?_)))
 refine Lt.at ?_
 show wpAny _ _ (isSubtype (.ref CE) (.type "BaseException")) _ _ _
 refine L2.at ?_
 refine wpAny_pure ?_
 show wpAny _ _ (forIn ([]:List Value) PUnit.unit _) _ _ _
 rw[List.forIn_nil];refine wpAny_pure ?_
 refine wpAny_bind ?_
 refine L0.at ?_
 refine wpAny_bind ?_
 rw[Y2];refine wpAny_bind (wpAny_bind ?_)
 refine L3.at ?_
 repeat (first | exact h | wp_step)
end
section
variable{X:Cx}{pins:List (Addr×Obj)}{σ:St}{H H':Hp}{s s':Shared}{ea:Addr}{cls:Value}
theorem Fly.stay(I:Inv X pins σ H s)(F:Fly X.prog X.w X.stack H H' s ea cls s'){h' B:Heap}{a0:Value}
  (hf:Heap.FlyingW B X.stack ea cls a0 s'.heap) (cov:∀ b o,s'.heap.get? b=some o->((∃ o',s.heap.get? b=some o')∨H' b≠none)->b∉frs X.stack->B.get? b=some o)
  (hf':Heap.FlyingW B X.stack ea cls a0 h') (up:s'.heap.UpToSlots h') {t':Nat}:Inv X pins σ H' { s' with heap:=h',toks:=t' }:=by
 have trk:∀ {b:Addr},H' b≠none->b∉frs X.stack:=fun {b} hb hm=>by
  have h1:=I.stkFree b hm;obtain⟨_,o,ho,_⟩:=I.stack.mem hm;exact hb (F.un.free b o ho h1 (by simp))
 have keepB:∀ {b:Addr} {o:Obj},s'.heap.get? b=some o->((∃ o',s.heap.get? b=some o')∨H' b≠none)->b∉frs X.stack->h'.get? b=some o:=fun e1 e2 e3=>hf'.1 _ _ (cov _ _ e1 e2 e3)
 have slotOf:∀ {b:Addr} {o:Obj},b∈frs X.stack->s'.heap.get? b=some o->∃ sl,h'.get? b=some { o with slots:=sl }:=fun {b o} hm e=>by
  obtain⟨_,o',ho',hn⟩:=hf.2.2.1.mem hm;rw[e] at ho';cases ho'
  exact up b o e hn
 refine I.call' (s':={ s' with heap:=h',toks:=t' }) (ch:=[]) F.os ⟨?_,?_,F.un.free,?_,F.un.tups,F.un.frzs,F.un.tbls⟩ ?_ F.bare (fun b z=>absurd z (by simp))
 ·intro b o e n hb hx
  exact keepB (F.un.keep b o e n hb hx) (.inl ⟨o,e⟩) hb
 ·intro b o e n hb hx
  obtain⟨sl,e1⟩:=F.un.slot b o e n hb hx;obtain⟨sl2,e2⟩:=slotOf hb e1;exact⟨sl2,e2⟩
 ·intro b o e hx
  obtain⟨o1,e1⟩:=F.un.there b o e hx;by_cases hs:b∈frs X.stack
  ·obtain⟨sl,e3⟩:=slotOf hs e1
   exact⟨_,e3⟩
  ·exact⟨o1,keepB e1 (.inl ⟨o,e⟩) hs⟩
 ·intro a o e
  refine(F.hok a o e).stay (fun b u hb z=>?_) (fun b z=>z) (fun b xs z=>z)
  have hb':H' b≠none:=by
   rcases hb with rfl | hb
   ·rw[e];simp
   ·rw[hb];simp
  exact keepB z (.inr hb') (trk hb')
theorem _root_.L2.Inv.track(I:Inv X pins σ H s){a:Addr}{o:HO}(hn:H a=none)(h0:X.s₀.heap.get? a=none)(hl:a≠X.env.locals)(hc:∀ x c,X.env.cells.lookup x=some c->c≠a)(hp:∀ p∈X.pn++pins,p.1≠a)
  (ho:kE X.prog X.w (upd H a o) s.heap a o):Inv X pins σ (upd H a o) s where
 ok:=I.ok
 os:=I.os
 bare:=I.bare
 base:=⟨I.base.keep,I.base.slot,fun b ob e n hx=>by
   have:b≠a:=fun z=>by rw[z,h0] at e;cases e
   rw[aT this];exact I.base.free b ob e n hx,I.base.there,fun b xs e=>by
   have z:=I.base.tups b xs e
   rw[aT (aV z hn)];exact z,fun b ob u e=>by
   have z:=I.base.frzs b ob u e
   rw[aT (aV z hn)];exact z,fun b ps e=>by
   obtain⟨m,z⟩:=I.base.tbls b ps e
   exact⟨m,by rw[aT (aV z hn)];exact z⟩⟩
 loc:=I.loc
 cell:=I.cell
 free:=by rw[aT (Ne.symm hl)];exact I.free
 freeC:=fun x c e=>by rw[aT (hc x c e)];exact I.freeC x c e
 pin:=fun p hp'=>by
  obtain⟨e1,e2,e3,e4,e5⟩:=I.pin p hp';exact⟨e1,by rw[aT (hp p hp')];exact e2,e3,e4,e5⟩
 hok:=fun b u e=>by
  by_cases hb:b=a
  ·subst hb;rw[aQ] at e;cases e;exact ho
  ·rw[aT hb] at e
   exact(I.hok b u e).stay (fun c v _ q=>q) (fun c q=>by rw[aT (aV q hn)];exact q) fun c xs q=>by rw[aT (aV q hn)];exact q
 len:=I.len
abbrev lY(X:Cx)(ea:Addr):Cx:={ X with A:=X.A.mark (some (.ref ea)),calm:=false,xe:=fun _ _=>False }
theorem _root_.L2.Inv.clause(I:Inv X pins σ H s)(ea:Addr):Inv (lY X ea) pins σ H s:=
 ⟨⟨I.ok.mod,I.ok.kind,I.ok.glob,I.ok.blt,I.ok.above,I.ok.inj,I.ok.has,I.ok.cab,(fun z=>Bool.noConfusion z),I.ok.frames,I.ok.stk,I.ok.exf,I.ok.bs,I.ok.bsz,I.ok.noex,I.ok.exfs,I.ok.funs,I.ok.frf⟩,I.os,I.bare,I.base,I.loc,I.cell,I.free,I.freeC,I.pin,I.hok,I.len⟩
theorem _root_.L2.Inv.unclause{ea:Addr}(ok:X.Ok)(I:Inv (lY X ea) pins σ H s):Inv X pins σ H s:=⟨ok,I.os,I.bare,I.base,I.loc,I.cell,I.free,I.freeC,I.pin,I.hok,I.len⟩
end
section
variable{X:Cx}{G:Gx}{a e:Expr}{es:List Expr}{pos p:Pos}{fs:Fv}{t:Tv}{x:Str}{k:Nat}{ps:List Str}{m:Mir}{st:Stmt}{sts:List Stmt}{sa sb:Sv}
def G0(G:Gx):Gx:={ G with E:=fun _ _=>False }
def zNL(X:Cx)(pins:List (Addr×Obj))(σ:St)(Hi H:Hp)(c:Str)(ev:Value)(s':Shared):Prop:=
 ∃(s1:Shared)(H1:Hp)(ea:Addr)(cls:Value)(Hi' H':Hp),ev=.ref ea/\Inv X pins σ H1 s1/\X.mg c=some cls/\Fly X.prog X.w X.stack H1 H' s1 ea cls s'/\Ext Hi H Hi' H'/\Keep H H1
def zOK(X:Cx)(G:Gx)(Hi:Hp)(E:Ends)(r:Res Fl):Prop:=match r with
 | .err _=>True
 | r=>Fin X G Hi E r
@[irreducible] def PSx (X:Cx) (G:Gx) (st:Stmt) (f:Sv):Prop:=∀(pins:List (Addr×Obj))(s:Shared)(σ:St)(H:Hp)(E:Ends)(ρ:Rho)(Hi:Hp)(Et:Value->Shared->Prop),
 Inv X pins σ H s->jG X G Hi H σ ρ->f ρ≠.no->zOK X G Hi E (f ρ)->(∀ c ev s',f ρ=.err c->zNL X pins σ Hi H c ev s'->Et ev s')->wpAny (model X.prog X.w) X.A (exec st X.env) (SP X pins E) Et s
unseal PSx
@[irreducible] def iV (X:Cx) (G:Gx) (sts:List Stmt) (f:Sv):Prop:=∀(pins:List (Addr×Obj))(s:Shared)(σ:St)(H:Hp)(E:Ends)(ρ:Rho)(Hi:Hp)(Et:Value->Shared->Prop),
 Inv X pins σ H s->jG X G Hi H σ ρ->f ρ≠.no->zOK X G Hi E (f ρ)->(∀ c ev s',f ρ=.err c->zNL X pins σ Hi H c ev s'->Et ev s')->wpAny (model X.prog X.w) X.A (execs sts X.env) (SP X pins E) Et s
unseal iV
theorem zOB(h:PSx X G st sa):iV X G [st] sa:=fun pins s σ H E ρ Hi Et I R hn hf he=>by
 refine wpAny_execs_cons (wpAny_mono (h pins s σ H E ρ Hi Et I R hn hf he) (fun f s1 q=>?_) fun _ _ z=>z)
 cases f with
 | next=>exact wpAny_execs_nil q
 | ret v=>exact q
 | brk=>exact q
 | cont=>exact q
theorem zOp{pins:List (Addr×Obj)}{s:Shared}{σ:St}{H:Hp}{ρ:Rho}{Hi:Hp}{Et:Value->Shared->Prop}{Q:VK}{ds:List D}(tb:TB X.K X.mg G.Bi G.B)(c:CanM X.prog X.w X.K X.mg X.base k x ps m)(hr:Room k X.A)(hg:Gl X x)(ha:PAd X.nox (G0 G) (e::es) fs)
  (I:Inv X pins σ H s) (R:jG X G Hi H σ ρ) (hds:fs ρ=.ok ds) (hm:m ds≠.no) (hq:∀ r v Hi' H',m ds=.ok r->Ext Hi H Hi' H'->IsD X.K Hi' v r.d->Q v H') (he:∀ c ev s',m ds=.err c->zNL X pins σ Hi H c ev s'->Et ev s')
  (hdb:(x==("__debug__" : Str))=false) (hst:starEach (e::es) X.env=(false,eval e X.env)::starEach es X.env) (hpl:(backTo pos (starEach es X.env)).any (·.1)=false):
  wpAny (model X.prog X.w) X.A (eval (.Call (.Name x p) (e::es) [] pos) X.env) (EP X pins σ Q) Et s:=by
 obtain⟨⟨f,fd,F,b,kp,hmg⟩,ln⟩:=c;refine wpAny_Call_Name_kw (tG I hg hmg ?_ hdb)
 have hA:=ha pos pins s σ H (fun vs H1=>∃ Hi1,Ext Hi H Hi1 H1/\IsDs X.K Hi1 vs ds) (I.wish _) ⟨ρ,Hi,R,by rw[hds];exact fun Hi1 H1 e1 vs r=>⟨Hi1,e1,r⟩⟩
 refine PySem.W.callWith_K (h₀:=X.base) I.ok.mod.kin kp (wpAny_mono hA (fun us s1 q=>?_) fun _ _ z=>False.elim z) hst hpl
 obtain⟨vs,H1,I1',r,Hi1,e1,hd⟩:=q;have I1:Inv X pins σ H1 s1:=I1'.unwish;refine⟨I1.kIn,?_⟩
 have hl:us.length=ps.length:=by rw[<-r.length,hd.length];exact ln ds hm
 refine wpAny_call (codeAny_mono (F.run X.A X.stack s1 H1 ⟨us,[]⟩ us vs (fun v H2=>Q v H2) (fun cls _ H2=>∃ c Hi2,X.mg c=some cls/\m ds=.err c/\Ext Hi1 H1 Hi2 H2) hr I1.env0 (by have:=b s1 us I1.kIn (by rw[Vr];exact hl);rwa [Vr] at this) r ?_) fun res s' hq'=>?_)
 ·refine⟨by rw[hd.length];exact ln ds hm,Hi1,ds,tb.ext (R.ext.trans e1),e1.s,hd,?_⟩
  cases z:m ds with
  | no=>exact absurd z hm
  | err c'=>exact fun C hC Hi2 H2 e2=>⟨c',Hi2,hC,rfl,e2⟩
  | ok rr=>
   cases rr with
   | v d=>exact fun v Hi2 H2 e2 r2=>hq _ v Hi2 H2 z (e1.trans e2) r2
   | f es=>
    intro a' Hi2 H2 e2 n;obtain⟨n1,n2,xs,n3,n4⟩:=n;exact hq _ (.ref a') (upd Hi2 a' (.lst xs)) H2 z (e1.trans (e2.hold n1 n3 n2)) (.lst (SqL.of aQ) (n4.mono (bU n2 _)))
 ·cases res with
  | error ev=>
   obtain⟨ea,cls,H',rfl,Fl,c',Hi2,hc,hmc,e2⟩:=hq';exact he c' _ s' hmc ⟨s1,H1,ea,cls,Hi2,H',rfl,I1,hc,Fl,e1.trans e2,e1.h⟩
  | ok fl=>
   cases fl with
   | ret u=>exact I1.after hq'
   | next=>exact False.elim hq'
   | brk=>exact False.elim hq'
   | cont=>exact False.elim hq'
theorem zHN{α:Type}{r:Res α}{β:Type}{f:α->Res β}(h:(noErr r).bind f≠.no):∃ a,r=.ok a/\(noErr r).bind f=f a:=by
 cases r with
 | ok a=>exact⟨a,rfl,rfl⟩
 | err c=>exact absurd rfl h
 | no=>exact absurd rfl h
theorem zOD{i:Nat}{y:Str}{py pos2:Pos}(hN:X.N.Nodup)(hi:X.N[i]?=some y)(hy:Loc X.env.scope y)(W:Good X G k)(c:CanM X.prog X.w X.K X.mg X.base k x ps m)(hg:Gl X x)(ha:PAd X.nox (G0 G) (e::es) fs)
  (hdb:(x==("__debug__" : Str))=false:=by decide) (hst:starEach (e::es) X.env=(false,eval e X.env)::starEach es X.env:=by rfl) (hpl:(backTo pos (starEach es X.env)).any (·.1)=false:=by rfl)
  (hs2:swapsWith (.Call (.Name x p) (e::es) [] pos) (some (.Name y py)) pos2.line X.env=pure false:=by rfl) (hfn:X.fn y=true∨X.env.scope.names.lookup y=some .local:=by first | exact .inl rfl | exact .inr rfl | assumption):
  PSx X G (.Assign [.Name y py] (.Call (.Name x p) (e::es) [] pos) pos2) (zNH i m fs):=fun pins s σ H E ρ Hi Et I R hn hf he=>by
 unfold zNH at hn hf he;obtain⟨ds,hds,heq⟩:=zHN hn;rw[heq] at hn hf he;have hm:m ds≠.no:=fun z=>by rw[z] at hn;exact hn rfl
 refine wpAny_Assign_Name (wpAny_mono (zOp (Q:=fun v H'=>E.nx (σ.set i (some v)) H') W.tb c W.room hg ha I R hds hm (fun r v Hi' H' z e1 rv=>?_) (fun c' ev s' z q=>he c' ev s' (by rw[z];rfl) q) hdb hst hpl) (fun v s1 q=>?_) fun _ _ z=>z) hs2
 ·rw[z] at hf
  exact(show Fin X G Hi E (.ok (.nx (ρ.set i (.val r.d)))) from hf) _ Hi' H' e1.i ((R.grow e1).set rv)
 ·obtain⟨v',H1,I1,r1,q1⟩:=q
  exact nM I1 hN hi hy r1 (fun s2 I2=>⟨_,H1,I2,q1⟩) hfn
end
end L3
namespace L3
open PySem PySem.Spec PyProof.Rows L2 PySem.W
unseal PEd PEf PTd PWd PAd PSd dF POd PGd fT PId PSx iV
section
variable{X:Cx}{G:Gx}{k:Nat}{fb fh:Sv}{body suite:List Stmt}{b₀:Stmt}{ce n:Str}{np hpos pos:Pos}{i:Nat}{tb:List Str}
def Cat(K:Frag)(mg:Str->Option Value)(ce c:Str):Prop:=∃ C CE,mg c=some (.ref C)/\mg ce=some (.ref CE)/\ExK K C/\CaK K CE/\mroIn K C (.ref CE)=some true
structure GoodH (X:Cx):Prop where
 u:X.A.units+64<cLine
end
section
variable{X:Cx}{G:Gx}{a:Expr}{p q pos:Pos}{i:Nat}{anc:List (Str×List Str)}{xs:List Str}{x:Str}
end
section
variable{K:Frag}{h:Heap}{mg:Str->Option Value}{x c ce:Str}{C CE:Addr}
theorem sE{newId:String}{bmB:List Value}{B initId:String}(X:K.In h)(G:h.Ns mainGlobals mg)(e:nsIn K mainGlobals x=some (some (.ref C)))(q:excIn K C bmB newId=true)(F:ExcBaseFacts B newId initId bmB):∃ C,Err K mg x C:=by
 refine⟨C,⟨fun h' X'=>⟨bmB,newId,B,initId,⟨mg_of X G e,?_⟩,F⟩⟩⟩
 unfold excIn at q;split at q
 ·rename_i dd cd sl ho
  split at q
  ·rename_i C' bm k0 k1 k2 k3 n k5 hm hs
   simp only[Vg,beq_iff_eq,Bool.not_eq_true'] at q;obtain⟨⟨⟨⟨⟨rfl,rfl⟩,hdel⟩,ht⟩,hok⟩,hni⟩:=q;obtain⟨nm,bs,mro,ns,qn,hd,sn,sub,ab,col,del⟩:=cd;dsimp only at hm hdel hok hni
   subst hm hdel
   have hsl:sl=#[k0,k1,k2,k3,some (.builtin n),k5]:=by
    obtain⟨l⟩:=sl;simp only at hs
    rw[hs]
   subst hsl;exact⟨bm,ns,nm,qn,bs,hd,sn,sub,ab,col,dd,k0,k1,k2,k3,k5,_,X' _ _ ho,.of_isNs (isNs_of_in X' hok),nsMap_none_of_in X' hok hni,tail_of_in X' ht⟩
  ·cases q
 ·cases q
theorem zIs(q:hasDictIn K C=true):(clsIn K C).isSome=true:=by
 obtain⟨cd,hc,_⟩:=any_some q;rw[hc];rfl
theorem zMa(h1:hasDictIn K C=true)(h2:findIn K (.ref C) "__getattribute__" = some (some (.builtin "BaseException.__getattribute__")))(h3:findIn K (.ref C) "__getattr__" = some none)(h4:findIn K (.ref C) "__class__" = some (some (.builtin "object.__class__")))
  (h5:specialIn K (.builtin "object.__class__") "__get__" = some (some (.builtin "getset_descriptor.__get__"))) (h6:takesIn K (.builtin "object.__class__")=some true) (h7:mroIn K C (.type "object")=some true) (h8:mroIn K C (.type "BaseException")=some true):ExK K C:=
 ⟨zIs h1,h2,h3,h4,h5,h6,h7,h8⟩
theorem zMM(h1:typeIn K (.ref CE)=some (.type "type"))(h2:hasDictIn K CE=true)(h3:mroIn K CE (.type "BaseException")=some true):CaK K CE:=⟨h1,zIs h2,h3⟩
end
def zBN(env:Env):List (Str×NameKind)->List (Str×Addr)->List (Str×Addr)
 | [],cs=>cs
 | (n,k)::r,cs=>zBN env r (if k==.free then (n,(env.cells.lookup n).getD 0)::cs else cs)
theorem zIR{env:Env}:∀(l:List (Str×NameKind))(cs:List (Str×Addr)),(∀ p∈l,p.2=.free->∃ c,env.cells.lookup p.1=some c)->
  (forIn l cs (fun p (r:List (Str×Addr))=>if (p.2==NameKind.free)=true then (do let a <-cellOf env p.1;pure (ForInStep.yield ((p.1,a)::r))) else pure (ForInStep.yield r)):Sem (List (Str×Addr)))=pure (zBN env l cs)
 | [],cs,_=>by simp[zBN]
 | (n,k)::r,cs,h=>by
  rw[Y2,zBN];have ih:=fun cs=>zIR r cs fun p hp=>h p (Qd _ hp)
  by_cases e:(k==NameKind.free)=true
  ·obtain⟨c,hc⟩:=h (n,k) Qe (beq_iff_eq.mp e)
   simp only[e,if_true,cellOf,hc,pure_bind,Option.getD_some];exact ih _
  ·simp only[e,V9,if_false,pure_bind]
   exact ih _
theorem zIN{env:Env}{scope:Scope}(h:∀ p∈scope.names,p.2=.free->∃ c,env.cells.lookup p.1=some c):closureFor scope env=pure (zBN env scope.names []):=by
 have:=zIR scope.names [] h
 unfold closureFor;rw[<-this];simp
theorem sY{env:Env}:∀(l:List (Str×NameKind))(cs:List (Str×Addr)),(∀ p∈l,p.2=.free->∃ c,env.cells.lookup p.1=some c)->(∀ y c,cs.lookup y=some c->env.cells.lookup y=some c)->
  ∀ y c,(zBN env l cs).lookup y=some c->env.cells.lookup y=some c
 | [],cs,_,h,y,c,e=>h y c e
 | (n,k)::r,cs,hl,h,y,c,e=>by
  rw[zBN] at e;refine sY r _ (fun p hp=>hl p (Qd _ hp)) (fun y c e=>?_) y c e
  by_cases z:(k==NameKind.free)=true
  ·obtain⟨c',hc⟩:=hl (n,k) Qe (beq_iff_eq.mp z)
   simp only[z,if_true,Vu,hc,Option.getD_some] at e
   cases w:y==n with
   | true=>rw[w] at e;cases e;rw[beq_iff_eq.mp w];exact hc
   | false=>rw[w] at e;exact h y c e
  ·simp only[z,V9,if_false] at e
   exact h y c e
theorem zCW{env:Env}:∀(l:List (Str×NameKind))(cs:List (Str×Addr))(y:Str),(∃ c,cs.lookup y=some c)->∃ c,(zBN env l cs).lookup y=some c
 | [],cs,y,h=>h
 | (n,k)::r,cs,y,⟨c,h⟩=>by
  rw[zBN];refine zCW r _ y ?_
  split
  ·rw[Vu]
   cases y==n with
   | true=>exact⟨_,rfl⟩
   | false=>exact⟨c,h⟩
  ·exact⟨c,h⟩
theorem sH{env:Env}:∀(l:List (Str×NameKind))(cs:List (Str×Addr))(y:Str),(y,NameKind.free)∈l->∃ c,(zBN env l cs).lookup y=some c
 | (n,k)::r,cs,y,h=>by
  rw[zBN];rcases Qc.mp h with e | h
  ·cases e
   refine zCW r _ _ ⟨(env.cells.lookup n).getD 0,?_⟩
   simp only[beq_self_eq_true,if_true,Vu]
  ·exact sH r _ y h
theorem bP{α:Type}:∀ {l:List (Str×α)} {y:Str} {k:α},l.lookup y=some k->(y,k)∈l
 | (n,k')::r,y,k,h=>by
  rw[Vu] at h
  cases z:y==n with
  | true=>rw[z] at h;cases h;rw[beq_iff_eq.mp z];exact Qe
  | false=>rw[z] at h;exact Qd _ (bP h)
theorem bZ{env:Env}:∀ {l:List (Str×NameKind)} {y:Str} {k:NameKind},
  (l.map fun(n,k)=>if (k==NameKind.free && env.scope.kind==.function && env.kindOf n==some .cell) then (n,NameKind.cell) else (n,k)).lookup y=some k->
  l.lookup y=some k∨(k=.cell/\l.lookup y=some .free)
 | (n,k')::r,y,k,h=>by
  rw[Qi] at h;rw[Vu];by_cases c:(k'==NameKind.free && env.scope.kind==.function && env.kindOf n==some .cell)=true
  ·simp only[c,if_true,Vu] at h
   cases z:y==n with
   | true=>
    rw[z] at h;cases h;refine .inr ⟨rfl,?_⟩
    simp only[Vg] at c;rw[beq_iff_eq.mp c.1.1]
   | false=>rw[z] at h;exact bZ h
  ·simp only[c,V9,if_false,Vu] at h
   cases z:y==n with
   | true=>rw[z] at h;exact .inl h
   | false=>rw[z] at h;exact bZ h
def msk(x y:Str):Str:=if y=x then ("" : Str) else y
structure BlkOk (X:Cx) (x:Str) (scope:Scope):Prop where
 kind:scope.kind=.function
 cell:∀ y∈scope.names,y.2≠.cell
 loc:scope.names.lookup x=some .local
 names:∀ y∈scope.names,y.2=.local->scope.names.lookup y.1=some .local
 fre:∀ p∈scope.names,p.2=.free->X.env.kindOf p.1=some .cell∨X.env.kindOf p.1=some .free
 oth:∀ y∈X.N,y≠x->scope.names.lookup y≠some .local
 emp:scope.names.lookup ("" : Str)=none
def cxC(X:Cx)(x:Str)(scope:Scope)(C:Addr)(s₂:Shared)(H₂:Hp)(fp:List Addr):Cx:=
  { prog:=X.prog,w:=X.w,K:=X.K,mg:=X.mg,base:=X.base,A:=X.A,N:=X.N.map (msk x)++[x],s₀:=s₂,H₀:=H₂,env:=compEnvC scope (zBN X.env scope.names []) C X.env,outer:=X.stack,stack:=X.stack,
    ex:=fp,fn:=fun _=>false,calm:=X.calm,pn:=X.pn,xe:=fun _ _=>False }
section
variable{X:Cx}{pins:List (Addr×Obj)}{σ:St}{H:Hp}{s₂:Shared}{x:Str}{scope:Scope}{fp:List Addr}{D C:Addr}{h₁:Heap}
theorem BlkOk.cl(B:BlkOk X x scope)(I:Inv X pins σ H s₂):∀ p∈scope.names,p.2=.free->∃ c,X.env.cells.lookup p.1=some c:=fun p hp e=>I.ok.has p.1 (B.fre p hp e)
theorem zOm(I:Inv X pins σ H s₂)(B:BlkOk X x scope)(hfp:∀ b∈fp,qS X pins H b)(hfl:∀ b∈fp,b<s₂.heap.objs.size)(hD:s₂.heap.objs.size<=D)(hC:s₂.heap.objs.size<=C)(hDC:D≠C)
  (old:∀ b o,s₂.heap.get? b=some o->h₁.get? b=some o) {n:Nat} (hacc:h₁.get? D=some { cls:=.type "list", data:=.seq ([]:List Value).toArray n }) {m:Str->Option Value} (hns:h₁.Ns C m) (t:Nat):
  Inv (cxC X x scope C s₂ H fp) pins (σ++[none]) (upd H D (.lst [])) { s₂ with heap:=h₁,toks:=t }:=by
 have sub:=sY scope.names [] (B.cl I) (fun y c e=>nomatch e)
 have old_lt:∀ {b:Addr} {o:Obj},s₂.heap.get? b=some o->b≠D/\b≠C:=fun e=>⟨Qo (Ql (Heap.lt_size e) hD),Qo (Ql (Heap.lt_size e) hC)⟩
 have free:∀ {b:Addr},b≠D->H b=none->upd H D (.lst []) b=none:=fun n e=>by rw[aT n];exact e
 refine⟨⟨I.ok.mod,B.kind,I.ok.glob,I.ok.blt,hC,fun y z c e1 e2=>I.ok.inj y z c (sub y c e1) (sub z c e2),fun y hy=>?_,fun y c e=>(nomatch e),I.ok.hd,I.ok.frames,.inl rfl,fun b hb=>⟨Qo (Ql (hfl b hb) hC),fun y c e=>(hfp b hb).2.2.2.2.1 y c (sub y c e)⟩,
  I.bs,Qp I.ok.bsz I.sz,fun b o e hb=>?_,fun b hb z=>?_,I.stack,I.stkFree⟩,rfl,I.bare,Un.laid old hD (I.hok.fresh hD),⟨m,hns,fun i y v e1 e2 e3=>?_⟩,fun y c e=>?_,free (Ne.symm hDC) (I.hok.fresh hC),fun y c e=>?_,fun p hp=>?_,I.hok.laid old hD ⟨Vk _,[],n,.nil,hacc⟩,?_⟩
 ·have:∃ k,(k=NameKind.cell∨k=NameKind.free)/\((relabel scope X.env).names).lookup y=some k:=hy.elim (fun h=>⟨_,.inl rfl,h⟩) fun h=>⟨_,.inr rfl,h⟩
  obtain⟨k,hk,e⟩:=this
  have e':(y,NameKind.free)∈scope.names:=by
   rcases bZ e with z | ⟨_,z⟩
   ·rcases hk with rfl | rfl
    ·exact absurd rfl (B.cell _ (bP z))
    ·exact bP z
   ·exact bP z
  exact sH scope.names [] y e'
 ·rcases (hfp b hb).2.2.2.1 with z | z
  ·exact I.ok.noex b o e z
  ·exact absurd (Ql (Heap.lt_size e) (Qp I.ok.bsz z)) (Vm _)
 ·rcases Qc.mp (I.stkSub b z) with w | w
  ·exact(hfp b hb).2.1 w
  ·exact(hfp b hb).2.2.1 w
 ·
  have hi:i<σ.length:=by
   by_cases hi:i<σ.length
   ·exact hi
   ·exfalso
    rw[Vs (by omega)] at e2
    cases q:i-σ.length with
    | zero=>rw[q] at e2;cases e2
    | succ j=>rw[q] at e2;cases e2
  rw[Vj hi] at e2;have e1':(X.N.map (msk x)++[x])[i]?=some y:=e1;rw[Vj (by rw[Qh,<-I.len];exact hi),Qq] at e1'
  cases q:X.N[i]? with
  | none=>rw[q] at e1';cases e1'
  | some z=>
   rw[q] at e1';have e1'':msk x z=y:=Vc e1';have hz:z∈X.N:=Qg q;have vis:∃ k,((relabel scope X.env).names).lookup y=some k:=e3.elim (fun h=>⟨_,h⟩) fun h=>h.elim (fun h=>⟨_,h⟩) fun h=>⟨_,h⟩
   have hzx:z≠x:=fun w=>by
    obtain⟨k,hk⟩:=vis;have:y=("" : Str):=by rw[<-e1'',w];exact if_pos rfl
    rw[this] at hk;rcases bZ hk with h | ⟨_,h⟩<;>(rw[B.emp] at h;cases h)
   have hy:z=y:=by rw[<-e1''];exact(if_neg hzx).symm
   subst hy
   have fr:(z,NameKind.free)∈scope.names:=by
    rcases e3 with h | h | h
    ·rcases bZ h with h | ⟨h,_⟩
     ·exact absurd h (B.oth z hz hzx)
     ·cases h
    ·rcases bZ h with h | ⟨_,h⟩
     ·exact absurd rfl (B.cell _ (bP h))
     ·exact bP h
    ·rcases bZ h with h | ⟨h,_⟩
     ·exact bP h
     ·cases h
   have kd:=B.fre _ fr rfl;obtain⟨m0,hn0,hl⟩:=I.loc;obtain⟨u,ru,lk⟩:=hl i z v q e2 (kd.elim (fun h=>.inr (.inl h)) fun h=>.inr (.inr h))
   refine⟨u,ru,.inr ⟨?_,?_⟩⟩
   ·rcases e3 with h | h | h
    ·rcases bZ h with h | ⟨h,_⟩
     ·exact absurd h (B.oth z hz hzx)
     ·cases h
    ·exact .inl h
    ·exact .inr h
   ·rcases lk with⟨k1,_⟩ | ⟨_,c,hc,hcell⟩
    ·rcases kd with kd | kd<;>(rw[kd] at k1;cases k1)
    ·obtain⟨c',hc'⟩:=sH (env:=X.env) scope.names [] z fr
     have:=sub z c' hc'
     rw[hc] at this;cases this;obtain⟨o,ho,hd⟩:=hcell;exact⟨c,hc',o,old _ _ ho,hd⟩
 ·obtain⟨v,o,ho,hd⟩:=I.cell y c (sub y c e)
  exact⟨v,o,old _ _ ho,hd⟩
 ·obtain⟨v,o,ho,hd⟩:=I.cell y c (sub y c e)
  exact free (old_lt ho).1 (I.freeC y c (sub y c e))
 ·obtain⟨e,n,ne,nf,d⟩:=I.pin p hp
  refine⟨old _ _ e,free (old_lt e).1 n,(old_lt e).2,fun z=>?_,d⟩
  rcases Qc.mp (I.stkSub _ z) with w | w
  ·exact ne w
  ·exact nf w
 ·show(σ++[none]).length=(X.N.map (msk x)++[x]).length
  rw[Qm,Qm,Qh,I.len];rfl
end
section
variable{K:Fg_}{mg:Str->Option Value}{B Bi Hi H Hi' H':Hp}{σ:St}{ρ:Rho}
theorem Rel.snoc{v:V}{d:D}(R:Rel K mg B Bi Hi H σ ρ)(h:IsD K Hi v d):Rel K mg B Bi Hi H (σ++[some v]) (ρ++[.val d]) where
 len:=by rw[Qm,Qm,R.len];rfl
 ext:=R.ext
 slot:=fun j s q=>by
  by_cases hl:j<ρ.length
  ·rw[Vj hl] at q
   rw[Vj (by rw[R.len];exact hl)];exact R.slot j s q
  ·rw[Vs (by omega)] at q
   rw[Vs (by rw[R.len];omega),R.len]
   cases z:j-ρ.length with
   | zero=>rw[z] at q;cases q;exact⟨v,rfl,h⟩
   | succ n=>rw[z] at q;cases q
 dist:=fun j k a ds es q1 q2 q3 q4=>by
  have own:∀ {j:Nat} {ds:List D},(ρ++[Sl.val d])[j]?=some (.own ds)->j<ρ.length:=fun {j ds} q=>by
   by_cases hl:j<ρ.length
   ·exact hl
   ·rw[Vs (by omega)] at q
    cases z:j-ρ.length with
    | zero=>rw[z] at q;cases q
    | succ n=>rw[z] at q;cases q
  have h1:=own q1;have h2:=own q2;rw[Vj h1] at q1;rw[Vj h2] at q2;rw[Vj (by rw[R.len];exact h1)] at q3;rw[Vj (by rw[R.len];exact h2)] at q4;exact R.dist j k a ds es q1 q2 q3 q4
theorem Ext.rewrite{a:Addr}{o:HO}(e:Ext Hi H Hi' H')(hn:H a=none)(hi:Hi' a=none)(hl:∃ xs,H' a=some (.lst xs)):Ext Hi H Hi' (upd H' a o) where
 i:=e.i
 h:=⟨fun b u z=>by rw[aT (aV z hn)];exact e.h.k _ _ z,fun P z=>by
  obtain⟨xs,hl⟩:=hl
  exact(e.h.t P z).put (fun ps y=>by rw[hl] at y;cases y) (fun ob u y=>by rw[hl] at y;cases y)⟩
 s:=fun b u z=>by rw[aT (aV z hi)];exact e.s _ _ z
 n:=e.n
theorem IsDs.snoc{v:V}{d:D}(h:IsD K H v d):∀ {vs:List V} {ds:List D},IsDs K H vs ds->IsDs K H (vs++[v]) (ds++[d])
 | _,_,.nil=>.cons h .nil
 | _,_,.cons r t=>.cons r (IsDs.snoc h t)
end
theorem wR{α:Type}{r:Res α}{a:α}(h:noErr r=.ok a):r=.ok a:=by
 cases r with
 | ok b=>exact h
 | err c=>cases h
 | no=>cases h
theorem zDw{t:Tv}{f:Ev}{ρ:Rho}{d:D}{ds es:List D}(h:fF t f ρ (d::ds)=.ok es):
  (t (ρ++[.val d])=.ok false/\fF t f ρ ds=.ok es)∨(t (ρ++[.val d])=.ok true/\∃ e es',f (ρ++[.val d])=.ok e/\fF t f ρ ds=.ok es'/\es=e::es'):=by
 rw[fF] at h
 cases ht:noErr (t (ρ++[.val d])) with
 | no=>rw[ht] at h;cases h
 | err c=>rw[ht] at h;cases h
 | ok c=>
  rw[ht] at h;have ht':=wR ht
  cases c with
  | false=>exact .inl ⟨ht',h⟩
  | true=>
   refine .inr ⟨ht',?_⟩
   have h':((noErr (f (ρ++[.val d]))).bind fun e=>(fF t f ρ ds).bind fun es=>.ok (e::es))=.ok es:=h
   cases hf:noErr (f (ρ++[.val d])) with
   | no=>rw[hf] at h';cases h'
   | err c=>rw[hf] at h';cases h'
   | ok e=>
    rw[hf] at h';have h'':((fF t f ρ ds).bind fun es=>.ok (e::es))=.ok es:=h'
    cases hr:fF t f ρ ds with
    | no=>rw[hr] at h'';cases h''
    | err c=>rw[hr] at h'';cases h''
    | ok es'=>
     rw[hr] at h'';cases h''
     exact⟨e,es',wR hf,rfl,rfl⟩
theorem xA{t:Tv}{f:Ev}{ρ:Rho}{c:Str}:∀ {ds:List D},fF t f ρ ds≠.err c
 | []=>fun h=>by cases h
 | d::ds=>fun h=>by
  rw[fF] at h
  cases ht:noErr (t (ρ++[.val d])) with
  | no=>rw[ht] at h;cases h
  | err c=>cases q:t (ρ++[.val d])<;>(rw[q] at ht;cases ht)
  | ok b=>
   rw[ht] at h
   cases b with
   | false=>exact xA h
   | true=>
    have h':((noErr (f (ρ++[.val d]))).bind fun e=>(fF t f ρ ds).bind fun es=>.ok (e::es))=.err c:=h
    cases hf:noErr (f (ρ++[.val d])) with
    | no=>rw[hf] at h';cases h'
    | err c=>cases q:f (ρ++[.val d])<;>(rw[q] at hf;cases hf)
    | ok e=>
     rw[hf] at h'
     cases hr:fF t f ρ ds with
     | no=>simp only[Res.bind,hr] at h';cases h'
     | err c'=>exact xA hr
     | ok es=>simp only[Res.bind,hr] at h';cases h'
@[irreducible] def PTs (X:Cx) (G:Gx) (ifs:List Expr) (t:Tv):Prop:=
 ∀(pins:List (Addr×Obj))(s:Shared)(σ:St)(H:Hp)(Q:Bool->Hp->Prop),Inv X pins σ H s->tTb X G t σ H Q->
  wpAny (model X.prog X.w) X.A (forIn ifs true fun c r=>if r=true then do let ok <-isTrue c X.env (eval c X.env);pure (ForInStep.yield ok) else pure (ForInStep.yield r)) (TP X pins σ Q) X.xe s
unseal PTs
theorem zCl{X:Cx}{G:Gx}:PTs X G [] sZ:=fun pins s σ H Q I ⟨ρ,Hi,R,o⟩=>wpAny_tests_nil ⟨H,I,Out.here (a:=true) o R.s⟩
theorem zNh{X:Cx}{G:Gx}{c:Expr}{t:Tv}(h:PTd X G c t):PTs X G [c] t:=fun pins s σ H Q I q=>wpAny_tests_one (h pins s σ H Q I q)
end L3
namespace L3
open PySem PySem.Spec PyProof.Rows L2
unseal PEd PEf PTd PWd PAd PSd dF POd PGd fT PId PSx iV PTs
section
variable{X:Cx}{G:Gx}{elt iter:Expr}{x:Str}{px pos:Pos}{ifs:List Expr}{scope:Scope}{it:Fv}{t:Tv}{f:Ev}{k:Nat}
theorem zJW{M:Model}{A:Around}{α:Type}{m:Sem α}{itv u:Value}{s:Shared}{Q1:Unit->Shared->Prop}{R1:α->Shared->Prop}{E:Value->Shared->Prop}(h:wpAny M A (letOwnedTupleGo (.Name x px) itv u) Q1 E s)
  (k:∀ s5,Q1 () s5->wpAny M A m R1 E s5):wpAny M A m R1 E s:=by
 have key:=wpAny_bind (f:=fun _:Unit=>m) (wpAny_mono h (fun _ s5 h5=>k s5 h5) fun _ _ z=>z)
 have e:(letOwnedTupleGo (.Name x px) itv u >>= fun _=>m)=m:=pure_bind () fun _=>m
 rw[e] at key;exact key
theorem zGo{N:List Str}(hN:N.Nodup)(h0:("" : Str)∉N)(hx:x≠("" : Str)):(N.map (msk x)++[x]).Nodup:=by
 rw[List.nodup_append];refine⟨?_,Xt.mpr ⟨by simp,List.nodup_nil⟩,fun a ha b hb e=>?_⟩
 ·induction N with
  | nil=>exact List.nodup_nil
  | cons y N ih=>
   rw[Qi,Xt];obtain⟨hy,hN⟩:=Xt.mp hN;refine⟨fun hm=>?_,ih hN fun z=>h0 (Qd _ z)⟩
   obtain⟨z,hz,e⟩:=Q9.mp hm;unfold msk at e;by_cases c1:z=x
   ·by_cases c2:y=x
    ·exact hy (by rw[c2,<-c1];exact hz)
    ·rw[if_pos c1,if_neg c2] at e;exact h0 (by rw[e];exact Qe)
   ·by_cases c2:y=x
    ·rw[if_neg c1,if_pos c2] at e;exact h0 (by rw[<-e];exact Qd _ hz)
    ·rw[if_neg c1,if_neg c2] at e;exact hy (by rw[<-e];exact hz)
 ·obtain⟨z,hz,e1⟩:=Q9.mp ha
  rw[Qw] at hb;subst hb;subst e;unfold msk at e1;split at e1
  ·exact hx e1.symm
  ·rename_i c;exact c e1
structure CW where
 i:Nat
 v:List (Option V)
 H:Hp
 Hi:Hp
 ys:List V
 done:List D
 rest:List D
structure CS (Y:Cx) (pins:List (Addr×Obj)) (σ:St) (tn:Nat->Heap->Prop) (fp:List Addr) (Hi2 H2:Hp) (a:Addr) (m:Nat) (cp:Nat->Res (List D)) (es:List D) (c:CW) (s':Shared):Prop where
 inv:Inv Y pins (σ++c.v) c.H s'
 wid:c.v.length=m
 tn:tn c.i s'.heap
 fr:∀ b∈fp,c.H b=none
 ext:Ext Hi2 H2 c.Hi c.H
 acc:c.H a=some (.lst c.ys)
 hi:c.Hi a=none
 isd:IsDs Y.K c.Hi c.ys c.done
 len:c.done.length<=c.i
 cmp:cp c.i=.ok c.rest
 all:es=c.done++c.rest
def zOH(X:Cx)(pins:List (Addr×Obj))(σ:St)(use:Option (Value->Sem Unit))(Q':Value->Shared->Prop)(Qa:Addr->Hp->Prop):Prop:=
 ∀(C A:Addr)(m:Str->Option Value)(s4:Shared)(H3:Hp),s4.heap.Ns C m->(∀ h',Heap.SameBut C s4.heap h'->Inv X pins σ H3 { s4 with heap:=h' })->qS X pins H3 C->Qa A H3->
  compPost (model X.prog X.w) X.A X.xe use Q' (.ref A) C (.ok .next) s4
theorem zGa(hc:X.calm=true/\TB X.K X.mg G.Bi G.B)(hr:Room k X.A)(Bk:BlkOk X x scope)(hN:X.N.Nodup)(h0:("" : Str)∉X.N)(hx0:x≠("" : Str))(hi:PId X G (.Name x px) iter it)
  (hb:∀(C:Addr)(s₂:Shared)(H₂:Hp)(fp:List Addr)(G':Gx),Good (cxC X x scope C s₂ H₂ fp) G' k->PTs (cxC X x scope C s₂ H₂ fp) G' ifs t/\PEd (cxC X x scope C s₂ H₂ fp) G' elt f)
  (hs:∀ x,foldedSetIterable iter X.env x=pure x:=by intro _;rfl)
  {pins:List (Addr×Obj)} {s:Shared} {σ:St} {H Hi:Hp} {ρ:Rho} {use:Option (Value->Sem Unit)} {Q':Value->Shared->Prop} {Qa:Addr->Hp->Prop} {cpos:Pos} (I:Inv X pins σ H s) (R:jG X G Hi H σ ρ)
  (ou:Out G Hi H ((xL it t f) ρ) fun ds Hi' H'=>∀ a,zHY X.K H Hi' H' a ds->Qa a H') (hend:zOH X pins σ use Q' Qa):
  wpAny (model X.prog X.w) X.A (comprehension (.ListComp elt [⟨.Name x px,iter,ifs,0⟩] scope pos) scope X.env cpos (newList []) false (eval iter X.env) use) Q' X.xe s:=by
 refine wpAny_comprehension_free (use:=use) rfl hs (zIN (Bk.cl I)) Bk.kind Bk.names ?_
 refine thn (hi pins s σ H (fun J H2=>∃ ds Hi2,Ext Hi H Hi2 H2/\uQ X.K Hi2 J ds/\Out G Hi2 H2 (if ds.length<=16777215 then fF t f ρ ds else .no) fun ds Hi' H'=>∀ a,zHY X.K H Hi' H' a ds->Qa a H') I
  ⟨ρ,Hi,R,(Out.bind ou).imp fun ds Hi2 H2 e2 o2 J gv=>⟨ds,Hi2,e2,gv,o2⟩⟩) fun v s1 h1=>thn h1 fun itv s2 h2=>?_
 obtain⟨itA,fp,tn,J,H2,rfl,I2,T,st2,f2,ds,Hi2,e2,gv,ou2⟩:=h2
 have hlen:ds.length<=16777215:=by
  by_cases hlen:ds.length<=16777215
  ·exact hlen
  ·rw[if_neg hlen] at ou2;exact ou2.elim
 rw[if_pos hlen] at ou2
 cases hes:fF t f ρ ds with
 | no=>rw[hes] at ou2;exact ou2.elim
 | err c=>exact absurd hes xA
 | ok es=>
  rw[hes] at ou2;have R2:jG X G Hi2 H2 σ ρ:=R.grow e2;refine wpAny_newObj_type (wpAny_newFunctionEnv Bk.cell (by intro y hy;simp at hy) (fun h₁ hns₁ hsb₁=>?_) Bk.kind)
  dsimp only at hns₁ hsb₁ ⊢
  generalize hH2:s2.heap.push { cls:=.type "list", dict:=none,data:=.seq ([]:List Value).toArray }=HP at hns₁ hsb₁ ⊢;have hC:HP.objs.size=s2.heap.objs.size+1:=by rw[<-hH2,Heap.size_push]
  have hDC:s2.heap.objs.size≠HP.objs.size:=by rw[hC];omega
  have ltC:∀ {b:Addr} {o:Obj},s2.heap.get? b=some o->b≠HP.objs.size:=fun e=>by rw[hC];exact Qo (Xa (Heap.lt_size e))
  have old:∀ b o,s2.heap.get? b=some o->h₁.get? b=some o:=fun b o e=>hsb₁.extBut b o (ltC e) (Heap.get?_push_of_some _ (hH2 ▸ Heap.get?_push_of_some _ e))
  have hacc:h₁.get? s2.heap.objs.size=some { cls:=.type "list", data:=.seq ([]:List Value).toArray 0 }:=hsb₁.extBut _ _ hDC (Heap.get?_push_of_some _ (hH2 ▸ Heap.get?_push_size _ rfl));have hfl:∀ b∈fp,b<s2.heap.objs.size:=fun b hb=>by obtain⟨o,e,_⟩:=T.obj _ _ st2 b hb;exact Heap.lt_size e
  have IE:=zOm (t:=s2.toks+([]:List (Str×Value)).length) I2 Bk f2 hfl (Qb _) (by rw[hC];omega) hDC old hacc hns₁
  have sub:=sY scope.names [] (Bk.cl I2) (fun y c e=>nomatch e)
  have H2D:H2 s2.heap.objs.size=none:=I2.hok.fresh (Qb _);have HD:H s2.heap.objs.size=none:=e2.h.none H2D;have Hi2D:Hi2 s2.heap.objs.size=none:=e2.s.none H2D;generalize hX:cxC X x scope HP.objs.size s2 H2 fp=Y at IE
  have GY:Good Y ⟨G.B,G.Bi,fun _ _=>False⟩ k:=by
   subst hX;exact⟨hc.1,hr,fun pins σ H s e s' _ h=>by obtain⟨_,_,_,_,_,c,_,z⟩:=h;exact z.elim,PassesOwn.never,hc.2⟩
  obtain⟨hts,hel⟩:=(hX ▸ hb HP.objs.size s2 H2 fp ⟨G.B,G.Bi,fun _ _=>False⟩ (hX.symm ▸ GY):PTs Y ⟨G.B,G.Bi,fun _ _=>False⟩ ifs t/\PEd Y ⟨G.B,G.Bi,fun _ _=>False⟩ elt f)
  have stat:∀ {H':Hp},(∀ b∈fp,H' b=none)->∀ b∈fp,qS Y pins H' b:=fun hn b hb=>by
   subst hX;refine⟨hn b hb,?_,fun z=>?_,.inl hb,fun y c e=>(f2 b hb).2.2.2.2.1 y c (sub y c e),(f2 b hb).2.2.2.2.2⟩
   ·show b≠HP.objs.size
    rw[hC];exact Qo (Xa (hfl b hb))
   ·rcases Qc.mp (I2.stkSub b z) with w | w
    ·exact(f2 b hb).2.1 w
    ·exact(f2 b hb).2.2.1 w
  have YN:Y.N.Nodup:=by subst hX;exact zGo hN h0 hx0
  have Yx:Y.N[σ.length]?=some x:=by
   subst hX;show(X.N.map (msk x)++[x])[σ.length]?=some x
   rw[Vs (by rw[Qh,I2.len];omega),Qh,I2.len,Yc];rfl
  have Yl:Y.env.scope.names.lookup x=some .local:=by subst hX;exact lookup_relabel_local Bk.loc
  have Ye:Y.env=compEnvC scope (zBN X.env scope.names []) HP.objs.size X.env:=by subst hX;rfl
  have Yxe:∀ e s,¬ Y.xe e s:=by subst hX;exact fun _ _ h=>h
  have tn1:tn 0 h₁:=T.keep _ _ _ st2 fun b _ o e=>old b o e
  have loop:∀ s3:Shared,s3={ s2 with heap:=h₁,toks:=s2.toks+([]:List (Str×Value)).length }->
    codeAny (model X.prog X.w) X.A (.compLoop (.ListComp elt [⟨.Name x px,iter,ifs,0⟩] scope pos) 0 (.ref itA) (.ref s2.heap.objs.size) Y.env) (compPost (model X.prog X.w) X.A X.xe use Q' (.ref s2.heap.objs.size) HP.objs.size) s3:=by
   rintro s3 rfl
   subst hX
   have fr0:∀ b∈fp,upd H2 s2.heap.objs.size (.lst []) b=none:=fun b hb=>by
    rw[aT (Qo (hfl b hb))];exact(f2 b hb).1
   refine codeAny_compLoop_tests (fun n s'=>∃ c:CW,n=ds.length-c.i/\CS (cxC X x scope HP.objs.size s2 H2 fp) pins σ tn fp Hi2 H2 s2.heap.objs.size 1 (fun i=>fF t f ρ (ds.drop i)) es c s') ?_ ds.length
    ⟨⟨0,[none],_,Hi2,[],[],es⟩,rfl,⟨IE,rfl,tn1,fr0,(Ext.refl e2.s).trans (Ext.newF e2.s H2D),aQ,Hi2D,.nil,Qb _,hes,rfl⟩⟩
   ·rintro n s3 ⟨⟨i,vv,H3,Hi3,ys,done,rest⟩,rfl,I3,wd3,st3,fr3,e3,hD3,hiD3,rd3,hl3,hr3,hes3⟩
    dsimp only at I3 wd3 st3 fr3 e3 hD3 hiD3 rd3 hl3 hr3 hes3 ⊢
    obtain⟨v,rfl⟩:∃ v,vv=[v]:=by
     match vv,wd3 with
     | [v],_=>exact⟨v,rfl⟩
    obtain⟨w1,w2⟩:=gv Hi3 H3 e3.i e3.s i;have lift:∀ {α:Type} {m:Sem α} {Q':α->Shared->Prop} {E:Value->Shared->Prop} {s':Shared},wpAny (model X.prog X.w) X.A m Q' (cxC X x scope HP.objs.size s2 H2 fp).xe s'->wpAny (model X.prog X.w) X.A m Q' E s':=fun h=>wpAny_mono h (fun _ _ z=>z) fun e s z=>(Yxe e s z).elim
    by_cases hlt:i<ds.length
    ·obtain⟨d,hd⟩:∃ d,ds[i]?=some d:=⟨_,Qj hlt⟩
     obtain⟨go,yl⟩:=w2 d hd
     have e4:ds.drop i=d::ds.drop (i+1):=by
      rw[Qj hlt] at hd;cases hd;exact Ut hlt
     rw[e4] at hr3;refine thn (T.item (cxC X x scope HP.objs.size s2 H2 fp) rfl rfl rfl hc.1 i pins s3 _ H3 _ I3 (stat fr3) st3 go) fun r s4 ⟨u,hru,h4⟩=>?_
     subst hru;refine zJW h4 fun s5 h5=>?_
     obtain⟨xv,H5,I5,r5,y5,st5,fr5⟩:=h5;obtain⟨Hi5,e5,rd5⟩:=yl xv H5 y5;have I5':=I5.pinned (stat fr5) (T.obj _ _ st5);refine wpAny_assign_Name (nM I5' YN Yx (.inl Yl) r5 (fun s6 I6=>?_) (.inr Yl))
     have es6:(σ++[v]).set σ.length (some xv)=σ++[some xv]:=by rw[Uu _ _ (Qb _),Yc];rfl
     rw[es6] at I6;have E5:Ext Hi2 H2 Hi5 H5:=e3.trans e5;have R5:jG (cxC X x scope HP.objs.size s2 H2 fp) ⟨G.B,G.Bi,fun _ _=>False⟩ Hi5 H5 (σ++[some xv]) (ρ++[.val d]):=Rel.snoc (R2.grow E5) rd5
     obtain⟨hD5,hiD5⟩:=e5.out hD3 hiD3;have rd5':=rd3.mono e5.i
     have again:∀ {H8 Hi8:Hp} {ys':List V} {done' rest':List D} {s8:Shared},Inv (cxC X x scope HP.objs.size s2 H2 fp) (pins++sU fp s5.heap) (σ++[some xv]) H8 s8->Ext Hi2 H2 Hi8 H8->H8 s2.heap.objs.size=some (.lst ys')->Hi8 s2.heap.objs.size=none->IsDs X.K Hi8 ys' done'->done'.length<=i+1->
       fF t f ρ (ds.drop (i+1))=.ok rest'->es=done'++rest'->∃ m,m<ds.length-i/\∃ c:CW,m=ds.length-c.i/\CS (cxC X x scope HP.objs.size s2 H2 fp) pins σ tn fp Hi2 H2 s2.heap.objs.size 1 (fun i=>fF t f ρ (ds.drop i)) es c s8:=fun {H8 Hi8 ys' done' rest' s8} I8 E8 a1 a2 a3 a4 a5 a6=>by
      refine⟨ds.length-(i+1),by omega,⟨i+1,[some xv],H8,Hi8,ys',done',rest'⟩,rfl,⟨I8.unpinned,rfl,T.keep _ _ _ st5 fun b hb o e=>(I8.pin (b,o) (Qu _ (Qu _ (eE hb e)))).1,fun b hb=>?_,E8,a1,a2,a3,a4,a5,a6⟩⟩
      obtain⟨o,e,_⟩:=T.obj _ _ st5 b hb;exact(I8.pin (b,o) (Qu _ (Qu _ (eE hb e)))).2.1
     rcases zDw hr3 with⟨ht,hr4⟩ | ⟨ht,e,es',hf,hr4,hee⟩
     ·refine lift (thn (hts _ s6 _ H5 (fun b H'=>b=false/\∃ Hi',Ext Hi5 H5 Hi' H') I6 ⟨_,Hi5,R5,by rw[ht];exact fun Hi' H' e=>⟨rfl,Hi',e⟩⟩) fun b s7 h7=>?_)
      obtain⟨H7,I7,rfl,Hi7,e7⟩:=h7;obtain⟨hD7,hiD7⟩:=e7.out hD5 hiD5;exact again I7 (E5.trans e7) hD7 hiD7 (rd5'.mono e7.i) (by omega) hr4 hes3
     ·refine lift (thn (hts _ s6 _ H5 (fun b H'=>b=true/\∃ Hi',Ext Hi5 H5 Hi' H') I6 ⟨_,Hi5,R5,by rw[ht];exact fun Hi' H' e=>⟨rfl,Hi',e⟩⟩) fun b s7 h7=>?_)
      obtain⟨H7,I7,rfl,Hi7,e7⟩:=h7;obtain⟨hD7,hiD7⟩:=e7.out hD5 hiD5;simp only[if_true];refine lift (thn (hel _ s7 _ H7 (fun w H'=>∃ Hi',Ext Hi7 H7 Hi' H'/\IsD X.K Hi' w e) I7 ⟨_,Hi7,R5.grow e7,by rw[hf];exact fun Hi' H' ee w hw=>⟨Hi',ee,hw⟩⟩) fun u8 s8 h8=>?_)
      obtain⟨w8,H8,I8,r8,Hi8,e8,rw8⟩:=h8;obtain⟨hD8,hiD8⟩:=e8.out hD7 hiD7;have rdy:IsDs X.K Hi8 ys done:=(rd5'.mono e7.i).mono e8.i;refine lift (thn (nR (X:=(cxC X x scope HP.objs.size s2 H2 fp)) _ s8 _ H8 (.ref s2.heap.objs.size) [w8] (.ref s2.heap.objs.size) [u8] (fun _ H'=>H'=upd H8 s2.heap.objs.size (.lst (ys++[w8]))) I8 rfl (.cons r8 .nil) ⟨_,ys,w8,rfl,rfl,hD8,?_,rfl⟩) fun _ s9 h9=>?_)
      ·rw[rdy.length]
       exact Vz hl3 (Ql hlt (Qp hlen (by decide)))
      ·obtain⟨_,H9,I9,_,rfl⟩:=h9
       refine again I9 (Ext.rewrite ((E5.trans e7).trans e8) H2D hiD8 ⟨_,hD8⟩) aQ hiD8 (rdy.snoc rw8) (by rw[Qm];exact V7 hl3) hr4 ?_
       rw[hes3,hee,Xi];rfl
    ·rw[Yo (by omega),fF] at hr3
     cases hr3;refine thn (T.done (cxC X x scope HP.objs.size s2 H2 fp) rfl rfl rfl hc.1 i pins s3 _ H3 _ I3 (stat fr3) st3 (w1 (by omega))) fun r s4 ⟨hrn,I4⟩=>?_
     subst hrn;obtain⟨m4,hn4,_⟩:=I4.loc;have fC:H3 HP.objs.size=none:=I4.free;have nC:∀ b u,H3 b=some u->b≠HP.objs.size:=fun b u e z=>by rw[z,fC] at e;cases e
     have U4:=I4.base;refine hend HP.objs.size s2.heap.objs.size m4 s4 H3 hn4 (fun h' hs'=>?_) (I2.fpOk (by rw[hC];omega) fC) ?_
     ·have kp:∀ b o,b≠HP.objs.size->s4.heap.get? b=some o->h'.get? b=some o:=fun b o hb e=>hs'.extBut b o hb e
      refine Inv.call' I2 (ch:=fp) I4.os ⟨fun b o e n hb hx=>kp b o (ltC e) (U4.keep b o e n hb hx),fun b o e n hb hx=>?_,U4.free,fun b o e hx=>?_,U4.tups,U4.frzs,U4.tbls⟩ (fun b u e=>?_) I4.bare (fun b hb=>⟨(f2 b hb).2.2.2.1,(f2 b hb).2.1,(f2 b hb).2.2.2.2.1,(f2 b hb).2.2.2.2.2⟩)
      ·obtain⟨sl,q⟩:=U4.slot b o e n hb hx
       exact⟨sl,kp b _ (ltC e) q⟩
      ·obtain⟨o',q⟩:=U4.there b o e hx
       exact⟨o',kp b _ (ltC e) q⟩
      ·refine(I4.hok b u e).stay (fun c v hc q=>kp c v ?_ q) (fun _ q=>q) fun _ _ q=>q
       rcases hc with z | z
       ·rw[z];exact nC b u e
       ·exact nC c _ z
     ·refine ou2 Hi3 H3 e3 _ ⟨HD,hiD3,ys,hD3,?_⟩
      rw[hes3,Vr];exact rd3
  rw[Ye] at loop;exact codeAny_compStart_list (loop _ rfl) (T.self _ 0 _ _ _ tn1 (loop _ rfl))
theorem zJL(hc:X.calm=true/\TB X.K X.mg G.Bi G.B)(hr:Room k X.A)(Bk:BlkOk X x scope)(hN:X.N.Nodup)(h0:("" : Str)∉X.N)(hx0:x≠("" : Str))(hi:PId X G (.Name x px) iter it)
  (hb:∀(C:Addr)(s₂:Shared)(H₂:Hp)(fp:List Addr)(G':Gx),Good (cxC X x scope C s₂ H₂ fp) G' k->PTs (cxC X x scope C s₂ H₂ fp) G' ifs t/\PEd (cxC X x scope C s₂ H₂ fp) G' elt f)
  (hs:∀ x,foldedSetIterable iter X.env x=pure x:=by intro _;rfl):PEf X G (.ListComp elt [⟨.Name x px,iter,ifs,0⟩] scope pos) (xL it t f):=by
 intro pins s σ H Q I w;obtain⟨ρ,Hi,R,ou⟩:=w;rw[eval_ListComp];refine zGa hc hr Bk hN h0 hx0 hi hb hs (use:=none) (Qa:=fun a H'=>Q (.ref a) H') I R ou fun C A m s4 H3 hn hI _ q=>?_
 exact⟨m,hn,fun h' hs'=>⟨.ref A,H3,hI h' hs',rfl,q⟩⟩
def PC(X:Cx)(e:Expr)(t:TE):Prop:=∀(pins:List (Addr×Obj))(s:Shared)(σ:St)(H:Hp)(Q:VK),Inv X pins σ H s->t σ H Q->∀(u:Value->Sem Unit)(Q':Unit->Shared->Prop),
 (∀(C:Addr)(m:Str->Option Value)(s4:Shared)(v:V)(w:Value)(H3:Hp),s4.heap.Ns C m->(∀ h',Heap.SameBut C s4.heap h'->Inv X pins σ H3 { s4 with heap:=h' })->qS X pins H3 C->cO v w->Q v H3->
  wpAny (model X.prog X.w) X.A (u w) (fun _ s''=>∃ m,s''.heap.Ns C m/\∀ h',Heap.SameBut C s''.heap h'->Q' () { s'' with heap:=h' }) X.xe s4)->wpAny (model X.prog X.w) X.A (evalThenUse e X.env u) Q' X.xe s
@[irreducible] def PCd (X:Cx) (G:Gx) (e:Expr) (f:Ev):Prop:=PC X e (tD X G f)
unseal PCd
@[irreducible] def PCf (X:Cx) (G:Gx) (e:Expr) (f:Fv):Prop:=PC X e (tF X G f)
unseal PCf
end
end L3
namespace L3
open PySem PySem.Spec PyProof.Rows L2
unseal PEd PEf PTd PWd PAd PSd dF POd PGd fT PId PSx iV PTs PCd PCf
def zOC(sc:Scope)(N:List Str)(x:Str)(scope:Scope):Bool:=
 scope.names.all (fun y=>y.2 != .cell) && scope.names.lookup x==some .local && scope.names.all (fun y=>y.2 != .local || scope.names.lookup y.1==some .local)
  && scope.names.all (fun p=>p.2 != .free || (sc.names.lookup p.1==some .cell || sc.names.lookup p.1==some .free)) && N.all (fun y=>y==x || scope.names.lookup y != some .local) && (scope.names.lookup ("" : Str)).isNone && !N.contains ("" : Str) && x != ("" : Str)
section
variable{X:Cx}{G:Gx}{elt iter:Expr}{x:Str}{px pos:Pos}{ifs:List Expr}{scope sc:Scope}{it:Fv}{t:Tv}{f:Ev}{k:Nat}{N:List Str}
theorem zLY(hk:scope.kind=.function)(hsc:X.env.scope=sc)(hN:X.N=N)(h:zOC sc N x scope=true):BlkOk X x scope/\("" : Str)∉X.N/\x≠("" : Str):=by
 unfold zOC at h;simp only[Vg] at h;obtain⟨⟨⟨⟨⟨⟨⟨h1,h2⟩,h3⟩,h4⟩,h5⟩,h6⟩,h7⟩,h8⟩:=h;subst hN hsc;refine⟨⟨hk,fun y hy e=>?_,beq_iff_eq.mp h2,fun y hy e=>?_,fun p hp e=>?_,fun y hy hne e=>?_,?_⟩,fun z=>?_,fun z=>?_⟩
 ·have:=V0.mp h1 y hy
  rw[e] at this;cases this
 ·have:=V0.mp h3 y hy
  rw[e] at this;simpa using this
 ·have:=V0.mp h4 p hp
  rw[e] at this;have q:X.env.scope.names.lookup p.1=some .cell∨X.env.scope.names.lookup p.1=some .free:=by simpa using this
  exact q
 ·have:=V0.mp h5 y hy
  rw[e] at this;simp[hne] at this
 ·simpa using h6
 ·have:X.N.contains ("" : Str)=true:=by simpa using z
  rw[this] at h7;cases h7
 ·rw[z] at h8;simp at h8
theorem oT(W:Good X G k)(hnd:N.Nodup)(hk:scope.kind=.function)(hsc:X.env.scope=sc)(hN:X.N=N)(h:zOC sc N x scope=true)(hi:PId X G (.Name x px) iter it)
  (hb:∀(C:Addr)(s₂:Shared)(H₂:Hp)(fp:List Addr)(G':Gx),Good (cxC X x scope C s₂ H₂ fp) G' k->PTs (cxC X x scope C s₂ H₂ fp) G' ifs t/\PEd (cxC X x scope C s₂ H₂ fp) G' elt f)
  (hs:∀ x,foldedSetIterable iter X.env x=pure x:=by intro _;rfl):PEf X G (.ListComp elt [⟨.Name x px,iter,ifs,0⟩] scope pos) (xL it t f):=by
 obtain⟨b,h0,hx⟩:=zLY hk hsc hN h;exact zJL ⟨W.calm,W.tb⟩ W.room b (hN ▸ hnd) h0 hx hi hb hs
end
section
variable{X:Cx}{G:Gx}{a b:Expr}{pos:Pos}{f:Fv}{g:Ev}
theorem IsDs.rep{K:Fg_}{H:Hp}{xs:List V}{ds:List D}(h:IsDs K H xs ds):∀ n:Nat,IsDs K H (List.replicate n xs).flatten (List.replicate n ds).flatten
 | 0=>.nil
 | n+1=>by
  rw[Xh,Xh,Xv,Xv];exact h.append (IsDs.rep h n)
theorem zFa(ha:PEf X G a f)(hb:PEd X G b g):PEf X G (.BinOp a .Mult b pos) (zKU f g):=PE.wk (zV zMo ha hb) fun σ H Q q=>by
 obtain⟨ρ,Hi,R,ou⟩:=q;refine⟨ρ,Hi,R,(Out.bind ou).imp fun ds Hi1 H1 e1 o1 l nl=>?_⟩
 refine⟨ρ,Hi1,R.grow e1,(Out.bind o1).imp fun d Hi2 H2 e2 o2 v rv=>?_⟩
 cases d<;>first | exact o2.elim | skip
 rename_i k
 obtain⟨n1,n2,xs,n3,n4⟩:=nl;have o2':Out G Hi2 H2 (if 0<=k/\k<2^62/\ds.length*k.toNat<=16777216 then Res.ok (List.replicate k.toNat ds).flatten else .no) _:=o2;by_cases hz:0<=k/\k<2^62/\ds.length*k.toNat<=16777216
 ·rw[if_pos hz] at o2'
  refine⟨l,k,xs,rfl,rv.intI,e2.h.at n3,by omega,by omega,by rw[n4.length];exact hz.2.2,fun p hp=>?_⟩
  exact o2' _ _ (Ext.newF e2.s hp) p ⟨(e1.h.trans e2.h).none hp,e2.s.none hp,_,aQ,(n4.mono e2.i).rep _⟩
 ·rw[if_neg hz] at o2';exact o2'.elim
end
section
variable{es r:List Expr}{a b f:Expr}{k:Nat}{p:Pos}{x:Str}{c:Const}{env:Env}
theorem oB:starEach (.Tuple es k p::r) env=(false,eval (.Tuple es k p) env)::starEach r env:=rfl
theorem aS{o:Operator}:starEach (.BinOp a o b p::r) env=(false,eval (.BinOp a o b p) env)::starEach r env:=rfl
theorem bI:starEach (.Subscript a b p::r) env=(false,eval (.Subscript a b p) env)::starEach r env:=rfl
theorem aH:starEach (.Name x p::r) env=(false,eval (.Name x p) env)::starEach r env:=rfl
theorem cE:starEach (.Constant c k p::r) env=(false,eval (.Constant c k p) env)::starEach r env:=rfl
theorem aJ{ks:List Keyword}:starEach (.Call f es ks p::r) env=(false,eval (.Call f es ks p) env)::starEach r env:=rfl
end
section
variable{X:Cx}{G:Gx}{e st:Expr}{te tk:TE}{lo hi:Option Expr}{tl th:TO}{pos p2:Pos}{f g:Ev}{l h:Ov}
end
end L3
set_option maxRecDepth 100000
namespace L3
open PySem PySem.Spec PyProof.Rows L2
section
variable{prog:Program}{w:World}{A:Around}{E:Value->Shared->Prop}{s:Shared}
end
section
unseal PEd PEf PTd PWd PAd PSd dF POd PGd fT PId PSx iV PTs PCd PCf
variable{X:Cx}{G:Gx}{fs:Fv}{f:Ev}
end
end L3
namespace L3
open PySem PySem.Spec PyProof.Rows L2
unseal PEd PEf PTd PWd PAd PSd dF POd PGd fT PId PSx iV PTs PCd PCf
section
variable{X:Cx}{G:Gx}
def zOW(K:PySem.W.Frag):List V->Hp->VK->Prop:=fun xs H Q=>∃(a:Addr)(ns:List Int),xs=[.ref a]/\(SqL K H a (ns.map V.int)∨SqT K H a (ns.map V.int))/\Q (.int ns.sum) H
theorem rR(ns:List Int):∀ j,preSum (fun i=>ns.getD i 0) j=(ns.take j).sum
 | 0=>by rw[List.take_zero];rfl
 | j+1=>by
  rw[preSum,rR ns j,Yn];rw[Qr]
  cases ns[j]? with
  | none=>simp
  | some x=>simp
theorem vN{ns:List Int}{its:List Value}(r:dD (ns.map V.int) its){i:Nat}{v:Value}(h:its[i]?=some v):∃ t,v=.int (ns.getD i 0) t:=by
 have hl:=r.length;rw[Qh] at hl;have hi:=(Vd.mp h).1
 have hx:(ns.map V.int)[i]?=some (.int (ns.getD i 0)):=by
  rw[Qq,Qr,Qj (by omega)];rfl
 obtain⟨u,hu,ru⟩:=r.get hx;rw[h] at hu;cases hu;exact ru
theorem jN(hc:X.calm=true):uO X (.builtin "sum") (zOW X.K):=by
 intro pins s σ H xs us Q I r h;obtain⟨a,ns,rfl,hq,q⟩:=h;obtain⟨u,rfl,ru⟩:=r.one;cases ru;have hh:=I.ok.hd hc;rcases hq with hq | hq
 ·obtain⟨its,rv,p,hz⟩:=I.list hq
  have hlt:a<s.heap.objs.size:=by obtain⟨_,e,_⟩:=p.isList;exact Heap.lt_size e
  have hl:=rv.length;rw[Qh] at hl;refine call_sum_walkG (wpAny_pyIter_list p.isList ?_)
  refine⟨s.heap.objs.size,_,_,_,_,_,fun i=>ns.getD i 0,rfl,Walks.list (A:=X.A.in1) hh s.heap.objs.size a (Qo hlt) its.toArray,⟨⟨_,Heap.get?_push_size _ rfl,rfl,rfl⟩,p.isList.push _⟩,fun b hb=>?_,fun i v hv=>vN rv (by simpa using hv),fun h' tk t' hk=>?_⟩
  ·show b<(s.heap.push _).objs.size
   rw[Heap.size_push];rcases Qc.mp hb with rfl | hb
   ·exact Yd _
   ·rcases Qc.mp hb with rfl | hb
    ·exact Xa hlt
    ·cases hb
  ·refine⟨.int ns.sum,H,I.kept (t':=tk) fun b o e=>hk b o (fun z=>?_) (Heap.get?_push_of_some _ e),⟨t',?_⟩,q⟩
   ·have z':b=s.heap.objs.size:=by simpa using z
    have l:=Heap.lt_size e;rw[z'] at l;exact Vm _ l
   ·rw[Qf,<-hl,rR,Xb]
 ·obtain⟨its,rv,p,hz⟩:=I.tuple hq
  have p':s.heap.IsTuple a its.toArray:=p;have hlt:a<s.heap.objs.size:=by obtain⟨_,e,_⟩:=p';exact Heap.lt_size e
  have hl:=rv.length;rw[Qh] at hl;refine call_sum_walkG (wpAny_pyIter_tuple p' ?_)
  refine⟨s.heap.objs.size,_,_,_,_,_,fun i=>ns.getD i 0,rfl,Walks.tuple (A:=X.A.in1) hh s.heap.objs.size a (Qo hlt) its.toArray,⟨⟨_,Heap.get?_push_size _ rfl,rfl,rfl⟩,p'.push _⟩,fun b hb=>?_,fun i v hv=>vN rv (by simpa using hv),fun h' tk t' hk=>?_⟩
  ·show b<(s.heap.push _).objs.size
   rw[Heap.size_push];rcases Qc.mp hb with rfl | hb
   ·exact Yd _
   ·rcases Qc.mp hb with rfl | hb
    ·exact Xa hlt
    ·cases hb
  ·refine⟨.int ns.sum,H,I.kept (t':=tk) fun b o e=>hk b o (fun z=>?_) (Heap.get?_push_of_some _ e),⟨t',?_⟩,q⟩
   ·have z':b=s.heap.objs.size:=by simpa using z
    have l:=Heap.lt_size e;rw[z'] at l;exact Vm _ l
   ·rw[Qf,<-hl,rR,Xb]
theorem iZ{K:Fg_}{H:Hp}:∀ {xs:List V} {ds:List D} {ns:List Int},IsDs K H xs ds->mC ds=some ns->xs=ns.map V.int
 | _,_,ns,.nil,h=>by cases h;rfl
 | _,_,ns,.cons (d:=d) (ds:=ds) r rs,h=>by
  cases d with
  | int i=>
   rw[mC] at h
   cases z:mC ds with
   | none=>rw[z] at h;cases h
   | some ms=>
    rw[z] at h;cases h;rw[r.intI,iZ rs z];rfl
  | _=>cases h
theorem rP:zB X (zOW X.K) zAS:=⟨fun a c z=>(by
  unfold zAS at z;split at z
  ·split at z<;>cases z
  ·split at z<;>cases z
  ·cases z),fun Hi H vs ds d Q s r z q=>by
  unfold zAS at z;split at z
  ·split at z
   ·rename_i ns hns
    cases z;obtain⟨v,rfl,h⟩:=r.one;obtain⟨a,xs,rfl,h1,h2⟩:=h.lstI;have e:=iZ h2 hns;subst e;exact⟨a,ns,rfl,.inl (cC s h1),q _ Hi H (Ext.refl s) (.int _)⟩
   ·cases z
  ·split at z
   ·rename_i ns hns
    cases z;obtain⟨v,rfl,h⟩:=r.one;obtain⟨a,xs,rfl,h1,h2⟩:=h.tupI;have e:=iZ h2 hns;subst e;exact⟨a,ns,rfl,.inr (bN s h1),q _ Hi H (Ext.refl s) (.int _)⟩
   ·cases z
  ·cases z⟩
theorem gY:bootBuiltins "sum" = some (.builtin "sum"):=by first | rfl | decide +kernel
end
section
variable{prog:Program}{w:World}{A:Around}{E:Value->Shared->Prop}{s:Shared}
end
section
variable{X:Cx}{G:Gx}{es:List Expr}{pos:Pos}
end
theorem ln0{α:Type}{us:List α}(h:us.length=0):us=[]:=Us h
theorem ln1{α:Type}{us:List α}(h:us.length=1):∃ a0:α,us=[a0]:=by
 cases us with
 | nil=>cases h
 | cons a r=>
  cases ln0 (Y3 h)
  exact⟨a,rfl⟩
theorem ln2{α:Type}{us:List α}(h:us.length=2):∃ a0 a1:α,us=[a0,a1]:=by
 cases us with
 | nil=>cases h
 | cons a r=>
  obtain⟨a1,rfl⟩:=ln1 (Y3 h);exact⟨a,a1,rfl⟩
theorem ln3{α:Type}{us:List α}(h:us.length=3):∃ a0 a1 a2:α,us=[a0,a1,a2]:=by
 cases us with
 | nil=>cases h
 | cons a r=>
  obtain⟨a1,a2,rfl⟩:=ln2 (Y3 h);exact⟨a,a1,a2,rfl⟩
theorem ln4{α:Type}{us:List α}(h:us.length=4):∃ a0 a1 a2 a3:α,us=[a0,a1,a2,a3]:=by
 cases us with
 | nil=>cases h
 | cons a r=>
  obtain⟨a1,a2,a3,rfl⟩:=ln3 (Y3 h);exact⟨a,a1,a2,a3,rfl⟩
section
variable{X:Cx}{G:Gx}{a b c e:Expr}{pos p2:Pos}{f g h:Ev}{fs:Fv}{lo hi:Option Expr}{l u:Ov}
end
section
variable{X:Cx}{G:Gx}{a b c e:Expr}{pos p2 p:Pos}{f g h:Ev}{fs:Fv}{x:Str}
theorem zDG{bl:List Stmt}:dF X G bl sNo:=fun pins s σ H E I q=>by
 obtain⟨ρ,Hi,R,ou⟩:=q;exact ou.elim
def zHf(T:List (Str×Str)):List (Str×KTD.Dat):=T.map fun q=>(q.1,.flat (.str q.2))
structure IsTab (K:PySem.W.Frag) (mg:Str->Option Value) (x:Str) (T:List (Str×Str)) (a:Addr):Prop where
 mg:mg x=some (.ref a)
 tab:∀ h:Heap,K.In h->KTD.TextTab h a (zHf T)
theorem zEs(k:Str):∀ T:List (Str×Str),KTD.datumAt k (zHf T)=(T.lookup k).map fun y=>.flat (.str y)
 | []=>rfl
 | (x,y)::r=>by
  show(if decide (k=x)=true then some (KTD.Dat.flat (.str y)) else KTD.datumAt k (zHf r))=_
  rw[Vu];by_cases hx:k=x
  ·rw[if_pos (decide_eq_true hx),show(k==x)=true from beq_iff_eq.mpr hx];rfl
  ·rw[if_neg (by simp[hx]),show(k==x)=false from beq_eq_false_iff_ne.mpr hx];exact zEs k r
theorem zFp(k:Str)(T:List (Str×Str)):KTD.inKeys k (zHf T)=(T.lookup k).isSome:=by
 rw[<-KTD.isSome_datumAt,zEs,Option.isSome_map]
theorem zIl{T:List (Str×Str)}{ad:Addr}(t:IsTab X.K X.mg x T ad)(hg:Gl X x)(hd:(x==("__debug__" : Str))=false:=by decide):PE X (.Name x p) (tC (.ref ad)):=zGp hg t.mg rfl hd
theorem zFy{T:List (Str×Str)}{ad:Addr}(t:IsTab X.K X.mg x T ad):OpR X (compareOp .NotIn) (fun v y H Q=>∃ k,v=.str k/\y=.ref ad/\Q (.bl (!(T.lookup k).isSome)) H):=by
 intro pins s σ H v y u w Q I rx ry h;obtain⟨k,rfl,rfl,q⟩:=h;obtain⟨tk,rfl⟩:=rx;cases ry;refine KTD.notin_text ⟨t.tab s.heap I.kIn,fun _ _ e=>e⟩ ?_
 rw[zFp];exact⟨.bl _,H,I.tok _,rfl,q⟩
theorem zAO{h₀:Heap}{k:Str}{P:Value->Prop}:∀ {T:List (Str×Str)},(∀ z t,T.lookup k=some z->P (.str z t))->KTD.EachL h₀ k P (zHf T)
 | [],_=>trivial
 | [(x,y)],hP=>fun hk t=>hP y t (by rw[Vu,show(k==x)=true from beq_iff_eq.mpr hk])
 | (x,y)::q::r,hP=>by
  show if decide (k=x)=true then KTD.Opened h₀ P (.flat (.str y)) else KTD.EachL h₀ k P (zHf (q::r))
  by_cases hk:k=x
  ·rw[if_pos (decide_eq_true hk)]
   exact fun t=>hP y t (by rw[Vu,show(k==x)=true from beq_iff_eq.mpr hk])
  ·rw[if_neg (by simp[hk])]
   exact zAO fun z t hz=>hP z t (by rw[Vu,show(k==x)=false from beq_eq_false_iff_ne.mpr hk];exact hz)
theorem zEH(T:List (Str×Str)):((zHf T).all fun q=>KTD.plain q.2)=true:=by
 unfold zHf;rw[List.all_map];exact V0.mpr fun _ _=>rfl
theorem zKX{T:List (Str×Str)}{ad:Addr}(t:IsTab X.K X.mg x T ad):IxR X (fun v y H Q=>∃ k z,v=.ref ad/\y=.str k/\T.lookup k=some z/\Q (.str z) H):=by
 intro value slice pins s σ H v y u w Q I rx ry h hs;obtain⟨k,z,rfl,rfl,hk,q⟩:=h;cases rx;obtain⟨tk,rfl⟩:=ry;refine KTD.item_textA ⟨t.tab s.heap I.kIn,fun _ _ e=>e⟩ (zEH T) (by rw[zFp,hk];rfl) ?_ hs
 refine zAO fun z' t' hz=>?_
 rw[hk] at hz;cases hz;exact⟨.str _,H,I.tok _,⟨_,rfl⟩,q⟩
theorem unT{o:D->Res D}{r:R2}{y:V}(hr:∀ (Hi H:Hp) (v:V) (d:D) (Q:VK),IsD X.K Hi v d->Same Hi H->(∃ d',o d=.ok d'/\(∀ w Hi' H',Ext Hi H Hi' H'->IsD X.K Hi' w d'->Q w H'))->r v y H Q)
  (he:∀ d c,o d≠.err c):∀ σ H Q,tD X G (eUn o f) σ H Q->tOp r (tD X G f) (tC y) σ H Q:=fun σ H Q q=>by
 obtain⟨ρ,Hi,R,ou⟩:=q;refine zBD R ou fun v d Hi1 H1 e1 R1 r1 o1=>?_
 cases z:o d with
 | no=>rw[z] at o1;exact o1.elim
 | err c=>exact absurd z (he d c)
 | ok d'=>rw[z] at o1;exact hr Hi1 H1 v d Q r1 R1.s ⟨d',z,fun w Hi' H' e1 r1=>o1 Hi' H' e1 w r1⟩
theorem zLt{T:List (Str×Str)}{ad:Addr}:∀ σ H Q,tD X G (eUn (pP T) f) σ H Q->tOp (fun v y H Q=>∃ k,v=.str k/\y=.ref ad/\Q (.bl (!(T.lookup k).isSome)) H) (tD X G f) (tC (.ref ad)) σ H Q:=
 unT (fun Hi H v d Q r s h=>by
  obtain⟨d',z,q⟩:=h;unfold pP at z;split at z
  ·cases z;exact⟨_,r.strI,rfl,q _ Hi H (Ext.refl s) (.bl _)⟩
  ·cases z) fun d c z=>by unfold pP at z;split at z<;>cases z
theorem zLK{op:CmpOp}{o:D->Res D}{r:R2}{y:V}(hp:PT X (.Compare a [op] [b] pos) (zNn (tOp r (tD X G f) (tC y))))(hu:∀ σ H Q,tD X G (eUn o f) σ H Q->tOp r (tD X G f) (tC y) σ H Q):PTd X G (.Compare a [op] [b] pos) (dR (eUn o f)):=
 PT.wk hp fun σ H Q q=>by
  obtain⟨ρ,Hi,R,ou⟩:=q;refine hu σ H _ ⟨ρ,Hi,R,ou.bind.imp fun d Hi' H' e o v r=>?_⟩
  cases d with
  | bl c=>rw[r.blI];exact⟨c,rfl,o.here e.s⟩
  | _=>exact o.elim
theorem zHW{T:List (Str×Str)}{ad:Addr}(t:IsTab X.K X.mg x T ad)(hg:Gl X x)(ha:PEd X G a f)(hm:behindInMarks .NotIn (.Name x p)=false)(hd:(x==("__debug__" : Str))=false:=by decide):PTd X G (.Compare a [.NotIn] [.Name x p] pos) (dR (eUn (pP T) f)):=
 zLK (zBz (zFy t) ha (zIl t hg hd) hm) zLt
theorem zMy{T:List (Str×Str)}{ad:Addr}(t:IsTab X.K X.mg x T ad)(hg:Gl X x)(hb:PEd X G b g)(hs:zBj b)(hd:(x==("__debug__" : Str))=false:=by decide):PEd X G (.Subscript (.Name x p) b pos) (eUn (zF T) g):=
 PE.wk (zDq (zKX t) (zIl t hg hd) hb hs) fun σ H Q q=>by
  obtain⟨ρ,Hi,R,ou⟩:=q;refine zBD R ou fun v d Hi1 H1 e1 R1 r1 o1=>?_
  cases d with
  | str k=>
   have o2:Out G Hi1 H1 (zLb (T.lookup k)) _:=o1
   cases z:T.lookup k with
   | none=>rw[z] at o2;exact o2.elim
   | some y=>rw[z] at o2;exact⟨k,y,rfl,r1.strI,z,o2.here R1.s _ (.str _)⟩
  | _=>exact o1.elim
end
section
variable{prog:Program}{w:World}{A:Around}{R:Result->Shared->Prop}{I:Addr}{fp wr:List Addr}{n:Nat}{P:Nat->Value->Prop}{St:Nat->Heap->Prop}{kw:List (Str×Value)}
def zKr(R:Result->Shared->Prop)(wr:List Addr)(S:Addr)(s:Shared)(P:Value->Prop):Prop:=
 ∀ v h' tk,P v->(∀ b o,b∉wr->b≠S->s.heap.get? b=some o->h'.get? b=some o)->R (.ok (.ret v)) { s with heap:=h',toks:=tk }
def zOb(s:Shared)(S:Addr)(vs:Array Value)(c:Nat):Prop:=s.heap.get? S=some { cls:=.type "list", dict:=none,data:=.seq vs c,slots:=#[] }
theorem zCr:(toString "max" ++ toString ".loop" : String) = "max.loop" := by decide
theorem zKk(W:Walks prog w A.in1 I fp wr n P St)(bt:Nat->Nat->Bool)(hcmp:CmpOf prog w A.in1 .Gt P bt)(S:Addr)(hSf:S∉fp):
  ∀(k j:Nat)(s:Shared)(vb:Value)(c:Nat),n-(j+1)=k->j+1<=n->St (j+1) s.heap->P (argBest bt j) vb->zOb s S #[vb,vb] c->zKr R wr S s (P (argBest bt (n-1)))->
  codeAny (model prog w) A (.builtin "max.loop" ⟨[.ref I,.none,.ref S],kw⟩) R s:=by
 have hSw:S∉wr:=fun h=>hSf (W.sub _ h)
 intro k
 induction k with
 | zero=>
  intro j s vb c hk hj hst hPb hS hR;have hin:j+1=n:=by omega
  refine codeAny_builtin F.entry_max_loop ?_;rw[Around.under_plainId F.plain_max_loop _]
  refine wpAny_bind (wpAny_seqItems hS rfl ?_)
  refine wpAny_bind (m:=tryCatch (pyNext (.ref I)) _) (wpAny_tryCatch (W.done s _ _ (hin ▸ hst) fun h' tk hk'=>?_))
  have hS':=hk' S _ hSw hS;refine wpAny_bind (m:=updateSeq S (fun _=>#[])) (wpAny_updateSeq hS' rfl (wpAny_bind (wpAny_letGo (wpAny_pure ?_))))
  exact hR vb _ tk (by rw[<-hin];exact hPb) fun b o hbw hbS e=>(Heap.get?_update_other _ _ (Ne.symm hbS)).trans (hk' b o hbw e)
 | succ k ih=>
  intro j s vb c hk hj hst hPb hS hR;have hlt:j+1<n:=by omega
  refine codeAny_builtin F.entry_max_loop ?_;rw[Around.under_plainId F.plain_max_loop _]
  refine wpAny_bind (wpAny_seqItems hS rfl ?_)
  refine wpAny_bind (m:=tryCatch (pyNext (.ref I)) _) (wpAny_tryCatch (W.item (j+1) s _ _ hlt hst fun v h' tk hP hst' hk'=>?_))
  have hS':=hk' S _ hSw hS;refine wpAny_bind (m:=tryCatch (holding [v,v] (richCompare .Gt v vb >>= _)) _) (wpAny_tryCatch (wpAny_holding (wpAny_bind (hcmp (j+1) (argBest bt j) v vb _ _ _ hP hPb ?_))))
  refine wpAny_bind (wpAny_holding (wpAny_truthy_bool (wpAny_bind (wpAny_letGo (wpAny_pure ?_)))))
  cases hb:bt (j+1) (argBest bt j) with
  | true=>
   simp only[if_true];refine wpAny_bind ?_;refine wpAny_updateSeq hS' rfl (wpAny_bind (wpAny_letGo ?_));rw[zCr]
   refine wpAny_pure ⟨plainId_quiet F.plain_max_loop _,ih (j+1) _ v _ (by omega) hlt (W.frame _ _ _ hst' fun b hbf o e=>(Heap.get?_update_other _ _ (fun h:S=b=>hSf (by rw[h];exact hbf))).trans e) (by simp only[argBest,hb,if_true];exact hP) (Heap.get?_update_self _ hS' rfl) fun v' h'' tk'' hP' hk''=>?_⟩
   exact hR v' h'' tk'' hP' fun b o hbw hbS e=>hk'' b o hbw hbS ((Heap.get?_update_other _ _ (Ne.symm hbS)).trans (hk' b o hbw e))
  | false=>
   simp only[V9,if_false];refine wpAny_bind (wpAny_letGo ?_);rw[zCr]
   exact wpAny_pure ⟨plainId_quiet F.plain_max_loop _,ih (j+1) _ vb c (by omega) hlt hst' (by simp only[argBest,hb,V9,if_false];exact hPb) hS' fun v' h'' tk'' hP' hk''=>hR v' h'' tk'' hP' fun b o hbw hbS e=>hk'' b o hbw hbS (hk' b o hbw e)⟩
theorem zHm(W:Walks prog w A.in1 I fp wr n P St)(bt:Nat->Nat->Bool)(hcmp:CmpOf prog w A.in1 .Gt P bt)(S:Addr)(hSf:S∉fp)(hn:0<n){s:Shared}{c:Nat}(hst:St 0 s.heap)(hS:zOb s S #[] c)(hR:zKr R wr S s (P (argBest bt (n-1)))):
  codeAny (model prog w) A (.builtin "max.loop" ⟨[.ref I,.none,.ref S],kw⟩) R s:=by
 have hSw:S∉wr:=fun h=>hSf (W.sub _ h)
 refine codeAny_builtin F.entry_max_loop ?_;rw[Around.under_plainId F.plain_max_loop _]
 refine wpAny_bind (wpAny_seqItems hS rfl ?_)
 refine wpAny_bind (m:=tryCatch (pyNext (.ref I)) _) (wpAny_tryCatch (W.item 0 s _ _ hn hst fun v h' tk hP hst' hk'=>?_))
 have hS':=hk' S _ hSw hS;refine wpAny_bind (m:=updateSeq S (fun _=>#[v,v])) (wpAny_updateSeq hS' rfl ?_);rw[zCr]
 refine wpAny_pure ⟨plainId_quiet F.plain_max_loop _,zKk W bt hcmp S hSf _ 0 _ v _ rfl hn (W.frame _ _ _ hst' fun b hbf o e=>(Heap.get?_update_other _ _ (fun h:S=b=>hSf (by rw[h];exact hbf))).trans e) hP (Heap.get?_update_self _ hS' rfl) fun v' h'' tk'' hP' hk''=>?_⟩
 exact hR v' h'' tk'' hP' fun b o hbw hbS e=>hk'' b o hbw hbS ((Heap.get?_update_other _ _ (Ne.symm hbS)).trans (hk' b o hbw e))
theorem zKw{x:Str}{d:Value}(W:Walks prog w A.in1 I fp wr 0 P St)(S:Addr)(hSf:S∉fp){s:Shared}{c:Nat}(hst:St 0 s.heap)(hS:zOb s S #[] c)(hR:zKr R wr S s (·=d)):
  codeAny (model prog w) A (.builtin "max.loop" ⟨[.ref I,.none,.ref S],[(x,d)]⟩) R s:=by
 refine codeAny_builtin F.entry_max_loop ?_;rw[Around.under_plainId F.plain_max_loop _]
 refine wpAny_bind (wpAny_seqItems hS rfl ?_)
 refine wpAny_bind (m:=tryCatch (pyNext (.ref I)) _) (wpAny_tryCatch (W.done s _ _ hst fun h' tk hk'=>?_))
 exact wpAny_bind (wpAny_rule (wpAny_pure (hR d h' tk rfl fun b o hbw _ e=>hk' b o hbw e)))
end
section
variable{X:Cx}{G:Gx}{a c:Expr}{pos p kp:Pos}{f g:Ev}
theorem zEd(num:Nat->Int):∀ k,num (argBest (fun i j=>decide (num i > num j)) k)=wA (num 0) ((List.range k).map fun i=>num (i+1))
 | 0=>rfl
 | k+1=>by
  rw[Yq,Qy]
  have app:∀(l:List Int)(a b:Int),wA a (l++[b])=if b > wA a l then b else wA a l:=by
   intro l
   induction l with
   | nil=>intro a b;rfl
   | cons x r ih=>intro a b;rw[Y4,wA,ih,wA]
  rw[List.map_singleton,app,<-zEd num k];show num (if decide (num (k+1) > num (argBest _ k))=true then k+1 else argBest _ k)=_
  by_cases h:num (k+1) > num (argBest (fun i j=>decide (num i > num j)) k)
  ·rw[if_pos (decide_eq_true h),if_pos h]
  ·rw[if_neg (by simp[h]),if_neg h]
theorem zBx(m:Int)(ns:List Int):(m::ns).getD (argBest (fun i j=>decide ((m::ns).getD i 0 > (m::ns).getD j 0)) ns.length) 0=wA m ns:=by
 rw[zEd (fun i=>(m::ns).getD i 0) ns.length];show wA m _=_
 congr 1
 refine Yr fun i=>?_
 rw[Qq];by_cases h:i<ns.length
 ·rw[Xl h,Qj h]
  show some ((m::ns).getD (i+1) 0)=_
  rw[List.getD_cons_succ,Qr,Qj h];rfl
 ·rw[Qv (by rw[Q7];omega),Qv (by omega)];rfl
def zOL(d:Int):List Int->Int
 | []=>d
 | m::r=>wA m r
def zLp(K:PySem.W.Frag):R2:=fun x y H Q=>∃(ad:Addr)(d:Int)(ns:List Int),x=.ref ad/\y=.int d/\SqL K H ad (ns.map V.int)/\Q (.int (zOL d ns)) H
theorem zFu(x v:Value):argsOk "max" ⟨[x],[(Str.ofString "default", v)]⟩:=by unfold argsOk;kernel_rfl
theorem zFn(hc:X.calm=true){pins:List (Addr×Obj)}{s:Shared}{σ:St}{H:Hp}{ad:Addr}{d:Int}{t:Tok}{ns:List Int}{Q:VK}(I:Inv X pins σ H s)(hq:SqL X.K H ad (ns.map V.int))(q:Q (.int (zOL d ns)) H):
  wpAny (model X.prog X.w) X.A (call (.builtin "max") [.ref ad] [(Str.ofString "default", .int d t)]) (EP X pins σ Q) X.xe s:=by
 have hh:=I.ok.hd hc;obtain⟨its,rv,p,hz⟩:=I.list hq;have hlt:ad<s.heap.objs.size:=by obtain⟨_,e,_⟩:=p.isList;exact Heap.lt_size e
 have hl:=rv.length;rw[Qh] at hl;refine kmk_tree F.kind_max F.plain_max F.entry_max (zFu _ _) ?_
 refine wpAny_bind (m:=Builtin.Builtins.bindParams "max" ["key","default"] 0 ⟨[],[(Str.ofString "default", .int d t)]⟩) (wpAny_of_eq (a:=[none,some (.int d t)]) (by first | rfl | kernel_rfl) ?_)
 refine wpAny_bind (wpAny_pure ?_)
 refine wpAny_bind (wpAny_pyIter_list p.isList ?_)
 refine wpAny_bind (wpAny_newObj_type ?_)
 rw[zCr];refine wpAny_pure ⟨plainId_quiet F.plain_max_loop _,?_⟩
 have W:=Walks.list (prog:=X.prog) (w:=X.w) (A:=X.A.in1) hh s.heap.objs.size ad (Qo hlt) its.toArray
 have hSf:(s.heap.push { cls:=.type "list_iterator", data:=.fields #[.ref ad,.int 0 0] }).objs.size∉[s.heap.objs.size,ad]:=by
  rw[Heap.size_push];intro z;rcases Qc.mp z with z | z
  ·exact Uv _ z
  ·exact Vm _ (Vz (Xw (Qw.mp z)) (Xa hlt))
 have keep:∀ {h':Heap} {b:Addr} {o:Obj},(∀ b o,b∉[s.heap.objs.size]->b≠(s.heap.push { cls:=.type "list_iterator", data:=.fields #[.ref ad,.int 0 0] }).objs.size->((s.heap.push { cls:=.type "list_iterator", data:=.fields #[.ref ad,.int 0 0] }).push { cls:=.type "list", data:=.seq #[] }).get? b=some o->h'.get? b=some o)->s.heap.get? b=some o->h'.get? b=some o:=fun {h' b o} hk e=>by
  have l:=Heap.lt_size e;refine hk b o (fun z=>?_) (fun z=>?_) (Heap.get?_push_of_some _ (Heap.get?_push_of_some _ e))
  ·rw[Qw.mp z] at l;exact Vm _ l
  ·rw[z,Heap.size_push] at l;exact Vm _ (Nat.lt_of_succ_lt l)
 have hst:((s.heap.push { cls:=.type "list_iterator", data:=.fields #[.ref ad,.int 0 0] }).push { cls:=.type "list", data:=.seq #[] }).IsListIter s.heap.objs.size ad 0/\((s.heap.push { cls:=.type "list_iterator", data:=.fields #[.ref ad,.int 0 0] }).push { cls:=.type "list", data:=.seq #[] }).IsList ad its.toArray:=
  ⟨⟨_,Heap.get?_push_of_some _ (Heap.get?_push_size _ rfl),rfl,rfl⟩,(p.isList.push _).push _⟩
 cases ns with
 | nil=>
  have e0:its=[]:=Us (by rw[<-hl];rfl)
  subst e0;exact zKw W _ hSf hst (Heap.get?_push_size _ rfl) fun v h' tk hv hk=>⟨.int d,H,I.kept (t':=tk) fun b o e=>keep hk e,⟨t,hv⟩,q⟩
 | cons m r=>
  refine zHm W (fun i j=>decide ((m::r).getD i 0 > (m::r).getD j 0)) (CmpOf.ints_gt _ fun i v hv=>vN rv (by simpa using hv)) _ hSf (by rw[Qf,<-hl];exact Ys _) hst (Heap.get?_push_size _ rfl) fun v h' tk hv hk=>?_
  obtain⟨t',rfl⟩:=vN rv (i:=argBest (fun i j=>decide ((m::r).getD i 0 > (m::r).getD j 0)) (its.toArray.size-1)) (by simpa using hv)
  refine⟨.int (wA m r),H,I.kept (t':=tk) fun b o e=>keep hk e,⟨t',?_⟩,q⟩
  rw[Qf,<-hl,Qk,Uw,zBx]
theorem zKA{ta tb:TE}(hc:X.calm=true)(hg:Gl X "max")(hm:X.mg "max" = none)(ha:PE X a ta)(hb:PE X c tb)(hs:starEach [a] X.env=(false,eval a X.env)::starEach [] X.env:=by rfl):
  PE X (.Call (.Name "max" p) [a] [⟨some "default", c,kp⟩] pos) (tOp (zLp X.K) ta tb):=by
 intro pins s σ H Q I h;refine wpAny_Call_Name_kw (oH I hg hm boot_max ?_ (by decide) (by decide))
 refine callWith_kw (thn ((iP ha mJ hs) pos pins s σ H (fun vs H1=>match vs with | [x]=>tb σ H1 fun y H2=>zLp X.K x y H2 Q | _=>False) I h) fun us s1 ⟨vs,H1,I1,r1,q1⟩=>?_) (by rw[hs];rfl) (by rw[hs];rfl)
 match vs,r1,q1 with
 | [x],r1,q1=>
  obtain⟨u,rfl,ru⟩:=zBS r1;refine kws_cons (thn (hb pins s1 σ H1 _ I1 q1) fun v s2 ⟨y,H2,I2,r2,q2⟩=>kws_nil ?_)
  obtain⟨ad,d,ns,rfl,rfl,hq,q⟩:=q2;cases ru;obtain⟨t,rfl⟩:=r2;exact zFn hc I2 hq q
theorem zKH(hc:X.calm=true)(hg:Gl X "max")(hm:X.mg "max" = none)(ha:PEd X G a f)(hb:PEd X G c g)(hs:starEach [a] X.env=(false,eval a X.env)::starEach [] X.env:=by rfl):
  PEd X G (.Call (.Name "max" p) [a] [⟨some "default", c,kp⟩] pos) (eOp (fun x y=>zAX [x,y]) f g):=PE.wk (zKA hc hg hm ha hb hs) (op2 ⟨fun a b c z=>(by
  replace z:zAX [a,b]=_:=z
  unfold zAX at z;split at z
  ·split at z<;>cases z
  ·cases z),fun Hi H x y a b d Q s r1 r2 z q=>by
  replace z:zAX [a,b]=_:=z
  unfold zAX at z;split at z
  ·rename_i ds d' he
   cases he;obtain⟨ad,xs,rfl,h1,h2⟩:=r1.lstI;split at z
   ·rename_i m ns hns
    cases z;have e:=iZ h2 hns;subst e;exact⟨ad,_,_,rfl,r2.intI,cC s h1,q _ Hi H (Ext.refl s) (.int _)⟩
   ·rename_i hns
    cases z;have e:=iZ h2 hns;subst e;exact⟨ad,_,[],rfl,r2.intI,cC s h1,q _ Hi H (Ext.refl s) (.int _)⟩
   ·cases z
  ·cases z⟩)
end
section
variable{X:Cx}{G:Gx}{e:Expr}{pos:Pos}{f:Ev}
end
end L3
namespace L2
open PySem PySem.Spec PyProof.Rows
section
variable{κ:Type}[DecidableEq κ]
end
abbrev KT(H:Hp):List (List Key×V)->List (List Key×Addr×Value)->Prop:=Paired fun p q=>p.1=q.1/\H q.2.1=some (.tup (p.1.map kV))/\cO p.2 q.2.2
section
variable{P:Program}{w:World}{H:Hp}{h:Heap}{a:Addr}
end
section
variable{X:Cx}{pins:List (Addr×Obj)}{σ:St}{H:Hp}{s:Shared}{a:Addr}{y v:V}{u r:Value}{o:Option V}{A:Around}{E:Value->Shared->Prop}
end
section
variable{X:Cx}{pins:List (Addr×Obj)}{σ:St}{H:Hp}{s:Shared}{a:Addr}{kvs:List (Key×V)}{k:Key}{u:Value}{A:Around}{E:Value->Shared->Prop}
end
section
variable{X:Cx}{o i e value:Expr}{pos pos' tpos:Pos}{td ty tv:TE}
end
section
variable{X:Cx}{pos:Pos}
end
end L2
namespace L3
open PySem PySem.Spec PyProof.Rows L2
unseal PEd PEf PTd PWd PAd PSd dF POd PGd fT PId PSx iV PTs PCd PCf
section
variable{X:Cx}{G:Gx}{a b c e:Expr}{pos p2 p:Pos}{f g h:Ev}{fs:Fv}{x:Str}
end
end L3
namespace L3
open PySem PySem.Spec PyProof.Rows L2
def itN(k:Bool):String:=if k then "list_iterator" else "tuple_iterator"
def zAg(k:Bool)(h:Heap)(it l:Addr)(i:Nat):Prop:=if k then h.IsListIter it l i else h.IsTupleIter it l i
def qQ(k:Bool)(h:Heap)(l:Addr)(xs:Array Value):Prop:=if k then h.IsList l xs else h.IsTuple l xs
theorem zAg.get{k:Bool}{h:Heap}{it l:Addr}{i:Nat}(x:zAg k h it l i):∃ o,h.get? it=some o/\o.cls=.type (itN k)/\o.data=.fields #[.ref l,.int i 0]:=by
 cases k<;>(obtain⟨o,a,b,c⟩:=x;exact⟨o,a,b,c⟩)
theorem zAg.mk{k:Bool}{h:Heap}{it l:Addr}{i:Nat}{o:Obj}(a:h.get? it=some o)(b:o.cls=.type (itN k))(c:o.data=.fields #[.ref l,.int i 0]):zAg k h it l i:=by
 cases k<;>exact⟨o,a,b,c⟩
theorem zAg.go{k:Bool}{h h':Heap}{it l:Addr}{i:Nat}(x:zAg k h it l i)(g:∀ o,h.get? it=some o->h'.get? it=some o):zAg k h' it l i:=by
 obtain⟨o,a,b,c⟩:=x.get;exact .mk (g o a) b c
theorem qQ.go{k:Bool}{h h':Heap}{l:Addr}{xs:Array Value}(x:qQ k h l xs)(g:∀ o,h.get? l=some o->h'.get? l=some o):qQ k h' l xs:=by
 cases k<;>(obtain⟨o,a,b⟩:=x;exact⟨o,g o a,b⟩)
section
variable{prog:Program}{w:World}{A:Around}{E:Value->Shared->Prop}{s:Shared}
theorem xR{k:Bool}{l:Addr}{xs:Array Value}{Q:Value->Shared->Prop}(hl:qQ k s.heap l xs)(hQ:Q (.ref s.heap.objs.size) { s with heap:=s.heap.push { cls:=.type (itN k),data:=.fields #[.ref l,.int 0 0] } }):
  wpAny (model prog w) A (pyIter (.ref l)) Q E s:=by
 cases k
 ·exact wpAny_pyIter_tuple hl hQ
 ·exact wpAny_pyIter_list hl hQ
theorem nxT{it t:Addr}{i:Nat}{items:Array Value}{Q:Value->Shared->Prop}(hh:A.handled=none∨(items[i]?).isSome=true)(x:s.heap.IsTupleIter it t i)(y:s.heap.IsTuple t items)
  (go:∀ v,items[i]?=some v->∀ h2,h2.IsTupleIter it t (i+1)->Heap.SameBut it s.heap h2->Q v { s with heap:=h2 })
  (stop:items[i]?=none->∀ h2 e,Heap.ExtBut it s.heap h2->(∃ ob,h2.get? e=some ob/\ob.cls=.type "StopIteration")->E (.ref e) { s with heap:=h2 }):wpAny (model prog w) A (Builtin.SmallTypes.nextOf (.ref it)) Q E s:=by
 obtain⟨oi,ei,ci,di⟩:=id x;obtain⟨ot,et,_,nt,dt⟩:=y;have nn:¬ ((Value.ref t==Value.none)=true):=X3;unfold Builtin.SmallTypes.nextOf;refine wpAny_bind (wpAny_callSpecial?_slot (name:=Str.ofString "__next__") x.typeIs F.slot_tuple_iterator_next (wpAny_call_entry F.slot_tuple_iterator_next x.typeIs F.entry_tuple_iterator_next (show wpAny _ _ (field _ 0 >>= _) _ _ s from wpAny_bind (wpAny_field ei di (x:=.ref t) rfl ?_)) (F.args_tuple_iterator_next_1 _)))
 show wpAny _ _ (ite ((Value.ref t==Value.none)=true) _ _) _ _ s
 rw[if_neg nn];refine show wpAny _ _ (field _ 1 >>= _) _ _ s from wpAny_bind (wpAny_field ei di (x:=.int i 0) rfl (show wpAny _ _ (seqItems? _ >>= _) _ _ s from wpAny_bind (wpAny_seqItems et dt ?_)))
 have fr:∀ g:Array Value->Array Value,Heap.get? (s.heap.update it (Obj.mapFields g)) it=some (Obj.mapFields g oi):=fun g=>Heap.get?_update_self _ ei (Obj.isFreed_of_fields (Obj.data_mapFields di g))
 cases q:items[i]? with
 | some v=>
  simp only[Vh,q];refine wpAny_bind (wpAny_setField ei di (by simp) (wpAny_pure ⟨v,rfl,wpAny_pure (go v q _ ⟨_,fr _,(Obj.cls_mapFields ..).trans ci,?_⟩ (Heap.SameBut.update ..))⟩))
  rw[Obj.data_mapFields di];simp[rawInt]
 | none=>
  have hh:A.handled=none:=hh.elim id fun z=>by rw[q] at z;cases z
  simp only[Vh,q];refine wpAny_bind (wpAny_rule (wpAny_bind (wpAny_setField ei di (by simp) (show wpAny _ _ (newExc _ [] >>= _) _ _ _ from wpAny_bind ?_))))
  simp only[newExc,newTuple];refine wpAny_bind (wpAny_newObj_type (wpAny_bind (m:=firstArgMember _ _) (wpAny_of_eq (a:=Value.none) (by first | rfl | (simp only[firstArgMember];rfl)) (wpAny_newObj_type ?_ (by size_fits)))) (by size_fits))
  simp only[raiseNew];refine wpAny_bind (wpAny_handled ?_)
  rw[show A.in1.handled=none from hh];exact wpAny_bind (wpAny_pure (wpAny_throw (stop q _ _ (((Heap.SameBut.update ..).extBut.push _).push _) ⟨_,Heap.get?_push_size _ rfl,rfl⟩)))
theorem zBq{k:Bool}{it t:Addr}{i:Nat}{items:Array Value}{x:Value}{Q:Value->Shared->Prop}(hit:zAg k s.heap it t i)(ht:qQ k s.heap t items)(hx:items[i]?=some x)
  (hQ:∀ h',zAg k h' it t (i+1)->Heap.SameBut it s.heap h'->Q x { s with heap:=h' }):wpAny (model prog w) A (Builtin.SmallTypes.nextOf (.ref it)) Q E s:=by
 cases k
 ·exact nxT (.inr (by rw[hx];rfl)) hit ht (fun v q h2 g1 g2=>by rw[hx] at q;cases q;exact hQ h2 g1 g2) fun q=>by rw[hx] at q;cases q
 ·exact wpAny_nextOf_list_item hit ht hx hQ
theorem zCc{k:Bool}{it t:Addr}{i:Nat}{items:Array Value}{Q:Value->Shared->Prop}(hh:A.handled=none)(hit:zAg k s.heap it t i)(ht:qQ k s.heap t items)(hx:items[i]?=none)
  (hE:∀ h' e,Heap.ExtBut it s.heap h'->(∃ o,h'.get? e=some o/\o.cls=.type "StopIteration")->E (.ref e) { s with heap:=h' }):wpAny (model prog w) A (Builtin.SmallTypes.nextOf (.ref it)) Q E s:=by
 cases k
 ·exact nxT (.inl hh) hit ht (fun v q=>by rw[hx] at q;cases q) fun _=>hE
 ·exact wpAny_nextOf_list_end hh hit ht hx hE
theorem zLi{k:Bool}(hh:A.handled=none)(it l:Addr)(hne:l≠it)(items:Array Value):Draws prog w A it [it,l] items.size (fun i v=>items[i]?=some v) (fun i h=>zAg k h it l i/\qQ k h l items) where
 live:=fun _ _ st=>let ⟨o,ho,_⟩:=st.1.get;⟨o,ho⟩
 frame:=fun _ _ _ st hk=>⟨st.1.go fun o e=>hk it (by simp) o e,st.2.go fun o e=>hk l (by simp) o e⟩
 item:=fun i s Q E hi st hQ=>by
  refine zBq st.1 st.2 (x:=items[i]) (by simp[hi]) fun h' hit' hs'=>?_
  exact hQ _ h' s.toks (by simp[hi]) ⟨hit',st.2.go fun o e=>hs'.extBut _ o hne e⟩ hs'
 done:=fun s Q E st hE=>zCc hh st.1 st.2 (by simp) hE
def vI(f0:Value)(k1 k2:Bool)(l1 l2 n:Addr)(j1 j2:Nat)(h:Heap):Prop:=
 IsZip h (n+4) (n+2) (n+3) f0/\IsPair h (n+2) (.ref n) (.ref (n+1))/\(∃ a b,IsPair h (n+3) a b)/\zAg k1 h n l1 j1/\zAg k2 h (n+1) l2 j2
def mV(n:Addr)(h h2:Heap):Prop:=∀ c o,c≠n+4->c≠n+3->c≠n->c≠n+1->h.get? c=some o->h2.get? c=some o
theorem mV.then{n:Addr}{h h1 h2:Heap}(a:mV n h h1)(b:mV n h1 h2):mV n h h2:=fun c o c1 c2 c3 c4 e=>b c o c1 c2 c3 c4 (a c o c1 c2 c3 c4 e)
theorem mV.eb{n a:Addr}{h h2:Heap}(k:Heap.ExtBut a h h2)(m:a=n+4∨a=n+3∨a=n∨a=n+1):mV n h h2:=fun c o c1 c2 c3 c4 e=>k c o (fun z=>by subst z;rcases m with m | m | m | m<;>contradiction) e
theorem mV.sq{k:Bool}{n l:Addr}{h h2:Heap}{xs:Array Value}(a:mV n h h2)(hl:l<n)(x:qQ k h l xs):qQ k h2 l xs:=
 x.go fun o e=>a l o (Qo (Nat.lt_add_right 4 hl)) (Qo (Nat.lt_add_right 3 hl)) (Qo hl) (Qo (Xa hl)) e
theorem zHK(n:Addr):n+3≠n+4/\n+2≠n+4/\n≠n+4/\n+1≠n+4/\n+2≠n+3/\n≠n+3/\n+1≠n+3/\n+2≠n/\n+1≠n/\n+2≠n+1:=by
 refine⟨?_,?_,?_,?_,?_,?_,?_,?_,?_,?_⟩<;>(intro z;have z':(_:Nat)=_:=z;omega)
theorem vI.fld{f0:Value}{k1 k2:Bool}{l1 l2 n:Addr}{j1 j2:Nat}{h h2:Heap}(g:vI f0 k1 k2 l1 l2 n j1 j2 h){f1:Value}(z:IsZip h2 (n+4) (n+2) (n+3) f1)(s:Heap.ExtBut (n+4) h h2):vI f1 k1 k2 l1 l2 n j1 j2 h2:=by
 obtain⟨_,g2,⟨a,b,g3⟩,g4,g5⟩:=g;obtain⟨e1,e2,e3,e4,_⟩:=zHK n;exact⟨z,s _ _ e2 g2,⟨a,b,s _ _ e1 g3⟩,g4.go fun o e=>s _ o e3 e,g5.go fun o e=>s _ o e4 e⟩
theorem vI.it1{f0:Value}{k1 k2:Bool}{l1 l2 n:Addr}{j1 j2 m:Nat}{h h2:Heap}(g:vI f0 k1 k2 l1 l2 n j1 j2 h)(z:zAg k1 h2 n l1 m)(s:Heap.ExtBut n h h2):vI f0 k1 k2 l1 l2 n m j2 h2:=by
 obtain⟨g1,g2,⟨a,b,g3⟩,_,g5⟩:=g;obtain⟨e1,e2,e3,e4,e5,e6,e7,e8,e9,_⟩:=zHK n;exact⟨s _ _ e3.symm g1,s _ _ e8 g2,⟨a,b,s _ _ e6.symm g3⟩,z,g5.go fun o e=>s _ o e9 e⟩
theorem vI.it2{f0:Value}{k1 k2:Bool}{l1 l2 n:Addr}{j1 j2 m:Nat}{h h2:Heap}(g:vI f0 k1 k2 l1 l2 n j1 j2 h)(z:zAg k2 h2 (n+1) l2 m)(s:Heap.ExtBut (n+1) h h2):vI f0 k1 k2 l1 l2 n j1 m h2:=by
 obtain⟨g1,g2,⟨a,b,g3⟩,g4,_⟩:=g;obtain⟨e1,e2,e3,e4,e5,e6,e7,e8,e9,e10⟩:=zHK n;exact⟨s _ _ e4.symm g1,s _ _ e10 g2,⟨a,b,s _ _ e7.symm g3⟩,g4.go fun o e=>s _ o e9.symm e,z⟩
theorem vI.out{f0 a b:Value}{k1 k2:Bool}{l1 l2 n:Addr}{j1 j2:Nat}{h h2:Heap}(g:vI f0 k1 k2 l1 l2 n j1 j2 h)(z:IsPair h2 (n+3) a b)(s:Heap.ExtBut (n+3) h h2):vI f0 k1 k2 l1 l2 n j1 j2 h2:=by
 obtain⟨g1,g2,_,g4,g5⟩:=g;obtain⟨e1,e2,e3,e4,e5,e6,e7,_⟩:=zHK n;exact⟨s _ _ e1.symm g1,s _ _ e5 g2,⟨a,b,z⟩,g4.go fun o e=>s _ o e6 e,g5.go fun o e=>s _ o e7 e⟩
theorem zPJ{k1 k2:Bool}{n l1 l2:Addr}{j:Nat}{xs ys:Array Value}{Q:PySem.Fin->Shared->Prop}(hh:A.handled=none)(b1:l1<n)(b2:l2<n)(g:vI .none k1 k2 l1 l2 n j j s.heap)(d1:qQ k1 s.heap l1 xs)(d2:qQ k2 s.heap l2 ys)
  (go:∀ x y,xs[j]?=some x->ys[j]?=some y->∀ h2,vI (rawInt s.heap.objs.size) k1 k2 l1 l2 n (j+1) (j+1) h2->IsPair h2 s.heap.objs.size x y->mV n s.heap h2->Q (.done (.ret (.ref s.heap.objs.size))) { s with heap:=h2 })
  (stop:xs[j]?=none∨ys[j]?=none->∀ h2 e,mV n s.heap h2->(∃ o,h2.get? e=some o/\o.cls=.type "StopIteration")->E (.ref e) { s with heap:=h2 }):
  wpAny (model prog w) A (Builtin.«zip.__next__» ⟨[.ref (n+4)],[]⟩) Q E s:=by
 have stopZ:∀ {h1:Heap} {e:Addr} {v:Value} {k:Nat} {R:Unit->Shared->Prop},(xs[j]?=none∨ys[j]?=none)->mV n s.heap h1->IsZip h1 (n+4) (n+2) (n+3) .ellipsis->(∃ o,h1.get? e=some o/\o.cls=.type "StopIteration")->k<5->
   (∀ h3,mV n s.heap h3->(∃ o,h3.get? e=some o/\o.cls=.type "StopIteration")->R () { s with heap:=h3 })->wpAny (model prog w) A (setField (.ref (n+4)) k v) R E { s with heap:=h1 }:=by
  intro h1 e v k R q kz z he hk fin;obtain⟨oe,e1,e2⟩:=he;have nz:e≠n+4:=fun y=>by subst y;rw[z] at e1;cases e1;simp at e2
  exact wpAny_setField_rec z (by simpa using hk) fun h3 _ s3=>fin h3 (kz.then (.eb s3.extBut (.inl rfl))) ⟨oe,s3.extBut _ _ nz e1,e2⟩
 obtain⟨z0,t0,⟨a,b,p0⟩,_⟩:=id g;refine show wpAny _ _ (field _ 2 >>= _) _ _ s from wpAny_bind (wpAny_field z0 rfl (x:=.bool false) rfl (show wpAny _ _ (field _ 3 >>= _) _ _ s from wpAny_bind (wpAny_field z0 rfl (x:=.ref (n+2)) rfl (wpAny_bind (wpAny_seqItems t0 rfl (wpAny_bind ?_))))))
 unfold Builtin.SmallTypes.ownedTupleIsFree;refine wpAny_bind (wpAny_field z0 rfl (x:=.none) rfl (wpAny_pure ?_))
 simp only[if_true];refine wpAny_bind (wpAny_rule (wpAny_bind (wpAny_field z0 rfl (x:=.ref (n+3)) rfl (wpAny_bind (wpAny_setField_rec z0 (by simp) fun h1 z1 s1=>wpAny_bind ?_)))))
 have g1:vI .ellipsis k1 k2 l1 l2 n j j h1:=g.fld z1 s1.extBut;have k1':mV n s.heap h1:=.eb s1.extBut (.inl rfl);simp only[List.zipIdx_cons,List.zipIdx_nil,Y2,List.forIn_nil];refine wpAny_bind (wpAny_bind (wpAny_onRaise (show wpAny _ _ (Builtin.SmallTypes.nextOf _ >>= _) _ _ _ from wpAny_bind ?_)))
 cases q1:xs[j]? with
 | none=>
  refine zCc (s:={ s with heap:=h1 }) hh g1.2.2.2.1 (k1'.sq b1 d1) q1 fun h2 e x2 he=>stopZ (.inl q1) (k1'.then (.eb x2 (.inr (.inr (.inl rfl))))) (x2 _ _ (zHK n).2.2.1.symm g1.1) he (by decide) fun h3=>stop (.inl q1) h3 e
 | some x=>
  refine zBq (s:={ s with heap:=h1 }) g1.2.2.2.1 (k1'.sq b1 d1) q1 fun h2 i2 s2=>wpAny_pure ?_
  have g2:=g1.it1 i2 s2.extBut;have k2':=k1'.then (.eb s2.extBut (.inr (.inr (.inl rfl))));have p2:IsPair h2 (n+3) a b:=s2.extBut _ _ (zHK n).2.2.2.2.2.1.symm (s1.extBut _ _ (zHK n).1 p0);refine wpAny_bind (wpAny_seqItems (s:={ s with heap:=h2 }) p2 rfl (wpAny_bind (wpAny_updateSeq_pair p2 fun h3 p3 s3=>wpAny_bind (wpAny_letGo (wpAny_pure ?_)))))
  have g3:=g2.out p3 s3.extBut;have k3':=k2'.then (.eb s3.extBut (.inr (.inl rfl)));refine wpAny_bind (wpAny_bind (wpAny_onRaise (show wpAny _ _ (Builtin.SmallTypes.nextOf _ >>= _) _ _ _ from wpAny_bind ?_)))
  cases q2:ys[j]? with
  | none=>
   refine zCc (s:={ s with heap:=h3 }) hh g3.2.2.2.2 (k3'.sq b2 d2) q2 fun h4 e x4 he=>stopZ (.inr q2) (k3'.then (.eb x4 (.inr (.inr (.inr rfl))))) (x4 _ _ (zHK n).2.2.2.1.symm g3.1) he (by decide) fun h5=>stop (.inr q2) h5 e
  | some y=>
   refine zBq (s:={ s with heap:=h3 }) g3.2.2.2.2 (k3'.sq b2 d2) q2 fun h4 i4 s4=>wpAny_pure ?_
   have g4:=g3.it2 i4 s4.extBut;have p4:IsPair h4 (n+3) x b:=s4.extBut _ _ (zHK n).2.2.2.2.2.2.1.symm p3;refine wpAny_bind (wpAny_seqItems (s:={ s with heap:=h4 }) p4 rfl (wpAny_bind (wpAny_updateSeq_pair p4 fun h5 p5 s5=>wpAny_bind (wpAny_letGo (wpAny_pure (wpAny_pure ?_))))))
   have p5:IsPair h5 (n+3) x y:=p5;have g5:=g4.out p5 s5.extBut;have k5':=(k3'.then (.eb s4.extBut (.inr (.inr (.inr rfl))))).then (.eb s5.extBut (.inr (.inl rfl)));have sz:h5.objs.size=s.heap.objs.size:=s5.1.trans (s4.1.trans (s3.1.trans (s2.1.trans s1.1)));refine wpAny_bind (wpAny_seqItems (s:={ s with heap:=h5 }) p5 rfl (wpAny_bind (wpAny_newTuple (show wpAny _ _ (Builtin.SmallTypes.ownedTupleHandOut _ (.ref h5.objs.size) >>= _) _ _ _ from wpAny_bind ?_))))
   unfold Builtin.SmallTypes.ownedTupleHandOut;refine wpAny_bind (wpAny_setField_rec (Heap.get?_push_of_some _ g5.1) (by simp) fun h7 z7 s7=>wpAny_setField_rec z7 (by simp) fun h8 z8 s8=>wpAny_pure ?_)
   have nz:h5.objs.size≠n+4:=X4 (Heap.lt_size g5.1);have x8:Heap.ExtBut (n+4) h5 h8:=fun c o c1 e=>s8.extBut _ _ c1 (s7.extBut _ _ c1 (Heap.get?_push_of_some _ e))
   have g8:vI (rawInt h5.objs.size) k1 k2 l1 l2 n (j+1) (j+1) h8:=g5.fld z8 x8;have t8:IsPair h8 h5.objs.size x y:=s8.extBut _ _ nz (s7.extBut _ _ nz (Heap.get?_push_size _ rfl));rw[sz] at g8 t8;show Q (.done (.ret (.ref h5.objs.size))) _
   rw[sz];exact go x y q1 q2 h8 g8 t8 (k5'.then (.eb x8 (.inl rfl)))
theorem zOR{k1 k2:Bool}{n l1 l2:Addr}{j:Nat}{xs ys:Array Value}{Q:Option Value->Shared->Prop}(hh:A.handled=none)(b1:l1<n)(b2:l2<n)(g:vI .none k1 k2 l1 l2 n j j s.heap)(d1:qQ k1 s.heap l1 xs)(d2:qQ k2 s.heap l2 ys)
  (go:∀ x y,xs[j]?=some x->ys[j]?=some y->∀ h2,vI (rawInt s.heap.objs.size) k1 k2 l1 l2 n (j+1) (j+1) h2->IsPair h2 s.heap.objs.size x y->mV n s.heap h2->Q (some (.ref s.heap.objs.size)) { s with heap:=h2 })
  (stop:xs[j]?=none∨ys[j]?=none->∀ h2,mV n s.heap h2->Q none { s with heap:=h2 }):wpAny (model prog w) A (pyNext (.ref (n+4))) Q E s:=by
 have ty:s.TypeIs (.ref (n+4)) "zip" := ⟨_,g.1,rfl⟩;unfold pyNext
 refine wpAny_bind (wpAny_attempt (wpAny_callSpecial?_slot (name:=Str.ofString "__next__") ty F.slot_zip_next (wpAny_call_entry F.slot_zip_next ty F.entry_zip_next
  (zPJ hh b1 b2 g d1 d2 (fun x y q1 q2 h2 a1 a2 a3=>⟨_,rfl,wpAny_pure (go x y q1 q2 h2 a1 a2 a3)⟩) fun q h2 e k he=>?_) (F.args_zip_next_1 _))))
 obtain⟨o,eo,co⟩:=he;exact wpAny_bind (wpAny_isInstance (T := "StopIteration") (b:=true) ⟨o,eo,co⟩ isSubtype_stop (wpAny_pure (stop q h2 k)))
end
abbrev zO(k:Bool)(l:Addr):Obj:={ cls:=.type (itN k),data:=.fields #[.ref l,.int 0 0] }
abbrev zH2(k1 k2:Bool)(h:Heap)(l1 l2:Addr):Heap:=(h.push (zO k1 l1)).push (zO k2 l2)
abbrev zH3(k1 k2:Bool)(h:Heap)(l1 l2:Addr):Heap:=(zH2 k1 k2 h l1 l2).push { cls:=.type "tuple", data:=.seq #[.ref h.objs.size,.ref (h.push (zO k1 l1)).objs.size] }
abbrev zH4(k1 k2:Bool)(h:Heap)(l1 l2:Addr):Heap:=(zH3 k1 k2 h l1 l2).push { cls:=.type "tuple", data:=.seq #[.none,.none] }
abbrev zH5(k1 k2:Bool)(h:Heap)(l1 l2:Addr):Heap:=(zH4 k1 k2 h l1 l2).push { cls:=.type "zip", data:=.fields #[.none,.bool false,.bool false,.ref (zH2 k1 k2 h l1 l2).objs.size,.ref (zH3 k1 k2 h l1 l2).objs.size] }
theorem zHq(k1 k2:Bool)(l1 l2:Addr)(xs ys:Array Value):Meets (Builtin.«zip.__new__» ⟨[.type "zip", .ref l1,.ref l2],[]⟩) (fun _ R s=>qQ k1 s.heap l1 xs/\qQ k2 s.heap l2 ys/\
  R (.ok (.ret (.ref (zH4 k1 k2 s.heap l1 l2).objs.size))) { s with heap:=zH5 k1 k2 s.heap l1 l2 }):=
 .of_wp fun prog w A R s h=>by
  obtain⟨hp,g,d,tk,os⟩:=s;obtain⟨hl1,hl2,h⟩:=h;have hsub:=sub_zip;have d1:qQ k1 (Shared.heap ⟨hp,g,d,tk,os⟩) l1 xs:=hl1;have d2:qQ k2 (Shared.heap ⟨hp.push { cls:=.type (itN k1),data:=.fields #[.ref l1,.int 0 0] },g,d,tk,os⟩) l2 ys:=hl2.go fun o e=>Heap.get?_push_of_some _ e
  wp_walk using xR d1,xR d2
  exact⟨_,rfl,h⟩
section
variable{prog:Program}{w:World}{A:Around}{E:Value->Shared->Prop}{s:Shared}
theorem zHG{k1 k2:Bool}{l1 l2:Addr}{xs ys:Array Value}{Q:Value->Shared->Prop}(d1:qQ k1 s.heap l1 xs)(d2:qQ k2 s.heap l2 ys)
  (h:∀ h2,vI .none k1 k2 l1 l2 s.heap.objs.size 0 0 h2->(∀ c o,s.heap.get? c=some o->h2.get? c=some o)->Q (.ref (s.heap.objs.size+4)) { s with heap:=h2 }):wpAny (model prog w) A (call (.type "zip") [.ref l1,.ref l2]) Q E s:=by
 refine callType_new F.called_zip (by decide) (F.typeCall_zip_2 _ _) (F.newCall_zip_2 _ _) (fun obj=>F.args_object_init_3 obj _ _) F.entry_zip_new (zHq k1 k2 l1 l2 xs ys) ⟨d1,d2,?_⟩
 have up:∀ {h:Heap} {a:Addr} {o ob:Obj},h.get? a=some o->(h.push ob).get? a=some o:=fun e=>Heap.get?_push_of_some _ e
 have m1:(s.heap.push (zO k1 l1)).objs.size=s.heap.objs.size+1:=Heap.size_push ..;have m2:(zH2 k1 k2 s.heap l1 l2).objs.size=s.heap.objs.size+2:=(Heap.size_push ..).trans (congrArg (·+1) m1);have m3:(zH3 k1 k2 s.heap l1 l2).objs.size=s.heap.objs.size+3:=(Heap.size_push ..).trans (congrArg (·+1) m2);have m4:(zH4 k1 k2 s.heap l1 l2).objs.size=s.heap.objs.size+4:=(Heap.size_push ..).trans (congrArg (·+1) m3);have r0:(zH5 k1 k2 s.heap l1 l2).get? s.heap.objs.size=some (zO k1 l1):=up (up (up (up (Heap.get?_push_size _ rfl))));have r1:(zH5 k1 k2 s.heap l1 l2).get? (s.heap.push (zO k1 l1)).objs.size=some (zO k2 l2):=up (up (up (Heap.get?_push_size _ rfl)));have r2:(zH5 k1 k2 s.heap l1 l2).get? (zH2 k1 k2 s.heap l1 l2).objs.size=some _:=up (up (Heap.get?_push_size _ rfl));have r3:(zH5 k1 k2 s.heap l1 l2).get? (zH3 k1 k2 s.heap l1 l2).objs.size=some _:=up (Heap.get?_push_size _ rfl);have r4:(zH5 k1 k2 s.heap l1 l2).get? (zH4 k1 k2 s.heap l1 l2).objs.size=some _:=Heap.get?_push_size _ rfl;rw[m1] at r1;rw[m1,m2] at r2;rw[m3] at r3;rw[m2,m3,m4] at r4;show _/\_
 rw[m4];exact⟨⟨_,r4,rfl⟩,h _ ⟨r4,r2,⟨_,_,r3⟩,.mk r0 rfl rfl,.mk r1 rfl rfl⟩ fun c o x=>up (up (up (up (up x))))⟩
end
section
variable{X:Cx}{pins:List (Addr×Obj)}{σ:St}{H:Hp}{s:Shared}{h':Heap}{fp:List Addr}
theorem zGk{t':Nat}{p:Addr}{xs:List V}{us:List Value}(I:Inv X pins σ H s)(hf:∀ b∈fp,qS X pins H b)(k:∀ b o,b∉fp->s.heap.get? b=some o->h'.get? b=some o)
  (hp:s.heap.objs.size<=p) (ht:IsTup h' p us.toArray) (hv:dD xs us) (hz:xs.length<=sizeLine):Inv X pins σ (upd H p (.tup xs)) { s with heap:=h',toks:=t' }:=by
 have hn:H p=none:=I.hok.fresh hp;have nf:∀ b u,H b=some u->b∉fp:=fun b u e z=>by rw[(hf b z).1] at e;cases e
 have np:∀ b u,H b=some u->upd H p (.tup xs) b=some u:=fun b u e=>by rw[aT (aV e hn)];exact e
 refine I.step (g':=s.gens) (d':=s.drawn) (ch:=fp) (fun b hb=>⟨(hf b hb).2.2.2.1,(hf b hb).2.1,(hf b hb).2.2.2.2.1,(hf b hb).2.2.2.2.2⟩) (fun b o _ _ hc e _=>k b o hc e) (fun b o _ _ hc e _=>⟨o.slots,k b o hc e⟩) (fun b o _ e n=>?_)
  (fun b o hc e=>⟨o,k b o hc e⟩) (fun b xs e=>np _ _ e) (fun b o u e=>np _ _ e) (fun b ps e=>⟨#[],by rw[np _ _ e];simp⟩) (fun m hm=>?_) (fun b u e=>?_) I.bare
 ·rw[aT (Qo (Ql (Heap.lt_size e) hp))];exact n
 ·obtain⟨o,es,ep,ho,r⟩:=hm
  exact⟨o,es,ep,k _ o (fun z=>(hf _ z).2.1 rfl) ho,r⟩
 ·by_cases hb:b=p
  ·subst hb
   rw[aQ] at e;cases e
   exact⟨hz,us,hv,ht⟩
  ·rw[aT hb] at e
   refine(I.hok b u e).stay (fun c v hc q=>k c v ?_ q) (fun _ q=>np _ _ q) fun _ _ q=>np _ _ q
   rcases hc with z | z
   ·rw[z];exact nf b u e
   ·exact nf c _ z
theorem zEG{t':Nat}(I:Inv X pins σ H s)(hf:∀ b∈fp,qS X pins H b)(k:∀ b o,b∉fp->s.heap.get? b=some o->h'.get? b=some o):Inv X pins σ H { s with heap:=h',toks:=t' }:=by
 have nf:∀ b u,H b=some u->b∉fp:=fun b u e z=>by rw[(hf b z).1] at e;cases e
 refine I.step (g':=s.gens) (d':=s.drawn) (ch:=fp) (fun b hb=>⟨(hf b hb).2.2.2.1,(hf b hb).2.1,(hf b hb).2.2.2.2.1,(hf b hb).2.2.2.2.2⟩) (fun b o _ _ hc e _=>k b o hc e) (fun b o _ _ hc e _=>⟨o.slots,k b o hc e⟩) (fun b o _ e n=>n)
  (fun b o hc e=>⟨o,k b o hc e⟩) (fun b xs e=>e) (fun b o u e=>e) (fun b ps e=>⟨#[],by rw[e];simp⟩) (fun m hm=>?_) (fun b u e=>?_) I.bare
 ·obtain⟨o,es,ep,ho,r⟩:=hm
  exact⟨o,es,ep,k _ o (fun z=>(hf _ z).2.1 rfl) ho,r⟩
 ·refine(I.hok b u e).stay (fun c v hc q=>k c v ?_ q) (fun _ q=>q) fun _ _ q=>q
  rcases hc with z | z
  ·rw[z];exact nf b u e
  ·exact nf c _ z
end
def SqK(k:Bool)(K:PySem.W.Frag)(H:Hp)(a:Addr)(xs:List V):Prop:=if k then SqL K H a xs else SqT K H a xs
theorem nJ{k:Bool}{K:Fg_}{H H':Hp}(e:Same H H'){a:Addr}{xs:List V}(h:SqK k K H a xs):SqK k K H' a xs:=by
 cases k
 ·exact bN e h
 ·exact cC e h
section
variable{X:Cx}{pins:List (Addr×Obj)}{σ:St}{H:Hp}{s:Shared}{k:Bool}{a:Addr}{xs ys:List V}
theorem sqI(I:Inv X pins σ H s)(h:SqK k X.K H a xs):∃ its:List Value,dD xs its/\qQ k s.heap a its.toArray/\xs.length<=sizeLine:=by
 cases k
 ·obtain⟨its,rv,p,hz⟩:=I.tuple h
  exact⟨its,rv,p,hz⟩
 ·obtain⟨its,rv,p,hz⟩:=I.list h
  exact⟨its,rv,p.isList,hz⟩
theorem zBh(I:Inv X pins σ H s)(h:SqK k X.K H a xs)(h':SqK k X.K H a ys):xs=ys:=by
 cases k
 ·exact I.tuple_inj h h'
 ·exact I.list_inj h h'
theorem qQ.lt{h:Heap}{l:Addr}{xs:Array Value}(x:qQ k h l xs):l<h.objs.size:=by
 cases k<;>(obtain⟨o,e,_⟩:=x;exact Heap.lt_size e)
end
def Itz(K:PySem.W.Frag)(k1 k2:Bool)(a1 a2:Addr):It:=
  ⟨fun i H=>∃ xs ys x y,SqK k1 K H a1 xs/\SqK k2 K H a2 ys/\xs[i]?=some x/\ys[i]?=some y,
   fun i H v H'=>∃ p x y,v=.ref p/\H p=none/\H'=upd H p (.tup [x,y])/\(∀ xs,SqK k1 K H a1 xs->xs[i]?=some x)/\∀ ys,SqK k2 K H a2 ys->ys[i]?=some y,
   fun i H=>∃ xs ys,SqK k1 K H a1 xs/\SqK k2 K H a2 ys/\(xs.length<=i∨ys.length<=i)⟩
def zPi(k1 k2:Bool)(a1 a2 n:Addr)(i:Nat)(h:Heap):Prop:=vI .none k1 k2 a1 a2 n i i h
theorem mP{h:Heap}{b:Addr}{o:Obj}{d:Data}(e:h.get? b=some o)(hd:o.data=d)(nd:∀ v,d≠.cell v):∃ o,h.get? b=some o/\∀ v,o.data≠.cell v:=⟨o,e,fun v z=>nd v (hd.symm.trans z)⟩
theorem zHV{P:Program}{w:World}{K:Fg_}{elts:List Expr}{x1:Nat}{tp:Pos}(k1 k2:Bool)(a1 a2 n:Addr)(l1:a1<n)(l2:a2<n):
  Turn P w K (.Tuple elts x1 tp) (Itz K k1 k2 a1 a2) [n+4,n+2,n+3,n,n+1] (n+4) (zPi k1 k2 a1 a2 n) where
 mem:=by simp
 obj:=fun i h st b hb=>by
  obtain⟨t1,t2,⟨a,b',t3⟩,t4,t5⟩:=st;obtain⟨o4,e4,_,d4⟩:=t4.get;obtain⟨o5,e5,_,d5⟩:=t5.get;simp only[Qc,Q4,or_false] at hb;rcases hb with rfl | rfl | rfl | rfl | rfl
  ·exact mP t1 rfl fun v z=>by cases z
  ·exact mP t2 rfl fun v z=>by cases z
  ·exact mP t3 rfl fun v z=>by cases z
  ·exact mP e4 d4 fun v z=>by cases z
  ·exact mP e5 d5 fun v z=>by cases z
 keep:=fun i h h' st k=>by
  obtain⟨t1,t2,⟨a,b',t3⟩,t4,t5⟩:=st;exact⟨k _ (by simp) _ t1,k _ (by simp) _ t2,⟨a,b',k _ (by simp) _ t3⟩,t4.go fun o e=>k _ (by simp) o e,t5.go fun o e=>k _ (by simp) o e⟩
 item:=by
  intro X hP hw hK hc i pins s σ H E I hf st hg;subst hP hw hK;obtain⟨xs,ys,x,y,q1,q2,hx,hy⟩:=hg;obtain⟨us,r1,s1,z1⟩:=sqI I q1;obtain⟨ws,r2,s2,z2⟩:=sqI I q2;obtain⟨u,hu,ru⟩:=r1.get hx;obtain⟨v,hv,rv⟩:=r2.get hy;have hu':us.toArray[i]?=some u:=by simpa using hu
  have hv':ws.toArray[i]?=some v:=by simpa using hv
  have st':=st;obtain⟨t1,t2,⟨a,b,t3⟩,t4,t5⟩:=st;refine zOR (I.ok.hd hc) l1 l2 st' s1 s2 (fun x' y' f1 f2 h' g' p' kz=>?_) (fun q=>?_)
  rotate_left
  ·rw[hu',hv'] at q;rcases q with q | q<;>cases q
  rw[hu'] at f1;cases f1
  rw[hv'] at f2;cases f2
  refine⟨_,rfl,wpAny_letOwnedTupleGo_zip (s:={ s with heap:=h' }) g'.1 fun h'' c1 c2=>?_⟩
  have zl:s.heap.objs.size≠n+4:=X4 (Heap.lt_size t1);have np:H s.heap.objs.size=none:=I.hok.fresh (Qb _)
  have I1:Inv X pins σ (upd H s.heap.objs.size (.tup [x,y])) { s with heap:=h'',toks:=s.toks }:=zGk (us:=[u,v]) I hf (fun b o hb e=>by
    simp only[Qc,Q4,or_false,not_or] at hb
    exact c2.extBut b o hb.1 (kz b o hb.1 hb.2.2.1 hb.2.2.2.1 hb.2.2.2.2 e)) (Qb _) ⟨_,c2.extBut _ _ zl p',rfl,_,rfl⟩ (.cons ru (.cons rv .nil)) (show 2<=sizeLine by decide)
  refine⟨.ref s.heap.objs.size,_,I1,rfl,⟨_,x,y,rfl,np,rfl,fun zs hz=>by rw[zBh I hz q1];exact hx,fun zs hz=>by rw[zBh I hz q2];exact hy⟩,g'.fld c1 c2.extBut,fun b hb=>?_⟩
  ·obtain⟨o,e,_⟩:∃ o,s.heap.get? b=some o/\True:=by
    obtain⟨o4,e4,_⟩:=t4.get;obtain⟨o5,e5,_⟩:=t5.get;simp only[Qc,Q4,or_false] at hb;rcases hb with rfl | rfl | rfl | rfl | rfl
    ·exact⟨_,t1,trivial⟩
    ·exact⟨_,t2,trivial⟩
    ·exact⟨_,t3,trivial⟩
    ·exact⟨_,e4,trivial⟩
    ·exact⟨_,e5,trivial⟩
   rw[aT (Qo (Heap.lt_size e))];exact(hf b hb).1
 done:=by
  intro X hP hw hK hc i pins s σ H E I hf st hg;subst hP hw hK;obtain⟨xs,ys,q1,q2,hl⟩:=hg;obtain⟨us,r1,s1,z1⟩:=sqI I q1;obtain⟨ws,r2,s2,z2⟩:=sqI I q2;have st':=st;obtain⟨t1,t2,⟨a,b,t3⟩,t4,t5⟩:=st;have e1:=r1.length;have e2:=r2.length;refine zOR (I.ok.hd hc) l1 l2 st' s1 s2 (fun x y f1 f2=>?_) fun _ h' b7=>⟨rfl,zEG (t':=s.toks) I hf fun b o hb e=>?_⟩
  ·have m1:=(Wm.mp f1).1
   have m2:=(Wm.mp f2).1;rw[Qf] at m1 m2;omega
  ·simp only[Qc,Q4,or_false,not_or] at hb
   exact b7 b o hb.1 hb.2.2.1 hb.2.2.2.1 hb.2.2.2.2 e
 self:=fun _ _ _ _ _ st h=>wpAny_pyIter_zip st.1 h
abbrev eO(n:Addr):Obj:={ cls:=.type "enumerate", data:=.fields #[.none,.bool false,.ref n,rawInt 0,.none,.none] }
theorem zEn(k:Bool)(l:Addr)(xs:Array Value):Meets (Builtin.«enumerate.__new__» ⟨[.type "enumerate", .ref l],[]⟩) (fun _ R s=>qQ k s.heap l xs/\
  R (.ok (.ret (.ref (s.heap.push (zO k l)).objs.size))) { s with heap:=(s.heap.push (zO k l)).push (eO s.heap.objs.size) }):=
 .of_wp fun prog w A R s h=>by
  cases s with | mk hp g d tk os=>
  have d1:qQ k (Shared.heap ⟨hp,g,d,tk,os⟩) l xs:=h.1;have fin:=h.2;have hsub:=sub_enumerate;obtain⟨ob,ho⟩:∃ ob,hp.get? l=some ob:=by cases k<;>(obtain⟨o,e,_⟩:=d1;exact⟨o,e⟩)
  clear h;wp_walk using AutoSeq1.wpAny_loadPart' ho
  refine wpAny_stack_any fun st=>wpAny_pure ?_
  split
  ·rename_i c _ _ _ _ _
   cases (c==Value.type "enumerate")<;>(wp_walk using AutoSeq1.wpAny_loadPart' ho,xR d1;exact⟨_,rfl,fin⟩)
  ·wp_walk using AutoSeq1.wpAny_loadPart' ho,xR d1
   exact⟨_,rfl,fin⟩
theorem zEa{prog:Program}{w:World}{A:Around}{E:Value->Shared->Prop}{s:Shared}{k:Bool}{l:Addr}{xs:Array Value}{Q:Value->Shared->Prop}(sq:qQ k s.heap l xs)
  (h:∀ h2,IsEnum h2 (s.heap.objs.size+1) s.heap.objs.size 0 .none->zAg k h2 s.heap.objs.size l 0->(∀ c o,s.heap.get? c=some o->h2.get? c=some o)->Q (.ref (s.heap.objs.size+1)) { s with heap:=h2 }):
  wpAny (model prog w) A (call (.type "enumerate") [.ref l]) Q E s:=by
 refine callType_new F.called_enumerate (by decide) (F.typeCall_enumerate_1 _) (F.newCall_enumerate_1 _) (fun obj=>F.args_object_init_2 obj _) F.entry_enumerate_new (zEn k l xs) ⟨sq,?_⟩
 have m1:(s.heap.push (zO k l)).objs.size=s.heap.objs.size+1:=Heap.size_push ..;have r0:((s.heap.push (zO k l)).push (eO s.heap.objs.size)).get? s.heap.objs.size=some (zO k l):=Heap.get?_push_of_some _ (Heap.get?_push_size _ rfl);have r1:((s.heap.push (zO k l)).push (eO s.heap.objs.size)).get? (s.heap.push (zO k l)).objs.size=some (eO s.heap.objs.size):=Heap.get?_push_size _ rfl;show _/\_
 rw[m1] at r1 ⊢
 exact⟨⟨_,r1,rfl⟩,h _ r1 (.mk r0 rfl rfl) fun c o x=>Heap.get?_push_of_some _ (Heap.get?_push_of_some _ x)⟩
def Ite(K:PySem.W.Frag)(k:Bool)(a:Addr):It:=
  ⟨fun i H=>∃ xs x,SqK k K H a xs/\xs[i]?=some x,
   fun i H v H'=>∃ p x,v=.ref p/\H p=none/\H'=upd H p (.tup [.int i,x])/\∀ xs,SqK k K H a xs->xs[i]?=some x,
   fun i H=>∃ xs,SqK k K H a xs/\xs.length<=i⟩
def EnS(k:Bool)(a n:Addr)(i:Nat)(h:Heap):Prop:=(∃ old,IsEnum h (n+1) n i old)/\zAg k h n a i
theorem zEh{P:Program}{w:World}{K:Fg_}{elts:List Expr}{x1:Nat}{tp:Pos}(k:Bool)(a n:Addr)(l1:a<n):
  Turn P w K (.Tuple elts x1 tp) (Ite K k a) [n+1,n] (n+1) (EnS k a n) where
 mem:=by simp
 obj:=fun i h st b hb=>by
  obtain⟨⟨old,t1⟩,t2⟩:=st;obtain⟨o4,e4,_,d4⟩:=t2.get;simp only[Qc,Q4,or_false] at hb;rcases hb with rfl | rfl
  ·exact mP t1 rfl fun v z=>by cases z
  ·exact mP e4 d4 fun v z=>by cases z
 keep:=fun i h h' st k=>by
  obtain⟨⟨old,t1⟩,t2⟩:=st;exact⟨⟨old,k _ (by simp) _ t1⟩,t2.go fun o e=>k _ (by simp) o e⟩
 item:=by
  intro X hP hw hK hc i pins s σ H E I hf st hg;subst hP hw hK;obtain⟨xs,x,q1,hx⟩:=hg;obtain⟨us,r1,s1,z1⟩:=sqI I q1;obtain⟨u,hu,ru⟩:=r1.get hx;obtain⟨⟨old,t1⟩,t2⟩:=st;have hi:i<us.toArray.size:=by simpa using (Vd.mp hu).1
  have en:n+1∉[n,a]:=fun z=>by
   rcases Qc.mp z with z | z
   ·exact Uv n z
   ·exact X4 (Xa l1) (Qw.mp z)
  have D:=zLi (prog:=X.prog) (w:=X.w) (A:=X.A.in1) (k:=k) (I.ok.hd hc) n a (Qo l1) us.toArray;refine wpAny_pyNext_enum_itemD D t1 ⟨t2,s1⟩ hi (Uv n) en fun v h' tk b0 b1 b2 b3 _ b7=>⟨_,rfl,wpAny_letOwnedTupleGo_enum (s:={ s with heap:=h',toks:=tk+1 }) b1 fun h'' c1 c2=>?_⟩
  have hv:v=u:=by
   have:us.toArray[i]?=some u:=by simpa using hu
   rw[this] at b0;cases b0;rfl
  subst hv;have zl:s.heap.objs.size≠n+1:=X4 (Heap.lt_size t1);have np:H s.heap.objs.size=none:=I.hok.fresh (Qb _)
  have I1:Inv X pins σ (upd H s.heap.objs.size (.tup [.int i,x])) { s with heap:=h'',toks:=tk+1 }:=zGk (us:=[.int i tk,v]) I hf (fun b o hb e=>by
    simp only[Qc,Q4,or_false,not_or] at hb
    exact c2.extBut b o hb.1 (b7 b o hb.1 hb.2 e)) (Qb _) ⟨_,c2.extBut _ _ zl b3,rfl,_,rfl⟩ (.cons ⟨_,rfl⟩ (.cons ru .nil)) (show 2<=sizeLine by decide)
  refine⟨.ref s.heap.objs.size,_,I1,rfl,⟨_,x,rfl,np,rfl,fun zs hz=>by rw[zBh I hz q1];exact hx⟩,⟨⟨v,by simpa using c1⟩,b2.1.go fun o e=>c2.extBut _ o (Qo (Yd n)) e⟩,fun b hb=>?_⟩
  obtain⟨o,e,_⟩:∃ o,s.heap.get? b=some o/\True:=by
   obtain⟨o4,e4,_⟩:=t2.get;simp only[Qc,Q4,or_false] at hb;rcases hb with rfl | rfl
   ·exact⟨_,t1,trivial⟩
   ·exact⟨_,e4,trivial⟩
  rw[aT (Qo (Heap.lt_size e))];exact(hf b hb).1
 done:=by
  intro X hP hw hK hc i pins s σ H E I hf st hg;subst hP hw hK;obtain⟨xs,q1,hl⟩:=hg;obtain⟨us,r1,s1,z1⟩:=sqI I q1;obtain⟨⟨old,t1⟩,t2⟩:=st;have e1:=r1.length;have hT:s.TypeIs (.ref (n+1)) "enumerate" := ⟨_,t1,rfl⟩;unfold pyNext;refine wpAny_bind (wpAny_attempt (wpAny_callSpecial?_slot (name:=Str.ofString "__next__") hT F.slot_enumerate_next (wpAny_call_entry F.slot_enumerate_next hT F.entry_enumerate_next ?_ (F.args_enumerate_next_1 _))))
  show wpAny _ _ (field (.ref (n+1)) 2 >>= _) _ _ _
  refine wpAny_bind (wpAny_field t1 rfl (x:=.ref n) rfl ?_)
  refine wpAny_bind (zCc (I.ok.hd hc) t2 s1 (by simp;omega) fun h' x he' hx'=>?_)
  obtain⟨o,ho,hc⟩:=hx';refine wpAny_bind (wpAny_isInstance (T := "StopIteration") (b:=true) ⟨o,ho,hc⟩ isSubtype_stop ?_)
  refine wpAny_pure ⟨rfl,zEG (t':=s.toks) I hf fun b o hb e=>?_⟩
  simp only[Qc,Q4,or_false,not_or] at hb;exact he' b o hb.2 e
 self:=fun _ _ _ _ _ st h=>wpAny_pyIter_enum st.1.choose_spec h
section
unseal PEd PEf PTd PWd PAd PSd dF POd PGd fT PId PSx iV PTs PCd PCf
variable{X:Cx}{G:Gx}{fs:Fv}{f:Ev}
def iZp(K:PySem.W.Frag)(ta:TA):TI:=fun σ H R=>ta σ H fun vs H1=>∃ k1 k2 a1 a2 xs ys,vs=[.ref a1,.ref a2]/\SqK k1 K H1 a1 xs/\SqK k2 K H1 a2 ys/\R (Itz K k1 k2 a1 a2) H1
theorem zLN{a b:Expr}{ta:TA}{p pos:Pos}{elts:List Expr}{x1:Nat}{tp:Pos}(hg:Gl X "zip")(hm:X.mg "zip" = none)(ha:PA X [a,b] ta)
  (hs:starEach [a,b] X.env=[(false,eval a X.env),(false,eval b X.env)]:=by rfl) (hs2:starEach [b] X.env=[(false,eval b X.env)]:=by rfl):PI X (.Tuple elts x1 tp) (.Call (.Name "zip" p) [a,b] [] pos) (iZp X.K ta):=by
 intro pins s σ H R I h;refine Call_ (oH I hg hm boot_zip (X5 (thn (ha pos pins s σ H _ I h) fun us s1 ⟨vs,H1,I1,r1,q1⟩=>?_) (by rw[hs,hs2]) (by rw[hs2];rfl)))
 obtain⟨k1,k2,a1,a2,xs,ys,rfl,h1,h2,q⟩:=q1
 cases r1 with
 | cons r rr=>
  cases rr with
  | cons r' rr=>
   cases rr;cases r;cases r'
   obtain⟨us,rv,p1,z1⟩:=sqI I1 h1;obtain⟨ws,rw_,p2,z2⟩:=sqI I1 h2;refine zHG p1 p2 fun h' b1 b6=>wpAny_pyIter_zip (s:={ s1 with heap:=h' }) b1.1 ?_
   refine⟨s1.heap.objs.size+4,_,_,_,H1,rfl,I1.kept (t':=s1.toks) b6,zHV k1 k2 a1 a2 s1.heap.objs.size p1.lt p2.lt,b1,fun b hb=>?_,q⟩
   have hb':s1.heap.objs.size<=b:=by
    simp only[Qc,Q4,or_false] at hb;rcases hb with rfl | rfl | rfl | rfl | rfl<;>omega
   exact I1.fpOk hb' (I1.hok.fresh hb')
theorem zAu:∀(xs ys:List D)(i:Nat)(d:D),(kD xs ys)[i]?=some d->∃ a b,xs[i]?=some a/\ys[i]?=some b/\d=.tup [a,b]
 | a::r,b::q,0,d,h=>by cases h;exact⟨a,b,rfl,rfl,rfl⟩
 | a::r,b::q,i+1,d,h=>zAu r q i d h
 | [],_,i,d,h=>by cases i<;>cases h
 | a::r,[],i,d,h=>by cases i<;>cases h
theorem zAN:∀(xs ys:List D),(kD xs ys).length=min xs.length ys.length
 | a::r,b::q=>by
  have:=zAN r q
  simp only[kD,Qk,this];omega
 | [],_=>by simp[kD]
 | a::r,[]=>by simp[kD]
theorem zEv{K:Fg_}{Hi:Hp}{k1 k2:Bool}{a1 a2:Addr}{xs ys:List V}{ds es:List D}(h1:SqK k1 K Hi a1 xs)(h2:IsDs K Hi xs ds)(h3:SqK k2 K Hi a2 ys)(h4:IsDs K Hi ys es):
  uQ K Hi (Itz K k1 k2 a1 a2) (kD ds es):=fun Hi1 H1 s1 s2 i=>by
 have g1:=nJ (s1.trans s2) h1;have g3:=nJ (s1.trans s2) h3;refine⟨fun hl=>⟨xs,ys,g1,g3,?_⟩,fun d hd=>?_⟩
 ·rw[zAN] at hl
  have e1:=h2.length;have e2:=h4.length;omega
 ·obtain⟨a,b,ha,hb,rfl⟩:=zAu ds es i d hd
  obtain⟨v,hv,rv⟩:=h2.at ha;obtain⟨w,hw,rw_⟩:=h4.at hb;refine⟨⟨xs,ys,v,w,g1,g3,hv,hw⟩,fun x H2 y=>?_⟩
  obtain⟨p,x',y',rfl,hp,rfl,y1,y2⟩:=y;have e1:=y1 xs g1;have e2:=y2 ys g3;rw[hv] at e1;cases e1
  rw[hw] at e2;cases e2
  have hi:=s2.none hp;have sm:=bU hi (.tup [v,w]);exact⟨upd Hi1 p (.tup [v,w]),Ext.new s2 hp,.tup (.inl (.inl aQ)) (.cons ((rv.mono s1).mono sm) (.cons ((rw_.mono s1).mono sm) .nil))⟩
theorem zOT{K:Fg_}{H:Hp}{v:V}{d:D}{ds:List D}(h:IsD K H v d)(e:zGQ d=some ds):∃ k a xs,v=.ref a/\SqK k K H a xs/\IsDs K H xs ds:=by
 cases d with
 | lst es=>cases e;obtain⟨a,xs,rfl,h1,h2⟩:=h.lstI;exact⟨true,a,xs,rfl,h1,h2⟩
 | tup es=>cases e;obtain⟨a,xs,rfl,h1,h2⟩:=h.tupI;exact⟨false,a,xs,rfl,h1,h2⟩
 | _=>cases e
theorem zKf{a b:Expr}{p pos:Pos}{elts:List Expr}{x1:Nat}{tp:Pos}(hg:Gl X "zip")(hm:X.mg "zip" = none)(ha:PAd X G [a,b] fs)
  (hs:starEach [a,b] X.env=[(false,eval a X.env),(false,eval b X.env)]:=by rfl) (hs2:starEach [b] X.env=[(false,eval b X.env)]:=by rfl):
  PId X G (.Tuple elts x1 tp) (.Call (.Name "zip" p) [a,b] [] pos) (zKS fs):=PI.wk (zLN hg hm ha hs hs2) fun σ H Q q=>by
 obtain⟨ρ,Hi,R,ou⟩:=q;refine zGN R ou fun vs ds Hi1 H1 e1 R1 r1 o1=>?_
 split at o1
 ·rename_i x y
  obtain⟨v,w,rfl,h,h'⟩:=r1.two;split at o1
  ·rename_i ds es q1 q2
   obtain⟨k1,a1,xs,rfl,g1,g2⟩:=zOT h q1;obtain⟨k2,a2,ys,rfl,g3,g4⟩:=zOT h' q2;exact⟨k1,k2,a1,a2,xs,ys,rfl,nJ R1.s g1,nJ R1.s g3,o1.here R1.s _ (zEv g1 g2 g3 g4)⟩
  ·exact o1.elim
 ·exact o1.elim
def iEn(K:PySem.W.Frag)(ta:TA):TI:=fun σ H R=>ta σ H fun vs H1=>∃ k a xs,vs=[.ref a]/\SqK k K H1 a xs/\R (Ite K k a) H1
theorem zJA{a:Expr}{ta:TA}{p pos:Pos}{elts:List Expr}{x1:Nat}{tp:Pos}(hg:Gl X "enumerate")(hm:X.mg "enumerate" = none)(ha:PA X [a] ta)(hs:starEach [a] X.env=[(false,eval a X.env)]:=by rfl):
  PI X (.Tuple elts x1 tp) (.Call (.Name "enumerate" p) [a] [] pos) (iEn X.K ta):=by
 intro pins s σ H R I h;refine Call_ (oH I hg hm boot_enumerate (X5 (thn (ha pos pins s σ H _ I h) fun us s1 ⟨vs,H1,I1,r1,q1⟩=>?_) hs rfl))
 obtain⟨k,t,xs,rfl,hq,q⟩:=q1
 cases r1 with
 | cons r rr=>
  cases rr;cases r;obtain⟨its,rv,pt,hz⟩:=sqI I1 hq;refine zEa pt fun h' b1 b2 b6=>wpAny_pyIter_enum (s:={ s1 with heap:=h' }) b1 ?_
  refine⟨s1.heap.objs.size+1,_,_,_,H1,rfl,I1.kept (t':=s1.toks) b6,zEh k t s1.heap.objs.size pt.lt,⟨⟨_,b1⟩,b2⟩,fun b hb=>?_,q⟩
  have hb':s1.heap.objs.size<=b:=by
   simp only[Qc,Q4,or_false] at hb;rcases hb with rfl | rfl<;>omega
  exact I1.fpOk hb' (I1.hok.fresh hb')
theorem zAD:∀(xs:List D)(n i:Nat)(d:D),(kG n xs)[i]?=some d->∃ a,xs[i]?=some a/\d=.tup [.int ((n+i:Nat):Int),a]
 | a::r,n,0,d,h=>by cases h;exact⟨a,rfl,rfl⟩
 | a::r,n,i+1,d,h=>by
  obtain⟨b,h1,h2⟩:=zAD r (n+1) i d h;exact⟨b,h1,by rw[h2];congr 4;omega⟩
 | [],n,i,d,h=>by cases i<;>cases h
theorem zH:∀(xs:List D)(n:Nat),(kG n xs).length=xs.length
 | a::r,n=>by simp only[kG,Qk,zH r (n+1)]
 | [],n=>rfl
theorem uU{K:Fg_}{Hi:Hp}{k:Bool}{a:Addr}{xs:List V}{ds:List D}(h1:SqK k K Hi a xs)(h2:IsDs K Hi xs ds):uQ K Hi (Ite K k a) (kG 0 ds):=fun Hi1 H1 s1 s2 i=>by
 have g1:=nJ (s1.trans s2) h1;refine⟨fun hl=>⟨xs,g1,?_⟩,fun d hd=>?_⟩
 ·rw[zH] at hl
  rw[h2.length];exact hl
 ·obtain⟨a,ha,rfl⟩:=zAD ds 0 i d hd
  obtain⟨v,hv,rv⟩:=h2.at ha;refine⟨⟨xs,v,g1,hv⟩,fun x H2 y=>?_⟩
  obtain⟨p,x',rfl,hp,rfl,y1⟩:=y;have e1:=y1 xs g1;rw[hv] at e1;cases e1
  have hi:=s2.none hp;rw[Q6];exact⟨upd Hi1 p (.tup [.int i,v]),Ext.new s2 hp,.tup (.inl (.inl aQ)) (.cons (.int _) (.cons ((rv.mono s1).mono (bU hi _)) .nil))⟩
theorem zIJ{a:Expr}{p pos:Pos}{elts:List Expr}{x1:Nat}{tp:Pos}(hg:Gl X "enumerate")(hm:X.mg "enumerate" = none)(ha:PEd X G a f)(hst:starEach [a] X.env=[(false,eval a X.env)]:=by rfl):
  PId X G (.Tuple elts x1 tp) (.Call (.Name "enumerate" p) [a] [] pos) (zGv f):=PI.wk (zJA hg hm (iP ha mJ (by rw[hst];rfl)) hst) fun σ H Q q=>by
 obtain⟨ρ,Hi,R,ou⟩:=q;refine zBD R ou fun v d Hi1 H1 e1 R1 r1 o1=>?_
 cases d with
 | lst ds=>
  obtain⟨a,xs,rfl,h1,h2⟩:=r1.lstI;exact⟨true,a,xs,rfl,cC R1.s h1,o1.here R1.s _ (uU (k:=true) h1 h2)⟩
 | tup ds=>
  obtain⟨a,xs,rfl,h1,h2⟩:=r1.tupI;exact⟨false,a,xs,rfl,bN R1.s h1,o1.here R1.s _ (uU (k:=false) h1 h2)⟩
 | _=>exact o1.elim
end
end L3
namespace L3
open PySem PySem.Spec PyProof.Rows L2
unseal PEd PEf PTd PWd PAd PSd dF POd PGd fT PId PSx iV PTs PCd PCf
structure BlkOk2 (X:Cx) (xs:List Str) (scope:Scope):Prop where
 kind:scope.kind=.function
 cell:∀ y∈scope.names,y.2≠.cell
 loc:∀ x∈xs,scope.names.lookup x=some .local
 names:∀ y∈scope.names,y.2=.local->scope.names.lookup y.1=some .local
 fre:∀ p∈scope.names,p.2=.free->X.env.kindOf p.1=some .cell∨X.env.kindOf p.1=some .free
 oth:∀ y∈X.N,scope.names.lookup y≠some .local
def zAT(X:Cx)(xs:List Str)(scope:Scope)(C:Addr)(s₂:Shared)(H₂:Hp)(fp:List Addr):Cx:=
  { prog:=X.prog,w:=X.w,K:=X.K,mg:=X.mg,base:=X.base,A:=X.A,N:=X.N++xs,s₀:=s₂,H₀:=H₂,env:=compEnvC scope (zBN X.env scope.names []) C X.env,outer:=X.stack,stack:=X.stack,
    ex:=fp,fn:=fun _=>false,calm:=X.calm,pn:=X.pn,xe:=fun _ _=>False }
section
variable{X:Cx}{pins:List (Addr×Obj)}{σ:St}{H:Hp}{s₂:Shared}{xs:List Str}{scope:Scope}{fp:List Addr}{D C:Addr}{h₁:Heap}
theorem BlkOk2.cl(B:BlkOk2 X xs scope)(I:Inv X pins σ H s₂):∀ p∈scope.names,p.2=.free->∃ c,X.env.cells.lookup p.1=some c:=fun p hp e=>I.ok.has p.1 (B.fre p hp e)
theorem zMm(I:Inv X pins σ H s₂)(B:BlkOk2 X xs scope)(hfp:∀ b∈fp,qS X pins H b)(hfl:∀ b∈fp,b<s₂.heap.objs.size)(hD:s₂.heap.objs.size<=D)(hC:s₂.heap.objs.size<=C)(hDC:D≠C)
  (old:∀ b o,s₂.heap.get? b=some o->h₁.get? b=some o) {n:Nat} (hacc:h₁.get? D=some { cls:=.type "list", data:=.seq ([]:List Value).toArray n }) {m:Str->Option Value} (hns:h₁.Ns C m) (t:Nat):
  Inv (zAT X xs scope C s₂ H fp) pins (σ++xs.map fun _=>none) (upd H D (.lst [])) { s₂ with heap:=h₁,toks:=t }:=by
 have sub:=sY scope.names [] (B.cl I) (fun y c e=>nomatch e)
 have old_lt:∀ {b:Addr} {o:Obj},s₂.heap.get? b=some o->b≠D/\b≠C:=fun e=>⟨Qo (Ql (Heap.lt_size e) hD),Qo (Ql (Heap.lt_size e) hC)⟩
 have free:∀ {b:Addr},b≠D->H b=none->upd H D (.lst []) b=none:=fun n e=>by rw[aT n];exact e
 refine⟨⟨I.ok.mod,B.kind,I.ok.glob,I.ok.blt,hC,fun y z c e1 e2=>I.ok.inj y z c (sub y c e1) (sub z c e2),fun y hy=>?_,fun y c e=>(nomatch e),I.ok.hd,I.ok.frames,.inl rfl,fun b hb=>⟨Qo (Ql (hfl b hb) hC),fun y c e=>(hfp b hb).2.2.2.2.1 y c (sub y c e)⟩,
  I.bs,Qp I.ok.bsz I.sz,fun b o e hb=>?_,fun b hb z=>?_,I.stack,I.stkFree⟩,rfl,I.bare,Un.laid old hD (I.hok.fresh hD),⟨m,hns,fun i y v e1 e2 e3=>?_⟩,fun y c e=>?_,free (Ne.symm hDC) (I.hok.fresh hC),fun y c e=>?_,fun p hp=>?_,I.hok.laid old hD ⟨Vk _,[],n,.nil,hacc⟩,?_⟩
 ·have:∃ k,(k=NameKind.cell∨k=NameKind.free)/\((relabel scope X.env).names).lookup y=some k:=hy.elim (fun h=>⟨_,.inl rfl,h⟩) fun h=>⟨_,.inr rfl,h⟩
  obtain⟨k,hk,e⟩:=this
  have e':(y,NameKind.free)∈scope.names:=by
   rcases bZ e with z | ⟨_,z⟩
   ·rcases hk with rfl | rfl
    ·exact absurd rfl (B.cell _ (bP z))
    ·exact bP z
   ·exact bP z
  exact sH scope.names [] y e'
 ·rcases (hfp b hb).2.2.2.1 with z | z
  ·exact I.ok.noex b o e z
  ·exact absurd (Ql (Heap.lt_size e) (Qp I.ok.bsz z)) (Vm _)
 ·rcases Qc.mp (I.stkSub b z) with w | w
  ·exact(hfp b hb).2.1 w
  ·exact(hfp b hb).2.2.1 w
 ·
  have hi:i<σ.length:=by
   by_cases hi:i<σ.length
   ·exact hi
   ·exfalso
    rw[Vs (by omega),Qq] at e2
    cases q:xs[i-σ.length]? with
    | none=>rw[q] at e2;cases e2
    | some z=>rw[q] at e2;cases e2
  rw[Vj hi] at e2;have e1':(X.N++xs)[i]?=some y:=e1;rw[Vj (by rw[<-I.len];exact hi)] at e1'
  cases q:X.N[i]? with
  | none=>rw[q] at e1';cases e1'
  | some z=>
   rw[q] at e1';have hy:z=y:=Vc e1';have hz:z∈X.N:=Qg q;subst hy
   have fr:(z,NameKind.free)∈scope.names:=by
    rcases e3 with h | h | h
    ·rcases bZ h with h | ⟨h,_⟩
     ·exact absurd h (B.oth z hz)
     ·cases h
    ·rcases bZ h with h | ⟨_,h⟩
     ·exact absurd rfl (B.cell _ (bP h))
     ·exact bP h
    ·rcases bZ h with h | ⟨h,_⟩
     ·exact bP h
     ·cases h
   have kd:=B.fre _ fr rfl;obtain⟨m0,hn0,hl⟩:=I.loc;obtain⟨u,ru,lk⟩:=hl i z v q e2 (kd.elim (fun h=>.inr (.inl h)) fun h=>.inr (.inr h))
   refine⟨u,ru,.inr ⟨?_,?_⟩⟩
   ·rcases e3 with h | h | h
    ·rcases bZ h with h | ⟨h,_⟩
     ·exact absurd h (B.oth z hz)
     ·cases h
    ·exact .inl h
    ·exact .inr h
   ·rcases lk with⟨k1,_⟩ | ⟨_,c,hc,hcell⟩
    ·rcases kd with kd | kd<;>(rw[kd] at k1;cases k1)
    ·obtain⟨c',hc'⟩:=sH (env:=X.env) scope.names [] z fr
     have:=sub z c' hc'
     rw[hc] at this;cases this;obtain⟨o,ho,hd⟩:=hcell;exact⟨c,hc',o,old _ _ ho,hd⟩
 ·obtain⟨v,o,ho,hd⟩:=I.cell y c (sub y c e)
  exact⟨v,o,old _ _ ho,hd⟩
 ·obtain⟨v,o,ho,hd⟩:=I.cell y c (sub y c e)
  exact free (old_lt ho).1 (I.freeC y c (sub y c e))
 ·obtain⟨e,n,ne,nf,d⟩:=I.pin p hp
  refine⟨old _ _ e,free (old_lt e).1 n,(old_lt e).2,fun z=>?_,d⟩
  rcases Qc.mp (I.stkSub _ z) with w | w
  ·exact ne w
  ·exact nf w
 ·show(σ++xs.map fun _=>none).length=(X.N++xs).length
  rw[Qm,Qm,Qh,I.len]
end
theorem zBA{f:Ev}{ρ:Rho}{d:D}{ds es:List D}(h:eX f ρ (d::ds)=.ok es):
  ∃ a b e es',d=.tup [a,b]/\f (ρ++[.val a,.val b])=.ok e/\eX f ρ ds=.ok es'/\es=e::es':=by
 unfold eX at h;split at h
 ·cases ‹_=[]›
 ·rename_i a b ds' q
  cases q
  cases hf:noErr (f (ρ++[.val a,.val b])) with
  | no=>rw[hf] at h;cases h
  | err c=>rw[hf] at h;cases h
  | ok e=>
   rw[hf] at h
   cases hr:eX f ρ ds with
   | no=>simp only[Res.bind,hr] at h;cases h
   | err c=>simp only[Res.bind,hr] at h;cases h
   | ok es'=>
    simp only[Res.bind,hr] at h;cases h;exact⟨a,b,e,es',rfl,wR hf,rfl,rfl⟩
 ·cases h
theorem zAr{f:Ev}{ρ:Rho}{c:Str}:∀ {ds:List D},eX f ρ ds≠.err c
 | []=>fun h=>by cases h
 | d::ds=>fun h=>by
  unfold eX at h;split at h
  ·cases ‹_=[]›
  ·rename_i a b ds' q
   cases q
   cases hf:noErr (f (ρ++[.val a,.val b])) with
   | no=>rw[hf] at h;cases h
   | err c=>cases q:f (ρ++[.val a,.val b])<;>(rw[q] at hf;cases hf)
   | ok e=>
    rw[hf] at h
    cases hr:eX f ρ ds with
    | no=>simp only[Res.bind,hr] at h;cases h
    | err c'=>exact zAr hr
    | ok es'=>simp only[Res.bind,hr] at h;cases h
  ·cases h
section
variable{X:Cx}{G:Gx}{elt iter:Expr}{xa xb:Str}{pa pb tp pos:Pos}{x1:Nat}{scope:Scope}{it:Fv}{f:Ev}{k:Nat}
theorem zDD(hc:X.calm=true/\TB X.K X.mg G.Bi G.B)(hr:Room k X.A)(Bk:BlkOk2 X [xa,xb] scope)(hN:(X.N++[xa,xb]).Nodup)(hi:PId X G (.Tuple [.Name xa pa,.Name xb pb] x1 tp) iter it)
  (hb:∀(C:Addr)(s₂:Shared)(H₂:Hp)(fp:List Addr)(G':Gx),Good (zAT X [xa,xb] scope C s₂ H₂ fp) G' k->PEd (zAT X [xa,xb] scope C s₂ H₂ fp) G' elt f)
  (hs:∀ x,foldedSetIterable iter X.env x=pure x:=by intro _;rfl)
  {pins:List (Addr×Obj)} {s:Shared} {σ:St} {H Hi:Hp} {ρ:Rho} {use:Option (Value->Sem Unit)} {Q':Value->Shared->Prop} {Qa:Addr->Hp->Prop} {cpos:Pos} (I:Inv X pins σ H s) (R:jG X G Hi H σ ρ)
  (ou:Out G Hi H ((vF it f) ρ) fun ds Hi' H'=>∀ a,zHY X.K H Hi' H' a ds->Qa a H') (hend:zOH X pins σ use Q' Qa):
  wpAny (model X.prog X.w) X.A (comprehension (.ListComp elt [⟨.Tuple [.Name xa pa,.Name xb pb] x1 tp,iter,[],0⟩] scope pos) scope X.env cpos (newList []) false (eval iter X.env) use) Q' X.xe s:=by
 refine wpAny_comprehension_free (use:=use) rfl hs (zIN (Bk.cl I)) Bk.kind Bk.names ?_
 refine thn (hi pins s σ H (fun J H2=>∃ ds Hi2,Ext Hi H Hi2 H2/\uQ X.K Hi2 J ds/\Out G Hi2 H2 (if ds.length<=16777215 then eX f ρ ds else .no) fun ds Hi' H'=>∀ a,zHY X.K H Hi' H' a ds->Qa a H') I
  ⟨ρ,Hi,R,(Out.bind ou).imp fun ds Hi2 H2 e2 o2 J gv=>⟨ds,Hi2,e2,gv,o2⟩⟩) fun v s1 h1=>thn h1 fun itv s2 h2=>?_
 obtain⟨itA,fp,tn,J,H2,rfl,I2,T,st2,f2,ds,Hi2,e2,gv,ou2⟩:=h2
 have hlen:ds.length<=16777215:=by
  by_cases hlen:ds.length<=16777215
  ·exact hlen
  ·rw[if_neg hlen] at ou2;exact ou2.elim
 rw[if_pos hlen] at ou2
 cases hes:eX f ρ ds with
 | no=>rw[hes] at ou2;exact ou2.elim
 | err c=>exact absurd hes zAr
 | ok es=>
  rw[hes] at ou2;have R2:jG X G Hi2 H2 σ ρ:=R.grow e2;refine wpAny_newObj_type (wpAny_newFunctionEnv Bk.cell (by intro y hy;simp at hy) (fun h₁ hns₁ hsb₁=>?_) Bk.kind)
  dsimp only at hns₁ hsb₁ ⊢
  generalize hH2:s2.heap.push { cls:=.type "list", dict:=none,data:=.seq ([]:List Value).toArray }=HP at hns₁ hsb₁ ⊢;have hC:HP.objs.size=s2.heap.objs.size+1:=by rw[<-hH2,Heap.size_push]
  have hDC:s2.heap.objs.size≠HP.objs.size:=by rw[hC];omega
  have ltC:∀ {b:Addr} {o:Obj},s2.heap.get? b=some o->b≠HP.objs.size:=fun e=>by rw[hC];exact Qo (Xa (Heap.lt_size e))
  have old:∀ b o,s2.heap.get? b=some o->h₁.get? b=some o:=fun b o e=>hsb₁.extBut b o (ltC e) (Heap.get?_push_of_some _ (hH2 ▸ Heap.get?_push_of_some _ e))
  have hacc:h₁.get? s2.heap.objs.size=some { cls:=.type "list", data:=.seq ([]:List Value).toArray 0 }:=hsb₁.extBut _ _ hDC (Heap.get?_push_of_some _ (hH2 ▸ Heap.get?_push_size _ rfl));have hfl:∀ b∈fp,b<s2.heap.objs.size:=fun b hb=>by obtain⟨o,e,_⟩:=T.obj _ _ st2 b hb;exact Heap.lt_size e
  have IE:=zMm (t:=s2.toks+([]:List (Str×Value)).length) I2 Bk f2 hfl (Qb _) (by rw[hC];omega) hDC old hacc hns₁
  have sub:=sY scope.names [] (Bk.cl I2) (fun y c e=>nomatch e)
  have H2D:H2 s2.heap.objs.size=none:=I2.hok.fresh (Qb _);have HD:H s2.heap.objs.size=none:=e2.h.none H2D;have Hi2D:Hi2 s2.heap.objs.size=none:=e2.s.none H2D;generalize hX:zAT X [xa,xb] scope HP.objs.size s2 H2 fp=Y at IE
  have GY:Good Y ⟨G.B,G.Bi,fun _ _=>False⟩ k:=by
   subst hX;exact⟨hc.1,hr,fun pins σ H s e s' _ h=>by obtain⟨_,_,_,_,_,c,_,z⟩:=h;exact z.elim,PassesOwn.never,hc.2⟩
  have hel:=(hX ▸ hb HP.objs.size s2 H2 fp ⟨G.B,G.Bi,fun _ _=>False⟩ (hX.symm ▸ GY):PEd Y ⟨G.B,G.Bi,fun _ _=>False⟩ elt f)
  have stat:∀ {H':Hp},(∀ b∈fp,H' b=none)->∀ b∈fp,qS Y pins H' b:=fun hn b hb=>by
   subst hX;refine⟨hn b hb,?_,fun z=>?_,.inl hb,fun y c e=>(f2 b hb).2.2.2.2.1 y c (sub y c e),(f2 b hb).2.2.2.2.2⟩
   ·show b≠HP.objs.size
    rw[hC];exact Qo (Xa (hfl b hb))
   ·rcases Qc.mp (I2.stkSub b z) with w | w
    ·exact(f2 b hb).2.1 w
    ·exact(f2 b hb).2.2.1 w
  have YN:Y.N.Nodup:=by subst hX;exact hN
  have Ya:Y.N[σ.length]?=some xa:=by
   subst hX;show(X.N++[xa,xb])[σ.length]?=some xa
   rw[Vs (by rw[I2.len];omega),I2.len,Yc];rfl
  have Yb:Y.N[σ.length+1]?=some xb:=by
   subst hX;show(X.N++[xa,xb])[σ.length+1]?=some xb
   rw[Vs (by rw[I2.len];omega),I2.len,Wn];rfl
  have Yla:Y.env.scope.names.lookup xa=some .local:=by subst hX;exact lookup_relabel_local (Bk.loc xa (by simp))
  have Ylb:Y.env.scope.names.lookup xb=some .local:=by subst hX;exact lookup_relabel_local (Bk.loc xb (by simp))
  have asg:PG Y (.Tuple [.Name xa pa,.Name xb pb] x1 tp) (L2.zBb Y.K 2 (L2.gB (L2.gName σ.length) (L2.gB (L2.gName (σ.length+1)) L2.zBm))):=
   zIG (by subst hX;exact hc.1) (xP (zBK YN Ya (.inl Yla) (.inr Yla)) (xP (zBK YN Yb (.inl Ylb) (.inr Ylb)) zEu))
  have Ye:Y.env=compEnvC scope (zBN X.env scope.names []) HP.objs.size X.env:=by subst hX;rfl
  have Yxe:∀ e s,¬ Y.xe e s:=by subst hX;exact fun _ _ h=>h
  have tn1:tn 0 h₁:=T.keep _ _ _ st2 fun b _ o e=>old b o e
  have loop:∀ s3:Shared,s3={ s2 with heap:=h₁,toks:=s2.toks+([]:List (Str×Value)).length }->
    codeAny (model X.prog X.w) X.A (.compLoop (.ListComp elt [⟨.Tuple [.Name xa pa,.Name xb pb] x1 tp,iter,[],0⟩] scope pos) 0 (.ref itA) (.ref s2.heap.objs.size) Y.env) (compPost (model X.prog X.w) X.A X.xe use Q' (.ref s2.heap.objs.size) HP.objs.size) s3:=by
   rintro s3 rfl
   subst hX
   have fr0:∀ b∈fp,upd H2 s2.heap.objs.size (.lst []) b=none:=fun b hb=>by
    rw[aT (Qo (hfl b hb))];exact(f2 b hb).1
   refine PyProof.Rows.LCp.codeAny_compLoop_pair (fun n s'=>∃ c:CW,n=ds.length-c.i/\CS (zAT X [xa,xb] scope HP.objs.size s2 H2 fp) pins σ tn fp Hi2 H2 s2.heap.objs.size 2 (fun i=>eX f ρ (ds.drop i)) es c s') ?_ ds.length
    ⟨⟨0,[none,none],_,Hi2,[],[],es⟩,rfl,⟨IE,rfl,tn1,fr0,(Ext.refl e2.s).trans (Ext.newF e2.s H2D),aQ,Hi2D,.nil,Qb _,hes,rfl⟩⟩
   ·rintro n s3 ⟨⟨i,vv,H3,Hi3,ys,done,rest⟩,rfl,I3,wd3,st3,fr3,e3,hD3,hiD3,rd3,hl3,hr3,hes3⟩
    dsimp only at I3 wd3 st3 fr3 e3 hD3 hiD3 rd3 hl3 hr3 hes3 ⊢
    obtain⟨v,v',rfl⟩:∃ v v',vv=[v,v']:=by
     match vv,wd3 with
     | [v,v'],_=>exact⟨v,v',rfl⟩
    obtain⟨w1,w2⟩:=gv Hi3 H3 e3.i e3.s i;have lift:∀ {α:Type} {m:Sem α} {Q':α->Shared->Prop} {E:Value->Shared->Prop} {s':Shared},wpAny (model X.prog X.w) X.A m Q' (zAT X [xa,xb] scope HP.objs.size s2 H2 fp).xe s'->wpAny (model X.prog X.w) X.A m Q' E s':=fun h=>wpAny_mono h (fun _ _ z=>z) fun e s z=>(Yxe e s z).elim
    by_cases hlt:i<ds.length
    ·obtain⟨d,hd⟩:∃ d,ds[i]?=some d:=⟨_,Qj hlt⟩
     obtain⟨go,yl⟩:=w2 d hd
     have e4:ds.drop i=d::ds.drop (i+1):=by
      rw[Qj hlt] at hd;cases hd;exact Ut hlt
     rw[e4] at hr3;refine thn (T.item (zAT X [xa,xb] scope HP.objs.size s2 H2 fp) rfl rfl rfl hc.1 i pins s3 _ H3 _ I3 (stat fr3) st3 go) fun r s4 ⟨u,hru,h4⟩=>?_
     subst hru;refine thn h4 fun _ s5 h5=>?_
     obtain⟨xv,H5,I5,r5,y5,st5,fr5⟩:=h5;obtain⟨Hi5,e5,rd5⟩:=yl xv H5 y5;have I5':=I5.pinned (stat fr5) (T.obj _ _ st5);obtain⟨a,b,e,es',rfl,hf,hr4,hee⟩:=zBA hr3;obtain⟨pa',ps,rfl,hq,hps⟩:=rd5.tupI;obtain⟨va,vb,rfl,ra,rb⟩:=hps.two;refine lift (thn (asg _ s5 _ H5 _ u (fun σ' H'=>σ'=σ++[some va,some vb]/\H'=H5) I5' r5 ⟨pa',_,rfl,bN (e3.trans e5).s hq,rfl,va,_,rfl,vb,_,rfl,rfl,?_,rfl⟩) fun _ s6 h6=>?_)
     ·rw[Uu _ _ (Qb _),Yc,Uu _ _ (Nat.le_succ _),Nat.succ_sub (Qb _),Yc];rfl
     obtain⟨σ6,H6,I6,rfl,rfl⟩:=h6;have E5:Ext Hi2 H2 Hi5 H6:=e3.trans e5
     have R5:jG (zAT X [xa,xb] scope HP.objs.size s2 H2 fp) ⟨G.B,G.Bi,fun _ _=>False⟩ Hi5 H6 (σ++[some va,some vb]) (ρ++[.val a,.val b]):=by
      have:=Rel.snoc (Rel.snoc (R2.grow E5) ra) rb
      rw[Xi,Xi] at this;exact this
     obtain⟨hD5,hiD5⟩:=e5.out hD3 hiD3;have rd5':=rd3.mono e5.i
     have again:∀ {H8 Hi8:Hp} {ys':List V} {done' rest':List D} {s8:Shared},Inv (zAT X [xa,xb] scope HP.objs.size s2 H2 fp) (pins++sU fp s5.heap) (σ++[some va,some vb]) H8 s8->Ext Hi2 H2 Hi8 H8->H8 s2.heap.objs.size=some (.lst ys')->Hi8 s2.heap.objs.size=none->IsDs X.K Hi8 ys' done'->done'.length<=i+1->
       eX f ρ (ds.drop (i+1))=.ok rest'->es=done'++rest'->∃ m,m<ds.length-i/\∃ c:CW,m=ds.length-c.i/\CS (zAT X [xa,xb] scope HP.objs.size s2 H2 fp) pins σ tn fp Hi2 H2 s2.heap.objs.size 2 (fun i=>eX f ρ (ds.drop i)) es c s8:=fun {H8 Hi8 ys' done' rest' s8} I8 E8 a1 a2 a3 a4 a5 a6=>by
      refine⟨ds.length-(i+1),by omega,⟨i+1,[some va,some vb],H8,Hi8,ys',done',rest'⟩,rfl,⟨I8.unpinned,rfl,T.keep _ _ _ st5 fun b hb o e=>(I8.pin (b,o) (Qu _ (Qu _ (eE hb e)))).1,fun b hb=>?_,E8,a1,a2,a3,a4,a5,a6⟩⟩
      obtain⟨o,e,_⟩:=T.obj _ _ st5 b hb;exact(I8.pin (b,o) (Qu _ (Qu _ (eE hb e)))).2.1
     refine lift (thn (hel _ s6 _ H6 (fun w H'=>∃ Hi',Ext Hi5 H6 Hi' H'/\IsD X.K Hi' w e) I6 ⟨_,Hi5,R5,by rw[hf];exact fun Hi' H' ee w hw=>⟨Hi',ee,hw⟩⟩) fun u8 s8 h8=>?_)
     obtain⟨w8,H8,I8,r8,Hi8,e8,rw8⟩:=h8;obtain⟨hD8,hiD8⟩:=e8.out hD5 hiD5;have rdy:IsDs X.K Hi8 ys done:=rd5'.mono e8.i;refine lift (thn (nR (X:=(zAT X [xa,xb] scope HP.objs.size s2 H2 fp)) _ s8 _ H8 (.ref s2.heap.objs.size) [w8] (.ref s2.heap.objs.size) [u8] (fun _ H'=>H'=upd H8 s2.heap.objs.size (.lst (ys++[w8]))) I8 rfl (.cons r8 .nil) ⟨_,ys,w8,rfl,rfl,hD8,?_,rfl⟩) fun _ s9 h9=>?_)
     ·rw[rdy.length]
      exact Vz hl3 (Ql hlt (Qp hlen (by decide)))
     ·obtain⟨_,H9,I9,_,rfl⟩:=h9
      refine again I9 (Ext.rewrite (E5.trans e8) H2D hiD8 ⟨_,hD8⟩) aQ hiD8 (rdy.snoc rw8) (by rw[Qm];exact V7 hl3) hr4 ?_
      rw[hes3,hee,Xi];rfl
    ·rw[Yo (by omega),eX] at hr3
     cases hr3;refine thn (T.done (zAT X [xa,xb] scope HP.objs.size s2 H2 fp) rfl rfl rfl hc.1 i pins s3 _ H3 _ I3 (stat fr3) st3 (w1 (by omega))) fun r s4 ⟨hrn,I4⟩=>?_
     subst hrn;obtain⟨m4,hn4,_⟩:=I4.loc;have fC:H3 HP.objs.size=none:=I4.free;have nC:∀ b u,H3 b=some u->b≠HP.objs.size:=fun b u e z=>by rw[z,fC] at e;cases e
     have U4:=I4.base;refine hend HP.objs.size s2.heap.objs.size m4 s4 H3 hn4 (fun h' hs'=>?_) (I2.fpOk (by rw[hC];omega) fC) ?_
     ·have kp:∀ b o,b≠HP.objs.size->s4.heap.get? b=some o->h'.get? b=some o:=fun b o hb e=>hs'.extBut b o hb e
      refine Inv.call' I2 (ch:=fp) I4.os ⟨fun b o e n hb hx=>kp b o (ltC e) (U4.keep b o e n hb hx),fun b o e n hb hx=>?_,U4.free,fun b o e hx=>?_,U4.tups,U4.frzs,U4.tbls⟩ (fun b u e=>?_) I4.bare (fun b hb=>⟨(f2 b hb).2.2.2.1,(f2 b hb).2.1,(f2 b hb).2.2.2.2.1,(f2 b hb).2.2.2.2.2⟩)
      ·obtain⟨sl,q⟩:=U4.slot b o e n hb hx
       exact⟨sl,kp b _ (ltC e) q⟩
      ·obtain⟨o',q⟩:=U4.there b o e hx
       exact⟨o',kp b _ (ltC e) q⟩
      ·refine(I4.hok b u e).stay (fun c v hc q=>kp c v ?_ q) (fun _ q=>q) fun _ _ q=>q
       rcases hc with z | z
       ·rw[z];exact nC b u e
       ·exact nC c _ z
     ·refine ou2 Hi3 H3 e3 _ ⟨HD,hiD3,ys,hD3,?_⟩
      rw[hes3,Vr];exact rd3
  rw[Ye] at loop;exact codeAny_compStart_list (loop _ rfl) (T.self _ 0 _ _ _ tn1 (loop _ rfl))
theorem zHd(hc:X.calm=true/\TB X.K X.mg G.Bi G.B)(hr:Room k X.A)(Bk:BlkOk2 X [xa,xb] scope)(hN:(X.N++[xa,xb]).Nodup)(hi:PId X G (.Tuple [.Name xa pa,.Name xb pb] x1 tp) iter it)
  (hb:∀(C:Addr)(s₂:Shared)(H₂:Hp)(fp:List Addr)(G':Gx),Good (zAT X [xa,xb] scope C s₂ H₂ fp) G' k->PEd (zAT X [xa,xb] scope C s₂ H₂ fp) G' elt f)
  (hs:∀ x,foldedSetIterable iter X.env x=pure x:=by intro _;rfl):PEf X G (.ListComp elt [⟨.Tuple [.Name xa pa,.Name xb pb] x1 tp,iter,[],0⟩] scope pos) (vF it f):=by
 intro pins s σ H Q I w;obtain⟨ρ,Hi,R,ou⟩:=w;rw[eval_ListComp];refine zDD hc hr Bk hN hi hb hs (use:=none) (Qa:=fun a H'=>Q (.ref a) H') I R ou fun C A m s4 H3 hn hI _ q=>?_
 exact⟨m,hn,fun h' hs'=>⟨.ref A,H3,hI h' hs',rfl,q⟩⟩
def zIT(sc:Scope)(N:List Str)(xs:List Str)(scope:Scope):Bool:=
 scope.names.all (fun y=>y.2 != .cell) && xs.all (fun x=>scope.names.lookup x==some .local) && scope.names.all (fun y=>y.2 != .local || scope.names.lookup y.1==some .local)
  && scope.names.all (fun p=>p.2 != .free || (sc.names.lookup p.1==some .cell || sc.names.lookup p.1==some .free)) && N.all (fun y=>scope.names.lookup y != some .local)
theorem zKu{sc:Scope}{N xs:List Str}(hk:scope.kind=.function)(hsc:X.env.scope=sc)(hN:X.N=N)(h:zIT sc N xs scope=true):BlkOk2 X xs scope:=by
 unfold zIT at h;simp only[Vg] at h;obtain⟨⟨⟨⟨h1,h2⟩,h3⟩,h4⟩,h5⟩:=h;subst hN hsc;refine⟨hk,fun y hy e=>?_,fun x hx=>?_,fun y hy e=>?_,fun p hp e=>?_,fun y hy e=>?_⟩
 ·have:=V0.mp h1 y hy
  rw[e] at this;cases this
 ·exact beq_iff_eq.mp (V0.mp h2 x hx)
 ·have:=V0.mp h3 y hy
  rw[e] at this;simpa using this
 ·have:=V0.mp h4 p hp
  rw[e] at this;have q:X.env.scope.names.lookup p.1=some .cell∨X.env.scope.names.lookup p.1=some .free:=by simpa using this
  exact q
 ·have:=V0.mp h5 y hy
  rw[e] at this;cases this
theorem zAM{sc:Scope}{N:List Str}(W:Good X G k)(hnd:(N++[xa,xb]).Nodup)(hk:scope.kind=.function)(hsc:X.env.scope=sc)(hN:X.N=N)(h:zIT sc N [xa,xb] scope=true)(hi:PId X G (.Tuple [.Name xa pa,.Name xb pb] x1 tp) iter it)
  (hb:∀(C:Addr)(s₂:Shared)(H₂:Hp)(fp:List Addr)(G':Gx),Good (zAT X [xa,xb] scope C s₂ H₂ fp) G' k->PEd (zAT X [xa,xb] scope C s₂ H₂ fp) G' elt f)
  (hs:∀ x,foldedSetIterable iter X.env x=pure x:=by intro _;rfl):PEf X G (.ListComp elt [⟨.Tuple [.Name xa pa,.Name xb pb] x1 tp,iter,[],0⟩] scope pos) (vF it f):=
 zHd ⟨W.calm,W.tb⟩ W.room (zKu hk hsc hN h) (hN ▸ hnd) hi hb hs
end
end L3
namespace L3
open PySem PySem.Spec PyProof.Rows L2
section
variable{prog:Program}{w:World}{A:Around}{E:Value->Shared->Prop}{s:Shared}
theorem zGr{t sl:Addr}{its:Array Value}{vl vu:Value}{lo hi:Option Int}{Q:Value->Shared->Prop}(a:IsTup s.heap t its)(b:s.heap.IsSliceOf sl vl vu .none)(pl:IsPart vl lo)(pu:IsPart vu hi)
  (c:HT.sIx its.size 0 lo=0/\HT.sIx its.size its.size hi=its.size) (q:Q (.ref t) s):wpAny (model prog w) A (getItem (.ref t) (.ref sl)) Q E s:=by
 obtain⟨os,e1,e2,_⟩:=id b;have ty:s.TypeIs (.ref sl) "slice" := ⟨os,e1,e2⟩;unfold getItem;try with_reducible refine wpAny_holding ?_
 first | refine wpAny_bind (wpAny_pure ?_) | skip
 refine wpAny_bind (wpAny_sequenceKey a.typeIs (by decide) (wpAny_bind (wpAny_callSpecial?_slot (name:=Str.ofString "__getitem__") a.typeIs Yw (wpAny_call_entry Yw a.typeIs entry_tuple_getitem ?_ (args_tuple_getitem _ _)))))
 refine show wpAny _ _ (Builtin.Tuple.tupleItemsOf (.ref t) >>= _) _ _ s from wpAny_bind (tupleItemsOf_ a (wpAny_bind (wpAny_typeOf ty ?_)))
 rw[if_pos (by decide)];refine wpAny_bind (HT.sliceApplied_gen b pl pu ?_)
 show wpAny _ _ (if (((HT.sIx its.size 0 lo:Nat):Int)==0 && (1:Int)==1 && (HT.sIx its.size its.size hi-HT.sIx its.size 0 lo)==its.size)=true then _ else _) _ _ s
 rw[c.1,c.2,if_pos (by simp)];refine wpAny_bind ?_
 unfold Builtin.Tuple.tupleIsExact
 first
  | refine wpAny_bind (wpAny_typeOf a.typeIs (wpAny_pure ?_))
  | refine wpAny_bind (wpAny_load a.choose_spec.1 (wpAny_pure ?_))
 rw[if_pos (by first | decide | rfl)];exact wpAny_bind (wpAny_rule (wpAny_pure ⟨_,rfl,wpAny_pure q⟩))
end
section
variable{X:Cx}{G:Gx}{fs:Fv}{f:Ev}
def zPe(K:PySem.W.Frag):V->Option Int->Option Int->Hp->VK->Prop:=fun x lo hi H Q=>∃ a xs,x=.ref a/\SqT K H a xs/\(HT.sIx xs.length 0 lo=0/\HT.sIx xs.length xs.length hi=xs.length)/\Q (.ref a) H
theorem zGZ:SlR X (zPe X.K):=by
 intro pins s σ H x v vl vu lo hi sl Q I rx hs pl pu h;obtain⟨a,xs,rfl,hx,hw,q⟩:=h;cases rx;obtain⟨its,r,ht,hz⟩:=I.tuple hx;have hlen:its.toArray.size=xs.length:=by rw[Qf];exact r.length.symm
 exact⟨"tuple", _,PyProof.Rows.slot_tuple_getitem.lookup,ht.typeIs,zGr ht hs pl pu (by rw[hlen];exact hw) ⟨.ref a,H,I,rfl,q⟩⟩
unseal PEd PEf PTd PWd PAd PSd dF POd PGd fT PId PSx iV PTs PCd PCf
theorem zGl{e:Expr}{pos:Pos}{lo hi:Option Expr}{l h:Ov}{p2:Pos}(he:PEd X G e f)(hl:POd X G lo l)(hu:POd X G hi h):PEd X G (.Subscript e (.Slice lo hi none p2) pos) (zOi f l h):=
 PE.wk (zCn (SlR.or zFM (SlR.or zLz zGZ)) he hl hu) fun σ H Q q=>by
 obtain⟨ρ,Hi,R,ou⟩:=q;refine zBD R ou fun v d Hi1 H1 e1 R1 r1 o1=>?_
 refine zNB R1 o1 fun i Hi2 H2 e2 R2 o2=>?_
 refine zNB R2 o2 fun j Hi3 H3 e3 R3 o3=>?_
 have eh:=e1.h.trans (e2.h.trans e3.h);have ei:=e2.i.trans e3.i
 cases d with
 | lst ds=>
  obtain⟨a,xs,rfl,h1,h2⟩:=r1.lstI;refine .inl ⟨a,xs,rfl,cC (ei.trans R3.s) h1,fun p hp=>?_⟩
  exact o3 _ _ (Ext.new R3.s hp) (.ref p) (.lst (SqL.of aQ) (((h2.cut i j).mono ei).mono (bU (R3.s.none hp) _)))
 | tup ds=>
  obtain⟨a,xs,rfl,h1,h2⟩:=r1.tupI;by_cases z:HT.sIx xs.length 0 i=0/\HT.sIx xs.length xs.length j=xs.length
  ·refine .inr (.inr ⟨a,xs,rfl,bN (ei.trans R3.s) h1,z,?_⟩)
   have hc:=h2.cut i j
   have ew:zGP xs i j=xs:=by
    unfold zGP;rw[z.1,z.2,List.drop_zero,Ux,Xb]
   rw[ew] at hc;exact o3.here R3.s (.ref a) (.tup (bN ei h1) (hc.mono ei))
  ·refine .inr (.inl ⟨a,xs,rfl,bN (ei.trans R3.s) h1,z,fun p hp=>?_⟩)
   exact o3 _ _ (Ext.new R3.s hp) (.ref p) (.tup (SqT.of aQ) (((h2.cut i j).mono ei).mono (bU (R3.s.none hp) _)))
 | _=>exact o3.elim
end
end L3
namespace L3
open PySem PySem.Spec PyProof.Rows L2
unseal PEd PEf PTd PWd PAd PSd dF POd PGd fT PId PSx iV PTs PCd PCf
section
variable{X:Cx}{G:Gx}{f:Ev}{pos:Pos}
section
variable{o:Expr}{k:Nat}{b:Bool}{p1 p2 p3:Pos}
end
section
variable{i fo:Nat}{x y:Str}{ea eb ec ct o0 o1:Expr}{body rest:List Stmt}{a b:Fv}{cmp:Tv}{sr:Sv}{p1 p2 p3 p4 p5 p6 p7 p8 p9 p10 p11 p12 p13 p14 p15 p16:Pos}{k5 k0 k1:Nat}
end
section
variable{i j1 j2 j3:Nat}{x:Str}{tg ec c1 c2 c3 esl ev o:Expr}{b2 b3:List Stmt}{t1 t2 t3:Tv}{sl:Fv}{g:Ev}{p1 p2 p3 p4 p5 p6 p7 p8 p9:Pos}
end
end
end L3
namespace L3
open PySem PySem.Spec PyProof.Rows L2
def Iv(xs:Array Keyed)(i:Nat):Int:=match xs[i]? with
 | some p=>numOf p.2
 | none=>0
theorem zGw{xs ys:Array Keyed}{i j:Nat}(h:xs[i]?=ys[j]?):Iv xs i=Iv ys j:=by unfold Iv;rw[h]
theorem zMB{xs:Array Keyed}{a d:Nat}(ha:a<xs.size)(hd:d<=a)(k:Nat):Iv (bubble xs a d) k=if k=a-d then Iv xs a else if a-d<k/\k<=a then Iv xs (k-1) else Iv xs k:=by
 have e:=getElem?_bubble ha d hd k;by_cases c1:k=a-d
 ·rw[if_pos c1] at e ⊢;exact zGw e
 ·rw[if_neg c1] at e ⊢
  by_cases c2:a-d<k/\k<=a
  ·rw[if_pos c2] at e ⊢;exact zGw e
  ·rw[if_neg c2] at e ⊢;exact zGw e
theorem sI{xs:Array Keyed}{a b:Nat}(hb:b<=xs.size)(k:Nat):Iv (mirror xs a b ((b-a) / 2)) k=if a<=k/\k<b then Iv xs (a+b-1-k) else Iv xs k:=by
 have e:=getElem?_mirror_all (i:=a) hb k;by_cases c:a<=k/\k<b
 ·rw[if_pos c] at e ⊢;exact zGw e
 ·rw[if_neg c] at e ⊢;exact zGw e
structure Up (N:Nat) (xs:Array Keyed) (m:Nat):Prop where
 so:∀ i j,i<j->j<m->K xs i<K xs j∨K xs i=K xs j/\Iv xs i<Iv xs j
 lo:∀ i,i<m->Iv xs i<m
 hi:∀ i,m<=i->i<N->Iv xs i=i
theorem Up.le{N m:Nat}{xs:Array Keyed}(u:Up N xs m){i j:Nat}(h:i<=j)(hj:j<m):K xs i<=K xs j:=by
 by_cases c:i=j
 ·subst c;exact Yf _
 ·rcases u.so i j (by omega) hj with z | z
  ·exact Xj z
  ·exact Int.le_of_eq z.1
theorem Up.on{N m n:Nat}{xs:Array Keyed}(u:Up N xs m)(hn:n<=N)(hm:m<=n)(s:SortedTo xs n):Up N xs n where
 so i j l hj:=by
  by_cases c:j<m
  ·exact u.so i j l c
  ·have e:=u.hi j (by omega) (by omega)
   have z:=s i j (by omega) hj
   have t:Iv xs i<Iv xs j:=by
    by_cases c2:i<m
    ·have:=u.lo i c2;omega
    ·have:=u.hi i (by omega) (by omega);omega
   rcases Int.lt_or_eq_of_le z with z | z
   ·exact .inl z
   ·exact .inr ⟨z,t⟩
 lo i hi:=by
  by_cases c:i<m
  ·have:=u.lo i c;omega
  ·have:=u.hi i (by omega) (by omega);omega
 hi i h1 h2:=u.hi i (by omega) h2
structure Dw (N:Nat) (xs:Array Keyed) (b:Nat):Prop where
 so:∀ i j,i<j->j<b->K xs j<K xs i∨K xs j=K xs i/\Iv xs j<Iv xs i
 lo:∀ i,i<b->Iv xs i<b
 hi:∀ i,b<=i->i<N->Iv xs i=i
structure Dq (N:Nat) (xs:Array Keyed) (b x:Nat):Prop extends Dw N xs b where
 bx:b<x
 eq:∀ i,b<=i->i<x->K xs i=K xs (x-1)
 gt:∀ i,i<b->K xs (x-1)<K xs i
theorem Dq.turn{N:Nat}{xs ys:Array Keyed}{b x:Nat}(d:Dq N xs b x)(hx:x<=N)(hk:∀ i,K ys i=K xs i)(hv:∀ i,Iv ys i=if b<=i/\i<x then Iv xs (b+x-1-i) else Iv xs i):Dw N ys x where
 so i j l hj:=by
  rw[hk,hk,hv,hv];by_cases c:j<b
  ·rw[if_neg (by omega),if_neg (by omega)];exact d.so i j l c
  ·rw[d.eq j (by omega) hj,if_pos (by omega),d.hi _ (by omega) (by omega)]
   by_cases c2:i<b
   ·exact .inl (d.gt i c2)
   ·rw[d.eq i (by omega) (by omega),if_pos (by omega),d.hi _ (by omega) (by omega)]
    exact .inr ⟨rfl,by omega⟩
 lo i hi:=by
  rw[hv];split
  ·rw[d.hi _ (by omega) (by omega)];omega
  ·have:=d.lo i (by omega);have:=d.bx;omega
 hi i h1 h2:=by rw[hv,if_neg (by omega)];exact d.hi i (by have:=d.bx;omega) h2
theorem Dw.next{N:Nat}{xs:Array Keyed}{x:Nat}(d:Dw N xs x)(hx:x<N)(h1:0<x)(h:∀ i,i<x->K xs x<K xs i):Dq N xs x (x+1) where
 toDw:=d
 bx:=by omega
 eq i a b:=by rw[show i=x+1-1 by omega]
 gt i hi:=by rw[show x+1-1=x by omega];exact h i hi
section
variable{prog:Program}{w:World}{A:Around}{E:Value->Shared->Prop}{s:Shared}{a₀:Array Keyed}
theorem zGI{st:SortSt}{n r:Nat}{Q:Option Nat->SortSt->Prop}(ik:IntKeys a₀)(hr:r<=a₀.size)(h1:1<=n)(hn:n<=r)(sb:SBase a₀ st)(d:Dw a₀.size (arrOf st) n)
  (h:∀ m st',SBase a₀ st'->1<=m->m<=r->Up a₀.size (arrOf st') m->Q (some m) st'):wpS (model prog w) A E s (tail3 n r) Q st:=by
 unfold tail3;have sz:n<=(arrOf st).size:=by rw[sb.size];omega
 refine wpS_bind (wpS_reverse ?_)
 have sb2:SBase a₀ (setArr st (mirror (arrOf st) 0 n ((n-0) / 2))):=sb.setArr (mirror_perm ..)
 have up:Up a₀.size (mirror (arrOf st) 0 n ((n-0) / 2)) n:=by
  refine⟨fun i j l hj=>?_,fun i hi=>?_,fun i p q=>?_⟩
  ·rw[K_mirror sz,K_mirror sz,sI sz,sI sz,if_pos (by omega),if_pos (by omega),if_pos (by omega),if_pos (by omega)]
   exact d.so _ _ (by omega) (by omega)
  ·rw[sI sz,if_pos (by omega)];exact d.lo _ (by omega)
  ·rw[sI sz,if_neg (by omega)];exact d.hi i p q
 exact wpS_bind (wpS_ascLoop ik hr h1 hn sb2 (fun i j l hj=>up.le l hj) fun m m1 m2 sm _=>wpS_pure (h m _ sb2 (by omega) m2 (up.on (by omega) m1 sm)))
theorem zJQ{st:SortSt}{b n r:Nat}{Q:DescSt->SortSt->Prop}(ik:IntKeys a₀)(hr:r<=a₀.size)(hn:n<=r)(hb:b+1=n)(sb:SBase a₀ st)(d:Dq a₀.size (arrOf st) b n)
  (h:∀ m q st',SBase a₀ st'->m<=r->q<m->Dq a₀.size (arrOf st') (m-(q+1)) m->Q (none,m,q) st'):wpS (model prog w) A E s (descLoop n r) Q st:=by
 unfold descLoop;refine wpS_forRange (I:=fun x c st'=>∃ q,c=(none,x,q)/\SBase a₀ st'/\q<x/\Dq a₀.size (arrOf st') (x-(q+1)) x) ?step ?fin ⟨0,rfl,sb,by omega,by rw[show n-(0+1)=b by omega];exact d⟩
 case fin=>
  rintro c st' ⟨q,rfl,sb',hq,d'⟩
  rw[show max n r=r by omega] at hq d' ⊢
  exact h r q st' sb' (Qb _) hq d'
 case step=>
  rintro x c st' nx xr ⟨q,rfl,sb',hq,d'⟩
  dsimp only
  have sz:x<=(arrOf st').size:=by rw[sb'.size];omega
  refine wpS_bind (wpS_ltK sb' ik (show x<_ by omega) (show x-1<_ by omega) ?_)
  by_cases c1:K (arrOf st') x<K (arrOf st') (x-1)
  ·have all:∀ i,i<x->K (arrOf st') x<K (arrOf st') i:=fun i hi=>by
    by_cases c2:i<x-(q+1)
    ·exact Int.lt_trans c1 (d'.gt i c2)
    ·rw[d'.eq i (by omega) hi];exact c1
   rw[decide_eq_true c1];dsimp only
   rw[if_pos rfl];by_cases c3:q > 0
   ·rw[if_pos c3]
    have kk:=K_mirror_equal (i:=x-(q+1)) sz (fun k p1 p2=>d'.eq k p1 p2)
    refine wpS_bind (wpS_reverse (wpS_pure ⟨0,rfl,sb'.setArr (mirror_perm ..),by omega,?_⟩))
    have dw:Dw a₀.size (mirror (arrOf st') (x-(q+1)) x ((x-(x-(q+1))) / 2)) x:=d'.turn (by omega) kk (sI sz)
    exact dw.next (by omega) (by omega) fun i hi=>by rw[kk,kk];exact all i hi
   ·rw[if_neg c3]
    have q0:q=0:=by omega
    subst q0
    have dw:Dw a₀.size (arrOf st') x:=d'.turn (by omega) (fun _=>rfl) fun i=>by
     split
     ·rw[show x-(0+1)+x-1-i=i by omega]
     ·rfl
    exact wpS_pure ⟨0,rfl,sb',by omega,dw.next (by omega) (by omega) all⟩
  ·rw[decide_eq_false c1]
   dsimp only
   rw[if_neg (by decide)];refine wpS_bind (wpS_ltK sb' ik (show x-1<_ by omega) (show x<_ by omega) ?_)
   by_cases c4:K (arrOf st') (x-1)<K (arrOf st') x
   ·rw[decide_eq_true c4]
    dsimp only
    rw[if_pos rfl];exact wpS_pure (h x q st' sb' (by omega) hq d')
   ·rw[decide_eq_false c4]
    dsimp only
    rw[if_neg (by decide)];have ee:K (arrOf st') x=K (arrOf st') (x-1):=by omega
    refine wpS_pure ⟨q+1,rfl,sb',by omega,?_⟩
    rw[show x+1-(q+1+1)=x-(q+1) by omega];refine⟨d'.toDw,by omega,fun i p1 p2=>?_,fun i p1=>?_⟩
    ·rw[show x+1-1=x by omega]
     by_cases c5:i=x
     ·rw[c5]
     ·rw[ee];exact d'.eq i p1 (by omega)
    ·rw[show x+1-1=x by omega,ee];exact d'.gt i p1
theorem zFs{st:SortSt}{n r:Nat}{Q:Option Nat->SortSt->Prop}(ik:IntKeys a₀)(hr:r<=a₀.size)(hn:n+1<=r)(sb:SBase a₀ st)(d:Dq a₀.size (arrOf st) n (n+1))
  (h:∀ m st',SBase a₀ st'->1<=m->m<=r->Up a₀.size (arrOf st') m->Q (some m) st'):wpS (model prog w) A E s (descPart n r) Q st:=by
 unfold descPart;refine wpS_bind (wpS_lift (wpAny_rule ⟨rfl,?_⟩))
 refine wpS_bind (zJQ ik hr hn rfl sb d fun m q st' sb' mr hq d'=>?_)
 dsimp only
 have sz:m<=(arrOf st').size:=by rw[sb'.size];omega
 by_cases c:q > 0
 ·rw[if_pos c]
  exact wpS_bind (wpS_reverse (zGI ik hr (by omega) mr (sb'.setArr (mirror_perm ..)) (d'.turn (by omega) (K_mirror_equal sz fun k p1 p2=>d'.eq k p1 p2) (sI sz)) h))
 ·rw[if_neg c]
  have q0:q=0:=by omega
  subst q0;refine zGI ik hr (by omega) mr sb' (d'.turn (by omega) (fun _=>rfl) fun i=>?_) h
  split
  ·rw[show m-(0+1)+m-1-i=i by omega]
  ·rfl
theorem zMF{st:SortSt}{r:Nat}{Q:Option Nat->SortSt->Prop}(ik:IntKeys a₀)(hr:r<=a₀.size)(h1:1<=r)(sb:SBase a₀ st)(h0:∀ i,i<a₀.size->Iv (arrOf st) i=i)
  (h:∀ m st',SBase a₀ st'->1<=m->m<=r->Up a₀.size (arrOf st') m->Q (some m) st'):wpS (model prog w) A E s (countRun' 0 r) Q st:=by
 have u1:Up a₀.size (arrOf st) 1:=⟨fun i j l hj=>by omega,fun i hi=>by have:=h0 i (by omega);omega,fun i _ z=>h0 i z⟩
 rw[countRun0_eq];refine wpS_bind (wpS_ascLoop ik hr (Qb 1) h1 sb (fun i j l hj=>u1.le l hj) fun n n1 n2 sn no=>?_)
 have un:=u1.on (show n<=_ by omega) n1 sn
 dsimp only
 by_cases c:n=r
 ·rw[if_pos (by simpa using c)]
  exact wpS_pure (h n st sb n1 n2 un)
 ·rw[if_neg (by simpa using c)]
  have fl:K (arrOf st) n<K (arrOf st) (n-1):=no.resolve_left c;by_cases c2:n > 1
  ·rw[if_pos c2]
   refine wpS_bind (wpS_ltK sb ik (show 0<_ by omega) (show n-1<_ by omega) ?_)
   by_cases c3:K (arrOf st) 0<K (arrOf st) (n-1)
   ·rw[decide_eq_true c3]
    dsimp only
    rw[if_pos rfl];exact wpS_pure (h n st sb n1 n2 un)
   ·rw[decide_eq_false c3]
    dsimp only
    rw[if_neg (by decide)];have sz:n<=(arrOf st).size:=by rw[sb.size];omega
    have al:∀ k,0<=k->k<n->K (arrOf st) k=K (arrOf st) (n-1):=fun k _ hk=>by
     have p1:=sn 0 k (by omega) hk
     have p2:=sn k (n-1) (by omega) (by omega)
     omega
    have kk:=K_mirror_equal (i:=0) sz al;have dq:Dq a₀.size (arrOf st) 0 n:=⟨⟨fun i j l hj=>by omega,fun i hi=>by omega,fun i _ z=>h0 i z⟩,by omega,fun i p1 p2=>al i p1 p2,fun i hi=>by omega⟩
    have dw:Dw a₀.size (mirror (arrOf st) 0 n ((n-0) / 2)) n:=dq.turn (by omega) kk (sI sz)
    refine wpS_bind (wpS_reverse (zFs ik hr (by omega) (sb.setArr (mirror_perm ..)) (dw.next (by omega) (by omega) fun i hi=>?_) h))
    rw[kk,kk,al i (by omega) hi];exact fl
  ·rw[if_neg c2]
   have n0:n=1:=by omega
   subst n0;have dw:Dw a₀.size (arrOf st) 1:=⟨fun i j l hj=>by omega,fun i hi=>by have:=h0 i (by omega);omega,fun i _ z=>h0 i z⟩
   refine zFs ik hr (by omega) sb (dw.next (by omega) (by omega) fun i hi=>?_) h
   rw[show i=1-1 by omega];exact fl
theorem zMU{st:SortSt}{n m:Nat}{Q:Bool->SortSt->Prop}(ik:IntKeys a₀)(hn:n<=a₀.size)(h1:1<=m)(hm:m<=n)(sb:SBase a₀ st)(u:Up a₀.size (arrOf st) m)
  (h:∀ st',SBase a₀ st'->Up a₀.size (arrOf st') n->Q true st'):wpS (model prog w) A E s (binarySort' 0 n m) Q st:=by
 rw[binarySort'_eq];simp only[Q6];refine wpS_bind (wpS_mono (wpS_forRange (I:=fun k c st'=>c=(none,())/\SBase a₀ st'/\Up a₀.size (arrOf st') (min k n)) (Q:=fun c st'=>c=(none,())/\SBase a₀ st'/\Up a₀.size (arrOf st') n) ?step ?fin ⟨rfl,sb,by rw[show min (max m 1) n=m by omega];exact u⟩) ?post)
 case post=>
  rintro c st' ⟨rfl,sb',u'⟩
  exact wpS_pure (h st' sb' u')
 case fin=>
  rintro c st' ⟨hc,sb',u'⟩
  rw[show min (max (max m 1) n) n=n by omega] at u';exact⟨hc,sb',u'⟩
 case step=>
  rintro k c st' mk kn ⟨rfl,sb',u'⟩
  rw[show min k n=k by omega] at u';have ka:k<a₀.size:=by omega
  refine wpS_bind (wpS_mono (wpS_forRange
   (I:=fun x c st2=>st2=st'/\∃ l r,c=(none,l,r)/\l<=r/\r<=k/\r-l<=k-x/\(∀ i,i<l->K (arrOf st') i<=K (arrOf st') k)/\∀ i,r<=i->i<k->K (arrOf st') k<K (arrOf st') i)
   (Q:=fun c st2=>st2=st'/\∃ l r,c=(none,l,r)/\l<=k/\(∀ i,i<l->K (arrOf st') i<=K (arrOf st') k)/\∀ i,l<=i->i<k->K (arrOf st') k<K (arrOf st') i) ?js ?jf ?ji) ?jp)
  case ji=>exact⟨rfl,0,k,rfl,by omega,by omega,by omega,fun i z=>by omega,fun i y z=>by omega⟩
  case jf=>
   rintro c st2 ⟨rfl,l,r,rfl,lr,rk,lx,f1,f2⟩
   have:l=r:=by omega
   subst this;exact⟨rfl,l,l,rfl,rk,f1,f2⟩
  case js=>
   rintro x c st2 _ xk ⟨rfl,l,r,rfl,lr,rk,lx,f1,f2⟩
   dsimp only
   by_cases c1:l ≥ r
   ·rw[if_pos c1]
    have:l=r:=by omega
    subst this;exact wpS_pure ⟨rfl,l,l,rfl,rk,f1,f2⟩
   ·rw[if_neg c1]
    refine wpS_bind (wpS_ltK sb' ik ka (show(l+r) / 2<_ by omega) ?_)
    by_cases c2:K (arrOf st2) k<K (arrOf st2) ((l+r) / 2)
    ·rw[decide_eq_true c2]
     dsimp only
     rw[if_pos rfl];exact wpS_pure ⟨rfl,l,(l+r) / 2,rfl,by omega,by omega,by omega,f1,fun i y z=>Int.lt_of_lt_of_le c2 (u'.le y z)⟩
    ·rw[decide_eq_false c2]
     dsimp only
     rw[if_neg (by decide)];exact wpS_pure ⟨rfl,(l+r) / 2+1,r,rfl,by omega,by omega,by omega,fun i y=>Xm (u'.le (show i<=(l+r) / 2 by omega) (by omega)) (Int.not_lt.mp c2),f2⟩
  case jp=>
   rintro c st2 ⟨rfl,l,r,rfl,lk,f1,f2⟩
   show wpS _ _ _ _ (do moveDown' k l;pure (ForInStep.yield (none,()))) _ _
   rw[moveDown'_eq];refine wpS_bind (wpS_modify (wpS_pure ⟨rfl,sb'.setArr (bubble_perm ..),?_⟩))
   rw[show min (k+1) n=k+1 by omega];have sz:k<(arrOf st2).size:=by rw[sb'.size];exact ka
   have ik2:=u'.hi k (Qb _) ka;show Up a₀.size (bubble (arrOf st2) k (k-l)) (k+1)
   have kb:=fun i=>K_bubble sz (show k-l<=k by omega) i
   have vb:=fun i=>zMB sz (show k-l<=k by omega) i
   rw[show k-(k-l)=l by omega] at kb vb;refine⟨fun i j ij jk=>?_,fun i z=>?_,fun i y z=>?_⟩
   ·rw[kb,kb,vb,vb]
    by_cases e1:i=l
    ·rw[if_pos e1,if_neg (show j≠l by omega),if_pos (show l<j/\j<=k by omega),if_pos e1]
     exact .inl (f2 _ (by omega) (by omega))
    ·by_cases e2:j=l
     ·rw[if_neg e1,if_neg (show ¬ (l<i/\i<=k) by omega),if_pos e2,if_neg e1,if_neg (show ¬ (l<i/\i<=k) by omega),if_pos e2]
      have t:=u'.lo i (by omega)
      rcases Int.lt_or_eq_of_le (f1 i (by omega)) with z | z
      ·exact .inl z
      ·exact .inr ⟨z,by omega⟩
     ·rw[if_neg e1,if_neg e2,if_neg e1,if_neg e2]
      by_cases g1:l<i/\i<=k
      ·rw[if_pos g1,if_pos g1,if_pos (show l<j/\j<=k by omega),if_pos (show l<j/\j<=k by omega)]
       exact u'.so _ _ (by omega) (by omega)
      ·rw[if_neg g1,if_neg g1]
       by_cases g2:l<j/\j<=k
       ·rw[if_pos g2,if_pos g2];exact u'.so _ _ (by omega) (by omega)
       ·rw[if_neg g2,if_neg g2];exact u'.so _ _ ij (by omega)
   ·rw[vb]
    split
    ·omega
    ·split
     ·have:=u'.lo (i-1) (by omega);omega
     ·have:=u'.lo i (by omega);omega
   ·rw[vb,if_neg (by omega),if_neg (by omega)];exact u'.hi i (by omega) z
theorem zKm{st:SortSt}{Q:Unit->SortSt->Prop}(ik:IntKeys a₀)(sb:SBase a₀ st)(h2:2<=a₀.size)(h64:a₀.size<64)(h0:∀ i,i<a₀.size->Iv (arrOf st) i=i)
  (h:∀ st',(arrOf st').Perm a₀->failedOf st'=none->Up a₀.size (arrOf st') a₀.size->Q () st'):wpS (model prog w) A E s sortRuns' Q st:=by
 rw[sortRuns'_eq];refine wpS_bind (wpS_get ?_)
 dsimp only
 have mr:minRun' a₀.size a₀.size 0=a₀.size:=by
  obtain⟨f,hf⟩:∃ f,a₀.size=f+1:=⟨a₀.size-1,by omega⟩
  have z:minRun' (f+1) a₀.size 0=a₀.size:=by rw[minRun'_succ,if_pos h64,Nat.add_zero]
  rw[<-hf] at z;exact z
 have fin:∀ st':SortSt,SBase a₀ st'->Up a₀.size (arrOf st') a₀.size->(fun st=>(arrOf st).Perm a₀/\failedOf st=none/\pendingOf st=#[(0,a₀.size,0)]/\Up a₀.size (arrOf st) a₀.size) (setPending st' ((pendingOf st').push (0,a₀.size,0))):=fun st' b u=>
  ⟨b.perm,b.failed,by show(pendingOf st').push _=_;rw[b.pend];rfl,u⟩
 simp only[sb.size,mr]
 refine wpS_bind (wpS_mono (wpS_forRange
  (I:=fun x c st'=>(x=0/\c=(none,0)/\st'=st)∨(1<=x/\c=(none,a₀.size)/\(arrOf st').Perm a₀/\failedOf st'=none/\pendingOf st'=#[(0,a₀.size,0)]/\Up a₀.size (arrOf st') a₀.size))
  (Q:=fun c st'=>c=(none,a₀.size)/\(arrOf st').Perm a₀/\failedOf st'=none/\pendingOf st'=#[(0,a₀.size,0)]/\Up a₀.size (arrOf st') a₀.size) ?step ?fin (.inl ⟨rfl,rfl,rfl⟩)) ?post)
 case fin=>
  rintro c st' (⟨z,_,_⟩ | ⟨_,r⟩)
  ·omega
  ·exact r
 case step=>
  rintro x c st' _ hx (⟨rfl,rfl,rfl⟩ | ⟨_,rfl,r⟩)
  ·dsimp only
   rw[if_neg (by omega)];simp only[Ux,X9,Q6];refine wpS_bind (zMF ik (Qb _) (by omega) sb h0 fun m st2 sb2 m1 m2 u2=>?_)
   dsimp only
   by_cases c:m<a₀.size
   ·rw[if_pos c]
    refine wpS_bind (wpS_lift (wpAny_rule ⟨rfl,?_⟩))
    refine wpS_bind (zMU ik (Qb _) m1 m2 sb2 u2 fun st3 sb3 u3=>?_)
    rw[Bool.not_true,if_neg X3];refine wpS_bind (wpS_get ?_)
    rw[show(pendingOf st3).back?=none by rw[sb3.pend];rfl];dsimp only
    exact wpS_bind (wpS_modify (wpS_pure (.inr ⟨by omega,rfl,fin st3 sb3 u3⟩)))
   ·rw[if_neg c]
    have mm:m=a₀.size:=by omega
    subst mm;refine wpS_bind (wpS_get ?_)
    rw[show(pendingOf st2).back?=none by rw[sb2.pend];rfl];dsimp only
    exact wpS_bind (wpS_modify (wpS_pure (.inr ⟨by omega,rfl,fin st2 sb2 u2⟩)))
  ·dsimp only
   rw[if_pos (Qb _)];exact wpS_pure ⟨rfl,r⟩
 case post=>
  rintro c st' ⟨rfl,p1,p2,p3,p4⟩
  dsimp only
  refine wpS_bind (wpS_mono (wpS_forRange (I:=fun _ c st2=>st2=st'/\c=(none,())) (Q:=fun c st2=>st2=st'/\c=(none,())) ?_ (fun _ _ z=>z) ⟨rfl,rfl⟩) ?_)
  ·rintro x c st2 _ _ ⟨rfl,rfl⟩
   refine wpS_bind (wpS_get ?_)
   rw[if_pos (by rw[p3];exact Qb 1)];exact wpS_pure ⟨rfl,rfl⟩
  ·rintro c st2 ⟨rfl,rfl⟩
   exact wpS_pure (h _ p1 p2 p4)
end
end L3
namespace L3
open PySem PySem.Spec PyProof.Rows L2
unseal PEd PEf PTd PWd PAd PSd dF POd PGd fT PId PSx iV PTs PCd PCf
section
variable{prog:Program}{w:World}{A:Around}{E:Value->Shared->Prop}{s:Shared}
theorem xC{r:Addr}{a b c:Int}{t u v:Tok}{n:Nat}{R:List Value->Shared->Prop}(hh:A.handled=none)(hr:IsRange s.heap r a b c t u v)(hsmall:Builtin.Range.small a b c=true)(hn:Builtin.Range.rangeSize a b c=n)(hlen:n<=2^24)
  (h:∀ h' tk acc,(∀ b o,s.heap.get? b=some o->h'.get? b=some o)->s.heap.objs.size<=h'.objs.size->ItemsOf (fun i v=>∃ t,v=.int (a+i*c) t) acc n->R acc.toList { s with heap:=h',toks:=tk }):
  wpAny (model prog w) A (collect (.ref r)) R E s:=by
 unfold collect;refine wpAny_bind (wpAny_runValue (codeAny_builtin entry_proto_collect' ?_))
 rw[Around.under_plainId PySem.F.plain_proto_collect _];show wpAny _ A.in1 (newList [] >>= fun l=>again (.builtin "list.__iadd__" ⟨[l,.ref r],[]⟩)) _ _ s
 refine wpAny_bind (wpAny_newObj_type ?_)
 refine wpAny_pure ⟨plainId_quiet Wo _,codeAny_builtin entry_list_iadd' ?_⟩
 rw[Around.under_plainId Wo _];have hS₁:(s.heap.push { cls:=.type "list", data:=.seq ([]:List Value).toArray }).get? s.heap.objs.size=some { cls:=.type "list", data:=.seq #[] }:=Heap.get?_push_size _ rfl;show wpAny _ A.in1 (Builtin.List.listExtendWith (.ref s.heap.objs.size) (.ref r) (.ref s.heap.objs.size)) _ _ _
 have key:=wpAny_extend_range (prog:=prog) (w:=w) (A:=A) (s:={ s with heap:=s.heap.push { cls:=.type "list", data:=.seq ([]:List Value).toArray } })
  (R:=fun(q:Result) (s':Shared)=>∃(h':Heap)(tk:Nat)(acc':Array Value)(c':Nat),q=.ok (.ret (.ref s.heap.objs.size))/\s'={ s with heap:=h',toks:=tk }/\
   (∀ b o,s.heap.get? b=some o->h'.get? b=some o)/\h'.get? s.heap.objs.size=some { cls:=.type "list", dict:=none,data:=.seq acc' c',slots:=#[] }/\ItemsOf (fun i v=>∃ t,v=.int (a+i*c) t) acc' n)
  hh (Heap.get?_push_of_some _ hr) hsmall hn hlen s.heap.objs.size (.ref s.heap.objs.size) 0 hS₁
  (fun h' tk acc' c' hk hS' hacc=>⟨h',tk,acc',c',rfl,rfl,fun b o e=>hk b o (Qo (Heap.lt_size e)) (Heap.get?_push_of_some _ e),hS',hacc⟩)
 refine wpAny_mono key (fun fin s' x=>?_) fun e s' x=>?_
 ·cases fin with
  | done f=>
   obtain⟨h',tk,acc',c',e,rfl,hk,hS',hacc⟩:=x;cases e;show wpAny _ A (load s.heap.objs.size >>= _) _ _ _
   refine wpAny_bind (wpAny_load hS' ?_)
   exact wpAny_pure (h h' tk acc' hk (Xs (Heap.lt_size hS')) hacc)
  | again c₁=>
   refine⟨x.1,codeAny_mono x.2 fun q s₂ y=>?_⟩
   obtain⟨h',tk,acc',c',rfl,rfl,hk,hS',hacc⟩:=y;show wpAny _ A (load s.heap.objs.size >>= _) _ _ _
   refine wpAny_bind (wpAny_load hS' ?_)
   exact wpAny_pure (h h' tk acc' hk (Xs (Heap.lt_size hS')) hacc)
 ·obtain⟨_,_,_,_,e',_⟩:=x
  cases e'
end
section
variable{X:Cx}{pins:List (Addr×Obj)}{σ:St}{H:Hp}{s:Shared}{A:Around}{E:Value->Shared->Prop}{a kS:Addr}{vs:List Value}{kz:List Int}{keys:Array Value}{e e1:Nat}{P:PySem.Fin->Shared->Prop}
theorem oC{h':Heap}{tk:Nat}(f:qS X pins H a)(I:Inv X pins σ H s)(sb:Heap.SameBut a s.heap h'):Inv X pins σ H { s with heap:=h',toks:=tk }:=by
 obtain⟨f0,f1,f2,f3,f4,f5⟩:=f;exact I.turned (fun b o hb e=>(sb.2 b hb).trans e) f0 f1 f3 f4 f5
def KsS(kz:List Int)(vs out:List Value):Prop:=∃ ps:List (Int×Value),ps.Perm (kz.zip vs)/\out=ps.map Prod.snd/\ps.Pairwise fun p q=>p.1<q.1∨p.1=q.1/\numOf p.2<numOf q.2
theorem zJk{xs:Array Keyed}{n:Nat}(hk:IntsAre keys.toList kz)(hp:xs.Perm (keys.zip vs.toArray))(up:Up n xs xs.size):KsS kz vs (xs.map (·.2)).toList:=by
 have hl:xs.toList.Perm (keys.toList.zip vs):=by
  have z:=Array.perm_iff_toList_perm.mp hp;rwa [Array.toList_zip,Uy] at z
 refine⟨xs.toList.map fun p=>(numOf p.1,p.2),?_,?_,?_⟩
 ·have z:=hl.map (fun p=>(numOf p.1,p.2))
  rw[<-hk.nums,List.zip_map_left];exact z
 ·rw[Array.toList_map,Qz];rfl
 ·rw[Uz,List.pairwise_iff_getElem]
  intro i j hi hj hij;rw[Xf] at hi hj;have z:=up.so i j hij hj;rw[K_eq hi,K_eq hj] at z;have iv:∀ k (h:k<xs.size),Iv xs k=numOf xs[k].2:=fun k h=>by unfold Iv;rw[getElem?_pos xs k h]
  rw[iv i hi,iv j hj] at z;exact z
theorem zIw(hsz:keys.size=vs.length)(hv:∀ (j:Nat) (v:Value),vs[j]?=some v->∃ t,v=.int j t)(i:Nat)(hi:i<(keys.zip vs.toArray).size):Iv (keys.zip vs.toArray) i=i:=by
 have h2:i<vs.length:=by rw[U0,hsz,Qf,X9] at hi;exact hi
 obtain⟨t,ht⟩:=hv i _ (Qj h2);unfold Iv;rw[getElem?_pos _ i hi];show numOf ((keys.zip vs.toArray)[i]).2=_
 rw[Array.getElem_zip];show numOf (vs.toArray[i])=_
 rw[List.getElem_toArray,ht];rfl
theorem zFX{st:SortSt}(I:Inv X pins σ H s)(fa:qS X pins H a)(fk:qS X pins H kS)(hka:kS≠a)(nk:s.heap.get? kS=some (seqObj "list" keys e))(na:s.heap.get? a=some (seqObj "list" #[] e1))
  (hk:IntsAre keys.toList kz) (hlen:kz.length=vs.length) (h64:vs.length<64) (hp:(arrOf st).Perm (keys.zip vs.toArray)) {n:Nat} (hs:Up n (arrOf st) (arrOf st).size) (hfl:failedOf st=none)
  (h:∀ s' out c,Inv X pins σ H s'->s'.heap.get? a=some (seqObj "list" out c)->KsS kz vs out.toList->P (.done (.ret .none)) s'):
  wpAny (model X.prog X.w) A (ksk_tail a false e1 (.ref kS) st) P E s:=by
 have hsz:keys.size=vs.length:=by
  have h1:=hk.length;rw[Xf] at h1;omega
 have hsz2:(arrOf st).size=vs.length:=by rw[hp.size_eq,U0,hsz,Qf,X9]
 have hout:((arrOf st).map (·.2)).size=vs.length:=by rw[Array.size_map];exact hsz2
 have s1:=Heap.SameBut.update s.heap kS (Obj.mapSeq fun _=>(#[]:Array Value))
 have na1:(s.heap.update kS (Obj.mapSeq fun _=>(#[]:Array Value))).get? a=some (seqObj "list" #[] e1):=(s1.2 a hka.symm).trans na
 have s2:=Heap.SameBut.update (s.heap.update kS (Obj.mapSeq fun _=>(#[]:Array Value))) a (Obj.mapSeq fun _=>(arrOf st).map (·.2))
 obtain⟨c2,hc2⟩:∃ c2,((s.heap.update kS (Obj.mapSeq fun _=>(#[]:Array Value))).update a (Obj.mapSeq fun _=>(arrOf st).map (·.2))).get? a=some (seqObj "list" ((arrOf st).map (·.2)) c2):=
  ⟨_,get?_update_seq na1 fun _=>(arrOf st).map (·.2)⟩
 unfold ksk_tail;try dsimp only
 refine wpAny_bind (listUpdate_at nk rfl ?_ (by rw[hsz,sizeLine_eq];omega) (Vk _))
 refine wpAny_bind (wpAny_letGo ?_)
 refine wpAny_bind (seqEpoch_at na1 rfl ?_)
 refine wpAny_bind (listUpdate_at na1 rfl ?_ (Vk _) (by simp only[V9,if_false];exact Qp (Xw hout) (by rw[sizeLine_eq];omega)))
 rw[hfl];simp only[bne_self_eq_false,V9,if_false];have I1:Inv X pins σ H { s with heap:=s.heap.update kS (Obj.mapSeq fun _=>(#[]:Array Value)) }:=oC fk (tk:=s.toks) I s1
 have I2:Inv X pins σ H { s with heap:=(s.heap.update kS (Obj.mapSeq fun _=>(#[]:Array Value))).update a (Obj.mapSeq fun _=>(arrOf st).map (·.2)) }:=(by have z:=oC (tk:=s.toks) fa I1 s2;exact z)
 exact wpAny_pure (h _ _ c2 I2 hc2 (zJk hk hp hs))
theorem zNo(I:Inv X pins σ H s)(fa:qS X pins H a)(fk:qS X pins H kS)(hka:kS≠a)(nk:s.heap.get? kS=some (seqObj "list" keys e))(na:s.heap.get? a=some (seqObj "list" #[] e1))
  (hk:IntsAre keys.toList kz) (hlen:kz.length=vs.length) (h64:vs.length<64)
  (hv:∀(j:Nat)(v:Value),vs[j]?=some v->∃ t,v=.int j t)
  (h:∀ s' out c,Inv X pins σ H s'->s'.heap.get? a=some (seqObj "list" out c)->KsS kz vs out.toList->P (.done (.ret .none)) s'):
  wpAny (model X.prog X.w) A (ksk_end a false vs.toArray e1 (.ref kS) keys) P E s:=by
 have hsz:keys.size=vs.length:=by
  have h1:=hk.length;rw[Xf] at h1;omega
 have hzs:(keys.zip vs.toArray).size=vs.length:=by rw[U0,hsz,Qf,X9]
 unfold ksk_end;try dsimp only
 simp only[V9,if_false];by_cases h2:vs.toArray.size<2
 ·rw[if_pos h2,if_pos h2]
  refine wpAny_bind (wpAny_pure ?_)
  rw[StateT.run_pure];refine wpAny_bind (wpAny_pure ?_)
  try dsimp only
  rw[Qf] at h2;refine zFX (st:=SortSt.mk' general' (keys.zip vs.toArray) #[] 7 none) (n:=0) I fa fk hka nk na hk hlen h64 (Array.Perm.refl _) ⟨fun i j l hj=>?_,fun i hi=>?_,fun i _ z=>by omega⟩ rfl h
  ·have hj2:j<(keys.zip vs.toArray).size:=hj
   rw[hzs] at hj2;omega
  ·have z:=zIw hsz hv i hi
   show Iv (keys.zip vs.toArray) i<_
   rw[z];exact_mod_cast hi
 ·rw[if_neg h2,if_neg h2]
  rw[Qf] at h2;rw[ksk_kind hk (by rw[hsz];omega)];refine wpAny_bind (wpAny_pure ?_)
  refine wpAny_bind (wpAny_mono (zKm (a₀:=keys.zip vs.toArray) (st:=SortSt.mk' oneType' (keys.zip vs.toArray) #[] 7 none)
   (Q:=fun _ st'=>(arrOf st').Perm (keys.zip vs.toArray)/\failedOf st'=none/\Up (keys.zip vs.toArray).size (arrOf st') (keys.zip vs.toArray).size)
   (ksk_intKeys hk) ⟨Array.Perm.refl _,rfl,rfl,rfl⟩ (by rw[hzs];omega) (by rw[hzs];exact h64) (zIw hsz hv) fun st' a1 a2 a3=>⟨a1,a2,a3⟩) ?_ fun _ _ e=>e)
  rintro⟨⟨⟩,st'⟩ s' ⟨rfl,hp,hf,hs⟩
  try dsimp only
  exact zFX (n:=(keys.zip vs.toArray).size) I fa fk hka nk na hk hlen h64 hp (by rw[hp.size_eq];exact hs) hf h
theorem zKp{f:Value}{e0:Nat}(I:Inv X pins σ H s)(fa:qS X pins H a)(fk:qS X pins H kS)(hka:kS≠a)(nk:s.heap.get? kS=some (seqObj "list" #[] e0))(na:s.heap.get? a=some (seqObj "list" #[] e1))
  (hlen:kz.length=vs.length) (h64:vs.length<64)
  (hv:∀(j:Nat)(v:Value),vs[j]?=some v->∃ t,v=.int j t)
  (turn:∀(i:Nat)(v:Value)(k:Int),vs[i]?=some v->kz[i]?=some k->∀(s':Shared)(pl:List (Addr×Obj)),Inv X (pins++pl) σ H s'->
   wpAny (model X.prog X.w) A (call f [v]) (fun u s''=>(∃ t,u=.int k t)/\Inv X (pins++pl) σ H s'') (fun _ _=>False) s')
  (h:∀ s' out c,Inv X pins σ H s'->s'.heap.get? a=some (seqObj "list" out c)->KsS kz vs out.toList->P (.done (.ret .none)) s'):
  wpAny (model X.prog X.w) A (ksk_rest a f false vs.toArray e1 (.ref kS)) P E s:=by
 unfold ksk_rest;refine wpAny_bind (wpAny_rule ?_)
 first
  | rw[List.forIn_toArray]
  | (rw[<-Array.forIn_toList];simp only[Uy])
  | rw[<-Array.forIn_toList]
 refine wpAny_bind (ksk_fold (fun i s'=>∃ kA e,Inv X pins σ H s'/\s'.heap.get? kS=some (seqObj "list" kA e)/\s'.heap.get? a=some (seqObj "list" #[] e1)/\IntsAre kA.toList (kz.take i)) vs 0 s
  ⟨#[],e0,I,nk,na,by simpa using IntsAre.nil⟩ ?step ?done)
 case step=>
  rintro j x s' hx ⟨kA,e,I',nk',na',hk⟩
  simp only[Q6] at hk ⊢
  have hj:j<vs.length:=(Vd.mp hx).1;obtain⟨k,hkj⟩:∃ k,kz[j]?=some k:=⟨_,Qj (by omega)⟩
  have hz:kA.size<=vs.length:=by
   have h1:=hk.length;rw[Xf,V6] at h1;omega
  have pin:∀ b∈[kS,a],∃ o,s'.heap.get? b=some o/\∀ v,o.data≠.cell v:=fun b hb=>by
   rcases Qc.mp hb with rfl | hb
   ·exact⟨_,nk',fun v z=>by have z':Data.seq _ _=Data.cell v:=z;cases z'⟩
   ·rw[Qw.mp hb];exact⟨_,na',fun v z=>by have z':Data.seq _ _=Data.cell v:=z;cases z'⟩
  have Ip:Inv X (pins++sU [kS,a] s'.heap) σ H s':=I'.pinned (fun b hb=>by
   rcases Qc.mp hb with rfl | hb
   ·exact fk
   ·rw[Qw.mp hb];exact fa) pin
  refine wpAny_bind (wpAny_attempt (wpAny_mono (turn j x k hx hkj s' _ Ip) (fun v s'' he=>?_) fun _ _ hF=>hF.elim))
  obtain⟨⟨t2,rfl⟩,I2p⟩:=he;try dsimp only
  have nk2:s''.heap.get? kS=some (seqObj "list" kA e):=(I2p.pin _ (Qu _ (Qu _ (eE (b:=kS) (by simp) nk')))).1
  have na2:s''.heap.get? a=some (seqObj "list" #[] e1):=(I2p.pin _ (Qu _ (Qu _ (eE (b:=a) (by simp) na')))).1
  have I2:Inv X pins σ H s'':=I2p.unpinned;have s1:=Heap.SameBut.update s''.heap kS (Obj.mapSeq (·.push (.int k t2)));obtain⟨c2,hc2⟩:∃ c2,(s''.heap.update kS (Obj.mapSeq (·.push (.int k t2)))).get? kS=some (seqObj "list" (kA.push (.int k t2)) c2):=⟨_,get?_update_seq nk2 (·.push (.int k t2))⟩;have ek:kz.take (j+1)=kz.take j++[k]:=by rw[List.take_add_one,hkj];simp
  have ea:(kA.push (Value.int k t2)).toList=kA.toList++[Value.int k t2]:=by simp
  refine wpAny_bind (listUpdate_at nk2 rfl ?_ (by rw[sizeLine_eq];omega) (Qp (Xw (Array.size_push ..)) (by rw[sizeLine_eq];omega)))
  exact wpAny_pure ⟨rfl,kA.push (.int k t2),c2,oC fk (tk:=s''.toks) I2 s1,hc2,(s1.2 a hka.symm).trans na2,by rw[ea,ek];exact ksk_snoc hk⟩
 case done=>
  rintro s' ⟨kA,e,I',nk',na',hk⟩
  have hk':IntsAre kA.toList kz:=by
   have e3:kz.take (0+vs.length)=kz:=Yp (by omega)
   rw[e3] at hk;exact hk
  try dsimp only
  refine wpAny_bind (listItems_at nk' rfl ?_)
  exact zNo I' fa fk hka nk' na' hk' hlen h64 hv h
def nD(v:Value):Nat:=(numOf v).toNat
theorem zIW{out:List Value}(hlen:kz.length=vs.length)(hv:∀ (j:Nat) (v:Value),vs[j]?=some v->∃ t,v=.int j t)(h:KsS kz vs out):gI kz (out.map nD)/\dD ((out.map nD).map fun i:Nat=>V.int (i:Int)) out:=by
 obtain⟨ps,hp,ho,hs⟩:=h
 have at':∀ p,p∈kz.zip vs->∃(j:Nat)(t:Tok),p.2=.int j t/\kz[j]?=some p.1:=fun p hm=>by
  obtain⟨j,hj,e⟩:=List.mem_iff_getElem.mp hm;rw[U1] at hj;rw[List.getElem_zip] at e;obtain⟨t,ht⟩:=hv j (vs[j]'(by omega)) (Qj _)
  refine⟨j,t,by rw[<-e];exact ht,by rw[<-e];exact Qj _⟩
 have n1:∀(j:Nat)(t:Tok),nD (.int j t)=j:=fun j t=>by unfold nD;show(Int.toNat (j:Int))=j;rfl
 have hvs:vs.map nD=List.range kz.length:=by
  refine Yr fun j=>?_
  rw[Qq];by_cases hj:j<vs.length
  ·obtain⟨t,ht⟩:=hv j _ (Qj hj)
   rw[Qj hj,ht,Xl (by omega)];show some (nD _)=_
   rw[n1]
  ·rw[Qv (by omega),Qv (by rw[Q7];omega)];rfl
 subst ho;refine⟨⟨?_,?_,?_⟩,?_⟩
 ·have h1:((ps.map Prod.snd).map nD).Perm (((kz.zip vs).map Prod.snd).map nD):=(hp.map _).map _
  rw[List.map_snd_zip (by omega),hvs] at h1;exact h1
 ·rw[Qz,Uz]
  refine U2 (fun {p q} hm hq hr=>?_) hs
  have hr':p.1<=q.1:=by rcases hr with z | z<;>omega
  obtain⟨i,t,e1,e2⟩:=at' p (hp.mem_iff.mp hm);obtain⟨j,u,e3,e4⟩:=at' q (hp.mem_iff.mp hq);show kz.getD (nD p.2) 0<=kz.getD (nD q.2) 0
  rw[e1,e3,n1,n1,Qr,Qr,e2,e4];exact hr'
 ·rw[Qz,Uz]
  refine U2 (fun {p q} hm hq hr=>?_) hs
  obtain⟨i,t,e1,e2⟩:=at' p (hp.mem_iff.mp hm);obtain⟨j,u,e3,e4⟩:=at' q (hp.mem_iff.mp hq);show kz.getD (nD p.2) 0=kz.getD (nD q.2) 0->nD p.2<nD q.2
  rw[e1,e3] at hr ⊢
  rw[n1,n1,Qr,Qr,e2,e4];intro z;have z':p.1=q.1:=z;rcases hr with y | y
  ·omega
  ·have:((i:Nat):Int)<(j:Nat):=y.2
   omega
 ·have go:∀ l:List Value,(∀ v∈l,∃(j:Nat)(t:Tok),v=.int j t)->dD ((l.map nD).map fun i:Nat=>V.int (i:Int)) l:=by
   intro l
   induction l with
   | nil=>intro _;exact .nil
   | cons v r ih=>
    intro hl;obtain⟨j,t,rfl⟩:=hl v (.head _);exact .cons ⟨t,by rw[n1]⟩ (ih fun u hu=>hl u (.tail _ hu))
  refine go _ fun v hv'=>?_
  obtain⟨p,hm,rfl⟩:=Q9.mp hv';obtain⟨j,t,e1,_⟩:=at' p (hp.mem_iff.mp hm);exact⟨j,t,e1⟩
theorem zFk{r q:Addr}{n:Nat}{t u v:Tok}{Q:Value->Shared->Prop}(hc:X.calm=true)(I:Inv X pins σ H s)(hr:IsRange s.heap r 0 n 1 t u v)(h64:n<64)(hkz:kz.length=n)
  (turn:∀(j:Nat)(tk:Tok)(k:Int),kz[j]?=some k->∀(s':Shared)(pl:List (Addr×Obj)),Inv X (pins++pl) σ H s'->
   wpAny (model X.prog X.w) X.A.in1.in1 (call (.ref q) [.int j tk]) (fun u s''=>(∃ t,u=.int k t)/\Inv X (pins++pl) σ H s'') (fun _ _=>False) s')
  (h:∀ D s' out c π,Inv X pins σ H s'->qS X pins H D->s.heap.objs.size<=D->s'.heap.get? D=some (seqObj "list" out c)->gI kz π->dD (π.map fun i:Nat=>V.int (i:Int)) out.toList->Q (.ref D) s'):
  wpAny (model X.prog X.w) X.A (call (.builtin "sorted") [.ref r] [(Str.ofString "key", .ref q)]) Q E s:=by
 refine call_function_entry_kw kind_sorted plain_sorted entry_sorted (ksk_s1 _ _) ?_
 unfold Builtin.«sorted»
 refine wpAny_bind (m:=checkCount "sorted" 1 1 _) (wpAny_pure ?_)
 refine wpAny_bind (xC (n:=n) (A:=X.A.in1) (I.ok.hd hc) hr (small_one (by omega) (by omega) (by omega) (by omega)) (by rw[rangeSize_one];split<;>omega) (by omega) fun h1 tk acc hk hsz hacc=>?_)
 have hl:acc.toList.length=n:=by rw[Xf];exact hacc.1
 refine wpAny_bind (wpAny_newList ?_ (by rw[hl,sizeLine_eq];omega))
 have I1:Inv X pins σ H { s with heap:=h1,toks:=tk }:=I.kept hk;have fa:qS X pins H h1.objs.size:=I1.fpOk (Qb _) (I1.hok.fresh (Qb _));have I2:Inv X pins σ H { s with heap:=h1.push (seqObj "list" acc.toList.toArray 0),toks:=tk }:=I1.kept (t':=tk) fun b o e=>Heap.get?_push_of_some _ e
 have hoL:(h1.push (seqObj "list" acc.toList.toArray 0)).get? h1.objs.size=some (seqObj "list" acc.toList.toArray 0):=Heap.get?_push_size _ rfl;show wpAny _ _ _ _ _ { s with heap:=h1.push (seqObj "list" acc.toList.toArray 0),toks:=tk }
 refine wpAny_bind (wpAny_holding (wpAny_call_entry_kw slot_list_sort ⟨_,hoL,rfl⟩ entry_list_sort ?body (ksk_l1 _ _)))
 case body=>
  show wpAny (model X.prog X.w) X.A.in1.in1 (Builtin.«list.sort» ⟨[.ref h1.objs.size],[(Str.ofString "key", .ref q)]⟩) _ _ _
  rw[ksk_t1];have s3:=Heap.SameBut.update (h1.push (seqObj "list" acc.toList.toArray 0)) h1.objs.size (Obj.mapSeq fun _=>(#[]:Array Value))
  obtain⟨e1,ho1⟩:∃ e1,((h1.push (seqObj "list" acc.toList.toArray 0)).update h1.objs.size (Obj.mapSeq fun _=>(#[]:Array Value))).get? h1.objs.size=some (seqObj "list" #[] e1):=⟨_,get?_update_seq hoL fun _=>#[]⟩
  have I3:Inv X pins σ H { s with heap:=(h1.push (seqObj "list" acc.toList.toArray 0)).update h1.objs.size (Obj.mapSeq fun _=>(#[]:Array Value)),toks:=tk }:=(by have z:=oC (tk:=tk) fa I2 s3;exact z)
  generalize hg3:(h1.push (seqObj "list" acc.toList.toArray 0)).update h1.objs.size (Obj.mapSeq fun _=>(#[]:Array Value))=h3 at s3 ho1 I3
  unfold ksk_tree;refine wpAny_bind (listItems_at hoL rfl ?_)
  refine wpAny_bind (listUpdate_at hoL rfl ?_ (by rw[Qf,sizeLine_eq];omega) (Vk _))
  show wpAny _ _ _ _ _ { s with heap:=(h1.push (seqObj "list" acc.toList.toArray 0)).update h1.objs.size (Obj.mapSeq fun _=>(#[]:Array Value)),toks:=tk }
  rw[hg3];refine wpAny_bind (seqEpoch_at ho1 rfl ?_)
  refine wpAny_bind (wpAny_newTuple ?_ (by show acc.toList.toArray.toList.length<=_;rw[sizeLine_eq,Uy];omega))
  refine wpAny_bind (wpAny_newList ?_ (Vk _))
  refine wpAny_holding ?_
  have I4:Inv X pins σ H { s with heap:=h3.push (seqObj "tuple" acc.toList.toArray 0),toks:=tk }:=I3.kept (t':=tk) fun b o e=>Heap.get?_push_of_some _ e
  have fk:qS X pins H (h3.push (seqObj "tuple" acc.toList.toArray 0)).objs.size:=I4.fpOk (Qb _) (I4.hok.fresh (Qb _));have I5:Inv X pins σ H { s with heap:=(h3.push (seqObj "tuple" acc.toList.toArray 0)).push (seqObj "list" #[] 0),toks:=tk }:=I4.kept (t':=tk) fun b o e=>Heap.get?_push_of_some _ e
  have ho4:(h3.push (seqObj "tuple" acc.toList.toArray 0)).get? h1.objs.size=some (seqObj "list" #[] e1):=Heap.get?_push_of_some _ ho1
  have hvv:∀(j:Nat)(v:Value),acc.toList[j]?=some v->∃ t,v=.int j t:=fun j v' hj=>by
   obtain⟨tk',rfl⟩:=hacc.2 j v' (by rw[<-Ui];exact hj)
   exact⟨tk',by congr 1;omega⟩
  refine zKp (vs:=acc.toList) (kz:=kz) (e0:=0) I5 fa fk (X4 (Heap.lt_size ho4)) (Heap.get?_push_size _ rfl) (Heap.get?_push_of_some _ ho4) (by rw[hkz,hl]) (by rw[hl];exact h64) hvv (fun i v' k hi hk' s' pl Ip=>?_) fun s' out c I' ho' ko=>?_
  ·obtain⟨tk',rfl⟩:=hacc.2 i v' (by rw[<-Ui];exact hi)
   have e3:(0:Int)+(i:Int)*1=(i:Int):=by omega
   rw[e3];exact turn i tk' k hk' s' pl Ip
  ·obtain⟨hπ,hV⟩:=zIW (by rw[hkz,hl]) hvv ko
   exact⟨_,rfl,wpAny_pure ⟨_,rfl,h _ s' out c _ I' fa hsz ho' hπ hV⟩⟩
end
end L3
namespace L3
open PySem PySem.Spec PyProof.Rows L2 PySem.W
unseal PEd PEf PTd PWd PAd PSd dF POd PGd fT PId PSx iV PTs PCd PCf
def zPu:CXT:=fun _ _ _ _ _ _=>False
def cxL(P:Program)(w:World)(K:PySem.W.Frag)(mg:Str->Option Value)(base:Heap)(N:List Str)(qual:Str)(scope:Scope)(f:Addr)(cd:Value)(cl:List (Str×Addr))(A:Around)(outer:List Env)(s:Shared)(H:Hp):Cx where
 prog:=P
 w:=w
 K:=K
 mg:=mg
 base:=base
 A:=A.deeper (envX qual scope s.heap.objs.size f cd cl)
 N:=N
 s₀:=s
 H₀:=H
 env:=envX qual scope s.heap.objs.size f cd cl
 outer:=outer
 stack:=envX qual scope s.heap.objs.size f cd cl::outer
 ex:=[]
 fn:=fun _=>false
 calm:=true
 pn:=[]
 xe:=fun _ _=>False
theorem zJm{P:Program}{w:World}{K:Fg_}{mg:Str->Option Value}{base:Heap}{N:List Str}{qual name:Str}{scope:Scope}{f c':Addr}{cl:List (Str×Addr)}{A:Around}{outer:List Env}{s:Shared}{H:Hp}{params:Arguments}{body:Expr}{pm ctv u:Value}{p:Str}{σ:St}{Q:VK}{E:XK}{t:TE}
  (hd:A.handled=none) (hdp:A.depth<recursionLimit) (e0:Env0 P w K mg base A outer s H) (ho:s.heap.get? f=some (kla_obj name qual params body scope cl pm c' ctv)) (hcd:s.heap.CodeRec (.ref c') qual)
  (hbind:bindArgs (kla_fn name qual params body scope cl pm (.ref c') ctv) ⟨[u],[]⟩=pure [(p,u)]) (hloc:scope.names.lookup p=some .local)
  (hco:scope.isCoroutine=false) (hgen:scope.isGenerator=false) (hk:scope.kind=.function) (hcell:∀ x∈scope.names,x.2≠.cell)
  (hfree:∀ x,scope.names.lookup x=some .free->∃ c,cl.lookup x=some c) (hinj:∀ x y c,cl.lookup x=some c->cl.lookup y=some c->x=y)
  (hcl:∀ x c,cl.lookup x=some c->(∃ v,s.heap.IsCell c v)/\H c=none) (hlen:σ.length=N.length)
  (hσ:∀(i:Nat)(x:Str)(v:V),N[i]?=some x->σ[i]?=some (some v)->(x=p/\cO v u)∨(scope.names.lookup x=some .free/\∃ c u',cl.lookup x=some c/\s.heap.IsCell c (some u')/\cO v u'))
  (hb:PE (cxL P w K mg base N qual scope f (.ref c') cl A outer s H) body t) (hq:t σ H Q):
  codeAny (model P w) A (.call (.ref f) ⟨[u],[]⟩) (CR zPu outer P w H s Q E) s:=by
 have lim:s.heap.NoLimit:=e0.mod.nolimit.keeps fun b o e=>(e0.bs b o e).1
 refine kla_callFunE hdp ho rfl hco hgen rfl hcd ?_
 rw[hbind];refine wpAny_pure (wpAny_newFunctionEnv hcell (fun y hy=>by rw[Qw.mp hy];exact hloc) (fun h₁ hns hsb=>⟨lim.fresh _ hsb,?_⟩) hk)
 have hk₁:∀ b o,s.heap.get? b=some o->h₁.get? b=some o:=fun b o e=>hsb.extBut b o (Qo (Heap.lt_size e)) (Heap.get?_push_of_some _ e)
 have noA:∀ b:Addr,b∉(cxL P w K mg base N qual scope f (.ref c') cl A outer s H).ex:=fun b z=>absurd (show b∈([]:List Addr) from z) (by simp)
 have I:Inv (cxL P w K mg base N qual scope f (.ref c') cl A outer s H) [] σ H { s with heap:=h₁,toks:=s.toks+1 }:=by
  refine⟨⟨e0.mod,hk,rfl,rfl,Qb _,hinj,fun y hy=>?_,fun y c z _=>?_,fun _=>hd,Around.frames_deeper e0.frames,.inr ⟨rfl,rfl⟩,fun b z=>absurd z (noA b),e0.bs,e0.bsz,fun b _ _=>noA b,fun b z=>absurd z (noA b),e0.funs,e0.frf⟩,
   rfl,e0.bare,Un.kept hk₁,⟨_,hns,fun i y v h1 h2 h3=>?_⟩,fun y c h=>?_,e0.hok.fresh (Qb _),fun y c h=>(hcl y c h).2,fun p hp=>absurd (show p∈([]:List (Addr×Obj)) from hp) (by simp),e0.hok.kept hk₁,hlen⟩
  ·have hy:scope.names.lookup y=some .cell∨scope.names.lookup y=some .free:=hy
   rcases hy with hy | hy
   ·exact absurd rfl (hcell _ (Xg hy))
   ·exact hfree y hy
  ·cases z
  ·rcases hσ i y v h1 h2 with⟨rfl,r⟩ | ⟨hf,c,u',h4,⟨o,h5,h6⟩,r⟩
   ·exact⟨u,r,.inl ⟨hloc,by simp[List.lookup]⟩⟩
   ·exact⟨u',r,.inr ⟨.inr hf,c,h4,o,hk₁ _ _ h5,h6⟩⟩
  ·obtain⟨⟨v,o,h5,h6⟩,_⟩:=hcl y c h
   exact⟨v,o,hk₁ _ _ h5,h6⟩
 refine kla_codeExpr (wpAny_mono (hb [] _ σ H Q I hq) (fun v s' z=>?_) fun e s' z=>False.elim z)
 obtain⟨x,H',J,r,q⟩:=z;exact⟨x,H',J.os,J.bare,J.base,J.hok,r,q⟩
theorem zHE{l:List Value}{a b:Int}{c:Value}(h:TriplesOk l):TriplesOk (l++[rawInt a,rawInt b,c]):=TriplesOk_snoc a b c l h
theorem zDe{pos q:Pos}{c x:Value}(l:List Value)(h:TriplesOk l)(e:codeAmong q (l++[rawInt pos.line,rawInt pos.col,c])=some x):codeAmong q l=some x∨x=c:=by
 fun_induction TriplesOk l with
 | case1=>
  simp only[Yy,codeAmong,rawInt] at e;split at e
  ·exact .inr (Vc e).symm
  ·cases e
 | case2 a t b u y rest ih=>
  simp only[Y4,codeAmong] at e ⊢
  split at e
  ·rename_i hc;rw[if_pos hc];exact .inl e
  ·rename_i hc;rw[if_neg hc];exact ih h e
 | case3 l h1 h2=>exact h.elim
def BMn(base:Heap)(mg:Str->Option Value):Prop:=∃ bm ob,mg "__builtins__" = some (.ref bm)/\bm≠builtinsNs/\base.get? bm=some ob/\ob.cls=.type "module" /\ ob.dict=some builtinsNs/\ob.data=.plain
section
variable{X:Cx}{pins:List (Addr×Obj)}{σ:St}{H:Hp}{s:Shared}{P c c':Addr}
theorem zHs{ps more:Array Value}{h':Heap}{tk:Nat}{oc:Obj}(I:Inv X pins σ H s)(hP:H P=some (.tbl ps))(hx:Heap.ExtBut P s.heap h')(hge:s.heap.objs.size<=c')(hc:h'.get? c'=some oc)(hP':h'.get? P=some { cls:=.none,data:=.fields (ps++more) }):
  Inv X pins σ (upd (upd H P (.tbl (ps++more))) c' (.frz oc (.own 0))) { s with heap:=h',toks:=tk }:=by
 have nP:∀ {b:Addr},H b=none->b≠P:=fun e z=>by rw[z,hP] at e;cases e
 have cF:H c'=none:=I.hok.fresh hge;have nc:∀ {b:Addr} {o:Obj},s.heap.get? b=some o->b≠c':=fun e=>Qo (Ql (Heap.lt_size e) hge)
 have hPc:P≠c':=aV hP cF;have up:∀ {b:Addr},b≠P->b≠c'->upd (upd H P (.tbl (ps++more))) c' (.frz oc (.own 0)) b=H b:=fun h1 h2=>by rw[aT h2,aT h1]
 have upP:upd (upd H P (.tbl (ps++more))) c' (.frz oc (.own 0)) P=some (.tbl (ps++more)):=by rw[aT hPc,aQ]
 have kd:∀ {b:Addr} {o:HO},H b=some o->(∀ qs,o≠.tbl qs)->upd (upd H P (.tbl (ps++more))) c' (.frz oc (.own 0)) b=some o:=fun {b o} e hn=>by
  rw[up (fun z=>by rw[z,hP] at e;exact hn ps (Vc e).symm) (aV e cF)];exact e
 refine I.un ⟨fun b o e n _ _=>hx b o (nP n) e,fun b o e n _ _=>⟨o.slots,hx b o (nP n) e⟩,fun b o e n _=>by rw[up (nP n) (nc e)];exact n,fun b o e _=>?_,fun b xs e=>kd e fun qs z=>(by cases z),fun b o u e=>kd e fun qs z=>(by cases z),fun b qs e=>?_⟩ fun b u e=>?_
 ·by_cases hb:b=P
  ·subst hb;exact⟨_,hP'⟩
  ·exact⟨o,hx b o hb e⟩
 ·by_cases hb:b=P
  ·subst hb
   rw[hP] at e;cases e
   exact⟨more,upP⟩
  ·exact⟨#[],by rw[up hb (aV e cF),e];simp⟩
 ·by_cases h2:b=c'
  ·subst h2
   rw[aQ] at e;cases e
   exact⟨hc,oc,hc⟩
  ·by_cases h1:b=P
   ·subst h1
    rw[upP] at e;cases e
    exact hP'
   ·rw[up h1 h2] at e
    refine(I.hok b u e).stay (fun d v hd q=>hx d v (fun z=>?_) q) (fun d q=>kd q fun qs z=>(by cases z)) fun d xs q=>kd q fun qs z=>(by cases z)
    rcases hd with rfl | hd
    ·exact h1 z
    ·rw[z,hP] at hd;cases hd
theorem zFg{ps:Array Value}{oc:Obj}{pos:Pos}{vs:Array Value}{t:Tok}(hP:H P=some (.tbl ps))(cF:H c'=none)(hd:oc.data=.fields vs)(hv:vs[1]?=some (.str qP t)):
  Keep H (upd (upd H P (.tbl (ps++#[rawInt pos.line,rawInt pos.col,.ref c']))) c' (.frz oc (.own 0))):=by
 have hPc:P≠c':=aV hP cF;have upP:upd (upd H P (.tbl (ps++#[rawInt pos.line,rawInt pos.col,.ref c']))) c' (.frz oc (.own 0)) P=some (.tbl (ps++#[rawInt pos.line,rawInt pos.col,.ref c'])):=by rw[aT hPc,aQ]
 have kd:∀ {b:Addr} {o:HO},H b=some o->b≠P->upd (upd H P (.tbl (ps++#[rawInt pos.line,rawInt pos.col,.ref c']))) c' (.frz oc (.own 0)) b=some o:=fun {b o} e hn=>by
  rw[aT (aV e cF),aT hn];exact e
 refine⟨fun b o e=>?_,fun Q T=>?_⟩
 ·by_cases hb:b=P
  ·subst hb
   rw[hP] at e;cases e
   exact .inr ⟨_,_,rfl,upP⟩
  ·exact .inl (kd e hb)
 ·obtain⟨qs,e,ht,k⟩:=T
  have old:∀(q:Pos)(cv:Value),codeAmong q qs.toList=some cv->∃ c oc' vs t u,cv=.ref c/\upd (upd H P (.tbl (ps++#[rawInt pos.line,rawInt pos.col,.ref c']))) c' (.frz oc (.own 0)) c=some (.frz oc' u)/\oc'.data=.fields vs/\vs[1]?=some (.str qP t):=fun q cv z=>by
   obtain⟨c,oc',vs',t',u,r1,r2,r3⟩:=k q cv z;exact⟨c,oc',vs',t',u,r1,kd r2 (fun w=>by rw[w,hP] at r2;cases r2),r3⟩
  by_cases hb:Q=P
  ·subst hb
   rw[hP] at e;cases e
   have el:(ps++#[rawInt pos.line,rawInt pos.col,.ref c']).toList=ps.toList++[rawInt pos.line,rawInt pos.col,.ref c']:=by simp
   refine⟨_,upP,by rw[el];exact zHE ht,fun q cv z=>?_⟩
   rw[el] at z;rcases zDe _ ht z with z | z
   ·exact old q cv z
   ·exact⟨c',oc,vs,t,_,z,aQ,hd,hv⟩
  ·exact⟨qs,kd e hb,ht,old⟩
theorem zHh{params:Arguments}{body:Expr}{scope:Scope}{pos:Pos}{clos:List (Str×Addr)}{M:Model}{A:Around}{E:Value->Shared->Prop}{Q:Value->Shared->Prop}(I:Inv X pins σ H s)(tb:zAJ P H)(hC:∀ h,X.K.In h->CodeHd h c P)(hcode:X.env.code=.ref c)(hq:X.env.qual ++ "<lambda>" = qP)(hB:BMn X.base X.mg)
  (hcl:closureFor scope X.env=pure clos) (hdef:defaultsOf params X.env=([],[]))
  (h:∀ f c' ctv oc vs t u H' s',Inv X pins σ H' s'->Keep H H'->(∀ b o,H b=some o->b≠P->H' b=some o)->qS X pins H' f->s.heap.objs.size<=f->s'.heap.get? f=some (kla_obj "<lambda>" qP params body scope clos ((X.mg "__name__").getD .none) c' ctv)->
   H' c'=some (.frz oc u)->oc.data=.fields vs->vs[1]?=some (.str qP t)->Q (.ref f) s'):
  wpAny M A (eval (.Lambda params body scope pos) X.env) Q E s:=by
 obtain⟨ps,hP,ht,hk⟩:=id tb;have hPo:s.heap.get? P=some (tabObj ps):=I.hok P _ hP;have hg:s.heap.Ns mainGlobals X.mg:=I.mod.glob.keeps I.bk
 have hgP:mainGlobals≠P:=fun z=>by
  obtain⟨o,es,ep,e,_⟩:=I.mod.glob;have:=(I.bs _ _ e).2
  rw[z,hP] at this;cases this
 have hb:s.heap.BuiltinsAt X.mg P:=by
  obtain⟨bm,ob,b1,b2,b3,b4,b5,b6⟩:=hB;refine⟨bm,ob,b1,b2,fun z=>?_,fun z=>?_,(I.bs _ _ b3).1,b4,b5,b6⟩
  ·obtain⟨o,es,ep,e,d,_⟩:=I.mod.glob
   rw[z,e] at b3;cases b3;rw[d] at b6;cases b6
  ·have:=(I.bs _ _ b3).2
   rw[z,hP] at this;cases this
 refine kla_eval hdef ?_
 rw[hq]
 cases hf:codeAmong pos ps.toList with
 | some cv=>
  obtain⟨c',oc,vs,t,u,rfl,r1,r2,r3⟩:=hk pos cv hf;refine kla_makeFunctionHit hcl I.ok.glob hg hcode (hC _ I.kIn) hPo ht hf hb fun ctv h' tk hkk hsz=>?_
  have I1:Inv X pins σ H { s with heap:=h',toks:=tk }:=I.kept hkk;have I2:Inv X pins σ H { s with heap:=h'.push (kla_obj "<lambda>" qP params body scope clos ((X.mg "__name__").getD .none) c' ctv),toks:=tk }:=I1.kept (t':=tk) fun b o e=>Heap.get?_push_of_some _ e
  exact h _ c' ctv oc vs t u H _ I2 (Keep.refl _) (fun b o e _=>e) (I1.fpOk (Qb _) (I1.hok.fresh (Qb _))) hsz (Heap.get?_push_size _ rfl) r1 r2 r3
 | none=>
  refine kla_makeFunction hcl I.ok.glob hg hcode (hC _ I.kIn) hPo ht hf hgP hb fun c' ctv h' tk hx hge hlt hrec htb=>?_
  obtain⟨c₂,oc,vs,t,e2,hoc,hd,hv⟩:=hrec;cases e2;have I1:=zHs (tk:=tk) I hP hx hge hoc htb;have I2:=I1.kept (t':=tk) (h':=h'.push (kla_obj "<lambda>" qP params body scope clos ((X.mg "__name__").getD .none) c' ctv)) fun b o e=>Heap.get?_push_of_some _ e
  have cF:H c'=none:=I.hok.fresh hge;exact h _ c' ctv oc vs t _ _ _ I2 (zFg hP cF hd hv) (fun b o e hb=>by rw[aT (aV e cF),aT hb];exact e) (I1.fpOk (Qb _) (I1.hok.fresh (Qb _))) (Xs (Vz hge hlt)) (Heap.get?_push_size _ rfl) aQ hd hv
end
theorem yJ{K:Fg_}{H:Hp}:∀ π:List Nat,IsDs K H (π.map fun i:Nat=>V.int (i:Int)) (kQ π)
 | []=>.nil
 | n::ns=>.cons (.int n) (yJ ns)
def zAV(p:Pos):Arguments:={ posonlyargs:=[],args:=[{ arg := "spot", annotation:=none,pos:=p }],vararg:=none,kwonlyargs:=[],kw_defaults:=[],kwarg:=none,defaults:=[] }
def jQ:Scope:={ kind:=.function,names:=[(PySem.Str.ofString "spot", .local),(PySem.Str.ofString "bottom", .free),(PySem.Str.ofString "some", .free)],isGenerator:=false,isCoroutine:=false,more:=[] }
section
variable{X:Cx}{p1 p2 p3 p4 p5 p6 p7 p8 p9 pa pb pc pd pe pf pg ph pi pj:Pos}
theorem zHP{b k:Int}{a:Addr}{xs:List V}{rows:List D}{d:D}{j:Nat}{Hi H:Hp}{Q:VK}{σ:St}(hN:X.N=(["spot","some","bottom"]:List Str))(hsc:X.env.scope=jQ){pz:Pos}
  (hσ:σ=[some (.int j),some (.ref a),some (.int b)]) (hq:SqL X.K Hi a xs∨SqT X.K Hi a xs) (hs:IsDs X.K Hi xs rows) (sm:Same Hi H) (hd:rows[j]?=some d) (hk:zGM b d=.ok k) (q:Q (.int k) H):
  ∃ t,PE X (.BinOp (.Subscript (.Subscript (.Name "some" p1) (.Name "spot" p2) p3) (.Constant (.int 0) 0 p4) p5) .Mult
   (.BinOp (.Name "bottom" p6) .FloorDiv (.Subscript (.Subscript (.Name "some" p7) (.Name "spot" p8) p9) (.Constant (.int 1) 0 pa) pb) pc) pz) t/\t σ H Q:=by
 have v0:PE X (.Name "spot" p2) (zAY 0):=sW (by rw[hN];rfl) (by rw[hsc];exact .inl (by decide +kernel))
 have v0':PE X (.Name "spot" p8) (zAY 0):=sW (by rw[hN];rfl) (by rw[hsc];exact .inl (by decide +kernel))
 have v1:PE X (.Name "some" p1) (zAY 1):=sW (by rw[hN];rfl) (by rw[hsc];exact .inr (.inr (by decide +kernel)))
 have v1':PE X (.Name "some" p7) (zAY 1):=sW (by rw[hN];rfl) (by rw[hsc];exact .inr (.inr (by decide +kernel)))
 have v2:PE X (.Name "bottom" p6) (zAY 2):=sW (by rw[hN];rfl) (by rw[hsc];exact .inr (.inr (by decide +kernel)))
 refine⟨_,zV cA (zDq fW (zDq fW v1 v0 (fun _ _=>rfl)) zEY (fun _ _=>rfl)) (zV bM v2 (zDq fW (zDq fW v1' v0' (fun _ _=>rfl)) zEY (fun _ _=>rfl))),?_⟩
 obtain⟨t,c,rfl,h1,h2,rfl⟩:=zJr hk;obtain⟨v,hv,r⟩:=hs.at hd;obtain⟨ra,ys,rfl,h3,h4⟩:=r.tupI;obtain⟨u1,u2,rfl,r1,r2⟩:=h4.two;have e1:=r1.intI;have e2:=r2.intI;subst e1 e2;have S3:=bN sm h3;subst hσ
 have row:∀ Q':VK,Q' (.ref ra) H->(zND X.K (.ref a) (.int j) H Q'∨zNC X.K (.ref a) (.int j) H Q'):=fun Q' q'=>by
  rcases hq with hq | hq
  ·exact .inl ⟨a,xs,j,.ref ra,rfl,rfl,cC sm hq,zBT hv,q'⟩
  ·exact .inr ⟨a,xs,j,.ref ra,rfl,rfl,bN sm hq,zBT hv,q'⟩
 refine⟨.ref a,rfl,.int j,rfl,row _ (.inr ⟨ra,_,0,.int t,rfl,rfl,S3,rfl,?_⟩)⟩
 refine⟨.int b,rfl,.ref a,rfl,.int j,rfl,row _ (.inr ⟨ra,_,1,.int c,rfl,rfl,S3,rfl,?_⟩)⟩
 exact⟨b,c,rfl,rfl,h1,t,b.fdiv c,rfl,rfl,h2,q⟩
theorem zMS{a:Expr}{ta:TA}{p pos:Pos}(hg:Gl X "range")(hm:X.mg "range" = none)(ha:PA X [a] ta)(hs:starEach [a] X.env=[(false,eval a X.env)]:=by rfl):
  PE X (.Call (.Name "range" p) [a] [] pos) (fun σ H Q=>ta σ H fun vs H1=>∃ n:Nat,vs=[.int n]/\∀ r,H1 r=none->Q (.ref r) (upd H1 r (.rng 0 n))):=by
 intro pins s σ H Q I h;refine wpAny_Call_Name_kw (oH I hg hm boot_range (X5 (thn (ha pos pins s σ H _ I h) fun us s1 ⟨vs,H1,I1,r1,q1⟩=>?_) hs rfl))
 obtain⟨n,e,q⟩:=q1;subst e;obtain⟨u,rfl,t,rfl⟩:=zBS r1;refine call_range_1 ⟨.ref s1.heap.objs.size,_,I1.laid (fun b o e=>Heap.get?_push_of_some _ e) (Qb _) ?_,rfl,q _ I1.fresh⟩
 exact⟨_,_,_,Heap.get?_push_size _ rfl⟩
structure RankCx (X:Cx) (P c:Addr):Prop where
 calm:X.calm=true
 dp:X.A.depth<recursionLimit
 n0:X.N[0]?=some ("some" : Str)
 n1:X.N[1]?=some ("bottom" : Str)
 k0:X.env.kindOf "some" = some .cell
 k1:X.env.kindOf "bottom" = some .cell
 code:X.env.code=.ref c
 hd:∀ h,X.K.In h->CodeHd h c P
 qual:X.env.qual ++ "<lambda>" = qP
 bm:BMn X.base X.mg
 clo:∃ cs cb,closureFor jQ X.env=pure [(("some" : Str),cs),(("bottom" : Str),cb)]/\X.env.cells.lookup ("some" : Str)=some cs/\X.env.cells.lookup ("bottom" : Str)=some cb
 gS:Gl X "sorted"
 mS:X.mg "sorted" = none
 gR:Gl X "range"
 mR:X.mg "range" = none
 gL:Gl X "len"
 mL:X.mg "len" = none
def zKW(X:Cx)(P:Addr):TE:=fun σ H Q=>∃ Hi a xs rows b kz,σ[0]?=some (some (.ref a))/\σ[1]?=some (some (.int b))/\(SqL X.K Hi a xs∨SqT X.K Hi a xs)/\IsDs X.K Hi xs rows/\Same Hi H/\nE b rows=.ok kz/\kz.length<64/\zAJ P H/\Hi P=none/\
 ∀ π r Hi' H',gI kz π->Ext Hi H Hi' H'->zHY X.K H Hi' H' r (kQ π)->Q (.ref r) H'
theorem zCi{pins:List (Addr×Obj)}{σ:St}{H:Hp}{s:Shared}{i:Nat}{x:Str}{v:V}{c:Addr}(I:Inv X pins σ H s)(hi:X.N[i]?=some x)(hv:σ[i]?=some (some v))(hk:X.env.kindOf x=some .cell)(hc:X.env.cells.lookup x=some c):∃ u,cO v u/\s.heap.IsCell c (some u):=by
 obtain⟨m,hn,hl⟩:=I.loc;obtain⟨u,r,l⟩:=hl i x v hi hv (.inr (.inl hk));refine⟨u,r,?_⟩
 rcases l with⟨z,_⟩ | ⟨_,c',z,q⟩
 ·rw[hk] at z;cases z
 ·rw[hc] at z;cases z;exact q
theorem zJn{P c:Addr}(R:RankCx X P c){pk pl pm pn:Pos}(hs1:starEach [.Name "some" p3] X.env=(false,eval (.Name "some" p3) X.env)::starEach [] X.env:=by rfl)
  (hs2:starEach [.Call (.Name "len" p2) [.Name "some" p3] [] p4] X.env=[(false,eval (.Call (.Name "len" p2) [.Name "some" p3] [] p4) X.env)]:=by rfl)
  (hs3:starEach [.Call (.Name "range" p1) [.Call (.Name "len" p2) [.Name "some" p3] [] p4] [] p5] X.env=(false,eval (.Call (.Name "range" p1) [.Call (.Name "len" p2) [.Name "some" p3] [] p4] [] p5) X.env)::starEach [] X.env:=by rfl):
  PE X (.Call (.Name "sorted" pk) [.Call (.Name "range" p1) [.Call (.Name "len" p2) [.Name "some" p3] [] p4] [] p5] [⟨some "key", .Lambda (zAV p6) (.BinOp (.Subscript (.Subscript (.Name "some" p7) (.Name "spot" p8) p9) (.Constant (.int 0) 0 pa) pb) .Mult
   (.BinOp (.Name "bottom" pc) .FloorDiv (.Subscript (.Subscript (.Name "some" pd) (.Name "spot" pe) pf) (.Constant (.int 1) 0 pg) ph) pi) pj) jQ pl,pm⟩] pn) (zKW X P):=by
 intro pins s σ H Q I h;obtain⟨Hi,a,xs,rows,b,kz,e0,e1,hq,hds,sm,hkz,h64,tb,hiP,q⟩:=h;obtain⟨hl1,hl2⟩:=yC hkz;have hlen:xs.length=kz.length:=by rw[hds.length,hl1]
 refine wpAny_Call_Name_kw (oH I R.gS R.mS boot_sorted ?_ (by decide) (by decide))
 have vS:PE X (.Name "some" p3) (zAY 0):=sW R.n0 (.inr (.inl R.k0));have pR:=zMS (p:=p1) (pos:=p5) R.gR R.mR (iP (zCj (p:=p2) (pos:=p4) aO R.gL R.mL boot_len (iP vS mJ hs1) (by decide) (by decide) hs1) mJ (by rw[hs2];rfl)) hs2
 refine callWith_kw (thn ((iP pR mJ hs3) pn pins s σ H (fun vs H1=>∃ r,vs=[.ref r]/\H r=none/\H1=upd H r (.rng 0 kz.length)) I ?reads) fun us s1 ⟨vs,H1,I1,r1,q1⟩=>?_) (by rw[hs3];rfl) (by rw[hs3];rfl)
 case reads=>
  refine⟨.ref a,e0,a,xs,rfl,hq.imp (cC sm) (bN sm),xs.length,rfl,fun r hr=>⟨r,rfl,hr,by rw[hlen]⟩⟩
 obtain⟨r,rfl,hr,rfl⟩:=q1;obtain⟨u,rfl,ru⟩:=zBS r1;cases ru;obtain⟨cs,cb,hcl,hcs,hcb⟩:=R.clo;have x1:Ext Hi H Hi (upd H r (.rng 0 kz.length)):=Ext.newF sm hr;refine kws_cons (zHh I1 (x1.h.t P tb) R.hd R.code R.qual R.bm hcl rfl fun f c' ctv oc vs t u H3 s3 I3 hkeep hsame hf hfs hfo hc1 hc2 hc3=>kws_nil ?_)
 have x2:Ext Hi H Hi H3:=x1.trans ⟨Same.refl _,hkeep,fun b o e=>hsame b o (x1.s _ _ e) (fun z=>by rw[z,hiP] at e;cases e),fun b e z=>absurd e z⟩
 have hr3:H3 r=some (.rng 0 kz.length):=hkeep.at aQ;obtain⟨t1,t2,t3,hrg⟩:=I3.hok r _ hr3
 have I3p:Inv X (pins++[(f,kla_obj "<lambda>" qP (zAV p6) _ jQ [("some", cs),("bottom", cb)] ((X.mg "__name__").getD .none) c' ctv)]) σ H3 s3:=I3.pins_of fun p hp=>by
  rcases Xe.mp hp with hp | hp
  ·exact I3.pin p (Qu _ hp)
  ·rw[Qw.mp hp]
   exact⟨hfo,hf.1,hf.2.1,hf.2.2.1,fun v z=>by have z':Data.func _=Data.cell v:=z;cases z'⟩
 refine zFk (kz:=kz) R.calm I3p hrg h64 rfl (fun j tk k hj s' pl Ip=>?_) fun D s' out c2 π I' fD hDs hD hπ hV=>?_
 ·obtain⟨d,hd,hk⟩:=hl2 j k hj
  have hfo':=(Ip.pin _ (Qu _ (Yk _ (Qu _ (Qw.mpr rfl))))).1;obtain⟨u0,r0,ce0⟩:=zCi Ip R.n0 e0 R.k0 hcs;obtain⟨u1,r1,ce1⟩:=zCi Ip R.n1 e1 R.k1 hcb
  have look:∀ {x:Str} {c:Addr},List.lookup x [(("some" : Str),cs),(("bottom" : Str),cb)]=some c->(x = "some" /\ c=cs)∨(x = "bottom" /\ c=cb):=fun {x c} z=>by
   have z':=Xg z;rcases Qc.mp z' with z' | z'
   ·cases z';exact .inl ⟨rfl,rfl⟩
   ·cases Qw.mp z';exact .inr ⟨rfl,rfl⟩
  have hne:cs≠cb:=fun z=>by
   have:=Ip.ok.inj _ _ _ hcs (z ▸ hcb)
   exact absurd this (by decide)
  have lam:∃ t,PE (cxL X.prog X.w X.K X.mg X.base ["spot","some","bottom"] qP jQ f (.ref c') [("some", cs),("bottom", cb)] X.A.in1.in1 X.stack s' H3) _ t/\t [some (.int j),some (.ref a),some (.int b)] H3 (fun v H'=>v=.int k/\H'=H3):=
   zHP (p1:=p7) (p2:=p8) (p3:=p9) (p4:=pa) (p5:=pb) (p6:=pc) (p7:=pd) (p8:=pe) (p9:=pf) (pa:=pg) (pb:=ph) (pc:=pi) (pz:=pj) rfl rfl rfl hq hds x2.s hd hk ⟨rfl,rfl⟩
  obtain⟨tt,hb,hqq⟩:=lam;refine wpAny_call (codeAny_mono (zJm (E:=fun _ _ _=>False) (p := "spot") (Ip.ok.hd R.calm) R.dp Ip.env0.in1.in1 hfo' ⟨c',oc,vs,t,rfl,(Ip.hok c' _ hc1).1,hc2,hc3⟩ rfl (by decide +kernel) rfl rfl rfl (by decide +kernel) (fun x hx=>?_) (fun x y c z1 z2=>?_) (fun x c z=>?_) rfl (fun i x v z1 z2=>?_) hb hqq) fun res s'' hres=>?_)
  ·have hx':=Xg hx
   rcases Qc.mp hx' with z | hx'
   ·cases z
   ·rcases Qc.mp hx' with z | hx'
    ·cases z;exact⟨cb,rfl⟩
    ·cases Qw.mp hx';exact⟨cs,rfl⟩
  ·rcases look z1 with⟨rfl,rfl⟩ | ⟨rfl,rfl⟩<;>rcases look z2 with⟨rfl,w⟩ | ⟨rfl,w⟩
   ·rfl
   ·exact absurd w hne
   ·exact absurd w.symm hne
   ·rfl
  ·rcases look z with⟨rfl,rfl⟩ | ⟨rfl,rfl⟩
   ·exact⟨⟨_,ce0⟩,Ip.freeC _ _ hcs⟩
   ·exact⟨⟨_,ce1⟩,Ip.freeC _ _ hcb⟩
  ·match i,z1,z2 with
   | 0,z1,z2=>cases z1;cases z2;exact .inl ⟨rfl,tk,rfl⟩
   | 1,z1,z2=>cases z1;cases z2;exact .inr ⟨by decide +kernel,cs,u0,rfl,ce0,r0⟩
   | 2,z1,z2=>cases z1;cases z2;exact .inr ⟨by decide +kernel,cb,u1,rfl,ce1,r1⟩
   | i+3,z1,z2=>simp at z2
  ·cases res with
   | error ev=>exact False.elim hres
   | ok fl=>
    cases fl with
    | ret u=>
     obtain⟨v,H',J,rv,rfl,rfl⟩:=Ip.after hres;obtain⟨t',rfl⟩:=rv;exact⟨⟨t',rfl⟩,J⟩
    | next=>exact False.elim hres
    | brk=>exact False.elim hres
    | cont=>exact False.elim hres
 ·have I'':Inv X pins σ H3 s':=I'.unpinned
  obtain⟨f0,f1,f2,f3,f4,f5⟩:=fD;have h0:X.s₀.heap.get? D=none:=Heap.get?_none_of_le (Qp I3.sz hDs);have hl:=hV.length
  have okL:kE X.prog X.w (upd H3 D (.lst (π.map fun i:Nat=>V.int (i:Int)))) s'.heap D (.lst (π.map fun i:Nat=>V.int (i:Int))):=by
   refine⟨?_,out.toList,c2,hV,by rw[Array.toArray_toList];exact hD⟩
   rw[Qh,hπ.1.length_eq,Q7,sizeLine_eq];omega
  have I4:=I''.track f0 h0 f1 f4 (fun p hp=>f5 p (by
   rcases Xe.mp hp with hp | hp
   ·exact Yk _ hp
   ·exact Qu _ (Yk _ hp))) okL
  refine⟨.ref D,_,I4,rfl,q π D Hi _ hπ (x2.trans (Ext.newF x2.s f0)) ⟨x2.h.none f0,x2.s.none f0,_,aQ,yJ π⟩⟩
end
def spR(K:PySem.W.Frag)(mg:Str->Option Value)(kf:List D->Res (List Int)):Sp:=fun vs H Q _=>vs.length=1/\∃ Bi ds,TB K mg Bi H/\Same Bi H/\IsDs K Bi vs ds/\match kf ds with
 | .ok kz=>∀ π a Hi' H',gI kz π->Ext Bi H Hi' H'->zHY K H Hi' H' a (kQ π)->Q (.ref a) H'
 | _=>False
structure CanR (P:Program) (w:World) (K:PySem.W.Frag) (mg:Str->Option Value) (base:Heap) (k:Nat) (kf:List D->Res (List Int)):Prop where
 ex:∃ f fd,FnOk P w K mg base (CX1 P w) k f fd ["some"] (spR K mg kf)/\zE K fd ["some"] []/\PySem.W.keepIn K (.ref f)=true/\mg "ranked" = some (.ref f)
theorem CanR.mono{P:Program}{w:World}{K:Fg_}{mg:Str->Option Value}{base:Heap}{j k:Nat}{kf:List D->Res (List Int)}(c:CanR P w K mg base j kf)(h:j<=k):CanR P w K mg base k kf:=by
 obtain⟨f,fd,F,r⟩:=c.ex;exact⟨⟨f,fd,F.mono h,r⟩⟩
structure RankDef (st:Stmt):Prop where
 k0:(aE st).names.lookup ("some" : Str)=some .cell
 k1:(aE st).names.lookup ("bottom" : Str)=some .cell
 gS:(aE st).names.lookup ("sorted" : Str)=some .globalImplicit
 gR:(aE st).names.lookup ("range" : Str)=some .globalImplicit
 gL:(aE st).names.lookup ("len" : Str)=some .globalImplicit
 clo:∀ L f cdv,∃ cs cb,closureFor jQ (envOfC "ranked" (aE st) L f cdv)=pure [(("some" : Str),cs),(("bottom" : Str),cb)]/\(envOfC "ranked" (aE st) L f cdv).cells.lookup ("some" : Str)=some cs/\(envOfC "ranked" (aE st) L f cdv).cells.lookup ("bottom" : Str)=some cb
section
variable{P:Program}{w:World}{K:Fg_}{mg:Str->Option Value}{base:Heap}{st s1 s2:Stmt}{f:Addr}{fd:FuncData}{k:Nat}{sa sb:Sv}{p1 p2 p3 p4 p5 p6 p7 p8 p9 pa pb pc pd pe pf pg ph pi pj pk pl pm pn po:Pos}
theorem zJc{T:Addr}(F:Fn K mg "ranked" st ["some"] f fd)(S:FnScope ["some","bottom","each"] ["some"] (aE st))(D:RankDef st)(hT:nN K mg T)(hB:BMn base mg)(mS:mg "sorted" = none)(mR:mg "range" = none)(mL:mg "len" = none)
  (hbody:eA st=[s1,s2,.Return (some (.Call (.Name "sorted" pk) [.Call (.Name "range" p1) [.Call (.Name "len" p2) [.Name "some" p3] [] p4] [] p5] [⟨some "key", .Lambda (zAV p6) (.BinOp (.Subscript (.Subscript (.Name "some" p7) (.Name "spot" p8) p9) (.Constant (.int 0) 0 pa) pb) .Mult
   (.BinOp (.Name "bottom" pc) .FloorDiv (.Subscript (.Subscript (.Name "some" pd) (.Name "spot" pe) pf) (.Constant (.int 1) 0 pg) ph) pi) pj) jQ pl,pm⟩] pn)) po])
  (h:∀(cdv:Value)(A:Around)(outer:List Env)(s:Shared)(H:Hp)(E:XK)(G:Gx),Good (BX P w K mg base ["some","bottom","each"] "ranked" st f cdv A outer s H E) G k->zDo (BX P w K mg base ["some","bottom","each"] "ranked" st f cdv A outer s H E) G->
   PSd (BX P w K mg base ["some","bottom","each"] "ranked" st f cdv A outer s H E) G s1 sa/\PSd (BX P w K mg base ["some","bottom","each"] "ranked" st f cdv A outer s H E) G s2 sb):
  CanR P w K mg base (k+1) (xY sa sb):=by
 refine⟨f,fd,?_,F.bd,F.kp,F.mg⟩
 obtain⟨f',oc',od',fd',osl',c,t1,t2,t3,t4⟩:=id hT;have ef:f'=f:=by have:=t1.symm.trans F.mg;exact Value.ref.inj (Vc this)
 subst ef;obtain⟨oc,od,kV,doc,pm',an,cdv,ct,osl,rfl,lk,hcd⟩:=F.fn.ex
 have efd:cdv=.ref c:=by
  rw[lk] at t2;cases t2;exact t3
 subst efd;refine zMc lk hcd S (fun vs H Q E h=>h.1) fun A outer s H vs Q E hr hsp=>?_
 obtain⟨hl,Bi,ds,tb,sm,hd,hq⟩:=hsp;have hg:=zFf (P:=P) (w:=w) (K:=K) (mg:=mg) (base:=base) (N:=["some","bottom","each"]) (outer:=outer) (H:=H) (Bi:=Bi) (E:=E) hr tb;obtain⟨h1,h2⟩:=h (.ref c) A outer s H E _ hg zCF
 have RC:RankCx (BX P w K mg base ["some","bottom","each"] "ranked" st f' (.ref c) A outer s H E) T c:=
  ⟨rfl,hr.depth,rfl,rfl,D.k0,D.k1,rfl,t4,by show(("ranked" : Str) ++ ".<locals>.") ++ "<lambda>" = qP;decide +kernel,hB,D.clo _ _ _,D.gS,mS,D.gR,mR,D.gL,mL⟩
 have body:∀ G,PSs (BX P w K mg base ["some","bottom","each"] "ranked" st f' (.ref c) A outer s H E) [s1] (tS (BX P w K mg base ["some","bottom","each"] "ranked" st f' (.ref c) A outer s H E) G sa)->PS (BX P w K mg base ["some","bottom","each"] "ranked" st f' (.ref c) A outer s H E) s1 (tS (BX P w K mg base ["some","bottom","each"] "ranked" st f' (.ref c) A outer s H E) G sa)->PS (BX P w K mg base ["some","bottom","each"] "ranked" st f' (.ref c) A outer s H E) s2 (tS (BX P w K mg base ["some","bottom","each"] "ranked" st f' (.ref c) A outer s H E) G sb)->
   PSs (BX P w K mg base ["some","bottom","each"] "ranked" st f' (.ref c) A outer s H E) (eA st) (zOA (tS (BX P w K mg base ["some","bottom","each"] "ranked" st f' (.ref c) A outer s H E) G sa) (zOA (tS (BX P w K mg base ["some","bottom","each"] "ranked" st f' (.ref c) A outer s H E) G sb) (zOS (zKW (BX P w K mg base ["some","bottom","each"] "ranked" st f' (.ref c) A outer s H E) T)))):=fun G _ h1 h2=>by
  rw[hbody];exact rD h1 (rD h2 (zBZ (zCE (zJn RC))))
 refine⟨_,body _ (zBZ h1) h1 h2,?_⟩
 cases ek:xY sa sb ds with
 | no=>rw[ek] at hq;exact hq.elim
 | err c=>rw[ek] at hq;exact hq.elim
 | ok kz=>
  rw[ek] at hq;unfold xY at ek;split at ek
  case isFalse=>cases ek
  split at ek
  case h_2=>cases ek
  rename_i ρ1 e1
  split at ek
  case h_2=>cases ek
  rename_i ρ2 e2
  refine⟨L3.start 3 ds,Bi,zAq (N:=["some","bottom","each"]) sm hd,?_⟩
  rw[e1];intro σ1 Hi1 H1 sm1 R1;refine⟨ρ1,Hi1,R1,?_⟩
  rw[e2];intro σ2 Hi2 H2 sm2 R2;unfold zCV at ek;split at ek
  case h_2=>cases ek
  rename_i rows b z0 z1
  split at ek
  case isFalse=>cases ek
  rename_i h64
  obtain⟨v,q0,r0⟩:=R2.slot 0 _ z0;obtain⟨v1,q1,r1⟩:=R2.slot 1 _ z1;obtain⟨a,xs,rfl,g1,g2⟩:=r0.lstI;have r1':=r1.intI;subst r1';obtain⟨tb2,n2⟩:=hg.tb.ext R2.ext T hT;exact⟨Hi2,a,xs,rows,b,kz,q0,q1,.inl g1,g2,R2.s,ek,by rw[(yC ek).1];exact h64,tb2,n2,fun π r Hi' H' hπ x nl=>hq π r Hi' H' hπ (R2.ext.trans x) ⟨R2.ext.h.none nl.1,nl.2⟩⟩
end
section
variable{X:Cx}{G:Gx}{e:Expr}{es:List Expr}{pos p:Pos}{fs:Fv}{k:Nat}{kf:List D->Res (List Int)}{tg:Expr}{body rest:List Stmt}{g:Gv}{sa sb:Sv}
def tIr(X:Cx)(G:Gx)(fs:Fv)(kf:List D->Res (List Int)):TI:=fun σ H R=>∃ ρ Hi,jG X G Hi H σ ρ/\Out G Hi H ((fs ρ).bind kf) fun kz Hi' H'=>∀ π J,gI kz π->uQ X.K Hi' J (kQ π)->R J H'
theorem zJt(W:Good X G k)(c:CanR X.prog X.w X.K X.mg X.base k kf)(hkf:∀ ds c,kf ds≠.err c)(hk1:∀ ds,kf ds≠.no->ds.length=1)(hg:Gl X "ranked")(ha:PAd X G [e] fs)(he:starEach [e] X.env=(false,eval e X.env)::starEach [] X.env:=by rfl):
  PI X tg (.Call (.Name "ranked" p) [e] [] pos) (tIr X G fs kf):=by
 obtain⟨f,fd,F,b,kp,hm⟩:=c.ex;refine PI.wk (zJR (zBH F W.room hg hm kp b .nil W.pass ha (by decide) he rfl)) fun σ H R q=>?_
 obtain⟨ρ,Hi,Rl,ou⟩:=q;refine zGN Rl ou fun vs ds Hi1 H1 e1 R1 r1 o1=>?_
 rw[Vr];have hno:kf ds≠.no:=fun z=>by rw[z] at o1;exact o1
 refine⟨by rw[r1.length];exact hk1 ds hno,Hi1,ds,W.tb.ext R1.ext,R1.s,r1,?_⟩
 cases z:kf ds with
 | no=>exact absurd z hno
 | err c=>exact absurd z (hkf ds c)
 | ok kz=>
  rw[z] at o1;intro π a Hi2 H2 hπ e2 n;obtain⟨n1,n2,xs,n3,n4⟩:=n;have x3:=e2.hold n1 n3 n2;refine⟨a,rfl,⟨xs,SqL.of n3⟩,o1 _ _ x3 π _ hπ (zU (SqL.of aQ) (n4.mono (bU n2 _)))⟩
theorem zJK(W:Good X G k)(c:CanR X.prog X.w X.K X.mg X.base k kf)(hkf:∀ ds c,kf ds≠.err c)(hk1:∀ ds,kf ds≠.no->ds.length=1)(hg:Gl X "ranked")(ha:PAd X G [e] fs)(hgt:PGd X G tg g)(hge:∀ d ρ c,g d ρ≠.err c)(hb:dF X G body sa)(hr:dF X G rest sb)
  (he:starEach [e] X.env=(false,eval e X.env)::starEach [] X.env:=by rfl) {pf:Pos} (hs:∀ x,foldedSetIterable (.Call (.Name "ranked" p) [e] [] pos) X.env x=pure x:=by intro _;rfl):
  dF X G (.For tg (.Call (.Name "ranked" p) [e] [] pos) body [] pf::rest) (zHg fs kf g sa sb):=by
 refine PSs.wk (rD (zIq W.own W.calm (zJt W c hkf hk1 hg ha he) hgt hb hs) hr) fun E σ H q=>?_
 obtain⟨ρ,Hi,R,h⟩:=q;refine⟨ρ,Hi,R,kH R h fun kz Hi1 H1 _ e1 h1 π J hπ gv=>?_⟩
 have hn:mW kz (fun π=>bB (fun ρ=>loop g sa (kQ π) ρ) sb ρ)≠.no:=fun z=>by rw[z] at h1;exact h1
 rw[<-zDF hn hπ] at h1;exact zIP hge (R.grow e1) (zLq (sa:=fun ρ=>loop g sa (kQ π) ρ) h1) gv
end
def zNk(K:PySem.W.Frag)(mg:Str->Option Value):Sp:=fun vs H Q _=>∃(a:Addr)(ns:List Int)(Bi:Hp),vs=[.ref a]/\TB K mg Bi H/\Same Bi H/\SqL K Bi a (ns.map V.int)/\ns.length<=63/\(∃ m,m<=1048576/\∀ n∈ns,n.natAbs<2^m)/\∀ H',Q (.bl true) H'
theorem zJi{P:Program}{w:World}{K:Fg_}{mg:Str->Option Value}{base:Heap}{k:Nat}{m:Mir}{f:Addr}{fd:FuncData}(F:FnOk P w K mg base (CX1 P w) k f fd ["script"] (spM K mg 1 m))
  (h:∀ ns:List Int,ns.length<=63->(∃ m,m<=1048576/\∀ n∈ns,n.natAbs<2^m)->m [.lst (ns.map D.int)]=.ok (.v (.bl true))):FnOk P w K mg base (CX1 P w) k f fd ["script"] (zNk K mg):=by
 refine F.imp fun vs H Q E q=>?_
 obtain⟨a,ns,Bi,rfl,tb,sm,hS,hl,hbg,q⟩:=q;refine⟨rfl,Bi,[.lst (ns.map D.int)],tb,sm,.cons (.lst hS (zY ns)) .nil,?_⟩
 rw[h ns hl hbg];intro v Hi' H' e r;rw[r.blI];exact q H'
theorem zJb{P:Program}{w:World}{K:Fg_}{mg:Str->Option Value}{base:Heap}{k:Nat}{m:Mir}{f:Addr}{fd:FuncData}(F:FnOk P w K mg base (CX1 P w) k f fd ["script"] (spM K mg 1 m))
  (h:∀ ns:List Int,ns.length<=63->m [.lst (ns.map D.int)]=.ok (.v (.bl true))):FnOk P w K mg base (CX1 P w) k f fd ["script"] (zNk K mg):=zJi F fun ns hl _=>h ns hl
theorem zGV{K:Fg_}{mg:Str->Option Value}{h:Heap}{T T':Addr}(X:K.In h)(a:nN K mg T)(b:nN K mg T'):T'=T:=by
 obtain⟨f,oc,od,fd,osl,c,a1,a2,a3,a4⟩:=a;obtain⟨f',oc',od',fd',osl',c',b1,b2,b3,b4⟩:=b;rw[a1] at b1;cases b1
 rw[a2] at b2;cases b2
 rw[a3] at b3;cases b3
 obtain⟨o,vs,_,_,_,_,_,_,_,e1,_,e3,e4,_⟩:=a4 h X;obtain⟨o',vs',_,_,_,_,_,_,_,f1,_,f3,f4,_⟩:=b4 h X;rw[e1] at f1;cases f1
 rw[e3] at f3;cases f3
 rw[e4] at f4;cases f4
 rfl
theorem zEQ{P:Program}{w:World}{K:Fg_}{mg mb:Str->Option Value}{CX:CXT}{k:Nat}{fa a T:Addr}{fd:FuncData}{x:Str}{s₁:Shared}{vs:List Value}{ns:List Int}
  (KX:K.In s₁.heap) (hns:s₁.heap.Ns mainGlobals mg) (hb:s₁.heap.Ns builtinsNs mb) (hbb:∀ x:Str,x ≠ "__name__" -> mb x=bootBuiltins x) (hlim:s₁.heap.NoLimit) (hg:s₁.gens=#[]) (hbm:BMn s₁.heap mg) (hT:s₁.heap.get? T=some (tabObj #[])) (hKT:K.lookup T=none) (hP:nN K mg T)
  (ha:s₁.heap.get? a=some { cls:=.type "list", data:=.seq vs.toArray }) (hi:IntsAre vs ns) (hl:ns.length<=63) (hbg:∃ m,m<=1048576/\∀ n∈ns,n.natAbs<2^m) (hr:Room k callerA)
  (F:∀ base:Heap,K.In base->base.Ns mainGlobals mg->BMn base mg->FnOk P w K mg base CX k fa fd [x] (zNk K mg)) (hbind:∀(s:Shared)(u:Value),BindsTo s fd ⟨[u],[]⟩ [(x,u)])
  (hCX:∀ H e s',CX [] H s₁ (fun _ _ _=>False) e s'->False):
  codeAny (model P w) callerA (.call (.ref fa) ⟨[.ref a],[]⟩) (fun r s'=>r=.ok (.ret (.bool true))/\OldK s₁.heap s'.heap/\s'.os=s₁.os/\AllBare s'.gens) s₁:=by
 have rv:=zP hi;have lenV:=hi.length;have haT:a≠T:=fun z=>by rw[z,hT] at ha;cases ha
 have core:∀ Bi:Hp,zPr Bi->SqL K Bi a (ns.map V.int)->HOk P w Bi s₁.heap->(∀ b,Bi b≠none->b=a)->(Bi a≠none->K.lookup a=none)->
   codeAny (model P w) callerA (.call (.ref fa) ⟨[.ref a],[]⟩) (fun r s'=>r=.ok (.ret (.bool true))/\OldK s₁.heap s'.heap/\s'.os=s₁.os/\AllBare s'.gens) s₁:=by
  intro Bi hO hS hokB hA hK
  have hBT:Bi T=none:=by
   cases q:Bi T with
   | none=>rfl
   | some u=>exact absurd (hA T (by rw[q];simp)).symm haT
  generalize hHdef:upd Bi T (.tbl #[])=H;have HT:H T=some (.tbl #[]):=by rw[<-hHdef,aQ]
  have Hne:∀ {b},b≠T->H b=Bi b:=fun z=>by rw[<-hHdef,aT z]
  have sm:Same Bi H:=fun b o e=>by rw[Hne (aV e hBT)];exact e
  have hok:HOk P w H s₁.heap:=fun b u e=>by
   by_cases hb:b=T
   ·subst hb;rw[HT] at e;cases e;exact hT
   ·rw[Hne hb] at e
    exact(hokB b u e).stay (fun c v _ q=>q) (fun c q=>sm _ _ q) fun c xs q=>sm _ _ q
  have only:∀ {b:Addr} {o:Obj},s₁.heap.get? b=some o->(∀ xs n,o.data≠.seq xs n)->(∀ vs,o.data≠.fields vs)->H b=none:=fun {b o} e d1 d2=>by
   by_cases hb:b=T
   ·subst hb;rw[hT] at e;cases e;exact absurd rfl (d2 #[])
   ·rw[Hne hb]
    cases q:Bi b with
    | none=>rfl
    | some u=>
     have e':b=a:=hA b (by rw[q];simp)
     subst e';rw[ha] at e;cases e
     exact absurd rfl (d1 _ _)
  have base_of:∀ {b:Addr} {o:Obj},s₁.heap.get? b=some o->H b=none->(zGO s₁.heap H).get? b=some o:=fun e n=>zHr e n
  have nsK:∀ {b:Addr} {m:Str->Option Value},s₁.heap.Ns b m->(zGO s₁.heap H).Ns b m:=fun {b m} ⟨o,es,ep,e,d,r⟩=>⟨o,es,ep,base_of e (only e (fun xs n z=>by rw[d] at z;cases z) (fun vs z=>by rw[d] at z;cases z)),d,r⟩
  have hKb:K.In (zGO s₁.heap H):=fun b o e=>base_of (KX b o e) (by
   by_cases hb:b=T
   ·subst hb;rw[hKT] at e;cases e
   ·rw[Hne hb]
    cases q:Bi b with
    | none=>rfl
    | some u=>
     have e':b=a:=hA b (by rw[q];simp)
     subst e'
     rw[hK (by rw[q];simp)] at e;cases e)
  have hBb:BMn (zGO s₁.heap H) mg:=by
   obtain⟨bm,ob,b1,b2,b3,b4,b5,b6⟩:=hbm;exact⟨bm,ob,b1,b2,base_of b3 (only b3 (fun xs n z=>by rw[b6] at z;cases z) (fun vs z=>by rw[b6] at z;cases z)),b4,b5,b6⟩
  have hM:Mod K mg (zGO s₁.heap H):=⟨hKb,nsK hns,⟨mb,nsK hb,hbb⟩,let ⟨mc,h1,h2⟩:=hlim;⟨mc,nsK h1,h2⟩⟩;have e0:Env0 P w K mg (zGO s₁.heap H) callerA [] s₁ H:=⟨rfl,hM,fun b o e=>zKy e,Xw (zEi _ _),trivial,fun b hb=>absurd (show b∈([]:List Addr) from hb) (by simp),hok,.of_eq hg⟩
  have htb:TB K mg Bi H:=fun T' h'=>by
   have e':=zGV KX hP h';subst e';exact⟨⟨#[],HT,trivial,fun pos cv z=>by cases z⟩,hBT⟩
  refine codeAny_mono ((F _ hKb (nsK hns) hBb).run callerA [] s₁ H ⟨[.ref a],[]⟩ [.ref a] [.ref a] (fun v _=>v=.bl true) (fun _ _ _=>False) hr e0 (hbind s₁ (.ref a)) (.cons rfl .nil) ⟨a,ns,Bi,rfl,htb,sm,hS,hl,hbg,fun _=>rfl⟩) fun r s' h=>?_
  cases r with
  | error e=>exact(hCX H e s' h).elim
  | ok fl=>
   cases fl with
   | next=>exact False.elim h
   | brk=>exact False.elim h
   | cont=>exact False.elim h
   | ret u=>
    obtain⟨v,H',os,bare,un,hok',r',q⟩:=h;have q':v=.bl true:=q;subst q';obtain rfl:u=Value.bool true:=r';refine⟨rfl,⟨fun b o e=>?_,fun b o e=>un.there b o e (by simp)⟩,os,bare⟩
    by_cases hbT:b=T
    ·subst hbT
     obtain⟨more,z⟩:=un.tbls b _ HT;have z2:s'.heap.get? b=some { cls:=.none,data:=.fields (#[]++more) }:=hok' b _ z;rw[hT] at e;cases e
     obtain⟨f,oc,od,fd',osl,c,a1,a2,a3,a4⟩:=hP;obtain⟨o,vs,_,_,_,_,_,_,_,e1,e2,e3,e4,_⟩:=a4 _ KX;exact .inr (.inl ⟨⟨c,o,vs,e1,e2,e3,e4⟩,rfl,#[],more,rfl,z2⟩)
    ·refine .inl ?_
     cases q:H b with
     | none=>exact un.keep b o e q (by intro z;exact absurd (show b∈([]:List Addr) from z) (by simp)) (by simp)
     | some u=>
      rw[Hne hbT] at q;rcases hO b with z | ⟨ob,xs,z⟩
      ·rw[q] at z;cases z
      ·have z2:=un.frzs b ob _ (by rw[Hne hbT];exact z)
       obtain⟨e1,_⟩:=hokB b _ z;obtain⟨e2,_⟩:=hok' b _ z2;rw[e] at e1;cases e1
       exact e2
 cases hk:K.lookup a with
 | some o=>
  have e:=KX a o hk;rw[ha] at e;cases e;refine core (fun _=>none) (fun _=>.inl rfl) (.inr ⟨_,vs.toArray,_,hk,rfl,rfl,rfl,by rw[Qf,lenV,sizeLine_eq];omega,by simpa using rv⟩) (fun b u z=>by have z':(none:Option HO)=some u:=z;cases z') (fun b z=>absurd rfl z) fun z=>absurd rfl z
 | none=>
  refine core (fun b=>if b=a then some (.frz { cls:=.type "list", data:=.seq vs.toArray } (.lst (ns.map V.int))) else none) (fun b=>?_) (.inl (.inr ⟨{ cls:=.type "list", data:=.seq vs.toArray },if_pos rfl⟩)) (fun b u z=>?_) (fun b z=>?_) fun _=>hk
  ·by_cases hb:b=a
   ·exact .inr ⟨_,_,if_pos hb⟩
   ·exact .inl (if_neg hb)
  ·by_cases hb:b=a
   ·have z':=(if_pos hb).symm.trans z
    cases z'
    subst hb;exact⟨ha,by rw[Qh,sizeLine_eq];omega,vs,_,rv,ha⟩
   ·have z':=(if_neg hb).symm.trans z
    cases z'
  ·by_cases hb:b=a
   ·exact hb
   ·exact absurd (if_neg hb) z
theorem zIt:∀ {ns:List Int} {n:Int},n∈ns->(WData.int n).weight<=WData.weightAll (ns.map WData.int)
 | a::r,n,h=>by
  rw[Qi,WData.weightAll];rcases Qc.mp h with rfl | h
  ·omega
  ·have:=zIt h
   omega
theorem zJx{ns:List Int}(h:WData.layableAll [WData.list (ns.map WData.int)]=true):(∃ m,m<=1048576/\∀ n∈ns,n.natAbs<2^m):=by
 refine⟨1048576,Qb _,fun n hn=>?_⟩
 have w:WData.weightAll (ns.map WData.int)<=2^20:=by
  unfold WData.layableAll WData.layable at h;simp only[List.all_cons,List.all_nil,U3,Vg,decide_eq_true_eq] at h;have:=h.2
  rw[WData.weight] at this;exact this
 have a:=zIt hn;rw[WData.weight] at a;by_cases z:n=0
 ·subst z
  exact Nat.two_pow_pos _
 ·rw[if_neg (by simpa using z)] at a
  exact Ql Nat.lt_log2_self (Vo (by decide) (by omega))
open PySem.Calls in
theorem zAR{l:OpenLaw}{n:Nat}{q:Program}{loose:List Str}{XP:(Str->Option Value)->Heap->Prop}{YP:World->Heap->Prop}{d:DefRec}
  (hn:l.most=some n) (hdf:d.params.defaults=[])
  (call:∀(w:World)(s₀ s₁:Shared)(mg mb:Str->Option Value)(fa:Addr)(o:Obj)(pm cd doc:Value)(a:Addr)(vs:List Value)(ns:List Int),(∃ m,m<=1048576/\∀ n∈ns,n.natAbs<2^m)->
   Ground q loose [] XP w s₀ mg mb s₁.heap->YP w s₁.heap->
   s₁.heap.get? fa=some o->o.data=.func (docDef d.name d.params d.body d.scope pm cd doc)->s₁.heap.CodeRec cd d.name->mg d.name=some (.ref fa)->
   s₁.heap.get? a=some { cls:=.type "list", data:=.seq vs.toArray }->IntsAre vs ns->ns.length<=n->s₁.gens=#[]->
   codeAny (model l.prog w) callerA (.call (.ref fa) ⟨[.ref a],[]⟩) (fun r s'=>r=.ok (.ret (.bool true))/\OldK s₁.heap s'.heap/\s'.os=s₁.os/\AllBare s'.gens) s₁):
  WalkO q loose XP YP l.row.toRowW d [] (fun f vs=>PySem.call f vs):=by
 intro w s₀ s₁ mg mb G Y fa o pm cd doc dV kV ho hd hcd hD hmg hg args vals as hpre hlay hrd hwl hlo;obtain rfl:dV=.none:=Dflts.none hD hdf;obtain rfl:kV=.none:=Dflts.noKw hD;obtain⟨a,vs,ns,rfl,rfl,hobj,hints,hlen⟩:=Att.script_of hn hpre hwl;refine enter_call (codeAny_mono (call w s₀ s₁ mg mb fa o pm cd doc a vs ns (zJx hlay) G Y ho (fd_plain hd) hcd hmg hobj hints hlen hg) fun r s' hq=>?_)
 obtain⟨rfl,h2,h3,h4⟩:=hq;exact⟨.inl ⟨.bool true,.bool true,[],rfl,fun _=>rfl,.bool true,Att.post_true l _,fun _=>⟨List.Pairwise.nil,fun _ hm=>(nomatch hm)⟩⟩,h2,h3,h4⟩
theorem zOe{l:PySem.W.OpenLaw}{k:Nat}{q:Program}{loose:List Str}{XP:(Str->Option Value)->Heap->Prop}{YP:World->Heap->Prop}{d:DefRec}{K:Params->PySem.W.Frag}{T:Addr}(hn:l.most=some 63)(hdf:d.params.defaults=[])(hr:Room k callerA)
  (hY:∀(w:World)(h:Heap),YP w h->(K w.params).In h) (hT:∀(w:World)(h:Heap),YP w h->h.get? T=some (tabObj #[]))
  (F:∀(w:World)(mg:Str->Option Value)(fa:Addr)(h:Heap),(K w.params).In h->h.Ns mainGlobals mg->mg d.name=some (.ref fa)->
   (K w.params).lookup T=none/\nN (K w.params) mg T/\∃ fd:FuncData,(∀(s:Shared)(u:Value),BindsTo s fd ⟨[u],[]⟩ [("script", u)])/\∀ base:Heap,(K w.params).In base->base.Ns mainGlobals mg->BMn base mg->FnOk l.prog w (K w.params) mg base (CX1 l.prog w) k fa fd ["script"] (zNk (K w.params) mg)):
  PySem.W.WalkO q loose XP YP l.row.toRowW d [] (fun f vs=>PySem.call f vs):=by
 refine zAR hn hdf fun w s₀ s₁ mg mb fa o pm cd doc a vs ns hbg G Y ho hd hcd hmg hobj hints hlen hg=>?_
 have KX:=hY w _ Y;obtain⟨h1,h2,fd,hb,hF⟩:=F w mg fa _ KX G.T.g hmg
 exact zEQ KX G.T.g G.T.b G.T.builtins G.T.nolimit hg G.T.bmain (hT w _ Y) h1 h2 hobj hints hlen hbg hr hF hb fun _ _ _ z=>by
  obtain⟨_,_,_,_,_,z⟩:=z;exact z
section
variable{X:Cx}{G:Gx}{pins:List (Addr×Obj)}{σ:St}{H Hi:Hp}{s:Shared}{ρ:Rho}{i k:Nat}{st:Stmt}{sa:Sv}
end
section
variable{X:Cx}{G:Gx}{e a:Expr}{f g:Ev}{pos:Pos}
end
section
variable{X:Cx}{G:Gx}{st:Stmt}{rest:List Stmt}{sa sb:Sv}{u:TS}
end
section
variable{P:Program}{w:World}{K:Fg_}{mg:Str->Option Value}{base:Heap}{N ps:List Str}{x:Str}{st:Stmt}{f:Addr}{fd:FuncData}{k i0 i1 i2:Nat}{sv:Sv}
end
section
variable{X:Cx}{G:Gx}{e:Expr}{es:List Expr}{pos p:Pos}{fs:Fv}{k j0 j1 j2:Nat}{kf:List D->Res Tri}{x:Str}{ps:List Str}{tg:Expr}
end
section
variable{X:Cx}{G:Gx}{fs:Fv}{f:Ev}
end
section
variable{prog:Program}{w:World}{A:Around}{E:Value->Shared->Prop}{s:Shared}
end
section
variable{X:Cx}{G:Gx}{f:Ev}
end
section
variable{X:Cx}{G:Gx}{it:Fv}{t:Tv}
end
section
variable{X:Cx}{G:Gx}
theorem bC{i:Int}{j pos}:PEd X G (.Constant (.int i) j pos) (eC (.int i)):=sP zEY fun _=>.int _
theorem aK(i:Nat){x:Str}{pos:Pos}(hN:X.N[i]?=some x:=by rfl)(hv:Vis X.env.scope x:=by first | exact Or.inl rfl | exact Or.inr (Or.inl rfl) | exact Or.inr (Or.inr rfl))(hd:(x==("__debug__" : Str))=false:=by decide)
  (hcd:(x==("__classdict__" : Str))=false:=by decide):PEd X G (.Name x pos) (aD i):=zMC i (pv i hN hv hd hcd)
theorem fY(n:Nat){x:Str}{pos p2:Pos}{i:Int}{j p1}(hN:X.N[n]?=some x:=by rfl)(hv:Vis X.env.scope x:=by first | exact Or.inl rfl | exact Or.inr (Or.inl rfl) | exact Or.inr (Or.inr rfl))(hd:(x==("__debug__" : Str))=false:=by decide)
  (hcd:(x==("__classdict__" : Str))=false:=by decide):PEd X G (.Subscript (.Name x pos) (.Constant (.int i) j p1) p2) (eOp oIx (aD n) (eC (.int i))):=zD fW zIC (aK n hN hv hd hcd) bC (fun _ _=>rfl)
end
section
variable{X:Cx}{G:Gx}{it:Fv}{t:Tv}
end
section
variable{X:Cx}{G:Gx}{a:Expr}{f:Ev}
theorem zPa{i:Int}{j p1 p2}(h:PEd X G a f):PEd X G (.Subscript a (.Constant (.int i) j p1) p2) (eOp oIx f (eC (.int i))):=zD fW zIC h bC (fun _ _=>rfl)
theorem uF(h:PEd X G a f)(n:Nat){x:Str}{pos p2:Pos}(hN:X.N[n]?=some x:=by rfl)(hv:Vis X.env.scope x:=by first | exact Or.inl rfl | exact Or.inr (Or.inl rfl) | exact Or.inr (Or.inr rfl))(hd:(x==("__debug__" : Str))=false:=by decide)
  (hcd:(x==("__classdict__" : Str))=false:=by decide):PEd X G (.Subscript a (.Name x pos) p2) (eOp oIx f (aD n)):=zD fW zIC h (aK n hN hv hd hcd) (fun _ _=>rfl)
theorem bL(n:Nat){x:Str}{pos:Pos}(hN:X.N[n]?=some x:=by rfl)(hv:Vis X.env.scope x:=by first | exact Or.inl rfl | exact Or.inr (Or.inl rfl) | exact Or.inr (Or.inr rfl))(hd:(x==("__debug__" : Str))=false:=by decide)
  (hcd:(x==("__classdict__" : Str))=false:=by decide):PAd X G [.Name x pos] (aB (aD n) aNil):=aA (aK n hN hv hd hcd) aI aH
theorem s_z(i:Nat){x:Str}{pos pos':Pos}(hN:X.N.Nodup)(he:PEd X G a f)(hi:X.N[i]?=some x:=by rfl)(hx:Loc X.env.scope x:=by first | exact Or.inl rfl | exact Or.inr rfl)(hs:swapsWith a (some (.Name x pos')) pos.line X.env=pure false:=by rfl)
  (hf:X.fn x=true∨X.env.scope.names.lookup x=some .local:=by first | exact .inl rfl | exact .inr rfl | assumption):PSd X G (.Assign [.Name x pos'] a pos) (cQ i f):=zOx hN hi hx he hs hf
theorem g_z(i:Nat){x:Str}{pos:Pos}(hN:X.N.Nodup)(hi:X.N[i]?=some x:=by rfl)(hx:Loc X.env.scope x:=by first | exact Or.inl rfl | exact Or.inr rfl)(hf:X.fn x=true∨X.env.scope.names.lookup x=some .local:=by first | exact .inl rfl | exact .inr rfl | assumption):PGd X G (.Name x pos) (gName i):=zMD hN hi hx hf
theorem zDR{s j p}:PAd X G [.Constant (.str s) j p] (aB (eC (.str s)) aNil):=aA (sP iA fun _=>.str _) aI cE
end
section
variable{P:Program}{w:World}{K:Fg_}{mg:Str->Option Value}{base:Heap}{k:Nat}{x:Str}{st:Stmt}{ps N:List Str}{f:Addr}{fd:FuncData}{b:Sv}
theorem fM(F:Fn K mg x st ps f fd)(S:FnScope N ps (aE st))
  (h:∀ {cdv:Value} {A:Around} {outer:List Env} {s:Shared} {H:Hp} {E:XK} {G:Gx},Good (BX P w K mg base N x st f cdv A outer s H E) G k->zDo (BX P w K mg base N x st f cdv A outer s H E) G->dF (BX P w K mg base N x st f cdv A outer s H E) G (eA st) b):
  CanM P w K mg base (k+1) x ps (fn ps.length N.length b):=nF F S fun _ _ _ _ _ _ _ W R=>h W R
end
section
variable{X:Cx}{G:Gx}{e:Expr}{es:List Expr}{pos p:Pos}{fs:Fv}{k:Nat}{x:Str}{ps:List Str}{m:Mir}
end
section
variable{X:Cx}{G:Gx}{a c:Expr}{f:Ev}{pos:Pos}
end
section
variable{X:Cx}{G:Gx}{e:Expr}{pos p:Pos}{fs:Fv}{k:Nat}{kf:List D->Res (List Int)}
end
section
variable{X:Cx}{G:Gx}{e o k:Expr}{f fk:Ev}{pos tpos:Pos}
end
section
variable{X:Cx}{G:Gx}{e:Expr}{fs:Fv}
end
section
variable{X:Cx}
end
end L3
namespace L3
open PySem PySem.Spec PyProof.Rows L2
section
variable{prog:Program}{w:World}{A:Around}{E:Value->Shared->Prop}{s:Shared}
end
section
variable{prog:Program}{w:World}{A:Around}{E:Value->Shared->Prop}{s:Shared}
end
section
unseal PEd PEf PTd PWd PAd PSd dF POd PGd fT PId PSx iV PTs PCd PCf
variable{X:Cx}{G:Gx}{fs:Fv}{f:Ev}
end
end L3
namespace L3
open PySem PySem.Spec PyProof.Rows L2 PySem.W
unseal PEd PEf PTd PWd PAd PSd dF POd PGd fT PId PSx iV
section
variable{X:Cx}{G:Gx}{k:Nat}{fb fh:Sv}{body suite:List Stmt}{b₀:Stmt}{ce:Str}{np hpos pos:Pos}
theorem Good.nox(W:Good X G k):Good X.nox (G0 G) k:=⟨W.calm,W.room,fun _ _ _ _ _ _ _ h=>by
 obtain⟨_,_,_,_,_,_,_,h⟩:=h
 exact h.elim,PassesOwn.never,W.tb⟩
theorem zMv(W:Good X G k)(O:Own X)(hT:Cat X.K X.mg ce ce)(hg:Gl X ce)
  (hb:iV X G body fb) (hh:∀ ea,GoodH (lY X ea)->dF (lY X ea) (G0 G) (b₀::suite) fh) (hd:(ce==("__debug__" : Str))=false:=by decide):
  PSd X G (.Try body [.ExceptHandler (some (.Name ce np)) none (b₀::suite) hpos] [] [] pos) (zFT ce fb fh):=by
 intro pins s σ H E I q;obtain⟨ρ,Hi,R,h⟩:=q;unfold zFT at h;have hno:fb ρ≠.no:=fun z=>by rw[z] at h;exact h
 refine wpAny_Try_except ?_
 refine wpAny_mono (hb pins s σ H E ρ Hi _ I R hno ?_ ?_) (fun f s1 q=>?_) fun _ _ z=>z
 ·cases z:fb ρ with
  | no=>exact absurd z hno
  | err c=>trivial
  | ok f=>rw[z] at h;exact h
 ·rintro c ev s' z ⟨s1,H1,ea,cls,Hi',H',rfl,I1,hc,F,e1,sm⟩
  rw[z] at h
  have h2:Fin X G Hi E (if (c==ce)=true then zKP (fh ρ) else .no):=by
   have e:(if (c==ce)=true then zKP (fh ρ) else .no)=(if (c==ce)=true then (match fh ρ with
    | .ok (.ret r)=>Res.ok (Fl.ret r)
    | _=>.no) else .no):=by congr 1
   rw[e];exact h
  clear h;by_cases htb:(c==ce)=true
  ·rw[if_pos htb] at h2
   have hcc:c=ce:=eq_of_beq htb;subst hcc;obtain⟨C,CE,m1,m2,T1,T2,T3⟩:=hT;rw[m1] at hc;cases hc;obtain⟨B,a0,hf,cov⟩:=F.fly;have hst:X.stack=X.env::X.outer:=O.stk;have hfr:X.A.frames=some (X.env::X.outer):=by rw[I1.ok.frames,hst]
   have hf1:=hf;rw[hst] at hf1;refine wpAny_looks_onW hfr O.fr hf1 fun h4 held4 up4=>?_
   refine wpAny_landsW held4 fun h5 fly5 up5=>?_
   have up5':=up4.trans up5;have fly5':Heap.FlyingW B X.stack ea (.ref C) a0 h5:=by rw[hst];exact fly5
   have I5:=Fly.stay I1 F hf cov fly5' up5' (t':=s'.toks);have tyAt:∀ {h6:Heap},Heap.FlyingW B X.stack ea (.ref C) a0 h6->zNF ea C h6:=fun z=>z.there
   refine wpAny_handleBy_cons (codeAny_handlers_test (tG (X:=lY X ea) (I5.clause ea) hg m2 ?_ hd)) (by intro q;cases q)
   refine zGJ T2 T3 I5.kIn (tyAt fly5') ?_
   refine codeAny_handlers_suite ?_
   refine lands_againW fly5' fun h6 fly6 up6=>?_
   have I6:=Fly.stay I1 F hf cov fly6 (up5'.trans up6) (t':=s'.toks);have R7:=R.grow e1;have WH:GoodH (lY X ea):=⟨W.u⟩
   have hfin:∃ r,fh ρ=.ok (.ret r)/\Fin X G Hi E (.ok (.ret r)):=by
    cases zz:fh ρ with
    | no=>rw[zz] at h2;exact h2.elim
    | err c'=>rw[zz] at h2;exact h2.elim
    | ok fl=>
     rw[zz] at h2
     cases fl with
     | nx ρ'=>exact h2.elim
     | brk ρ'=>exact h2.elim
     | ctn ρ'=>exact h2.elim
     | ret r=>exact⟨r,rfl,h2⟩
   obtain⟨r,zf,hend⟩:=hfin
   have hE:=hh ea WH pins _ σ _ { nx:=fun _ _=>False,rt:=E.rt } (I6.clause ea) ⟨ρ,Hi',R7,by
    rw[zf]
    cases r with
    | v d=>exact hend
    | f ds=>exact hend⟩
   refine wpAny_mono hE (fun fl s8 q=>?_) fun _ _ z=>False.elim z
   cases fl with
   | next=>obtain⟨_,_,_,q⟩:=q;exact q.elim
   | ret v=>
    obtain⟨v',σ2,H2,I9,r9,q⟩:=q;exact⟨v',σ2,H2,Inv.unclause I.ok I9,r9,q⟩
   | brk=>obtain⟨_,_,_,q⟩:=q;exact q.elim
   | cont=>obtain⟨_,_,_,q⟩:=q;exact q.elim
  ·rw[if_neg htb] at h2;exact h2.elim
 ·cases f with
  | next=>exact wpAny_execs_nil q
  | ret v=>exact q
  | brk=>exact q
  | cont=>exact q
end
end L3
namespace L3
open PySem PySem.Spec PyProof.Rows L2 PySem.W
unseal PEd PEf PTd PWd PAd PSd dF POd PGd fT PId PSx iV PTs PCd PCf
section
variable{X:Cx}{G:Gx}{fa fb fm:Ev}{pos:Pos}
theorem zLU{i:Nat}{o o2 z0 ea eb em:Expr}{apos cpos apos2 cpos2 p1 p2 p3:Pos}(ho:PE X o (zAY i))(ho2:PE X o2 (zAY i))(hz:PEd X G z0 (eC (.int 0)))(ha:PEd X G ea fa)(hb:PEd X G eb fb)(hm:PEd X G em fm)
  (hbase:attributeBase o "append" X.env (eval o X.env)=eval o X.env:=by rfl)
  (hfew:((backTo cpos (starEach [.BinOp (.BinOp (.BinOp (.Call (.Attribute o2 "pop" apos2) [z0] [] cpos2) .Mult ea p1) .Add eb p2) .Mod em p3] X.env)).all (fun x=>!x.1) && (backToKw cpos (keywordEach [] X.env)).all (fun x=>x.1.isSome)
   && decide ([(.BinOp (.BinOp (.BinOp (.Call (.Attribute o2 "pop" apos2) [z0] [] cpos2) .Mult ea p1) .Add eb p2) .Mod em p3:Expr)].length+([]:List Keyword).length+(if ([]:List Keyword).isEmpty then 0 else 1)<30))=true:=by rfl)
  (hline:(apos.endLine==cpos.line)=true:=by rfl) (hs:starEach [.BinOp (.BinOp (.BinOp (.Call (.Attribute o2 "pop" apos2) [z0] [] cpos2) .Mult ea p1) .Add eb p2) .Mod em p3] X.env=(false,eval (.BinOp (.BinOp (.BinOp (.Call (.Attribute o2 "pop" apos2) [z0] [] cpos2) .Mult ea p1) .Add eb p2) .Mod em p3) X.env)::starEach [] X.env:=by rfl)
  (hbase2:attributeBase o2 "pop" X.env (eval o2 X.env)=eval o2 X.env:=by rfl)
  (hfew2:((backTo cpos2 (starEach [z0] X.env)).all (fun x=>!x.1) && (backToKw cpos2 (keywordEach [] X.env)).all (fun x=>x.1.isSome)
   && decide ([z0].length+([]:List Keyword).length+(if ([]:List Keyword).isEmpty then 0 else 1)<30))=true:=by rfl)
  (hline2:(apos2.endLine==cpos2.line)=true:=by rfl) (hs2:starEach [z0] X.env=(false,eval z0 X.env)::starEach [] X.env:=by rfl)
  (hsw:swapsWith (.Call (.Attribute o "append" apos) [.BinOp (.BinOp (.BinOp (.Call (.Attribute o2 "pop" apos2) [z0] [] cpos2) .Mult ea p1) .Add eb p2) .Mod em p3] [] cpos) none pos.line X.env=pure false:=by rfl):
  PSd X G (.Expr (.Call (.Attribute o "append" apos) [.BinOp (.BinOp (.BinOp (.Call (.Attribute o2 "pop" apos2) [z0] [] cpos2) .Mult ea p1) .Add eb p2) .Mod em p3] [] cpos) pos) (zDz i fa fb fm):=
 PS.wk (xI (zHX Y1 Wk Wl nR ho (iP (zV bD (zV cN (zV cA (zHX Y1 PySem.F.slot_list_pop PySem.F.type_list_pop zIe ho2 (iP hz mJ hs2) hbase2 hfew2 hline2 hs2) ha) hb) hm) mJ hs) hbase hfew hline hs) hsw) fun E σ H q=>by
 obtain⟨ρ,Hi,R,h⟩:=q;unfold zDz at h
 cases z:ρ[i]? with
 | none=>rw[z] at h;exact h.elim
 | some s=>
  rw[z] at h
  cases s with
  | own ds=>
   cases ds with
   | nil=>exact h.elim
   | cons y r=>
    obtain⟨a,xs,p,h1,h2,h3,h4⟩:=R.slot i _ z
    cases h4 with
    | cons hy hr=>
     rename_i v vs
     have hlen:i<ρ.length:=by
      by_cases hl:i<ρ.length
      ·exact hl
      ·rw[Qv (by omega)] at z;cases z
     have z':(ρ.set i (.own r))[i]?=some (.own r):=Ve hlen;refine⟨.ref a,p,.inl ⟨rfl,_,SqL.of h1⟩,?_⟩
     refine⟨.ref a,p,.inl ⟨rfl,_,SqL.of h1⟩,?_⟩
     refine⟨ρ,Hi,R,?_⟩
     intro Hi0 H0 e0 v0 r0;have hv0:=r0.intI;subst hv0;refine⟨a,v::vs,0,0,v,rfl,rfl,(e0.out h1 h2).1,by decide,by decide,?_,rfl,?_⟩
     ·unfold seqIndex?
      simp
     have R1:jG X G Hi0 (upd H0 a (.lst vs)) σ (ρ.set i (.own r)):=(R.grow e0).write z p (hr.mono e0.i);refine⟨ρ.set i (.own r),Hi0,R1,kH R1 (Fin.mono h e0.i) fun d1 Hi1 H1 _ e1 k1 w1 s1=>?_⟩
     have R2:=R1.grow e1
     cases zm:oO y d1 with
     | no=>rw[zm] at k1;exact k1.elim
     | err c=>exact absurd zm (gM (X:=X).1 y d1 c)
     | ok u=>
      rw[zm,Res.ok_bind] at k1;refine gM.2 Hi1 H1 v w1 y d1 u _ R2.s ((hy.mono e0.i).mono e1.i) s1 zm fun v2 Hi2 H2 e2 s2=>?_
      have R3:=R2.grow e2;refine⟨ρ.set i (.own r),Hi2,R3,kH R3 (Fin.mono k1 e2.i) fun d3 Hi3 H3 _ e3 k3 w3 s3=>?_⟩
      have R4:=R3.grow e3
      cases za:pJ u d3 with
      | no=>rw[za] at k3;exact k3.elim
      | err c=>exact absurd za (gZ (X:=X).1 u d3 c)
      | ok w=>
       rw[za,Res.ok_bind] at k3;refine gZ.2 Hi3 H3 v2 w3 u d3 w _ R4.s (s2.mono e3.i) s3 za fun v4 Hi4 H4 e4 s4=>?_
       have R5:=R4.grow e4;refine⟨ρ.set i (.own r),Hi4,R5,kH R5 (Fin.mono k3 e4.i) fun d5 Hi5 H5 _ e5 k5 w5 s5=>?_⟩
       have R6:=R5.grow e5
       cases zo:jC w d5 with
       | no=>rw[zo] at k5;exact k5.elim
       | err c=>exact absurd zo (dP (X:=X).1 w d5 c)
       | ok v'=>
        rw[zo,Res.ok_bind] at k5;refine dP.2 Hi5 H5 v4 w5 w d5 v' _ R6.s (s4.mono e5.i) s5 zo fun v6 Hi6 H6 e6 s6=>?_
        have R7:=R6.grow e6;have k6:Fin X G Hi6 E (if r.length<16777216 then Res.ok (Fl.nx (ρ.set i (.own (r++[v'])))) else .no):=Fin.mono k5 e6.i;obtain⟨a',xs',p',g1,g2,g3,g4⟩:=R7.slot i _ z';rw[p] at p';cases p'
        by_cases hzz:r.length<16777216
        ·rw[if_pos hzz] at k6
         refine⟨a,xs',v6,rfl,rfl,g1,by rw[g4.length];exact hzz,?_⟩
         have R8:=R7.write z' p (g4.append (.cons s6 .nil));rw[List.set_set] at R8;exact k6 σ Hi6 _ (Same.refl _) R8
        ·rw[if_neg hzz] at k6;exact k6.elim
  | un=>exact h.elim
  | val d=>exact h.elim
  | exc c=>exact h.elim
  | tab T=>exact h.elim
end
end L3
namespace PySem.W.Fast
def tw12988152444229002193:=0
def tw15459375022745945234:=0
def tw16512858967057238985:=0
def tw14945946300824591044:=0
def tw11142712270312846992:=0
def tw18071234976247609090:=0
def tw15622348248952607019:=0
def tw10929694214269960517:=0
def tw1920266789651252432:=0
def tw10988056109612509830:=0
def tw12007693794472947751:=0
def tw12341598693252298680:=0
def tw15888931853065063285:=0
def tw750962063608500355:=0
def tw11955163240993085385:=0
def tw7181290060063208345:=0
def tw2785317336359197781:=0
def tw4811744482492038019:=0
def tw3607679558178651034:=0
def tw11993416685564926480:=0
def tw11579796854890041629:=0
def tw11056551007698023898:=0
def tw15442159094682489008:=0
def tw10530936867981122961:=0
def tw2550445025105281076:=0
def tw13813173015894681759:=0
def tw4852852142079553528:=0
def tw815072021677317083:=0
def tw11806831849668428944:=0
def tw18032575401100513470:=0
def tw6480187653028882972:=0
def tw11092588162760912708:=0
def tw17472060734651020017:=0
def tw8670438461680748480:=0
def tw15409330765063496580:=0
def tw9850848848844623786:=0
def tw12404128839397466233:=0
def tw6691042311701103655:=0
def tw602442371961168606:=0
def tw10990966243632207634:=0
def tw15061877636379772731:=0
def tw15101298847127061154:=0
def tw17112647950712319587:=0
def tw16306266836658528816:=0
def tw18006266792511265103:=0
def tw1808137124832253795:=0
def tw4768343062861609293:=0
def tw17453532947650551056:=0
def tw15599644862653924744:=0
def tw6978953933582222533:=0
def tw5647233993355355263:=0
def tw9753511426906884944:=0
def tw10714437910043064240:=0
def tw18120602177352433951:=0
def tw7052453169791414965:=0
def tw18369176968036725378:=0
def tw11257693838628899805:=0
def tw6188694930498042545:=0
def tw4891080171975868169:=0
def tw5182199891437908509:=0
def tw9851918207155595470:=0
def tw1558909964002890873:=0
def tw6709445879558349637:=0
def tw1321560064890635451:=0
def tw183935282750109599:=0
def tw5530373552301339294:=0
def tw13045815066121168622:=0
def tw5877123357865209584:=0
def tw7072159469212069198:=0
def tw1886771295526969244:=0
def tw2874594340124097761:=0
def tw13154334937617937604:=0
def tw5664883204676801652:=0
def tw6411958747552637144:=0
def tw7425264996255850561:=0
def tw4027654407834133742:=0
def tw6552636213972824380:=0
def tw2460701518173783484:=0
def tw5085445338010677344:=0
def tw13977941935564100232:=0
def tw13752875870413671479:=0
def tw243721779401127469:=0
def tw15260030561116327711:=0
def tw13892589175913237886:=0
def tw7752956467083664685:=0
def tw7648727988286448461:=0
def tw4747497332205757779:=0
def tw379692557944997733:=0
def tw17337415751007647585:=0
def tw13773932740228902774:=0
def tw107777297169742252:=0
def tw3248439694343559353:=0
def tw10545791871823248087:=0
def tw17901924868517742428:=0
def tw11007088160288583987:=0
def tw5662912543424176558:=0
def tw13241675631516452045:=0
def tw13744492345443405135:=0
def tw1899842972618604430:=0
def tw3084373907327485337:=0
def tw15957869800979936847:=0
def tw1180676592112315977:=0
def tw16799586651703196174:=0
def tw15078688026154058761:=0
def tw1919346668568423038:=0
def tw3408680980107459503:=0
def tw17109866640326343780:=0
def tw750455401067851498:=0
def tw6959014276947994075:=0
def tw12543648619021305187:=0
def tw16490537856720579751:=0
def tw9031509160428816176:=0
def tw12032442657753004568:=0
def tw8053693086754929936:=0
def tw13101924357317174631:=0
def tw16046819892220566514:=0
def tw7745054945148901120:=0
def tw12160122354596656536:=0
def tw16254964105048581144:=0
def tw4136069374739265509:=0
def tw5806027320156323357:=0
def tw6850691319365995199:=0
def tw7432257100541033200:=0
def tw17432742494149979863:=0
def tw15144221944200507778:=0
def tw1816474188341341649:=0
def tw11009450796662157241:=0
def tw17420628817132123013:=0
def tw14750599621580437598:=0
def tw13933859369842752033:=0
def tw9927330191798085016:=0
def tw16237751419336877269:=0
def tw14508933174325192505:=0
def tw1101366510856390380:=0
def tw14899715025963604420:=0
def tw12309374074307318753:=0
def tw331358831659865976:=0
def tw12931077351667555053:=0
def tw4316101791520825461:=0
def tw1497380685990971584:=0
def tw6700363560670166924:=0
def tw1848245611455464334:=0
def tw1557217639779177951:=0
def tw11806142868251189270:=0
def tw7259143762995867094:=0
def tw7775863535304654077:=0
def tw5630048893339029031:=0
def tw7009511244271572910:=0
def tw17196608823920851612:=0
def tw14689606688224758918:=0
def tw2362853070458497979:=0
def tw7248107717637036358:=0
def tw4605092368843893559:=0
def tw13998927410583840625:=0
def tw1158331760902079250:=0
def tw4050976999923380279:=0
def tw11239860075757438391:=0
def tw2736263789215704529:=0
def tw13822770158064268016:=0
def tw2878929774517299876:=0
def tw1970905505824268670:=0
def tw5243781271228371957:=0
def tw7378265742158432182:=0
def tw3312265485067426271:=0
def tw2527442262134003710:=0
def tw8884842469004980:=0
def tw4492358773861085840:=0
def tw14087212244610657606:=0
def tw7693369106409236817:=0
def tw13174746753028873527:=0
def tw4979586976322898373:=0
def tw4438381456154953985:=0
def tw15805310612965201452:=0
def tw8792263534032831301:=0
def tw12750532203514839571:=0
def tw4010785012288054701:=0
def tw393976435521128934:=0
def tw8442807068669321848:=0
def tw11149233464118862491:=0
def tw14860966129053003201:=0
def tw13415262060523888230:=0
def tw12692121928395083204:=0
def tw5977270340449775527:=0
def tw2618793792526414856:=0
def tw15905427417106558418:=0
def tw16340171927667211973:=0
def tw497336987764926527:=0
def tw8486880506226046265:=0
def tw11897138543974782833:=0
def tw11736866367270086683:=0
def tw8934534735471678567:=0
def tw11023033860042280675:=0
def tw9467648991150892261:=0
def tw5512621196728739008:=0
def tw3621804622496319043:=0
def tw2676625887034110493:=0
def tw270221981044961460:=0
def tw16365021733075559588:=0
def tw3023502975591919406:=0
def tw4395409055845514809:=0
def tw6962812540367872528:=0
def tw2830201248041212876:=0
def tw10201521201947067798:=0
def tw4855247713950097976:=0
def tw6055915297009394600:=0
def tw1102837161835795416:=0
def tw15127225007316325335:=0
def tw8933187302421380298:=0
def tw15533217978303390632:=0
def tw10966996529884656968:=0
def tw7696300698127934723:=0
def tw1611589961825245977:=0
def tw6202092254738627804:=0
def tw11497756354297512243:=0
def tw12647343480233735390:=0
def tw9274950331728481384:=0
def tw4460415058012274948:=0
def tw2498680346376699498:=0
def tw15038960192922398895:=0
def tw12967441101832293795:=0
def tw10410349459549365463:=0
def tw3099931794397351735:=0
def tw15183084869613897118:=0
def tw7201158291019326500:=0
def tw13382607384752921411:=0
def tw1390466098422628647:=0
def tw3479088662564385320:=0
def tw570006494167228737:=0
def tw8942893975316265888:=0
def tw848509199179514215:=0
def tw6862799937842404790:=0
def tw5576811410056905494:=0
def tw4478511482989403502:=0
def tw12058790394296418344:=0
def tw11590450365156320974:=0
def tw17413679526155529381:=0
def tw11617559864825308450:=0
def tw6176410141482314543:=0
def tw12624993755061264721:=0
def tw3368319050983848116:=0
def tw6234325634606307486:=0
def tw3165917306914767647:=0
def tw12878753245044429448:=0
def tw17674572333191949818:=0
def tw9696733395938532394:=0
def tw18327251439749030839:=0
def tw10321991571137321779:=0
def tw2938437502002446175:=0
def tw11228820617381819184:=0
def tw2912595727216905079:=0
def tw887589963687215720:=0
def tw13222538607201027422:=0
def tw17624410745770559718:=0
def tw3337363268516995557:=0
def tw13950004831260576754:=0
def tw14205552636883529241:=0
def tw15562902340114015361:=0
def tw18207462398919729289:=0
def tw8889218693112441422:=0
def tw9652573388345844853:=0
def tw10960179396142890461:=0
def tw337078370751613722:=0
def tw9204024341623331677:=0
def tw2806409294055375507:=0
def tw9487748916067311198:=0
def tw7820687759168924281:=0
def tw18051113923752264:=0
def tw16583911378460914629:=0
def tw6121970951591343817:=0
def tw9150477679154158222:=0
def tw550527334005532339:=0
def tw9083345258291697600:=0
def tw16033205086967144400:=0
def tw9686334072637036745:=0
def tw282534701954116810:=0
def tw12714601204325031876:=0
def tw13791711988087665281:=0
def tw7262972526791683297:=0
def tw9865022336582219603:=0
def tw6529729954265187051:=0
def tw3106519958557275618:=0
def tw4336335955823404282:=0
def tw3674712779107766711:=0
def tw2803006501626510723:=0
def tw3357987792861789572:=0
def tw9578863879242378565:=0
def tw1612050130247441568:=0
def tw14445438160711748097:=0
def tw4069976613162683749:=0
def tw15706641192540424145:=0
def tw17124070725155556053:=0
def tw13985172198045633181:=0
def tw14331293683322995537:=0
def tw14420760603026352382:=0
def tw17821317158618828565:=0
def tw10959317910324482312:=0
def tw8881679617369062022:=0
def tw10848058249191394981:=0
def tw3799272210354928012:=0
def tw10423161281849883568:=0
def tw16874041239291702071:=0
def tw9159364416743556073:=0
def tw17228631119157959825:=0
def tw5122965205095724969:=0
def tw12584512411410966335:=0
def tw7814240188256236223:=0
def tw11331211447875554281:=0
def tw10042636875803879273:=0
def tw15364089272025818328:=0
def tw13766346424131790591:=0
def tw17859028225806061361:=0
def tw364638136300962681:=0
def tw2983537224968750692:=0
def tw12888774935100664682:=0
def tw1591094688262978734:=0
def tw13297241326312326064:=0
def tw8891789322684015837:=0
def tw10374874101366233714:=0
def tw8726729902224144848:=0
def tw702542691716991171:=0
def tw2713220212934538104:=0
def tw10014822724136691177:=0
def tw14395738061972587896:=0
def tw17045698293502315472:=0
def tw6615483703925947951:=0
def tw14922494470053646536:=0
def tw15387312343667640010:=0
def tw17101785067560411992:=0
def tw5855723331682001705:=0
def tw8642701068920245684:=0
def tw2572535428323348741:=0
def tw12466463551708476777:=0
def tw4308639869256468281:=0
def tw4279823426369457608:=0
def tw422814439658687117:=0
def tw8375439204001016098:=0
def tw2858971388707265454:=0
def tw17063382920720135648:=0
def tw12560879403189760246:=0
def tw17149335010110997515:=0
def tw18095576921670593439:=0
def tw191606823822947491:=0
def tw11131720264892660811:=0
def tw17736288165740788886:=0
def tw6881113941692980995:=0
def tw16548767358497697647:=0
def tw13250131522626709717:=0
def tw17592637267257986800:=0
def tw6489550917688585633:=0
def tw1861650357404644219:=0
def tw12974201785000830291:=0
def tw6793151741398989736:=0
def tw5812218454144302951:=0
def tw6401498898676284424:=0
def tw12567210288623597362:=0
def tw13369133611533544864:=0
def tw4323384446140706037:=0
def tw8070202595705226149:=0
def tw15939666761987343355:=0
def tw17197669119106371281:=0
def tw7286364044812976184:=0
def tw15083219252134122459:=0
def tw24317279092218899:=0
def tw7793791988105627440:=0
def tw16293958883977711472:=0
def tw12852579321004119625:=0
def tw17519682695362008576:=0
def tw4856722354011159011:=0
def tw18147869307660788723:=0
def tw4014042356052134883:=0
def tw10157902554197865317:=0
def tw18029708586549458935:=0
def tw12919105087530676843:=0
def tw6393721859632093473:=0
def tw18392099723870973848:=0
def tw16626873585533081898:=0
def tw11283983462250756338:=0
def tw10363770104928141598:=0
def tw4115586118859632474:=0
def tw7853662907020900870:=0
def tw4903090187333284135:=0
def tw11119901099460001081:=0
def tw14024434458677859751:=0
def tw16923094514825408456:=0
def tw7954840070460167610:=0
def tw1272880050043135194:=0
def tw16606386900479233054:=0
def tw1102221069682565864:=0
def tw15808778235413511103:=0
def tw10447081260059959938:=0
def tw380487035250055381:=0
def tw4251256218145166000:=0
def tw5400113896402479620:=0
def tw17991790216549181254:=0
def tw3331679125501687582:=0
def tw4738137477036711194:=0
def tw7093156340677119136:=0
def tw18247432165803300512:=0
def tw1117488977231058780:=0
def tw7082881563516622466:=0
def tw13842989440916644292:=0
def tw3821552521989693524:=0
def tw17579005129666084910:=0
def tw7489709440684267944:=0
def tw11932648152560424882:=0
def tw8025547621676493881:=0
def tw4822035745117182644:=0
def tw17664135043946799809:=0
def tw1442470935825786197:=0
def tw6002491467608143641:=0
def tw3579987966576979876:=0
def tw2637497992938886096:=0
def tw16770086860134439196:=0
def tw14537700646793036030:=0
def tw18212995305174105970:=0
def tw11820519037778861211:=0
def tw9210456835965435184:=0
def tw7070116511561959187:=0
def tw7710748248439726155:=0
def tw6994770872742131819:=0
def tw11231091153440830577:=0
def tw2037201396580194954:=0
def tw13168282876733328498:=0
def tw14224222581981322460:=0
def tw17631978863830234654:=0
def tw12861651174300130836:=0
def tw14262926698097045519:=0
def tw5254695477422102982:=0
def tw13536614573984178358:=0
def tw10506647066403786931:=0
def tw5858255349800561109:=0
def tw4272647608225631100:=0
def tw18233286764019989167:=0
def tw2204053872213017297:=0
def tw14138530160706587611:=0
def tw6032620019661608670:=0
def tw15952600435976951625:=0
def tw18309014414993357851:=0
def tw9216953098625380103:=0
def tw6954213879218004269:=0
def tw5568328354821598719:=0
def tw5020074280917604903:=0
def tw5061792743369254499:=0
def tw16882459736980316029:=0
def tw7512842324741875579:=0
def tw5955506827922459486:=0
def tw10477417444869299012:=0
def tw4090258740306413707:=0
def tw10746467802238514770:=0
def tw7705850259559911247:=0
def tw10581391228373310994:=0
def tw707474661941838283:=0
def tw3117642224621883853:=0
def tw11676589412855052031:=0
def tw11596325982014637800:=0
def tw3090144681240175262:=0
def tw16961766857059433505:=0
def tw7230287525636572807:=0
def tw13962439842429797718:=0
def tw723607738954408965:=0
def tw4399254302896122684:=0
def tw6145074097571775309:=0
def tw18250004240510683396:=0
def tw6355055908625643669:=0
def tw16621515566588978654:=0
def tw17118266260454977685:=0
def tw2528442832421412562:=0
def tw106509731174893760:=0
def tw9772688499471306949:=0
def tw2107798497104911544:=0
def tw5782374366314308466:=0
def tw9002429437181379717:=0
end PySem.W.Fast
namespace Lw
open L3 PySem
def tbT:List Str:=[]
def zPP:List (Str×List Str):=[]
def lR:D:=(.tup [(.int 0),(.int 1)])
def aX:List (Str×Str):=[("row","back"),("back","row"),("even","lack"),("lack","even"),("part","part"),("half","half")]
def d_WEIGHTED:D:=(.tup [(.str "even"),(.str "lack")])
def d_HALF:D:=(.tup [(.int 1),(.int 2)])
def d_BOAT:D:=(.str "boat")
def d_MOST_BOATS:D:=(.int 12)
def d_DEEPEST:D:=(.int 8)
def d_CATCH:D:=(.str "catch")
def d_OVER:D:=(.str "over")
def d_PAIR:D:=(.str "pair")
abbrev nL:Sv:=(cQ 1 (aD 2))
abbrev oF:Sv:=(bB (cQ 0 (aD 1)) nL)
abbrev oM:Sv:=(bB (cQ 2 (eOp jC (aD 0) (aD 1))) oF)
abbrev nG:Sv:=(fZ (aD 0))
abbrev nT:Sv:=(bB (eR (dR (eOp oNe (aD 1) (eC (.int 0)))) oM) nG)
abbrev nY:Sv:=(bB (cQ 1 (eB zKx (aB (aD 1) aNil))) nT)
def dA:Mir:=fn 2 3 (bB (cQ 0 (eB zKx (aB (aD 0) aNil))) nY)
def bW:Mir:=fn 1 1 (fZ (qO (aB (aD 0) (aB (eC (.int 1)) aNil))))
def lK:Mir:=fn 2 2 (fZ (eOp oLt (eOp oO (eOp oIx (aD 0) (eC (.int 0))) (eOp oIx (aD 1) (eC (.int 1)))) (eOp oO (eOp oIx (aD 1) (eC (.int 0))) (eOp oIx (aD 0) (eC (.int 1))))))
abbrev uX:Sv:=(cQ 1 (eOp oO (aD 1) (eOp oIx (aD 2) (eC (.int 1)))))
abbrev yK:Sv:=(cQ 1 (eC (.int 1)))
abbrev sD:Sv:=(tX (xK (aD 0)) (gName 2) uX)
def lW:List D->Res (List Int):=xY yK sD
def cJ:Mir:=fn 1 1 (sIf (dR (eUn (pP aX) (aD 0))) (jX "BadWay" (aB (eC (.str "no such way")) aNil)) sNext)
abbrev pU:Sv:=(sIf (dR (eOp oLt (aD 1) (eC (.int 0)))) (jX "BadClaim" (aB (eC (.str "a claim is below nought")) aNil)) sNext)
abbrev oZ:Sv:=(tX (xK (aD 0)) (gName 1) pU)
def dM:Mir:=fn 1 2 (bB (sIf (dR (eOp oEq (eB lA (aB (aD 0) aNil)) (eC (.int 0)))) (jX "BadClaim" (aB (eC (.str "there is no claim")) aNil)) sNext) oZ)
abbrev oE:Sv:=(sIf (zFN (dR (eOp oLt (aD 4) (eC (.int 1)))) (dR (eOp oGt (aD 4) (eOp zA (eC (.int 10)) (eC (.int 6)))))) (jX "BadWeights" (aB (eC (.str "a weight is not from 1 to 10 ** 6")) aNil)) sNext)
abbrev eQ:Sv:=(tX (xK (aD 1)) (gName 4) oE)
abbrev iG:Sv:=(bB (sIf (dR (eOp oNe (eB lA (aB (aD 1) aNil)) (aD 3))) (jX "BadWeights" (aB (eC (.str "more or fewer weights than are due")) aNil)) sNext) eQ)
def aU:Mir:=fn 3 5 (bB (cQ 3 (eIf (dR (eOp oIn (aD 0) (eC d_WEIGHTED))) (aD 2) (eC (.int 0)))) iG)
abbrev zHb:Sv:=(fZ (qO (aB (eC d_BOAT) (aB (aD 0) aNil))))
def zAE:Mir:=fn 1 1 (bB (sIf (zFN (dR (eOp oLt (aD 0) (eC (.int 0)))) (dR (eOp oGt (aD 0) (eOp zA (eC (.int 10)) (eC (.int 9)))))) (jX "BadClaim" (aB (eC (.str "a boat's claim is not from 0 to 10 ** 9")) aNil)) sNext) zHb)
def bV:Mir:=fn 1 1 (fZ (eOp oEq (eOp oIx (aD 0) (eC (.int 0))) (eC d_BOAT)))
def hU:Mir:=fn 1 1 (fZ (eOp oIx (aD 0) (eC (.int 0))))
def cS:Mir:=fn 1 1 (fZ (eOp oIx (aD 0) (eC (.int 1))))
abbrev rO:Sv:=(fZ (eC (.int 0)))
def cY:Mir:=fn 2 2 (bB (sIf (dR (eOp oLt (aD 1) (eB lA (aB (aD 0) aNil)))) (fZ (eOp oIx (aD 0) (aD 1))) sNext) rO)
abbrev uL:Sv:=(cQ 1 (aD 2))
abbrev tK:Sv:=(bB (cQ 0 (aD 1)) uL)
abbrev uG:Sv:=(bB (cQ 2 (eOp jC (aD 0) (aD 1))) tK)
abbrev mG:Sv:=(fZ (aD 0))
def fN:Mir:=fn 2 3 (bB (eR (dR (eOp oGt (aD 1) (eC (.int 0)))) uG) mG)
def dO:Mir:=fn 2 2 (fZ (eOp oLt (eOp oO (eOp oIx (aD 0) (eC (.int 0))) (eOp oIx (aD 1) (eC (.int 1)))) (eOp oO (eOp oIx (aD 1) (eC (.int 0))) (eOp oIx (aD 0) (eC (.int 1))))))
abbrev xT:Sv:=(fZ (eOp oIx (aD 2) (eOp jC (eOp pJ (aD 1) (eOp lC (eOp jC (aD 0) (eC (.int 7))) (eC (.int 5)))) (eC (.int 4)))))
def gW:Mir:=fn 2 3 (bB (cQ 2 (eF (oA (aB (eOp jC (eOp lC (aD 0) (eC (.int 7))) (eC (.int 13))) (aB (eOp jC (eOp lC (aD 0) (eC (.int 7))) (eC (.int 4))) (aB (eOp jC (eOp lC (aD 0) (eC (.int 7))) (eOp pJ (eOp zA (eC (.int 10)) (eC (.int 9))) (eC (.int 1)))) (aB (eOp oO (eOp jC (eOp lC (aD 0) (eC (.int 91))) (eC (.int 60))) (eOp zA (eC (.int 10)) (eC (.int 6)))) aNil))))))) xT)
abbrev iS:Sv:=(sIf (tFrzB (dR (eOp oLt (eB lA (aB (aD 3) aNil)) (aD 2)))) (zGS 3 (aD 4)) (zDz 3 (eC (.int 10007)) (aD 4) (eOp zA (eC (.int 10)) (eC (.int 45)))))
abbrev mF:Sv:=(gU 3)
abbrev uA:Sv:=(bB (tX (xK (eF (zMZ (eF (oA (aB (eC (.int 7)) aNil))) (eF (fSl (aD 0) (oS (aD 1)) oN))))) (gName 4) iS) mF)
def fO:Mir:=fn 3 5 (bB (zDQ 3 (oA aNil)) uA)
abbrev zGT:Sv:=(fZ (qO (aB (eOp lC (aD 0) (aD 2)) (aB (eOp lC (aD 1) (aD 2)) aNil))))
abbrev zHl:Sv:=(bB (sIf (dR (eOp oLt (aD 1) (eC (.int 0)))) (cQ 2 (eUn zLr (aD 2))) sNext) zGT)
abbrev zHw:Sv:=(bB (cQ 2 (aM dA (aB (aD 0) (aB (aD 1) aNil)))) zHl)
def gQ:Mir:=fn 2 3 (bB (sIf (dR (eOp oEq (aD 1) (eC (.int 0)))) (jX "NoFraction" (aB (eC (.str "the bottom is nought")) aNil)) sNext) zHw)
def jP:Mir:=fn 2 2 (fZ (eIf (dR (aM lK (aB (aD 0) (aB (aD 1) aNil)))) (aD 0) (aD 1)))
def cG:Mir:=fn 2 2 (fZ (eOr (aM lK (aB (aD 0) (aB (eC lR) aNil))) (aM lK (aB (aD 1) (aB (aD 0) aNil)))))
abbrev zDa:Sv:=(rZ (aM aU (aB (aD 0) (aB (aD 1) (aB (eB lA (aB (aD 2) aNil)) aNil)))))
abbrev zDO:Sv:=(bB (rZ (aM dM (aB (aD 2) aNil))) zDa)
def nU:Mir:=fn 3 3 (bB (rZ (aM cJ (aB (aD 0) aNil))) zDO)
def aY:Mir:=fn 1 1 (fZ (eIf (dR (aM bV (aB (aD 0) aNil))) (qO aNil) (eOp oIx (aD 0) (eC (.int 2)))))
abbrev zAi:Sv:=(fZ (qO (aB (eOp lC (aD 0) (aD 2)) (aB (eOp lC (aD 1) (aD 2)) aNil))))
def cP:Mir:=fn 2 3 (bB (cQ 2 (aM fN (aB (eB zKx (aB (aD 0) aNil)) (aB (aD 1) aNil)))) zAi)
def jU:Mir:=fn 2 2 (fZ (aM gQ (aB (eOp pJ (eOp oO (eOp oIx (aD 0) (eC (.int 0))) (eOp oIx (aD 1) (eC (.int 1)))) (eOp oO (eOp oIx (aD 1) (eC (.int 0))) (eOp oIx (aD 0) (eC (.int 1))))) (aB (eOp oO (eOp oIx (aD 0) (eC (.int 1))) (eOp oIx (aD 1) (eC (.int 1)))) aNil))))
def gJ:Mir:=fn 2 2 (fZ (aM gQ (aB (eOp zAa (eOp oO (eOp oIx (aD 0) (eC (.int 0))) (eOp oIx (aD 1) (eC (.int 1)))) (eOp oO (eOp oIx (aD 1) (eC (.int 0))) (eOp oIx (aD 0) (eC (.int 1))))) (aB (eOp oO (eOp oIx (aD 0) (eC (.int 1))) (eOp oIx (aD 1) (eC (.int 1)))) aNil))))
def jD:Mir:=fn 2 2 (fZ (aM gQ (aB (eOp oO (eOp oIx (aD 0) (eC (.int 0))) (eOp oIx (aD 1) (eC (.int 0)))) (aB (eOp oO (eOp oIx (aD 0) (eC (.int 1))) (eOp oIx (aD 1) (eC (.int 1)))) aNil))))
def rS:Mir:=fn 2 2 (fZ (aM gQ (aB (eOp oO (eOp oIx (aD 0) (eC (.int 0))) (eOp oIx (aD 1) (eC (.int 1)))) (aB (eOp oO (eOp oIx (aD 0) (eC (.int 1))) (eOp oIx (aD 1) (eC (.int 0)))) aNil))))
def bF:Mir:=fn 2 2 (sIf (dR (aM cG (aB (aD 0) (aB (aD 1) aNil)))) (jX "Outside" (aB (eC (.str "below nought, or more than there can be")) aNil)) sNext)
def fB:Mir:=fn 2 2 (mB (vF (zKS (aB (aD 1) (aB (aD 0) aNil))) (aM gQ (aB (aD 2) (aB (aD 3) aNil)))))
def bE:Mir:=fn 2 2 (fZ (aM cP (aB (eOp pJ (eOp oO (eOp oIx (aD 0) (eC (.int 0))) (eOp oIx (aD 1) (eC (.int 1)))) (eOp oO (eOp oIx (aD 1) (eC (.int 0))) (eOp oIx (aD 0) (eC (.int 1))))) (aB (eOp oO (eOp oIx (aD 0) (eC (.int 1))) (eOp oIx (aD 1) (eC (.int 1)))) aNil))))
abbrev vQ:Sv:=(fZ (aM cP (aB (eOp jC (eOp lC (aD 1) (eC (.int 485))) (eOp pJ (eOp oO (aD 0) (aD 2)) (eC (.int 1)))) (aB (aD 2) aNil))))
abbrev wX:Sv:=(bB (cQ 2 (eOp oIx (eF (oA (aB (eC (.int 1)) (aB (eC (.int 1)) (aB (eC (.int 2)) (aB (eC (.int 12)) (aB (eOp pJ (eC (.int 1)) (eOp jC (eOp lC (aD 1) (eC (.int 5))) (eC (.int 97)))) aNil))))))) (eOp jC (aD 1) (eC (.int 5))))) vQ)
def cK:Mir:=fn 2 3 (bB (cQ 1 (eOp jC (aD 1) (eOp zA (eC (.int 10)) (eC (.int 40))))) wX)
abbrev zFC:Sv:=(cQ 1 (aM jU (aB (aD 1) (aB (aD 2) aNil))))
abbrev yQ:Sv:=(fZ (aD 1))
abbrev zGg:Sv:=(bB (tX (xK (aD 0)) (gName 2) zFC) yQ)
def jM:Mir:=fn 1 3 (bB (cQ 1 (eC lR)) zGg)
abbrev wY:Sv:=(cQ 2 (aM gJ (aB (aD 2) (aB (aD 5) aNil))))
abbrev wQ:Sv:=(bB (zGS 3 (aD 5)) wY)
abbrev oJ:Sv:=(bB (cQ 5 (aM jP (aB (aD 2) (aB (aM bW (aB (aD 4) aNil)) aNil)))) wQ)
abbrev xS:Sv:=(gU 3)
abbrev wN:Sv:=(bB (tX (xK (aD 0)) (gName 4) oJ) xS)
abbrev vP:Sv:=(bB (zDQ 3 (oA aNil)) wN)
def fE:Mir:=fn 2 6 (bB (cQ 2 (aD 1)) vP)
abbrev tN:Sv:=(zNb 4 zAa (eOp oIx (aD 0) (aD 6)))
abbrev tI:Sv:=(bB (cQ 3 (zCf (aM gJ (aB (aD 3) (aB (eOp oIx (aD 5) (aD 6)) aNil))))) tN)
abbrev tU:Sv:=(bB (zDf 5 (aD 6) (aM jP (aB (aD 7) (aB (aM bW (aB (eOp oIx (aD 1) (aD 6)) aNil)) aNil)))) tI)
abbrev bR:Sv:=(bB (cQ 7 (aM rS (aB (aM jD (aB (aD 3) (aB (aM bW (aB (eOp oIx (aD 0) (aD 6)) aNil)) aNil))) (aB (aM bW (aB (aD 4) aNil)) aNil)))) tU)
abbrev iU:Sv:=(gU 5)
abbrev mO:Sv:=(zHg (aB (eF (eP fB (aB (aD 0) (aB (aD 1) aNil)))) aNil) lW (gName 6) bR iU)
abbrev tJ:Sv:=(bB (zDQ 5 (zKU (oA (aB (eC lR) aNil)) (eB lA (aB (aD 1) aNil)))) mO)
abbrev uB:Sv:=(bB (cQ 4 (eB zAS (aB (aD 0) aNil))) tJ)
def cT:Mir:=fn 3 8 (bB (cQ 3 (aD 2)) uB)
abbrev tQ:Sv:=(mB (xL (xK (aD 0)) sZ (aM jD (aB (aD 3) (aB (aM bW (aB (aD 4) aNil)) aNil)))))
abbrev uD:Sv:=(bB (cQ 3 (aM rS (aB (aD 1) (aB (aM bW (aB (aD 2) aNil)) aNil)))) tQ)
abbrev uJ:Sv:=(bB (sIf (dR (eOp oEq (aD 2) (eC (.int 0)))) (mB (zKU (oA (aB (eC lR) aNil)) (eB lA (aB (aD 0) aNil)))) sNext) uD)
def eM:Mir:=fn 2 4 (bB (cQ 2 (eB zAS (aB (aD 0) aNil))) uJ)
abbrev zAU:Sv:=(cQ 1 (aM bE (aB (aD 1) (aB (aD 2) aNil))))
abbrev sM:Sv:=(fZ (aD 1))
abbrev zBg:Sv:=(bB (tX (xK (aD 0)) (gName 2) zAU) sM)
def kX:Mir:=fn 1 3 (bB (cQ 1 (qO (aB (eC (.int 0)) (aB (eC (.int 1)) aNil)))) zBg)
abbrev uI:Sv:=(mB (xL (xK (eF (eP cT (aB (aD 2) (aB (aD 0) (aB (aM jU (aB (aD 1) (aB (aD 1) aNil))) aNil)))))) sZ (aM jD (aB (aD 3) (aB (eC d_HALF) aNil)))))
def eD:Mir:=fn 2 3 (bB (cQ 2 (eF (zKU (oA (aB (eC (.int 1)) aNil)) (eB lA (aB (aD 0) aNil))))) uI)
abbrev oI(r:Mir):Sv:=(mB (vF (zKS (aB (aD 2) (aB (aD 5) aNil))) (aM gJ (aB (aM bW (aB (aD 6) aNil)) (aB (aD 7) aNil)))))
abbrev oQ(r:Mir):Sv:=(bB (cQ 5 (eF (eP r (aB (eUn (zF aX) (aD 0)) (aB (aD 1) (aB (aD 2) (aB (aM gJ (aB (aD 4) (aB (aD 3) aNil))) aNil))))))) (oI r))
abbrev pM(r:Mir):Sv:=(bB (sIf (zAo (dR (eOp oEq (aD 0) (eC (.str "half")))) (zGH (dR (aM lK (aB (aD 4) (aB (aM jU (aB (aD 3) (aB (aD 3) aNil))) aNil)))))) (mB (eP eD (aB (aD 2) (aB (aD 3) aNil)))) sNext) (oQ r))
abbrev pI(r:Mir):Sv:=(bB (sIf (dR (eOp oEq (aD 0) (eC (.str "part")))) (mB (eP eM (aB (aD 2) (aB (aD 3) aNil)))) sNext) (pM r))
abbrev oV(r:Mir):Sv:=(bB (sIf (dR (eOp oEq (aD 0) (eC (.str "even")))) (mB (eP cT (aB (aD 1) (aB (aD 2) (aB (aD 3) aNil))))) sNext) (pI r))
abbrev pB(r:Mir):Sv:=(bB (sIf (dR (eOp oEq (aD 0) (eC (.str "row")))) (mB (eP fE (aB (aD 2) (aB (aD 3) aNil)))) sNext) (oV r))
def aP(r:Mir):Mir:=fn 4 6 (bB (cQ 4 (aM bW (aB (eB zAS (aB (aD 2) aNil)) aNil))) (pB r))
def aL:Nat->Mir
 | 0=>fn 4 6 sNo
 | n+1=>aP (aL n)
abbrev zFz:Sv:=(mB (eP (aL 2) (aB (aD 0) (aB (aD 1) (aB (aD 2) (aB (aD 3) aNil))))))
abbrev zEC:Sv:=(bB (rZ (aM bF (aB (aD 3) (aB (aM bW (aB (eB zAS (aB (aD 2) aNil)) aNil)) aNil)))) zFz)
def iN:Mir:=fn 4 4 (bB (rZ (aM nU (aB (aD 0) (aB (aD 1) (aB (aD 2) aNil))))) zEC)
abbrev tZ(r:Mir):Sv:=(cQ 1 (eF (zMZ (aD 1) (aM r (aB (aD 2) aNil)))))
abbrev uC(r:Mir):Sv:=(fZ (aD 1))
abbrev uE(r:Mir):Sv:=(bB (tX (xK (eOp oIx (aD 0) (eC (.int 2)))) (gName 2) (tZ r)) (uC r))
abbrev tT(r:Mir):Sv:=(bB (cQ 1 (eF (oA aNil))) (uE r))
def iF(r:Mir):Mir:=fn 1 3 (bB (sIf (dR (eOp oEq (eOp oIx (aD 0) (eC (.int 0))) (eC (.str "boat")))) (fZ (eF (oA (aB (eOp oIx (aD 0) (eC (.int 1))) aNil)))) sNext) (tT r))
def cU:Nat->Mir
 | 0=>fn 1 3 sNo
 | n+1=>iF (cU n)
abbrev wM(r:Mir):Sv:=(zKV 1 (eP r (aB (aD 2) aNil)))
abbrev vZ(r:Mir):Sv:=(gU 1)
abbrev wD(r:Mir):Sv:=(bB (tX (xK (aM aY (aB (aD 0) aNil))) (gName 2) (wM r)) (vZ r))
abbrev wH(r:Mir):Sv:=(bB (zDQ 1 (oA aNil)) (wD r))
def jO(r:Mir):Mir:=fn 1 3 (bB (sIf (dR (aM bV (aB (aD 0) aNil))) (mB (oA (aB (eOp oIx (aD 0) (eC (.int 1))) aNil))) sNext) (wH r))
def bH:Nat->Mir
 | 0=>fn 1 3 sNo
 | n+1=>jO (bH n)
def oG(r:Mir):Mir:=fn 1 1 (fZ (eOp pJ (eC (.int 1)) (eOp (fun x y=>zAX [x,y]) (eF (xL (xK (aM aY (aB (aD 0) aNil))) sZ (aM r (aB (aD 1) aNil)))) (eC (.int 0)))))
def gG:Nat->Mir
 | 0=>fn 1 1 sNo
 | n+1=>oG (gG n)
abbrev zHA:Sv:=(fZ (aD 3))
abbrev zHj:Sv:=(bB (sIf (zFN (dR (eOp oEq (eB lA (aB (aD 2) aNil)) (eC (.int 0)))) (zFN (dR (eOp oGt (eB lA (aB (eF (eP (bH 10) (aB (aD 3) aNil))) aNil)) (eC d_MOST_BOATS))) (dR (eOp oGt (aM (gG 10) (aB (aD 3) aNil)) (eC d_DEEPEST))))) (jX "TooMany" (aB (eC (.str "no kid, or too many boats, or too deep")) aNil)) sNext) zHA)
abbrev zHS:Sv:=(bB (cQ 3 (qO (aB (aD 0) (aB (eB zIj (aB (aD 1) aNil)) (aB (eB zIj (aB (aD 2) aNil)) aNil))))) zHj)
abbrev zHJ:Sv:=(bB (rZ (aM aU (aB (aD 0) (aB (aD 1) (aB (eB lA (aB (aD 2) aNil)) aNil))))) zHS)
def zAv:Mir:=fn 3 4 (bB (rZ (aM cJ (aB (aD 0) aNil))) zHJ)
def dC:Mir:=fn 1 1 (fZ (eB zAS (aB (eF (eP (bH 10) (aB (aD 0) aNil))) aNil)))
abbrev zDI:Sv:=(cQ 3 (aD 5))
abbrev zDx:Sv:=(bB (zGS 2 (zOi (aD 1) (oS (aD 3)) (oS (aD 5)))) zDI)
abbrev vL:Sv:=(bB (cQ 5 (eOp pJ (aD 3) (eB lA (aB (eF (eP (bH 10) (aB (aD 4) aNil))) aNil)))) zDx)
abbrev zDn:Sv:=(gU 2)
abbrev zDv:Sv:=(bB (tX (xK (aM aY (aB (aD 0) aNil))) (gName 4) vL) zDn)
abbrev zDM:Sv:=(bB (cQ 3 (eC (.int 0))) zDv)
def iE:Mir:=fn 2 6 (bB (zDQ 2 (oA aNil)) zDM)
def dH:Mir:=fn 2 2 (sIf (dR (eOp oNe (eB lA (aB (aD 1) aNil)) (eB lA (aB (eF (eP (bH 10) (aB (aD 0) aNil))) aNil)))) (jX "Unlike" (aB (eC (.str "not as many amounts as boats")) aNil)) sNext)
def eI:Mir:=fn 1 1 (mB (xL (xK (aM aY (aB (aD 0) aNil))) sZ (aM dC (aB (aD 1) aNil))))
abbrev xB:Sv:=(fZ (eOp oNe (aD 9) (aD 5)))
abbrev fR:Sv:=(bB (zFT "Outside" (zNH 9 iN (aB (aM hU (aB (aD 0) aNil)) (aB (aD 8) (aB (aD 7) (aB (aM jU (aB (eOp oIx (aD 5) (eC (.int 0))) (aB (eOp oIx (aD 5) (eC (.int 1))) aNil))) aNil))))) (fZ (eC (.bl true)))) xB)
abbrev fP:Sv:=(bB (sIf (dR (eOp oGt (eB lA (aB (aD 8) aNil)) (eC (.int 0)))) (cQ 8 (eF (oA (aB (eOp oIx (aD 8) (aD 2)) (aB (eOp oIx (aD 8) (aD 3)) aNil))))) sNext) fR)
abbrev qM:Sv:=(bB (cQ 8 (aM cS (aB (aD 0) aNil))) fP)
abbrev qK:Sv:=(bB (cQ 7 (eF (oA (aB (aM dC (aB (eOp oIx (aD 6) (aD 2)) aNil)) (aB (aM dC (aB (eOp oIx (aD 6) (aD 3)) aNil)) aNil))))) qM)
abbrev qL:Sv:=(bB (cQ 6 (aM aY (aB (aD 0) aNil))) qK)
abbrev qG:Sv:=(bB (cQ 5 (eF (oA (aB (aM jM (aB (eOp oIx (aD 4) (aD 2)) aNil)) (aB (aM jM (aB (eOp oIx (aD 4) (aD 3)) aNil)) aNil))))) qL)
def iW:Mir:=fn 4 10 (bB (cQ 4 (eF (eP iE (aB (aD 0) (aB (aD 1) aNil))))) qG)
abbrev yU:Sv:=(cQ 5 (eOp lC (aD 5) (eC (.int 3))))
abbrev yZ:Sv:=(bB (zGS 3 (eOp pJ (eC (.int 1)) (eOp jC (aD 5) (aD 4)))) yU)
abbrev zAl:Sv:=(tX (xK (aD 1)) (gName 6) yZ)
abbrev yO:Sv:=(bB (cQ 5 (eOp lC (aD 0) (eC (.int 24)))) zAl)
abbrev kL:Sv:=(sFrzAt 3 (fZ (aM zAv (aB (aD 2) (aB (aD 3) (aB (aD 1) aNil))))))
abbrev qI:Sv:=(bB (sIf (dR (eOp oIn (aD 2) (qO (aB (eC (.str "even")) (aB (eC (.str "lack")) aNil))))) (bB (cQ 4 (eOp oIx (eF (oA (aB (eC (.int 3)) (aB (eC (.int 3)) (aB (eC (.int 3)) (aB (eOp zA (eC (.int 10)) (eC (.int 6))) aNil)))))) (eOp jC (eOp lC (aD 0) (eC (.int 6))) (eC (.int 4))))) yO) sNext) kL)
abbrev qH:Sv:=(bB (zDQ 3 (oA aNil)) qI)
def fG:Mir:=fn 2 7 (bB (cQ 2 (eOp oIx (eF (oA (aB (eC (.str "even")) (aB (eC (.str "row")) (aB (eC (.str "lack")) (aB (eC (.str "half")) (aB (eC (.str "part")) (aB (eC (.str "back")) aNil)))))))) (eOp jC (aD 0) (eC (.int 6))))) qH)
abbrev kN:Sv:=(sIf (dR (aM iW (aB (aD 0) (aB (aD 1) (aB (aD 4) (aB (aD 5) aNil)))))) (fZ (qO (aB (eC d_PAIR) (aB (aD 2) (aB (aD 4) (aB (aD 5) aNil)))))) sNext)
abbrev eJ:Sv:=(tX (zEl (aB (eOp pJ (aD 4) (eC (.int 1))) (aB (aD 3) aNil))) (gName 5) kN)
abbrev qE:Sv:=(fZ (eC .non))
abbrev zAF:Sv:=(bB (tX (zJ (aB (aD 3) aNil)) (gName 4) eJ) qE)
def eH:Mir:=fn 3 6 (bB (cQ 3 (eB lA (aB (aM aY (aB (aD 0) aNil)) aNil))) zAF)
abbrev sN:Sv:=(zDQ 2 (zNG (zMZ (eF (fSl (aD 2) oN (oS (eUn zLr (aD 8))))) (eF (oA (aB (aM fG (aB (eOp lC (aD 7) (eC (.int 12))) (aB (eF (fSl (aD 2) (oS (eUn zLr (aD 8))) oN)) aNil))) aNil))))))
abbrev rH:Sv:=(bB (cQ 8 (zCf (eOp pJ (eC (.int 1)) (eOp jC (eOp lC (aD 7) (eC (.int 3))) (eB zLJ (aB (eC (.int 4)) (aB (eB lA (aB (aD 2) aNil)) aNil))))))) sN)
abbrev rK:Sv:=(sIf (zAo (dR (eOp oEq (eOp jC (aD 7) (eC (.int 3))) (eC (.int 1)))) (dR (eOp oLt (aD 3) (eC (.int 5))))) (bB (cQ 3 (eOp pJ (aD 3) (eC (.int 1)))) rH) sNext)
abbrev sJ:Sv:=(bB (cQ 7 (eOp jC (aM cY (aB (aD 0) (aB (eOp pJ (eC (.int 7)) (aD 5)) aNil))) (eOp zA (eC (.int 10)) (eC (.int 30))))) rK)
abbrev tV:Sv:=(bB (zGS 2 (aM zAE (aB (aM gW (aB (aD 6) (aB (eOp jC (eOp lC (aD 1) (eC (.int 6))) (eC (.int 3))) aNil))) aNil))) sJ)
abbrev iT:Sv:=(bB (cQ 6 (eOp jC (aM cY (aB (aD 0) (aB (eOp pJ (eC (.int 1)) (aD 5)) aNil))) (eOp zA (eC (.int 10)) (eC (.int 30))))) tV)
abbrev sS:Sv:=(fZ (eOp oIx (aD 2) (eC (.int 0))))
abbrev lE:Sv:=(sFrzAt 2 (bB (sIf (zFN (dR (eOp oGt (eB lA (aB (aD 2) aNil)) (eC (.int 1)))) (dR (eOp oGt (eOp jC (eOp lC (aD 1) (eC (.int 18))) (eC (.int 4))) (eC (.int 0))))) (fZ (aM fG (aB (eOp lC (aD 1) (eC (.int 72))) (aB (aD 2) aNil)))) sNext) sS))
abbrev fJ:Sv:=(bB (tX (zJ (aB (aD 4) aNil)) (gName 5) iT) lE)
abbrev mM:Sv:=(bB (sIf (dR (eOp oEq (eOp jC (eOp lC (aD 1) (eC (.int 90))) (eC (.int 8))) (eC (.int 1)))) (cQ 4 (eOp pJ (aD 4) (eC (.int 6)))) sNext) fJ)
abbrev mI:Sv:=(bB (cQ 4 (eOp pJ (eC (.int 1)) (eOp jC (aD 1) (eC (.int 6))))) mM)
abbrev mK:Sv:=(bB (cQ 3 (eC (.int 0))) mI)
abbrev mH:Sv:=(bB (zDQ 2 (oA aNil)) mK)
def fQ:Mir:=fn 1 9 (bB (cQ 1 (eOp jC (aM cY (aB (aD 0) (aB (eC (.int 0)) aNil))) (eOp zA (eC (.int 10)) (eC (.int 30))))) mH)
abbrev qN(r:Mir):Sv:=(zKV 3 (eP r (aB (aD 4) (aB (aD 5) aNil))))
abbrev zG(r:Mir):Sv:=(gU 3)
abbrev zAI(r:Mir):Sv:=(bB (tX (zKS (aB (aM aY (aB (aD 0) aNil)) (aB (aD 2) aNil))) (zBb (gB (gName 4) (gB (gName 5) zBm))) (qN r)) (zG r))
abbrev zAd(r:Mir):Sv:=(bB (zDQ 3 (oA aNil)) (zAI r))
abbrev zAp(r:Mir):Sv:=(bB (cQ 2 (eF (eP iN (aB (aM hU (aB (aD 0) aNil)) (aB (aM cS (aB (aD 0) aNil)) (aB (eF (eP eI (aB (aD 0) aNil))) (aB (aD 1) aNil))))))) (zAd r))
def gF(r:Mir):Mir:=fn 2 6 (bB (sIf (dR (aM bV (aB (aD 0) aNil))) (mB (oA (aB (aD 1) aNil))) sNext) (zAp r))
def eG:Nat->Mir
 | 0=>fn 2 6 sNo
 | n+1=>gF (eG n)
abbrev zDP:Sv:=(mB (eP (eG 10) (aB (aD 0) (aB (aD 1) aNil))))
def iJ:Mir:=fn 2 2 (bB (rZ (aM bF (aB (aD 1) (aB (aM bW (aB (aM dC (aB (aD 0) aNil)) aNil)) aNil)))) zDP)
abbrev tY(r:Mir):Sv:=(sIf (dR (zDk (aD 3))) (fZ (aD 3)) sNext)
abbrev iM(r:Mir):Sv:=(bB (cQ 3 (aM r (aB (aD 6) (aB (eOp oIx (aD 4) (aD 5)) (aB (eOp pJ (aD 2) (qO (aB (aD 5) aNil))) aNil))))) (tY r))
abbrev kY(r:Mir):Sv:=(fZ (eC .non))
abbrev tL(r:Mir):Sv:=(bB (tX (zGv (aM aY (aB (aD 0) aNil))) (zBb (gB (gName 5) (gB (gName 6) zBm))) (iM r)) (kY r))
abbrev uK(r:Mir):Sv:=(bB (cQ 4 (eF (eP iE (aB (aD 0) (aB (aD 1) aNil))))) (tL r))
abbrev tP(r:Mir):Sv:=(bB (sIf (dR (zDk (aD 3))) (fZ (aD 3)) sNext) (uK r))
abbrev uN(r:Mir):Sv:=(bB (cQ 3 (aM eH (aB (aD 0) (aB (aD 1) (aB (aD 2) aNil))))) (tP r))
def cH(r:Mir):Mir:=fn 3 7 (bB (sIf (dR (aM bV (aB (aD 0) aNil))) (fZ (eC .non)) sNext) (uN r))
def bA:Nat->Mir
 | 0=>fn 3 7 sNo
 | n+1=>cH (bA n)
abbrev iO:Sv:=(sIf (dR (aM cG (aB (eOp oIx (aD 1) (aD 2)) (aB (aM bW (aB (aD 3) aNil)) aNil)))) (fZ (qO (aB (eC d_OVER) (aB (aD 2) aNil)))) sNext)
abbrev uM:Sv:=(fZ (qO (aB (eC d_CATCH) (aB (aM jM (aB (aD 1) aNil)) aNil))))
abbrev tH:Sv:=(bB (sIf (dR (zDk (aD 4))) (fZ (aD 4)) sNext) uM)
abbrev fK:Sv:=(bB (cQ 4 (aM (bA 10) (aB (aD 0) (aB (aD 1) (aB (qO aNil) aNil))))) tH)
abbrev tR:Sv:=(bB (tX (zGv (eF (eP (bH 10) (aB (aD 0) aNil)))) (zBb (gB (gName 2) (gB (gName 3) zBm))) iO) fK)
def bS:Mir:=fn 2 5 (bB (rZ (aM dH (aB (aD 0) (aB (aD 1) aNil)))) tR)
abbrev jZ:Sv:=(zDf 3 (aD 6) (zCf (aM bE (aB (eOp oIx (aD 3) (aD 6)) (aB (qO (aB (eOp zAa (eC (.int 0)) (eOp oIx (aD 7) (eC (.int 0)))) (aB (eOp oIx (aD 7) (eC (.int 1))) aNil))) aNil)))))
abbrev qW:Sv:=(gU 3)
abbrev dB:Sv:=(bB (sIf (dR (eOp oEq (aD 4) (eC (.int 7)))) (zDf 3 (aD 5) (zCf (aM bE (aB (eOp oIx (aD 3) (aD 5)) (aB (qO (aB (eOp oO (eOp oIx (aD 2) (aD 5)) (eOp oIx (eF (oA (aB (eC (.int 1)) (aB (eOp zAa (eC (.int 0)) (eC (.int 1))) aNil)))) (eOp jC (eOp lC (aD 1) (eC (.int 19))) (eC (.int 2))))) (aB (eC (.int 1)) aNil))) aNil))))) sNext) qW)
abbrev cD:Sv:=(bB (sIf (dR (eOp oEq (aD 4) (eC (.int 6)))) (zDf 3 (aD 5) (aM cK (aB (eOp oIx (aD 2) (aD 5)) (aB (eOp lC (aD 1) (eC (.int 17))) aNil)))) sNext) dB)
abbrev dI:Sv:=(bB (sIf (dR (eOp oGt (aD 4) (eC (.int 3)))) (bB (zDf 3 (aD 5) (zCf (aM bE (aB (eOp oIx (aD 3) (aD 5)) (aB (aD 7) aNil))))) jZ) sNext) cD)
abbrev kI:Sv:=(bB (cQ 7 (aM cP (aB (eOp pJ (eC (.int 1)) (eOp jC (eOp lC (aD 1) (eC (.int 11))) (eC (.int 3)))) (aB (eOp pJ (eC (.int 1)) (eOp jC (eOp lC (aD 1) (eC (.int 13))) (eC (.int 5)))) aNil)))) dI)
abbrev kW:Sv:=(bB (cQ 6 (eOp jC (eOp lC (aD 1) (eC (.int 336))) (eB lA (aB (aD 2) aNil)))) kI)
abbrev kZ:Sv:=(bB (cQ 5 (eOp jC (eOp lC (aD 1) (eC (.int 56))) (eB lA (aB (aD 2) aNil)))) kW)
abbrev kP:Sv:=(bB (cQ 4 (eOp jC (aD 1) (eC (.int 8)))) kZ)
abbrev lM:Sv:=(bB (zDQ 3 (eP iJ (aB (aD 0) (aB (aM cK (aB (eB zAS (aB (aD 2) aNil)) (aB (eOp lC (aD 1) (eC (.int 8))) aNil))) aNil)))) kP)
abbrev lF:Sv:=(bB (cQ 2 (aM (cU 10) (aB (aD 0) aNil))) lM)
def eS:Mir:=fn 2 8 (bB (cQ 1 (eOp jC (aD 1) (eOp zA (eC (.int 10)) (eC (.int 45))))) lF)
abbrev zHi:Sv:=(sIf (zAo (zGH (dR (aD 7))) (zAo (dR (eOp oGe (eOp oIx (aD 10) (eC (.int 0))) (eC (.int 0)))) (zGH (dR (aM dO (aB (qO (aB (eB zAS (aB (aD 2) aNil)) (aB (eC (.int 1)) aNil))) (aB (aD 10) aNil))))))) (sIf (dR (eOp oEq (eF (eP iJ (aB (aD 1) (aB (aD 10) aNil)))) (aD 4))) (fZ (eC (.bl false))) sNext) sNext)
abbrev xJ:Sv:=(bB (cQ 10 (aM bE (aB (aD 5) (aB (aM cP (aB (eOp zAa (aD 9) (eC (.int 1))) (aB (eOp pJ (eC (.int 1)) (eOp jC (aD 3) (eC (.int 7)))) aNil))) aNil)))) zHi)
abbrev nX:Sv:=(tX (zJ (aB (eC (.int 3)) aNil)) (gName 9) xJ)
abbrev zDV:Sv:=(bB (sIf (zFN (dR (eOp oNe (eOp oEq (eOp oIx (aD 8) (eC (.int 0))) (eC (.str "catch"))) (aD 7))) (zAo (dR (aD 7)) (dR (eOp oNe (aD 8) (qO (aB (eC (.str "catch")) (aB (aD 5) aNil))))))) (fZ (eC (.bl false))) sNext) nX)
abbrev zEx:Sv:=(bB (cQ 8 (aM bS (aB (aD 1) (aB (eF (zKB (aB (aD 4) aNil))) aNil)))) zDV)
abbrev zGC:Sv:=(bB (cQ 7 (zNx (aD 6) (eOp oEq (eF (eP iJ (aB (aD 1) (aB (aD 5) aNil)))) (aD 4)))) zEx)
abbrev xU:Sv:=(bB (cQ 6 (eOp oEq (eF (xL (zJ (aB (eB lA (aB (aD 2) aNil)) aNil)) (zFN (dR (eOp oLt (eOp oIx (eOp oIx (aD 4) (aD 11)) (eC (.int 0))) (eC (.int 0)))) (dR (aM dO (aB (qO (aB (eOp oIx (aD 2) (aD 11)) (aB (eC (.int 1)) aNil))) (aB (eOp oIx (aD 4) (aD 11)) aNil))))) (aD 11))) (eF (oA aNil)))) zGC)
abbrev zGu:Sv:=(bB (cQ 5 (aM kX (aB (aD 4) aNil))) xU)
abbrev zEW:Sv:=(bB (cQ 4 (eF (eP eS (aB (aD 1) (aB (aD 3) aNil))))) zGu)
abbrev zCs:Sv:=(fZ (eC (.bl true)))
abbrev zJD:Sv:=(bB (tX (xK (eF (eP fO (aB (aD 0) (aB (eC (.int 13)) (aB (eC (.int 10)) aNil)))))) (gName 3) zEW) zCs)
abbrev zJT:Sv:=(bB (cQ 2 (aM (cU 10) (aB (aD 1) aNil))) zJD)
def zKL:Mir:=fn 1 11 (bB (cQ 1 (aM fQ (aB (aD 0) aNil))) zJT)
end Lw
namespace Lw
open L3 PySem Fr Fq Ln
theorem c_NOUGHT:lR=dq 0:=rfl
local macro_rules | `(tactic| symm)=>do
 let ids:Array (Lean.TSyntax `term):=(("c_NOUGHT d_WEIGHTED d_HALF d_BOAT d_MOST_BOATS d_DEEPEST d_CATCH d_OVER d_PAIR fn_at eSlQ_at slQF slQE_at slQG_l slQG_t enumF_t iZip_at sTryN_at tryN_ok retO_r iEnum_at enumF_l fComp2_at chO_s oEq_s oNe_s oTabNot_s L3.start sSeq_at seqF_nx seqF_ret sSet_at setF sOwn_at ownF sRet_at retF sRetF_at retFF sRetOwn_at retS sRetN sIf_at ifF_t ifF_f sNext sNo sDrop_at dropF dropG eVar_at varS eC eOp_at opF eUn eCall_at callF rtF eB eTup_at tupF aCons_at consF consG aNil tVal_at blF tNotB_at notF tAndB_at tandF_t tandF_f tOrB_at torF_t torF_f eAnd_at andF_t andF_f eOr_at orF_t orF_f eIf_at eifF_t eifF_f eF_at efF fLst_at fLstF fCall_at fcallF rtFF fList_at fListF_l fListF_t fComp_at fRep_at repF fCat_at catF catG eFrz_at frzF fFrz_at fFrzF oN oS_at oSF fSl_at fSlF fSlG fSlH eNotN_at notNF isNon sApp_at appS appF sExt_at extS extF sAug_at augS augF xSet_at xsetF setG sUnp_at unpF nxF bSum_l bSum_t gTup_at gtF_t gCons_at gNil_at gName sFor_at forF iSeq_at seqD_l seqD_t iRng1_at iRng2_at sFrz sFrzAt frzAt tFrzB okb erb Rt.d fin oAdd_i oSub_i oMul_i oDiv_i oMod_i oPow_i oEq_i oNe_i oLt_i oLe_i oGt_i oGe_i oIx_tc dp_mk ty_dp len_dp ix_dp0 ix_dp1 dep_dp noL_dp oEq_dp oNe_dp noLs_dps oNeg_i oNot_b bAbs_i bLen_t bLen_l bMin_i bTup_t bTup_l eIsT_at isTF isT ty_i ty_t ty_l ty_b ty_s ty_n ofO_some atD sRaise_at raiseF Sl.frz noErr dep depS noL noLs Qi Vt Y4 Yy Vr List.replicate Qk X8 List.getElem?_cons_zero List.getElem?_cons_succ List.set_cons_zero List.set_cons_succ Nat.reduceAdd Nat.reduceSub Nat.reduceLeDiff Nat.reduceEqDiff Q6 Yc Nat.max_self Vk if_true ite_true ite_false if_false V9 Bool.not_true Bool.not_false reduceIte ite_self Int.toNat_zero Int.reduceToNat Int.reduceLE Int.reduceLT Yf decide_true decide_false Bool.or_true Bool.or_false Bool.true_or Bool.false_or U3 Bool.true_and Bool.and_false Bool.false_and String.reduceBEq String.reduceEq beq_self_eq_true ix_dq0 ix_dq1 ty_dq dep_dq noL_dq len_dq eq_dq oEq_dq oNe_dq Qh okDiv_lit okMul_litr okMul_litl okp9 okp30 okp40 p10 fdiv_pos fmod_pos Int.reduceEq Int.reduceNeg p10ne p10ne2 p10pos2 Int.reduceMul Int.reduceAdd Int.reduceSub Int.reduceDiv Int.reduceMod eqD Nat.reduceLT Nat.reducePow ne_eq not_true_eq_false not_false_eq_true".splitOn " ").map fun s=>⟨Lean.mkIdent s.toName⟩).toArray
 `(tactic| simp only[$[$ids:term],*])
theorem qZ(t b:Int):dA [.int t,.int b]=.ok (.v (.int (Int.gcd t b:Int))):=by
 unfold dA;symm
 refine zIm (fun ρ=>∃(x y:Int)(r:Sl),ρ=[.val (.int x),.val (.int y),r]/\0<=x/\0<=y/\Int.gcd x y=Int.gcd t b) (fun ρ=>(slI 1 ρ).toNat)
  (fun r=>(r.bind (zCC (fZ (aD 0)))).bind fin=.ok (.v (.int (Int.gcd t b:Int)))) ⟨_,_,_,rfl,by omega,by omega,by simp[Int.gcd]⟩ ?_
 rintro ρ ⟨x,y,r,rfl,hx,hy,hg⟩
 by_cases h:y=0
 ·subst h
  refine .inl ⟨rfl,?_⟩
  have e:x=(Int.gcd t b:Int):=by
   rw[Int.gcd_zero_right] at hg;omega
  rw[<-e];rfl
 ·refine .inr ⟨?_,[.val (.int y),.val (.int (x.fmod y)),.val (.int (x.fmod y))],?_,⟨y,x.fmod y,_,rfl,hy,?_,?_⟩,?_⟩
  ·symm
   rw[decide_eq_false h];rfl
  ·symm
   rw[oMod_i h];symm
  ·rw[zBt _ hy];exact Qs _ h
  ·rw[zBt _ hy];exact(Fq.zCp hx (by omega)).trans hg
  ·have:=Q0 x (show 0<y by omega)
   rw[zBt _ hy];show(x % y).toNat<y.toNat
   omega
theorem zMI{t b:Int}(hb:b≠0):(dv t b).natAbs<=b.natAbs:=Nat.le_of_dvd (by omega) (Int.natAbs_dvd_natAbs.mpr (zCZ t b))
theorem zAy{t b:Int}{n:Nat}(hb:b≠0)(hn:b.natAbs<2^n)(h:n<=8999):gQ [.int t,.int b]=.ok (.v (dq (Rat.divInt t b))):=by
 have hd:kF (dv t b)=true:=rB (zLh hb) (Vz (zMI hb) hn) h;have e0:decide (b=0)=false:=decide_eq_false hb;unfold gQ;symm;rw[e0];symm;rw[qZ];symm;by_cases c:b<0
 ·have e:-(Int.gcd t b:Int)=dv t b:=by unfold dv;rw[if_pos c]
  rw[decide_eq_true c];symm;rw[e,oDiv_i hd];symm;rw[oDiv_i hd];symm;rw[zZ hb,yI hb];rfl
 ·have e:(Int.gcd t b:Int)=dv t b:=by unfold dv;rw[if_neg c]
  rw[decide_eq_false c];symm;rw[e,oDiv_i hd];symm;rw[oDiv_i hd];symm;rw[zZ hb,yI hb];rfl
theorem zOr(t:Int):gQ [.int t,.int 0]=.err "NoFraction" := by
 unfold gQ;symm
theorem vE{p q:Rat}{m n:Nat}(hp:Sz m p)(hq:Sz n q)(h:m+n<=8999):jU [dq p,dq q]=.ok (.v (dq (p+q))):=by
 unfold jU;symm;rw[oMul_i (bQ hp.1 hq.d (by omega))];symm;rw[oMul_i (bQ hq.1 hp.d (by omega))];symm;rw[oMul_i (bQ hp.d hq.d (by omega))];symm;rw[zAy (Xk (eV p) (eV q)) (eY hp.d hq.d) h,zDZ];symm
theorem kM{p q:Rat}{m n:Nat}(hp:Sz m p)(hq:Sz n q)(h:m+n<=8999):gJ [dq p,dq q]=.ok (.v (dq (p-q))):=by
 unfold gJ;symm;rw[oMul_i (bQ hp.1 hq.d (by omega))];symm;rw[oMul_i (bQ hq.1 hp.d (by omega))];symm;rw[oMul_i (bQ hp.d hq.d (by omega))];symm;rw[zAy (Xk (eV p) (eV q)) (eY hp.d hq.d) h,zIu];symm
theorem zBu{p q:Rat}{m n:Nat}(hp:Sz m p)(hq:Sz n q)(h:m+n<=8999):jD [dq p,dq q]=.ok (.v (dq (p*q))):=by
 unfold jD;symm;rw[oMul_i (bQ hp.1 hq.1 (by omega))];symm;rw[oMul_i (bQ hp.d hq.d (by omega))];symm;rw[zAy (Xk (eV p) (eV q)) (eY hp.d hq.d) h,zIF];symm
theorem zIf{p q:Rat}{m n:Nat}(hp:Sz m p)(hq:Sz n q)(h0:q≠0)(h:m+n<=8999):rS [dq p,dq q]=.ok (.v (dq (p / q))):=by
 unfold rS;symm;rw[oMul_i (bQ hp.1 hq.d (by omega))];symm;rw[oMul_i (bQ hp.d hq.1 (by omega))];symm;rw[zAy (Xk (eV p) (zIx.mpr h0)) (eY hp.d hq.1) h,zEK];symm
theorem sF{p q:Rat}{m n:Nat}(hp:Sz m p)(hq:Sz n q)(h:m+n<=99999):lK [dq p,dq q]=.ok (.v (.bl (decide (p<q)))):=by
 unfold lK;symm;rw[oMul_i (bQ hp.1 hq.d (by omega))];symm;rw[oMul_i (bQ hq.1 hp.d (by omega))];symm;simp only[lt_iff]
def mn(a b:Rat):Rat:=if a<b then a else b
def ps0(x:Rat):Rat:=if x<0 then 0 else x
def gN:List Int->Int->Rat->List Rat
 | [],_,_=>[]
 | c::r,a,q=>mn (ps0 (q-(a:Rat))) (c:Rat)::gN r (a+c) q
theorem zR:∀(cs:List Int)(a:Int)(q:Rat),(gN cs a q).length=cs.length
 | [],_,_=>rfl
 | c::r,a,q=>by simp only[gN,Qk,zR r]
theorem zKC{q:Rat}{a c:Int}(h:0<=c):ps0 (q-(a:Rat))-mn (ps0 (q-(a:Rat))) (c:Rat)=ps0 (q-((a+c:Int):Rat)):=by
 have h':(0:Rat)<=(c:Rat):=by exact_mod_cast h
 rw[Q2];unfold ps0 mn;grind
theorem cV{n:Nat}{k:Int}(h:k.natAbs<2^n)(h0:0<n):Sz n (k:Rat):=by
 refine⟨h,?_⟩
 show 1<2^n
 exact Nat.one_lt_two_pow (by omega)
theorem zLW{n:Nat}{q:Rat}(h:Sz n q)(h0:0<n):Sz n (ps0 q):=by
 unfold ps0;split
 ·exact cV (k:=0) (Nat.two_pow_pos n) h0
 ·exact h
theorem zKJ{n:Nat}{p q:Rat}(h:Sz n p)(h':Sz n q):Sz n (mn p q):=by
 unfold mn;split
 ·exact h
 ·exact h'
theorem cM(k:Int):bW [.int k]=.ok (.v (dq (k:Rat))):=by
 unfold bW;symm;rw[zLV]
theorem zCM{p q:Rat}{m n:Nat}(hp:Sz m p)(hq:Sz n q)(h:m+n<=99999):jP [dq p,dq q]=.ok (.v (dq (mn p q))):=by
 unfold jP;symm;rw[sF hp hq h];symm;unfold mn;by_cases c:p<q
 ·rw[decide_eq_true c,if_pos c]
  symm
 ·rw[decide_eq_false c,if_neg c]
  symm
structure Cl (cs:List Int):Prop where
 nn:∀ c∈cs,0<=c
 up:∀ c∈cs,c<10^30
 lo:1<=cs.length
 hi:cs.length<=12
theorem zIK:∀ {cs:List Int},(∀ c∈cs,0<=c)->(∀ c∈cs,c<10^30)->0<=cs.sum/\cs.sum<=cs.length*10^30
 | [],_,_=>by decide
 | c::r,h,h'=>by
  have ih:=zIK (fun x hx=>h x (Qd _ hx)) fun x hx=>h' x (Qd _ hx)
  have a:=h c Qe;have b:=h' c Qe;rw[Qn,Qk];refine⟨by omega,?_⟩
  have:((r.length+1:Nat):Int)*10^30=(r.length:Int)*10^30+10^30:=by rw[Xn,Xx];rfl
  omega
theorem Cl.sum{cs:List Int}(h:Cl cs):0<=cs.sum/\cs.sum<2^104:=by
 have a:=zIK h.nn h.up;have b:=h.hi;refine⟨a.1,?_⟩
 omega
structure Haul (m:Nat) (q:Rat) (W:Int):Prop where
 nn:0<=q
 up:q<=(W:Rat)
 sz:Sz m q
theorem zCL{d:D}{q:Rat}{m:Nat}(hm:m<=3000)(hq:Sz m q):∀(cs:List Int)(a:Int)(acc:List D)(s t:Sl),(∀ c∈cs,0<=c)->(∀ c∈cs,c<10^30)->0<=a->a+cs.length*10^30<2^110->acc.length+cs.length<=100->
  ∃ l' s' t',loop (gName 4) oJ (cs.map D.int) [.val d,.val (dq q),.val (dq (ps0 (q-(a:Rat)))),.own acc,s,t]=.ok (.nx [.val d,.val (dq q),l',.own (acc++(gN cs a q).map dq),s',t'])
 | [],a,acc,s,t,_,_,_,_,_=>⟨.val (dq (ps0 (q-(a:Rat)))),s,t,by rw[Vt,loop];simp[gN]⟩
 | c::r,a,acc,s,t,h1,h2,h3,h4,h5=>by
  have c0:=h1 c Qe;have c1:=h2 c Qe;rw[Qk] at h4 h5;have e4:((r.length+1:Nat):Int)*10^30=(r.length:Int)*10^30+10^30:=by rw[Xn,Xx];rfl
  have r0:0<=(r.length:Int)*10^30:=Y5 (by omega) (by decide)
  have zl:Sz (m+111) (ps0 (q-(a:Rat))):=zLW (hq.sub (cV (n:=110) (by omega) (by decide))) (by omega)
  have zc:Sz (m+111) (c:Rat):=Sz.mono (m:=110) (cV (by omega) (by decide)) (by omega)
  obtain⟨l',s',t',e⟩:=zCL hm hq r (a+c) (acc++[dq (mn (ps0 (q-(a:Rat))) (c:Rat))]) (.val (.int c)) (.val (dq (mn (ps0 (q-(a:Rat))) (c:Rat)))) (fun x hx=>h1 x (Qd _ hx)) (fun x hx=>h2 x (Qd _ hx)) (by omega) (by omega) (by rw[Qm,X7];omega)
  refine⟨l',s',t',?_⟩
  rw[Qi,dW (ρ1:=[.val d,.val (dq q),.val (dq (ps0 (q-(a:Rat)))),.own acc,.val (.int c),t]) rfl,e]
  ·rw[gN,Qi,Xi];rfl
  ·symm
   rw[cM];symm;rw[zCM zl zc (by omega)];symm;rw[if_pos (by omega)];symm;rw[kM zl (zKJ zl zc) (by omega)];symm;rw[zKC c0]
theorem zBQ{d:D}{cs:List Int}{q:Rat}(hd:d=.lst (cs.map D.int)∨d=.tup (cs.map D.int)){m:Nat}(hm:m<=3000)(hc:Cl cs)(hq:Sz m q)(h0:0<=q):fE [d,dq q]=.ok (.f ((gN cs 0 q).map dq)):=by
 have sq:zHZ d=.ok (cs.map D.int):=by rcases hd with rfl | rfl<;>rfl
 have:=hc.hi
 obtain⟨l',s',t',e⟩:=zCL (d:=d) hm hq cs 0 [] .un .un hc.nn hc.up (by decide) (by omega) (by rw[X8];omega)
 have z:ps0 (q-((0:Int):Rat))=q:=by
  unfold ps0;rw[show((0:Int):Rat)=0 from rfl];grind
 rw[z] at e;unfold fE;symm;rw[sq];symm;rw[e];rfl
def yG(cs:List Int)(q:Rat):List Rat:=cs.map fun c=>Rat.divInt (c*q.num) (max 1 cs.sum*q.den)
theorem zEJ{q:Rat}{c W:Int}(h:0<W):q / (W:Rat)*(c:Rat)=Rat.divInt (c*q.num) (W*q.den):=by
 have hW:(W:Rat)≠0:=by
  intro z;have:W=0:=by exact_mod_cast z
  omega
 rw[<-zEK q (W:Rat)];show Rat.divInt (q.num*((1:Nat):Int)) (q.den*W)*(c:Rat)=_
 rw[show((1:Nat):Int)=1 from rfl,Vq,<-Vy (c:Rat),Uo];show Rat.divInt (q.num*c) (q.den*W*((1:Nat):Int))=_
 rw[show((1:Nat):Int)=1 from rfl,Vq,Xy q.num,Xy (q.den:Int)]
theorem lX:∀ {cs:List Int},(∀ c∈cs,0<=c)->cs.sum=0->∀ c∈cs,c=0
 | [],_,_,c,h=>by cases h
 | d::r,h,e,c,hc=>by
  rw[Qn] at e;have h0:=h d Qe
  have hr:0<=r.sum:=by
   have:∀ l:List Int,(∀ c∈l,0<=c)->0<=l.sum:=by
    intro l
    induction l with
    | nil=>intro _;decide
    | cons a l ih=>intro hl;rw[Qn];have:=hl a Qe;have:=ih fun x hx=>hl x (Qd _ hx);omega
   exact this r fun x hx=>h x (Qd _ hx)
  rcases Qc.mp hc with rfl | hc
  ·omega
  ·exact lX (fun x hx=>h x (Qd _ hx)) (by omega) c hc
theorem zC{d:D}{cs:List Int}{q:Rat}(hd:d=.lst (cs.map D.int)∨d=.tup (cs.map D.int)){m:Nat}(hm:m<=3000)(hc:Cl cs)(hq:Sz m q):eM [d,dq q]=.ok (.f ((yG cs q).map dq)):=by
 have sm:=hc.sum;have hi:=hc.hi;have sq:zHZ d=.ok (cs.map D.int):=by rcases hd with rfl | rfl<;>rfl
 have su:zAS [d]=.ok (.int cs.sum):=by rcases hd with rfl | rfl;exact bSum_l;exact bSum_t
 have ln:lA [d]=.ok (.int cs.length):=by rcases hd with rfl | rfl<;>(symm)
 unfold eM;symm;rw[su];symm;by_cases c0:cs.sum=0
 ·rw[decide_eq_true c0]
  symm;rw[ln];symm;rw[zGs (by omega)];symm
  have e:(yG cs q).map dq=List.replicate cs.length (dq 0):=by
   unfold yG;rw[Qz,<-List.map_const'];refine Vv fun c h=>?_
   have c0:=lX hc.nn c0 c h;subst c0;show dq (Rat.divInt (0*q.num) _)=dq 0
   rw[Int.zero_mul,Rat.zero_divInt]
  rw[e]
 ·rw[decide_eq_false c0]
  symm;have W0:0<cs.sum:=by omega
  have zW:Sz 110 (cs.sum:Rat):=cV (by omega) (by decide)
  have nW:(cs.sum:Rat)≠0:=by
   intro z;have:cs.sum=0:=by exact_mod_cast z
   omega
  rw[cM];symm;rw[zIf hq zW nW (by omega)];symm;rw[sq];symm
  rw[xX (u:=D.int) (g:=fun c=>dq (Rat.divInt (c*q.num) (max 1 cs.sum*q.den))) (by omega) (fun c h=>by
   have c0:=hc.nn c h;have c1:=hc.up c h;symm;rw[cM];symm;rw[zBu (hq.div zW nW) (cV (n:=110) (k:=c) (by omega) (by decide)) (by omega)];symm
   rw[zEJ W0,Int.max_eq_right (by omega)])]
  symm;unfold yG;rw[Qz];rfl
def mQ(f:Nat->Rat)(l:List Nat):Rat:=(l.map f).sum
theorem bJ(f:Nat->Rat)(i:Nat)(l:List Nat):mQ f (i::l)=f i+mQ f l:=by unfold mQ;rw[Qi,Qn]
theorem nO(f:Nat->Rat):mQ f []=0:=rfl
theorem zBs{f g:Nat->Rat}:∀ {l:List Nat},(∀ i∈l,f i<=g i)->mQ f l<=mQ g l
 | [],_=>Vi
 | i::l,h=>by
  rw[bJ,bJ];have a:=h i Qe;have b:=zBs fun j hj=>h j (Qd _ hj)
  grind
theorem xM{f g:Nat->Rat}:∀ {l:List Nat},(∀ i∈l,f i<=g i)->mQ f l=mQ g l->∀ i∈l,f i=g i
 | [],_,_,i,hi=>by cases hi
 | j::l,h,e,i,hi=>by
  rw[bJ,bJ] at e;have a:=h j Qe;have hb:∀ i∈l,f i<=g i:=fun k hk=>h k (Qd _ hk)
  have b:=zBs hb;rcases Qc.mp hi with rfl | hi
  ·grind
  ·exact xM hb (by grind) i hi
theorem zAk{f:Nat->Rat}{l m:List Nat}(h:l.Perm m):mQ f l=mQ f m:=by
 induction h with
 | nil=>rfl
 | cons x _ ih=>rw[bJ,bJ,ih]
 | swap x y l=>rw[bJ,bJ,bJ,bJ];grind
 | trans _ _ h1 h2=>rw[h1,h2]
theorem iX{w:Nat->Rat}{t:Rat}:∀ {l:List Nat},mQ (fun i=>w i*t) l=t*mQ w l
 | []=>by rw[nO,nO];grind
 | i::l=>by rw[bJ,bJ,iX];grind
theorem vD{f g:Nat->Rat}{l:List Nat}(h:∀ i∈l,f i=g i):mQ f l=mQ g l:=by unfold mQ;rw[Vv h]
theorem zHe{w:Nat->Rat}:∀ {l:List Nat},(∀ i∈l,0<w i)->0<=mQ w l
 | [],_=>Vi
 | i::l,h=>by
  rw[bJ];have a:=h i Qe;have b:=zHe fun j hj=>h j (Qd _ hj)
  grind
def dE(c w:Nat->Rat)(t:Rat)(i:Nat):Rat:=mn (w i*t) (c i)
theorem zOc{a b c d:Rat}(h:a<=c)(h':b<=d):mn a b<=mn c d:=by unfold mn;grind
theorem nK{c w:Nat->Rat}{t u:Rat}{i:Nat}(hw:0<w i)(h:t<=u):dE c w t i<=dE c w u i:=
 zOc (Yt h (Xc hw)) Vi
theorem wZ{c w:Nat->Rat}{t u:Rat}{l:List Nat}(hw:∀ i∈l,0<w i)(h:mQ (dE c w t) l=mQ (dE c w u) l):∀ i∈l,dE c w t i=dE c w u i:=by
 rcases Y6 (a:=t) (b:=u) with g | g
 ·exact xM (fun i hi=>nK (hw i hi) g) h
 ·exact fun i hi=>(xM (fun i hi=>nK (hw i hi) g) h.symm i hi).symm
theorem zFZ{L W w c:Rat}(hW:0<W)(h:L*w / W<c):mn (L*w / W) c=mn (w*(L / W)) c/\mn (w*(L / W)) c=w*(L / W):=by
 have e:L*w / W=w*(L / W):=by grind
 rw[e] at h ⊢
 exact⟨rfl,if_pos h⟩
theorem zGd{r W w c:Rat}(hW:W≠0)(h:w*r<=c):mn (r*W*w / W) c=w*r:=by
 have e:r*W*w / W=w*r:=by grind
 rw[e];unfold mn;grind
theorem zFA{ci wi cj wj r:Rat}(h1:0<wi)(h2:0<wj)(h:ci*wj<=cj*wi)(hr:wi*r<=ci):wj*r<=cj:=by
 have a:wi*r*wj<=ci*wj:=Xz hr (Xc h2)
 have b:wj*r*wi<=cj*wi:=by
  have:wj*r*wi=wi*r*wj:=by grind
  rw[this];exact Y7 a h
 exact Yg b h1
theorem zDt{L W w c b:Rat}(hw:0<w)(h:¬ L*w / W<c)(hW:0<W)(hb:b*W<=L):∃ b',b<=b'/\c<=w*b'/\b' * (W-w)<=L-c:=by
 have h1:c*W<=L*w:=by
  have h':=Q3.mp h;have:=Xz h' (Xc hW)
  rwa [Xo (by grind)] at this
 have e1:w*(c / w)=c:=by grind
 have e2:c / w*(W-w)=c*W / w-c:=by grind
 have e3:c*W / w<=L:=by
  have a:c*W / w*w<=L*w:=by rw[Xo (by grind)];exact h1
  exact Yg a hw
 rcases Y6 (a:=b) (b:=c / w) with g | g
 ·exact⟨c / w,g,by rw[e1];exact Vi,by rw[e2];grind⟩
 ·refine⟨b,Vi,?_,?_⟩
  ·have:=Yt g (Xc hw)
   rwa [e1] at this
  ·have:=Yt g (Xc hw)
   rw[e1] at this;grind
structure Wt (ws cs:List Int):Prop where
 len:ws.length=cs.length
 lo:∀ w∈ws,1<=w
 up:∀ w∈ws,w<=10^6
def cR(cs:List Int)(i:Nat):Rat:=((cs.getD i 0:Int):Rat)
def nZ:List (Nat×Rat)->List D->List D
 | [],am=>am
 | p::r,am=>nZ r (am.set p.1 (dq p.2))
def wS(ws:List Int)(π:List Nat):Int:=(π.map fun i=>ws.getD i 0).sum
theorem pH(ws:List Int)(i:Nat)(π:List Nat):wS ws (i::π)=ws.getD i 0+wS ws π:=by unfold wS;rw[Qi,Qn]
theorem aR{l:List Int}{i:Nat}(h:i<l.length):l[i]?=some (l.getD i 0):=by rw[Qr,Qj h];rfl
theorem zLL{i:Nat}{k e:Ev}{ρ:Rho}{ds:List D}{d:D}{j:Nat}(h1:e ρ=.ok d)(h2:ρ[i]?=some (.own ds))(h3:k ρ=.ok (.int (j:Int)))(h4:j<ds.length):zDf i k e ρ=.ok (.nx (ρ.set i (.own (ds.set j d)))):=by
 unfold zDf;rw[h1];show(match ρ[i]? with | some (.own ds)=>_ | _=>_)=_
 rw[h2];show(k ρ).bind _=_
 rw[h3];exact if_pos ⟨Va j,by omega⟩
theorem zMK{ds:List D}{d:D}{i:Nat}(h:i<ds.length):oIx (.lst (ds.set i d)) (.int (i:Int))=.ok d:=by
 have e:=mE (f:=id) (l:=ds.set i d) (i:=(i:Int)) (a:=d) (Va i) (show(ds.set i d)[i]?=some d from Ve h)
 rwa [List.map_id] at e
theorem Wt.at{ws cs:List Int}(h:Wt ws cs){i:Nat}(hi:i<cs.length):1<=ws.getD i 0/\ws.getD i 0<=10^6:=by
 have:=aR (l:=ws) (i:=i) (by rw[h.len];exact hi)
 exact⟨h.lo _ (Qg this),h.up _ (Qg this)⟩
theorem Wt.sum{ws cs:List Int}(h:Wt ws cs):∀ {π:List Nat},(∀ i∈π,i<cs.length)->(π.length:Int)<=wS ws π/\wS ws π<=π.length*10^6
 | [],_=>⟨Yf _,Yf _⟩
 | i::π,hi=>by
  have a:=h.at (hi i Qe);have b:=h.sum fun j hj=>hi j (Qd _ hj)
  rw[pH,Qk];omega
def Sq(d:D)(l:List Int):Prop:=d=.lst (l.map D.int)∨d=.tup (l.map D.int)
theorem Sq.ix{d:D}{l:List Int}(h:Sq d l){i:Nat}(hi:i<l.length):oIx d (.int (i:Int))=.ok (.int (l.getD i 0)):=by
 rcases h with rfl | rfl
 ·exact mE (Va i) (aR hi)
 ·exact xV (Va i) (aR hi)
theorem Sq.sum{d:D}{l:List Int}(h:Sq d l):zAS [d]=.ok (.int l.sum):=by
 rcases h with rfl | rfl
 ·exact bSum_l
 ·exact bSum_t
theorem Sq.len{d:D}{l:List Int}(h:Sq d l):lA [d]=.ok (.int l.length):=by
 rcases h with rfl | rfl
 ·rw[bLen_l,Qh]
 ·rw[bLen_t,Qh]
theorem Sq.seq{d:D}{l:List Int}(h:Sq d l):zHZ d=.ok (l.map D.int):=by
 rcases h with rfl | rfl<;>rfl
theorem Sq.seqo{d:D}{l:List Int}(h:Sq d l):zGQ d=some (l.map D.int):=by
 rcases h with rfl | rfl<;>rfl
theorem zDX{ws cs:List Int}{wd cd:D}(sw:Sq wd ws)(sc:Sq cd cs){qv s7:Sl}{L:Rat}{W:Int}{i:Nat}{am:List D}(hW:Wt ws cs)(hc:∀ c∈cs,0<=c/\c<10^30){m:Nat}(hm:m<=3000)(hL:Sz (m+250) L)(W0:0<W)(W1:W<=12*10^6)(hi:i<cs.length)(ha:am.length=cs.length){a:Rat}(ea:mn (L*cR ws i / (W:Rat)) (cR cs i)=a):
  bR [.val wd,.val cd,qv,.val (dq L),.val (.int W),.own am,.val (.int (i:Nat)),s7]=
   .ok (.nx [.val wd,.val cd,qv,.val (dq (L-a)),.val (.int (W-ws.getD i 0)),.own (am.set i (dq a)),.val (.int (i:Nat)),.val (dq (L*cR ws i / (W:Rat)))]):=by
 have hiw:i<ws.length:=by rw[hW.len];exact hi
 obtain⟨w1,w2⟩:=hW.at hi;obtain⟨c1,c2⟩:=hc _ (Qg (aR hi));have zW:Sz 24 (W:Rat):=cV (by omega) (by decide)
 have zw:Sz 20 (cR ws i):=cV (by omega) (by decide)
 have zc:Sz (m+294) (cR cs i):=Sz.mono (m:=100) (cV (by omega) (by decide)) (by omega)
 have nW:(W:Rat)≠0:=by
  intro z;have:W=0:=by exact_mod_cast z
  omega
 have fw:bW [.int (ws.getD i 0)]=.ok (.v (dq (cR ws i))):=cM _;have fc:bW [.int (cs.getD i 0)]=.ok (.v (dq (cR cs i))):=cM _;have zx:Sz (m+294) (L*cR ws i / (W:Rat)):=((hL.mul zw).div zW nW).mono (by omega)
 symm;rw[sw.ix hiw];symm;rw[fw];symm;rw[zBu hL zw (by omega)];symm;rw[cM];symm;rw[zIf (hL.mul zw) zW nW (by omega)];symm
 rw[zLL (j:=i) (d:=dq a) (ds:=am) (by
  symm;rw[sc.ix hi];symm;rw[fc];symm;rw[zCM zx zc (by omega),ea]
  symm) rfl rfl (by omega)]
 symm;rw[zMK (by omega)];symm;rw[kM hL (ea ▸ zKJ zx zc) (by omega)];symm;rw[sw.ix hiw];symm
theorem pT(ws:List Int):∀ π:List Nat,mQ (cR ws) π=(wS ws π:Rat)
 | []=>rfl
 | i::π=>by rw[bJ,pT ws π,pH,Q2];rfl
theorem zAG{ws cs:List Int}{wd cd:D}(sw:Sq wd ws)(sc:Sq cd cs){qv:Sl}{r:Rat}{m:Nat}(hm:m<=3000)(hW:Wt ws cs)(hc:∀ c∈cs,0<=c/\c<10^30)(hr:Sz (m+150) r):∀(π:List Nat)(am:List D)(s6 s7:Sl),(∀ i∈π,i<cs.length)->(∀ i∈π,cR ws i*r<=cR cs i)->π.length<=12->am.length=cs.length->
  ∃ l' W' s' t',loop (gName 6) bR (kQ π) [.val wd,.val cd,qv,.val (dq (r*(wS ws π:Rat))),.val (.int (wS ws π)),.own am,s6,s7]=
   .ok (.nx [.val wd,.val cd,qv,l',W',.own (nZ (π.map fun i=>(i,cR ws i*r)) am),s',t'])
 | [],am,s6,s7,_,_,_,_=>⟨_,_,_,_,rfl⟩
 | i::π,am,s6,s7,h1,h2,h4,h5=>by
  have hi:=h1 i Qe;obtain⟨W1,W2⟩:=hW.sum h1;rw[Qk] at h4 W1 W2;have zW:Sz 24 (wS ws (i::π):Rat):=cV (by omega) (by decide)
  have nW:(wS ws (i::π):Rat)≠0:=by
   intro z;have:wS ws (i::π)=0:=by exact_mod_cast z
   omega
  have e1:wS ws (i::π)-ws.getD i 0=wS ws π:=by rw[pH];omega
  have e2:r*(wS ws (i::π):Rat)-cR ws i*r=r*(wS ws π:Rat):=by
   rw[pH,Q2];show r*(cR ws i+(wS ws π:Rat))-cR ws i*r=_
   grind
  have tn:=zDX sw sc (qv:=qv) (s7:=s7) (W:=wS ws (i::π)) (am:=am) hW hc hm ((hr.mul zW).mono (by omega)) (by omega) (by omega) hi h5 (zGd nW (h2 i Qe))
  rw[e1,e2] at tn;obtain⟨l',W',s',t',e⟩:=zAG sw sc hm hW hc hr π (am.set i (dq (cR ws i*r))) _ _ (fun j hj=>h1 j (Qd _ hj)) (fun j hj=>h2 j (Qd _ hj)) (by omega) (by rw[Q5];exact h5)
  refine⟨l',W',s',t',?_⟩
  show loop _ _ (.int (i:Nat)::kQ π) _=_
  rw[dW rfl tn,e];rfl
theorem zN{ws cs:List Int}{wd cd:D}(sw:Sq wd ws)(sc:Sq cd cs){qv:Sl}{q:Rat}{m:Nat}(hm:m<=3000)(hW:Wt ws cs)(hc:∀ c∈cs,0<=c/\c<10^30)(hq:Sz m q):∀(π:List Nat)(k:Int)(b:Rat)(am:List D)(s6 s7:Sl),(∀ i∈π,i<cs.length)->π.Pairwise (fun i j=>cR cs i*cR ws j<=cR cs j*cR ws i)->π.length<=12->am.length=cs.length->
  0<=k->k+π.length*10^30<2^110->0<=q-(k:Rat)->q-(k:Rat)<=mQ (cR cs) π->b*(wS ws π:Rat)<=q-(k:Rat)->
  ∃ t,b<=t/\mQ (dE (cR cs) (cR ws) t) π=q-(k:Rat)/\(∀ i∈π,Sz (m+155) (dE (cR cs) (cR ws) t i))/\∃ l' W' s' t',loop (gName 6) bR (kQ π) [.val wd,.val cd,qv,.val (dq (q-(k:Rat))),.val (.int (wS ws π)),.own am,s6,s7]=
   .ok (.nx [.val wd,.val cd,qv,l',W',.own (nZ (π.map fun i=>(i,dE (cR cs) (cR ws) t i)) am),s',t'])
 | [],k,b,am,s6,s7,_,_,_,_,_,_,h6,h7,_=>⟨b,Vi,by rw[nO] at h7 ⊢;grind,fun i h=>by(cases h),_,_,_,_,rfl⟩
 | i::π,k,b,am,s6,s7,h1,h2,h3,h4,h5,h5',h6,h7,h8=>by
  have hi:=h1 i Qe;have h1':∀ j∈π,j<cs.length:=fun j hj=>h1 j (Qd _ hj)
  obtain⟨W1,W2⟩:=hW.sum h1;obtain⟨V1,V2⟩:=hW.sum h1';obtain⟨w1,w2⟩:=hW.at hi;obtain⟨c1,c2⟩:=hc _ (Qg (aR hi));obtain⟨p1,p2⟩:=List.pairwise_cons.mp h2;rw[Qk] at h3 h5' W1 W2;have ek:((π.length+1:Nat):Int)*10^30=(π.length:Int)*10^30+10^30:=by rw[Xn,Xx];rfl
  have k0:0<=(π.length:Int)*10^30:=Y5 (by omega) (by decide)
  have zW:Sz 24 (wS ws (i::π):Rat):=cV (by omega) (by decide)
  have zk:Sz 110 (k:Rat):=cV (by omega) (by decide)
  have zL:Sz (m+111) (q-(k:Rat)):=(hq.sub zk).mono (by omega)
  have pW:(0:Rat)<(wS ws (i::π):Rat):=by exact_mod_cast (show 0<wS ws (i::π) by omega)
  have nW:(wS ws (i::π):Rat)≠0:=fun z=>by rw[z] at pW;exact absurd pW (by decide)
  have pw:∀ j,j<cs.length->0<cR ws j:=fun j hj=>by
   have:=(hW.at hj).1
   unfold cR;exact_mod_cast (show 0<ws.getD j 0 by omega)
  have e1:wS ws (i::π)-ws.getD i 0=wS ws π:=by rw[pH];omega
  have eW:(wS ws (i::π):Rat)=cR ws i+(wS ws π:Rat):=by rw[pH,Q2];rfl
  have pV:(0:Rat)<=(wS ws π:Rat):=by exact_mod_cast (show 0<=wS ws π by omega)
  generalize hL:q-(k:Rat)=L at h6 h7 h8 zL ⊢
  have loop1:∀ {a:Rat} {l' W' s' t':Sl} {am':List D},mn (L*cR ws i / (wS ws (i::π):Rat)) (cR cs i)=a->loop (gName 6) bR (kQ π) [.val wd,.val cd,qv,.val (dq (L-a)),.val (.int (wS ws π)),.own (am.set i (dq a)),.val (.int (i:Nat)),.val (dq (L*cR ws i / (wS ws (i::π):Rat)))]=.ok (.nx [.val wd,.val cd,qv,l',W',.own am',s',t'])->
    loop (gName 6) bR (kQ (i::π)) [.val wd,.val cd,qv,.val (dq L),.val (.int (wS ws (i::π))),.own am,s6,s7]=.ok (.nx [.val wd,.val cd,qv,l',W',.own am',s',t']):=fun {a l' W' s' t' am'} ea e=>by
   have tn:=zDX sw sc (qv:=qv) (s7:=s7) (W:=wS ws (i::π)) (am:=am) hW hc hm (zL.mono (by omega)) (by omega) (by omega) hi h4 ea
   rw[e1] at tn;show loop _ _ (.int (i:Nat)::kQ π) _=_
   rw[dW rfl tn];exact e
  by_cases hx:L*cR ws i / (wS ws (i::π):Rat)<cR cs i
  ·obtain⟨x1,x2⟩:=zFZ pW hx
   generalize hr:L / (wS ws (i::π):Rat)=r at x1 x2;have zr:Sz (m+135) r:=hr ▸ (zL.div zW nW).mono (by omega)
   have eL:L=r*(wS ws (i::π):Rat):=by rw[<-hr,Xo nW]
   have wr:cR ws i*r<=cR cs i:=by
    have e:L*cR ws i / (wS ws (i::π):Rat)=cR ws i*r:=by rw[<-hr];grind
    rw[e] at hx;exact Xc hx
   have later:∀ j∈π,cR ws j*r<=cR cs j:=fun j hj=>zFA (pw i hi) (pw j (h1' j hj)) (p1 j hj) wr
   have gj:∀ j∈i::π,dE (cR cs) (cR ws) r j=cR ws j*r:=fun j hj=>by
    have:cR ws j*r<=cR cs j:=by
     rcases Qc.mp hj with rfl | hj
     ·exact wr
     ·exact later j hj
    unfold dE mn;grind
   have e2:L-cR ws i*r=r*(wS ws π:Rat):=by rw[eL,eW];grind
   obtain⟨l',W',s',t',e⟩:=zAG sw sc (qv:=qv) hm hW hc (zr.mono (by omega)) π (am.set i (dq (cR ws i*r))) (.val (.int (i:Nat))) (.val (dq (L*cR ws i / (wS ws (i::π):Rat)))) h1' later (by omega) (by rw[Q5];exact h4)
   refine⟨r,Yg (by rw[<-eL];exact h8) pW,?_,fun j hj=>?_,l',W',s',t',loop1 (a:=cR ws i*r) (x1.trans x2) ?_⟩
   ·rw[vD gj,iX,pT,<-eL]
   ·rw[gj j hj]
    have v:=hW.at (h1 j hj);exact(Sz.mul (m:=20) (n:=m+135) (cV (by omega) (by decide)) zr).mono (by omega)
   ·rw[e2,e,Qi,nZ,gj i Qe]
    rw[Vv (g:=fun j=>(j,dE (cR cs) (cR ws) r j)) fun j hj=>by rw[gj j (Qd _ hj)]]
  ·have ea:mn (L*cR ws i / (wS ws (i::π):Rat)) (cR cs i)=cR cs i:=if_neg hx
   obtain⟨b',g1,g2,g3⟩:=zDt (pw i hi) hx pW h8;have ek2:q-((k+cs.getD i 0:Int):Rat)=L-cR cs i:=by rw[Q2,<-hL];show q-((k:Rat)+cR cs i)=_;grind
   have c0:0<=cR cs i:=by unfold cR;exact_mod_cast c1
   have cL:cR cs i<=L:=by
    have y:=Xz (Q3.mp hx) (Xc pW);rw[Xo nW] at y;have y2:L*cR ws i<=L*(wS ws (i::π):Rat):=Yt (by rw[eW];grind) h6
    exact Yg (Y7 y y2) pW
   rw[bJ] at h7
   have g3':b' * (wS ws π:Rat)<=L-cR cs i:=by
    rw[eW] at g3;have:cR ws i+(wS ws π:Rat)-cR ws i=(wS ws π:Rat):=by grind
    rw[this] at g3;exact g3
   obtain⟨t,t1,t2,tz,l',W',s',t',e⟩:=zN sw sc (qv:=qv) hm hW hc hq π (k+cs.getD i 0) b' (am.set i (dq (cR cs i))) (.val (.int (i:Nat))) (.val (dq (L*cR ws i / (wS ws (i::π):Rat)))) h1' p2 (by omega) (by rw[Q5];exact h4) (by omega) (by omega) (by rw[ek2];grind) (by rw[ek2];grind) (by rw[ek2];exact g3')
   have gi:dE (cR cs) (cR ws) t i=cR cs i:=by
    have:=Yt t1 (Xc (pw i hi))
    unfold dE mn;grind
   rw[ek2] at e t2;refine⟨t,Y7 g1 t1,?_,fun j hj=>?_,l',W',s',t',loop1 ea ?_⟩
   ·rw[bJ,gi,t2];grind
   ·rcases Qc.mp hj with rfl | hj
    ·rw[gi];exact Sz.mono (m:=100) (cV (by omega) (by decide)) (by omega)
    ·exact tz j hj
   ·rw[e,Qi,nZ,gi]
theorem vC{g:Nat->Rat}:∀(π:List Nat)(am:List D)(j:Nat),(nZ (π.map fun i=>(i,g i)) am)[j]?=if j∈π then (if j<am.length then some (dq (g j)) else none) else am[j]?
 | [],am,j=>by simp[nZ]
 | i::π,am,j=>by
  rw[Qi,nZ,vC π,Q5];by_cases h1:j∈π
  ·rw[if_pos h1,if_pos (Qd _ h1)]
  ·rw[if_neg h1]
   by_cases h2:j=i
   ·subst h2
    rw[if_pos Qe];by_cases h3:j<am.length
    ·rw[if_pos h3];exact Ve h3
    ·rw[if_neg h3,Qv (by rw[Q5];omega)]
   ·rw[if_neg (by simp[h1,h2]),Vf (fun z=>h2 z.symm)]
theorem zDC{g:Nat->Rat}{π:List Nat}{n:Nat}(h:π.Perm (List.range n)):nZ (π.map fun i=>(i,g i)) (List.replicate n (dq 0))=((List.range n).map g).map dq:=by
 refine Yr fun j=>?_
 rw[vC,Qq,Qq,Xu];by_cases hj:j<n
 ·rw[if_pos (h.mem_iff.mpr (Qt.mpr hj)),if_pos hj,Xl hj];rfl
 ·rw[if_neg (fun z=>hj (Qt.mp (h.mem_iff.mp z))),Qv (by rw[Xu];omega),Qv (by rw[Q7];omega)];rfl
theorem zEm(kz:List Int):∃ π,gI kz π:=⟨_,zFm kz⟩
theorem zKz{fs:Fv}{kf:List D->Res (List Int)}{g:Gv}{b r:Sv}{ρ:Rho}{kz:List Int}{x:Res Fl}(h1:(fs ρ).bind kf=.ok kz)(h:∀ π,gI kz π->bB (fun ρ=>loop g b (kQ π) ρ) r ρ=x):zHg fs kf g b r ρ=x:=by
 obtain⟨π,hπ⟩:=zEm kz;unfold zHg;rw[h1];exact zDy hπ h
def uY:List Rat->Int
 | []=>1
 | x::r=>x.den*uY r
def zIQ(B:Int)(x:Rat):Int:=x.num*B.fdiv x.den
theorem zCI:∀ {l:List Rat} {x:Rat},x∈l->(x.den:Int) ∣ uY l
 | y::r,x,h=>by
  rcases Qc.mp h with rfl | h
  ·exact⟨uY r,rfl⟩
  ·exact Int.dvd_trans (zCI h) ⟨y.den,Xy _ _⟩
theorem zCg:∀ l:List Rat,0<uY l
 | []=>by decide
 | x::r=>V3 (dQ x) (zCg r)
theorem zNl{l:List Rat}{x:Rat}(h:x∈l):((zIQ (uY l) x:Int):Rat)=x*(uY l:Rat):=by
 obtain⟨k,hk⟩:=zCI h;have d0:=dQ x;unfold zIQ;rw[fdiv_pos _ d0,hk,Int.mul_ediv_cancel_left _ (by omega),Vp,Vp]
 have e:x*((x.den:Int):Rat)=(x.num:Rat):=by
  have h1:=Vy x;rw[X0] at h1
  have h2:((x.den:Int):Rat)≠0:=fun z=>by
   have:(x.den:Int)=0:=by exact_mod_cast z
   omega
  rw[<-Xo (a:=(x.num:Rat)) h2,h1]
 rw[<-e];grind
theorem zK{a:Sl}:∀(l:List Rat)(B:Int)(s:Sl)(m:Nat),(∀ x∈l,(x.den:Int)<=10^6)->B.natAbs<2^m->m+20*l.length<=1000->
  ∃ s',loop (gName 2) uX (l.map dq) [a,.val (.int B),s]=.ok (.nx [a,.val (.int (B*uY l)),s'])/\(B*uY l).natAbs<2^(m+20*l.length)
 | [],B,s,m,_,h2,_=>⟨s,by rw[Vt,loop,uY,Vq],by rw[uY,Vq];exact h2⟩
 | x::r,B,s,m,h1,h2,h3=>by
  have d1:=h1 x Qe;have d0:=dQ x;rw[Qk] at h3;have hx:((x.den:Int)).natAbs<2^20:=by omega
  obtain⟨s',e,hb⟩:=zK r (B*x.den) (.val (dq x)) (m+20) (fun y hy=>h1 y (Qd _ hy)) (eY h2 hx) (by omega)
  have ed:B*uY (x::r)=B*x.den*uY r:=by rw[uY,Xp]
  refine⟨s',?_,by rw[ed,Qk,show m+20*(r.length+1)=m+20+20*r.length by omega];exact hb⟩
  rw[ed,<-e,Qi];refine dW (ρ1:=[a,.val (.int B),.val (dq x)]) rfl ?_
  symm;rw[oMul_i (bQ (m:=m) (n:=20) h2 hx (by omega))];symm
theorem zCk{B:Int}(hB:B.natAbs<2^1000):∀ {l:List Rat},(∀ x∈l,(x.den:Int)<=10^6/\Sz 500 x)->nE B (l.map dq)=.ok (l.map (zIQ B))
 | [],_=>rfl
 | x::r,h=>by
  obtain⟨d1,z⟩:=h x Qe;have d0:=dQ x;have e1:kF (x.den:Int)=true:=rB (m:=20) (by omega) (by omega) (by decide)
  have e2:hG x.num (B.fdiv x.den)=true:=by
   rw[fdiv_pos _ d0];refine bQ (m:=500) (n:=1000) z.1 (Vz ?_ hB) (by decide)
   exact Int.natAbs_ediv_le_natAbs _ _
  have k1:zGM B (dq x)=.ok (zIQ B x):=by
   show(if (kF (x.den:Int) && hG x.num (B.fdiv x.den))=true then Res.ok _ else .no)=_
   rw[e1,e2];rfl
  rw[Qi,nE,k1];show((nE B (r.map dq)).bind fun ks=>Res.ok (zIQ B x::ks))=_
  rw[zCk hB fun y hy=>h y (Qd _ hy)];rfl
theorem zDc{l:List Rat}(h:∀ x∈l,(x.den:Int)<=10^6/\Sz 500 x)(hl:l.length<=12):lW [.lst (l.map dq)]=.ok (l.map (zIQ (uY l))):=by
 obtain⟨s',e,hb⟩:=zK (a:=.val (.lst (l.map dq))) l 1 .un 1 (fun x hx=>(h x hx).1) (by decide) (by omega)
 rw[Um] at e hb;have r1:yK (start 3 [.lst (l.map dq)])=.ok (.nx [.val (.lst (l.map dq)),.val (.int 1),.un]):=rfl
 have r2:sD [.val (.lst (l.map dq)),.val (.int 1),.un]=.ok (.nx [.val (.lst (l.map dq)),.val (.int (uY l)),s']):=by
  symm;exact e
 unfold lW xY;rw[if_pos (show [D.lst (l.map dq)].length=1 from rfl),r1];show(match sD [.val (.lst (l.map dq)),.val (.int 1),.un] with | .ok (.nx ρ')=>zCV ρ' | _=>.no)=_
 rw[r2];show(if (l.map dq).length<64 then nE (uY l) (l.map dq) else .no)=_
 rw[if_pos (by rw[Qh];omega)];exact zCk (Ql hb (Vo (by decide) (by omega))) h
def lvs(ws cs:List Int):List Rat:=(cs.zip ws).map fun p=>Rat.divInt p.1 p.2
theorem zFe{ws cs:List Int}(h:ws.length=cs.length):(lvs ws cs).length=cs.length:=by unfold lvs;rw[Qh,U1,h,X9]
theorem zMG{ws cs:List Int}{i:Nat}(h:ws.length=cs.length)(hi:i<cs.length):(lvs ws cs)[i]?=some (cR cs i / cR ws i):=by
 unfold lvs;rw[Qq]
 have:(cs.zip ws)[i]?=some (cs.getD i 0,ws.getD i 0):=by
  rw[Wp];exact⟨aR hi,aR (by omega)⟩
 rw[this];show some (Rat.divInt _ _)=_
 rw[X0];rfl
theorem zCt{t b:Int}(hb:0<b):((Rat.divInt t b).den:Int)<=b:=by
 have e:=yI (t:=t) (b:=b) (by omega)
 have d0:0<=dv t b:=by unfold dv;rw[if_neg (by omega)];exact Va _
 rw[<-e,zJY _ d0];exact Int.ediv_le_self _ (by omega)
theorem zLC{ws cs:List Int}(hW:Wt ws cs)(hc:∀ c∈cs,0<=c/\c<10^30):∀ x∈lvs ws cs,(x.den:Int)<=10^6/\Sz 500 x:=fun x hx=>by
 obtain⟨p,hp,rfl⟩:=Q9.mp hx;obtain⟨h1,h2⟩:=X6 hp;have c:=hc _ h1;have w1:=hW.lo _ h2;have w2:=hW.up _ h2;have d:=zCt (t:=p.1) (b:=p.2) (by omega)
 exact⟨by omega,Sz.of (by omega) (by omega) (by omega)⟩
theorem zBB{ws cs:List Int}{wd cd:D}(sw:Sq wd ws)(sc:Sq cd cs)(hW:Wt ws cs)(hl:cs.length<=12):fB [wd,cd]=.ok (.f ((lvs ws cs).map dq)):=by
 have hw:=hW.len;unfold fB;symm;rw[sX sc.seqo sw.seqo];symm
 rw[oK (u:=D.int) (v:=D.int) (g:=fun c w=>dq (Rat.divInt c w)) (by omega) (fun p hp=>by
  have h2:=(X6 hp).2;have w1:=hW.lo _ h2;have w2:=hW.up _ h2;symm;rw[zAy (n:=20) (by omega) (by omega) (by decide)]
  symm)]
 symm;unfold lvs;rw[Qz];rfl
theorem vO(ws:List Int):∀ n,n<=ws.length->wS ws (List.range n)=(ws.take n).sum
 | 0,_=>rfl
 | n+1,h=>by
  have e:wS ws (List.range n++[n])=wS ws (List.range n)+ws.getD n 0:=by unfold wS;rw[Qy,Xd];simp
  rw[Yq,e,vO ws n (by omega),Yn,Xd,aR (show n<ws.length by omega)];simp
theorem zDT{ws:List Int}{π:List Nat}(h:π.Perm (List.range ws.length)):wS ws π=ws.sum:=by
 have e:=pT ws π;rw[zAk h,pT,vO ws _ (Qb _),Xb] at e;have:=Rat.intCast_inj.mp e
 omega
theorem zNs{a b:Sv}{ρ ρ':Rho}(h:a ρ=.ok (.nx ρ')):bB a b ρ=b ρ':=by unfold bB;rw[h];rfl
def evs(ws cs:List Int)(t:Rat):List Rat:=(List.range cs.length).map (dE (cR cs) (cR ws) t)
theorem qD{ws cs:List Int}{wd cd:D}(sw:Sq wd ws)(sc:Sq cd cs){q:Rat}{m:Nat}(hmm:m<=3000)(hW:Wt ws cs)(hc:Cl cs)(hq:Sz m q)(h0:0<=q)(h1:q<=(cs.sum:Rat)):∃ t,0<=t/\cT [wd,cd,dq q]=.ok (.f ((evs ws cs t).map dq))/\(evs ws cs t).sum=q/\∀ i,i<cs.length->Sz (m+155) (dE (cR cs) (cR ws) t i):=by
 have hcc:∀ c∈cs,0<=c/\c<10^30:=fun c h=>⟨hc.nn c h,hc.up c h⟩
 have hi:=hc.hi;have hw:=hW.len;have hkr:=zDc (zLC hW hcc) (by rw[zFe hw];exact hi)
 generalize hkz:(lvs ws cs).map (zIQ (uY (lvs ws cs)))=kz at hkr;have lz:kz.length=cs.length:=by rw[<-hkz,Qh,zFe hw]
 have pw:∀ j,j<cs.length->0<cR ws j:=fun j hj=>by
  have:=(hW.at hj).1
  unfold cR;exact_mod_cast (show 0<ws.getD j 0 by omega)
 have one:∀ π,gI kz π->∃ t,0<=t/\mQ (dE (cR cs) (cR ws) t) (List.range cs.length)=q/\(∀ i,i<cs.length->Sz (m+155) (dE (cR cs) (cR ws) t i))/\bB (fun ρ=>loop (gName 6) bR (kQ π) ρ) iU [.val wd,.val cd,.val (dq q),.val (dq q),.val (.int ws.sum),.own (List.replicate cs.length (dq 0)),.un,.un]=.ok (.ret (.f ((evs ws cs t).map dq))):=by
  intro π hπ;obtain⟨hp,ho,_⟩:=hπ;rw[lz] at hp;have hm:∀ i∈π,i<cs.length:=fun i h=>Qt.mp (hp.mem_iff.mp h)
  have hl:π.length=cs.length:=by rw[hp.length_eq,Q7]
  have B0:=zCg (lvs ws cs);have B0':(0:Rat)<(uY (lvs ws cs):Rat):=by exact_mod_cast B0
  have kat:∀ i,i<cs.length->((kz.getD i 0:Int):Rat)=cR cs i / cR ws i*(uY (lvs ws cs):Rat):=fun i h=>by
   have e:=zMG hw h;have e2:kz.getD i 0=zIQ (uY (lvs ws cs)) (cR cs i / cR ws i):=by rw[<-hkz,Qr,Qq,e];rfl
   rw[e2];exact zNl (Qg e)
  have ord:π.Pairwise (fun i j=>cR cs i*cR ws j<=cR cs j*cR ws i):=by
   refine U2 (fun {i j} h1 h2 h3=>?_) ho
   have h4:((kz.getD i 0:Int):Rat)<=((kz.getD j 0:Int):Rat):=Vb.mpr h3;rw[kat i (hm i h1),kat j (hm j h2)] at h4;have h5:=Yg h4 B0';have wi:=pw i (hm i h1);have wj:=pw j (hm j h2);have h6:=Xz h5 (Xc (Rat.mul_pos wi wj));have e1:cR cs i / cR ws i*(cR ws i*cR ws j)=cR cs i*cR ws j:=by grind
   have e2:cR cs j / cR ws j*(cR ws i*cR ws j)=cR cs j*cR ws i:=by grind
   rwa [e1,e2] at h6
  have hW':wS ws π=ws.sum:=zDT (by rw[hw];exact hp)
  have hC':mQ (cR cs) π=(cs.sum:Rat):=by rw[pT,zDT hp]
  have z0:q-((0:Int):Rat)=q:=by rw[show((0:Int):Rat)=0 from rfl];grind
  obtain⟨t,t1,t2,tz,l',W',s',t',e⟩:=zN sw sc (qv:=.val (dq q)) hmm hW hcc hq π 0 0 (List.replicate cs.length (dq 0)) .un .un hm ord (by omega) (by rw[Xu]) (by decide) (by rw[hl];omega) (by rw[z0];exact h0) (by rw[z0,hC'];exact h1) (by rw[z0];grind)
  rw[z0,hW'] at e;rw[z0] at t2;refine⟨t,t1,by rw[<-zAk hp];exact t2,fun i h=>tz i (hp.mem_iff.mpr (Qt.mpr h)),?_⟩
  refine(zNs (a:=fun ρ=>loop (gName 6) bR (kQ π) ρ) e).trans ?_
  rw[zDC hp];rfl
 obtain⟨π0,hπ0⟩:=zEm kz;obtain⟨t,t1,t2,tz,e0⟩:=one π0 hπ0;have pw':∀ i∈List.range cs.length,0<cR ws i:=fun i h=>pw i (Qt.mp h)
 refine⟨t,t1,?_,t2,tz⟩
 unfold cT;symm;rw[sw.sum];symm;rw[sc.len];symm;rw[zGs (by omega)];symm
 have hfs:Res.bind ((aB (eF (eP fB (aB (aD 0) (aB (aD 1) aNil)))) aNil) [.val wd,.val cd,.val (dq q),.val (dq q),.val (.int ws.sum),.own (List.replicate cs.length (dq 0)),.un,.un]) lW=.ok kz:=by
  symm;rw[zBB sw sc hW hi];symm;exact hkr
 have hall:∀ π,gI kz π->bB (fun ρ=>loop (gName 6) bR (kQ π) ρ) iU [.val wd,.val cd,.val (dq q),.val (dq q),.val (.int ws.sum),.own (List.replicate cs.length (dq 0)),.un,.un]=.ok (.ret (.f ((evs ws cs t).map dq))):=fun π hπ=>by
  obtain⟨u,_,u2,_,eu⟩:=one π hπ;rw[eu];unfold evs;rw[Vv (wZ pw' (u2.trans t2.symm))]
 unfold mO;rw[zKz hfs hall];rfl
def ones(cs:List Int):List Int:=List.replicate cs.length 1
theorem mT(cs:List Int):Wt (ones cs) cs:=⟨Xu,fun w h=>by rw[(List.mem_replicate.mp h).2];decide,fun w h=>by rw[(List.mem_replicate.mp h).2];decide⟩
def hf:Rat:=Rat.divInt 1 2
theorem zM:hf=1 / 2:=by unfold hf;rw[X0];rfl
theorem zNY:d_HALF=dq hf:=zMP (b:=2) (by decide)
theorem zIV:Sz 2 hf:=Sz.of (by decide) (by decide) (by decide)
theorem dbl(q:Rat):q+q=q*((2:Int):Rat):=by rw[show((2:Int):Rat)=2 from rfl];grind
theorem zGD{q:Rat}{n:Nat}(h:Sz n q):Sz (n+2) (q+q):=by rw[dbl];exact h.mul (cV (by decide) (by decide))
def hvs(cs:List Int)(t:Rat):List Rat:=(List.range cs.length).map fun i=>dE (cR cs) (cR (ones cs)) t i*hf
structure Lvl (M:Nat) (ws cs:List Int) (q t:Rat):Prop where
 nn:0<=t
 sum:(evs ws cs t).sum=q
 sz:∀ i,i<cs.length->Sz M (dE (cR cs) (cR ws) t i)
theorem zQ{cs:List Int}{cd:D}(sc:Sq cd cs){q:Rat}{m:Nat}(hm:m<=2990)(hc:Cl cs)(hq:Sz m q)(h0:0<=q)(h1:q+q<=(cs.sum:Rat)):∃ t,Lvl (m+157) (ones cs) cs (q+q) t/\eD [cd,dq q]=.ok (.f ((hvs cs t).map dq)):=by
 have hi:=hc.hi;obtain⟨t,t1,e,t2,tz⟩:=qD (wd:=.lst ((ones cs).map D.int)) (.inl rfl) sc (m:=m+2) (by omega) (mT cs) hc (zGD hq) (by grind) h1
 refine⟨t,⟨t1,t2,fun i h=>(tz i h).mono (by omega)⟩,?_⟩
 have eo:(ones cs).map D.int=List.replicate cs.length (.int 1):=by unfold ones;rw[List.map_replicate]
 rw[eo] at e;have hh:=zNY;unfold d_HALF at hh;unfold eD;symm;rw[sc.len];symm;rw[zGs (by omega)];symm;rw[vE hq hq (by omega)];symm;rw[e];symm;rw[show(evs (ones cs) cs t).map dq=(List.range cs.length).map (fun i=>dq (dE (cR cs) (cR (ones cs)) t i)) by unfold evs;rw[Qz];rfl]
 rw[xX (u:=fun i=>dq (dE (cR cs) (cR (ones cs)) t i)) (g:=fun i=>dq (dE (cR cs) (cR (ones cs)) t i*hf)) (by rw[Q7];omega) (fun i h=>by
  have hil:=Qt.mp h;symm;rw[hh,zBu (tz i hil) zIV (by omega)]
  symm)]
 symm;unfold hvs;rw[Qz];rfl
theorem Lvl.mono{M M':Nat}{ws cs:List Int}{q t:Rat}(h:Lvl M ws cs q t)(l:M<=M'):Lvl M' ws cs q t:=⟨h.nn,h.sum,fun i hi=>(h.sz i hi).mono l⟩
theorem zBy{w v:Str}(h:aX.lookup w=some v):cJ [.str w]=.ok (.v .non):=by
 unfold cJ;symm;rw[h];rfl
theorem sC{cs:List Int}{cd:D}(sc:Sq cd cs)(hc:Cl cs):dM [cd]=.ok (.v .non):=by
 have lo:=hc.lo;unfold dM;symm;rw[sc.len];symm;rw[decide_eq_false (by omega)];symm;rw[sc.seq];symm;refine zBU (Q:=fun r=>r=(.ok (.v .non):Res Rt)) (fun ρ=>∃ a,ρ=[.val cd,a]) ⟨_,rfl⟩ ?_ ?_
 ·rintro e ρ he ⟨a,rfl⟩
  obtain⟨c,h,rfl⟩:=Q9.mp he;have:=hc.nn c h
  refine⟨_,?_,.val (.int c),rfl⟩
  symm;rw[decide_eq_false (by omega)];symm
 ·rintro ρ ⟨a,rfl⟩
  rfl
theorem jV{q:Rat}{W:Int}{m:Nat}(hm:m<=3000)(h:Haul m q W)(hW:W.natAbs<2^110):bF [dq q,dq (W:Rat)]=.ok (.v .non):=by
 have z0:Sz 1 (0:Rat):=⟨by decide,by decide⟩
 have zW:Sz 110 (W:Rat):=cV hW (by decide)
 have n1:¬ q<0:=Q3.mpr h.nn;have n2:¬ (W:Rat)<q:=Q3.mpr h.up
 have io:cG [dq q,dq (W:Rat)]=.ok (.v (.bl false)):=by
  unfold cG;symm;rw[sF h.sz z0 (by omega),decide_eq_false n1];symm;rw[sF zW h.sz (by omega),decide_eq_false n2];symm
 unfold bF;symm;rw[io];symm
theorem kJ{α β:Type}(l:List α)(f:Nat->β)(d:α):l.zip ((List.range l.length).map f)=(List.range l.length).map fun i=>(l.getD i d,f i):=by
 refine Yr fun i=>?_
 rw[Qq];by_cases h:i<l.length
 ·rw[Xl h]
  refine Wp.mpr ⟨?_,by rw[Qq,Xl h];rfl⟩
  show l[i]?=some (l.getD i d)
  rw[Qr,Qj h];rfl
 ·rw[Qv (by rw[U1];omega),Qv (by rw[Q7];omega)];rfl
theorem iH{w:Str}{d:D}{n:Int}(hd:d=.lst []∨d=.tup [])(hw:oIn (.str w) d_WEIGHTED=.ok (.bl false)):aU [.str w,d,.int n]=.ok (.v .non):=by
 have sq:zHZ d=.ok []:=by rcases hd with rfl | rfl<;>rfl
 have ln:lA [d]=.ok (.int 0):=by rcases hd with rfl | rfl<;>rfl
 unfold d_WEIGHTED at hw;unfold aU;symm;rw[hw];symm;rw[ln];symm;rw[sq];rfl
theorem zPC:pE 10 6=true:=by decide
theorem oP{w:Str}{ws cs:List Int}{wd:D}(sw:Sq wd ws)(hW:Wt ws cs)(hw:oIn (.str w) d_WEIGHTED=.ok (.bl true)):aU [.str w,wd,.int cs.length]=.ok (.v .non):=by
 have hl:=hW.len;unfold d_WEIGHTED at hw;unfold aU;symm;rw[hw];symm;rw[sw.len];symm;rw[hl,decide_eq_true rfl];symm;rw[sw.seq];symm;refine zBU (Q:=fun r=>r=(.ok (.v .non):Res Rt)) (fun ρ=>∃ a,ρ=[.val (.str w),.val wd,.val (.int cs.length),.val (.int cs.length),a]) ⟨_,rfl⟩ ?_ ?_
 ·rintro e ρ he ⟨a,rfl⟩
  obtain⟨c,h,rfl⟩:=Q9.mp he;have h1:=hW.lo c h;have h2:=hW.up c h;refine⟨_,?_,.val (.int c),rfl⟩
  symm;rw[decide_eq_false (by omega)];symm;rw[oPow_i zPC];symm;rw[decide_eq_false (by omega)];symm
 ·rintro ρ ⟨a,rfl⟩
  rfl
theorem zPb:(Str.ofString "even" == Str.ofString "row")=false:=by decide
theorem zPw:(Str.ofString "lack" == Str.ofString "row")=false:=by decide
theorem zPp:(Str.ofString "lack" == Str.ofString "even")=false:=by decide
theorem zPD:(Str.ofString "lack" == Str.ofString "part")=false:=by decide
theorem zPn:(Str.ofString "lack" == Str.ofString "half")=false:=by decide
theorem zHn:(aX.lookup (Str.ofString "even"))=some (Str.ofString "lack"):=by decide
theorem zCO:(aX.lookup (Str.ofString "lack"))=some (Str.ofString "even"):=by decide
theorem zIE{n:Nat}{ws cs:List Int}{wd cd:D}(sw:Sq wd ws)(sc:Sq cd cs){q:Rat}{m:Nat}(hm:m<=3000)(hW:Wt ws cs)(hc:Cl cs)(hq:Sz m q)(h0:0<=q)(h1:q<=(cs.sum:Rat)):∃ t,Lvl (m+155) ws cs q t/\aL (n+1) [.str (Str.ofString "even"),wd,cd,dq q]=.ok (.f ((evs ws cs t).map dq)):=by
 obtain⟨t,t1,e,t2,tz⟩:=qD sw sc hm hW hc hq h0 h1;refine⟨t,⟨t1,t2,tz⟩,?_⟩
 show aP (aL n) _=_
 unfold aP;symm;rw[sc.sum];symm;rw[cM];symm;rw[zPb];symm;rw[e];symm
def lks(ws cs:List Int)(t:Rat):List Rat:=(cs.zip (evs ws cs t)).map fun p=>(p.1:Rat)-p.2
theorem zLl(ws cs:List Int)(t:Rat):lks ws cs t=(List.range cs.length).map fun i=>cR cs i-dE (cR cs) (cR ws) t i:=by
 unfold lks evs;rw[kJ cs _ 0,Qz];rfl
theorem zMz{n:Nat}{ws cs:List Int}{wd cd:D}(sw:Sq wd ws)(sc:Sq cd cs){q:Rat}{m:Nat}(hm:m<=2890)(hW:Wt ws cs)(hc:Cl cs)(hq:Haul m q cs.sum):∃ t,Lvl (m+261) ws cs ((cs.sum:Rat)-q) t/\aL (n+2) [.str (Str.ofString "lack"),wd,cd,dq q]=.ok (.f ((lks ws cs t).map dq)):=by
 have sm:=hc.sum;have hi:=hc.hi;have zW:Sz 105 (cs.sum:Rat):=cV (by omega) (by decide)
 have zT:Sz (m+106) ((cs.sum:Rat)-q):=(zW.sub hq.sz).mono (by omega)
 have u:=hq.up;have u':=hq.nn;obtain⟨t,tl,e⟩:=zIE sw sc (n:=n) (m:=m+106) (by omega) hW hc zT (by grind) (by grind)
 refine⟨t,tl,?_⟩
 show aP (aL (n+1)) _=_
 unfold aP;symm;rw[sc.sum];symm;rw[cM];symm;rw[zPw];symm;rw[zPp];symm;rw[zPD];symm;rw[zPn];symm;rw[show zF aX (.str (Str.ofString "lack"))=.ok (.str (Str.ofString "even")) by show zLb (aX.lookup (Str.ofString "lack"))=_;rw[zCO];rfl];symm;rw[kM zW hq.sz (by omega)];symm;rw[e];symm;rw[sX sc.seqo rfl];symm
 rw[oK (u:=D.int) (v:=dq) (g:=fun c l=>dq ((c:Rat)-l)) (by omega) (fun p hp=>by
  have hp':=hp;unfold evs at hp';rw[kJ cs _ 0] at hp';obtain⟨i,hir,rfl⟩:=Q9.mp hp';have hil:=Qt.mp hir;have c1:=hc.nn _ (Qg (aR hil));have c2:=hc.up _ (Qg (aR hil));symm;rw[cM];symm;rw[kM (m:=100) (n:=m+261) (cV (by omega) (by decide)) (tl.sz i hil) (by omega)]
  symm)]
 symm;unfold lks;rw[Qz];rfl
theorem zOF:(Str.ofString "half" == Str.ofString "row")=false:=by decide
theorem zOE:(Str.ofString "half" == Str.ofString "even")=false:=by decide
theorem zOQ:(Str.ofString "half" == Str.ofString "part")=false:=by decide
theorem zCG:(aX.lookup (Str.ofString "half"))=some (Str.ofString "half"):=by decide
theorem zEb{n:Nat}{e:D}{cs:List Int}{cd:D}(sc:Sq cd cs){q:Rat}{m:Nat}(hm:m<=2990)(hc:Cl cs)(hq:Sz m q)(h0:0<=q)(h1:q+q<=(cs.sum:Rat)):∃ t,Lvl (m+157) (ones cs) cs (q+q) t/\aL (n+1) [.str (Str.ofString "half"),e,cd,dq q]=.ok (.f ((hvs cs t).map dq)):=by
 have sm:=hc.sum;have zW:Sz 105 (cs.sum:Rat):=cV (by omega) (by decide)
 obtain⟨t,tl,ee⟩:=zQ sc hm hc hq h0 h1;refine⟨t,tl,?_⟩
 show aP (aL n) _=_
 unfold aP;symm;rw[sc.sum];symm;rw[cM];symm;rw[zOF];symm;rw[zOE];symm;rw[zOQ];symm;rw[vE hq hq (by omega)];symm;rw[sF zW (zGD hq) (by omega),decide_eq_false (Q3.mpr h1)];symm;rw[ee];symm
def lhs(cs:List Int)(t:Rat):List Rat:=(List.range cs.length).map fun i=>cR cs i-dE (cR cs) (cR (ones cs)) t i*hf
theorem zJI{n:Nat}{e:D}{cs:List Int}{cd:D}(sc:Sq cd cs){q:Rat}{m:Nat}(hm:m<=2880)(hc:Cl cs)(hq:Haul m q cs.sum)(h1:(cs.sum:Rat)<q+q):∃ t,Lvl (m+263) (ones cs) cs (((cs.sum:Rat)-q)+((cs.sum:Rat)-q)) t/\aL (n+2) [.str (Str.ofString "half"),e,cd,dq q]=.ok (.f ((lhs cs t).map dq)):=by
 have sm:=hc.sum;have hi:=hc.hi;have zW:Sz 105 (cs.sum:Rat):=cV (by omega) (by decide)
 have zT:Sz (m+106) ((cs.sum:Rat)-q):=(zW.sub hq.sz).mono (by omega)
 have u:=hq.up;obtain⟨t,tl,ee⟩:=zEb sc (n:=n) (e:=e) (m:=m+106) (by omega) hc zT (by grind) (by grind)
 refine⟨t,tl,?_⟩
 show aP (aL (n+1)) _=_
 unfold aP;symm;rw[sc.sum];symm;rw[cM];symm;rw[zOF];symm;rw[zOE];symm;rw[zOQ];symm;rw[vE hq.sz hq.sz (by omega)];symm;rw[sF zW (zGD hq.sz) (by omega),decide_eq_true h1];symm;rw[show zF aX (.str (Str.ofString "half"))=.ok (.str (Str.ofString "half")) by show zLb (aX.lookup (Str.ofString "half"))=_;rw[zCG];rfl];symm;rw[kM zW hq.sz (by omega)];symm;rw[ee];symm;rw[sX sc.seqo rfl];symm
 rw[oK (u:=D.int) (v:=dq) (g:=fun c l=>dq ((c:Rat)-l)) (by omega) (fun p hp=>by
  have hp':=hp;unfold hvs at hp';rw[kJ cs _ 0] at hp';obtain⟨i,hir,rfl⟩:=Q9.mp hp';have hil:=Qt.mp hir;have c1:=hc.nn _ (Qg (aR hil));have c2:=hc.up _ (Qg (aR hil));symm;rw[cM];symm;rw[kM (m:=100) (n:=m+263+2) (cV (by omega) (by decide)) ((tl.sz i hil).mul zIV) (by omega)]
  symm)]
 symm;unfold hvs lhs;rw[kJ cs _ 0,Qz,Qz];rfl
theorem zPl:(Str.ofString "back" == Str.ofString "row")=false:=by decide
theorem zPF:(Str.ofString "back" == Str.ofString "even")=false:=by decide
theorem zOY:(Str.ofString "back" == Str.ofString "part")=false:=by decide
theorem zPt:(Str.ofString "back" == Str.ofString "half")=false:=by decide
theorem zPh:(Str.ofString "part" == Str.ofString "row")=false:=by decide
theorem zPG:(Str.ofString "part" == Str.ofString "even")=false:=by decide
theorem zJg:(aX.lookup (Str.ofString "row"))=some (Str.ofString "back"):=by decide
theorem zCx:(aX.lookup (Str.ofString "back"))=some (Str.ofString "row"):=by decide
theorem zHv:(aX.lookup (Str.ofString "part"))=some (Str.ofString "part"):=by decide
theorem zMg{n:Nat}{d e:D}{cs:List Int}{q:Rat}(hd:d=.lst (cs.map D.int)∨d=.tup (cs.map D.int)){m:Nat}(hm:m<=3000)(hc:Cl cs)(hq:Sz m q)(h0:0<=q):aL (n+1) [.str (Str.ofString "row"),e,d,dq q]=.ok (.f ((gN cs 0 q).map dq)):=by
 have su:zAS [d]=.ok (.int cs.sum):=by rcases hd with rfl | rfl;exact bSum_l;exact bSum_t
 show aP (aL n) _=_
 unfold aP;symm;rw[su];symm;rw[cM];symm;rw[zBQ hd hm hc hq h0];symm
theorem zNr{n:Nat}{d e:D}{cs:List Int}{q:Rat}(hd:d=.lst (cs.map D.int)∨d=.tup (cs.map D.int)){m:Nat}(hm:m<=3000)(hc:Cl cs)(hq:Sz m q):aL (n+1) [.str (Str.ofString "part"),e,d,dq q]=.ok (.f ((yG cs q).map dq)):=by
 have su:zAS [d]=.ok (.int cs.sum):=by rcases hd with rfl | rfl;exact bSum_l;exact bSum_t
 show aP (aL n) _=_
 unfold aP;symm;rw[su];symm;rw[cM];symm;rw[zPh];symm;rw[zPG];symm;rw[zC hd hm hc hq];symm
theorem zIy(f g:Nat->Rat):∀ n:Nat,((List.range n).map fun i=>f i-g i).sum=((List.range n).map f).sum-((List.range n).map g).sum
 | 0=>by simp only[List.range_zero,Vt,Vl];grind
 | n+1=>by
  rw[Yq,Qy,Qy,Qy,Xd,Xd,Xd,zIy f g n];simp only[Qi,Vt,Qn,Vl];grind
theorem zEN(cs:List Int):((List.range cs.length).map (cR cs)).sum=(cs.sum:Rat):=by
 have e:=pT cs (List.range cs.length);rw[vO cs _ (Qb _),Xb] at e;exact e
theorem oX{ws cs:List Int}{t:Rat}(hW:Wt ws cs)(hc:Cl cs)(h0:0<=t){i:Nat}(hi:i<cs.length):0<=dE (cR cs) (cR ws) t i/\dE (cR cs) (cR ws) t i<=cR cs i:=by
 have w:=(hW.at hi).1;have c:=hc.nn _ (Qg (aR hi));have w':(0:Rat)<=cR ws i:=by unfold cR;exact_mod_cast (show 0<=ws.getD i 0 by omega)
 have c':(0:Rat)<=cR cs i:=by unfold cR;exact_mod_cast c
 have:=Rat.mul_nonneg w' h0
 unfold dE mn;grind
theorem zHx(l:List Int):dep (.lst (l.map D.int))<=2:=by
 have:depS (l.map D.int)<=1:=by
  induction l with
  | nil=>exact Vk _
  | cons a l ih=>rw[Qi];show max 0 (depS (l.map D.int))<=1;omega
 show depS (l.map D.int)+1<=2
 omega
theorem zIB(x:Rat):(x.num:Rat)=x*((x.den:Int):Rat):=by
 have d0:=dQ x
 have nd:((x.den:Int):Rat)≠0:=fun z=>by
  have:(x.den:Int)=0:=by exact_mod_cast z
  omega
 have h1:=Vy x;rw[X0] at h1;rw[<-Xo (a:=(x.num:Rat)) nd,h1]
theorem zFO{l:List Rat}{n:Nat}(h:l.length=n):l=(List.range n).map fun i=>l.getD i 0:=by
 refine Yr fun i=>?_
 rw[Qq];by_cases hi:i<n
 ·rw[Xl hi,Qj (by omega)]
  show _=some (l.getD i 0)
  rw[Qr,Qj (by omega)];rfl
 ·rw[Qv (by omega),Qv (by rw[Q7];omega)];rfl
def uT(cs:List Int)(q:Rat)(i:Nat):Rat:=(gN cs 0 q).getD i 0
theorem zEV:∀(cs:List Int)(a:Int)(q:Rat)(i:Nat),(∀ c∈cs,0<=c)->i<cs.length->0<=(gN cs a q).getD i 0/\(gN cs a q).getD i 0<=cR cs i
 | c::r,a,q,0,h,_=>by
  have c0:(0:Rat)<=(c:Rat):=by exact_mod_cast h c Qe
  show 0<=mn (ps0 (q-(a:Rat))) (c:Rat)/\mn (ps0 (q-(a:Rat))) (c:Rat)<=(c:Rat)
  unfold mn ps0;grind
 | c::r,a,q,i+1,h,hi=>zEV r (a+c) q i (fun x hx=>h x (Qd _ hx)) (by rw[Qk] at hi;omega)
theorem rV:∀(cs:List Int)(a:Int){q q':Rat}(i:Nat),q<=q'->(gN cs a q).getD i 0<=(gN cs a q').getD i 0
 | [],_,_,_,_,_=>Vi
 | c::r,a,q,q',0,h=>by
  show mn (ps0 (q-(a:Rat))) (c:Rat)<=mn (ps0 (q' - (a:Rat))) (c:Rat)
  unfold mn ps0;grind
 | c::r,a,q,q',i+1,h=>rV r (a+c) i h
theorem zCu:∀(cs:List Int)(a:Int)(q:Rat),(∀ c∈cs,0<=c)->0<=cs.sum/\(gN cs a q).sum=mn (ps0 (q-(a:Rat))) (cs.sum:Rat)
 | [],a,q,_=>⟨Yf _,by show(0:Rat)=mn (ps0 _) ((0:Int):Rat);rw[show((0:Int):Rat)=0 from rfl];unfold mn ps0;grind⟩
 | c::r,a,q,h=>by
  have c0:=h c Qe;obtain⟨s0,e⟩:=zCu r (a+c) q fun x hx=>h x (Qd _ hx)
  have c0':(0:Rat)<=(c:Rat):=by exact_mod_cast c0
  have s0':(0:Rat)<=(r.sum:Rat):=by exact_mod_cast s0
  rw[Qn];refine⟨by omega,?_⟩
  rw[gN,Qn,e,Q2,Q2];unfold mn ps0;grind
theorem zEz{q:Rat}{m:Nat}(hq:Sz m q):∀(cs:List Int)(a:Int),(∀ c∈cs,0<=c)->(∀ c∈cs,c<10^30)->0<=a->a+cs.length*10^30<2^110->∀ x∈gN cs a q,Sz (m+111) x
 | [],_,_,_,_,_,x,hx=>by cases hx
 | c::r,a,h1,h2,h3,h4,x,hx=>by
  have c0:=h1 c Qe;have c1:=h2 c Qe;rw[Qk] at h4;have e4:((r.length+1:Nat):Int)*10^30=(r.length:Int)*10^30+10^30:=by rw[Xn,Xx];rfl
  have r0:0<=(r.length:Int)*10^30:=Y5 (by omega) (by decide)
  rw[gN] at hx;rcases Qc.mp hx with rfl | hx
  ·exact zKJ (zLW (hq.sub (cV (n:=110) (by omega) (by decide))) (by omega)) (Sz.mono (m:=100) (cV (by omega) (by decide)) (by omega))
  ·exact zEz hq r (a+c) (fun x hx=>h1 x (Qd _ hx)) (fun x hx=>h2 x (Qd _ hx)) (by omega) (by omega) x hx
theorem zBJ{cs:List Int}{q:Rat}{m:Nat}(hc:Cl cs)(hq:Sz m q)(h0:0<=q)(h1:q<=(cs.sum:Rat)):(gN cs 0 q=(List.range cs.length).map (uT cs q))/\(gN cs 0 q).sum=q/\∀ x∈gN cs 0 q,Sz (m+111) x:=by
 have hi:=hc.hi;refine⟨zFO (zR _ _ _),?_,zEz hq cs 0 hc.nn hc.up (by decide) (by omega)⟩
 rw[(zCu cs 0 q hc.nn).2,show((0:Int):Rat)=0 from rfl];unfold mn ps0;grind
theorem zLT{n:Nat}{e:D}{cs:List Int}{cd:D}(sc:Sq cd cs){q:Rat}{m:Nat}(hm:m<=2890)(hc:Cl cs)(hq:Haul m q cs.sum):aL (n+2) [.str (Str.ofString "back"),e,cd,dq q]=.ok (.f (((List.range cs.length).map fun i=>cR cs i-uT cs ((cs.sum:Rat)-q) i).map dq)):=by
 have sm:=hc.sum;have hi:=hc.hi;have zW:Sz 105 (cs.sum:Rat):=cV (by omega) (by decide)
 have zT:Sz (m+106) ((cs.sum:Rat)-q):=(zW.sub hq.sz).mono (by omega)
 have u:=hq.up;have u':=hq.nn;obtain⟨r1,r2,r3⟩:=zBJ hc zT (by grind) (by grind)
 have ee:=zMg (n:=n) (e:=e) sc (m:=m+106) (by omega) hc zT (by grind)
 show aP (aL (n+1)) _=_
 unfold aP;symm;rw[sc.sum];symm;rw[cM];symm;rw[zPl];symm;rw[zPF];symm;rw[zOY];symm;rw[zPt];symm;rw[show zF aX (.str (Str.ofString "back"))=.ok (.str (Str.ofString "row")) by show zLb (aX.lookup (Str.ofString "back"))=_;rw[zCx];rfl];symm;rw[kM zW hq.sz (by omega)];symm;rw[ee];symm;rw[sX sc.seqo rfl];symm
 rw[oK (u:=D.int) (v:=dq) (g:=fun c l=>dq ((c:Rat)-l)) (by omega) (fun p hp=>by
  obtain⟨p1,p2⟩:=X6 hp;have c1:=hc.nn _ p1;have c2:=hc.up _ p1;symm;rw[cM];symm;rw[kM (m:=100) (n:=m+106+111) (cV (by omega) (by decide)) (r3 _ p2) (by omega)]
  symm)]
 symm;rw[r1,kJ cs _ 0,Qz,Qz];rfl
def qR(cs:List Int)(q:Rat)(i:Nat):Rat:=(yG cs q).getD i 0
theorem zCT{cs:List Int}{q:Rat}{i:Nat}(hi:i<cs.length):qR cs q i=Rat.divInt (cs.getD i 0*q.num) (max 1 cs.sum*q.den):=by
 unfold qR yG;rw[Qr,Qq,aR hi];rfl
theorem gK{cs:List Int}{q:Rat}(hc:Cl cs){i:Nat}(hi:i<cs.length):qR cs q i*(cs.sum:Rat)=q*cR cs i/\(cs.sum=0->qR cs q i=0):=by
 have sm:=hc.sum;have e:=zCT (q:=q) hi;by_cases z:cs.sum=0
 ·have c0:=lX hc.nn z _ (Qg (aR hi))
  have p0:qR cs q i=0:=by rw[e,c0,Int.zero_mul,Rat.zero_divInt]
  refine⟨?_,fun _=>p0⟩
  rw[p0];unfold cR;rw[c0,show((0:Int):Rat)=0 from rfl];grind
 ·have W0:0<cs.sum:=by omega
  have nW:(cs.sum:Rat)≠0:=fun y=>by
   have:cs.sum=0:=by exact_mod_cast y
   omega
  refine⟨?_,fun y=>absurd y z⟩
  rw[e,Int.max_eq_right (by omega),<-zEJ W0];show q / (cs.sum:Rat)*cR cs i*(cs.sum:Rat)=_
  grind
theorem zFW{cs:List Int}{q:Rat}{m:Nat}(hc:Cl cs)(hq:Sz m q){i:Nat}(hi:i<cs.length):Sz (m+370) (qR cs q i):=by
 have sm:=hc.sum;have c1:=hc.nn _ (Qg (aR hi));have c2:=hc.up _ (Qg (aR hi));rw[zCT hi];have d0:=dQ q;have p:=V3 (show 0<max 1 cs.sum by omega) d0
 exact Sz.of (by omega) (Ql (eY (m:=100) (n:=m) (by omega) hq.1) (Vo (by decide) (by omega))) (Ql (eY (m:=110) (n:=m) (by omega) hq.d) (Vo (by decide) (by omega)))
inductive Wy where
 | row | back | even | lack | part | half
def Wy.s:Wy->Str
 | .row=>Str.ofString "row"
 | .back=>Str.ofString "back"
 | .even=>Str.ofString "even"
 | .lack=>Str.ofString "lack"
 | .part=>Str.ofString "part"
 | .half=>Str.ofString "half"
def Wy.due(w:Wy)(ws cs:List Int):Prop:=match w with
 | .even=>Wt ws cs
 | .lack=>Wt ws cs
 | _=>ws=[]
def Al(M:Nat)(ws cs:List Int)(q:Rat)(f:Nat->Rat):Wy->Prop
 | .row=>∀ i,i<cs.length->f i=uT cs q i
 | .back=>∀ i,i<cs.length->f i=cR cs i-uT cs ((cs.sum:Rat)-q) i
 | .even=>∃ t,Lvl M ws cs q t/\∀ i,i<cs.length->f i=dE (cR cs) (cR ws) t i
 | .lack=>∃ t,Lvl M ws cs ((cs.sum:Rat)-q) t/\∀ i,i<cs.length->f i=cR cs i-dE (cR cs) (cR ws) t i
 | .part=>∀ i,i<cs.length->f i=qR cs q i
 | .half=>∃ t,(q+q<=(cs.sum:Rat)/\Lvl M (ones cs) cs (q+q) t/\∀ i,i<cs.length->f i=dE (cR cs) (cR (ones cs)) t i*hf)∨((cs.sum:Rat)<q+q/\Lvl M (ones cs) cs (((cs.sum:Rat)-q)+((cs.sum:Rat)-q)) t/\∀ i,i<cs.length->f i=cR cs i-dE (cR cs) (cR (ones cs)) t i*hf)
theorem rL{w:Wy}{ws cs:List Int}{wd cd:D}(sw:Sq wd ws)(sc:Sq cd cs){q:Rat}{m:Nat}(hm:m<=2880)(hw:w.due ws cs)(hc:Cl cs)(hq:Haul m q cs.sum):∃ f,aL 2 [.str w.s,wd,cd,dq q]=.ok (.f (((List.range cs.length).map f).map dq))/\Al (m+263) ws cs q f w:=by
 have z:=hq.sz
 cases w with
 | row=>exact⟨uT cs q,by rw[<-(zBJ hc z hq.nn hq.up).1];exact zMg sc (by omega) hc z hq.nn,fun i _=>rfl⟩
 | back=>exact⟨_,zLT sc (by omega) hc hq,fun i _=>rfl⟩
 | even=>
  obtain⟨t,tl,e⟩:=zIE sw sc (n:=1) (by omega) hw hc z hq.nn hq.up
  exact⟨_,e,t,tl.mono (by omega),fun i _=>rfl⟩
 | lack=>
  obtain⟨t,tl,e⟩:=zMz sw sc (n:=0) (by omega) hw hc hq
  rw[zLl] at e;exact⟨_,e,t,tl.mono (by omega),fun i _=>rfl⟩
 | part=>
  refine⟨qR cs q,?_,fun i _=>rfl⟩
  have e:yG cs q=(List.range cs.length).map (qR cs q):=zFO (by unfold yG;rw[Qh])
  rw[<-e];exact zNr sc (by omega) hc z
 | half=>
  by_cases h:(cs.sum:Rat)<q+q
  ·obtain⟨t,tl,e⟩:=zJI sc (n:=0) (e:=wd) (by omega) hc hq h
   exact⟨_,e,t,.inr ⟨h,tl,fun i _=>rfl⟩⟩
  ·obtain⟨t,tl,e⟩:=zEb sc (n:=1) (e:=wd) (by omega) hc z hq.nn (Q3.mp h)
   exact⟨_,e,t,.inl ⟨Q3.mp h,tl.mono (by omega),fun i _=>rfl⟩⟩
theorem zJj(w:Wy):∃ v,aX.lookup w.s=some v:=by
 cases w
 ·exact⟨_,zJg⟩
 ·exact⟨_,zCx⟩
 ·exact⟨_,zHn⟩
 ·exact⟨_,zCO⟩
 ·exact⟨_,zHv⟩
 ·exact⟨_,zCG⟩
theorem zCA{w:Wy}{ws cs:List Int}{wd cd:D}(sw:Sq wd ws)(sc:Sq cd cs)(hw:w.due ws cs)(hc:Cl cs):nU [.str w.s,wd,cd]=.ok (.v .non):=by
 have rw':aU [.str w.s,wd,.int cs.length]=.ok (.v .non):=by
  cases w with
  | even=>exact oP sw hw rfl
  | lack=>exact oP sw hw rfl
  | row=>have e:ws=[]:=hw;rw[e] at sw;exact iH sw rfl
  | back=>have e:ws=[]:=hw;rw[e] at sw;exact iH sw rfl
  | part=>have e:ws=[]:=hw;rw[e] at sw;exact iH sw rfl
  | half=>have e:ws=[]:=hw;rw[e] at sw;exact iH sw rfl
 obtain⟨v,hv⟩:=zJj w;unfold nU;symm;rw[zBy hv];symm;rw[sC sc hc];symm;rw[sc.len];symm;rw[rw'];symm
theorem zDU{w:Wy}{ws cs:List Int}{wd cd:D}(sw:Sq wd ws)(sc:Sq cd cs){q:Rat}{m:Nat}(hm:m<=2880)(hw:w.due ws cs)(hc:Cl cs)(hq:Haul m q cs.sum):∃ f,iN [.str w.s,wd,cd,dq q]=.ok (.f (((List.range cs.length).map f).map dq))/\Al (m+263) ws cs q f w:=by
 obtain⟨f,rd,al⟩:=rL sw sc hm hw hc hq;have sm:=hc.sum;refine⟨f,?_,al⟩
 unfold iN;symm;rw[zCA sw sc hw hc];symm;rw[sc.sum];symm;rw[cM];symm;rw[jV (by omega) hq (by omega)];symm;rw[rd];symm
structure Dl (M:Nat) (cs:List Int) (q:Rat) (f:Nat->Rat):Prop where
 bd:∀ i,i<cs.length->0<=f i/\f i<=cR cs i/\Sz M (f i)
 sum:((List.range cs.length).map f).sum=q
theorem yR{f g:Nat->Rat}{n:Nat}(h:∀ i,i<n->f i=g i):((List.range n).map f).sum=((List.range n).map g).sum:=by rw[Vv fun i hi=>h i (Qt.mp hi)]
theorem Dl.congr{M:Nat}{cs:List Int}{q:Rat}{f g:Nat->Rat}(d:Dl M cs q g)(h:∀ i,i<cs.length->f i=g i):Dl M cs q f:=⟨fun i hi=>by rw[h i hi];exact d.bd i hi,by rw[yR h];exact d.sum⟩
theorem Dl.mono{M M':Nat}{cs:List Int}{q:Rat}{f:Nat->Rat}(d:Dl M cs q f)(h:M<=M'):Dl M' cs q f:=⟨fun i hi=>⟨(d.bd i hi).1,(d.bd i hi).2.1,(d.bd i hi).2.2.mono h⟩,d.sum⟩
theorem zLg{cs:List Int}(hc:Cl cs){i:Nat}(hi:i<cs.length):0<=cR cs i/\Sz 100 (cR cs i):=by
 have c1:=hc.nn _ (Qg (aR hi));have c2:=hc.up _ (Qg (aR hi));exact⟨by unfold cR;exact_mod_cast c1,cV (by omega) (by decide)⟩
theorem Dl.dual{M:Nat}{cs:List Int}{q q':Rat}{g:Nat->Rat}(hc:Cl cs)(d:Dl M cs q' g)(h:q'=(cs.sum:Rat)-q):Dl (100+M+1) cs q (fun i=>cR cs i-g i):=by
 refine⟨fun i hi=>?_,?_⟩
 ·obtain⟨b1,b2,b3⟩:=d.bd i hi
  exact⟨by grind,by grind,(zLg hc hi).2.sub b3⟩
 ·rw[zIy,zEN,d.sum]
  grind
theorem zIM{m:Nat}{cs:List Int}{q:Rat}(hc:Cl cs)(hq:Sz m q)(h0:0<=q)(h1:q<=(cs.sum:Rat)):Dl (m+111) cs q (uT cs q):=by
 obtain⟨e,s,z⟩:=zBJ hc hq h0 h1;refine⟨fun i hi=>?_,by rw[<-e];exact s⟩
 obtain⟨b1,b2⟩:=zEV cs 0 q i hc.nn hi;exact⟨b1,b2,z _ (by rw[e];exact Q9.mpr ⟨i,Qt.mpr hi,rfl⟩)⟩
theorem zIp{M:Nat}{ws cs:List Int}{q t:Rat}(hW:Wt ws cs)(hc:Cl cs)(tl:Lvl M ws cs q t):Dl M cs q (dE (cR cs) (cR ws) t):=
 ⟨fun i hi=>⟨(oX hW hc tl.nn hi).1,(oX hW hc tl.nn hi).2,tl.sz i hi⟩,tl.sum⟩
theorem zGf{M:Nat}{cs:List Int}{q t:Rat}(hc:Cl cs)(tl:Lvl M (ones cs) cs (q+q) t):Dl (M+2) cs q (fun i=>dE (cR cs) (cR (ones cs)) t i*hf):=by
 refine⟨fun i h=>?_,?_⟩
 ·obtain⟨b1,b2⟩:=oX (mT cs) hc tl.nn h
  exact⟨by rw[zM];grind,by rw[zM];grind,(tl.sz i h).mul zIV⟩
 ·have e:=tl.sum
  have e2:=iX (w:=dE (cR cs) (cR (ones cs)) t) (t:=hf) (l:=List.range cs.length);unfold evs at e;unfold mQ at e2;rw[e2,e,zM];grind
theorem rT{a b s:Rat}(hs:s≠0)(h:a*s=b*s):a=b:=by
 have e1:a*s / s=a:=by grind
 have e2:b*s / s=b:=by grind
 rw[<-e1,<-e2,h]
theorem zFS{a b s:Rat}(hs:0<s)(h:a*s<=b*s):a<=b:=Yg h hs
theorem zKq{m:Nat}{cs:List Int}{q:Rat}(hc:Cl cs)(hq:Sz m q)(h0:0<=q)(h1:q<=(cs.sum:Rat)):Dl (m+370) cs q (qR cs q):=by
 have sm:=hc.sum;have cn:∀ i,i<cs.length->0<=cR cs i:=fun i hi=>(zLg hc hi).1
 have sc:mQ (fun i=>qR cs q i*(cs.sum:Rat)) (List.range cs.length)=q*(cs.sum:Rat):=by
  rw[vD (g:=fun i=>cR cs i*q) fun i hi=>by rw[(gK hc (Qt.mp hi)).1];grind];rw[iX,show mQ (cR cs) (List.range cs.length)=(cs.sum:Rat) from zEN cs]
 rw[iX] at sc;by_cases z:cs.sum=0
 ·have p0:∀ i,i<cs.length->qR cs q i=cR cs i:=fun i hi=>by
   have c0:=lX hc.nn z _ (Qg (aR hi));rw[(gK hc hi).2 z];unfold cR;rw[c0];rfl
  refine⟨fun i hi=>⟨by rw[p0 i hi];exact cn i hi,by rw[p0 i hi];exact Vi,zFW hc hq hi⟩,?_⟩
  rw[yR p0,zEN];have:(cs.sum:Rat)=0:=by rw[z];rfl
  grind
 ·have W:(0:Rat)<(cs.sum:Rat):=by exact_mod_cast (show 0<cs.sum by omega)
  refine⟨fun i hi=>?_,?_⟩
  ·have e:=(gK (q:=q) hc hi).1
   have c0:=cn i hi;refine⟨zFS W (by rw[e];have:=Rat.mul_nonneg h0 c0;grind),zFS W ?_,zFW hc hq hi⟩
   rw[e];have:=Xz h1 c0
   grind
  ·exact rT (s:=(cs.sum:Rat)) (by grind) (by rw[Rat.mul_comm];exact sc)
theorem zJF{m:Nat}{w:Wy}{ws cs:List Int}{q:Rat}{f:Nat->Rat}(hw:w.due ws cs)(hc:Cl cs)(hq:Haul m q cs.sum)(al:Al (m+263) ws cs q f w):Dl (m+370) cs q f:=by
 have sm:=hc.sum;have zW:Sz 105 (cs.sum:Rat):=cV (by omega) (by decide)
 have z:=hq.sz;have z':Sz (m+106) ((cs.sum:Rat)-q):=(zW.sub hq.sz).mono (by omega)
 have n:=hq.nn;have u:=hq.up
 cases w with
 | row=>exact((zIM hc z n u).mono (by omega)).congr al
 | back=>exact((Dl.dual hc (zIM hc z' (by grind) (by grind)) rfl).mono (by omega)).congr al
 | even=>
  obtain⟨t,tl,e⟩:=al;exact((zIp hw hc tl).mono (by omega)).congr e
 | lack=>
  obtain⟨t,tl,e⟩:=al;exact((Dl.dual hc (zIp hw hc tl) rfl).mono (by omega)).congr e
 | part=>exact(zKq hc z n u).congr al
 | half=>
  obtain⟨t,⟨c,tl,e⟩ | ⟨c,tl,e⟩⟩:=al
  ·exact((zGf hc tl).mono (by omega)).congr e
  ·exact((Dl.dual hc (zGf hc tl) rfl).mono (by omega)).congr e
theorem wC:∀(cs:List Int)(a:Int)(q:Rat)(i:Nat),i<cs.length->(gN cs a q).getD i 0=mn (ps0 (q-((a+(cs.take i).sum:Int):Rat))) (cR cs i)
 | c::r,a,q,0,_=>by simp[gN,cR]
 | c::r,a,q,i+1,h=>by
  have ih:=wC r (a+c) q i (by simpa using h)
  rw[Y8,Qn,<-Int.add_assoc];show(gN r (a+c) q).getD i 0=_
  rw[ih];rfl
def Dn(B:Int)(x:Rat):Prop:=∃ k:Int,x*(B:Rat)=(k:Rat)
theorem Dn.add{B:Int}{x y:Rat}(hx:Dn B x)(hy:Dn B y):Dn B (x+y):=by
 obtain⟨a,ha⟩:=hx;obtain⟨b,hb⟩:=hy;exact⟨a+b,by rw[Q2,<-ha,<-hb];grind⟩
theorem Dn.sub{B:Int}{x y:Rat}(hx:Dn B x)(hy:Dn B y):Dn B (x-y):=by
 obtain⟨a,ha⟩:=hx;obtain⟨b,hb⟩:=hy;exact⟨a-b,by rw[Rat.intCast_sub,<-ha,<-hb];grind⟩
theorem Dn.int(B c:Int):Dn B (c:Rat):=⟨c*B,by rw[Vp]⟩
theorem Dn.zero(B:Int):Dn B 0:=Dn.int B 0
theorem Dn.mul{B:Int}{x:Rat}(h:Dn B x)(E:Int):Dn (B*E) x:=by
 obtain⟨a,ha⟩:=h;exact⟨a*E,by rw[Vp,Vp,<-ha];grind⟩
theorem Dn.mn{B:Int}{x y:Rat}(hx:Dn B x)(hy:Dn B y):Dn B (Lw.mn x y):=by
 unfold Lw.mn;split
 ·exact hx
 ·exact hy
theorem Dn.ps{B:Int}{x:Rat}(hx:Dn B x):Dn B (ps0 x):=by
 unfold ps0;split
 ·exact Dn.zero B
 ·exact hx
theorem Dn.den(x:Rat):Dn (x.den:Int) x:=⟨x.num,(zIB x).symm⟩
theorem Dn.le{B:Int}{x:Rat}(h:Dn B x)(hB:0<B):(x.den:Int)<=B:=by
 obtain⟨a,ha⟩:=h
 have nB:(B:Rat)≠0:=fun z=>by
  have:B=0:=by exact_mod_cast z
  omega
 have e:x=Rat.divInt a B:=by
  rw[X0,<-ha];grind
 rw[e];exact zCt hB
theorem Dn.sz{B c:Int}{x:Rat}{a b:Nat}(h:Dn B x)(hB:0<B)(hb:B<2^b)(h0:0<=x)(h1:x<=(c:Rat))(hc:c<2^a):Sz (a+b) x:=by
 have le:=h.le hB;have d0:=dQ x;have n0:0<=x.num:=U5.mpr h0
 have c0:0<=c:=by
  have:((0:Int):Rat)<=(c:Rat):=Y7 (by rw[show((0:Int):Rat)=0 from rfl];exact h0) h1
  exact Vb.mp this
 have n1:x.num<=c*x.den:=by
  have:((x.num:Int):Rat)<=((c*x.den:Int):Rat):=by
   rw[Vp,zIB];exact Xz h1 (by have z:(0:Int)<=x.den:=(by omega);exact_mod_cast z)
  exact Vb.mp this
 have hb':(x.den:Int).natAbs<2^b:=by
  have:((2:Nat)^b:Nat)=((2:Int)^b):=by rw[Int.natCast_pow];rfl
  omega
 have ha':c.natAbs<2^a:=by
  have:((2:Nat)^a:Nat)=((2:Int)^a):=by rw[Int.natCast_pow];rfl
  omega
 have m:=eY ha' hb';refine⟨by omega,?_⟩
 have:2^b<=2^(a+b):=Vo (by decide) (by omega)
 omega
theorem zAK{c w:Nat->Rat}{ci wi:Nat->Int}{t:Rat}(hc:∀ i,c i=(ci i:Rat))(hw:∀ i,w i=(wi i:Rat)):∀ l:List Nat,(∀ i∈l,1<=wi i/\wi i<=10^6)->∃ F W:Int,mQ (dE c w t) l=(W:Rat)*t+(F:Rat)/\0<=W/\W<=l.length*10^6/\(W=0->∀ i∈l,dE c w t i=c i)
 | [],_=>⟨0,0,by rw[nO,show((0:Int):Rat)=0 from rfl];grind,by decide,by decide,fun _ i h=>by cases h⟩
 | i::l,h=>by
  obtain⟨F,W,e,w0,w1,f⟩:=zAK (t:=t) hc hw l fun j hj=>h j (Qd _ hj)
  have hi:=h i Qe;have ek:((l.length+1:Nat):Int)*10^6=(l.length:Int)*10^6+10^6:=by rw[Xn,Xx];rfl
  rw[bJ,Qk];by_cases z:w i*t<c i
  ·have g:dE c w t i=w i*t:=if_pos z
   refine⟨F,W+wi i,?_,by omega,by omega,fun z=>by omega⟩
   rw[g,e,Q2,hw];grind
  ·have g:dE c w t i=c i:=if_neg z
   refine⟨F+ci i,W,?_,w0,by omega,fun z j hj=>?_⟩
   ·rw[g,e,Q2,hc]
    grind
   ·rcases Qc.mp hj with rfl | hj
    ·exact g
    ·exact f z j hj
theorem zCR{M:Nat}{ws cs:List Int}{q t:Rat}{B:Int}(hW:Wt ws cs)(hl:cs.length<=12)(tl:Lvl M ws cs q t)(hq:Dn B q):∃ E:Int,0<E/\E<=12*10^6/\∀ i,i<cs.length->Dn (B*E) (dE (cR cs) (cR ws) t i):=by
 obtain⟨F,W,e,w0,w1,f⟩:=zAK (c:=cR cs) (w:=cR ws) (ci:=fun i=>cs.getD i 0) (wi:=fun i=>ws.getD i 0) (t:=t) (fun _=>rfl) (fun _=>rfl) (List.range cs.length) fun i hi=>hW.at (Qt.mp hi)
 have s:mQ (dE (cR cs) (cR ws) t) (List.range cs.length)=q:=tl.sum;rw[Q7] at w1;by_cases z:W=0
 ·refine⟨1,by decide,by decide,fun i hi=>?_⟩
  rw[f z i (Qt.mpr hi)];exact Dn.int _ _
 ·refine⟨W,by omega,by omega,fun i hi=>?_⟩
  unfold dE;refine Dn.mn ?_ (Dn.int _ _)
  obtain⟨k,hk⟩:=hq.sub (Dn.int B F);refine⟨ws.getD i 0*k,?_⟩
  rw[Vp,Vp,<-hk,<-s,e];show cR ws i*t*_=cR ws i*_
  grind
theorem zLv{B:Int}{x:Rat}(h:Dn B x):Dn (B*2) (x*hf):=by
 obtain⟨k,hk⟩:=h;refine⟨k,?_⟩
 rw[<-hk,Vp,zM,show((2:Int):Rat)=2 from rfl];grind
theorem zIO{cs:List Int}{q:Rat}{B:Int}(h:Dn B q){i:Nat}(hi:i<cs.length):Dn B (uT cs q i):=by
 unfold uT;rw[wC cs 0 q i hi];exact Dn.mn (Dn.ps (h.sub (Dn.int _ _))) (Dn.int _ _)
theorem zNi{M:Nat}{w:Wy}{ws cs:List Int}{q:Rat}{f:Nat->Rat}{B:Int}(hw:w.due ws cs)(hc:Cl cs)(hS:cs.sum<2^34)(al:Al M ws cs q f w)(hq:Dn B q):∃ E:Int,0<E/\E<2^34/\∀ i,i<cs.length->Dn (B*E) (f i):=by
 have hi:=hc.hi;have sm:=hc.sum;have hq':Dn B ((cs.sum:Rat)-q):=(Dn.int B cs.sum).sub hq
 cases w with
 | row=>exact⟨1,by decide,by decide,fun i hi=>by rw[al i hi,Vq];exact zIO hq hi⟩
 | back=>exact⟨1,by decide,by decide,fun i hi=>by rw[al i hi,Vq];exact(Dn.int _ _).sub (zIO hq' hi)⟩
 | even=>
  obtain⟨t,tl,e⟩:=al;obtain⟨E,e0,e1,e2⟩:=zCR hw hi tl hq;exact⟨E,e0,by omega,fun i hi=>by rw[e i hi];exact e2 i hi⟩
 | lack=>
  obtain⟨t,tl,e⟩:=al;obtain⟨E,e0,e1,e2⟩:=zCR hw hi tl hq';exact⟨E,e0,by omega,fun i hi=>by rw[e i hi];exact(Dn.int _ _).sub (e2 i hi)⟩
 | part=>
  by_cases z:cs.sum=0
  ·exact⟨1,by decide,by decide,fun i hi=>by rw[al i hi,(gK hc hi).2 z];exact Dn.zero _⟩
  ·refine⟨cs.sum,by omega,hS,fun i hi=>?_⟩
   have p:=(gK (q:=q) hc hi).1;rw[<-al i hi] at p;obtain⟨k,hk⟩:=hq;refine⟨k*cs.getD i 0,?_⟩
   rw[Vp,Vp,<-hk];show f i*((B:Rat)*(cs.sum:Rat))=q*(B:Rat)*cR cs i
   generalize (cs.sum:Rat)=S at *;generalize cR cs i=x at *;generalize f i=y at *;grind
 | half=>
  obtain⟨t,⟨c,tl,e⟩ | ⟨c,tl,e⟩⟩:=al
  ·obtain⟨E,e0,e1,e2⟩:=zCR (mT cs) hi tl (hq.add hq)
   exact⟨E*2,by omega,by omega,fun i hi=>by rw[e i hi,<-Xp];exact zLv (e2 i hi)⟩
  ·obtain⟨E,e0,e1,e2⟩:=zCR (mT cs) hi tl (hq'.add hq')
   exact⟨E*2,by omega,by omega,fun i hi=>by rw[e i hi,<-Xp];exact(Dn.int _ _).sub (zLv (e2 i hi))⟩
theorem Al.mono{M M':Nat}{w:Wy}{ws cs:List Int}{q:Rat}{f:Nat->Rat}(h:Al M ws cs q f w)(l:M<=M'):Al M' ws cs q f w:=by
 cases w with
 | row=>exact h
 | back=>exact h
 | part=>exact h
 | even=>obtain⟨t,tl,e⟩:=h;exact⟨t,tl.mono l,e⟩
 | lack=>obtain⟨t,tl,e⟩:=h;exact⟨t,tl.mono l,e⟩
 | half=>
  obtain⟨t,⟨c,tl,e⟩ | ⟨c,tl,e⟩⟩:=h
  ·exact⟨t,.inl ⟨c,tl.mono l,e⟩⟩
  ·exact⟨t,.inr ⟨c,tl.mono l,e⟩⟩
theorem zLs(q:Rat):Sz (q.num.natAbs+q.den) q:=⟨Ql Wq (Vo (by decide) (by omega)),Ql Wq (Vo (by decide) (by omega))⟩
theorem zJU{M:Nat}{w:Wy}{ws cs:List Int}{q:Rat}{f:Nat->Rat}(hw:w.due ws cs)(hc:Cl cs)(q0:0<=q)(q1:q<=(cs.sum:Rat))(al:Al M ws cs q f w):(∀ i,i<cs.length->0<=f i/\f i<=cR cs i)/\((List.range cs.length).map f).sum=q:=by
 have d:=zJF (m:=q.num.natAbs+q.den+M) hw hc ⟨q0,q1,(zLs q).mono (by omega)⟩ (al.mono (by omega))
 exact⟨fun i hi=>⟨(d.bd i hi).1,(d.bd i hi).2.1⟩,d.sum⟩
theorem wB{M M':Nat}{ws cs:List Int}{q q' t t':Rat}(hW:Wt ws cs)(a:Lvl M ws cs q t)(b:Lvl M' ws cs q' t')(h:q=q'){i:Nat}(hi:i<cs.length):dE (cR cs) (cR ws) t i=dE (cR cs) (cR ws) t' i:=by
 have pw:∀ j∈List.range cs.length,0<cR ws j:=fun j hj=>by
  have:=(hW.at (Qt.mp hj)).1
  unfold cR;exact_mod_cast (show 0<ws.getD j 0 by omega)
 exact wZ (c:=cR cs) (w:=cR ws) pw (by show(evs ws cs t).sum=(evs ws cs t').sum;rw[a.sum,b.sum,h]) i (Qt.mpr hi)
theorem zIz{M M':Nat}{w:Wy}{ws cs:List Int}{q:Rat}{f g:Nat->Rat}(hw:w.due ws cs)(a:Al M ws cs q f w)(b:Al M' ws cs q g w){i:Nat}(hi:i<cs.length):f i=g i:=by
 cases w with
 | row=>rw[a i hi,b i hi]
 | back=>rw[a i hi,b i hi]
 | part=>rw[a i hi,b i hi]
 | even=>
  obtain⟨t,tl,e⟩:=a;obtain⟨t',tl',e'⟩:=b;rw[e i hi,e' i hi,wB hw tl tl' rfl hi]
 | lack=>
  obtain⟨t,tl,e⟩:=a;obtain⟨t',tl',e'⟩:=b;rw[e i hi,e' i hi,wB hw tl tl' rfl hi]
 | half=>
  have W:=mT cs;obtain⟨t,⟨c,tl,e⟩ | ⟨c,tl,e⟩⟩:=a
  ·obtain⟨t',⟨c',tl',e'⟩ | ⟨c',tl',e'⟩⟩:=b
   ·rw[e i hi,e' i hi,wB W tl tl' rfl hi]
   ·exact absurd c' (Q3.mpr c)
  ·obtain⟨t',⟨c',tl',e'⟩ | ⟨c',tl',e'⟩⟩:=b
   ·exact absurd c (Q3.mpr c')
   ·rw[e i hi,e' i hi,wB W tl tl' rfl hi]
theorem zGE:∀ {cs:List Int} {i j:Nat},(∀ c∈cs,0<=c)->i<j->j<=cs.length->(cs.take i).sum+cs.getD i 0<=(cs.take j).sum/\0<=(cs.take i).sum
 | [],i,j,_,h,h'=>by simp at h';omega
 | c::r,i,0,_,h,_=>by omega
 | c::r,0,j+1,hn,_,_=>by
  have hr:∀ l:List Int,(∀ c∈l,0<=c)->0<=l.sum:=by
   intro l
   induction l with
   | nil=>intro _;decide
   | cons a l ih=>intro hl;rw[Qn];have:=hl a Qe;have:=ih fun x hx=>hl x (Qd _ hx);omega
  have:=hr (r.take j) fun x hx=>hn x (Qd _ (Y9 hx))
  rw[Y8,Qn];simp
  omega
 | c::r,i+1,j+1,hn,h,h'=>by
  have ih:=zGE (cs:=r) (i:=i) (j:=j) (fun x hx=>hn x (Qd _ hx)) (by omega) (by simpa using h')
  have:=hn c Qe
  rw[Y8,Qn,Y8,Qn];show c+_+r.getD i 0<=_/\_
  omega
theorem zCb{cs:List Int}{q:Rat}(hn:∀ c∈cs,0<=c){i j:Nat}(h:i<j)(hj:j<cs.length):uT cs q j=0∨uT cs q i=cR cs i:=by
 unfold uT;rw[wC cs 0 q j hj,wC cs 0 q i (by omega)];have tu:=(zGE hn h (Xs hj)).1
 have c0:(0:Rat)<=cR cs j:=by
  unfold cR;exact_mod_cast hn _ (Qg (aR hj))
 have tu':((0+(cs.take i).sum:Int):Rat)+cR cs i<=((0+(cs.take j).sum:Int):Rat):=by
  unfold cR;rw[<-Q2];exact_mod_cast (show 0+(cs.take i).sum+cs.getD i 0<=0+(cs.take j).sum by omega)
 generalize ((0+(cs.take i).sum:Int):Rat)=A at *;generalize ((0+(cs.take j).sum:Int):Rat)=B at *;generalize cR cs i=x at *;generalize cR cs j=y at *;unfold mn ps0;by_cases z:q<=B
 ·left;grind
 ·right;grind
theorem zFH{a b:Int}{x y:Rat}(h0:0<=x)(h1:x<=(a:Rat))(h2:0<=y)(h3:y<=(b:Rat))(h:y=0∨x=(a:Rat)):uT [a,b] (x+y) 0=x/\uT [a,b] (x+y) 1=y:=by
 have e0:uT [a,b] (x+y) 0=mn (ps0 (x+y-((0:Int):Rat))) (a:Rat):=rfl;have e1:uT [a,b] (x+y) 1=mn (ps0 (x+y-((0+a:Int):Rat))) (b:Rat):=rfl;rw[e0,e1,Int.zero_add,show((0:Int):Rat)=0 from rfl];unfold mn ps0;generalize (a:Rat)=A at *;generalize (b:Rat)=B at *;rcases h with h | h<;>subst h<;>grind
theorem sT{M:Nat}{ws cs:List Int}{i j:Nat}{t t':Rat}(hi:0<cR ws i)(hj:0<cR ws j)(h:Lvl M [ws.getD i 0,ws.getD j 0] [cs.getD i 0,cs.getD j 0] (dE (cR cs) (cR ws) t i+dE (cR cs) (cR ws) t j) t'):
  dE (cR [cs.getD i 0,cs.getD j 0]) (cR [ws.getD i 0,ws.getD j 0]) t' 0=dE (cR cs) (cR ws) t i/\dE (cR [cs.getD i 0,cs.getD j 0]) (cR [ws.getD i 0,ws.getD j 0]) t' 1=dE (cR cs) (cR ws) t j:=by
 have s:=h.sum
 have k:=wZ (c:=cR [cs.getD i 0,cs.getD j 0]) (w:=cR [ws.getD i 0,ws.getD j 0]) (t:=t') (u:=t) (l:=[0,1]) (by
  intro k hk;rcases Qc.mp hk with rfl | hk
  ·exact hi
  ·rw[Qw.mp hk];exact hj) (by
  have e1:mQ (dE (cR [cs.getD i 0,cs.getD j 0]) (cR [ws.getD i 0,ws.getD j 0]) t') [0,1]=(evs [ws.getD i 0,ws.getD j 0] [cs.getD i 0,cs.getD j 0] t').sum:=rfl;rw[e1,s,bJ,bJ,nO,Xq]
  rfl)
 exact⟨k 0 Qe,k 1 (Qd _ Qe)⟩
theorem zEI(a b:Int):(([a,b]:List Int).sum:Rat)=(a:Rat)+(b:Rat):=by
 rw[Qn,Qn,Vl,Int.add_zero,Q2]
def w2(ws:List Int)(i j:Nat):List Int:=if ws=[] then [] else [ws.getD i 0,ws.getD j 0]
theorem zLf(x:Rat):x*hf+x*hf=x:=by rw[zM];grind
theorem zIv{M M' N:Nat}{w:Wy}{ws cs:List Int}{q:Rat}{f g:Nat->Rat}(hw:w.due ws cs)(hc:Cl cs)(a:Al M ws cs q f w)(d:Dl N cs q f){i j:Nat}(hij:i<j)(hj:j<cs.length)
  (b:Al M' (w2 ws i j) [cs.getD i 0,cs.getD j 0] (f i+f j) g w):g 0=f i/\g 1=f j:=by
 have hi:i<cs.length:=by omega
 have bi:=d.bd i hi;have bj:=d.bd j hj;have ci:cR cs i=((cs.getD i 0:Int):Rat):=rfl;have cj:cR cs j=((cs.getD j 0:Int):Rat):=rfl;have z0:(0:Nat) < [cs.getD i 0,cs.getD j 0].length:=Nat.zero_lt_succ _;have z1:(1:Nat) < [cs.getD i 0,cs.getD j 0].length:=Yd _;have k0:cR [cs.getD i 0,cs.getD j 0] 0=cR cs i:=rfl;have k1:cR [cs.getD i 0,cs.getD j 0] 1=cR cs j:=rfl;have sm:=zEI (cs.getD i 0) (cs.getD j 0);rw[<-ci,<-cj] at sm
 have wpos:Wt ws cs->0<cR ws i/\0<cR ws j/\w2 ws i j=[ws.getD i 0,ws.getD j 0]:=fun hW=>by
  have a1:=(hW.at hi).1;have a2:=(hW.at hj).1;refine⟨by unfold cR;exact_mod_cast (show 0<ws.getD i 0 by omega),by unfold cR;exact_mod_cast (show 0<ws.getD j 0 by omega),?_⟩
  unfold w2;rw[if_neg];intro e;have:=hW.len
  rw[e] at this;simp at this
  omega
 cases w with
 | row=>
  rw[b 0 z0,b 1 z1];exact zFH bi.1 bi.2.1 bj.1 bj.2.1 (by rw[a j hj,a i hi];exact zCb hc.nn hij hj)
 | back=>
  have ai:=a i hi;have aj:=a j hj;have b0:=b 0 z0;have b1:=b 1 z1;rw[sm,k0] at b0;rw[sm,k1] at b1;have key:=zFH (a:=cs.getD i 0) (b:=cs.getD j 0) (x:=uT cs ((cs.sum:Rat)-q) i) (y:=uT cs ((cs.sum:Rat)-q) j) (by grind) (by rw[<-ci];grind) (by grind) (by rw[<-cj];grind) (zCb hc.nn hij hj)
  rw[show cR cs i+cR cs j-(f i+f j)=uT cs ((cs.sum:Rat)-q) i+uT cs ((cs.sum:Rat)-q) j by rw[ai,aj];grind] at b0 b1;rw[key.1] at b0;rw[key.2] at b1;exact⟨by rw[b0,ai],by rw[b1,aj]⟩
 | even=>
  obtain⟨p1,p2,p3⟩:=wpos hw;obtain⟨t,tl,e⟩:=a;obtain⟨t',tl',e'⟩:=b;rw[p3] at tl' e';rw[e i hi,e j hj] at tl' ⊢
  obtain⟨r0,r1⟩:=sT p1 p2 tl';exact⟨by rw[e' 0 z0,r0],by rw[e' 1 z1,r1]⟩
 | lack=>
  obtain⟨p1,p2,p3⟩:=wpos hw;obtain⟨t,tl,e⟩:=a;obtain⟨t',tl',e'⟩:=b;rw[p3] at tl' e';rw[sm,e i hi,e j hj,show cR cs i+cR cs j-(cR cs i-dE (cR cs) (cR ws) t i+(cR cs j-dE (cR cs) (cR ws) t j))=dE (cR cs) (cR ws) t i+dE (cR cs) (cR ws) t j by grind] at tl';obtain⟨r0,r1⟩:=sT p1 p2 tl';exact⟨by rw[e' 0 z0,r0,e i hi];rfl,by rw[e' 1 z1,r1,e j hj];rfl⟩
 | part=>
  have ai:=a i hi;have aj:=a j hj;have b0:=b 0 z0;have b1:=b 1 z1
  have c2:Cl [cs.getD i 0,cs.getD j 0]:=⟨fun c h=>by
   rcases Qc.mp h with rfl | h
   ·exact hc.nn _ (Qg (aR hi))
   ·rw[Qw.mp h];exact hc.nn _ (Qg (aR hj)),fun c h=>by
   rcases Qc.mp h with rfl | h
   ·exact hc.up _ (Qg (aR hi))
   ·rw[Qw.mp h];exact hc.up _ (Qg (aR hj)),V7 (Vk _),by show 2<=12;decide⟩
  have P0:=gK (q:=f i+f j) c2 z0;have P1:=gK (q:=f i+f j) c2 z1;have Pi:=gK (q:=q) hc hi;have Pj:=gK (q:=q) hc hj;rw[<-b0,sm,k0] at P0;rw[<-b1,sm,k1] at P1;rw[<-ai] at Pi;rw[<-aj] at Pj;have ni:(0:Rat)<=cR cs i:=by have:=bi.1;have:=bi.2.1;grind
  have nj:(0:Rat)<=cR cs j:=by have:=bj.1;have:=bj.2.1;grind
  by_cases z:cR cs i+cR cs j=0
  ·have y0:cR cs i=0:=by grind
   have y1:cR cs j=0:=by grind
   have zi:[cs.getD i 0,cs.getD j 0].sum=0:=by
    have:(([cs.getD i 0,cs.getD j 0].sum:Int):Rat)=((0:Int):Rat):=by rw[sm,z];rfl
    exact_mod_cast this
   have q0:=P0.2 zi;have q1:=P1.2 zi;have:=bi.1;have:=bi.2.1;have:=bj.1;have:=bj.2.1
   exact⟨by grind,by grind⟩
  ·by_cases zs:cs.sum=0
   ·have e1:=lX hc.nn zs _ (Qg (aR hi))
    have e2:=lX hc.nn zs _ (Qg (aR hj));refine absurd ?_ z
    rw[ci,cj,e1,e2,show((0:Int):Rat)=0 from rfl,Xq]
   ·have S0:(cs.sum:Rat)≠0:=by
     intro e;have e':(cs.sum:Rat)=((0:Int):Rat):=e;exact zs (by exact_mod_cast e')
    have p0:=P0.1;have p1:=P1.1;have pi:=Pi.1;have pj:=Pj.1;generalize (cs.sum:Rat)=S at *;refine⟨rT (s:=cR cs i+cR cs j) z (rT (s:=S) S0 ?_),rT (s:=cR cs i+cR cs j) z (rT (s:=S) S0 ?_)⟩
    ·rw[p0];grind
    ·rw[p1];grind
 | half=>
  have W:=mT cs
  have u1:(0:Rat)<cR (ones cs) i:=by
   have:=(W.at hi).1
   unfold cR;exact_mod_cast (show 0<(ones cs).getD i 0 by omega)
  have u2:(0:Rat)<cR (ones cs) j:=by
   have:=(W.at hj).1
   unfold cR;exact_mod_cast (show 0<(ones cs).getD j 0 by omega)
  have o2:ones [cs.getD i 0,cs.getD j 0]=[(ones cs).getD i 0,(ones cs).getD j 0]:=by
   unfold ones;simp[List.getD,hi,hj]
  have G:∀ {t:Rat} {k:Nat},0<=t->k<cs.length->0<=dE (cR cs) (cR (ones cs)) t k/\dE (cR cs) (cR (ones cs)) t k<=cR cs k:=fun h0 hk=>oX W hc h0 hk
  obtain⟨t,ha⟩:=a;obtain⟨t',hb⟩:=b;rw[sm,o2] at hb;have h2:=zLf;rcases ha with⟨h1,tl,e⟩ | ⟨h1,tl,e⟩
  ·have gi:=G tl.nn hi
   have gj:=G tl.nn hj;have xi:=h2 (dE (cR cs) (cR (ones cs)) t i);have xj:=h2 (dE (cR cs) (cR (ones cs)) t j);rcases hb with⟨h3,tl',e'⟩ | ⟨h3,tl',e'⟩
   ·have s2:f i+f j+(f i+f j)=dE (cR cs) (cR (ones cs)) t i+dE (cR cs) (cR (ones cs)) t j:=by rw[e i hi,e j hj];grind
    rw[s2] at tl';obtain⟨r0,r1⟩:=sT u1 u2 tl';exact⟨by rw[e' 0 z0,r0,e i hi],by rw[e' 1 z1,r1,e j hj]⟩
   ·exfalso
    rw[e i hi,e j hj] at h3;grind
  ·have gi:=G tl.nn hi
   have gj:=G tl.nn hj;have xi:=h2 (dE (cR cs) (cR (ones cs)) t i);have xj:=h2 (dE (cR cs) (cR (ones cs)) t j);rcases hb with⟨h3,tl',e'⟩ | ⟨h3,tl',e'⟩
   ·have fi:=e i hi
    have fj:=e j hj
    have full:dE (cR cs) (cR (ones cs)) t i=cR cs i/\dE (cR cs) (cR (ones cs)) t j=cR cs j:=by
     rw[fi,fj] at h3;exact⟨by grind,by grind⟩
    have s2:f i+f j+(f i+f j)=dE (cR cs) (cR (ones cs)) t i+dE (cR cs) (cR (ones cs)) t j:=by rw[fi,fj];grind
    rw[s2] at tl';obtain⟨r0,r1⟩:=sT u1 u2 tl';exact⟨by rw[e' 0 z0,r0,fi];grind,by rw[e' 1 z1,r1,fj];grind⟩
   ·have s2:cR cs i+cR cs j-(f i+f j)+(cR cs i+cR cs j-(f i+f j))=dE (cR cs) (cR (ones cs)) t i+dE (cR cs) (cR (ones cs)) t j:=by rw[e i hi,e j hj];grind
    rw[s2] at tl';obtain⟨r0,r1⟩:=sT u1 u2 tl';exact⟨by rw[e' 0 z0,r0,e i hi];rfl,by rw[e' 1 z1,r1,e j hj];rfl⟩
def wys:List Str:=["row","back","even","lack","part","half"]
def wOK(w:Str)(ws:List Int)(m:Nat):Prop:=(w = "even" ∨ w = "lack")/\ws.length=m/\(∀ x∈ws,1<=x/\x<=10^6)∨¬ (w = "even" ∨ w = "lack")/\ws=[]
def IsC:Nat->D->Prop
 | 0,_=>False
 | n+1,d=>(∃ c:Int,d=.tup [.str "boat", .int c])∨∃(w:Str)(ws:List Int)(ks:List D),d=.tup [.str w,.tup (ws.map D.int),.tup ks]/\(w == "boat")=false/\0<ks.length/\ks.length<=100/\ws.length<=100/\(w∈wys/\wOK w ws ks.length)/\∀ k∈ks,IsC n k
def clm:Nat->D->List Int
 | 0,_=>[]
 | n+1,d=>match d with
  | .tup [_,.int c]=>[c]
  | .tup [_,_,.tup ks]=>ks.flatMap (clm n)
  | _=>[]
def dpt:Nat->D->Int
 | 0,_=>0
 | n+1,d=>match d with
  | .tup [_,_,.tup ks]=>1+mx0 (ks.map (dpt n))
  | _=>1
theorem lP{c:Int}:bV [.tup [.str "boat", .int c]]=.ok (.v (.bl true)):=by
 unfold bV;symm
theorem jB{w:Str}{a b:D}(h:(w == "boat")=false):bV [.tup [.str w,a,b]]=.ok (.v (.bl false)):=by
 unfold bV;symm;rw[h]
theorem zDH{c:Int}:aY [.tup [.str "boat", .int c]]=.ok (.v (.tup [])):=by
 unfold aY;symm;rw[lP];symm
theorem eK{w:Str}{a b:D}(h:(w == "boat")=false):aY [.tup [.str w,a,b]]=.ok (.v b):=by
 unfold aY;symm;rw[jB h];symm
theorem zIA{ks:List D}{n i:Nat}:((ks.take i).flatMap (clm n)).length<=(ks.flatMap (clm n)).length:=by
 conv=>rhs;rw[<-Yh i ks,Xr,Qm]
 exact Nat.le_add_right _ _
theorem zIa{ks:List D}{n:Nat}{k:D}(h:k∈ks):(clm n k).length<=(ks.flatMap (clm n)).length:=by
 obtain⟨a,b,rfl⟩:=List.append_of_mem h;rw[Xr,V4,Qm,Qm];omega
theorem gH:∀(n:Nat)(d:D),IsC n d->(clm n d).length<=1000->bH n [d]=.ok (.f ((clm n d).map D.int))
 | 0,d,h,_=>h.elim
 | n+1,d,h,hl=>by
  show jO (bH n) [d]=_
  unfold jO;symm;rcases h with⟨c,rfl⟩ | ⟨w,ws,ks,rfl,hw,k0,k1,w1,hy,hk⟩
  ·rw[lP]
   symm;rfl
  ·rw[jB hw]
   symm;rw[eK hw];symm;refine kU (Q:=fun r=>r.bind fin=.ok (.f ((ks.flatMap (clm n)).map D.int))) (fun i ρ=>∃ a,ρ=[.val (.tup [.str w,.tup (ws.map D.int),.tup ks]),.own (((ks.take i).flatMap (clm n)).map D.int),a]) ⟨_,rfl⟩ ?_ ?_
   ·rintro i e ρ he ⟨a,rfl⟩
    have hm:=Qg he;have hl':(ks.flatMap (clm n)).length<=1000:=hl;have l1:=zIa (n:=n) hm;have l2:=zIA (ks:=ks) (n:=n) (i:=i);symm;rw[gH n e (hk e hm) (by omega)];symm;rw[if_pos (by omega)];refine⟨_,rfl,.val e,?_⟩
    rw[vG he,Xr,Qy];simp[List.flatMap]
   ·rintro ρ' ⟨a,rfl⟩
    symm;rw[Xb]
theorem lL:∀(n:Nat)(d:D),IsC n d->(clm n d).length<=1000->cU n [d]=.ok (.v (.lst ((clm n d).map D.int)))
 | 0,d,h,_=>h.elim
 | n+1,d,h,hl=>by
  show iF (cU n) [d]=_
  unfold iF;symm;rcases h with⟨c,rfl⟩ | ⟨w,ws,ks,rfl,hw,k0,k1,w1,hy,hk⟩
  ·symm
   rfl
  ·symm
   rw[hw];symm;refine kU (Q:=fun r=>r.bind fin=.ok (.v (.lst ((ks.flatMap (clm n)).map D.int)))) (fun i ρ=>∃ a,ρ=[.val (.tup [.str w,.tup (ws.map D.int),.tup ks]),.val (.lst (((ks.take i).flatMap (clm n)).map D.int)),a]) ⟨_,rfl⟩ ?_ ?_
   ·rintro i e ρ he ⟨a,rfl⟩
    have hm:=Qg he;have hl':(ks.flatMap (clm n)).length<=1000:=hl;have l1:=zIa (n:=n) hm;have l2:=zIA (ks:=ks) (n:=n) (i:=i);symm;rw[lL n e (hk e hm) (by omega)];symm;rw[if_pos (by omega)];symm;refine⟨_,rfl,.val e,?_⟩
    rw[vG he,Xr,Qy];simp[List.flatMap]
   ·rintro ρ' ⟨a,rfl⟩
    symm;rw[Xb]
theorem zAf:∀(n:Nat)(d:D),IsC n d->gG n [d]=.ok (.v (.int (dpt n d)))
 | 0,d,h=>h.elim
 | n+1,d,h=>by
  show oG (gG n) [d]=_
  unfold oG;symm;rcases h with⟨c,rfl⟩ | ⟨w,ws,ks,rfl,hw,k0,k1,w1,hy,hk⟩
  ·rw[zDH]
   symm;rfl
  ·rw[eK hw]
   symm
   have e:=xX (u:=fun k=>k) (g:=fun k=>.int (dpt n k)) (l:=ks) (f:=aM (gG n) (aB (aD 1) aNil)) (ρ:=[.val (.tup [.str w,.tup (ws.map D.int),.tup ks])]) (by omega) (fun k hm=>by
    symm;rw[zAf n k (hk k hm)]
    symm)
   rw[List.map_id'] at e;rw[e];symm;rw[zFL];symm;rfl
def dOK:Nat->D->Prop
 | 0,_=>False
 | n+1,d=>(∃ i,d=.int i)∨(∃ x,d=.str x)∨∃ ds,d=.tup ds/\ds.length<=1000/\∀ e∈ds,dOK n e
theorem zHL:∀ {n m:Nat} {d:D},dOK n d->n<=m->dOK m d
 | 0,_,_,h,_=>h.elim
 | n+1,0,_,_,l=>absurd l (by omega)
 | n+1,m+1,d,h,l=>by
  rcases h with h | h | ⟨ds,rfl,hl,he⟩
  ·exact .inl h
  ·exact .inr (.inl h)
  ·exact .inr (.inr ⟨ds,rfl,hl,fun e h=>zHL (he e h) (by omega)⟩)
theorem zED:∀(n:Nat)(d:D),IsC n d->dOK (2*n+1) d
 | 0,d,h=>h.elim
 | n+1,d,h=>by
  rcases h with⟨c,rfl⟩ | ⟨w,ws,ks,rfl,hw,k0,k1,w1,hy,hk⟩
  ·refine .inr (.inr ⟨_,rfl,by simp,fun e he=>?_⟩)
   rcases Qc.mp he with rfl | he
   ·exact .inr (.inl ⟨_,rfl⟩)
   ·rw[Qw.mp he];exact .inl ⟨_,rfl⟩
  ·refine .inr (.inr ⟨_,rfl,by simp,fun e he=>?_⟩)
   rcases Qc.mp he with rfl | he
   ·exact .inr (.inl ⟨_,rfl⟩)
   ·rcases Qc.mp he with rfl | he
    ·refine .inr (.inr ⟨_,rfl,by rw[Qh];omega,fun x hx=>?_⟩)
     obtain⟨i,_,rfl⟩:=Q9.mp hx;exact .inl ⟨_,rfl⟩
    ·rw[Qw.mp he]
     exact .inr (.inr ⟨_,rfl,by omega,fun x hx=>zED n x (hk x hx)⟩)
theorem zBF:∀(n:Nat)(d:D),dOK n d->noL d=true
 | 0,d,h=>h.elim
 | n+1,d,h=>by
  rcases h with⟨i,rfl⟩ | ⟨x,rfl⟩ | ⟨ds,rfl,hl,he⟩
  ·simp[noL]
  ·simp[noL]
  ·rw[noL]
   clear hl
   induction ds with
   | nil=>rfl
   | cons a r ih=>rw[noLs,zBF n a (he a Qe),ih fun e h=>he e (Qd _ h)];rfl
theorem fL:∀ {n m:Nat} {d:D},IsC n d->n<=m->IsC m d
 | 0,_,_,h,_=>h.elim
 | n+1,0,_,_,l=>absurd l (by omega)
 | n+1,m+1,d,h,l=>by
  rcases h with h | ⟨w,ws,ks,rfl,hw,k0,k1,w1,hy,hk⟩
  ·exact .inl h
  ·exact .inr ⟨w,ws,ks,rfl,hw,k0,k1,w1,hy,fun k h=>fL (hk k h) (by omega)⟩
theorem dN:∀ {n m:Nat} {d:D},IsC n d->n<=m->clm m d=clm n d
 | 0,_,_,h,_=>h.elim
 | n+1,0,_,_,l=>absurd l (by omega)
 | n+1,m+1,d,h,l=>by
  rcases h with⟨c,rfl⟩ | ⟨w,ws,ks,rfl,hw,k0,k1,w1,hy,hk⟩
  ·rfl
  ·show ks.flatMap (clm m)=ks.flatMap (clm n)
   rw[Ua,Ua];congr 1
   exact Vv fun k h=>dN (hk k h) (by omega)
theorem zCw:∀ {n m:Nat} {d:D},IsC n d->n<=m->dpt m d=dpt n d
 | 0,_,_,h,_=>h.elim
 | n+1,0,_,_,l=>absurd l (by omega)
 | n+1,m+1,d,h,l=>by
  rcases h with⟨c,rfl⟩ | ⟨w,ws,ks,rfl,hw,k0,k1,w1,hy,hk⟩
  ·rfl
  ·show 1+mx0 (ks.map (dpt m))=1+mx0 (ks.map (dpt n))
   rw[Vv fun k h=>zCw (hk k h) (by omega)]
theorem zMh:∀ {l:List Int} {b:Int},0<=b->(∀ x∈l,x<=b)->mx0 l<=b
 | [],b,h,_=>h
 | a::r,b,_,h=>by
  have key:∀(r:List Int)(a:Int),a<=b->(∀ x∈r,x<=b)->wA a r<=b:=by
   intro r
   induction r with
   | nil=>intro a ha _;exact ha
   | cons c r ih=>
    intro a ha hr;rw[wA];refine ih _ ?_ fun x hx=>hr x (Qd _ hx)
    split
    ·exact hr c Qe
    ·exact ha
  exact key r a (h a Qe) fun x hx=>h x (Qd _ hx)
theorem zNp:∀ {l:List Int} {x:Int},x∈l->x<=mx0 l
 | [],_,h=>by cases h
 | a::r,x,h=>by
  have key:∀(r:List Int)(a:Int),a<=wA a r/\∀ x∈r,x<=wA a r:=by
   intro r
   induction r with
   | nil=>intro a;exact⟨Yf _,fun x h=>by cases h⟩
   | cons c r ih=>
    intro a;rw[wA];have h1:=ih (if c > a then c else a);refine⟨Xm ?_ h1.1,fun x hx=>?_⟩
    ·split<;>omega
    ·rcases Qc.mp hx with rfl | hx
     ·refine Xm ?_ h1.1;split<;>omega
     ·exact h1.2 x hx
  rcases Qc.mp h with rfl | h
  ·exact(key r x).1
  ·exact(key r a).2 x h
theorem zFK:∀ {n:Nat} {d:D},IsC n d->1<=dpt n d/\dpt n d<=n
 | 0,_,h=>h.elim
 | n+1,d,h=>by
  rcases h with⟨c,rfl⟩ | ⟨w,ws,ks,rfl,hw,k0,k1,w1,hy,hk⟩
  ·exact⟨by show(1:Int)<=1;omega,by show(1:Int)<=_;omega⟩
  ·have h1:mx0 (ks.map (dpt n))<=n:=zMh (by omega) fun x hx=>by
    obtain⟨k,hk',rfl⟩:=Q9.mp hx;exact(zFK (hk k hk')).2
   have h2:0<=mx0 (ks.map (dpt n)):=by
    cases ks with
    | nil=>cases k0
    | cons k r=>exact Xm (by have:=(zFK (hk k Qe)).1;omega) (zNp (x:=dpt n k) (by simp))
   exact⟨by show 1<=1+mx0 (ks.map (dpt n));omega,by show 1+mx0 (ks.map (dpt n))<=((n+1:Nat):Int);omega⟩
theorem zFE{w:Str}(h:w∈wys):(aX.lookup w).isSome=true/\(w == "boat")=false:=by
 simp only[wys,Qc,Q4,or_false] at h;rcases h with rfl | rfl | rfl | rfl | rfl | rfl<;>decide
theorem yV{w:Str}(h:w∈wys):cJ [.str w]=.ok (.v .non):=by
 unfold cJ;symm;rw[(zFE h).1];symm
theorem zMt{w:Str}:oIn (.str w) (.tup [.str "even", .str "lack"])=.ok (.bl (decide (w = "even" ∨ w = "lack"))):=by
 show(if depS [D.str "even", D.str "lack"]<=50 then Res.ok (D.bl (((Str.ofString "even")==w) || (((Str.ofString "lack")==w) || false))) else .no)=_
 rw[if_pos (by decide),Bool.or_false];congr 2
 by_cases h1:w = "even"
 ·subst h1;decide
 ·by_cases h2:w = "lack"
  ·subst h2;decide
  ·rw[decide_eq_false (fun h=>h.elim h1 h2),beq_eq_false_iff_ne.mpr (Ne.symm h1),beq_eq_false_iff_ne.mpr (Ne.symm h2)];rfl
theorem qT{w:Str}{ws:List Int}{m:Nat}{d:D}(hd:d=.lst (ws.map D.int)∨d=.tup (ws.map D.int))(h:wOK w ws m):aU [.str w,d,.int m]=.ok (.v .non):=by
 have sq:zHZ d=.ok (ws.map D.int):=by rcases hd with rfl | rfl<;>rfl
 have ln:lA [d]=.ok (.int (ws.length:Int)):=by rcases hd with rfl | rfl<;>simp[bLen_l,bLen_t]
 have fine:∀ x∈ws,1<=x/\x<=10^6:=by
  rcases h with⟨_,_,h⟩ | ⟨_,rfl⟩
  ·exact h
  ·intro x hx;cases hx
 have rest:∀ a:Sl,(eQ [.val (.str w),.val d,.val (.int m),a,.un]).bind fin=.ok (.v .non):=by
  intro a;symm;rw[sq];symm;refine zBU (Q:=fun r:Res Rt=>r=.ok (.v .non)) (fun ρ=>∃ b,ρ=[.val (.str w),.val d,.val (.int m),a,b]) ⟨_,rfl⟩ ?_ ?_
  ·rintro e ρ he ⟨b,rfl⟩
   obtain⟨x,hx,rfl⟩:=Q9.mp he;have hf:=fine x hx;symm;rw[decide_eq_false (by omega)];symm;rw[oPow_i (by decide)];symm;rw[decide_eq_false (by omega)];symm;exact⟨_,rfl,_,rfl⟩
  ·rintro ρ' ⟨b,rfl⟩
   rfl
 unfold aU;symm;rw[zMt];unfold iG;generalize (eQ:Sv)=K at rest ⊢;rcases h with⟨hw,hl,_⟩ | ⟨hw,rfl⟩
 ·rw[decide_eq_true hw]
  symm;rw[ln];symm;rw[hl];symm;exact rest _
 ·rw[decide_eq_false hw]
  symm;rw[ln];symm;rw[show decide (((0:Nat):Int)=0)=true from rfl];symm;exact rest _
theorem zMT{c:Int}(h0:0<=c)(h1:c<=10^9):zAE [.int c]=.ok (.v (.tup [.str "boat", .int c])):=by
 unfold zAE;symm;rw[decide_eq_false (by omega)];symm;rw[decide_eq_false (by omega)];symm
theorem zNg{w:Str}{ws:List Int}{ks:List D}{n:Nat}{wd:D}(hd:wd=.lst (ws.map D.int)∨wd=.tup (ws.map D.int))(hw:w∈wys)(hs:wOK w ws ks.length)(l1:ws.length<=100)(k0:0<ks.length)(k1:ks.length<=100)(hn:n<=7)(hk:∀ k∈ks,IsC n k)(hc:(ks.flatMap (clm n)).length<=12):
  zAv [.str w,wd,.lst ks]=.ok (.v (.tup [.str w,.tup (ws.map D.int),.tup ks]))/\IsC (n+1) (.tup [.str w,.tup (ws.map D.int),.tup ks]):=by
 have bt:zIj [wd]=.ok (.tup (ws.map D.int)):=by rcases hd with rfl | rfl<;>rfl
 have ic:IsC (n+1) (.tup [.str w,.tup (ws.map D.int),.tup ks]):=.inr ⟨w,ws,ks,rfl,(zFE hw).2,k0,k1,l1,⟨hw,hs⟩,hk⟩;have ic':=fL ic (show n+1<=10 by omega)
 have ec:=dN ic (show n+1<=10 by omega)
 have lc:(clm 10 (.tup [.str w,.tup (ws.map D.int),.tup ks])).length<=12:=by rw[ec];exact hc
 have dd:dpt 10 (.tup [.str w,.tup (ws.map D.int),.tup ks])<=8:=by
  rw[zCw ic (show n+1<=10 by omega)];have:=(zFK ic).2
  omega
 refine⟨?_,ic⟩
 unfold zAv;symm;rw[yV hw];symm;rw[qT hd hs];symm;rw[bt];symm;rw[decide_eq_false (by omega)];symm;rw[gH 10 _ ic' (by omega)];symm;rw[decide_eq_false (by omega)];symm;rw[zAf 10 _ ic'];symm;rw[decide_eq_false (by omega)];symm
structure Pl (L:List (D×Int)) (boats:Int):Prop where
 each:∀ p∈L,1<=p.2/\p.2<=7/\IsC p.2.toNat p.1
 few:((L.flatMap fun p=>clm 7 p.1).length:Int)<=boats
 most:boats<=12
 rng:∀ c∈(L.flatMap fun p=>clm 7 p.1),0<=c/\c<=10^9
theorem zGB:∀ {l:List D},(∀ d∈l,noL d=true)->noLs l=true
 | [],_=>rfl
 | a::r,h=>by rw[noLs,h a Qe,zGB fun d hd=>h d (Qd _ hd)];rfl
theorem Pl.noL{L:List (D×Int)}{b:Int}(h:Pl L b):∀ d∈L.map Prod.fst,noL d=true:=fun d hd=>by
 obtain⟨p,hp,rfl⟩:=Q9.mp hd;exact zBF _ _ (zED _ _ (h.each p hp).2.2)
theorem zID:∀ {n:Nat} {d:D},dOK n d->dep d<=n
 | 0,_,h=>h.elim
 | n+1,d,h=>by
  rcases h with⟨i,rfl⟩ | ⟨x,rfl⟩ | ⟨ds,rfl,hl,he⟩
  ·simp[dep]
  ·simp[dep]
  ·rw[dep]
   clear hl
   have:depS ds<=n:=by
    induction ds with
    | nil=>simp[depS]
    | cons a r ih=>
     rw[depS];exact Nat.max_le.mpr ⟨zID (he a Qe),ih fun e h=>he e (Qd _ h)⟩
   omega
theorem zKK{n:Nat}:∀ {ds:List D},(∀ d∈ds,dOK n d)->depS ds<=n
 | [],_=>by simp[depS]
 | a::r,h=>by rw[depS];exact Nat.max_le.mpr ⟨zID (h a Qe),zKK fun e he=>h e (Qd _ he)⟩
theorem zJS{w:Str}(h:w∈wys):∃ v:Wy,v.s=w:=by
 unfold wys at h;rcases Qc.mp h with rfl | h
 ·exact⟨.row,rfl⟩
 rcases Qc.mp h with rfl | h
 ·exact⟨.back,rfl⟩
 rcases Qc.mp h with rfl | h
 ·exact⟨.even,rfl⟩
 rcases Qc.mp h with rfl | h
 ·exact⟨.lack,rfl⟩
 rcases Qc.mp h with rfl | h
 ·exact⟨.part,rfl⟩
 ·rw[Qw.mp h];exact⟨.half,rfl⟩
theorem zEk{v:Wy}{ws cs:List Int}(h:wOK v.s ws cs.length):v.due ws cs:=by
 have k:¬ (v.s = "even" ∨ v.s = "lack")->ws=[]:=fun hn=>by
  rcases h with⟨a,_⟩ | ⟨_,b⟩
  ·exact absurd a hn
  ·exact b
 have k2:(v.s = "even" ∨ v.s = "lack")->Wt ws cs:=fun hy=>by
  rcases h with⟨_,b,c⟩ | ⟨a,_⟩
  ·exact⟨b,fun x hx=>(c x hx).1,fun x hx=>(c x hx).2⟩
  ·exact absurd hy a
 cases v with
 | even=>exact k2 (.inl rfl)
 | lack=>exact k2 (.inr rfl)
 | row=>exact k (by decide)
 | back=>exact k (by decide)
 | part=>exact k (by decide)
 | half=>exact k (by decide)
def Gc(n:Nat)(d:D):Prop:=IsC n d/\(clm n d).length<=12/\∀ c∈clm n d,0<=c/\c<=10^9
theorem zIL:∀ {l:List Int},(∀ c∈l,0<=c/\c<=10^9)->0<=l.sum/\l.sum<=l.length*10^9
 | [],_=>by decide
 | c::r,h=>by
  have ih:=zIL fun x hx=>h x (Qd _ hx)
  have a:=h c Qe;rw[Qn,Qk];have:((r.length+1:Nat):Int)*10^9=(r.length:Int)*10^9+10^9:=by rw[Xn,Xx];rfl
  omega
theorem Gc.sum{n:Nat}{d:D}(h:Gc n d):0<=(clm n d).sum/\(clm n d).sum<=12*10^9:=by
 have:=zIL h.2.2
 have:=h.2.1
 omega
theorem uZ{n:Nat}:∀ ks:List D,(ks.map fun k=>(clm n k).sum).sum=(ks.flatMap (clm n)).sum
 | []=>rfl
 | k::r=>by rw[Qi,Qn,uZ r,V4,Xd]
theorem zAW:∀ {n:Nat} {d:D},IsC n d->1<=(clm n d).length
 | 0,_,h=>h.elim
 | n+1,d,h=>by
  rcases h with⟨c,rfl⟩ | ⟨w,ws,ks,rfl,hw,k0,k1,w1,hy,hk⟩
  ·exact Qb 1
  ·cases ks with
   | nil=>simp at k0
   | cons k r=>
    have:=zAW (hk k Qe)
    show 1<=((k::r).flatMap (clm n)).length
    rw[V4,Qm];omega
theorem qJ{n:Nat}:∀ {ks:List D},(∀ k∈ks,IsC n k)->ks.length<=(ks.flatMap (clm n)).length
 | [],_=>Vk _
 | k::r,h=>by
  have a:=zAW (h k Qe);have b:=qJ fun x hx=>h x (Qd _ hx)
  rw[Qk,V4,Qm];omega
theorem zNw{n:Nat}{ks:List D}{k:D}(hk:k∈ks){c:Int}(hc:c∈clm n k):c∈ks.flatMap (clm n):=U6.mpr ⟨k,hk,hc⟩
theorem Gc.kid{n:Nat}{w:D}{a ks:List D}(h:Gc (n+1) (.tup [w,.tup a,.tup ks]))(hi:∀ k∈ks,IsC n k){k:D}(hk:k∈ks):Gc n k:=
 ⟨hi k hk,Qp (zIa hk) h.2.1,fun c hc=>h.2.2 c (zNw hk hc)⟩
def kcl(n:Nat)(ks:List D):List Int:=ks.map fun k=>(clm n k).sum
theorem dY(n:Nat)(ks:List D):(kcl n ks).length=ks.length:=Qh ..
theorem Gc.cl{n:Nat}{w:D}{a ks:List D}(h:Gc (n+1) (.tup [w,.tup a,.tup ks]))(hi:∀ k∈ks,IsC n k)(h0:0<ks.length):Cl (kcl n ks):=by
 have b:∀ c∈kcl n ks,0<=c/\c<=12*10^9:=fun c hc=>by
  obtain⟨k,hk,rfl⟩:=Q9.mp hc;exact(h.kid hi hk).sum
 have l:(ks.flatMap (clm n)).length<=12:=h.2.1;have:=qJ hi
 exact⟨fun c hc=>(b c hc).1,fun c hc=>by have:=(b c hc).2;omega,by rw[dY];omega,by rw[dY];omega⟩
def ShL(P:D->Rat->List Rat->Prop):List D->(Nat->Rat)->Nat->List Rat->Prop
 | [],_,_,xs=>xs=[]
 | k::ks,f,i,xs=>∃ a b,xs=a++b/\P k (f i) a/\ShL P ks f (i+1) b
def Sh:Nat->D->Rat->List Rat->Prop
 | 0,_,_,_=>False
 | n+1,d,q,xs=>(∃ c:Int,d=.tup [.str "boat", .int c]/\xs=[q])∨∃(v:Wy)(ws:List Int)(ks:List D)(f:Nat->Rat),d=.tup [.str v.s,.tup (ws.map D.int),.tup ks]/\v.due ws (kcl n ks)/\Al 3000 ws (kcl n ks) q f v/\ShL (Sh n) ks f 0 xs
theorem zEP{P:D->Rat->List Rat->Prop}{n:Nat}{f:Nat->Rat}:∀ {ks:List D} {i:Nat} {xs:List Rat},(∀ k∈ks,∀ q xs,P k q xs->xs.length=(clm n k).length)->ShL P ks f i xs->xs.length=(ks.flatMap (clm n)).length
 | [],i,xs,_,h=>by rw[show xs=[] from h];rfl
 | k::r,i,xs,hp,h=>by
  obtain⟨a,b,rfl,ha,hb⟩:=h;rw[Qm,hp k Qe _ _ ha,zEP (fun x hx=>hp x (Qd _ hx)) hb,V4,Qm]
theorem yM:∀ {n:Nat} {d:D} {q:Rat} {xs:List Rat},Sh n d q xs->xs.length=(clm n d).length
 | 0,_,_,_,h=>h.elim
 | n+1,d,q,xs,h=>by
  rcases h with⟨c,rfl,rfl⟩ | ⟨v,ws,ks,f,rfl,hd,al,hs⟩
  ·rfl
  ·exact zEP (fun k _ q xs h=>yM h) hs
theorem yB{a:D}{l:List D}:hU [.tup (a::l)]=.ok (.v a):=by
 unfold hU;symm
theorem qF{a b:D}{l:List D}:cS [.tup (a::b::l)]=.ok (.v b):=by
 unfold cS;symm
theorem lZ{n:Nat}{d:D}(h:IsC n d)(hn:n<=10)(hl:(clm n d).length<=1000):dC [d]=.ok (.v (.int (clm n d).sum)):=by
 have e:=dN h hn;unfold dC;symm;rw[gH 10 d (fL h hn) (by rw[e];exact hl)];symm;rw[e]
theorem yT{n:Nat}{w:Str}{a:D}{ks:List D}(hw:(w == "boat")=false)(hi:∀ k∈ks,IsC n k)(hn:n<=10)(hl:(ks.flatMap (clm n)).length<=1000):eI [.tup [.str w,a,.tup ks]]=.ok (.f ((kcl n ks).map D.int)):=by
 unfold eI;symm;rw[eK hw];symm
 rw[zEq (h:=fun k=>D.int (clm n k).sum) (by have:=qJ hi;omega) (fun k hk=>by
  symm;rw[lZ (hi k hk) hn (Qp (zIa hk) hl)]
  symm)]
 symm;unfold kcl;rw[Qz];rfl
theorem pO(v:Wy):(v.s == "boat")=false:=by cases v<;>decide
theorem zMd(cs:List Int):Sq (.lst (cs.map D.int)) cs:=.inl rfl
theorem vJ:∀(n N m:Nat)(d:D)(q:Rat),Gc n d->n<=N->n<=9->0<=q->q<=((clm n d).sum:Rat)->(q.den:Int)<2^m->m+34*n<=2000->∃ xs,eG N [d,dq q]=.ok (.f (xs.map dq))/\Sh n d q xs
 | 0,_,_,_,_,h,_,_,_,_,_,_=>h.1.elim
 | n+1,0,_,_,_,_,hN,_,_,_,_,_=>by omega
 | n+1,N+1,m,d,q,g,hN,hn,q0,q1,qd,hm=>by
  rcases g.1 with⟨c,rfl⟩ | ⟨w,ws,ks,rfl,hw,k0,k1,w1,hy,hk⟩
  ·refine⟨[q],?_,.inl ⟨c,rfl,rfl⟩⟩
   show gF (eG N) _=_
   unfold gF;symm;rw[lP];symm
  ·obtain⟨v,rfl⟩:=zJS hy.1
   have cl:=g.cl hk k0;have l12:(ks.flatMap (clm n)).length<=12:=g.2.1;have hs:(kcl n ks).sum=(clm (n+1) (.tup [.str v.s,.tup (ws.map D.int),.tup ks])).sum:=uZ ks;have gs:=g.sum;have due:v.due ws (kcl n ks):=zEk (by rw[dY];exact hy.2)
   have sq:Sz (34+m) q:=(Dn.den q).sz (dQ q) qd q0 q1 (by omega)
   have hl:Haul (34+m) q (kcl n ks).sum:=⟨q0,by rw[hs];exact q1,sq⟩
   obtain⟨f,ef,af⟩:=zDU (wd:=.tup (ws.map D.int)) (.inr rfl) (zMd (kcl n ks)) (by omega) due cl hl
   have df:=zJF due cl hl af;have hS:(kcl n ks).sum<2^34:=by rw[hs];omega
   obtain⟨E,e0,e1,e2⟩:=zNi due cl hS af (Dn.den q)
   have dk:∀ i,i<ks.length->((f i).den:Int)<2^(m+34):=fun i hi=>by
    have a:=(e2 i (by rw[dY];exact hi)).le (V3 (dQ q) e0)
    have b:(q.den:Int)*E<2^m*2^34:=Int.mul_lt_mul qd (Xj e1) e0 (Xj (Ym (by decide)))
    rw[U7];omega
   have loopOk:∀(js:List D)(i:Nat)(acc:List Rat)(s t:Sl),(∀ k∈js,k∈ks)->i+js.length=ks.length->ks.drop i=js->acc.length+(js.flatMap (clm n)).length<=12->∃ xs s' t',ShL (Sh n) js f i xs/\
     loop (zBb (gB (gName 4) (gB (gName 5) zBm))) (qN (eG N)) (kD js ((List.range' i js.length).map fun j=>dq (f j))) [.val (.tup [.str v.s,.tup (ws.map D.int),.tup ks]),.val (dq q),.val (.lst (((List.range (kcl n ks).length).map f).map dq)),.own (acc.map dq),s,t]=
      .ok (.nx [.val (.tup [.str v.s,.tup (ws.map D.int),.tup ks]),.val (dq q),.val (.lst (((List.range (kcl n ks).length).map f).map dq)),.own ((acc++xs).map dq),s',t']):=by
    intro js
    induction js with
    | nil=>intro i acc s t _ _ _ _;exact⟨[],s,t,rfl,by rw[Vr];rfl⟩
    | cons k r ih=>
     intro i acc s t hm' hl' hd' ha;have hik:i<ks.length:=by rw[Qk] at hl';omega
     have ik:k∈ks:=hm' k Qe;have gk:=g.kid hk ik;have fk:=df.bd i (by rw[dY];exact hik)
     have ck:cR (kcl n ks) i=((clm n k).sum:Rat):=by
      unfold cR kcl
      have:ks[i]?=some k:=by
       have:=List.getElem?_drop (xs:=ks) (i:=i) (j:=0)
       rw[hd'] at this;simpa using this.symm
      rw[Qr,Qq,this];rfl
     obtain⟨xs,ex,sx⟩:=vJ n N (m+34) k (f i) gk (by omega) (by omega) fk.1 (by rw[<-ck];exact fk.2.1) (dk i hik) (by omega)
     have lx:=yM sx;rw[V4,Qm] at ha;obtain⟨ys,s',t',sy,ey⟩:=ih (i+1) (acc++xs) (.val k) (.val (dq (f i))) (fun x hx=>hm' x (Qd _ hx)) (by rw[Qk] at hl';omega) (by rw[<-List.drop_drop,hd'];rfl) (by rw[Qm];omega)
     refine⟨xs++ys,s',t',⟨xs,ys,rfl,sx,sy⟩,?_⟩
     rw[Qk,List.range'_succ,Qi,show kD (k::r) (dq (f i)::(List.range' (i+1) r.length).map fun j=>dq (f j))=.tup [k,dq (f i)]::kD r ((List.range' (i+1) r.length).map fun j=>dq (f j)) from rfl]
     rw[dW (ρ1:=[.val (.tup [.str v.s,.tup (ws.map D.int),.tup ks]),.val (dq q),.val (.lst (((List.range (kcl n ks).length).map f).map dq)),.own (acc.map dq),.val k,.val (dq (f i))]) (ρ2:=[.val (.tup [.str v.s,.tup (ws.map D.int),.tup ks]),.val (dq q),.val (.lst (((List.range (kcl n ks).length).map f).map dq)),.own ((acc++xs).map dq),.val k,.val (dq (f i))]) (by symm) (by
      symm;rw[ex];symm
      rw[if_pos (by omega),Qy]),ey,Xi]
   obtain⟨xs,s',t',sx,ex⟩:=loopOk ks 0 [] .un .un (fun k h=>h) (by omega) rfl (by rw[X8];omega)
   refine⟨xs,?_,.inr ⟨v,ws,ks,f,rfl,due,af.mono (by omega),sx⟩⟩
   show gF (eG N) _=_
   unfold gF;symm;rw[jB hw];symm;rw[yB];symm;rw[qF];symm;rw[yT hw hk (by omega) (by omega)];symm;rw[ef];symm;rw[eK hw];symm;rw[sX rfl rfl,show((List.range (kcl n ks).length).map f).map dq=(List.range' 0 ks.length).map fun j=>dq (f j) by rw[Qz,dY,U8];rfl];symm;rw[show((List.range (kcl n ks).length).map f).map dq=(List.range' 0 ks.length).map fun j=>dq (f j) by rw[Qz,dY,U8];rfl] at ex;rw[Vt] at ex;rw[ex];rfl
theorem vT{n m:Nat}{d:D}{q:Rat}(g:Gc n d)(hn:n<=9)(q0:0<=q)(q1:q<=((clm n d).sum:Rat))(qd:(q.den:Int)<2^m)(hm:m+34*n<=2000):∃ xs,iJ [d,dq q]=.ok (.f (xs.map dq))/\Sh n d q xs:=by
 have gs:=g.sum;obtain⟨xs,ex,sx⟩:=vJ n 10 m d q g (by omega) hn q0 q1 qd hm
 refine⟨xs,?_,sx⟩
 have sq:Sz (34+m) q:=(Dn.den q).sz (dQ q) qd q0 q1 (by omega)
 unfold iJ;symm;rw[lZ g.1 (by omega) (by have:=g.2.1;omega)];symm;rw[cM];symm;rw[jV (by omega) ⟨q0,q1,sq⟩ (by omega)];symm;rw[ex];symm
def A2{α β:Type}(R:α->β->Prop):List α->List β->Prop
 | [],[]=>True
 | a::l,b::k=>R a b/\A2 R l k
 | _,_=>False
theorem A2.app{α β:Type}{R:α->β->Prop}:∀ {l l':List α} {k k':List β},A2 R l k->A2 R l' k'->A2 R (l++l') (k++k')
 | [],_,[],_,_,h=>h
 | _::l,_,_::k,_,h,h'=>⟨h.1,A2.app h.2 h'⟩
theorem A2.len{α β:Type}{R:α->β->Prop}:∀ {l:List α} {k:List β},A2 R l k->l.length=k.length
 | [],[],_=>rfl
 | _::l,_::k,h=>by rw[Qk,Qk,A2.len h.2]
theorem A2.at{α β:Type}{R:α->β->Prop}{a:α}{b:β}:∀ {l:List α} {k:List β} {i:Nat},A2 R l k->i<l.length->R (l.getD i a) (k.getD i b)
 | _::l,_::k,0,h,_=>h.1
 | _::l,_::k,i+1,h,hi=>A2.at (i:=i) h.2 (by simpa using hi)
theorem A2.mem{α β:Type}{R:α->β->Prop}:∀ {l:List α} {k:List β} {x:α},A2 R l k->x∈l->∃ y∈k,R x y
 | a::l,b::k,x,h,hx=>by
  rcases Qc.mp hx with rfl | hx
  ·exact⟨b,Qe,h.1⟩
  ·obtain⟨y,hy,r⟩:=A2.mem h.2 hx
   exact⟨y,Qd _ hy,r⟩
def Bc(x:Rat)(c:Int):Prop:=0<=x/\x<=(c:Rat)
theorem dJ(l k:List Rat):(l++k).sum=l.sum+k.sum:=by
 induction l with
 | nil=>rw[Yy,Vl,Rat.zero_add]
 | cons a l ih=>rw[Y4,Qn,Qn,ih];grind
theorem zIg{P:D->Rat->List Rat->Prop}{n:Nat}{f:Nat->Rat}:∀ {ks:List D} {i:Nat} {xs:List Rat},(∀ k∈ks,∀ q xs,P k q xs->0<=q->q<=((clm n k).sum:Rat)->A2 Bc xs (clm n k)/\xs.sum=q)->(∀ j k,ks[j]?=some k->0<=f (i+j)/\f (i+j)<=((clm n k).sum:Rat))->ShL P ks f i xs->A2 Bc xs (ks.flatMap (clm n))/\xs.sum=((List.range' i ks.length).map f).sum
 | [],i,xs,_,_,h=>by rw[show xs=[] from h];exact⟨trivial,rfl⟩
 | k::r,i,xs,hp,hf,h=>by
  obtain⟨a,b,rfl,ha,hb⟩:=h;have f0:=hf 0 k rfl;obtain⟨a1,a2⟩:=hp k Qe _ _ ha f0.1 f0.2
  obtain⟨b1,b2⟩:=zIg (fun x hx=>hp x (Qd _ hx)) (fun j k' hj=>by
   have:=hf (j+1) k' (by simpa using hj)
   rw[show i+1+j=i+(j+1) by omega];exact this) hb
  refine⟨by rw[V4];exact a1.app b1,?_⟩
  rw[dJ,a2,b2,Qk,List.range'_succ,Qi,Qn]
theorem vM{n:Nat}{ks:List D}{j:Nat}{k:D}(h:ks[j]?=some k):j<(kcl n ks).length/\cR (kcl n ks) j=((clm n k).sum:Rat):=by
 refine⟨by rw[dY];exact(Vd.mp h).1,?_⟩
 unfold cR kcl;rw[Qr,Qq,h];rfl
theorem zGm:∀ {n:Nat} {d:D} {q:Rat} {xs:List Rat},Gc n d->Sh n d q xs->0<=q->q<=((clm n d).sum:Rat)->A2 Bc xs (clm n d)/\xs.sum=q
 | 0,_,_,_,g,_,_,_=>g.1.elim
 | n+1,d,q,xs,g,h,q0,q1=>by
  rcases h with⟨c,rfl,rfl⟩ | ⟨v,ws,ks,f,rfl,hd,al,hs⟩
  ·refine⟨⟨⟨q0,?_⟩,trivial⟩,by rw[Qn,Vl,Xq]⟩
   have e:((clm (n+1) (.tup [.str "boat", .int c])).sum:Int)=c:=by show([c]:List Int).sum=c;simp
   rw[e] at q1;exact q1
  ·rcases g.1 with⟨c,e⟩ | ⟨w,ws',ks',e,hw,k0,k1,w1,hy,hk⟩
   ·simp at e
   ·simp only[D.tup.injEq,X1,and_true] at e
    obtain⟨e1,e2,rfl⟩:=e;have cl:=g.cl hk k0;have e:(kcl n ks).sum=(clm (n+1) (.tup [.str v.s,.tup (ws.map D.int),.tup ks])).sum:=uZ ks;obtain⟨b,s⟩:=zJU hd cl q0 (by rw[e];exact q1) al
    obtain⟨r1,r2⟩:=zIg (P:=Sh n) (n:=n) (f:=f) (i:=0) (fun k hk' q xs h0 h1 h2=>zGm (g.kid hk hk') h0 h1 h2) (fun j k hj=>by
     obtain⟨j1,j2⟩:=vM (n:=n) hj;rw[Q6,<-j2]
     exact b j j1) hs
    refine⟨r1,?_⟩
    rw[r2,<-U8,<-dY n ks];exact s
def kn:Nat->D->Nat
 | 0,_=>0
 | n+1,d=>match d with
  | .tup [_,_,.tup ks]=>1+(ks.map (kn n)).sum
  | _=>0
theorem zLm{n:Nat}:∀ {ks:List D},(∀ k∈ks,kn n k<=(n-1)*(clm n k).length)->(ks.map (kn n)).sum<=(n-1)*(ks.flatMap (clm n)).length
 | [],_=>Vk _
 | k::r,h=>by
  have a:=h k Qe;have b:=zLm fun x hx=>h x (Qd _ hx)
  rw[Qi,Qn,V4,Qm,U9];omega
theorem zNK:∀ {n:Nat} {d:D},IsC n d->kn n d<=(n-1)*(clm n d).length
 | 0,_,h=>h.elim
 | n+1,d,h=>by
  rcases h with⟨c,rfl⟩ | ⟨w,ws,ks,rfl,hw,k0,k1,w1,hy,hk⟩
  ·exact Vk _
  ·have a:=zLm fun k h=>zNK (hk k h)
   have b:=qJ hk;show 1+(ks.map (kn n)).sum<=(n+1-1)*(ks.flatMap (clm n)).length
   rw[Uw]
   cases n with
   | zero=>obtain⟨k,r,rfl⟩:=List.exists_cons_of_length_pos k0;exact(hk k Qe).elim
   | succ n=>
    rw[Uw] at a;rw[Nat.add_mul,Nat.one_mul];omega
theorem pF{a b:Int}{m n:Nat}(a0:0<a)(b0:0<b)(ha:a<=2^m)(hb:b<=2^n):a*b<=2^(m+n):=by
 rw[U7];exact Int.mul_le_mul ha hb (by omega) (Xj (Ym (by decide)))
theorem zIr{P:D->Rat->List Rat->Prop}{n:Nat}{f:Nat->Rat}{B:Int}:∀ {ks:List D} {i:Nat} {xs:List Rat},(∀ k∈ks,∀ q xs B,P k q xs->0<=q->q<=((clm n k).sum:Rat)->Dn B q->∃ E:Int,0<E/\E<=2^(34*kn n k)/\∀ x∈xs,Dn (B*E) x)->(∀ j k,ks[j]?=some k->Dn B (f (i+j))/\0<=f (i+j)/\f (i+j)<=((clm n k).sum:Rat))->ShL P ks f i xs->∃ E:Int,0<E/\E<=2^(34*(ks.map (kn n)).sum)/\∀ x∈xs,Dn (B*E) x
 | [],i,xs,_,_,h=>⟨1,by decide,by show(1:Int)<=2^(34*0);decide,fun x hx=>by rw[show xs=[] from h] at hx;cases hx⟩
 | k::r,i,xs,hp,hf,h=>by
  obtain⟨a,b,rfl,ha,hb⟩:=h;have f0:=hf 0 k rfl;obtain⟨E,e0,e1,e2⟩:=hp k Qe _ _ B ha f0.2.1 f0.2.2 f0.1
  obtain⟨E',e0',e1',e2'⟩:=zIr (B:=B) (fun x hx=>hp x (Qd _ hx)) (fun j k' hj=>by
   have:=hf (j+1) k' (by simpa using hj)
   rw[show i+1+j=i+(j+1) by omega];exact this) hb
  refine⟨E*E',V3 e0 e0',?_,fun x hx=>?_⟩
  ·rw[Qi,Qn,U9]
   exact pF e0 e0' e1 e1'
  ·rcases Xe.mp hx with hx | hx
   ·rw[<-Xp];exact(e2 x hx).mul E'
   ·rw[Xy E,<-Xp];exact(e2' x hx).mul E
theorem zLk:∀ {n:Nat} {d:D} {q:Rat} {xs:List Rat} {B:Int},Gc n d->Sh n d q xs->0<=q->q<=((clm n d).sum:Rat)->Dn B q->∃ E:Int,0<E/\E<=2^(34*kn n d)/\∀ x∈xs,Dn (B*E) x
 | 0,_,_,_,_,g,_,_,_,_=>g.1.elim
 | n+1,d,q,xs,B,g,h,q0,q1,hB=>by
  rcases h with⟨c,rfl,rfl⟩ | ⟨v,ws,ks,f,rfl,hd,al,hs⟩
  ·exact⟨1,by decide,by show(1:Int)<=2^(34*0);decide,fun x hx=>by rw[Qw.mp hx,Vq];exact hB⟩
  ·rcases g.1 with⟨c,e⟩ | ⟨w,ws',ks',e,hw,k0,k1,w1,hy,hk⟩
   ·simp at e
   ·simp only[D.tup.injEq,X1,and_true] at e
    obtain⟨e1,e2,rfl⟩:=e;have cl:=g.cl hk k0;have gs:=g.sum;have e:(kcl n ks).sum=(clm (n+1) (.tup [.str v.s,.tup (ws.map D.int),.tup ks])).sum:=uZ ks;obtain⟨b,s⟩:=zJU hd cl q0 (by rw[e];exact q1) al
    obtain⟨E,e0,e1,e2⟩:=zNi hd cl (by rw[e];omega) al hB
    obtain⟨E',e0',e1',e2'⟩:=zIr (P:=Sh n) (n:=n) (f:=f) (i:=0) (B:=B*E) (fun k hk' q xs B h0 h1 h2 h3=>zLk (g.kid hk hk') h0 h1 h2 h3) (fun j k hj=>by
     obtain⟨j1,j2⟩:=vM (n:=n) hj;rw[Q6,<-j2]
     exact⟨e2 j j1,b j j1⟩) hs
    refine⟨E*E',V3 e0 e0',?_,fun x hx=>by rw[<-Xp];exact e2' x hx⟩
    show E*E'<=2^(34*(1+(ks.map (kn n)).sum))
    rw[U9];exact pF e0 e0' (Xj e1) e1'
theorem rC{M M':Nat}{ws cs:List Int}{q q' t t':Rat}(hW:Wt ws cs)(a:Lvl M ws cs q t)(b:Lvl M' ws cs q' t')(h:q<=q'){i:Nat}(hi:i<cs.length):dE (cR cs) (cR ws) t i<=dE (cR cs) (cR ws) t' i:=by
 have pw:∀ j∈List.range cs.length,0<cR ws j:=fun j hj=>by
  have:=(hW.at (Qt.mp hj)).1
  unfold cR;exact_mod_cast (show 0<ws.getD j 0 by omega)
 rcases Y6 (a:=t) (b:=t') with g | g
 ·exact nK (pw i (Qt.mpr hi)) g
 ·have le:∀ j∈List.range cs.length,dE (cR cs) (cR ws) t' j<=dE (cR cs) (cR ws) t j:=fun j hj=>nK (pw j hj) g
  have s1:mQ (dE (cR cs) (cR ws) t') (List.range cs.length)=q':=b.sum;have s2:mQ (dE (cR cs) (cR ws) t) (List.range cs.length)=q:=a.sum;have s3:=zBs le;rw[xM le (by rw[s1,s2];rw[s1,s2] at s3;grind) i (Qt.mpr hi)];exact Vi
theorem sQ{M M':Nat}{w:Wy}{ws cs:List Int}{q q':Rat}{f g:Nat->Rat}(hw:w.due ws cs)(hc:Cl cs)(a:Al M ws cs q f w)(b:Al M' ws cs q' g w)(h:q<=q'){i:Nat}(hi:i<cs.length):f i<=g i:=by
 have sm:=hc.sum
 cases w with
 | row=>rw[a i hi,b i hi];exact rV cs 0 i h
 | back=>
  rw[a i hi,b i hi];have:=rV cs 0 (q:=(cs.sum:Rat)-q') (q':=(cs.sum:Rat)-q) i (by grind)
  unfold uT;grind
 | even=>
  obtain⟨t,tl,e⟩:=a;obtain⟨t',tl',e'⟩:=b;rw[e i hi,e' i hi];exact rC hw tl tl' h hi
 | lack=>
  obtain⟨t,tl,e⟩:=a;obtain⟨t',tl',e'⟩:=b;rw[e i hi,e' i hi];have:=rC hw tl' tl (by grind) hi
  grind
 | part=>
  rw[a i hi,b i hi];have c0:0<=cR cs i:=by unfold cR;exact_mod_cast hc.nn _ (Qg (aR hi))
  obtain⟨p1,p2⟩:=gK (q:=q) hc hi;obtain⟨r1,r2⟩:=gK (q:=q') hc hi;by_cases z:cs.sum=0
  ·rw[p2 z,r2 z];exact Vi
  ·have W:(0:Rat)<(cs.sum:Rat):=by exact_mod_cast (show 0<cs.sum by omega)
   exact zFS W (by rw[p1,r1];exact Xz h c0)
 | half=>
  have ow:=mT cs;obtain⟨t,⟨c,tl,e⟩ | ⟨c,tl,e⟩⟩:=a
  ·have b1:=(oX ow hc tl.nn hi).2
   obtain⟨t',⟨c',tl',e'⟩ | ⟨c',tl',e'⟩⟩:=b
   ·have:=rC ow tl tl' (by grind) hi
    rw[e i hi,e' i hi,zM];grind
   ·have b2:=(oX ow hc tl'.nn hi).2
    rw[e i hi,e' i hi,zM];grind
  ·obtain⟨t',⟨c',tl',e'⟩ | ⟨c',tl',e'⟩⟩:=b
   ·exfalso;grind
   ·have:=rC ow tl' tl (by grind) hi
    rw[e i hi,e' i hi,zM];grind
theorem zCe:∀ {l k:List Int},l.map D.int=k.map D.int->l=k
 | [],[],_=>rfl
 | [],_::_,h=>by cases h
 | _::_,[],h=>by cases h
 | a::l,b::k,h=>by
  rw[Qi,Qi,X1,D.int.injEq] at h;rw[h.1,zCe h.2]
theorem A2.refl{α:Type}{R:α->α->Prop}(h:∀ a,R a a):∀ l:List α,A2 R l l
 | []=>trivial
 | a::l=>⟨h a,A2.refl h l⟩
theorem zCh{P:D->Rat->List Rat->Prop}{f g:Nat->Rat}:∀ {ks:List D} {i:Nat} {xs ys:List Rat},(∀ k∈ks,∀ q q' xs ys,P k q xs->P k q' ys->q<=q'->A2 (·<=·) xs ys)->(∀ j,j<ks.length->f (i+j)<=g (i+j))->ShL P ks f i xs->ShL P ks g i ys->A2 (·<=·) xs ys
 | [],i,xs,ys,_,_,h,h'=>by rw[show xs=[] from h,show ys=[] from h'];trivial
 | k::r,i,xs,ys,hp,hf,h,h'=>by
  obtain⟨a,b,rfl,ha,hb⟩:=h;obtain⟨a',b',rfl,ha',hb'⟩:=h'
  exact(hp k Qe _ _ _ _ ha ha' (hf 0 (by simp))).app (zCh (fun x hx=>hp x (Qd _ hx)) (fun j hj=>by
   have:=hf (j+1) (by simpa using hj)
   rw[show i+1+j=i+(j+1) by omega];exact this) hb hb')
theorem zBI:∀ {n:Nat} {d:D} {q q':Rat} {xs ys:List Rat},Gc n d->Sh n d q xs->Sh n d q' ys->q<=q'->A2 (·<=·) xs ys
 | 0,_,_,_,_,_,g,_,_,_=>g.1.elim
 | n+1,d,q,q',xs,ys,g,h,h',le=>by
  rcases h with⟨c,rfl,rfl⟩ | ⟨v,ws,ks,f,rfl,hd,al,hs⟩
  ·rcases h' with⟨c',e',rfl⟩ | ⟨v',ws',ks',f',e',hd',al',hs'⟩
   ·exact⟨le,trivial⟩
   ·simp at e'
  ·rcases g.1 with⟨c,e⟩ | ⟨w,ws',ks',e,hw,k0,k1,w1,hy,hk⟩
   ·simp at e
   simp only[D.tup.injEq,X1,and_true] at e;obtain⟨e1,e2,rfl⟩:=e;have cl:=g.cl hk k0;rcases h' with⟨c',e',rfl⟩ | ⟨v',ws2,ks',f',e',hd',al',hs'⟩
   ·simp at e'
   simp only[D.tup.injEq,X1,and_true,D.str.injEq] at e';obtain⟨e3,e4,rfl⟩:=e';have ev:v=v':=by cases v<;>cases v'<;>first | rfl | exact absurd e3 (by decide)
   subst ev;have ew:ws=ws2:=zCe e4;subst ew;exact zCh (fun k hk' q q' xs ys h1 h2 h3=>zBI (g.kid hk hk') h1 h2 h3) (fun j hj=>by rw[Q6];exact sQ hd cl al al' le (by rw[dY];exact hj)) hs hs'
theorem zMN:∀ {xs ys:List Rat},A2 (·<=·) xs ys->A2 (·<=·) ys xs->xs=ys
 | [],[],_,_=>rfl
 | x::l,y::k,h,h'=>by
  have a:=h.1;have b:=h'.1;rw[zMN h.2 h'.2,show x=y by grind]
theorem zMR{n:Nat}{d:D}{q:Rat}{xs ys:List Rat}(g:Gc n d)(h:Sh n d q xs)(h':Sh n d q ys):xs=ys:=zMN (zBI g h h' Vi) (zBI g h' h Vi)
theorem zCB{α:Type}{u:α->D}{t:Tv}{f:Ev}{ρ:Rho}{p:α->Bool}:∀ {l:List α},(∀ a∈l,t (ρ++[.val (u a)])=.ok (p a)/\f (ρ++[.val (u a)])=.ok (u a))->fF t f ρ (l.map u)=.ok ((l.filter p).map u)
 | [],_=>rfl
 | a::l,h=>by
  have ⟨h1,h2⟩:=h a Qe;have ih:=zCB (u:=u) (t:=t) (f:=f) (ρ:=ρ) (p:=p) fun x hx=>h x (Qd _ hx)
  rw[Qi,fF,h1]
  cases z:p a with
  | true=>rw[List.filter_cons_of_pos z];simp only[noErr,Res.bind,if_true,h2,ih];rfl
  | false=>rw[List.filter_cons_of_neg (by rw[z];decide)];simp only[noErr,Res.bind,ih];rfl
theorem zEg{α:Type}{u:α->D}{t:Tv}{f:Ev}{ρ:Rho}{p:α->Bool}{l:List α}(hl:l.length<=16777215)(h:∀ a∈l,t (ρ++[.val (u a)])=.ok (p a)/\f (ρ++[.val (u a)])=.ok (u a)):zAb t f ρ (l.map u)=.ok ((l.filter p).map u):=by
 unfold zAb;rw[if_pos (by rw[Qh];exact hl),zCB h]
theorem zAQ{x l:Rat}{m n:Nat}(hx:Sz m x)(hl:Sz n l)(h:m+n<=99990):cG [dq x,dq l]=.ok (.v (.bl (decide (x<0) || decide (l<x)))):=by
 unfold cG;symm;rw[sF (n:=1) hx ⟨by decide,by decide⟩ (by omega)];symm;by_cases c:x<0
 ·rw[decide_eq_true c]
  symm
 ·rw[decide_eq_false c]
  symm;rw[sF hl hx (by omega)];symm
theorem zGn{x l:Rat}{m n:Nat}(hx:Sz m x)(hl:Sz n l)(h:m+n<=99990)(hb:x<0∨l<x):bF [dq x,dq l]=.err "Outside" := by
 unfold bF;symm;rw[zAQ hx hl h,show(decide (x<0) || decide (l<x))=true by rcases hb with h | h<;>simp[h]];symm
theorem uV{p q:Rat}{m n:Nat}(hp:Sz m p)(hq:Sz n q)(h:m+n<=99999):dO [dq p,dq q]=.ok (.v (.bl (decide (p<q)))):=by
 unfold dO;symm;rw[oMul_i (bQ hp.1 hq.d (by omega))];symm;rw[oMul_i (bQ hq.1 hp.d (by omega))];symm;simp only[lt_iff]
theorem jK(ns:List Int)(k:Int)(h:0<=k):cY [.lst (ns.map D.int),.int k]=.ok (.v (.int (ns.getD k.toNat 0))):=by
 unfold cY;symm;by_cases c:k<(ns.length:Int)
 ·rw[decide_eq_true c]
  symm;have hk:k.toNat<ns.length:=by omega
  rw[mE h (Qj hk),Qr,Qj hk];rfl
 ·rw[decide_eq_false c]
  symm;rw[Qr,Qv (by omega)];rfl
theorem xN:∀ {ds:List D} {n i:Nat} {d:D},(kG n ds)[i]?=some d->∃ a,ds[i]?=some a/\d=.tup [.int ((n+i:Nat):Int),a]
 | a::r,n,0,d,h=>by cases h;exact⟨a,rfl,rfl⟩
 | a::r,n,i+1,d,h=>by
  obtain⟨b,h1,h2⟩:=xN (ds:=r) (n:=n+1) (i:=i) h;exact⟨b,h1,by rw[h2];congr 4;omega⟩
 | [],n,i,d,h=>by cases i<;>cases h
theorem rE:∀(ds:List D)(n:Nat),(kG n ds).length=ds.length
 | a::r,n=>by simp only[kG,Qk,rE r (n+1)]
 | [],n=>rfl
def mkA(kd:Bool)(l:List Rat):D:=if kd then .lst (l.map dq) else .tup (l.map dq)
theorem zJZ(kd:Bool)(l:List Rat):lA [mkA kd l]=.ok (.int (l.length:Int)):=by
 cases kd
 ·show lA [.tup (l.map dq)]=_
  rw[bLen_t,Qh]
 ·show lA [.lst (l.map dq)]=_
  rw[bLen_l,Qh]
theorem zGj{kd:Bool}{l:List Rat}{i:Nat}(h:i<l.length):oIx (mkA kd l) (.int (i:Int))=.ok (dq (l.getD i 0)):=by
 have e:l[(i:Int).toNat]?=some (l.getD i 0):=by rw[Vh,Qr,Qj h];rfl
 cases kd
 ·exact xV (Va i) e
 ·exact mE (Va i) e
theorem zJN(kd:Bool)(l:List Rat):zHZ (mkA kd l)=.ok (l.map dq):=by cases kd<;>rfl
def sV(m:D->Nat):List D->List Rat->List (List Rat)
 | [],_=>[]
 | k::r,xs=>xs.take (m k)::sV m r (xs.drop (m k))
theorem lT{m:D->Nat}:∀(ks:List D)(xs:List Rat),(sV m ks xs).length=ks.length
 | [],_=>rfl
 | k::r,xs=>by rw[sV,Qk,lT r,Qk]
theorem vV{m:D->Nat}:∀ {ks:List D} {xs ys:List Rat} {x:Rat},ys∈sV m ks xs->x∈ys->x∈xs
 | [],xs,ys,x,h,_=>by cases h
 | k::r,xs,ys,x,h,hx=>by
  rw[sV] at h;rcases Qc.mp h with rfl | h
  ·exact Y9 hx
  ·exact Wa (vV h hx)
theorem zJs{m:D->Nat}:∀ {ks:List D} {xs:List Rat} {i:Nat} {k:D},(ks.map m).sum<=xs.length->ks[i]?=some k->((sV m ks xs).getD i []).length=m k
 | c::r,xs,0,k,hl,h=>by
  cases h;rw[Qi,Qn] at hl;show(xs.take (m c)).length=m c
  rw[V6];omega
 | c::r,xs,i+1,k,hl,h=>by
  rw[Qi,Qn] at hl;exact zJs (ks:=r) (xs:=xs.drop (m c)) (by rw[Vn];omega) (by simpa using h)
theorem zMi{kd:Bool}{xs:List Rat}{a b:Nat}:zKQ (mkA kd xs) (some (a:Int)) (some ((a+b:Nat):Int))=.ok (mkA kd ((xs.drop a).take b)):=by
 have e:dU (xs.map dq) (some (a:Int)) (some ((a+b:Nat):Int))=((xs.drop a).take b).map dq:=by
  rw[zFo (by omega) (by omega),<-List.map_drop,<-List.map_take,Vh,Vh,Wn]
 cases kd
 ·show zKQ (.tup (xs.map dq)) _ _=.ok (.tup _)
  rw[slQG_t,e]
 ·show zKQ (.lst (xs.map dq)) _ _=.ok (.lst _)
  rw[slQG_l,e]
theorem zCH{n:Nat}{d:D}{kd:Bool}{xs:List Rat}(hn:n<=8):∀(ks:List D)(st:Nat)(acc:List D)(a b:Sl),(∀ k∈ks,IsC n k)->(ks.flatMap (clm n)).length<=12->acc.length+ks.length<=1000->
  ∃ s' a' b',loop (gName 4) vL ks [.val d,.val (mkA kd xs),.own acc,.val (.int (st:Int)),a,b]=.ok (.nx [.val d,.val (mkA kd xs),.own (acc++(sV (fun k=>(clm n k).length) ks (xs.drop st)).map (mkA kd)),s',a',b'])
 | [],st,acc,a,b,_,_,_=>⟨.val (.int (st:Int)),a,b,by rw[loop];simp[sV]⟩
 | k::r,st,acc,a,b,h,hl,hz=>by
  rw[V4,Qm] at hl;rw[Qk] at hz;have ick:=h k Qe;have cl:=gH 10 k (fL ick (by omega)) (by rw[dN ick (show n<=10 by omega)];omega)
  rw[dN ick (show n<=10 by omega)] at cl;obtain⟨s',a',b',e⟩:=zCH (d:=d) (kd:=kd) (xs:=xs) hn r (st+(clm n k).length) (acc++[mkA kd ((xs.drop st).take (clm n k).length)]) (.val k) (.val (.int ((st+(clm n k).length:Nat):Int))) (fun x hx=>h x (Qd _ hx)) (by omega) (by rw[Qm,X7];omega)
  refine⟨s',a',b',?_⟩
  rw[dW (ρ1:=[.val d,.val (mkA kd xs),.own acc,.val (.int (st:Int)),.val k,b]) (ρ2:=[.val d,.val (mkA kd xs),.own (acc++[mkA kd ((xs.drop st).take (clm n k).length)]),.val (.int ((st+(clm n k).length:Nat):Int)),.val k,.val (.int ((st+(clm n k).length:Nat):Int))]) rfl,e]
  ·rw[sV,Qi,Xi,List.drop_drop];rfl
  ·symm
   rw[cl];symm;rw[<-Xn,zMi];symm;rw[if_pos (by omega)];symm
theorem zAz{n:Nat}{w:Str}{x:D}{ks:List D}{kd:Bool}{xs:List Rat}(hw:(w == "boat")=false)(hn:n<=8)(hk:∀ k∈ks,IsC n k)(hl:(ks.flatMap (clm n)).length<=12):
  iE [.tup [.str w,x,.tup ks],mkA kd xs]=.ok (.f ((sV (fun k=>(clm n k).length) ks xs).map (mkA kd))):=by
 have kl:=qJ hk;obtain⟨s',a',b',e⟩:=zCH (d:=.tup [.str w,x,.tup ks]) (kd:=kd) (xs:=xs) hn ks 0 [] .un .un hk hl (by rw[X8];omega)
 unfold iE;symm;rw[eK hw];symm;rw[show(0:Int)=((0:Nat):Int) from rfl,e];rfl
theorem zGW{kd:Bool}{ps:List (List Rat)}{i:Nat}(h:i<ps.length):oIx (.lst (ps.map (mkA kd))) (.int (i:Int))=.ok (mkA kd (ps.getD i [])):=
 mE (Va i) (by rw[Vh,Qr,Qj h];rfl)
theorem zHB{kd:Bool}{xs:List Rat}{m n:Nat}(hp:∀ j,Sz m (xs.take j).sum)(hx:∀ x∈xs,Sz n x)(h:m+n<=8999):jM [mkA kd xs]=.ok (.v (dq xs.sum)):=by
 unfold jM;symm;rw[zJN];symm;rw[show dq 0=dq ((xs.take 0).sum) from rfl];refine kU (Q:=fun r=>r.bind fin=.ok (.v (dq xs.sum))) (k:=zCC yQ) (fun i ρ=>∃ a,ρ=[.val (mkA kd xs),.val (dq ((xs.take i).sum)),a]) ⟨_,rfl⟩ ?_ ?_
 ·rintro i d ρ hd ⟨a,rfl⟩
  have hi:i<xs.length:=by have:=(Vd.mp hd).1;rwa [Qh] at this
  rw[Qq,Qj hi] at hd;cases hd;refine⟨[.val (mkA kd xs),.val (dq ((xs.take (i+1)).sum)),.val (dq xs[i])],?_,_,rfl⟩
  have e:(xs.take (i+1)).sum=(xs.take i).sum+xs[i]:=by
   rw[Yn,Qj hi];show(xs.take i++[xs[i]]).sum=_
   rw[dJ,Qn,Vl,Xq]
  symm;rw[vE (hp i) (hx _ (V5 hi)) h,e];symm
 ·rintro ρ ⟨a,rfl⟩
  rw[Qh,Xb];rfl
theorem Dn.szA{B c:Int}{x:Rat}{a b:Nat}(h:Dn B x)(hB:0<B)(hb:B<2^b)(h0:-(c:Rat)<=x)(h1:x<=(c:Rat))(hc:c<2^a):Sz (a+b) x:=by
 by_cases z:0<=x
 ·exact h.sz hB hb z h1 hc
 ·have hn:Dn B (-x):=by
   obtain⟨k,e⟩:=h;exact⟨-k,by rw[Rat.neg_mul,e,Rat.intCast_neg]⟩
  have s:=hn.sz hB hb (by grind) (by grind) hc (c:=c)
  have e1:(-x).num=-x.num:=rfl;have e2:(-x).den=x.den:=rfl;refine⟨?_,?_⟩
  ·have:=s.1;rw[e1,Int.natAbs_neg] at this;exact this
  ·have:=s.2;rw[e2] at this;exact this
structure Am (b:Nat) (xs:List Rat):Prop where
 len:xs.length<=12
 dn:∃ B:Int,0<B/\B<2^b/\∀ x∈xs,Dn B x
 bd:∀ x∈xs,-(2^36:Int)<=x/\x<=(2^36:Int)
theorem Am.sub{b:Nat}{xs ys:List Rat}(h:Am b xs)(hl:ys.length<=12)(hs:∀ y∈ys,y∈xs):Am b ys:=by
 obtain⟨B,b0,b1,b2⟩:=h.dn;exact⟨hl,⟨B,b0,b1,fun x hx=>b2 x (hs x hx)⟩,fun x hx=>h.bd x (hs x hx)⟩
theorem zBl{B:Int}:∀ {xs:List Rat},(∀ x∈xs,Dn B x)->Dn B xs.sum
 | [],_=>Dn.zero B
 | x::r,h=>by rw[Qn];exact(h x Qe).add (zBl fun y hy=>h y (Qd _ hy))
theorem zER{c:Int}:∀ {xs:List Rat},(∀ x∈xs,-(c:Rat)<=x/\x<=(c:Rat))->-(((xs.length*c:Int):Rat))<=xs.sum/\xs.sum<=((xs.length*c:Int):Rat)
 | [],_=>by
  have e:((([]:List Rat).length*c:Int):Rat)=0:=by rw[X8];simp
  rw[e,Vl];constructor<;>grind
 | x::r,h=>by
  have a:=h x Qe;have b:=zER fun y hy=>h y (Qd _ hy)
  have e:(((x::r).length*c:Int):Rat)=((r.length*c:Int):Rat)+(c:Rat):=by
   rw[Qk,Int.natCast_succ,Xx,Um,Q2]
  rw[e,Qn];constructor<;>grind
theorem Am.sum{b:Nat}{xs:List Rat}(h:Am b xs):Sz (41+b) xs.sum/\-(2^40:Int)<=xs.sum/\xs.sum<=(2^40:Int)/\∀ B,(∀ x∈xs,Dn B x)->Dn B xs.sum:=by
 obtain⟨B,b0,b1,b2⟩:=h.dn;have s:=zER (c:=2^36) h.bd;have l:=h.len;have e:((xs.length*2^36:Int):Rat)<=((2^40:Int):Rat):=Vb.mpr (by omega)
 have u:-(2^40:Int)<=xs.sum:=by grind
 have v:xs.sum<=(2^40:Int):=by grind
 exact⟨(zBl b2).szA b0 b1 (c:=2^40) u v (by decide),u,v,fun B h=>zBl h⟩
theorem Am.each{b:Nat}{xs:List Rat}(h:Am b xs){x:Rat}(hx:x∈xs):Sz (37+b) x:=by
 obtain⟨B,b0,b1,b2⟩:=h.dn;exact(b2 x hx).szA b0 b1 (c:=2^36) (h.bd x hx).1 (h.bd x hx).2 (by decide)
theorem Am.take{b:Nat}{xs:List Rat}(h:Am b xs)(j:Nat):Am b (xs.take j):=h.sub (by rw[V6];have:=h.len;omega) fun y hy=>Y9 hy
theorem Am.tot{b:Nat}{kd:Bool}{xs:List Rat}(h:Am b xs)(hb:b<=4000):jM [mkA kd xs]=.ok (.v (dq xs.sum)):=zHB (m:=41+b) (n:=37+b) (fun j=>(h.take j).sum.1) (fun _ hx=>h.each hx) (by omega)
theorem zBn{w:Wy}{ws cs:List Int}{wd cd:D}(sw:Sq wd ws)(sc:Sq cd cs){q:Rat}{m:Nat}(hm:m<=5000)(hw:w.due ws cs)(hc:Cl cs)(zq:Sz m q)(hb:q<0∨(cs.sum:Rat)<q):iN [.str w.s,wd,cd,dq q]=.err "Outside" := by
 have sm:=hc.sum;unfold iN;symm;rw[zCA sw sc hw hc];symm;rw[sc.sum];symm;rw[cM];symm;rw[zGn zq (n:=120) ⟨by show cs.sum.natAbs<2^120;omega,by show 1<2^120;decide⟩ (by omega) hb];symm
theorem zIh(a b:Rat):eqD (dq a) (dq b)=decide (a=b):=eq_dq a b
theorem zMW{a b c d:Rat}:oNe (.lst [dq a,dq b]) (.lst [dq c,dq d])=.ok (.bl (!(decide (a=c) && decide (b=d)))):=by
 unfold oNe;rw[if_pos (by simp only[dep,depS,dep_dq];decide)];show Res.ok (D.bl (!(eqD (dq a) (dq c) && (eqD (dq b) (dq d) && uS [] []))))=_
 rw[zIh,zIh];show Res.ok (D.bl (!(decide (a=c) && (decide (b=d) && true))))=_
 rw[U3]
def two(ws:List Int)(i j:Nat):List Int:=if ws=[] then [] else [ws.getD i 0,ws.getD j 0]
def pcs(n:Nat)(ks:List D)(xs:List Rat):List (List Rat):=sV (fun k=>(clm n k).length) ks xs
def Rt2(v:Wy)(ws:List Int)(cs:List Int)(i j:Nat)(a b:Rat):Prop:=0<=a+b/\a+b<=cR cs i+cR cs j/\∃(M:Nat)(f:Nat->Rat),Al M (two ws i j) [cs.getD i 0,cs.getD j 0] (a+b) f v/\f 0=a/\f 1=b
theorem zFl{v:Wy}{ws cs:List Int}{i j:Nat}(h:v.due ws cs)(hi:i<cs.length)(hj:j<cs.length):v.due (two ws i j) [cs.getD i 0,cs.getD j 0]:=by
 have wt:Wt ws cs->Wt (two ws i j) [cs.getD i 0,cs.getD j 0]:=fun w=>by
  have ne:ws≠[]:=fun z=>by have:=w.len;rw[z] at this;simp at this;omega
  unfold two;rw[if_neg ne];have li:i<ws.length:=by rw[w.len];exact hi
  have lj:j<ws.length:=by rw[w.len];exact hj
  refine⟨rfl,fun x hx=>?_,fun x hx=>?_⟩
  ·simp only[Qc,Q4,or_false] at hx
   rcases hx with rfl | rfl
   ·exact w.lo _ (Qg (aR li))
   ·exact w.lo _ (Qg (aR lj))
  ·simp only[Qc,Q4,or_false] at hx
   rcases hx with rfl | rfl
   ·exact w.up _ (Qg (aR li))
   ·exact w.up _ (Qg (aR lj))
 have nl:ws=[]->two ws i j=[]:=fun z=>if_pos z
 cases v with
 | even=>exact wt h
 | lack=>exact wt h
 | row=>exact nl h
 | back=>exact nl h
 | part=>exact nl h
 | half=>exact nl h
def Al2(v:Wy)(ws:List Int)(cs:List Int)(i j:Nat)(a b:Rat)(r:Bool):Prop:=0<=a+b->a+b<=cR cs i+cR cs j->(∀(M:Nat)(g:Nat->Rat),Al M (two ws i j) [cs.getD i 0,cs.getD j 0] (a+b) g v->g 0=a/\g 1=b)->r=false
theorem zFU{n:Nat}{kd:Bool}{v:Wy}{ws:List Int}{ks:List D}{xs:List Rat}{i j b:Nat}(g:Gc (n+1) (.tup [.str v.s,.tup (ws.map D.int),.tup ks]))(hn:n<=8)(hk:∀ k∈ks,IsC n k)(k0:0<ks.length)(due:v.due ws (kcl n ks))(am:Am b xs)(hb:b<=1200)(hi:i<ks.length)(hj:j<ks.length):
  ∃ r:Bool,iW [.tup [.str v.s,.tup (ws.map D.int),.tup ks],mkA kd xs,.int (i:Int),.int (j:Int)]=.ok (.v (.bl r))/\(r=false ↔ Rt2 v ws (kcl n ks) i j ((pcs n ks xs).getD i []).sum ((pcs n ks xs).getD j []).sum)/\Al2 v ws (kcl n ks) i j ((pcs n ks xs).getD i []).sum ((pcs n ks xs).getD j []).sum r:=by
 have l12:(ks.flatMap (clm n)).length<=12:=g.2.1;have gs:=g.sum;have cl:=g.cl hk k0;have wb:=pO v;have pl:(pcs n ks xs).length=ks.length:=lT ks xs
 have amp:∀ l,l<ks.length->Am b ((pcs n ks xs).getD l []):=fun l hl=>by
  have m:(pcs n ks xs).getD l []∈pcs n ks xs:=by
   rw[Qr,Qj (by omega)];exact V5 _
  refine am.sub ?_ fun y hy=>vV m hy
  have:∀(ks:List D)(xs:List Rat)(ys:List Rat),ys∈sV (fun k=>(clm n k).length) ks xs->ys.length<=xs.length:=by
   intro ks
   induction ks with
   | nil=>intro xs ys h;cases h
   | cons k r ih=>
    intro xs ys h;rw[sV] at h;rcases Qc.mp h with rfl | h
    ·rw[V6];omega
    ·have:=ih _ _ h;rw[Vn] at this;omega
  have:=this _ _ _ m
  have:=am.len
  omega
 have ai:=amp i hi;have aj:=amp j hj;have kl:(kcl n ks).length=ks.length:=dY n ks
 have at':∀ l:Nat,l<ks.length->∃ k,ks[l]?=some k/\oIx (.tup ks) (.int (l:Int))=.ok k/\k∈ks/\(kcl n ks).getD l 0=(clm n k).sum:=fun l hl=>by
  have e:ks[l]?=some ks[l]:=Qj hl;refine⟨ks[l],e,?_,V5 hl,?_⟩
  ·have:=xV (f:=fun d:D=>d) (l:=ks) (i:=(l:Int)) (a:=ks[l]) (Va l) (by rw[Vh];exact e)
   rwa [List.map_id'] at this
  ·unfold kcl
   rw[Qr,Qq,e];rfl
 obtain⟨ki,_,xi,mi,ci⟩:=at' i hi;obtain⟨kj,_,xj,mj,cj⟩:=at' j hj;have cdi:0<=(kcl n ks).getD i 0/\(kcl n ks).getD i 0<=12*10^9:=by rw[ci];exact(g.kid hk mi).sum
 have cdj:0<=(kcl n ks).getD j 0/\(kcl n ks).getD j 0<=12*10^9:=by rw[cj];exact(g.kid hk mj).sum
 have eci:=lZ (hk ki mi) (by omega) (by have:=(g.kid hk mi).2.1;omega)
 have ecj:=lZ (hk kj mj) (by omega) (by have:=(g.kid hk mj).2.1;omega)
 rw[<-ci] at eci;rw[<-cj] at ecj;have d2:=zFl due (by rw[kl];exact hi) (by rw[kl];exact hj)
 have c2:Cl [(kcl n ks).getD i 0,(kcl n ks).getD j 0]:=⟨fun c hc=>by
   simp only[Qc,Q4,or_false] at hc;rcases hc with rfl | rfl<;>omega,fun c hc=>by
   simp only[Qc,Q4,or_false] at hc;rcases hc with rfl | rfl<;>omega,by show 1<=2;decide,by show 2<=12;decide⟩
 have s2:([(kcl n ks).getD i 0,(kcl n ks).getD j 0]:List Int).sum=(kcl n ks).getD i 0+(kcl n ks).getD j 0:=by simp
 have sc:Sq (.lst [.int ((kcl n ks).getD i 0),.int ((kcl n ks).getD j 0)]) [(kcl n ks).getD i 0,(kcl n ks).getD j 0]:=.inl rfl
 obtain⟨wd,sw,ew⟩:∃ wd:D,Sq wd (two ws i j)/\∀(a4 a5 a6 a7 a9:Sl),fP [.val (.tup [.str v.s,.tup (ws.map D.int),.tup ks]),.val (mkA kd xs),.val (.int (i:Int)),.val (.int (j:Int)),a4,a5,a6,a7,.val (.tup (ws.map D.int)),a9]=fR [.val (.tup [.str v.s,.tup (ws.map D.int),.tup ks]),.val (mkA kd xs),.val (.int (i:Int)),.val (.int (j:Int)),a4,a5,a6,a7,.val wd,a9]:=by
  by_cases z:ws=[]
  ·refine⟨.tup [],.inr (by unfold two;rw[if_pos z];rfl),fun a4 a5 a6 a7 a9=>?_⟩
   subst z;unfold fP;generalize hK:(fR:Sv)=K;symm;rw[show decide ((0:Int)<((0:Nat):Int))=false from rfl];symm
  ·have w0:0<ws.length:=List.length_pos_iff.mpr z
   have wl:ws.length=ks.length:=by
    have wt:Wt ws (kcl n ks)->ws.length=ks.length:=fun w=>by rw[w.len,kl]
    cases v with
    | even=>exact wt due
    | lack=>exact wt due
    | row=>exact absurd due z
    | back=>exact absurd due z
    | part=>exact absurd due z
    | half=>exact absurd due z
   refine⟨.lst [.int (ws.getD i 0),.int (ws.getD j 0)],.inl (by unfold two;rw[if_neg z];rfl),fun a4 a5 a6 a7 a9=>?_⟩
   have iw:∀ l:Nat,l<ks.length->oIx (.tup (ws.map D.int)) (.int (l:Int))=.ok (.int (ws.getD l 0)):=fun l hl=>xV (Va l) (aR (by omega))
   unfold fP;generalize hK:(fR:Sv)=K;symm;rw[decide_eq_true (by omega)];symm;rw[iw i hi];symm;rw[iw j hj];symm
 have zi:=ai.sum;have zj:=aj.sum;generalize hA:((pcs n ks xs).getD i []).sum=A at zi;generalize hB:((pcs n ks xs).getD j []).sum=B' at zj;have zq:Sz (2*b+83) (A+B'):=(zi.1.add zj.1).mono (by omega)
 have ti:=ai.tot (kd:=kd) (by omega)
 have tj:=aj.tot (kd:=kd) (by omega)
 rw[hA] at ti;rw[hB] at tj
 have fin8:∃ r:Bool,(fR [.val (.tup [.str v.s,.tup (ws.map D.int),.tup ks]),.val (mkA kd xs),.val (.int (i:Int)),.val (.int (j:Int)),.val (.lst ((pcs n ks xs).map (mkA kd))),.val (.lst [dq A,dq B']),.val (.tup ks),.val (.lst [.int ((kcl n ks).getD i 0),.int ((kcl n ks).getD j 0)]),.val wd,.un]).bind fin=.ok (.v (.bl r))/\(r=false ↔ Rt2 v ws (kcl n ks) i j A B')/\Al2 v ws (kcl n ks) i j A B' r:=by
  by_cases rg:0<=A+B'/\A+B'<=cR (kcl n ks) i+cR (kcl n ks) j
  ·have hq:Haul (2*b+83) (A+B') ([(kcl n ks).getD i 0,(kcl n ks).getD j 0]:List Int).sum:=⟨rg.1,by rw[s2,Q2];exact rg.2,zq⟩
   obtain⟨f,ef,al⟩:=zDU sw sc (by omega) d2 c2 hq
   refine⟨!(decide (f 0=A) && decide (f 1=B')),?_,?_,fun _ _ h=>by obtain⟨h1,h2⟩:=h _ f al;rw[h1,h2];simp⟩
   ·symm
    rw[yB];symm;rw[show oIx (.lst [dq A,dq B']) (.int 0)=.ok (dq A) from rfl];symm;rw[show oIx (.lst [dq A,dq B']) (.int 1)=.ok (dq B') from rfl];symm;rw[vE zi.1 zj.1 (by omega)];symm;rw[ef];symm;rw[show((List.range 2).map f).map dq=[dq (f 0),dq (f 1)] from rfl,zMW];rfl
   ·constructor
    ·intro h
     have h':(decide (f 0=A) && decide (f 1=B'))=true:=by
      cases hh:(decide (f 0=A) && decide (f 1=B')) with
      | true=>rfl
      | false=>rw[hh] at h;cases h
     rw[Vg,decide_eq_true_iff,decide_eq_true_iff] at h';exact⟨rg.1,rg.2,_,f,al,h'.1,h'.2⟩
    ·rintro⟨_,_,M,f',al',e0,e1⟩
     have o0:=zIz d2 al al' (i:=0) (by show 0<2;decide)
     have o1:=zIz d2 al al' (i:=1) (by show 1<2;decide)
     rw[o0,e0,o1,e1];simp
  ·refine⟨true,?_,?_,fun h1 h2 _=>absurd ⟨h1,h2⟩ rg⟩
   ·have hbad:A+B' < 0∨((([(kcl n ks).getD i 0,(kcl n ks).getD j 0]:List Int).sum:Int):Rat)<A+B':=by
     rw[s2,Q2];by_cases q:0<=A+B'
     ·exact .inr (Vw.mp fun z=>rg ⟨q,z⟩)
     ·exact .inl (Vw.mp q)
    symm;rw[yB];symm;rw[show oIx (.lst [dq A,dq B']) (.int 0)=.ok (dq A) from rfl];symm;rw[show oIx (.lst [dq A,dq B']) (.int 1)=.ok (dq B') from rfl];symm;rw[vE zi.1 zj.1 (by omega)];symm;rw[zBn sw sc (by omega) d2 c2 zq hbad];symm;rw[zHI];symm
   ·constructor
    ·intro h;cases h
    ·rintro⟨r1,r2,_⟩;exact absurd ⟨r1,r2⟩ rg
 obtain⟨r,e8,hr⟩:=fin8;refine⟨r,?_,hr⟩
 unfold iW qG qL qK qM;generalize hK:(fP:Sv)=K at ew ⊢;symm;rw[zAz wb hn hk l12];symm;rw[zGW (by rw[lT];exact hi)];symm;rw[show sV (fun k=>(clm n k).length) ks xs=pcs n ks xs from rfl,ti];symm;rw[zGW (by rw[pl];exact hj)];symm;rw[tj];symm;rw[eK wb];symm;rw[xi];symm;rw[eci];symm;rw[xj];symm;rw[ecj];symm;rw[qF];symm;rw[ew];exact e8
theorem wI{g:Gv}{b:Sv}{ds:List D}{ρ:Rho}(P:Nat->Rho->Prop)(R:Nat->Rt->Prop)(h0:P 0 ρ)
  (st:∀ i d ρ,ds[i]?=some d->P i ρ->(∃ ρ1 ρ2,g d ρ=.ok ρ1/\b ρ1=.ok (.nx ρ2)/\P (i+1) ρ2)∨∃ ρ1 r,g d ρ=.ok ρ1/\b ρ1=.ok (.ret r)/\R i r):
  (∃ ρ',loop g b ds ρ=.ok (.nx ρ')/\P ds.length ρ')∨∃ i r,i<ds.length/\loop g b ds ρ=.ok (.ret r)/\R i r:=by
 suffices h:∀(ds:List D)(j:Nat)(ρ:Rho),P j ρ->(∀ i d ρ,ds[i]?=some d->P (j+i) ρ->(∃ ρ1 ρ2,g d ρ=.ok ρ1/\b ρ1=.ok (.nx ρ2)/\P (j+i+1) ρ2)∨∃ ρ1 r,g d ρ=.ok ρ1/\b ρ1=.ok (.ret r)/\R (j+i) r)->(∃ ρ',loop g b ds ρ=.ok (.nx ρ')/\P (j+ds.length) ρ')∨∃ i r,i<ds.length/\loop g b ds ρ=.ok (.ret r)/\R (j+i) r by
  have:=h ds 0 ρ h0 (fun i d ρ hd hp=>by rw[Q6] at hp ⊢;exact st i d ρ hd hp)
  rw[Q6] at this;rcases this with h | ⟨i,r,h1,h2,h3⟩
  ·exact .inl h
  ·exact .inr ⟨i,r,h1,h2,by rw[Q6] at h3;exact h3⟩
 intro ds
 induction ds with
 | nil=>intro j ρ hp _;exact .inl ⟨ρ,rfl,hp⟩
 | cons d ds ih=>
  intro j ρ hp st;rcases st 0 d ρ rfl hp with⟨ρ1,ρ2,e1,e2,hp2⟩ | ⟨ρ1,r,e1,e2,hr⟩
  ·rw[dW e1 e2]
   rcases ih (j+1) ρ2 hp2 (fun i d' ρ' hd hp=>by
    have:=st (i+1) d' ρ' (by simpa using hd) (by rw[show j+(i+1)=j+1+i by omega];exact hp)
    rw[show j+(i+1)=j+1+i by omega] at this
    exact this) with⟨ρ',h1,h2⟩ | ⟨i,r,h1,h2,h3⟩
   ·exact .inl ⟨ρ',h1,by rw[Qk,show j+(ds.length+1)=j+1+ds.length by omega];exact h2⟩
   ·exact .inr ⟨i+1,r,by rw[Qk];omega,h2,by rw[show j+(i+1)=j+1+i by omega];exact h3⟩
  ·exact .inr ⟨0,r,Ys _,zFq e1 e2,hr⟩
def sK(n:Nat)(ks:List D)(xs:List Rat)(l:Nat):Rat:=((pcs n ks xs).getD l []).sum
def Rt3(n:Nat)(v:Wy)(ws:List Int)(ks:List D)(xs:List Rat)(i j:Nat):Prop:=Rt2 v ws (kcl n ks) i j (sK n ks xs i) (sK n ks xs j)
def iI(P:List D)(i j:Nat):D:=.tup [.str "pair", .tup P,.int (i:Int),.int (j:Int)]
theorem zDg{n:Nat}{kd:Bool}{v:Wy}{ws:List Int}{ks P:List D}{xs:List Rat}{b:Nat}(g:Gc (n+1) (.tup [.str v.s,.tup (ws.map D.int),.tup ks]))(hn:n<=8)(hk:∀ k∈ks,IsC n k)(k0:0<ks.length)(due:v.due ws (kcl n ks))(am:Am b xs)(hb:b<=1200):
  (eH [.tup [.str v.s,.tup (ws.map D.int),.tup ks],mkA kd xs,.tup P]=.ok (.v .non)/\∀ i j,i<j->j<ks.length->Rt3 n v ws ks xs i j)∨
  ∃ i j,i<j/\j<ks.length/\eH [.tup [.str v.s,.tup (ws.map D.int),.tup ks],mkA kd xs,.tup P]=.ok (.v (iI P i j))/\¬ Rt3 n v ws ks xs i j/\∀ i' j',i' < j'->j' < ks.length->(i' < i∨i'=i/\j' < j)->Rt3 n v ws ks xs i' j':=by
 have kl:=qJ hk;have l12:(ks.flatMap (clm n)).length<=12:=g.2.1;generalize hd:D.tup [.str v.s,.tup (ws.map D.int),.tup ks]=d at g ⊢;have wr:=fun(i j:Nat) (hi:i<ks.length) (hj:j<ks.length)=>zFU (kd:=kd) (i:=i) (j:=j) (by rw[hd];exact g) hn hk k0 due am hb hi hj
 rw[hd] at wr
 have head:∀ r:Res Fl,(eH [d,mkA kd xs,.tup P]=((loop (gName 4) eJ (rng 0 ks.length 1) [.val d,.val (mkA kd xs),.val (.tup P),.val (.int (ks.length:Int)),.un,.un]).bind (zCC qE)).bind fin):=fun _=>by
  rw[<-hd];unfold eH;symm;rw[eK (pO v)];symm;rw[pQ (by omega) (by omega),Vh];symm
 have inner:∀(i:Nat)(a5:Sl),i<ks.length->(∃ a5',eJ [.val d,.val (mkA kd xs),.val (.tup P),.val (.int (ks.length:Int)),.val (.int (i:Int)),a5]=.ok (.nx [.val d,.val (mkA kd xs),.val (.tup P),.val (.int (ks.length:Int)),.val (.int (i:Int)),a5'])/\∀ j,i<j->j<ks.length->Rt3 n v ws ks xs i j)∨
   ∃ j,i<j/\j<ks.length/\eJ [.val d,.val (mkA kd xs),.val (.tup P),.val (.int (ks.length:Int)),.val (.int (i:Int)),a5]=.ok (.ret (.v (iI P i j)))/\¬ Rt3 n v ws ks xs i j/\∀ j',i<j'->j' < j->Rt3 n v ws ks xs i j':=by
  intro i a5 hi
  have e:eJ [.val d,.val (mkA kd xs),.val (.tup P),.val (.int (ks.length:Int)),.val (.int (i:Int)),a5]=loop (gName 5) kN (rng ((i:Int)+1) ((ks.length:Int)-((i:Int)+1)).toNat 1) [.val d,.val (mkA kd xs),.val (.tup P),.val (.int (ks.length:Int)),.val (.int (i:Int)),a5]:=by
   symm;rw[zJz (by omega) (by omega) (by omega) (by omega)];symm
  rw[e];have ll:(rng ((i:Int)+1) ((ks.length:Int)-((i:Int)+1)).toNat 1).length=ks.length-(i+1):=by unfold rng;rw[Qh,Q7];omega
  rcases wI (g:=gName 5) (b:=kN) (ds:=rng ((i:Int)+1) ((ks.length:Int)-((i:Int)+1)).toNat 1) (ρ:=[.val d,.val (mkA kd xs),.val (.tup P),.val (.int (ks.length:Int)),.val (.int (i:Int)),a5])
   (fun l ρ=>∃ a5',ρ=[.val d,.val (mkA kd xs),.val (.tup P),.val (.int (ks.length:Int)),.val (.int (i:Int)),a5']/\∀ j,i<j->j<i+1+l->Rt3 n v ws ks xs i j)
   (fun l r=>r=.v (iI P i (i+1+l))/\¬ Rt3 n v ws ks xs i (i+1+l)/\∀ j',i<j'->j' < i+1+l->Rt3 n v ws ks xs i j') ⟨_,rfl,fun j h1 h2=>absurd h1 (by omega)⟩ (by
   rintro l e ρ he ⟨a5',rfl,hp⟩
   obtain⟨hl,rfl⟩:=zGK he;have lj:i+1+l<ks.length:=by omega
   obtain⟨r,er,hr,_⟩:=wr i (i+1+l) hi lj;rw[show((i:Int)+1)+(l:Int)*1=((i+1+l:Nat):Int) by omega]
   cases r with
   | false=>
    refine .inl ⟨[.val d,.val (mkA kd xs),.val (.tup P),.val (.int (ks.length:Int)),.val (.int (i:Int)),.val (.int ((i+1+l:Nat):Int))],[.val d,.val (mkA kd xs),.val (.tup P),.val (.int (ks.length:Int)),.val (.int (i:Int)),.val (.int ((i+1+l:Nat):Int))],rfl,?_,_,rfl,fun j h1 h2=>?_⟩
    rotate_left
    ·rcases Yi (show j<=i+1+l by omega) with z | z
     ·exact hp j h1 z
     ·rw[z];exact hr.mp rfl
    ·symm
     rw[er];symm
   | true=>
    refine .inr ⟨[.val d,.val (mkA kd xs),.val (.tup P),.val (.int (ks.length:Int)),.val (.int (i:Int)),.val (.int ((i+1+l:Nat):Int))],_,rfl,?_,rfl,fun z=>(by have:=hr.mpr z;cases this),hp⟩
    symm;rw[er];symm
    rfl) with⟨ρ',e',a5',rfl,hp⟩ | ⟨l,r,hl,e',rfl,h1,h2⟩
  ·exact .inl ⟨a5',e',fun j h1 h2=>hp j h1 (by rw[ll];omega)⟩
  ·rw[ll] at hl
   exact .inr ⟨i+1+l,by omega,by omega,e',h1,h2⟩
 rw[head .no];have ll:(rng 0 ks.length 1).length=ks.length:=by unfold rng;rw[Qh,Q7]
 rcases wI (g:=gName 4) (b:=eJ) (ds:=rng 0 ks.length 1) (ρ:=[.val d,.val (mkA kd xs),.val (.tup P),.val (.int (ks.length:Int)),.un,.un])
  (fun l ρ=>∃ a4 a5,ρ=[.val d,.val (mkA kd xs),.val (.tup P),.val (.int (ks.length:Int)),a4,a5]/\∀ i j,i<j->j<ks.length->i<l->Rt3 n v ws ks xs i j)
  (fun l r=>∃ j,l<j/\j<ks.length/\r=.v (iI P l j)/\¬ Rt3 n v ws ks xs l j/\(∀ j',l<j'->j' < j->Rt3 n v ws ks xs l j')/\∀ i j,i<j->j<ks.length->i<l->Rt3 n v ws ks xs i j) ⟨_,_,rfl,fun i j _ _ h=>absurd h (Yu _)⟩ (by
  rintro l e ρ he ⟨a4,a5,rfl,hp⟩
  obtain⟨hl,rfl⟩:=zGK he;rw[show(0:Int)+(l:Int)*1=(l:Int) by omega];rcases inner l a5 hl with⟨a5',e1,h1⟩ | ⟨j,j1,j2,e1,h1,h2⟩
  ·refine .inl ⟨_,_,rfl,e1,_,_,rfl,fun i j hij hj hi=>?_⟩
   rcases Yi (show i<=l by omega) with z | z
   ·exact hp i j hij hj z
   ·subst z;exact h1 j hij hj
  ·exact .inr ⟨_,_,rfl,e1,j,j1,j2,rfl,h1,h2,hp⟩) with⟨ρ',e',a4,a5,rfl,hp⟩ | ⟨l,r,hl,e',j,j1,j2,rfl,h1,h2,h3⟩
 ·rw[e']
  refine .inl ⟨rfl,fun i j hij hj=>hp i j hij hj (by rw[ll];omega)⟩
 ·rw[e']
  refine .inr ⟨l,j,j1,j2,rfl,h1,fun i' j' a b c=>?_⟩
  rcases c with c | ⟨rfl,c⟩
  ·exact h3 i' j' a b c
  ·exact h2 j' a c
def AR:Nat->D->List Rat->Prop
 | 0,_,_=>True
 | n+1,d,xs=>∀(v:Wy)(ws:List Int)(ks:List D),d=.tup [.str v.s,.tup (ws.map D.int),.tup ks]->(∀ i j,i<j->j<ks.length->Rt3 n v ws ks xs i j)/\∀ l k,ks[l]?=some k->AR n k ((pcs n ks xs).getD l [])
theorem Am.pc{b n:Nat}{ks:List D}{xs:List Rat}(am:Am b xs)(l:Nat):Am b ((pcs n ks xs).getD l []):=by
 have hl:∀(ks:List D)(xs:List Rat)(ys:List Rat),ys∈sV (fun k=>(clm n k).length) ks xs->ys.length<=xs.length:=by
  intro ks
  induction ks with
  | nil=>intro xs ys h;cases h
  | cons k r ih=>
   intro xs ys h;rw[sV] at h;rcases Qc.mp h with rfl | h
   ·rw[V6];omega
   ·have:=ih _ _ h;rw[Vn] at this;omega
 by_cases c:l<(pcs n ks xs).length
 ·have m:(pcs n ks xs).getD l []∈pcs n ks xs:=by
   rw[Qr,Qj c];exact V5 _
  refine am.sub ?_ fun y hy=>vV m hy
  have:=hl _ _ _ m
  have:=am.len
  omega
 ·rw[Qr,Qv (by omega)]
  exact am.sub (by show 0<=12;decide) fun y hy=>by cases hy
theorem zMw{v v':Wy}(h:v.s=v'.s):v=v':=by cases v<;>cases v'<;>first | rfl | exact absurd h (by decide)
theorem zAj:∀ {a b:List Int},a.map D.int=b.map D.int->a=b
 | [],[],_=>rfl
 | x::a,y::b,h=>by
  rw[Qi,Qi] at h;injection h with h1 h2
  injection h1 with h1
  rw[h1,zAj h2]
theorem rJ{n:Nat}{v:Wy}{ws:List Int}{ks:List D}{xs:List Rat}:AR (n+1) (.tup [.str v.s,.tup (ws.map D.int),.tup ks]) xs ↔ (∀ i j,i<j->j<ks.length->Rt3 n v ws ks xs i j)/\∀ l k,ks[l]?=some k->AR n k ((pcs n ks xs).getD l []):=by
 constructor
 ·intro h;exact h v ws ks rfl
 ·intro h v' ws' ks' e
  simp only[D.tup.injEq,X1,and_true,D.str.injEq] at e;obtain⟨e1,e2,rfl⟩:=e;have:=zMw e1
  have:=zAj e2
  subst_vars
  exact h
theorem qA{kd:Bool}{b:Nat}(hb:b<=1200):∀(n N:Nat)(d:D)(xs:List Rat)(P:List Int),Gc n d->n<=N->n<=9->Am b xs->P.length+n<=1000->
  (bA N [d,mkA kd xs,.tup (P.map D.int)]=.ok (.v .non)/\AR n d xs)∨∃(Q:List Int)(i j:Nat),bA N [d,mkA kd xs,.tup (P.map D.int)]=.ok (.v (iI (Q.map D.int) i j))/\¬ AR n d xs
 | 0,_,_,_,_,g,_,_,_,_=>g.1.elim
 | n+1,0,_,_,_,_,h,_,_,_=>absurd h (by omega)
 | n+1,N+1,d,xs,P,g,hN,h9,am,hP=>by
  rcases g.1 with⟨c,rfl⟩ | ⟨w,ws,ks,rfl,hw,k0,k1,w1,hy,hk⟩
  ·refine .inl ⟨?_,fun v ws ks e=>by simp at e⟩
   show cH (bA N) _=_
   unfold cH;symm;rw[lP];symm
  ·obtain⟨v,rfl⟩:=zJS hy.1
   have due:v.due ws (kcl n ks):=zEk (by rw[dY];exact hy.2)
   have l12:(ks.flatMap (clm n)).length<=12:=g.2.1;have kl:=qJ hk;have pl:(pcs n ks xs).length=ks.length:=lT ks xs;show(cH (bA N) _=_/\_)∨∃(Q:List Int)(i j:Nat),cH (bA N) _=_/\_
   rcases zDg (kd:=kd) (P:=P.map D.int) g (by omega) hk k0 due am hb with⟨eo,ho⟩ | ⟨i,j,ij,jk,eo,no,_⟩
   ·have gk0:=fun k (mk:k∈ks)=>g.kid (n:=n) hk mk
    generalize hd:D.tup [.str v.s,.tup (ws.map D.int),.tup ks]=d at *
    have lp:=wI (g:=zBb (gB (gName 5) (gB (gName 6) zBm))) (b:=iM (bA N)) (ds:=kG 0 ks) (ρ:=[.val d,.val (mkA kd xs),.val (.tup (P.map D.int)),.val .non,.val (.lst ((pcs n ks xs).map (mkA kd))),.un,.un])
     (fun l ρ=>∃ a3 a5 a6,ρ=[.val d,.val (mkA kd xs),.val (.tup (P.map D.int)),a3,.val (.lst ((pcs n ks xs).map (mkA kd))),a5,a6]/\∀ l' k,l' < l->ks[l']?=some k->AR n k ((pcs n ks xs).getD l' []))
     (fun l r=>∃(Q:List Int)(i j:Nat)(k:D),r=.v (iI (Q.map D.int) i j)/\ks[l]?=some k/\¬ AR n k ((pcs n ks xs).getD l [])) ⟨_,_,_,rfl,fun l' k h=>absurd h (Yu _)⟩ (by
     rintro l e ρ he ⟨a3,a5,a6,rfl,hp⟩
     obtain⟨k,hk',rfl⟩:=xN he;have hl:l<ks.length:=(Vd.mp hk').1;have mk:k∈ks:=Qg hk';rw[Q6]
     have ap:pJ (.tup (P.map D.int)) (.tup [.int (l:Int)])=.ok (.tup ((P++[(l:Int)]).map D.int)):=by
      rw[Qy];exact if_pos (by rw[Qh];show P.length+1<=16777216;omega)
     have gk:=gk0 k mk;rcases qA hb n N k ((pcs n ks xs).getD l []) (P++[(l:Int)]) gk (by omega) (by omega) (am.pc l) (by rw[Qm,X7];omega) with⟨er,ar⟩ | ⟨Q,i,j,er,nr⟩
     ·refine .inl ⟨[.val d,.val (mkA kd xs),.val (.tup (P.map D.int)),a3,.val (.lst ((pcs n ks xs).map (mkA kd))),.val (.int (l:Int)),.val k],[.val d,.val (mkA kd xs),.val (.tup (P.map D.int)),.val .non,.val (.lst ((pcs n ks xs).map (mkA kd))),.val (.int (l:Int)),.val k],?_,?_,_,_,_,rfl,fun l' k' h1 h2=>?_⟩
      ·symm
      ·symm
       rw[zGW (by omega)];symm;rw[ap];symm;rw[er];symm
      ·rcases Yi (show l'<=l by omega) with z | z
       ·exact hp l' k' z h2
       ·subst z;rw[hk'] at h2;cases h2;exact ar
     ·refine .inr ⟨[.val d,.val (mkA kd xs),.val (.tup (P.map D.int)),a3,.val (.lst ((pcs n ks xs).map (mkA kd))),.val (.int (l:Int)),.val k],_,?_,?_,Q,i,j,k,rfl,hk',nr⟩
      ·symm
      ·symm
       rw[zGW (by omega)];symm;rw[ap];symm;rw[er];symm;unfold iI
       symm)
    have head:cH (bA N) [d,mkA kd xs,.tup (P.map D.int)]=((loop (zBb (gB (gName 5) (gB (gName 6) zBm))) (iM (bA N)) (kG 0 ks) [.val d,.val (mkA kd xs),.val (.tup (P.map D.int)),.val .non,.val (.lst ((pcs n ks xs).map (mkA kd))),.un,.un]).bind (zCC (kY (bA N)))).bind fin:=by
     unfold cH;symm;rw[<-hd,jB (pO v),hd];symm;rw[eo];symm;rw[<-hd,zAz (pO v) (by omega) hk l12,hd];symm;rw[<-hd,eK (pO v),hd];symm;rfl
    rw[head];rcases lp with⟨ρ',e',a3,a5,a6,rfl,hp⟩ | ⟨l,r,hl,e',Q,i,j,k,rfl,hk',nr⟩
    ·rw[e']
     refine .inl ⟨rfl,?_⟩
     rw[<-hd,rJ];refine⟨ho,fun l k h=>hp l k ?_ h⟩
     rw[rE];exact(Vd.mp h).1
    ·rw[e']
     refine .inr ⟨Q,i,j,rfl,fun z=>nr ?_⟩
     rw[<-hd,rJ] at z;exact z.2 l k hk'
   ·refine .inr ⟨P,i,j,?_,fun z=>no ((rJ.mp z).1 i j ij jk)⟩
    unfold cH;symm;rw[jB (pO v)];symm;rw[eo];symm;unfold iI;symm
theorem vB{n:Nat}{d:D}(g:Gc n d)(hn:n<=10):bH 10 [d]=.ok (.f ((clm n d).map D.int)):=by
 have:=gH 10 d (fL g.1 hn) (by rw[dN g.1 hn];have:=g.2.1;omega)
 rwa [dN g.1 hn] at this
theorem zId{n:Nat}{d:D}{kd:Bool}{xs:List Rat}(g:Gc n d)(hn:n<=10):dH [d,mkA kd xs]=if xs.length=(clm n d).length then .ok (.v .non) else .err "Unlike" := by
 unfold dH;symm;rw[zJZ];symm;rw[vB g hn];symm;by_cases c:xs.length=(clm n d).length
 ·rw[if_pos c,c]
  symm
 ·rw[if_neg c,decide_eq_false (by omega)]
  symm
def Wi(cs:List Int)(xs:List Rat):Prop:=∀ i,i<cs.length->0<=xs.getD i 0/\xs.getD i 0<=cR cs i
theorem zJJ{n b:Nat}{d:D}{kd:Bool}{xs:List Rat}(g:Gc n d)(hn:n<=9)(am:Am b xs)(hb:b<=1200)(hl:xs.length=(clm n d).length):
  (∃ k:Nat,bS [d,mkA kd xs]=.ok (.v (.tup [.str "over", .int (k:Int)]))/\k<(clm n d).length/\¬ (0<=xs.getD k 0/\xs.getD k 0<=cR (clm n d) k)/\∀ i,i<k->0<=xs.getD i 0/\xs.getD i 0<=cR (clm n d) i)∨
  (∃(Q:List Int)(i j:Nat),bS [d,mkA kd xs]=.ok (.v (iI (Q.map D.int) i j))/\¬ AR n d xs/\Wi (clm n d) xs)∨(bS [d,mkA kd xs]=.ok (.v (.tup [.str "catch", dq xs.sum]))/\AR n d xs/\Wi (clm n d) xs):=by
 have l12:=g.2.1
 have head:bS [d,mkA kd xs]=((loop (zBb (gB (gName 2) (gB (gName 3) zBm))) iO (kG 0 ((clm n d).map D.int)) [.val d,.val (mkA kd xs),.un,.un,.un]).bind (zCC fK)).bind fin:=by
  unfold bS;symm;rw[zId g (by omega),if_pos hl];symm;rw[vB g (by omega)];symm
 rw[head]
 rcases wI (g:=zBb (gB (gName 2) (gB (gName 3) zBm))) (b:=iO) (ds:=kG 0 ((clm n d).map D.int)) (ρ:=[.val d,.val (mkA kd xs),.un,.un,.un])
  (fun l ρ=>∃ a2 a3,ρ=[.val d,.val (mkA kd xs),a2,a3,.un]/\∀ i,i<l->0<=xs.getD i 0/\xs.getD i 0<=cR (clm n d) i)
  (fun l r=>r=.v (.tup [.str "over", .int (l:Int)])/\¬ (0<=xs.getD l 0/\xs.getD l 0<=cR (clm n d) l)/\∀ i,i<l->0<=xs.getD i 0/\xs.getD i 0<=cR (clm n d) i) ⟨_,_,rfl,fun i h=>absurd h (Yu _)⟩ (by
  rintro l e ρ he ⟨a2,a3,rfl,hp⟩
  obtain⟨a,ha,rfl⟩:=xN he;have hl':l<(clm n d).length:=by have:=(Vd.mp ha).1;rwa [Qh] at this
  rw[Qq,aR hl'] at ha;cases ha;have cb:=g.2.2 _ (Qg (aR hl'));rw[Q6]
  have mx:xs.getD l 0∈xs:=by
   have h:l<xs.length:=by omega
   rw[Qr,Qj h];exact V5 h
  have zx:=am.each mx;have io:=zAQ zx (n:=34) (l:=(((clm n d).getD l 0:Int):Rat)) ⟨by show((clm n d).getD l 0).natAbs<2^34;omega,by show 1<2^34;decide⟩ (by omega)
  by_cases c:0<=xs.getD l 0/\xs.getD l 0<=cR (clm n d) l
  ·refine .inl ⟨[.val d,.val (mkA kd xs),.val (.int (l:Int)),.val (.int ((clm n d).getD l 0)),.un],[.val d,.val (mkA kd xs),.val (.int (l:Int)),.val (.int ((clm n d).getD l 0)),.un],?_,?_,_,_,rfl,fun i hi=>?_⟩
   ·symm
   ·symm
    rw[zGj (by omega)];symm;rw[cM];symm;rw[io,decide_eq_false (Q3.mpr c.1),decide_eq_false (show ¬ (((clm n d).getD l 0:Int):Rat)<xs.getD l 0 from Q3.mpr c.2)];symm
   ·rcases Yi (show i<=l by omega) with z | z
    ·exact hp i z
    ·rw[z];exact c
  ·refine .inr ⟨[.val d,.val (mkA kd xs),.val (.int (l:Int)),.val (.int ((clm n d).getD l 0)),.un],_,?_,?_,rfl,c,hp⟩
   ·symm
   ·have bad:(decide (xs.getD l 0<0) || decide ((((clm n d).getD l 0:Int):Rat)<xs.getD l 0))=true:=by
     rw[V8,decide_eq_true_iff,decide_eq_true_iff];by_cases q:0<=xs.getD l 0
     ·exact .inr (Vw.mp fun z=>c ⟨q,z⟩)
     ·exact .inl (Vw.mp q)
    symm;rw[zGj (by omega)];symm;rw[cM];symm;rw[io,bad]
    symm) with⟨ρ',e',a2,a3,rfl,hp⟩ | ⟨l,r,hll,e',rfl,h1,h2⟩
 ·rw[e']
  rw[rE,Qh] at hp;have wi:Wi (clm n d) xs:=hp;refine .inr ?_
  rcases qA (kd:=kd) hb n 10 d xs [] g (by omega) hn am (by show 0+n<=1000;omega) with⟨ef,ar⟩ | ⟨Q,i,j,ef,nr⟩
  ·have ef:bA 10 [d,mkA kd xs,.tup []]=.ok (.v .non):=ef
   refine .inr ⟨?_,ar,wi⟩
   show(fK _).bind fin=_
   symm;rw[ef];symm;rw[am.tot (by omega)];symm
  ·have ef:bA 10 [d,mkA kd xs,.tup []]=.ok (.v (iI (Q.map D.int) i j)):=ef
   refine .inl ⟨Q,i,j,?_,nr,wi⟩
   show(fK _).bind fin=_
   symm;rw[ef];unfold iI;symm
 ·rw[e']
  rw[rE,Qh] at hll;exact .inl ⟨l,rfl,hll,h1,h2⟩
def Clm(cs:List Int):Prop:=∀ c∈cs,0<=c/\c<=10^9
theorem zEX{n:Nat}{ks:List D}(h:∀ k∈ks,IsC n k):ks.length<=(ks.flatMap (clm n)).length:=qJ h
theorem zDd{ds:List D}{m:Nat}(h0:0<m)(h:m<=ds.length):dU ds none (some (-(m:Int)))=ds.take (ds.length-m):=by
 unfold dU cut;simp only[show ¬ (0<=-(m:Int)) by omega,if_false,List.drop_zero,Ux];rw[show((ds.length:Int)+-(m:Int)).toNat=ds.length-m by omega]
theorem zDL{ds:List D}{m:Nat}(h0:0<m)(h:m<=ds.length):dU ds (some (-(m:Int))) none=ds.drop (ds.length-m):=by
 unfold dU cut;simp only[show ¬ (0<=-(m:Int)) by omega,if_false];rw[show((ds.length:Int)+-(m:Int)).toNat=ds.length-m by omega,Yp (by rw[Vn];omega)]
theorem zJo{x m:Int}(h:0<m)(hm:m<=10^9+1):0<=x % m/\x % m<=10^9:=by
 have a:=Qs x (Wb h);have b:=Q0 x h;omega
theorem zBV{cell kind:Int}(h:0<=cell)(hk:0<=kind):∃ c:Int,gW [.int cell,.int kind]=.ok (.v (.int c))/\0<=c/\c<=10^9:=by
 have d0:0<=cell / 91 % 60*10^6/\cell / 91 % 60*10^6<=10^9:=by
  have a:=Qs (cell / 91) (show(60:Int)≠0 by decide)
  have b:=Q0 (cell / 91) (show(0:Int)<60 by decide)
  omega
 have i0:0<=(kind+cell % 7 / 5) % 4:=Qs _ (by decide)
 have i1:(kind+cell % 7 / 5) % 4<4:=Q0 _ (by decide)
 have hi:((kind+cell % 7 / 5) % 4).toNat < [cell / 7 % 13,cell / 7 % 4,cell / 7 % (10^9+1),cell / 91 % 60*10^6].length:=(Int.toNat_lt i0).mpr i1
 have all:∀ x∈[cell / 7 % 13,cell / 7 % 4,cell / 7 % (10^9+1),cell / 91 % 60*10^6],0<=x/\x<=10^9:=fun x hx=>by
  simp only[Qc,Q4,or_false] at hx;rcases hx with rfl | rfl | rfl | rfl
  ·exact zJo (by decide) (by decide)
  ·exact zJo (by decide) (by decide)
  ·exact zJo (by decide) (by decide)
  ·exact d0
 have ix:=mE (f:=D.int) i0 (Qj hi);have bd:=all _ (V5 hi);generalize ([cell / 7 % 13,cell / 7 % 4,cell / 7 % (10^9+1),cell / 91 % 60*10^6])[((kind+cell % 7 / 5) % 4).toNat]=c at ix bd;unfold gW;symm;rw[oMod_i (by decide),fmod_pos _ (by decide)];symm;rw[oPow_i (by decide)];symm;rw[oMul_i (okMul_litr (by decide) (by decide))];symm;refine⟨c,?_,bd⟩
 rw[show oIx (.lst [.int (cell / 7 % 13),.int (cell / 7 % 4),.int (cell / 7 % (10^9+1)),.int (cell / 91 % 60*10^6)]) (.int ((kind+cell % 7 / 5) % 4))=.ok (.int c) from ix];symm
def zNE:List Str:=[Str.ofString "even", Str.ofString "row", Str.ofString "lack", Str.ofString "half", Str.ofString "part", Str.ofString "back"]
theorem zMO{k:Int}(h0:0<=k)(h1:k<6):∃ w∈wys,oIx (.lst [.str "even", .str "row", .str "lack", .str "half", .str "part", .str "back"]) (.int k)=.ok (.str w):=by
 have hk:k.toNat<zNE.length:=(Int.toNat_lt h0).mpr h1;have all:∀ x∈zNE,x∈wys:=by decide
 exact⟨zNE[k.toNat],all _ (V5 hk),mE (f:=D.str) (l:=zNE) h0 (Qj hk)⟩
theorem fm8{n:Nat}{ks:List D}(hk:∀ k∈ks,IsC n k)(hn:n<=8):ks.flatMap (clm 8)=ks.flatMap (clm n):=by
 rw[Ua,Vv fun p hp=>dN (hk p hp) hn,<-Ua]
theorem zBf:∀ {n m:Nat} {d:D},IsC n d->n<=m->kn m d=kn n d
 | 0,_,_,h,_=>h.elim
 | n+1,0,_,_,l=>absurd l (by omega)
 | n+1,m+1,d,h,l=>by
  rcases h with⟨c,rfl⟩ | ⟨w,ws,ks,rfl,hw,k0,k1,w1,hy,hk⟩
  ·rfl
  ·show 1+(ks.map (kn m)).sum=1+(ks.map (kn n)).sum
   rw[Vv fun k hk'=>zBf (hk k hk') (by omega)]
theorem zIS{n:Nat}{ks:List D}(hk:∀ k∈ks,IsC n k)(hn:n<=7):(ks.map (kn 7)).sum=(ks.map (kn 8)).sum:=by
 rw[Vv fun k hk'=>(show kn 7 k=kn 8 k by rw[zBf (hk k hk') hn,zBf (hk k hk') (show n<=8 by omega)])]
theorem zKo{w a:D}{ks:List D}:kn 8 (.tup [w,a,.tup ks])=1+(ks.map (kn 7)).sum:=rfl
theorem zJf{c:Int}:kn 8 (.tup [.str "boat", .int c])=0:=rfl
theorem uW{cell:Int}{ks:List D}{n:Nat}(h0:0<=cell)(k0:0<ks.length)(hn:n<=7)(hk:∀ k∈ks,IsC n k)(hc:(ks.flatMap (clm 8)).length<=12):
  ∃ d,fG [.int cell,.lst ks]=.ok (.v d)/\IsC (n+1) d/\clm 8 d=ks.flatMap (clm 8)/\kn 8 d<=1+(ks.map (kn 8)).sum:=by
 rw[fm8 hk (by omega)] at hc ⊢
 have kl:=zEX hk;obtain⟨w,hw,ew⟩:=zMO (k:=cell % 6) (Qs _ (by decide)) (Q0 _ (by decide))
 have fin':∀(ws:List Int)(a4 a5 a6:Sl),wOK w ws ks.length->ws.length<=100->∃ d,(kL [.val (.int cell),.val (.lst ks),.val (.str w),.own (ws.map D.int),a4,a5,a6]).bind fin=.ok (.v d)/\IsC (n+1) d/\clm 8 d=ks.flatMap (clm n)/\kn 8 d<=1+(ks.map (kn 8)).sum:=by
  intro ws a4 a5 a6 hs hl;obtain⟨e,ic⟩:=zNg (wd:=.lst (ws.map D.int)) (.inl rfl) hw hs hl k0 (by omega) hn hk hc
  refine⟨_,?_,ic,?_,?_⟩
  rotate_left
  ·rw[dN ic (by omega)];rfl
  ·rw[zKo,zIS hk hn]
   exact Qb _
  ·symm
   rw[e];symm
 unfold fG qH qI;generalize hK:(kL:Sv)=K at fin';symm;rw[ew];symm;rw[zMt];by_cases iw:w = "even" ∨ w = "lack"
 ·rw[decide_eq_true iw]
  symm;have q0:0<=cell / 6 % 4:=Qs _ (by decide)
  have q1:cell / 6 % 4<4:=Q0 _ (by decide)
  rw[oPow_i (by decide)];symm
  obtain⟨most,em,m0,m1⟩:∃ most:Int,oIx (.lst [.int 3,.int 3,.int 3,.int (10^6)]) (.int (cell / 6 % 4))=.ok (.int most)/\1<=most/\most<=10^6:=by
   generalize cell / 6 % 4=k at q0 q1;rcases (show k=0∨k=1∨k=2∨k=3 by omega) with rfl | rfl | rfl | rfl<;>exact⟨_,rfl,by decide,by decide⟩
  rw[em];symm
  refine kU (Q:=fun r=>∃ d,r.bind fin=.ok (.v d)/\IsC (n+1) d/\clm 8 d=ks.flatMap (clm n)/\kn 8 d<=1+(ks.map (kn 8)).sum) (k:=zCC K)
   (fun i ρ=>∃(ws:List Int)(rest:Int)(a:Sl),ρ=[.val (.int cell),.val (.lst ks),.val (.str w),.own (ws.map D.int),.val (.int most),.val (.int rest),a]/\ws.length=i/\(∀ x∈ws,1<=x/\x<=10^6)/\0<=rest) ⟨[],cell / 24,.un,rfl,rfl,(fun x h=>by cases h),Ub h0 (by decide)⟩ ?_ ?_
  ·rintro i d ρ hd ⟨ws,rest,a,rfl,hl,hx,r0⟩
   have hi:=(Vd.mp hd).1;have b0:=Qs rest (show most≠0 by omega)
   have b1:=Q0 rest (show 0<most by omega)
   refine⟨_,?_,ws++[1+rest % most],rest / 3,.val d,rfl,by rw[Qm,hl];rfl,fun x hx'=>?_,Ub r0 (by decide)⟩
   ·symm
    rw[oMod_i (show most≠0 by omega),fmod_pos _ (show 0<most by omega)];symm;rw[if_pos (by omega)];symm;rw[Qy];rfl
   ·rcases Xe.mp hx' with h | h
    ·exact hx x h
    ·rw[Qw.mp h];omega
  ·rintro ρ ⟨ws,rest,a,rfl,hl,hx,r0⟩
   exact fin' ws _ _ _ (.inl ⟨iw,hl,hx⟩) (by omega)
 ·rw[decide_eq_false iw]
  symm;exact fin' [] _ _ _ (.inr ⟨iw,rfl⟩) (by decide)
theorem zJB{q:Nat}{c:Int}(h:0<=c/\c<=10^9):IsC (q+1) (.tup [.str "boat", .int c])/\Clm (clm 8 (.tup [.str "boat", .int c])):=⟨.inl ⟨c,rfl⟩,fun x hx=>by rw[Qw.mp (show x∈[c] from hx)];exact h⟩
def zDb(L:List D)(q i:Nat):Prop:=(q<=5/\(L.map (kn 8)).sum<=q)/\(∀ d∈L,IsC (q+1) d/\Clm (clm 8 d))/\(L.flatMap (clm 8)).length=i
theorem zDb.len{L:List D}{q i:Nat}(h:zDb L q i):L.length<=i:=by
 have:=zEX (n:=q+1) (fun d hd=>(h.2.1 d hd).1)
 rw[<-fm8 (fun d hd=>(h.2.1 d hd).1) (by have:=h.1;omega),h.2.2] at this;exact this
theorem zDb.boat{L:List D}{q i:Nat}{c:Int}(h:zDb L q i)(hc:0<=c/\c<=10^9):zDb (L++[.tup [.str "boat", .int c]]) q (i+1):=by
 refine⟨⟨h.1.1,by rw[Qy,Xd,Qi,Vt,Qn,Vl,zJf];exact h.1.2⟩,fun d hd=>?_,?_⟩
 ·rcases Xe.mp hd with hd | hd
  ·exact h.2.1 d hd
  ·rw[Qw.mp hd];exact zJB hc
 ·rw[Xr,Qm,h.2.2];rfl
theorem zDb.noL{L:List D}{q i:Nat}(h:zDb L q i):∀ d∈L,noL d=true:=fun d hd=>zBF _ _ (zED _ _ (h.2.1 d hd).1)
theorem zDb.knot{L:List D}{q i m:Nat}{d:D}(h:zDb L q i)(hq:q<5)(hd:IsC (q+2) d)(hc:clm 8 d=(L.drop m).flatMap (clm 8))(hkn:kn 8 d<=1+((L.drop m).map (kn 8)).sum):zDb (L.take m++[d]) (q+1) i:=by
 refine⟨⟨by omega,by
  have e:=h.1.2;rw[<-Yh m L,Qy,Xd] at e;rw[Qy,Xd,Qi,Vt,Qn,Vl]
  omega⟩,fun e he=>?_,?_⟩
 ·rcases Xe.mp he with he | he
  ·have:=h.2.1 e (Y9 he)
   exact⟨fL this.1 (by omega),this.2⟩
  ·rw[Qw.mp he]
   refine⟨hd,fun c hx=>?_⟩
   rw[hc] at hx;obtain⟨k,hk,hx⟩:=U6.mp hx;exact(h.2.1 k (Wa hk)).2 c hx
 ·have e:=h.2.2
  rw[<-Yh m L,Xr,Qm] at e;rw[Xr,Qm,show [d].flatMap (clm 8)=clm 8 d by simp[List.flatMap],hc];exact e
theorem zHk{n:Nat}(h:0<n):(0:Int)<min 4 (n:Int):=by omega
theorem zKF{n:Nat}{x:Int}(mp:(0:Int)<min 4 (n:Int)):∃ m:Nat,1+x % min 4 (n:Int)=(m:Int)/\0<m/\m<=n:=by
 have a:=Qs x (Wb mp);have b:=Q0 x mp;exact⟨(1+x % min 4 (n:Int)).toNat,by omega,by omega,by omega⟩
theorem zAm(ns:List Int):∃ d:D,fQ [.lst (ns.map D.int)]=.ok (.v d)/\IsC 8 d/\Clm (clm 8 d)/\(clm 8 d).length<=12/\kn 8 d<=6:=by
 have h0:0<=ns.getD 0 0 % 10^30:=Qs _ (by decide)
 have turn:∀(head boats:Int)(L:List D)(q i:Nat)(a6 a7 a8:Sl),0<=head->i<12->zDb L q i->∃(L':List D)(q':Nat)(b6 b7 b8:Sl),zDb L' q' (i+1)/\
   iT [.val (.lst (ns.map D.int)),.val (.int head),.own L,.val (.int (q:Int)),.val (.int boats),.val (.int (i:Int)),a6,a7,a8]=.ok (.nx [.val (.lst (ns.map D.int)),.val (.int head),.own L',.val (.int (q':Int)),.val (.int boats),.val (.int (i:Int)),b6,b7,b8]):=by
  intro head boats L q i a6 a7 a8 hh hi pl;have c0:0<=ns.getD (1+(i:Int)).toNat 0 % 10^30:=Qs _ (by decide)
  have t0:0<=ns.getD (7+(i:Int)).toNat 0 % 10^30:=Qs _ (by decide)
  obtain⟨c,ec,c1⟩:=zBV (cell:=ns.getD (1+(i:Int)).toNat 0 % 10^30) (kind:=head / 6 % 3) c0 (Qs _ (by decide))
  have pb:=pl.boat c1;have ll:=pl.len;have lb:=pb.len;have ln:(L++[D.tup [.str "boat", .int c]]).length=L.length+1:=by rw[Qm];rfl
  symm;rw[jK ns (1+(i:Int)) (Int.add_nonneg (by decide) (Va _))];symm;rw[ec];symm;rw[zMT c1.1 c1.2];symm;rw[if_pos (Vz ll (Nat.lt_trans hi (by decide)))];symm;rw[jK ns (7+(i:Int)) (Int.add_nonneg (by decide) (Va _))];symm;generalize ns.getD (7+(i:Int)).toNat 0 % 10^30=tn at t0;generalize hL:L++[D.tup [.str "boat", .int c]]=L1 at pb lb ln;by_cases z1:tn % 3=1
  ·rw[decide_eq_true z1]
   symm;by_cases z2:(q:Int)<5
   ·rw[decide_eq_true z2]
    symm;have mp:=zHk (n:=L1.length) (by rw[ln];exact Ys _)
    rw[oMod_i (Wb mp),fmod_pos _ mp];symm;obtain⟨m,em,k0,k1⟩:=zKF (x:=tn / 3) mp;rw[em];have q4:q<5:=Int.ofNat_lt.mp z2
    obtain⟨d,ed,icd,ecd,kcd⟩:=uW (cell:=tn / 12) (ks:=L1.drop (L1.length-m)) (n:=q+1) (Ub t0 (by decide)) (by rw[Vn,Nat.sub_sub_self k1];exact k0) (Qp (Nat.succ_le_of_lt q4) (show 5<=7 by decide)) (fun k hk=>(pb.2.1 k (Wa hk)).1) (by
     have e:=pb.2.2;rw[<-Yh (L1.length-m) L1,Xr,Qm] at e
     exact Qp (Nat.le_add_left _ _) (Qp (Xw e) hi))
    have pk:=pb.knot q4 icd ecd kcd;have nl:noLs (L1.take (L1.length-m)++[d])=true:=zGB pk.noL;rw[zDd k0 k1,zDL k0 k1,ed];symm;rw[if_pos (Qp (by rw[V6];exact Nat.min_le_right _ _) (Qp lb (Qp hi (show 12<=16777215 by decide))))];symm;rw[nl];symm;exact⟨_,q+1,_,_,_,pk,rfl⟩
   ·rw[decide_eq_false z2]
    symm;exact⟨L1,q,_,_,_,pb,rfl⟩
  ·rw[decide_eq_false z1]
   symm;exact⟨L1,q,_,_,_,pb,rfl⟩
 have rest:∀(head:Int)(b:Nat),0<=head->0<b->b<=12->∃ d:D,(fJ [.val (.lst (ns.map D.int)),.val (.int head),.own [],.val (.int 0),.val (.int (b:Int)),.un,.un,.un,.un]).bind fin=.ok (.v d)/\IsC 8 d/\Clm (clm 8 d)/\(clm 8 d).length<=12/\kn 8 d<=6:=by
  intro head b hh b0 b1;unfold fJ;generalize hK:(iT:Sv)=K at turn;symm;rw[pQ (Xm (by decide) (Va b)) (Wc (Int.ofNat_le.mpr b1) (by decide))];symm
  refine kU (Q:=fun r=>∃ d:D,r.bind fin=.ok (.v d)/\IsC 8 d/\Clm (clm 8 d)/\(clm 8 d).length<=12/\kn 8 d<=6) (k:=zCC lE)
   (fun i ρ=>∃(L:List D)(q:Nat)(a5 a6 a7 a8:Sl),ρ=[.val (.lst (ns.map D.int)),.val (.int head),.own L,.val (.int (q:Int)),.val (.int (b:Int)),a5,a6,a7,a8]/\zDb L q i) ⟨[],0,_,_,_,_,rfl,⟨Vk _,Qb _⟩,(fun d hd=>by cases hd),rfl⟩ ?_ ?_
  ·rintro i d ρ hd ⟨L,q,a5,a6,a7,a8,rfl,pl⟩
   obtain⟨hi,rfl⟩:=zGK hd;rw[show(0+(i:Int)*1)=(i:Int) by rw[Int.zero_add,Vq]];obtain⟨L',q',b6,b7,b8,pl',e⟩:=turn head b L q i a6 a7 a8 hh (by rw[Vh] at hi;exact Ql hi b1) pl
   exact⟨_,e,L',q',_,_,_,_,rfl,pl'⟩
  ·rintro ρ ⟨L,q,a5,a6,a7,a8,rfl,pl⟩
   rw[zLd,Vh] at pl;have q5:=pl.1.1;have q6:=pl.1.2;have lf:=pl.2.2
   have cs:Clm (L.flatMap (clm 8)):=fun c hc=>by
    obtain⟨k,hk,hx⟩:=U6.mp hc;exact(pl.2.1 k hk).2 c hx
   have L0:0<L.length:=by
    cases L with
    | nil=>simp at lf;omega
    | cons a r=>exact Ys _
   obtain⟨d,ed,icd,ecd,kcd⟩:=uW (cell:=head / 72) (ks:=L) (n:=q+1) (Ub hh (by decide)) L0 (Qp (V7 q5) (by decide)) (fun k hk=>(pl.2.1 k hk).1) (Qp (Xw lf) b1)
   have isk:∃ d:D,((fG [.int (head / 72),.lst L]).bind rtF).bind retF=.ok (.ret (.v d))/\IsC 8 d/\Clm (clm 8 d)/\(clm 8 d).length<=12/\kn 8 d<=6:=⟨d,by rw[ed];rfl,fL icd (Qp (V7 (V7 q5)) (by decide)),by rw[ecd];exact cs,by rw[ecd];exact Qp (Xw lf) b1,by omega⟩
   obtain⟨d',ed',r'⟩:=isk;symm;by_cases z1:(1:Int)<(L.length:Int)
   ·rw[decide_eq_true z1]
    symm;rw[ed'];symm;exact⟨d',rfl,r'⟩
   ·rw[decide_eq_false z1]
    symm;by_cases z2:(0:Int)<head / 18 % 4
    ·rw[decide_eq_true z2]
     symm;rw[ed'];symm;exact⟨d',rfl,r'⟩
    ·rw[decide_eq_false z2]
     symm
     match L,L0,z1,pl,lf with
     | [p],_,_,pl,lf=>
      rw[show oIx (.lst [p]) (.int 0)=.ok p from rfl];symm;have h:=pl.2.1 p Qe;refine⟨p,rfl,fL h.1 (Qp (V7 q5) (by decide)),h.2,?_,?_⟩
      ·simp[List.flatMap] at lf
       omega
      ·have e:([p].map (kn 8)).sum=kn 8 p:=by simp
       have:=pl.1.2
       omega
     | p::p'::r,_,z1,_,_=>exact absurd (by simp only[Qk];omega) z1
 unfold fQ mH mK mI mM;generalize hK:(fJ:Sv)=K at rest;symm;rw[jK ns 0 (by decide)];symm;generalize ns.getD 0 0 % 10^30=head at h0;have e0:0<=head % 6:=Qs _ (by decide)
 have e1:head % 6<6:=Q0 _ (by decide)
 obtain⟨b,eb⟩:∃ b:Nat,1+head % 6=(b:Int):=⟨(1+head % 6).toNat,by omega⟩
 rw[eb];by_cases z:head / 90 % 8=1
 ·rw[decide_eq_true z]
  symm;have:=rest head (b+6) h0 (by omega) (by omega)
  rw[Xn] at this;exact this
 ·rw[decide_eq_false z]
  symm;exact rest head b h0 (by omega) (by omega)
theorem yY{t b:Int}(ht:0<=t)(hb:0<b):fN [.int t,.int b]=.ok (.v (.int (Int.gcd t b:Int))):=by
 unfold fN;symm
 refine zIm (fun ρ=>∃(x y:Int)(r:Sl),ρ=[.val (.int x),.val (.int y),r]/\0<=x/\0<=y/\Int.gcd x y=Int.gcd t b) (fun ρ=>(slI 1 ρ).toNat)
  (fun r=>(r.bind (zCC mG)).bind fin=.ok (.v (.int (Int.gcd t b:Int)))) ⟨_,_,_,rfl,ht,by omega,rfl⟩ ?_
 rintro ρ ⟨x,y,r,rfl,hx,hy,hg⟩
 by_cases c:y=0
 ·subst c
  refine .inl ⟨rfl,?_⟩
  have e2:x=(Int.gcd t b:Int):=by
   rw[Int.gcd_zero_right] at hg;omega
  symm;rw[<-e2]
 ·have hp:0<y:=by omega
  refine .inr ⟨?_,[.val (.int y),.val (.int (x % y)),.val (.int (x % y))],?_,⟨y,x % y,_,rfl,hy,Qs _ c,(zCp hx hp).trans hg⟩,?_⟩
  ·symm
   rw[decide_eq_true hp]
  ·symm
   rw[oMod_i c,fmod_pos _ hp];symm
  ·have:=Q0 x hp
   show(x % y).toNat<y.toNat
   omega
theorem lO{t b:Int}{n:Nat}(hb:0<b)(hn:b.natAbs<2^n)(h:n<=8999):cP [.int t,.int b]=.ok (.v (dq (Rat.divInt t b))):=by
 have hb0:b≠0:=by omega
 have hd:kF (dv t b)=true:=rB (zLh hb0) (Vz (zMI hb0) hn) h;have e:(Int.gcd t b:Int)=dv t b:=by unfold dv;rw[if_neg (by omega)]
 have e2:Int.gcd (t.natAbs:Int) b=Int.gcd t b:=by simp[Int.gcd]
 unfold cP;symm;rw[yY (by omega) hb,e2,e];symm;rw[oDiv_i hd];symm;rw[oDiv_i hd];symm;rw[zZ hb0,yI hb0];rfl
theorem iY{p q:Rat}{m n:Nat}(hp:Sz m p)(hq:Sz n q)(h:m+n<=8999):bE [dq p,dq q]=.ok (.v (dq (p+q))):=by
 have pp:=dQ p;have pq:=dQ q;unfold bE;symm;rw[oMul_i (bQ hp.1 hq.d (by omega))];symm;rw[oMul_i (bQ hq.1 hp.d (by omega))];symm;rw[oMul_i (bQ hp.d hq.d (by omega))];symm;rw[lO (n:=m+n) (V3 pp pq) (by rw[Int.natAbs_mul,Nat.pow_add];exact Nat.mul_lt_mul'' hp.d hq.d) h,zDZ];symm
theorem zIo(f:Nat->Rat):∀ n:Nat,∃ N,∀ i,i<n->Sz N (f i)
 | 0=>⟨0,fun i h=>absurd h (Yu _)⟩
 | n+1=>by
  obtain⟨N,h⟩:=zIo f n;refine⟨N+((f n).num.natAbs+(f n).den),fun i hi=>?_⟩
  rcases Yi (show i<=n by omega) with z | z
  ·exact(h i z).mono (by omega)
  ·subst z;exact(zLs (f i)).mono (by omega)
theorem zGA{P:D->Rat->List Rat->Prop}{m:D->Nat}{f:Nat->Rat}:∀ {ks:List D} {i:Nat} {xs:List Rat} {l:Nat} {k:D},(∀ k∈ks,∀ q xs,P k q xs->xs.length=m k)->ShL P ks f i xs->ks[l]?=some k->P k (f (i+l)) ((sV m ks xs).getD l [])
 | c::r,i,xs,l,k,hp,h,hl=>by
  obtain⟨a,b,rfl,ha,hb⟩:=h;have la:=hp c Qe _ _ ha;rw[sV]
  cases l with
  | zero=>
   cases hl;show P c (f (i+0)) ((a++b).take (m c))
   rw[<-la,List.take_left,Nat.add_zero];exact ha
  | succ l=>
   show P k (f (i+(l+1))) ((sV m r ((a++b).drop (m c))).getD l [])
   rw[<-la,List.drop_left,show i+(l+1)=i+1+l by omega];exact zGA (fun x hx=>hp x (Qd _ hx)) hb (by simpa using hl)
theorem xG{b:Nat}(hb:b<=1200):∀ {n:Nat} {d:D} {q:Rat} {xs:List Rat},n<=9->Gc n d->Sh n d q xs->0<=q->q<=((clm n d).sum:Rat)->Am b xs->AR n d xs
 | 0,_,_,_,_,g,_,_,_,_=>g.1.elim
 | n+1,d,q,xs,h9,g,h,q0,q1,am=>by
  rcases h with⟨c,rfl,rfl⟩ | ⟨v,ws,ks,f,rfl,hd,al,hs⟩
  ·intro v ws ks e;simp at e
  ·rcases g.1 with⟨c,e⟩ | ⟨w,ws',ks',e,hw,k0,k1,w1,hy,hk⟩
   ·simp at e
   simp only[D.tup.injEq,X1,and_true] at e;obtain⟨e1,e2,rfl⟩:=e;have cl:=g.cl hk k0;have es:(kcl n ks).sum=(clm (n+1) (.tup [.str v.s,.tup (ws.map D.int),.tup ks])).sum:=uZ ks;obtain⟨bd,sm⟩:=zJU hd cl q0 (by rw[es];exact q1) al
   have kl:(kcl n ks).length=ks.length:=dY n ks
   have cut:∀ l k,ks[l]?=some k->Sh n k (f l) ((pcs n ks xs).getD l []):=fun l k hl=>by
    have:=zGA (P:=Sh n) (m:=fun k=>(clm n k).length) (fun k _ q xs h=>yM h) hs hl
    rw[Q6] at this;exact this
   have fb:∀ l k,ks[l]?=some k->0<=f l/\f l<=((clm n k).sum:Rat):=fun l k hl=>by
    obtain⟨j1,j2⟩:=vM (n:=n) hl;rw[<-j2];exact bd l j1
   have sk:∀ l k,ks[l]?=some k->sK n ks xs l=f l:=fun l k hl=>(zGm (g.kid hk (Qg hl)) (cut l k hl) (fb l k hl).1 (fb l k hl).2).2
   obtain⟨N,hN⟩:=zIo f (kcl n ks).length;have dl:Dl N (kcl n ks) q f:=⟨fun i hi=>⟨(bd i hi).1,(bd i hi).2,hN i hi⟩,sm⟩
   rw[rJ];refine⟨fun i j hij hj=>?_,fun l k hl=>xG hb (by omega) (g.kid hk (Qg hl)) (cut l k hl) (fb l k hl).1 (fb l k hl).2 (am.pc l)⟩
   have hi:i<ks.length:=by omega
   obtain⟨r,_,hr,h2⟩:=zFU (kd:=true) (i:=i) (j:=j) g (by omega) hk k0 hd am hb hi hj
   have si:=sk i _ (Qj hi);have sj:=sk j _ (Qj hj);have bi:=bd i (by omega)
   have bj:=bd j (by omega)
   refine hr.mp (h2 ?_ ?_ ?_)
   ·show 0<=sK n ks xs i+sK n ks xs j
    rw[si,sj];grind
   ·show sK n ks xs i+sK n ks xs j<=_
    rw[si,sj];grind
   ·intro M g' al'
    have al'':Al M (w2 ws i j) [(kcl n ks).getD i 0,(kcl n ks).getD j 0] (sK n ks xs i+sK n ks xs j) g' v:=al';rw[si,sj] at al'';have:=zIv hd cl al dl hij (by omega) al''
    show g' 0=sK n ks xs i/\g' 1=sK n ks xs j
    rw[si,sj];exact this
theorem zGU{d:D}{q:Rat}{xs:List Rat}(g:Gc 8 d)(hkn:kn 8 d<=6)(h:Sh 8 d q xs)(q0:0<=q)(q1:q<=((clm 8 d).sum:Rat))(qd:(q.den:Int)<=2^20):Am 225 xs:=by
 obtain⟨bd,sm⟩:=zGm g h q0 q1;obtain⟨E,e0,e1,e2⟩:=zLk g h q0 q1 (Dn.den q);have l12:=g.2.1;refine⟨by rw[yM h];exact l12,⟨(q.den:Int)*E,V3 (dQ q) e0,?_,e2⟩,fun x hx=>?_⟩
 ·have a:E<=2^204:=Xm e1 (by
   rw[show(2:Int)^204=2^(34*kn 8 d)*2^(204-34*kn 8 d) by rw[<-U7];congr 1;omega];have u:(0:Int)<2^(34*kn 8 d):=Ym (by decide)
   have v:(0:Int)<2^(204-34*kn 8 d):=Ym (by decide)
   have w:=Int.mul_le_mul_of_nonneg_left (show(1:Int)<=2^(204-34*kn 8 d) by omega) (Xj u)
   rw[Vq] at w
   exact w)
  exact Wc (pF (dQ q) e0 qd a) (by decide)
 ·obtain⟨y,hy,w⟩:=bd.mem hx
  have:=g.2.2 y hy
  have u:(y:Rat)<=((2^36:Int):Rat):=Vb.mpr (by omega)
  have z:((0:Int):Rat)<=((2^36:Int):Rat):=Vb.mpr (by decide)
  have z0:((0:Int):Rat)=0:=rfl;exact⟨by have:=w.1;grind,by have:=w.2;grind⟩
theorem dvm(t:Int){b:Int}(hb:0<b):Rat.divInt t b*(b:Rat)=(t:Rat):=by
 have bp:(0:Rat)<(b:Rat):=by exact_mod_cast hb
 rw[X0,Xo (Rat.ne_of_gt bp)]
theorem rM{S c:Int}(h0:0<=S)(h1:S<=12*10^9):∃ q:Rat,cK [.int S,.int c]=.ok (.v (dq q))/\0<=q/\q<=(S:Rat)/\∃ b:Int,1<=b/\b<=97/\Dn b q:=by
 unfold cK;symm;have c0:=Qs c (show(10:Int)^40≠0 by decide)
 generalize c % 10^40=cell at c0;have k0:=Qs cell (show(5:Int)≠0 by decide)
 have k1:=Q0 cell (show(0:Int)<5 by decide)
 have e0:=Qs (cell / 5) (show(97:Int)≠0 by decide)
 have e1:=Q0 (cell / 5) (show(0:Int)<97 by decide)
 obtain⟨b,eb,b1,b2⟩:∃ b:Int,oIx (.lst [.int 1,.int 1,.int 2,.int 12,.int (1+cell / 5 % 97)]) (.int (cell % 5))=.ok (.int b)/\1<=b/\b<=97:=by
  generalize cell % 5=k at k0 k1;rcases (show k=0∨k=1∨k=2∨k=3∨k=4 by omega) with rfl | rfl | rfl | rfl | rfl
  ·exact⟨_,rfl,by omega,by omega⟩
  ·exact⟨_,rfl,by omega,by omega⟩
  ·exact⟨_,rfl,by omega,by omega⟩
  ·exact⟨_,rfl,by omega,by omega⟩
  ·exact⟨_,rfl,by omega,by omega⟩
 rw[eb];symm;have sb:0<=S*b:=Y5 h0 (by omega)
 have om:hG S b=true:=bQ (m:=40) (n:=10) (by omega) (by omega) (by decide)
 rw[oMul_i om];symm;rw[oMod_i (show S*b+1≠0 by omega),fmod_pos _ (show 0<S*b+1 by omega)];symm;have t0:=Qs (cell / 485) (show S*b+1≠0 by omega)
 have t1:=Q0 (cell / 485) (show 0<S*b+1 by omega)
 generalize cell / 485 % (S*b+1)=t at t0 t1;rw[lO (n:=10) (by omega) (by omega) (by decide)];symm;have bp:(0:Rat)<(b:Rat):=by exact_mod_cast (show 0<b by omega)
 have e:Rat.divInt t b*(b:Rat)=(t:Rat):=by
  rw[X0,Xo (Rat.ne_of_gt bp)]
 refine⟨_,rfl,?_,?_,b,b1,b2,t,e⟩
 ·refine Q3.mp fun z=>?_
  have:=Yj bp |>.mpr z
  rw[e,Rat.zero_mul] at this;have t0':(0:Rat)<=(t:Rat):=by exact_mod_cast t0
  grind
 ·refine Q3.mp fun z=>?_
  have:=Yj bp |>.mpr z
  rw[e,<-Vp] at this;have:=Rat.intCast_lt_intCast.mp this
  omega
structure Aw (B K:Int) (n:Nat) (xs:List Rat):Prop where
 len:xs.length=n
 all:∀ x∈xs,Dn B x/\-(K:Rat)<=x/\x<=(K:Rat)
theorem Aw.set{B K:Int}{n i:Nat}{xs:List Rat}{y:Rat}(h:Aw B K n xs)(d:Dn B y)(l:-(K:Rat)<=y)(u:y<=(K:Rat)):Aw B K n (xs.set i y):=
 ⟨by rw[Q5];exact h.len,fun x hx=>by
  rcases List.mem_or_eq_of_mem_set hx with hx | rfl
  ·exact h.all x hx
  ·exact⟨d,l,u⟩⟩
theorem Aw.up{B K K':Int}{n:Nat}{xs:List Rat}(h:Aw B K n xs)(hk:K<=K'):Aw B K' n xs:=
 ⟨h.len,fun x hx=>by
  have a:=h.all x hx;have:(K:Rat)<=(K':Rat):=Vb.mpr hk
  exact⟨a.1,by have:=a.2.1;grind,by have:=a.2.2;grind⟩⟩
theorem Aw.at{B K:Int}{n i:Nat}{xs:List Rat}(h:Aw B K n xs)(hi:i<n):Dn B (xs.getD i 0)/\-(K:Rat)<=xs.getD i 0/\xs.getD i 0<=(K:Rat):=by
 have l:i<xs.length:=by rw[h.len];exact hi
 exact h.all _ (by rw[Qr,Qj l];exact V5 l)
theorem zHt{i j:Nat}{k e:Ev}{ρ:Rho}{xs:List Rat}{y:Rat}(h1:e ρ=.ok (dq y))(h2:ρ[i]?=some (.own (xs.map dq)))(h3:k ρ=.ok (.int (j:Int)))(h4:j<xs.length):zDf i k e ρ=.ok (.nx (ρ.set i (.own ((xs.set j y).map dq)))):=by
 rw[zLL h1 h2 h3 (by rw[Qh];exact h4),List.map_set]
theorem zLD(q:Rat):D.tup [.int (0-q.num),.int (q.den:Int)]=dq (-q):=by
 rw[Int.zero_sub];rfl
abbrev RA(d:D)(cell:Int)(cs:List Int)(xs:List Rat)(way:Int)(i j:Nat)(s:Rat):Rho:=[.val d,.val (.int cell),.val (.lst (cs.map D.int)),.own (xs.map dq),.val (.int way),.val (.int (i:Int)),.val (.int (j:Int)),.val (dq s)]
theorem zCY{xs:List Rat}{i:Nat}(h:i<xs.length):oIx (.lst (xs.map dq)) (.int (i:Int))=.ok (dq (xs.getD i 0)):=zGj (kd:=true) h
theorem zMl{d:D}{cell way:Int}{cs:List Int}{xs:List Rat}{i j:Nat}{s:Rat}{B:Int}(hB:0<B)(hb:B<2^260)(h:Aw B (10^9+6) cs.length xs)(hi:i<cs.length)(hc:∀ c∈cs,0<=c/\c<=10^9):
  ∃ ys,(dB (RA d cell cs xs way i j s)).bind fin=.ok (.f (ys.map dq))/\Aw B (2^36) cs.length ys:=by
 by_cases w:way=7
 ·have a:=h.at hi
  have c:=hc _ (Qg (aR hi));have ix:oIx (.lst (xs.map dq)) (.int (i:Int))=.ok (dq (xs.getD i 0)):=zCY (by rw[h.len];exact hi)
  have ic:oIx (.lst (cs.map D.int)) (.int (i:Int))=.ok (.int (cs.getD i 0)):=mE (Va i) (aR hi);have m0:=Qs (cell / 19) (show(2:Int)≠0 by decide)
  have m1:=Q0 (cell / 19) (show(0:Int)<2 by decide)
  obtain⟨t,et,ht⟩:∃ t:Int,oIx (.lst [.int 1,.int (0-1)]) (.int (cell / 19 % 2))=.ok (.int t)/\(t=1∨t=-1):=by
   rcases (show cell / 19 % 2=0∨cell / 19 % 2=1 by omega) with z | z
   ·rw[z];exact⟨1,rfl,.inl rfl⟩
   ·rw[z];exact⟨-1,rfl,.inr rfl⟩
  obtain⟨u,hu⟩:∃ u,u=cs.getD i 0*t:=⟨_,rfl⟩;have tb:-(10^9)<=u/\u<=10^9:=by rw[hu];rcases ht with rfl | rfl<;>omega
  have zx:=(a.1).szA hB hb (c:=10^9+6) a.2.1 a.2.2 (a:=34) (by decide)
  have zt:Sz 40 (u:Rat):=⟨by show u.natAbs<2^40;omega,by show 1<2^40;decide⟩
  have pp:=iY zx zt (by decide)
  have e:(zCf (aM bE (aB (eOp oIx (aD 3) (aD 5)) (aB (qO (aB (eOp oO (eOp oIx (aD 2) (aD 5)) (eOp oIx (eF (oA (aB (eC (.int 1)) (aB (eOp zAa (eC (.int 0)) (eC (.int 1))) aNil)))) (eOp jC (eOp lC (aD 1) (eC (.int 19))) (eC (.int 2))))) (aB (eC (.int 1)) aNil))) aNil)))) (RA d cell cs xs way i j s)=.ok (dq (xs.getD i 0+(u:Rat))):=by
   symm;rw[ix];symm;rw[ic];symm;rw[show oIx (.lst [.int 1,.int (-1)]) (.int (cell / 19 % 2))=.ok (.int t) from et];symm;rw[oMul_i (bQ (m:=40) (n:=2) (by omega) (by omega) (by decide)),<-hu];symm;rw[show bE [dq (xs.getD i 0),.tup [.int u,.int 1]]=.ok (.v (dq (xs.getD i 0+(u:Rat)))) from pp];symm
  have p:=zHt (i:=3) (j:=i) (k:=aD 5) (xs:=xs) e rfl rfl (by rw[h.len];exact hi)
  have r1:-(((10^9:Int)):Rat)<=(u:Rat):=by rw[<-Rat.intCast_neg];exact Vb.mpr tb.1
  have r2:(u:Rat)<=((10^9:Int):Rat):=Vb.mpr tb.2;have k1:(((10^9+6:Int)):Rat)+((10^9:Int):Rat)<=((2^36:Int):Rat):=by rw[<-Q2];exact Vb.mpr (by decide)
  refine⟨xs.set i (xs.getD i 0+(u:Rat)),?_,(h.up (by decide)).set (a.1.add (Dn.int B _)) (by have:=a.2.1;grind) (by have:=a.2.2;grind)⟩
  unfold dB;generalize hK:zDf 3 (aD 5) (zCf (aM bE (aB (eOp oIx (aD 3) (aD 5)) (aB (qO (aB (eOp oO (eOp oIx (aD 2) (aD 5)) (eOp oIx (eF (oA (aB (eC (.int 1)) (aB (eOp zAa (eC (.int 0)) (eC (.int 1))) aNil)))) (eOp jC (eOp lC (aD 1) (eC (.int 19))) (eC (.int 2))))) (aB (eC (.int 1)) aNil))) aNil))))=F at p;symm;rw[decide_eq_true w];symm;rw[p];symm
 ·refine⟨xs,?_,h.up (by decide)⟩
  symm;rw[decide_eq_false w];symm
theorem zMb{d:D}{cell way:Int}{cs:List Int}{xs:List Rat}{i j:Nat}{s:Rat}{B:Int}(hB:0<B)(hb:B<2^260)(h:Aw B (10^9+6) cs.length xs)(hi:i<cs.length)(hc:∀ c∈cs,0<=c/\c<=10^9)(q:Rat)(eq:cK [.int (cs.getD i 0),.int (cell / 17)]=.ok (.v (dq q)))(q0:0<=q)(q1:q<=(cs.getD i 0:Rat))(dq':Dn B q):
  ∃ ys,(cD (RA d cell cs xs way i j s)).bind fin=.ok (.f (ys.map dq))/\Aw B (2^36) cs.length ys:=by
 have c:=hc _ (Qg (aR hi));have ic:oIx (.lst (cs.map D.int)) (.int (i:Int))=.ok (.int (cs.getD i 0)):=mE (Va i) (aR hi);by_cases w:way=6
 ·have e:(aM cK (aB (eOp oIx (aD 2) (aD 5)) (aB (eOp lC (aD 1) (eC (.int 17))) aNil))) (RA d cell cs xs way i j s)=.ok (dq q):=by
   symm;rw[ic];symm;rw[eq];symm
  have p:=zHt (i:=3) (j:=i) (k:=aD 5) (xs:=xs) e rfl rfl (by rw[h.len];exact hi)
  have k1:((cs.getD i 0:Int):Rat)<=((10^9+6:Int):Rat):=Vb.mpr (by omega)
  have h':=h.set (i:=i) dq' (by have:((0:Int):Rat)<=((10^9+6:Int):Rat):=Vb.mpr (by decide);have z0:((0:Int):Rat)=0:=rfl;grind) (by grind)
  obtain⟨ys,ey,hy⟩:=zMl (d:=d) (cell:=cell) (way:=way) (j:=j) (s:=s) hB hb h' hi hc;refine⟨ys,?_,hy⟩
  rw[<-ey];unfold cD;generalize hK:zDf 3 (aD 5) (aM cK (aB (eOp oIx (aD 2) (aD 5)) (aB (eOp lC (aD 1) (eC (.int 17))) aNil)))=F at p;generalize hL:(dB:Sv)=L;symm;rw[decide_eq_true w];symm;rw[p];symm
 ·obtain⟨ys,ey,hy⟩:=zMl (d:=d) (cell:=cell) (way:=way) (j:=j) (s:=s) hB hb h hi hc
  refine⟨ys,?_,hy⟩
  rw[<-ey];unfold cD;generalize hL:(dB:Sv)=L;symm;rw[decide_eq_false w];symm
theorem zPI{d:D}{cell way:Int}{cs:List Int}{xs:List Rat}{i j:Nat}{s:Rat}{B:Int}(hB:0<B)(hb:B<2^260)(h:Aw B (10^9) cs.length xs)(hi:i<cs.length)(hj:j<cs.length)(hc:∀ c∈cs,0<=c/\c<=10^9)(s0:0<=s)(s1:s<=3)(zs:Sz 5 s)(ds:Dn B s)(q:Rat)(eq:cK [.int (cs.getD i 0),.int (cell / 17)]=.ok (.v (dq q)))(q0:0<=q)(q1:q<=(cs.getD i 0:Rat))(dq':Dn B q):
  ∃ ys,(dI (RA d cell cs xs way i j s)).bind fin=.ok (.f (ys.map dq))/\Aw B (2^36) cs.length ys:=by
 have e3:((3:Int):Rat)=3:=rfl;have ka:((10^9:Int):Rat)+3=((10^9+3:Int):Rat):=by rw[Q2,e3]
 have kb:((10^9+3:Int):Rat)+3=((10^9+6:Int):Rat):=by rw[<-e3,<-Q2];rfl
 by_cases w:3<way
 ·have li:i<xs.length:=by rw[h.len];exact hi
  have a:=h.at hi;have zx:=(a.1).szA hB hb (c:=10^9) a.2.1 a.2.2 (a:=34) (by decide)
  have pp:=iY zx zs (by decide)
  have ix:=zCY li
  have e:(zCf (aM bE (aB (eOp oIx (aD 3) (aD 5)) (aB (aD 7) aNil)))) (RA d cell cs xs way i j s)=.ok (dq (xs.getD i 0+s)):=by
   symm;rw[ix];symm;rw[pp];symm
  have p:=zHt (i:=3) (j:=i) (k:=aD 5) (xs:=xs) e rfl rfl li;have h1:Aw B (10^9+3) cs.length (xs.set i (xs.getD i 0+s)):=(h.up (by decide)).set (a.1.add ds) (by have:=a.2.1;grind) (by have:=a.2.2;grind)
  generalize xs.set i (xs.getD i 0+s)=ys at p h1;have lj:j<ys.length:=by rw[h1.len];exact hj
  have b:=h1.at hj;have zy:=(b.1).szA hB hb (c:=10^9+3) b.2.1 b.2.2 (a:=34) (by decide)
  have zn:Sz 5 (-s):=⟨by show(-s.num).natAbs<2^5;rw[Int.natAbs_neg];exact zs.1,zs.2⟩
  have pq:=iY zy zn (by decide)
  have iy:=zCY lj
  have e2:(zCf (aM bE (aB (eOp oIx (aD 3) (aD 6)) (aB (qO (aB (eOp zAa (eC (.int 0)) (eOp oIx (aD 7) (eC (.int 0)))) (aB (eOp oIx (aD 7) (eC (.int 1))) aNil))) aNil)))) (RA d cell cs ys way i j s)=.ok (dq (ys.getD j 0+-s)):=by
   symm;rw[iy];symm;rw[zLD,pq];symm
  have p2:=zHt (i:=3) (j:=j) (k:=aD 6) (xs:=ys) e2 rfl rfl lj
  have dn:Dn B (-s):=by
   have:=(Dn.zero B).sub ds
   rwa [show(0:Rat)-s=-s by grind] at this
  have h2:Aw B (10^9+6) cs.length (ys.set j (ys.getD j 0+-s)):=(h1.up (by decide)).set (b.1.add dn) (by have:=b.2.1;grind) (by have:=b.2.2;grind)
  obtain⟨zs',ez,hz⟩:=zMb (d:=d) (cell:=cell) (way:=way) (j:=j) (s:=s) hB hb h2 hi hc q eq q0 q1 dq';refine⟨zs',?_,hz⟩
  rw[<-ez];unfold dI jZ;generalize hF:zDf 3 (aD 5) (zCf (aM bE (aB (eOp oIx (aD 3) (aD 5)) (aB (aD 7) aNil))))=F at p;generalize hE:zDf 3 (aD 6) (zCf (aM bE (aB (eOp oIx (aD 3) (aD 6)) (aB (qO (aB (eOp zAa (eC (.int 0)) (eOp oIx (aD 7) (eC (.int 0)))) (aB (eOp oIx (aD 7) (eC (.int 1))) aNil))) aNil))))=E at p2;generalize hL:(cD:Sv)=L;symm;rw[decide_eq_true w];symm;rw[p];symm;rw[show E [.val d,.val (.int cell),.val (.lst (cs.map D.int)),.own (ys.map dq),.val (.int way),.val (.int (i:Int)),.val (.int (j:Int)),.val (dq s)]=_ from p2];symm
 ·obtain⟨zs',ez,hz⟩:=zMb (d:=d) (cell:=cell) (way:=way) (j:=j) (s:=s) hB hb (h.up (by decide)) hi hc q eq q0 q1 dq'
  refine⟨zs',?_,hz⟩
  rw[<-ez];unfold dI;generalize hL:(cD:Sv)=L;symm;rw[decide_eq_false w];symm
theorem zFx{d:D}(g:Gc 8 d)(hkn:kn 8 d<=6)(cell:Int):∃ xs:List Rat,eS [d,.int cell]=.ok (.f (xs.map dq))/\Am 260 xs/\xs.length=(clm 8 d).length:=by
 have gs:=g.sum;have l12:=g.2.1;have one:=zAW g.1;have hc:=g.2.2;have lc:=lL 10 d (fL g.1 (by decide)) (by rw[dN g.1 (by decide)];omega)
 rw[dN g.1 (show 8<=10 by decide)] at lc;unfold eS lF lM kP kZ kW kI;generalize hL:(dI:Sv)=L;symm;rw[oPow_i (by decide)];symm;generalize cell % 10^45=c;rw[lc];symm;obtain⟨q,eq,q0,q1,b,b1,b2,db⟩:=rM (S:=(clm 8 d).sum) (c:=c / 8) gs.1 gs.2;rw[eq];symm;have qd:(q.den:Int)<=2^20:=Xm (db.le (by omega)) (by omega)
 obtain⟨xs,ex,sx⟩:=vT (m:=21) g (by decide) q0 q1 (Wc qd (by decide)) (by decide)
 have am:=zGU g hkn sx q0 q1 qd;obtain⟨bd,_⟩:=zGm g sx q0 q1;have ln:=yM sx;rw[ex];symm;have L0:((clm 8 d).length:Int)≠0:=by omega
 have Lp:0<((clm 8 d).length:Int):=by omega
 rw[oMod_i L0,fmod_pos _ Lp];symm;rw[oMod_i L0,fmod_pos _ Lp];symm;have i0:=Qs (c / 56) L0;have i1:=Q0 (c / 56) Lp;have j0:=Qs (c / 336) L0;have j1:=Q0 (c / 336) Lp;obtain⟨i,ei⟩:=Y0 i0;obtain⟨j,ej⟩:=Y0 j0;rw[ei] at i1 ⊢
 rw[ej] at j1 ⊢
 have t0:=Qs (c / 11) (show(3:Int)≠0 by decide)
 have t1:=Q0 (c / 11) (show(0:Int)<3 by decide)
 have u0:=Qs (c / 13) (show(5:Int)≠0 by decide)
 have u1:=Q0 (c / 13) (show(0:Int)<5 by decide)
 generalize ht:1+c / 11 % 3=t;generalize hu:1+c / 13 % 5=u;rw[lO (n:=4) (by omega) (by omega) (by decide)];symm;have du:Rat.divInt t u*(u:Rat)=(t:Rat):=dvm t (by omega)
 have up:(0:Rat)<(u:Rat):=by exact_mod_cast (show 0<u by omega)
 have s0:0<=Rat.divInt t u:=Q3.mp fun z=>by
  have:=Yj up |>.mpr z
  rw[du,Rat.zero_mul] at this;have:(0:Rat)<=(t:Rat):=by exact_mod_cast (show 0<=t by omega)
  grind
 have s1:Rat.divInt t u<=3:=Q3.mp fun z=>by
  have:=Yj up |>.mpr z
  rw[du] at this;have e1:(t:Rat)<=3:=by exact_mod_cast (show t<=3 by omega)
  have e2:(1:Rat)<=(u:Rat):=by exact_mod_cast (show 1<=u by omega)
  grind
 have dsu:Dn u (Rat.divInt t u):=⟨t,du⟩
 have zs:Sz 5 (Rat.divInt t u):=by
  have:=dsu.sz (by omega) (a:=2) (b:=3) (by omega) s0 (c:=3) s1 (by decide)
  exact this
 obtain⟨q',eq',q0',q1',b',b1',b2',db'⟩:=rM (S:=(clm 8 d).getD i 0) (c:=c / 17) (hc _ (Qg (aR (show i<(clm 8 d).length by omega)))).1 (by have:=(hc _ (Qg (aR (show i<(clm 8 d).length by omega)))).2;omega)
 obtain⟨B,B0,B1,B2⟩:=am.dn
 have aw:Aw (B*(u*b')) (10^9) (clm 8 d).length xs:=⟨ln,fun x hx=>by
  obtain⟨y,hy,w⟩:=bd.mem hx;have:=hc y hy
  have k1:((y:Int):Rat)<=((10^9:Int):Rat):=Vb.mpr this.2;have k2:((0:Int):Rat)<=((10^9:Int):Rat):=Vb.mpr (by decide)
  have z0:((0:Int):Rat)=0:=rfl
  exact⟨(B2 x hx).mul _,by have:=w.1;grind,by have:=w.2;grind⟩⟩
 have ub:0<u*b':=V3 (by omega) (by omega)
 have ub2:u*b' < 2^10:=by
  have:=Int.mul_le_mul (show u<=5 by omega) b2' (by omega) (by omega)
  omega
 have BB:B*(u*b')<2^260:=by
  have:=Int.mul_lt_mul B1 (Xj ub2) ub (by decide)
  exact Int.lt_trans this (by decide)
 obtain⟨ys,ey,hy⟩:=zPI (d:=d) (cell:=c) (way:=c % 8) (j:=j) (s:=Rat.divInt t u) (V3 B0 ub) BB aw (show i<_ by omega) (show j<_ by omega) hc s0 s1 zs (by rw[Xy u b',<-Xp,Xy];exact dsu.mul _) q' eq' q0' q1' (by rw[<-Xp,Xy];exact db'.mul _)
 rw[hL] at ey;refine⟨ys,ey,⟨by rw[hy.len];exact l12,⟨_,V3 B0 ub,BB,fun x hx=>(hy.all x hx).1⟩,fun x hx=>(hy.all x hx).2⟩,hy.len⟩
theorem zGh{b:Nat}{xs:List Rat}(am:Am b xs)(hb:b<=4000):kX [.lst (xs.map dq)]=.ok (.v (dq xs.sum)):=by
 unfold kX;symm;rw[show D.tup [.int 0,.int 1]=dq ((xs.take 0).sum) from rfl];refine kU (Q:=fun r=>r.bind fin=.ok (.v (dq xs.sum))) (k:=zCC sM) (fun i ρ=>∃ a,ρ=[.val (.lst (xs.map dq)),.val (dq ((xs.take i).sum)),a]) ⟨_,rfl⟩ ?_ ?_
 ·rintro i d ρ hd ⟨a,rfl⟩
  have hi:i<xs.length:=by have:=(Vd.mp hd).1;rwa [Qh] at this
  rw[Qq,Qj hi] at hd;cases hd;refine⟨[.val (.lst (xs.map dq)),.val (dq ((xs.take (i+1)).sum)),.val (dq xs[i])],?_,_,rfl⟩
  have e:(xs.take (i+1)).sum=(xs.take i).sum+xs[i]:=by
   rw[Yn,Qj hi];show(xs.take i++[xs[i]]).sum=_
   rw[dJ,Qn,Vl,Xq]
  symm;rw[iY (am.take i).sum.1 (am.each (V5 hi)) (by omega),e];symm
 ·rintro ρ ⟨a,rfl⟩
  rw[Qh,Xb];rfl
theorem zEM(n:Nat)(ks:List D)(xs:List Rat):pcs n ks xs=(List.range ks.length).map fun l=>(pcs n ks xs).getD l []:=by
 have hl:(pcs n ks xs).length=ks.length:=lT ks xs;refine List.ext_getElem (by rw[Qh,Q7,hl]) fun i h1 h2=>?_
 rw[List.getElem_map,List.getElem_range,Qr,Qj h1];rfl
theorem zEL{x f:Nat->Rat}:∀ {n:Nat},(∀ i,i<n->x i<=f i)->((List.range n).map x).sum=((List.range n).map f).sum->∀ i,i<n->x i=f i
 | 0,_,_,i,h=>absurd h (Yu _)
 | n+1,hl,hs,i,hi=>by
  rw[Yq,Qy,Qy,dJ,dJ] at hs;simp only[Qi,Vt,Qn,Vl,Xq] at hs
  have le:∀ m,m<=n->((List.range m).map x).sum<=((List.range m).map f).sum:=by
   intro m
   induction m with
   | zero=>intro _;exact Vi
   | succ m ih=>
    intro hm;rw[Yq,Qy,Qy,dJ,dJ];simp only[Qi,Vt,Qn,Vl,Xq];have:=ih (by omega)
    have:=hl m (by omega)
    grind
  have a:=le n (Qb _);have b:=hl n (Yd n);have e1:x n=f n:=by grind
  have e2:((List.range n).map x).sum=((List.range n).map f).sum:=by grind
  rcases Yi (show i<=n by omega) with z | z
  ·exact zEL (fun j hj=>hl j (by omega)) e2 i z
  ·rw[z];exact e1
theorem zNX{v:Wy}{ws cs:List Int}(due:v.due ws cs)(hc:Cl cs){x f:Nat->Rat}{q:Rat}{M:Nat}(hx:∀ i,i<cs.length->0<=x i/\x i<=cR cs i)(pr:∀ i j,i<j->j<cs.length->Rt2 v ws cs i j (x i) (x j))(hq:((List.range cs.length).map x).sum=q)(al:Al M ws cs q f v)(dl:Dl 1400 cs q f):∀ i,i<cs.length->x i=f i:=by
 have two':∀ a b,a<b->b<cs.length->¬ (f a<x a/\x b<f b)/\¬ (x a<f a/\f b<x b):=fun a b hab hb=>by
  have ha:a<cs.length:=by omega
  obtain⟨s0,s1,M1,g,al1,g0,g1⟩:=pr a b hab hb;have fa:=dl.bd a ha;have fb:=dl.bd b hb;have d2:=zFl due (i:=a) (j:=b) ha hb;have na:=hc.nn _ (Qg (aR ha));have nb:=hc.nn _ (Qg (aR hb));have ua:=hc.up _ (Qg (aR ha));have ub:=hc.up _ (Qg (aR hb))
  have c2:Cl [cs.getD a 0,cs.getD b 0]:=⟨fun c h=>by
    simp only[Qc,Q4,or_false] at h;rcases h with rfl | rfl<;>assumption,fun c h=>by
    simp only[Qc,Q4,or_false] at h;rcases h with rfl | rfl<;>assumption,by show 1<=2;decide,by show 2<=12;decide⟩
  have sm:=zEI (cs.getD a 0) (cs.getD b 0);have ca:cR cs a=((cs.getD a 0:Int):Rat):=rfl;have cb:cR cs b=((cs.getD b 0:Int):Rat):=rfl;obtain⟨g',_,al2⟩:=rL (w:=v) (ws:=two ws a b) (cs:=[cs.getD a 0,cs.getD b 0]) (wd:=.lst ((two ws a b).map D.int)) (cd:=.lst ([cs.getD a 0,cs.getD b 0].map D.int)) (.inl rfl) (.inl rfl) (q:=f a+f b) (m:=2801) (by decide) d2 c2 ⟨by have:=fa.1;have:=fb.1;grind,by rw[sm,<-ca,<-cb];have:=fa.2.1;have:=fb.2.1;grind,fa.2.2.add fb.2.2⟩
  have al2':Al (2801+263) (w2 ws a b) [cs.getD a 0,cs.getD b 0] (f a+f b) g' v:=al2;obtain⟨h0,h1⟩:=zIv due hc al dl hab hb al2';have z0:(0:Nat) < [cs.getD a 0,cs.getD b 0].length:=Nat.zero_lt_succ _;have z1:(1:Nat) < [cs.getD a 0,cs.getD b 0].length:=Yd _;rcases Y6 (a:=x a+x b) (b:=f a+f b) with o | o
  ·have m0:=sQ d2 c2 al1 al2 o z0
   have m1:=sQ d2 c2 al1 al2 o z1;rw[g0,h0] at m0;rw[g1,h1] at m1;exact⟨fun z=>absurd m0 (Vw.mpr z.1),fun z=>absurd m1 (Vw.mpr z.2)⟩
  ·have m0:=sQ d2 c2 al2 al1 o z0
   have m1:=sQ d2 c2 al2 al1 o z1;rw[g0,h0] at m0;rw[g1,h1] at m1;exact⟨fun z=>absurd m1 (Vw.mpr z.2),fun z=>absurd m0 (Vw.mpr z.1)⟩
 have sf:=dl.sum;by_cases up:∀ i,i<cs.length->x i<=f i
 ·exact zEL up (by rw[hq,sf])
 ·by_cases dn:∀ i,i<cs.length->f i<=x i
  ·intro i hi
   exact(zEL dn (by rw[hq,sf]) i hi).symm
  ·exfalso
   obtain⟨a,ha⟩:=Wr.mp up;obtain⟨ha,na⟩:=Classical.not_imp.mp ha;obtain⟨b,hb⟩:=Wr.mp dn;obtain⟨hb,nb⟩:=Classical.not_imp.mp hb;have pa:=Vw.mp na;have pb:=Vw.mp nb;rcases Nat.lt_trichotomy a b with z | z | z
   ·exact(two' a b z hb).1 ⟨pa,pb⟩
   ·subst z;exact absurd pa (by grind)
   ·exact(two' b a z ha).2 ⟨pb,pa⟩
theorem zIk{R:Rat->Int->Prop}:∀ {xs:List Rat} {c1 c2:List Int},A2 R xs (c1++c2)->A2 R (xs.take c1.length) c1/\A2 R (xs.drop c1.length) c2
 | xs,[],c2,h=>⟨trivial,h⟩
 | x::xs,c::c1,c2,h=>by
  have:=zIk (xs:=xs) (c1:=c1) (c2:=c2) h.2
  exact⟨⟨h.1,this.1⟩,this.2⟩
theorem zLc{R:Rat->Int->Prop}:∀ {xs:List Rat} {cs:List Int},xs.length=cs.length->(∀ i,i<cs.length->R (xs.getD i 0) (cs.getD i 0))->A2 R xs cs
 | [],[],_,_=>trivial
 | x::xs,c::cs,hl,h=>⟨h 0 (Ys _),zLc (by simpa using hl) fun i hi=>h (i+1) (by rw[Qk];omega)⟩
theorem zIb:∀ {xs:List Rat} {cs:List Int},A2 Bc xs cs->0<=xs.sum/\xs.sum<=((cs.sum:Int):Rat)
 | [],[],_=>⟨Vi,Vi⟩
 | x::xs,c::cs,h=>by
  have:=zIb h.2
  have:=h.1
  rw[Qn,Qn,Q2];unfold Bc at this;constructor<;>grind
theorem zMA{n:Nat}:∀ {ks:List D} {xs:List Rat},A2 Bc xs (ks.flatMap (clm n))->(∀ l k,ks[l]?=some k->A2 Bc ((sV (fun k=>(clm n k).length) ks xs).getD l []) (clm n k))/\xs.sum=((sV (fun k=>(clm n k).length) ks xs).map List.sum).sum
 | [],xs,h=>by
  have:xs=[]:=by
   cases xs with
   | nil=>rfl
   | cons a r=>exact h.elim
  subst this;exact⟨fun l k hl=>(by cases l<;>cases hl),rfl⟩
 | k::r,xs,h=>by
  rw[V4] at h;obtain⟨h1,h2⟩:=zIk h;obtain⟨i1,i2⟩:=zMA h2;refine⟨fun l k' hl=>?_,?_⟩
  ·cases l with
   | zero=>cases hl;exact h1
   | succ l=>exact i1 l k' (by simpa using hl)
  ·rw[sV,Qi,Qn,<-i2,<-dJ,Yh]
theorem zIn{P:D->Rat->List Rat->Prop}{m:D->Nat}{f:Nat->Rat}:∀ {ks:List D} {i:Nat} {xs:List Rat},xs.length=(ks.map m).sum->(∀ l k,ks[l]?=some k->P k (f (i+l)) ((sV m ks xs).getD l []))->ShL P ks f i xs
 | [],i,xs,hl,_=>by
  show xs=[]
  exact List.length_eq_zero_iff.mp hl
 | k::r,i,xs,hl,h=>by
  rw[Qi,Qn] at hl;refine⟨xs.take (m k),xs.drop (m k),(Yh _ _).symm,h 0 k rfl,zIn (m:=m) (by rw[Vn];omega) fun l k' hl'=>?_⟩
  have:=h (l+1) k' (by simpa using hl')
  rw[show i+(l+1)=i+1+l by omega] at this;exact this
theorem zGG{b:Nat}(hb:b<=300):∀ {n:Nat} {d:D} {xs:List Rat},n<=9->Gc n d->AR n d xs->A2 Bc xs (clm n d)->Am b xs->Sh n d xs.sum xs
 | 0,_,_,_,g,_,_,_=>g.1.elim
 | n+1,d,xs,h9,g,ar,bd,am=>by
  rcases g.1 with⟨c,rfl⟩ | ⟨w,ws,ks,rfl,hw,k0,k1,w1,hy,hk⟩
  ·refine .inl ⟨c,rfl,?_⟩
   have ec:clm (n+1) (.tup [.str "boat", .int c])=[c]:=rfl;rw[ec] at bd
   match xs,bd with
   | [x],_=>rw[Qn,Vl,Xq]
  ·obtain⟨v,rfl⟩:=zJS hy.1
   have due:v.due ws (kcl n ks):=zEk (by rw[dY];exact hy.2)
   have cl:=g.cl hk k0;obtain⟨a1,a2⟩:=rJ.mp ar;have ec:clm (n+1) (.tup [.str v.s,.tup (ws.map D.int),.tup ks])=ks.flatMap (clm n):=rfl;have es:(kcl n ks).sum=(clm (n+1) (.tup [.str v.s,.tup (ws.map D.int),.tup ks])).sum:=uZ ks;have bs:=zIb bd;rw[<-es] at bs;rw[ec] at bd;obtain⟨p1,p2⟩:=zMA bd;have kl:(kcl n ks).length=ks.length:=dY n ks;have pl:(pcs n ks xs).length=ks.length:=lT ks xs
   have sx:xs.sum=((List.range (kcl n ks).length).map (sK n ks xs)).sum:=by
    rw[p2,kl];have:=zEM n ks xs
    show((pcs n ks xs).map List.sum).sum=_
    rw[this,Qz];rfl
   have zq:=am.sum.1;have gs:=g.sum;have hq:Haul (41+b) xs.sum (kcl n ks).sum:=⟨bs.1,bs.2,zq⟩;obtain⟨f,_,al⟩:=rL (w:=v) (ws:=ws) (cs:=kcl n ks) (wd:=.lst (ws.map D.int)) (cd:=.lst ((kcl n ks).map D.int)) (.inl rfl) (.inl rfl) (by omega) due cl hq
   have dl:=(zJF due cl hq al).mono (show 41+b+370<=1400 by omega)
   have kb:∀ l k,ks[l]?=some k->0<=sK n ks xs l/\sK n ks xs l<=((clm n k).sum:Rat):=fun l k hl=>zIb (p1 l k hl)
   have cv:=zNX due cl (x:=sK n ks xs) (f:=f) (q:=xs.sum) (fun i hi=>by
    have hi':i<ks.length:=by omega
    have e:ks[i]?=some ks[i]:=Qj hi';have:=kb i _ e
    rw[(vM (n:=n) e).2]
    exact this) (fun i j hij hj=>a1 i j hij (by omega)) sx.symm al dl
   refine .inr ⟨v,ws,ks,f,rfl,due,al.mono (by omega),zIn (m:=fun k=>(clm n k).length) ?_ fun l k hl=>?_⟩
   ·have:=bd.len
    rw[this,List.length_flatMap]
   ·have hl':l<ks.length:=(Vd.mp hl).1
    rw[Q6,<-cv l (by omega)];exact zGG hb (by omega) (g.kid hk (Qg hl)) (a2 l k hl) (p1 l k hl) (am.pc l)
theorem zMp{a0 a1 a2:Sl}{y c:Int}{r:List Int}(hr:r.length<=100):∃ z:Int,zDz 3 (eC (.int 10007)) (aD 4) (eOp zA (eC (.int 10)) (eC (.int 45))) [a0,a1,a2,.own ((y::r).map D.int),.val (.int c)]=.ok (.nx [a0,a1,a2,.own ((r++[z]).map D.int),.val (.int c)]):=by
 refine⟨(y*10007+c) % 10^45,?_⟩
 unfold zDz;symm;rw[oPow_i (by decide)];symm;rw[if_pos (by omega),Qy];rfl
theorem zHp{ns:List Int}(hl:ns.length<=63){m:Int}(m1:1<=m)(m2:m<=50):∃ cs:List Int,fO [.lst (ns.map D.int),.int 13,.int m]=.ok (.f (cs.map D.int)):=by
 unfold fO;symm;rw[zDr (by decide),<-List.map_drop];symm;rw[if_pos (by rw[Vn];omega)];symm;refine kU (Q:=fun r=>∃ cs:List Int,r.bind fin=.ok (.f (cs.map D.int))) (k:=zCC mF) (fun i ρ=>∃(cs:List Int)(a4:Sl),ρ=[.val (.lst (ns.map D.int)),.val (.int 13),.val (.int m),.own (cs.map D.int),a4]/\cs.length<=50) ⟨[],_,rfl,by decide⟩ ?_ ?_
 ·rintro i e ρ he ⟨cs,a4,rfl,hc⟩
  obtain⟨c,rfl⟩:∃ c:Int,e=.int c:=by
   have he':=Qg he;rcases Qc.mp he' with rfl | he'
   ·exact⟨_,rfl⟩
   ·obtain⟨c,_,rfl⟩:=Q9.mp he'
    exact⟨c,rfl⟩
  by_cases z:(cs.length:Int)<m
  ·refine⟨[.val (.lst (ns.map D.int)),.val (.int 13),.val (.int m),.own ((cs++[c]).map D.int),.val (.int c)],?_,_,_,rfl,by rw[Qm,X7];omega⟩
   symm;rw[decide_eq_true z];symm;rw[if_pos (by omega),Qy];rfl
  ·match cs,hc,z with
   | [],_,z=>exact absurd (show((0:Nat):Int)<m by omega) z
   | y::r,hc,z=>
    rw[Qk] at hc;obtain⟨w,ew⟩:=zMp (a0:=.val (.lst (ns.map D.int))) (a1:=.val (.int 13)) (a2:=.val (.int m)) (y:=y) (c:=c) (r:=r) (by omega)
    refine⟨[.val (.lst (ns.map D.int)),.val (.int 13),.val (.int m),.own ((r++[w]).map D.int),.val (.int c)],?_,_,_,rfl,by rw[Qm,X7];omega⟩
    show iS [.val (.lst (ns.map D.int)),.val (.int 13),.val (.int m),.own ((y::r).map D.int),.val (.int c)]=_
    rw[<-ew];unfold iS;generalize hK:zDz 3 (eC (.int 10007)) (aD 4) (eOp zA (eC (.int 10)) (eC (.int 45)))=K;generalize hL:y::r=l at z;symm;rw[decide_eq_false z];symm
 ·rintro ρ ⟨cs,a4,rfl,_⟩
  exact⟨cs,rfl⟩
theorem yP(a b:List Rat):oEq (.lst (a.map dq)) (.lst (b.map dq))=.ok (.bl (decide (a=b))):=by
 have h:∀ a b:List Rat,uS (a.map dq) (b.map dq)=decide (a=b):=by
  intro a
  induction a with
  | nil=>intro b;cases b with
   | nil=>simp[uS]
   | cons y b=>simp[uS]
  | cons x a ih=>intro b;cases b with
   | nil=>simp[uS]
   | cons y b=>
    rw[Qi,Qi,uS,ih,eq_dq];by_cases h1:x=y<;>by_cases h2:a=b<;>simp[h1,h2]
 have dp:dep (.lst (a.map dq))<=50:=by
  have:∀ l:List Rat,depS (l.map dq)<=10:=by
   intro l
   induction l with
   | nil=>simp[depS]
   | cons x l ih=>rw[Qi,depS,dep_dq];omega
  have:=this a
  rw[dep];omega
 unfold oEq;rw[if_pos dp];show Res.ok (D.bl (uS (a.map dq) (b.map dq)))=_
 rw[h]
abbrev R49(ns:List Int)(d:D)(cs:List Int)(c:Int)(xs:List Rat)(a6:Sl)(du:Bool)(told:D)(a9 a10:Sl):Rho:=[.val (.lst (ns.map D.int)),.val d,.val (.lst (cs.map D.int)),.val (.int c),.val (.lst (xs.map dq)),.val (dq xs.sum),a6,.val (.bl du),.val told,a9,a10]
theorem zKG{ns:List Int}{d:D}{c:Int}{xs:List Rat}{a6:Sl}{du:Bool}{told:D}(g:Gc 8 d)(am:Am 260 xs)(no:du=false->∀ q,0<=q->q<=((clm 8 d).sum:Rat)->¬ Sh 8 d q xs)(k:Nat)(hk:k<3)(a10:Sl):
  ∃ b10,xJ (R49 ns d (clm 8 d) c xs a6 du told (.val (.int (k:Int))) a10)=.ok (.nx (R49 ns d (clm 8 d) c xs a6 du told (.val (.int (k:Int))) b10)):=by
 have gs:=g.sum;have u0:=Qs c (show(7:Int)≠0 by decide)
 have u1:=Q0 c (show(0:Int)<7 by decide)
 have zq:=am.sum.1;generalize hu:1+c % 7=u;have ft:=lO (t:=(k:Int)-1) (b:=u) (n:=4) (by omega) (by omega) (by decide)
 have dsu:Dn u (Rat.divInt ((k:Int)-1) u):=⟨_,dvm _ (by omega)⟩
 have zs:Sz 8 (Rat.divInt ((k:Int)-1) u):=by
  have e:=dvm ((k:Int)-1) (b:=u) (by omega)
  have up:(0:Rat)<(u:Rat):=by exact_mod_cast (show 0<u by omega)
  have one:(1:Rat)<=(u:Rat):=by exact_mod_cast (show 1<=u by omega)
  have t1:(((k:Int)-1:Int):Rat)<=1:=by
   have:(((k:Int)-1:Int):Rat)<=((1:Int):Rat):=Vb.mpr (by omega)
   exact this
  have t0:(-1:Rat)<=(((k:Int)-1:Int):Rat):=by
   have:((-1:Int):Rat)<=(((k:Int)-1:Int):Rat):=Vb.mpr (by omega)
   exact this
  have l1:Rat.divInt ((k:Int)-1) u<=((1:Int):Rat):=Q3.mp fun z=>by
   have:=Yj up |>.mpr z
   rw[e] at this;have o1:((1:Int):Rat)=1:=rfl;rw[o1] at this;grind
  have l0:-((1:Int):Rat)<=Rat.divInt ((k:Int)-1) u:=Q3.mp fun z=>by
   have:=Yj up |>.mpr z
   rw[e] at this;have o1:((1:Int):Rat)=1:=rfl;rw[o1] at this;grind
  exact dsu.szA (by omega) (b:=4) (by omega) l0 l1 (a:=4) (by decide)
 generalize Rat.divInt ((k:Int)-1) u=s at *;have pp:=iY zq zs (by decide)
 have zc:Sz 310 (xs.sum+s):=zq.add zs;have zS:Sz 40 ((clm 8 d).sum:Rat):=⟨by show((clm 8 d).sum).natAbs<2^40;omega,by show 1<2^40;decide⟩
 have ls:=uV zS zc (by decide)
 have ls':dO [.tup [.int (clm 8 d).sum,.int 1],dq (xs.sum+s)]=.ok (.v (.bl (decide (((clm 8 d).sum:Rat)<xs.sum+s)))):=ls
 cases du with
 | true=>
  refine⟨.val (dq (xs.sum+s)),?_⟩
  symm;rw[hu,ft];symm;rw[pp];symm
 | false=>
  refine⟨.val (dq (xs.sum+s)),?_⟩
  symm;rw[hu,ft];symm;rw[pp];symm;by_cases c0:0<=(xs.sum+s).num
  ·rw[decide_eq_true c0]
   symm;rw[ls'];symm;by_cases c1:((clm 8 d).sum:Rat)<xs.sum+s
   ·rw[decide_eq_true c1]
    symm
   ·rw[decide_eq_false c1]
    symm;have q0:=U5.mp c0;have q1:=Q3.mp c1;obtain⟨ys,ey,sy⟩:=vT (m:=310) g (by decide) q0 q1 (by have:=zc.2;exact_mod_cast this) (by decide)
    rw[ey];symm;rw[yP,decide_eq_false (fun z=>no rfl _ q0 q1 (by rw[z] at sy;exact sy))];symm
  ·rw[decide_eq_false c0]
   symm
theorem zOo{cs:List Int}{xs:List Rat}(hl:xs.length=cs.length)(w:Wi cs xs):A2 Bc xs cs:=zLc hl fun i hi=>w i hi
theorem law_true:∀ ns:List Int,ns.length<=63->zKL [.lst (ns.map D.int)]=.ok (.v (.bl true)):=by
 intro ns hl;obtain⟨d,ed,ic,hc,h12,hkn⟩:=zAm ns;have g:Gc 8 d:=⟨ic,h12,hc⟩;have gs:=g.sum;have lc:=lL 10 d (fL ic (by decide)) (by rw[dN ic (by decide)];omega)
 rw[dN ic (show 8<=10 by decide)] at lc;obtain⟨fs,ef⟩:=zHp hl (m:=10) (by decide) (by decide)
 unfold zKL;symm;rw[ed];symm;rw[lc];symm;rw[ef];symm;refine kU (Q:=fun r=>r.bind fin=.ok (.v (.bl true))) (k:=zCC zCs) (fun i ρ=>∃ a3 a4 a5 a6 a7 a8 a9 a10:Sl,ρ=[.val (.lst (ns.map D.int)),.val d,.val (.lst ((clm 8 d).map D.int)),a3,a4,a5,a6,a7,a8,a9,a10]) ⟨_,_,_,_,_,_,_,_,rfl⟩ ?_ ?_
 ·rintro i e ρ he ⟨a3,a4,a5,a6,a7,a8,a9,a10,rfl⟩
  obtain⟨c,_,rfl⟩:=Q9.mp (Qg he);obtain⟨xs,ex,am,lx⟩:=zFx g hkn c;have zq:=am.sum.1
  have cm:zAb (zFN (dR (eOp oLt (eOp oIx (eOp oIx (aD 4) (aD 11)) (eC (.int 0))) (eC (.int 0)))) (dR (aM dO (aB (qO (aB (eOp oIx (aD 2) (aD 11)) (aB (eC (.int 1)) aNil))) (aB (eOp oIx (aD 4) (aD 11)) aNil))))) (aD 11) [.val (.lst (ns.map D.int)),.val d,.val (.lst ((clm 8 d).map D.int)),.val (.int c),.val (.lst (xs.map dq)),.val (dq xs.sum),a6,a7,a8,a9,a10] (rng 0 (clm 8 d).length 1)=.ok (((List.range (clm 8 d).length).filter fun k=>decide (¬ (0<=xs.getD k 0/\xs.getD k 0<=cR (clm 8 d) k))).map fun i:Nat=>D.int (i:Int)):=by
   have er:rng 0 (clm 8 d).length 1=(List.range (clm 8 d).length).map fun i:Nat=>D.int (i:Int):=by unfold rng;exact Vv fun i _=>by rw[show(0:Int)+(i:Int)*1=(i:Int) by omega]
   rw[er];refine zEg (u:=fun i:Nat=>D.int (i:Int)) (p:=fun k=>decide (¬ (0<=xs.getD k 0/\xs.getD k 0<=cR (clm 8 d) k))) (by rw[Q7];omega) (fun k hk=>⟨?_,rfl⟩)
   have hk':=Qt.mp hk;have ix:oIx (.lst (xs.map dq)) (.int (k:Int))=.ok (dq (xs.getD k 0)):=zCY (by omega)
   have ick:oIx (.lst ((clm 8 d).map D.int)) (.int (k:Int))=.ok (.int ((clm 8 d).getD k 0)):=mE (Va k) (aR hk');have cb:=g.2.2 _ (Qg (aR hk'));have hx:k<xs.length:=by omega
   have zx:=am.each (show xs.getD k 0∈xs by rw[Qr,Qj hx];exact V5 hx)
   have zc:Sz 40 (((clm 8 d).getD k 0:Int):Rat):=⟨by show((clm 8 d).getD k 0).natAbs<2^40;omega,by show 1<2^40;decide⟩
   have ls:=uV zc zx (by decide)
   have ls':dO [.tup [.int ((clm 8 d).getD k 0),.int 1],dq (xs.getD k 0)]=.ok (.v (.bl (decide ((((clm 8 d).getD k 0:Int):Rat)<xs.getD k 0)))):=ls;have nz:(xs.getD k 0).num<0 ↔ ¬ 0<=xs.getD k 0:=by rw[<-U5];omega
   symm;rw[ix];symm;by_cases c0:0<=xs.getD k 0
   ·rw[decide_eq_false (fun z=>(nz.mp z) c0)]
    symm;rw[ick];symm;rw[ix];symm;rw[ls'];symm;by_cases c1:xs.getD k 0<=cR (clm 8 d) k
    ·rw[decide_eq_false (show ¬ (((clm 8 d).getD k 0:Int):Rat)<xs.getD k 0 from Q3.mpr c1),decide_eq_false (fun z=>z ⟨c0,c1⟩)]
    ·rw[decide_eq_true (show(((clm 8 d).getD k 0:Int):Rat)<xs.getD k 0 from Vw.mp c1),decide_eq_true (show ¬ (0<=xs.getD k 0/\xs.getD k 0<=cR (clm 8 d) k) from fun z=>c1 z.2)]
   ·rw[decide_eq_true (nz.mpr c0)]
    symm;rw[decide_eq_true (show ¬ (0<=xs.getD k 0/\xs.getD k 0<=cR (clm 8 d) k) from fun z=>c0 z.1)]
  have fin3:∀(w6:D)(du:Bool)(told:D),(du=false->∀ q,0<=q->q<=((clm 8 d).sum:Rat)->¬ Sh 8 d q xs)->∃ b9 b10,nX (R49 ns d (clm 8 d) c xs (.val w6) du told a9 a10)=.ok (.nx (R49 ns d (clm 8 d) c xs (.val w6) du told b9 b10)):=fun w6 du told no=>by
   obtain⟨p0,e0⟩:=zKG (ns:=ns) (c:=c) (a6:=.val w6) (du:=du) (told:=told) g am no 0 (by decide) a10
   obtain⟨p1,e1⟩:=zKG (ns:=ns) (c:=c) (a6:=.val w6) (du:=du) (told:=told) g am no 1 (by decide) p0
   obtain⟨p2,e2⟩:=zKG (ns:=ns) (c:=c) (a6:=.val w6) (du:=du) (told:=told) g am no 2 (by decide) p1
   refine⟨.val (.int 2),p2,?_⟩
   unfold nX;generalize hK:(xJ:Sv)=K at e0 e1 e2;symm;rw[pQ (by decide) (by decide)];symm;rw[show ∀ ρ,loop (gName 9) K (rng 0 3 1) ρ=loop (gName 9) K [.int 0,.int 1,.int 2] ρ from fun _=>rfl];rw[dW (ρ1:=R49 ns d (clm 8 d) c xs (.val w6) du told (.val (.int 0)) a10) rfl e0,dW (ρ1:=R49 ns d (clm 8 d) c xs (.val w6) du told (.val (.int 1)) p0) rfl e1,dW (ρ1:=R49 ns d (clm 8 d) c xs (.val w6) du told (.val (.int 2)) p1) rfl e2];rfl
  have mid:∃(w6:D)(du:Bool)(told:D)(_:du=false->∀ q,0<=q->q<=((clm 8 d).sum:Rat)->¬ Sh 8 d q xs),xU [.val (.lst (ns.map D.int)),.val d,.val (.lst ((clm 8 d).map D.int)),.val (.int c),.val (.lst (xs.map dq)),.val (dq xs.sum),a6,a7,a8,a9,a10]=nX (R49 ns d (clm 8 d) c xs (.val w6) du told a9 a10):=by
   have fo:=zJJ (kd:=true) g (by decide) am (by decide) lx
   unfold xU zGC zEx zDV;generalize hK:(nX:Sv)=K;by_cases W:Wi (clm 8 d) xs
   ·have nil:((List.range (clm 8 d).length).filter fun k=>decide (¬ (0<=xs.getD k 0/\xs.getD k 0<=cR (clm 8 d) k)))=[]:=Ws.mpr fun k hk h=>(of_decide_eq_true h) (W k (Qt.mp hk))
    rw[nil] at cm;have a2:=zOo lx W;have bs:=zIb a2;obtain⟨ys,ey,sy⟩:=vT (m:=301) g (by decide) bs.1 bs.2 (by have:=zq.2;exact_mod_cast this) (by decide)
    by_cases E:ys=xs
    ·subst E
     have ar:=xG (b:=260) (by decide) (by decide) g sy bs.1 bs.2 am
     have et:bS [d,.lst (ys.map dq)]=.ok (.v (.tup [.str "catch", dq ys.sum])):=by
      rcases fo with⟨k,_,hk,n,_⟩ | ⟨Q,i,j,_,n,_⟩ | ⟨e,_⟩
      ·exact absurd (W k hk) n
      ·exact absurd ar n
      ·exact e
     refine⟨.bl true,true,.tup [.str "catch", dq ys.sum],fun z=>(by cases z),?_⟩
     symm;rw[pQ (by omega) (by omega),Vh];symm;rw[cm];symm;rw[show oEq (D.lst []) (D.lst [])=.ok (.bl true) from rfl];symm;rw[ey];symm;rw[yP,decide_eq_true rfl];symm;rw[et];symm;rw[show oNe (.bl true) (.bl true)=.ok (.bl false) from rfl];symm;rw[zJE (by simp only[dep,depS,dep_dq];decide)];symm
    ·have nar:¬ AR 8 d xs:=fun ar=>E (zMR g sy (zGG (b:=260) (by decide) (by decide) g ar a2 am))
     obtain⟨Q,i',j',et⟩:∃(Q:List Int)(i j:Nat),bS [d,.lst (xs.map dq)]=.ok (.v (iI (Q.map D.int) i j)):=by
      rcases fo with⟨k,_,hk,n,_⟩ | ⟨Q,i,j,e,_,_⟩ | ⟨_,ar,_⟩
      ·exact absurd (W k hk) n
      ·exact⟨Q,i,j,e⟩
      ·exact absurd ar nar
     refine⟨.bl true,false,iI (Q.map D.int) i' j',fun _ q q0 q1 sh=>nar (xG (b:=260) (by decide) (by decide) g sh q0 q1 am),?_⟩
     symm;rw[pQ (by omega) (by omega),Vh];symm;rw[cm];symm;rw[show oEq (D.lst []) (D.lst [])=.ok (.bl true) from rfl];symm;rw[ey];symm;rw[yP,decide_eq_false E];symm;rw[et];symm;rw[show oIx (iI (Q.map D.int) i' j') (.int 0)=.ok (.str "pair") from rfl];symm;rw[show(Str.ofString "pair" == Str.ofString "catch")=false from rfl,show oNe (.bl false) (.bl false)=.ok (.bl false) from rfl];symm
   ·obtain⟨k',et⟩:∃ k:Nat,bS [d,.lst (xs.map dq)]=.ok (.v (.tup [.str "over", .int (k:Int)])):=by
     rcases fo with⟨k,e,_⟩ | ⟨_,_,_,_,_,w⟩ | ⟨_,_,w⟩
     ·exact⟨k,e⟩
     ·exact absurd w W
     ·exact absurd w W
    have ne:∃ y r,((List.range (clm 8 d).length).filter fun k=>decide (¬ (0<=xs.getD k 0/\xs.getD k 0<=cR (clm 8 d) k)))=y::r:=by
     cases hf:((List.range (clm 8 d).length).filter fun k=>decide (¬ (0<=xs.getD k 0/\xs.getD k 0<=cR (clm 8 d) k))) with
     | nil=>exact absurd (fun k hk=>Classical.byContradiction fun n=>(Ws.mp hf) k (Qt.mpr hk) (decide_eq_true n)) W
     | cons y r=>exact⟨y,r,rfl⟩
    obtain⟨y,r,hf⟩:=ne;rw[hf] at cm
    have en:oEq (.lst ((y::r).map fun i:Nat=>D.int (i:Int))) (.lst [])=.ok (.bl false):=by
     unfold oEq;have e3:(y::r).map (fun i:Nat=>D.int (i:Int))=((y::r).map fun i:Nat=>(i:Int)).map D.int:=by rw[Qz];rfl
     rw[if_pos (by rw[e3];exact Qp (zHx _) (by decide))];rfl
    refine⟨.bl false,false,.tup [.str "over", .int (k':Int)],fun _ q q0 q1 sh=>W fun i hi=>(zGm g sh q0 q1).1.at (by omega),?_⟩
    symm;rw[pQ (by omega) (by omega),Vh];symm;rw[cm];symm;rw[show oEq (D.lst (D.int (y:Int)::r.map fun i:Nat=>D.int (i:Int))) (D.lst [])=.ok (.bl false) from en];symm;rw[et];symm;rw[show(Str.ofString "over" == Str.ofString "catch")=false from rfl,show oNe (.bl false) (.bl false)=.ok (.bl false) from rfl];symm
  obtain⟨w6,du,told,no,e6⟩:=mid;obtain⟨b9,b10,e11⟩:=fin3 w6 du told no;refine⟨R49 ns d (clm 8 d) c xs (.val w6) du told b9 b10,?_,_,_,_,_,_,_,_,_,rfl⟩
  rw[<-e11,<-e6];unfold zEW zGu;generalize hK:(xU:Sv)=K;symm;rw[ex];symm;rw[zGh am (by decide)];symm
 ·rintro ρ ⟨a3,a4,a5,a6,a7,a8,a9,a10,rfl⟩
  rfl
end Lw
namespace Lw
open PySem PySem.Spec PyProof.Rows L2 L3
local macro_rules | `(tactic| walk_at "b")=>`(tactic| (intro _ _ _ _ _ _ us hl; first | (obtain ⟨_,e⟩:=L3.ln1 hl;subst e;rfl) | (obtain ⟨_,_,e⟩:=L3.ln2 hl;subst e;rfl) | (obtain ⟨_,_,_,e⟩:=L3.ln3 hl;subst e;rfl) | (obtain ⟨_,_,_,_,e⟩:=L3.ln4 hl;subst e;rfl)))
theorem _root_.L3.CanM.mo{P:Program}{w:World}{K:Fg_}{mg:Str->Option Value}{base:Heap}{j k:Nat}{x:Str}{ps:List Str}{m:Mir}(c:CanM P w K mg base j x ps m)(h:j<=k:=by decide):CanM P w K mg base k x ps m:=c.mono h
local macro_rules | `(tactic| walk_at "s")=>`(tactic| exact⟨rfl,rfl,rfl,by decide +kernel,rfl,by decide +kernel,by decide +kernel⟩)
def top(i:Nat):Stmt:=PySem.Challenge.pw_catchhall_k49_whole_dealt_or_not.main.body.getD i (.Pass ⟨0,0,0,0⟩)
abbrev fV:Stmt:=top 11
theorem bY:FnScope ["one","two","rest"] ["one","two"] (aE fV):=by walk_at "s"
abbrev zFj:Stmt:=top 12
theorem zBE:FnScope ["top","bottom","divisor"] ["top","bottom"] (aE zFj):=by walk_at "s"
abbrev zBi:Stmt:=top 13
theorem zIc:FnScope ["number"] ["number"] (aE zBi):=by walk_at "s"
abbrev zFP:Stmt:=top 14
theorem zKM:FnScope ["one","two"] ["one","two"] (aE zFP):=by walk_at "s"
abbrev zBX:Stmt:=top 15
theorem zHT:FnScope ["one","two"] ["one","two"] (aE zBX):=by walk_at "s"
abbrev zBR:Stmt:=top 16
theorem zHD:FnScope ["one","two"] ["one","two"] (aE zBR):=by walk_at "s"
abbrev zFF:Stmt:=top 17
theorem zKv:FnScope ["one","two"] ["one","two"] (aE zFF):=by walk_at "s"
abbrev zFw:Stmt:=top 18
theorem zJX:FnScope ["one","two"] ["one","two"] (aE zFw):=by walk_at "s"
abbrev wV:Stmt:=top 19
theorem zGz:FnScope ["one","two"] ["one","two"] (aE wV):=by walk_at "s"
abbrev kO:Stmt:=top 20
theorem vY:FnScope ["amount","most"] ["amount","most"] (aE kO):=by walk_at "s"
abbrev fU:Stmt:=top 21
theorem pY:FnScope ["amount","most"] ["amount","most"] (aE fU):=by walk_at "s"
abbrev zBM:Stmt:=top 22
theorem rF:FnScope ["some","so_far","each"] ["some"] (aE zBM):=by walk_at "s"
abbrev gA:Stmt:=top 23
theorem oR:FnScope ["some","bottom","each"] ["some"] (aE gA):=by walk_at "s"
abbrev xE:Stmt:=top 28
theorem zDS:FnScope ["way","weights","claims"] ["way","weights","claims"] (aE xE):=by walk_at "s"
abbrev kK:Stmt:=top 29
theorem xF:FnScope ["way"] ["way"] (aE kK):=by walk_at "s"
abbrev gX:Stmt:=top 30
theorem jY:FnScope ["claims","claim"] ["claims"] (aE gX):=by walk_at "s"
abbrev fX:Stmt:=top 31
theorem fA:FnScope ["way","weights","many","due","weight"] ["way","weights","many"] (aE fX):=by walk_at "s"
abbrev zBY:Stmt:=top 32
theorem zHH:FnScope ["way","weights","claims","catch"] ["way","weights","claims","catch"] (aE zBY):=by walk_at "s"
abbrev dG:Stmt:=top 33
theorem dX:FnScope ["way","weights","claims","catch","most","lacking"] ["way","weights","claims","catch"] (aE dG):=by walk_at "s"
abbrev mX:Stmt:=top 34
theorem eN:FnScope ["claims","catch","left","amounts","claim","amount"] ["claims","catch"] (aE mX):=by walk_at "s"
abbrev lG:Stmt:=top 35
theorem cI:FnScope ["weights","claims","catch","left","weight","amounts","spot","by_weight"] ["weights","claims","catch"] (aE lG):=by walk_at "s"
abbrev jF:Stmt:=top 36
theorem zAH:FnScope ["weights","claims"] ["weights","claims"] (aE jF):=by walk_at "s"
abbrev iD:Stmt:=top 37
theorem gD:FnScope ["claims","catch","most","part"] ["claims","catch"] (aE iD):=by walk_at "s"
abbrev iL:Stmt:=top 38
theorem jI:FnScope ["claims","catch","ones"] ["claims","catch"] (aE iL):=by walk_at "s"
abbrev zEB:Stmt:=top 43
theorem zJh:FnScope ["claim"] ["claim"] (aE zEB):=by walk_at "s"
abbrev zEZ:Stmt:=top 44
theorem zGx:FnScope ["way","weights","kids","custom"] ["way","weights","kids"] (aE zEZ):=by walk_at "s"
abbrev sL:Stmt:=top 45
theorem zDl:FnScope ["custom"] ["custom"] (aE sL):=by walk_at "s"
abbrev wO:Stmt:=top 46
theorem zGi:FnScope ["custom"] ["custom"] (aE wO):=by walk_at "s"
abbrev lD:Stmt:=top 47
theorem wG:FnScope ["custom"] ["custom"] (aE lD):=by walk_at "s"
abbrev sG:Stmt:=top 48
theorem zDA:FnScope ["custom"] ["custom"] (aE sG):=by walk_at "s"
abbrev jH:Stmt:=top 49
theorem hJ:FnScope ["custom","claims","kid"] ["custom"] (aE jH):=by walk_at "s"
abbrev pL:Stmt:=top 50
theorem zBW:FnScope ["custom"] ["custom"] (aE pL):=by walk_at "s"
abbrev iC:Stmt:=top 51
theorem nV:FnScope ["custom"] ["custom"] (aE iC):=by walk_at "s"
abbrev lB:Stmt:=top 52
theorem pG:FnScope ["custom"] ["custom"] (aE lB):=by walk_at "s"
abbrev wJ:Stmt:=top 53
theorem jA:FnScope ["custom","some","pieces","start","kid","end"] ["custom","some"] (aE wJ):=by walk_at "s"
abbrev vU:Stmt:=top 54
theorem zEr:FnScope ["custom","catch"] ["custom","catch"] (aE vU):=by walk_at "s"
abbrev lV:Stmt:=top 55
theorem fI:FnScope ["custom","catch","amounts","told","kid","amount"] ["custom","catch"] (aE lV):=by walk_at "s"
abbrev kT:Stmt:=top 60
theorem gE:FnScope ["custom","amounts","number","claim","pair"] ["custom","amounts"] (aE kT):=by walk_at "s"
abbrev gP:Stmt:=top 61
theorem rA:FnScope ["custom","amounts"] ["custom","amounts"] (aE gP):=by walk_at "s"
abbrev iK:Stmt:=top 62
theorem cX:FnScope ["custom","amounts","path","pair","pieces","spot","kid"] ["custom","amounts","path"] (aE iK):=by walk_at "s"
abbrev pK:Stmt:=top 63
theorem jE:FnScope ["custom","amounts","path","many","one","other"] ["custom","amounts","path"] (aE pK):=by walk_at "s"
abbrev pC:Stmt:=top 64
theorem dL:FnScope ["custom","amounts","one","other","pieces","own","kids","claims","weights","right"] ["custom","amounts","one","other"] (aE pC):=by walk_at "s"
abbrev jS:Stmt:=top 66
theorem tO:FnScope ["script","k"] ["script","k"] (aE jS):=by walk_at "s"
abbrev lH:Stmt:=top 67
theorem gC:FnScope ["one","two","rest"] ["one","two"] (aE lH):=by walk_at "s"
abbrev pA:Stmt:=top 68
theorem sR:FnScope ["top","bottom","shared"] ["top","bottom"] (aE pA):=by walk_at "s"
abbrev pZ:Stmt:=top 69
theorem zBO:FnScope ["one","two"] ["one","two"] (aE pZ):=by walk_at "s"
abbrev rW:Stmt:=top 70
theorem lN:FnScope ["some","much","one"] ["some"] (aE rW):=by walk_at "s"
abbrev oY:Stmt:=top 71
theorem zBL:FnScope ["one","two"] ["one","two"] (aE oY):=by walk_at "s"
abbrev mY:Stmt:=top 72
theorem qC:FnScope ["cell","kind","some"] ["cell","kind"] (aE mY):=by walk_at "s"
abbrev oW:Stmt:=top 73
theorem dZ:FnScope ["cell","kids","way","weights","most","rest","kid"] ["cell","kids"] (aE oW):=by walk_at "s"
abbrev kR:Stmt:=top 74
theorem bG:FnScope ["script","head","pile","knots","boats","k","cell","turn","many"] ["script"] (aE kR):=by walk_at "s"
abbrev iB:Stmt:=top 75
theorem eT:FnScope ["custom","claims","kid"] ["custom"] (aE iB):=by walk_at "s"
abbrev mU:Stmt:=top 76
theorem lI:FnScope ["claim","cell","bottom"] ["claim","cell"] (aE mU):=by walk_at "s"
abbrev jR:Stmt:=top 77
theorem bX:FnScope ["custom","cell","claims","amounts","way","one","other","step"] ["custom","cell"] (aE jR):=by walk_at "s"
abbrev lJ:Stmt:=top 78
theorem jT:FnScope ["script","start","many","cells","cell"] ["script","start","many"] (aE lJ):=by walk_at "s"
abbrev qY:Stmt:=top 79
theorem jW:FnScope ["script","custom","claims","cell","amounts","much","within","due","told","k","catch"] ["script"] (aE qY):=by walk_at "s"
structure Bt (mg:Str->Option Value):Prop where
 abs:mg "abs" = none
 sorted:mg "sorted" = none
 range:mg "range" = none
 len:mg "len" = none
 sum:mg "sum" = none
 zip:mg "zip" = none
 tuple:mg "tuple" = none
 max:mg "max" = none
 enumerate:mg "enumerate" = none
 min:mg "min" = none
 list:mg "list" = none
structure Kt (K:PySem.W.Frag):Prop where
structure Ct (K:PySem.W.Frag) (mg:Str->Option Value):Prop where
 BOAT:∃ v u,mg "BOAT" = some u/\cO v u/\IsD K (fun _=>none) v d_BOAT
 CATCH:∃ v u,mg "CATCH" = some u/\cO v u/\IsD K (fun _=>none) v d_CATCH
 DEEPEST:∃ v u,mg "DEEPEST" = some u/\cO v u/\IsD K (fun _=>none) v d_DEEPEST
 HALF:∃ v u,mg "HALF" = some u/\cO v u/\IsD K (fun _=>none) v d_HALF
 MOST_BOATS:∃ v u,mg "MOST_BOATS" = some u/\cO v u/\IsD K (fun _=>none) v d_MOST_BOATS
 NOUGHT:∃ v u,mg "NOUGHT" = some u/\cO v u/\IsD K (fun _=>none) v lR
 OVER:∃ v u,mg "OVER" = some u/\cO v u/\IsD K (fun _=>none) v d_OVER
 PAIR:∃ v u,mg "PAIR" = some u/\cO v u/\IsD K (fun _=>none) v d_PAIR
 WEIGHTED:∃ v u,mg "WEIGHTED" = some u/\cO v u/\IsD K (fun _=>none) v d_WEIGHTED
 CONTRARY:∃ a,IsTab K mg "CONTRARY" aX a
structure Rt (K:PySem.W.Frag) (mg:Str->Option Value):Prop where
 BadClaim:∃ C,Err K mg "BadClaim" C
 BadWay:∃ C,Err K mg "BadWay" C
 BadWeights:∃ C,Err K mg "BadWeights" C
 NoFraction:∃ C,Err K mg "NoFraction" C
 Outside:∃ C,Err K mg "Outside" C
 TooMany:∃ C,Err K mg "TooMany" C
 Unlike:∃ C,Err K mg "Unlike" C
structure Et (K:PySem.W.Frag) (mg:Str->Option Value):Prop where
 co_Outside:Cat K mg "Outside" "Outside"
theorem zNS{K:Fg_}{h:Heap}{mg:Str->Option Value}{t0 t1 t2 t3 t4 t5 t6 t7 t8 t9 t10 t11:Tok}{pHALF0:Addr}{o_pHALF0:Option Addr}{n_pHALF0:Nat}{s_pHALF0:Array (Option Value)}{pNOUGHT1:Addr}{o_pNOUGHT1:Option Addr}{n_pNOUGHT1:Nat}{s_pNOUGHT1:Array (Option Value)}{pWEIGHTED2:Addr}{o_pWEIGHTED2:Option Addr}{n_pWEIGHTED2:Nat}{s_pWEIGHTED2:Array (Option Value)}{a_CONTRARY:Addr}(X:K.In h)(G:h.Ns mainGlobals mg)(n_BOAT:PySem.W.nsIn K mainGlobals "BOAT" = some (some (.str "boat" t0)))(n_CATCH:PySem.W.nsIn K mainGlobals "CATCH" = some (some (.str "catch" t1)))(n_DEEPEST:PySem.W.nsIn K mainGlobals "DEEPEST" = some (some (.int (8) t2)))(n_HALF:PySem.W.nsIn K mainGlobals "HALF" = some (some (.ref pHALF0)))(pHALF0_l:K.lookup pHALF0=some ⟨.type "tuple", o_pHALF0,.seq #[.int (1) t3,.int (2) t4] n_pHALF0,s_pHALF0⟩)(n_MOST_BOATS:PySem.W.nsIn K mainGlobals "MOST_BOATS" = some (some (.int (12) t5)))(n_NOUGHT:PySem.W.nsIn K mainGlobals "NOUGHT" = some (some (.ref pNOUGHT1)))(pNOUGHT1_l:K.lookup pNOUGHT1=some ⟨.type "tuple", o_pNOUGHT1,.seq #[.int (0) t6,.int (1) t7] n_pNOUGHT1,s_pNOUGHT1⟩)(n_OVER:PySem.W.nsIn K mainGlobals "OVER" = some (some (.str "over" t8)))(n_PAIR:PySem.W.nsIn K mainGlobals "PAIR" = some (some (.str "pair" t9)))(n_WEIGHTED:PySem.W.nsIn K mainGlobals "WEIGHTED" = some (some (.ref pWEIGHTED2)))(pWEIGHTED2_l:K.lookup pWEIGHTED2=some ⟨.type "tuple", o_pWEIGHTED2,.seq #[.str "even" t10,.str "lack" t11] n_pWEIGHTED2,s_pWEIGHTED2⟩)(n_CONTRARY:PySem.W.nsIn K mainGlobals "CONTRARY" = some (some (.ref a_CONTRARY)))(aX:PyProof.Rows.KTD.tabLook (PyProof.Rows.KTD.datLooks fun a=>K.lookup a) (fun a=>K.lookup a) a_CONTRARY (zHf Lw.aX)=true):Ct K mg:=⟨⟨.str "boat", _,Q8 X G n_BOAT,⟨_,rfl⟩,(.str _)⟩,⟨.str "catch", _,Q8 X G n_CATCH,⟨_,rfl⟩,(.str _)⟩,⟨.int (8),_,Q8 X G n_DEEPEST,⟨_,rfl⟩,(.int _)⟩,⟨.ref pHALF0,_,Q8 X G n_HALF,rfl,(.tup (.inr ⟨_,_,_,pHALF0_l,rfl,rfl,Wd rfl,(.cons (show cO (.int (1)) _ from ⟨_,rfl⟩) (.cons (show cO (.int (2)) _ from ⟨_,rfl⟩) .nil))⟩) (.cons (.int _) (.cons (.int _) .nil)))⟩,⟨.int (12),_,Q8 X G n_MOST_BOATS,⟨_,rfl⟩,(.int _)⟩,⟨.ref pNOUGHT1,_,Q8 X G n_NOUGHT,rfl,(.tup (.inr ⟨_,_,_,pNOUGHT1_l,rfl,rfl,Wd rfl,(.cons (show cO (.int (0)) _ from ⟨_,rfl⟩) (.cons (show cO (.int (1)) _ from ⟨_,rfl⟩) .nil))⟩) (.cons (.int _) (.cons (.int _) .nil)))⟩,⟨.str "over", _,Q8 X G n_OVER,⟨_,rfl⟩,(.str _)⟩,⟨.str "pair", _,Q8 X G n_PAIR,⟨_,rfl⟩,(.str _)⟩,⟨.ref pWEIGHTED2,_,Q8 X G n_WEIGHTED,rfl,(.tup (.inr ⟨_,_,_,pWEIGHTED2_l,rfl,rfl,Wd rfl,(.cons (show cO (.str "even") _ from ⟨_,rfl⟩) (.cons (show cO (.str "lack") _ from ⟨_,rfl⟩) .nil))⟩) (.cons (.str _) (.cons (.str _) .nil)))⟩,⟨a_CONTRARY,Q8 X G n_CONTRARY,fun h X=>PyProof.Rows.KTD.text_of_look X aX⟩⟩
theorem zNW{K:Fg_}{h:Heap}{mg:Str->Option Value}{C_BadClaim:Addr}{C_BadWay:Addr}{C_BadWeights:Addr}{C_NoFraction:Addr}{C_Outside:Addr}{C_TooMany:Addr}{C_Unlike:Addr}(X:K.In h)(G:h.Ns mainGlobals mg)(n_BadClaim:PySem.W.nsIn K mainGlobals "BadClaim" = some (some (.ref C_BadClaim)))(x_BadClaim:PySem.W.excIn K C_BadClaim [.type "ValueError", .type "Exception", .type "BaseException", .type "object"] "ValueError.__new__" = true)(n_BadWay:PySem.W.nsIn K mainGlobals "BadWay" = some (some (.ref C_BadWay)))(x_BadWay:PySem.W.excIn K C_BadWay [.type "ValueError", .type "Exception", .type "BaseException", .type "object"] "ValueError.__new__" = true)(n_BadWeights:PySem.W.nsIn K mainGlobals "BadWeights" = some (some (.ref C_BadWeights)))(x_BadWeights:PySem.W.excIn K C_BadWeights [.type "ValueError", .type "Exception", .type "BaseException", .type "object"] "ValueError.__new__" = true)(n_NoFraction:PySem.W.nsIn K mainGlobals "NoFraction" = some (some (.ref C_NoFraction)))(x_NoFraction:PySem.W.excIn K C_NoFraction [.type "ValueError", .type "Exception", .type "BaseException", .type "object"] "ValueError.__new__" = true)(n_Outside:PySem.W.nsIn K mainGlobals "Outside" = some (some (.ref C_Outside)))(x_Outside:PySem.W.excIn K C_Outside [.type "ValueError", .type "Exception", .type "BaseException", .type "object"] "ValueError.__new__" = true)(n_TooMany:PySem.W.nsIn K mainGlobals "TooMany" = some (some (.ref C_TooMany)))(x_TooMany:PySem.W.excIn K C_TooMany [.type "ValueError", .type "Exception", .type "BaseException", .type "object"] "ValueError.__new__" = true)(n_Unlike:PySem.W.nsIn K mainGlobals "Unlike" = some (some (.ref C_Unlike)))(x_Unlike:PySem.W.excIn K C_Unlike [.type "ValueError", .type "Exception", .type "BaseException", .type "object"] "ValueError.__new__" = true):Rt K mg:=⟨sE X G n_BadClaim x_BadClaim X2,sE X G n_BadWay x_BadWay X2,sE X G n_BadWeights x_BadWeights X2,sE X G n_NoFraction x_NoFraction X2,sE X G n_Outside x_Outside X2,sE X G n_TooMany x_TooMany X2,sE X G n_Unlike x_Unlike X2⟩
theorem zNT{K:Fg_}{h:Heap}{mg:Str->Option Value}{C_Outside:Addr}(X:K.In h)(G:h.Ns mainGlobals mg)
  (n_Outside:PySem.W.nsIn K mainGlobals "Outside" = some (some (.ref C_Outside)))
  (g5:PySem.W.specialIn K (.builtin "object.__class__") "__get__" = some (some (.builtin "getset_descriptor.__get__")))
  (g6:PySem.W.takesIn K (.builtin "object.__class__")=some true)
  (e1_Outside:PySem.W.hasDictIn K C_Outside=true)
  (e2_Outside:PySem.W.findIn K (.ref C_Outside) "__getattribute__" = some (some (.builtin "BaseException.__getattribute__")))
  (e3_Outside:PySem.W.findIn K (.ref C_Outside) "__getattr__" = some none)
  (e4_Outside:PySem.W.findIn K (.ref C_Outside) "__class__" = some (some (.builtin "object.__class__")))
  (e7_Outside:PySem.W.mroIn K C_Outside (.type "object")=some true)
  (e8_Outside:PySem.W.mroIn K C_Outside (.type "BaseException")=some true)
  (cx_Outside:PySem.W.typeIn K (.ref C_Outside)=some (.type "type"))
  (eo_Outside:PySem.W.mroIn K C_Outside (.ref C_Outside)=some true):Et K mg:=by
 refine⟨⟨C_Outside,C_Outside,Q8 X G n_Outside,Q8 X G n_Outside,(zMa e1_Outside e2_Outside e3_Outside e4_Outside g5 g6 e7_Outside e8_Outside),zMM cx_Outside e1_Outside e8_Outside,eo_Outside⟩⟩
section
variable(P:Program)(w:World){K:Fg_}{mg:Str->Option Value}(base:Heap)(k:Nat){f:Addr}{fd:FuncData}
theorem zEf:RankDef gA:=⟨rfl,rfl,rfl,rfl,rfl,fun _ _ _=>⟨_,_,rfl,rfl,rfl⟩⟩
section
variable(B:Bt mg)(KT:Kt K)(C:Ct K mg)(R:Rt K mg)(ET:Et K mg)
include B KT C R ET
theorem pS(F:Fn K mg "common_divisor" fV ["one","two"] f fd):CanM P w K mg base (k+1) "common_divisor" ["one","two"] dA:=
  fM F bY fun W WR=>(aC (s_z 0 bY.nd (aW yF zDW rfl B.abs boot_abs (bL 0)))
 (aC (s_z 1 bY.nd (aW yF zDW rfl B.abs boot_abs (bL 1)))
 (aC (zEp W.own (tst (neA W.u) zKR (aK 1) bC (aZ _)) (aC (s_z 2 bY.nd (aN bD dP (aK 0) (aK 1)))
 (aC (s_z 0 bY.nd (aK 1))
 (aG (s_z 1 bY.nd (aK 2))))))
 (aG (cB (aK 0))))))
theorem zHU(F:Fn K mg "whole" zBi ["number"] f fd):CanM P w K mg base (k+1) "whole" ["number"] bW:=
 fM F zIc fun W WR=>(aG (cB (eU (aA (aK 0) (aA bC aI cE) aH))))
theorem zJv(F:Fn K mg "less" zFw ["one","two"] f fd):CanM P w K mg base (k+1) "less" ["one","two"] lK:=
 fM F zJX fun W WR=>(aG (cB (sO tM zGL (aN cA gM (fY 0) (fY 1)) (aN cA gM (fY 1) (fY 0)) (aZ _))))
theorem zGF(F:Fn K mg "ranked" gA ["some"] f fd){T:Addr}(hT:nN K mg T)(hB:BMn base mg):CanR P w K mg base (k+1) lW:=
 zJc F oR zEf hT hB B.sorted B.range B.len rfl fun cdv A outer s H E G W WR=>⟨(s_z 1 oR.nd bC),(jJ W.own W.calm (mD (aK 0)) (g_z 2 oR.nd) bK (aG (s_z 1 oR.nd (aN cA gM (aK 1) (fY 2)))))⟩
theorem wP(F:Fn K mg "refuse_way" kK ["way"] f fd):CanM P w K mg base (k+1) "refuse_way" ["way"] cJ:=
 fM F xF fun W WR=>(aG (kC (zHW C.CONTRARY.choose_spec rfl (aK 0) (by with_unfolding_all rfl)) (aG (iQ W WR R.BadWay rfl zDR)) bO))
theorem qV(F:Fn K mg "refuse_claims" gX ["claims"] f fd):CanM P w K mg base (k+1) "refuse_claims" ["claims"] dM:=
  fM F jY fun W WR=>(aC (kC (tst (eqA W.u) yH (aW aO dS rfl B.len Qx (bL 0)) bC (aZ _)) (aG (iQ W WR R.BadClaim rfl zDR)) bO)
 (aG (jJ W.own W.calm (mD (aK 0)) (g_z 1 jY.nd) bK (aG (kC (tst tM zGL (aK 1) bC (aZ _)) (aG (iQ W WR R.BadClaim rfl zDR)) bO)))))
theorem pX(F:Fn K mg "refuse_weights" fX ["way","weights","many"] f fd):CanM P w K mg base (k+1) "refuse_weights" ["way","weights","many"] aU:=
  fM F fA fun W WR=>(aC (s_z 3 fA.nd (zKe (tst (inA W.u) zOG (aK 0) (fH rfl C.WEIGHTED) (by with_unfolding_all rfl)) (aK 2) bC))
 (aC (kC (tst (neA W.u) zKR (aW aO dS rfl B.len Qx (bL 1)) (aK 3) (aZ _)) (aG (iQ W WR R.BadWeights rfl zDR)) bO)
 (aG (jJ W.own W.calm (mD (aK 1)) (g_z 4 fA.nd) bK (aG (kC (PWd.pt (zKa (tst tM zGL (aK 4) bC (aZ _)) (zDj (tst wF zHR (aK 4) (aN gO rN bC bC) (aZ _))))) (aG (iQ W WR R.BadWeights rfl zDR)) bO))))))
theorem zJM(F:Fn K mg "boat" zEB ["claim"] f fd):CanM P w K mg base (k+1) "boat" ["claim"] zAE:=
  fM F zJh fun W WR=>(aC (kC (PWd.pt (zKa (tst tM zGL (aK 0) bC (aZ _)) (zDj (tst wF zHR (aK 0) (aN gO rN bC bC) (aZ _))))) (aG (iQ W WR R.BadClaim rfl zDR)) bO)
 (aG (cB (eU (aA (fH rfl C.BOAT) (bL 0) aH)))))
theorem zDB(F:Fn K mg "is_boat" sL ["custom"] f fd):CanM P w K mg base (k+1) "is_boat" ["custom"] bV:=
 fM F zDl fun W WR=>(aG (cB (sO (eqA W.u) yH (fY 0) (fH rfl C.BOAT) (aZ _))))
theorem zFI(F:Fn K mg "way_of" wO ["custom"] f fd):CanM P w K mg base (k+1) "way_of" ["custom"] hU:=
 fM F zGi fun W WR=>(aG (cB (fY 0)))
theorem yD(F:Fn K mg "weights_of" lD ["custom"] f fd):CanM P w K mg base (k+1) "weights_of" ["custom"] cS:=
 fM F wG fun W WR=>(aG (cB (fY 0)))
theorem tW(F:Fn K mg "_law_cell_at" jS ["script","k"] f fd):CanM P w K mg base (k+1) "_law_cell_at" ["script","k"] cY:=
  fM F tO fun W WR=>(aC (kC (tst tM zGL (aK 1) (aW aO dS rfl B.len Qx (bL 0)) (aZ _)) (aG (cB (uF (aK 0) 1))) bO)
 (aG (cB bC)))
theorem wT(F:Fn K mg "_law_shared" lH ["one","two"] f fd):CanM P w K mg base (k+1) "_law_shared" ["one","two"] fN:=
  fM F gC fun W WR=>(aC (zEp W.own (tst wF zHR (aK 1) bC (aZ _)) (aC (s_z 2 gC.nd (aN bD dP (aK 0) (aK 1)))
 (aC (s_z 0 gC.nd (aK 1))
 (aG (s_z 1 gC.nd (aK 2))))))
 (aG (cB (aK 0))))
theorem zBo(F:Fn K mg "_law_less" oY ["one","two"] f fd):CanM P w K mg base (k+1) "_law_less" ["one","two"] dO:=
 fM F zBL fun W WR=>(aG (cB (sO tM zGL (aN cA gM (fY 0) (fY 1)) (aN cA gM (fY 1) (fY 0)) (aZ _))))
theorem zAe(F:Fn K mg "_law_claim" mY ["cell","kind"] f fd):CanM P w K mg base (k+1) "_law_claim" ["cell","kind"] gW:=
  fM F qC fun W WR=>(aC (s_z 2 qC.nd (PEf.d (cZ (aA (aN bD dP (aN bM eZ (aK 0) bC) bC) (aA (aN bD dP (aN bM eZ (aK 0) bC) bC) (aA (aN bD dP (aN bM eZ (aK 0) bC) (aN cN gZ (aN gO rN bC bC) bC)) (aA (aN cA gM (aN bD dP (aN bM eZ (aK 0) bC) bC) (aN gO rN bC bC)) aI aS) aS) aS) aS))))
 (aG (cB (zD fW zIC (aK 2) (aN bD dP (aN cN gZ (aK 1) (aN bM eZ (aN bD dP (aK 0) bC) bC)) bC) (fun _ _=>rfl)))))
theorem vW(F:Fn K mg "_law_folded" lJ ["script","start","many"] f fd):CanM P w K mg base (k+1) "_law_folded" ["script","start","many"] fO:=
  fM F jT fun W WR=>(aC (uH (i:=3) jT.nd rfl (Or.inl rfl) (cZ aI))
 (aC (jJ W.own W.calm (mD (PEf.d (zDY (PEf.d (cZ (aA bC aI cE))) (PEf.d (wE (aK 0) (tE (aK 1)) zBa))))) (g_z 4 jT.nd) bK (aG (kC (PTd.frz (tst tM zGL (aW aO dS rfl B.len Qx (bL 3)) (aK 2) (aZ _))) (aG (zEU (i:=3) (pv 3) (aK 4))) (aG (zLU (i:=3) (pv 3) (pv 3) bC bC (aK 4) (aN gO rN bC bC))))))
 (aG (jL 3 (pv 3)))))
theorem zKh(F:Fn K mg "made" zFj ["top","bottom"] f fd)(Wu:CanM P w K mg base k "common_divisor" ["one","two"] dA):CanM P w K mg base (k+1) "made" ["top","bottom"] gQ:=
  fM F zBE fun W WR=>(aC (kC (tst (eqA W.u) yH (aK 1) bC (aZ _)) (aG (iQ W WR R.NoFraction rfl zDR)) bO)
 (aC (s_z 2 zBE.nd (aF W Wu rfl (aA (aK 0) (bL 1) aH)))
 (aC (kC (tst tM zGL (aK 1) bC (aZ _)) (aG (s_z 2 zBE.nd (zEo (aK 2)))) bO)
 (aG (cB (eU (aA (aN bM eZ (aK 0) (aK 2)) (aA (aN bM eZ (aK 1) (aK 2)) aI aS) aS)))))))
theorem zGq(F:Fn K mg "lesser" wV ["one","two"] f fd)(Qbe:CanM P w K mg base k "less" ["one","two"] lK):CanM P w K mg base (k+1) "lesser" ["one","two"] jP:=
 fM F zGz fun W WR=>(aG (cB (zKe (zDi (aF W Qbe rfl (aA (aK 0) (bL 1) aH))) (aK 0) (aK 1))))
theorem wL(F:Fn K mg "is_outside" kO ["amount","most"] f fd)(Qbe:CanM P w K mg base k "less" ["one","two"] lK):CanM P w K mg base (k+1) "is_outside" ["amount","most"] cG:=
 fM F vY fun W WR=>(aG (cB (zOq (aF W Qbe rfl (aA (aK 0) (aA (fH rfl C.NOUGHT) aI aH) aH)) (zII (aF W Qbe rfl (aA (aK 1) (bL 0) aH))))))
theorem zEy(F:Fn K mg "looked" xE ["way","weights","claims"] f fd)(W8:CanM P w K mg base k "refuse_way" ["way"] cJ)(Wx:CanM P w K mg base k "refuse_claims" ["claims"] dM)(Ww:CanM P w K mg base k "refuse_weights" ["way","weights","many"] aU):CanM P w K mg base (k+1) "looked" ["way","weights","claims"] nU:=
  fM F zDS fun W WR=>(aC (oD (aF W W8 rfl (bL 0)))
 (aC (oD (aF W Wx rfl (bL 2)))
 (aG (oD (aF W Ww rfl (aA (aK 0) (aA (aK 1) (aA (aW aO dS rfl B.len Qx (bL 2)) aI aJ) aH) aH))))))
theorem zDu(F:Fn K mg "kids_of" sG ["custom"] f fd)(Qaw:CanM P w K mg base k "is_boat" ["custom"] bV):CanM P w K mg base (k+1) "kids_of" ["custom"] aY:=
 fM F zDA fun W WR=>(aG (cB (zKe (zDi (aF W Qaw rfl (bL 0))) (eU aI) (fY 0))))
theorem zAZ(F:Fn K mg "_law_frac" pA ["top","bottom"] f fd)(W7:CanM P w K mg base k "_law_shared" ["one","two"] fN):CanM P w K mg base (k+1) "_law_frac" ["top","bottom"] cP:=
  fM F sR fun W WR=>(aC (s_z 2 sR.nd (aF W W7 rfl (aA (aW yF zDW rfl B.abs boot_abs (bL 0)) (bL 1) aJ)))
 (aG (cB (eU (aA (aN bM eZ (aK 0) (aK 2)) (aA (aN bM eZ (aK 1) (aK 2)) aI aS) aS)))))
theorem zKb(F:Fn K mg "plus" zFP ["one","two"] f fd)(Qbb:CanM P w K mg base k "made" ["top","bottom"] gQ):CanM P w K mg base (k+1) "plus" ["one","two"] jU:=
 fM F zKM fun W WR=>(aG (cB (aF W Qbb rfl (aA (aN cN gZ (aN cA gM (fY 0) (fY 1)) (aN cA gM (fY 1) (fY 0))) (aA (aN cA gM (fY 0) (fY 1)) aI aS) aS))))
theorem zHc(F:Fn K mg "minus" zBX ["one","two"] f fd)(Qbb:CanM P w K mg base k "made" ["top","bottom"] gQ):CanM P w K mg base (k+1) "minus" ["one","two"] gJ:=
 fM F zHT fun W WR=>(aG (cB (aF W Qbb rfl (aA (aN zCq zHa (aN cA gM (fY 0) (fY 1)) (aN cA gM (fY 1) (fY 0))) (aA (aN cA gM (fY 0) (fY 1)) aI aS) aS))))
theorem zHC(F:Fn K mg "times" zBR ["one","two"] f fd)(Qbb:CanM P w K mg base k "made" ["top","bottom"] gQ):CanM P w K mg base (k+1) "times" ["one","two"] jD:=
 fM F zHD fun W WR=>(aG (cB (aF W Qbb rfl (aA (aN cA gM (fY 0) (fY 1)) (aA (aN cA gM (fY 0) (fY 1)) aI aS) aS))))
theorem zKI(F:Fn K mg "over" zFF ["one","two"] f fd)(Qbb:CanM P w K mg base k "made" ["top","bottom"] gQ):CanM P w K mg base (k+1) "over" ["one","two"] rS:=
 fM F zKv fun W WR=>(aG (cB (aF W Qbb rfl (aA (aN cA gM (fY 0) (fY 1)) (aA (aN cA gM (fY 0) (fY 1)) aI aS) aS))))
theorem pN(F:Fn K mg "refuse_outside" fU ["amount","most"] f fd)(Qai:CanM P w K mg base k "is_outside" ["amount","most"] cG):CanM P w K mg base (k+1) "refuse_outside" ["amount","most"] bF:=
 fM F pY fun W WR=>(aG (kC (zDi (aF W Qai rfl (aA (aK 0) (bL 1) aH))) (aG (iQ W WR R.Outside rfl zDR)) bO))
theorem zAB(F:Fn K mg "levels_of" jF ["weights","claims"] f fd)(Qbb:CanM P w K mg base k "made" ["top","bottom"] gQ):CanM P w K mg base (k+1) "levels_of" ["weights","claims"] fB:=
 fM F zAH fun W WR=>(aG (hZ (zAM (N:=["weights","claims"]) W (by decide +kernel) rfl (sc:=aE jF) rfl rfl (by decide +kernel) (zKf rfl B.zip (aA (aK 1) (bL 0) aH)) (fun C2 s2 H2 fp2 G W=>(aF W Qbb rfl (aA (aK 2) (bL 3) aH))))))
theorem zBC(F:Fn K mg "_law_plus" pZ ["one","two"] f fd)(Qap:CanM P w K mg base k "_law_frac" ["top","bottom"] cP):CanM P w K mg base (k+1) "_law_plus" ["one","two"] bE:=
 fM F zBO fun W WR=>(aG (cB (aF W Qap rfl (aA (aN cN gZ (aN cA gM (fY 0) (fY 1)) (aN cA gM (fY 1) (fY 0))) (aA (aN cA gM (fY 0) (fY 1)) aI aS) aS))))
theorem zAx(F:Fn K mg "_law_catch" mU ["claim","cell"] f fd)(Qap:CanM P w K mg base k "_law_frac" ["top","bottom"] cP):CanM P w K mg base (k+1) "_law_catch" ["claim","cell"] cK:=
  fM F lI fun W WR=>(aC (s_z 1 lI.nd (aN bD dP (aK 1) (aN gO rN bC bC)))
 (aC (s_z 2 lI.nd (zD fW zIC (PEf.d (cZ (aA bC (aA bC (aA bC (aA bC (aA (aN cN gZ bC (aN bD dP (aN bM eZ (aK 1) bC) bC)) aI aS) cE) cE) cE) cE))) (aN bD dP (aK 1) bC) (fun _ _=>rfl)))
 (aG (cB (aF W Qap rfl (aA (aN bD dP (aN bM eZ (aK 1) bC) (aN cN gZ (aN cA gM (aK 0) (aK 2)) bC)) (bL 2) aS))))))
theorem zHF(F:Fn K mg "total" zBM ["some"] f fd)(Qbc:CanM P w K mg base k "plus" ["one","two"] jU):CanM P w K mg base (k+1) "total" ["some"] jM:=
  fM F rF fun W WR=>(aC (s_z 1 rF.nd (fH rfl C.NOUGHT))
 (aC (jJ W.own W.calm (mD (aK 0)) (g_z 2 rF.nd) bK (aG (s_z 1 rF.nd (aF W Qbc rfl (aA (aK 1) (bL 2) aH)))))
 (aG (cB (aK 1)))))
theorem yW(F:Fn K mg "row_dealt" mX ["claims","catch"] f fd)(Qa5:CanM P w K mg base k "lesser" ["one","two"] jP)(Qa9:CanM P w K mg base k "minus" ["one","two"] gJ)(Qba:CanM P w K mg base k "whole" ["number"] bW):CanM P w K mg base (k+1) "row_dealt" ["claims","catch"] fE:=
  fM F eN fun W WR=>(aC (s_z 2 eN.nd (aK 1))
 (aC (uH (i:=3) eN.nd rfl (Or.inl rfl) (cZ aI))
 (aC (jJ W.own W.calm (mD (aK 0)) (g_z 4 eN.nd) bK (aC (s_z 5 eN.nd (aF W Qa5 rfl (aA (aK 2) (aA (aF W Qba rfl (bL 4)) aI aJ) aH)))
 (aC (zEU (i:=3) (pv 3) (aK 5))
 (aG (s_z 2 eN.nd (aF W Qa9 rfl (aA (aK 2) (bL 5) aH)))))))
 (aG (jL 3 (pv 3))))))
theorem xQ(F:Fn K mg "even_dealt" lG ["weights","claims","catch"] f fd)(Qa3:CanR P w K mg base k lW)(Qak:CanM P w K mg base k "levels_of" ["weights","claims"] fB)(Qbd:CanM P w K mg base k "over" ["one","two"] rS)(Qa5:CanM P w K mg base k "lesser" ["one","two"] jP)(Qa9:CanM P w K mg base k "minus" ["one","two"] gJ)(Qa8:CanM P w K mg base k "times" ["one","two"] jD)(Qba:CanM P w K mg base k "whole" ["number"] bW):CanM P w K mg base (k+1) "even_dealt" ["weights","claims","catch"] cT:=
  fM F cI fun W WR=>(aC (s_z 3 cI.nd (aK 2))
 (aC (s_z 4 cI.nd (aW (jN W.calm) rP rfl B.sum gY (bL 0)))
 (aC (uH (i:=5) cI.nd rfl (Or.inl rfl) (zFa (cZ (aA (fH rfl C.NOUGHT) aI aH)) (aW aO dS rfl B.len Qx (bL 1))))
 (zJK W Qa3 zNZ zLa rfl (aA (PEf.d (bT W Qak rfl (aA (aK 0) (bL 1) aH))) aI aJ) (g_z 6 cI.nd) bK (aC (s_z 7 cI.nd (aF W Qbd rfl (aA (aF W Qa8 rfl (aA (aK 3) (aA (aF W Qba rfl (aA (uF (aK 0) 6) aI bI)) aI aJ) aH)) (aA (aF W Qba rfl (bL 4)) aI aJ) aJ)))
 (aC (zEj (i:=5) (pv 5) (aK 6) (aF W Qa5 rfl (aA (aK 7) (aA (aF W Qba rfl (aA (uF (aK 1) 6) aI bI)) aI aJ) aH)))
 (aC (s_z 3 cI.nd (PEd.frz (aF W Qa9 rfl (aA (aK 3) (aA (uF (aK 5) 6) aI bI) aH))))
 (aG (zOz (i:=4) cI.nd rfl (Or.inl rfl) (uF (aK 0) 6) zMJ zKD zGY))))) (aG (jL 5 (pv 5)))))))
theorem wK(F:Fn K mg "part_dealt" iD ["claims","catch"] f fd)(Qbd:CanM P w K mg base k "over" ["one","two"] rS)(Qba:CanM P w K mg base k "whole" ["number"] bW)(Qa8:CanM P w K mg base k "times" ["one","two"] jD):CanM P w K mg base (k+1) "part_dealt" ["claims","catch"] eM:=
  fM F gD fun W WR=>(aC (s_z 2 gD.nd (aW (jN W.calm) rP rfl B.sum gY (bL 0)))
 (aC (kC (tst (eqA W.u) yH (aK 2) bC (aZ _)) (aG (hZ (zFa (cZ (aA (fH rfl C.NOUGHT) aI aH)) (aW aO dS rfl B.len Qx (bL 0))))) bO)
 (aC (s_z 3 gD.nd (aF W Qbd rfl (aA (aK 1) (aA (aF W Qba rfl (bL 2)) aI aJ) aH)))
 (aG (hZ (oT W gD.nd rfl (sc:=aE iD) rfl rfl (by decide +kernel) (mD (aK 0)) (fun C2 s2 H2 fp2 G W=>⟨zCl,(aF W Qa8 rfl (aA (aK 3) (aA (aF W Qba rfl (bL 4)) aI aJ) aH))⟩)))))))
theorem zDE(F:Fn K mg "_law_sum" rW ["some"] f fd)(Qat:CanM P w K mg base k "_law_plus" ["one","two"] bE):CanM P w K mg base (k+1) "_law_sum" ["some"] kX:=
  fM F lN fun W WR=>(aC (s_z 1 lN.nd (eU (aA bC (aA bC aI cE) cE)))
 (aC (jJ W.own W.calm (mD (aK 0)) (g_z 2 lN.nd) bK (aG (s_z 1 lN.nd (aF W Qat rfl (aA (aK 1) (bL 2) aH)))))
 (aG (cB (aK 1)))))
theorem wW(F:Fn K mg "half_dealt" iL ["claims","catch"] f fd)(Qa8:CanM P w K mg base k "times" ["one","two"] jD)(Qad:CanM P w K mg base k "even_dealt" ["weights","claims","catch"] cT)(Qbc:CanM P w K mg base k "plus" ["one","two"] jU):CanM P w K mg base (k+1) "half_dealt" ["claims","catch"] eD:=
  fM F jI fun W WR=>(aC (s_z 2 jI.nd (PEf.d (zFa (cZ (aA bC aI cE)) (aW aO dS rfl B.len Qx (bL 0)))))
 (aG (hZ (oT W jI.nd rfl (sc:=aE iL) rfl rfl (by decide +kernel) (mD (PEf.d (bT W Qad rfl (aA (aK 2) (aA (aK 0) (aA (aF W Qbc rfl (aA (aK 1) (bL 1) aH)) aI aJ) aH) aH)))) (fun C2 s2 H2 fp2 G W=>⟨zCl,(aF W Qa8 rfl (aA (aK 3) (aA (fH rfl C.HALF) aI aH) aH))⟩)))))
theorem qX{r:Mir}(F:Fn K mg "rightly_dealt" dG ["way","weights","claims","catch"] f fd)(Qba:CanM P w K mg base k "whole" ["number"] bW)(Qaj:CanM P w K mg base k "row_dealt" ["claims","catch"] fE)(Qad:CanM P w K mg base k "even_dealt" ["weights","claims","catch"] cT)(Qaf:CanM P w K mg base k "part_dealt" ["claims","catch"] eM)(Qaa:CanM P w K mg base k "half_dealt" ["claims","catch"] eD)(Qa9:CanM P w K mg base k "minus" ["one","two"] gJ)(Qbe:CanM P w K mg base k "less" ["one","two"] lK)(Qbc:CanM P w K mg base k "plus" ["one","two"] jU)(W3:CanM P w K mg base k "rightly_dealt" ["way","weights","claims","catch"] r):CanM P w K mg base (k+1) "rightly_dealt" ["way","weights","claims","catch"] (aP r):=
  fM F dX fun W WR=>(aC (s_z 4 dX.nd (aF W Qba rfl (aA (aW (jN W.calm) rP rfl B.sum gY (bL 2)) aI aJ)))
 (aC (kC (tst (eqA W.u) yH (aK 0) (sP iA fun _=>.str _) (aZ _)) (aG (hZ (bT W Qaj rfl (aA (aK 2) (bL 3) aH)))) bO)
 (aC (kC (tst (eqA W.u) yH (aK 0) (sP iA fun _=>.str _) (aZ _)) (aG (hZ (bT W Qad rfl (aA (aK 1) (aA (aK 2) (bL 3) aH) aH)))) bO)
 (aC (kC (tst (eqA W.u) yH (aK 0) (sP iA fun _=>.str _) (aZ _)) (aG (hZ (bT W Qaf rfl (aA (aK 2) (bL 3) aH)))) bO)
 (aC (kC (PWd.pt (zGy (tst (eqA W.u) yH (aK 0) (sP iA fun _=>.str _) (aZ _)) (zCd (zOw (zDi (aF W Qbe rfl (aA (aK 4) (aA (aF W Qbc rfl (aA (aK 3) (bL 3) aH)) aI aJ) aH))))))) (aG (hZ (bT W Qaa rfl (aA (aK 2) (bL 3) aH)))) bO)
 (aC (s_z 5 dX.nd (PEf.d (bT W W3 rfl (aA (zMy C.CONTRARY.choose_spec rfl (aK 0) (fun _ _=>rfl)) (aA (aK 1) (aA (aK 2) (aA (aF W Qa9 rfl (aA (aK 4) (bL 3) aH)) aI aJ) aH) aH) bI))))
 (aG (hZ (zAM (N:=["way","weights","claims","catch","most","lacking"]) W (by decide +kernel) rfl (sc:=aE dG) rfl rfl (by decide +kernel) (zKf rfl B.zip (aA (aK 2) (bL 5) aH)) (fun C2 s2 H2 fp2 G W=>(aF W Qa9 rfl (aA (aF W Qba rfl (bL 6)) (bL 7) aJ))))))))))))
theorem kB(F:Fn K mg "rightly_dealt" dG ["way","weights","claims","catch"] f fd)(Qba:CanM P w K mg base k "whole" ["number"] bW)(Qaj:CanM P w K mg base k "row_dealt" ["claims","catch"] fE)(Qad:CanM P w K mg base k "even_dealt" ["weights","claims","catch"] cT)(Qaf:CanM P w K mg base k "part_dealt" ["claims","catch"] eM)(Qaa:CanM P w K mg base k "half_dealt" ["claims","catch"] eD)(Qa9:CanM P w K mg base k "minus" ["one","two"] gJ)(Qbe:CanM P w K mg base k "less" ["one","two"] lK)(Qbc:CanM P w K mg base k "plus" ["one","two"] jU):∀ n:Nat,CanM P w K mg base (k+1+n) "rightly_dealt" ["way","weights","claims","catch"] (aL n)
 | 0=>nF F dX fun cdv A outer s H E G W WR=>zDG
 | n+1=>qX _ _ _ (k+1+n) B KT C R ET F (Qba:=Qba.mono (by omega)) (Qaj:=Qaj.mono (by omega)) (Qad:=Qad.mono (by omega)) (Qaf:=Qaf.mono (by omega)) (Qaa:=Qaa.mono (by omega)) (Qa9:=Qa9.mono (by omega)) (Qbe:=Qbe.mono (by omega)) (Qbc:=Qbc.mono (by omega)) (W3:=kB F (Qba:=Qba) (Qaj:=Qaj) (Qad:=Qad) (Qaf:=Qaf) (Qaa:=Qaa) (Qa9:=Qa9) (Qbe:=Qbe) (Qbc:=Qbc) n)
theorem zHz(F:Fn K mg "dealt" zBY ["way","weights","claims","catch"] f fd)(Qa2:CanM P w K mg base k "looked" ["way","weights","claims"] nU)(Wv:CanM P w K mg base k "refuse_outside" ["amount","most"] bF)(W3:CanM P w K mg base k "rightly_dealt" ["way","weights","claims","catch"] (aL 2))(Qba:CanM P w K mg base k "whole" ["number"] bW):CanM P w K mg base (k+1) "dealt" ["way","weights","claims","catch"] iN:=
  fM F zHH fun W WR=>(aC (oD (aF W Qa2 rfl (aA (aK 0) (aA (aK 1) (bL 2) aH) aH)))
 (aC (oD (aF W Wv rfl (aA (aK 3) (aA (aF W Qba rfl (aA (aW (jN W.calm) rP rfl B.sum gY (bL 2)) aI aJ)) aI aJ) aH)))
 (aG (hZ (bT W W3 rfl (aA (aK 0) (aA (aK 1) (aA (aK 2) (bL 3) aH) aH) aH))))))
theorem vR{r:Mir}(F:Fn K mg "_law_claims" iB ["custom"] f fd)(Qac:CanM P w K mg base k "_law_claims" ["custom"] r):CanM P w K mg base (k+1) "_law_claims" ["custom"] (iF r):=
  fM F eT fun W WR=>(aC (kC (tst (eqA W.u) yH (fY 0) (sP iA fun _=>.str _) (aZ _)) (aG (cB (PEf.d (cZ (aA (fY 0) aI bI))))) bO)
 (aC (s_z 1 eT.nd (PEf.d (cZ aI)))
 (aC (jJ W.own W.calm (mD (fY 0)) (g_z 2 eT.nd) bK (aG (s_z 1 eT.nd (PEf.d (zDY (aK 1) (aF W Qac rfl (bL 2)))))))
 (aG (cB (aK 1))))))
theorem nI(F:Fn K mg "_law_claims" iB ["custom"] f fd)  : ∀ n:Nat,CanM P w K mg base (k+1+n) "_law_claims" ["custom"] (cU n)
 | 0=>nF F eT fun cdv A outer s H E G W WR=>zDG
 | n+1=>vR _ _ _ (k+1+n) B KT C R ET F  (Qac:=nI F  n)
theorem zX{r:Mir}(F:Fn K mg "claims_of" jH ["custom"] f fd)(Qaw:CanM P w K mg base k "is_boat" ["custom"] bV)(Qaz:CanM P w K mg base k "kids_of" ["custom"] aY)(Qal:CanM P w K mg base k "claims_of" ["custom"] r):CanM P w K mg base (k+1) "claims_of" ["custom"] (jO r):=
  fM F hJ fun W WR=>(aC (kC (zDi (aF W Qaw rfl (bL 0))) (aG (hZ (cZ (aA (fY 0) aI bI)))) bO)
 (aC (uH (i:=1) hJ.nd rfl (Or.inl rfl) (cZ aI))
 (aC (jJ W.own W.calm (mD (aF W Qaz rfl (bL 0))) (g_z 2 hJ.nd) bK (aG (zKY (i:=1) (pv 1) (bT W Qal rfl (bL 2)))))
 (aG (jL 1 (pv 1))))))
theorem qB(F:Fn K mg "claims_of" jH ["custom"] f fd)(Qaw:CanM P w K mg base k "is_boat" ["custom"] bV)(Qaz:CanM P w K mg base k "kids_of" ["custom"] aY):∀ n:Nat,CanM P w K mg base (k+1+n) "claims_of" ["custom"] (bH n)
 | 0=>nF F hJ fun cdv A outer s H E G W WR=>zDG
 | n+1=>zX _ _ _ (k+1+n) B KT C R ET F (Qaw:=Qaw.mono (by omega)) (Qaz:=Qaz.mono (by omega)) (Qal:=qB F (Qaw:=Qaw) (Qaz:=Qaz) n)
theorem zDJ{r:Mir}(F:Fn K mg "deep_of" lB ["custom"] f fd)(Qaz:CanM P w K mg base k "kids_of" ["custom"] aY)(Qax:CanM P w K mg base k "deep_of" ["custom"] r):CanM P w K mg base (k+1) "deep_of" ["custom"] (oG r):=
 fM F pG fun W WR=>(aG (cB (aN cN gZ bC (zKH W.calm rfl B.max (PEf.d (oT W pG.nd rfl (sc:=aE lB) rfl rfl (by decide +kernel) (mD (aF W Qaz rfl (bL 0))) (fun C2 s2 H2 fp2 G W=>⟨zCl,(aF W Qax rfl (bL 1))⟩))) bC))))
theorem vH(F:Fn K mg "deep_of" lB ["custom"] f fd)(Qaz:CanM P w K mg base k "kids_of" ["custom"] aY):∀ n:Nat,CanM P w K mg base (k+1+n) "deep_of" ["custom"] (gG n)
 | 0=>nF F pG fun cdv A outer s H E G W WR=>zDG
 | n+1=>zDJ _ _ _ (k+1+n) B KT C R ET F (Qaz:=Qaz.mono (by omega)) (Qax:=vH F (Qaz:=Qaz) n)
theorem zKO(F:Fn K mg "knot" zEZ ["way","weights","kids"] f fd)(W8:CanM P w K mg base k "refuse_way" ["way"] cJ)(Ww:CanM P w K mg base k "refuse_weights" ["way","weights","many"] aU)(Qax:CanM P w K mg base k "deep_of" ["custom"] (gG 10))(Qal:CanM P w K mg base k "claims_of" ["custom"] (bH 10)):CanM P w K mg base (k+1) "knot" ["way","weights","kids"] zAv:=
  fM F zGx fun W WR=>(aC (oD (aF W W8 rfl (bL 0)))
 (aC (oD (aF W Ww rfl (aA (aK 0) (aA (aK 1) (aA (aW aO dS rfl B.len Qx (bL 2)) aI aJ) aH) aH)))
 (aC (s_z 3 zGx.nd (eU (aA (aK 0) (aA (zI nH zIH rfl B.tuple boot_tuple (bL 1)) (aA (zI nH zIH rfl B.tuple boot_tuple (bL 2)) aI aJ) aJ) aH)))
 (aC (kC (PWd.pt (zKa (tst (eqA W.u) yH (aW aO dS rfl B.len Qx (bL 2)) bC (aZ _)) (zKa (tst wF zHR (aW aO dS rfl B.len Qx (aA (PEf.d (bT W Qal rfl (bL 3))) aI aJ)) (fH rfl C.MOST_BOATS) (aZ _)) (zDj (tst wF zHR (aF W Qax rfl (bL 3)) (fH rfl C.DEEPEST) (aZ _)))))) (aG (iQ W WR R.TooMany rfl zDR)) bO)
 (aG (cB (aK 3)))))))
theorem zBc(F:Fn K mg "claim_of" pL ["custom"] f fd)(Qal:CanM P w K mg base k "claims_of" ["custom"] (bH 10)):CanM P w K mg base (k+1) "claim_of" ["custom"] dC:=
 fM F zBW fun W WR=>(aG (cB (aW (jN W.calm) rP rfl B.sum gY (aA (PEf.d (bT W Qal rfl (bL 0))) aI aJ))))
theorem zEO(F:Fn K mg "by_kid" wJ ["custom","some"] f fd)(Qaz:CanM P w K mg base k "kids_of" ["custom"] aY)(Qal:CanM P w K mg base k "claims_of" ["custom"] (bH 10)):CanM P w K mg base (k+1) "by_kid" ["custom","some"] iE:=
  fM F jA fun W WR=>(aC (uH (i:=2) jA.nd rfl (Or.inl rfl) (cZ aI))
 (aC (s_z 3 jA.nd bC)
 (aC (jJ W.own W.calm (mD (aF W Qaz rfl (bL 0))) (g_z 4 jA.nd) bK (aC (s_z 5 jA.nd (aN cN gZ (aK 3) (aW aO dS rfl B.len Qx (aA (PEf.d (bT W Qal rfl (bL 4))) aI aJ))))
 (aC (zEU (i:=2) (pv 2) (zGl (aK 1) (tE (aK 3)) (tE (aK 5))))
 (aG (s_z 3 jA.nd (aK 5))))))
 (aG (jL 2 (pv 2))))))
theorem qU(F:Fn K mg "refuse_unlike" gP ["custom","amounts"] f fd)(Qal:CanM P w K mg base k "claims_of" ["custom"] (bH 10)):CanM P w K mg base (k+1) "refuse_unlike" ["custom","amounts"] dH:=
 fM F rA fun W WR=>(aG (kC (tst (neA W.u) zKR (aW aO dS rfl B.len Qx (bL 1)) (aW aO dS rfl B.len Qx (aA (PEf.d (bT W Qal rfl (bL 0))) aI aJ)) (aZ _)) (aG (iQ W WR R.Unlike rfl zDR)) bO))
theorem vX(F:Fn K mg "kid_claims" iC ["custom"] f fd)(Qav:CanM P w K mg base k "claim_of" ["custom"] dC)(Qaz:CanM P w K mg base k "kids_of" ["custom"] aY):CanM P w K mg base (k+1) "kid_claims" ["custom"] eI:=
 fM F nV fun W WR=>(aG (hZ (oT W nV.nd rfl (sc:=aE iC) rfl rfl (by decide +kernel) (mD (aF W Qaz rfl (bL 0))) (fun C2 s2 H2 fp2 G W=>⟨zCl,(aF W Qav rfl (bL 1))⟩))))
theorem zBk(F:Fn K mg "is_wrong" pC ["custom","amounts","one","other"] f fd)(Qa4:CanM P w K mg base k "by_kid" ["custom","some"] iE)(Qaz:CanM P w K mg base k "kids_of" ["custom"] aY)(W6:CanM P w K mg base k "weights_of" ["custom"] cS)(Qa6:CanM P w K mg base k "total" ["some"] jM)(Qav:CanM P w K mg base k "claim_of" ["custom"] dC)(Qa7:CanM P w K mg base k "dealt" ["way","weights","claims","catch"] iN)(Qa1:CanM P w K mg base k "way_of" ["custom"] hU)(Qbc:CanM P w K mg base k "plus" ["one","two"] jU):CanM P w K mg base (k+1) "is_wrong" ["custom","amounts","one","other"] iW:=
  fM F dL fun W WR=>(aC (s_z 4 dL.nd (PEf.d (bT W Qa4 rfl (aA (aK 0) (bL 1) aH))))
 (aC (s_z 5 dL.nd (PEf.d (cZ (aA (aF W Qa6 rfl (aA (uF (aK 4) 2) aI bI)) (aA (aF W Qa6 rfl (aA (uF (aK 4) 3) aI bI)) aI aJ) aJ))))
 (aC (s_z 6 dL.nd (aF W Qaz rfl (bL 0)))
 (aC (s_z 7 dL.nd (PEf.d (cZ (aA (aF W Qav rfl (aA (uF (aK 6) 2) aI bI)) (aA (aF W Qav rfl (aA (uF (aK 6) 3) aI bI)) aI aJ) aJ))))
 (aC (s_z 8 dL.nd (aF W W6 rfl (bL 0)))
 (aC (kC (tst wF zHR (aW aO dS rfl B.len Qx (bL 8)) bC (aZ _)) (aG (s_z 8 dL.nd (PEf.d (cZ (aA (uF (aK 8) 2) (aA (uF (aK 8) 3) aI bI) bI))))) bO)
 (aC (zMv W zFd ET.co_Outside rfl (zOB (zOD (i:=9) dL.nd rfl (Or.inl rfl) W Qa7 rfl (have W:=W.nox;(aA (aF W Qa1 rfl (bL 0)) (aA (aK 8) (aA (aK 7) (aA (aF W Qbc rfl (aA (fY 5) (aA (fY 5) aI bI) bI)) aI aJ) aH) aH) aJ)))) (fun ea W=>(aG (cB (sP zHu fun _=>.bl _)))))
 (aG (cB (sO (neA W.u) zKR (aK 9) (aK 5) (aZ _)))))))))))
theorem zBr(F:Fn K mg "_law_knot" oW ["cell","kids"] f fd)(Qbf:CanM P w K mg base k "knot" ["way","weights","kids"] zAv):CanM P w K mg base (k+1) "_law_knot" ["cell","kids"] fG:=
  fM F dZ fun W WR=>(aC (s_z 2 dZ.nd (zD fW zIC (PEf.d (cZ (aA (sP iA fun _=>.str _) (aA (sP iA fun _=>.str _) (aA (sP iA fun _=>.str _) (aA (sP iA fun _=>.str _) (aA (sP iA fun _=>.str _) zDR cE) cE) cE) cE) cE))) (aN bD dP (aK 0) bC) (fun _ _=>rfl)))
 (aC (uH (i:=3) dZ.nd rfl (Or.inl rfl) (cZ aI))
 (aC (kC (tst (inA W.u) zOG (aK 2) (eU (aA (sP iA fun _=>.str _) zDR cE)) (by with_unfolding_all rfl)) (aC (s_z 4 dZ.nd (zD fW zIC (PEf.d (cZ (aA bC (aA bC (aA bC (aA (aN gO rN bC bC) aI aS) cE) cE) cE))) (aN bD dP (aN bM eZ (aK 0) bC) bC) (fun _ _=>rfl)))
 (aC (s_z 5 dZ.nd (aN bM eZ (aK 0) bC))
 (aG (jJ W.own W.calm (mD (aK 1)) (g_z 6 dZ.nd) bK (aC (zEU (i:=3) (pv 3) (aN cN gZ bC (aN bD dP (aK 5) (aK 4))))
 (aG (s_z 5 dZ.nd (aN bM eZ (aK 5) bC)))))))) bO)
 (dF.frzAt 3 (aG (cB (aF W Qbf rfl (aA (aK 2) (aA (aK 3) (bL 1) aH) aH))))))))
theorem zBe(F:Fn K mg "own_pair" pK ["custom","amounts","path"] f fd)(Qaz:CanM P w K mg base k "kids_of" ["custom"] aY)(Qaq:CanM P w K mg base k "is_wrong" ["custom","amounts","one","other"] iW):CanM P w K mg base (k+1) "own_pair" ["custom","amounts","path"] eH:=
  fM F jE fun W WR=>(aC (s_z 3 jE.nd (aW aO dS rfl B.len Qx (aA (aF W Qaz rfl (bL 0)) aI aJ)))
 (aC (jJ W.own W.calm (zCz rfl B.range (bL 3)) (g_z 4 jE.nd) bK (aG (jJ W.own W.calm (zLA rfl B.range (aA (aN cN gZ (aK 4) bC) (bL 3) aS)) (g_z 5 jE.nd) bK (aG (kC (zDi (aF W Qaq rfl (aA (aK 0) (aA (aK 1) (aA (aK 4) (bL 5) aH) aH) aH))) (aG (cB (eU (aA (fH rfl C.PAIR) (aA (aK 2) (aA (aK 4) (bL 5) aH) aH) aH)))) bO)))))
 (aG (cB (sP vA fun _=>.non)))))
theorem yA(F:Fn K mg "_law_custom" kR ["script"] f fd)(W5:CanM P w K mg base k "_law_cell_at" ["script","k"] cY)(Qau:CanM P w K mg base k "_law_knot" ["cell","kids"] fG)(Qbg:CanM P w K mg base k "boat" ["claim"] zAE)(Qan:CanM P w K mg base k "_law_claim" ["cell","kind"] gW):CanM P w K mg base (k+1) "_law_custom" ["script"] fQ:=
  fM F bG fun W WR=>(aC (s_z 1 bG.nd (aN bD dP (aF W W5 rfl (aA (aK 0) (aA bC aI cE) aH)) (aN gO rN bC bC)))
 (aC (uH (i:=2) bG.nd rfl (Or.inl rfl) (cZ aI))
 (aC (s_z 3 bG.nd bC)
 (aC (s_z 4 bG.nd (aN cN gZ bC (aN bD dP (aK 1) bC)))
 (aC (kC (tst (eqA W.u) yH (aN bD dP (aN bM eZ (aK 1) bC) bC) bC (aZ _)) (aG (s_z 4 bG.nd (aN cN gZ (aK 4) bC))) bO)
 (aC (jJ W.own W.calm (zCz rfl B.range (bL 4)) (g_z 5 bG.nd) bK (aC (s_z 6 bG.nd (aN bD dP (aF W W5 rfl (aA (aK 0) (aA (aN cN gZ bC (aK 5)) aI aS) aH)) (aN gO rN bC bC)))
 (aC (zEU (i:=2) (pv 2) (aF W Qbg rfl (aA (aF W Qan rfl (aA (aK 6) (aA (aN bD dP (aN bM eZ (aK 1) bC) bC) aI aS) aH)) aI aJ)))
 (aC (s_z 7 bG.nd (aN bD dP (aF W W5 rfl (aA (aK 0) (aA (aN cN gZ bC (aK 5)) aI aS) aH)) (aN gO rN bC bC)))
 (aG (kC (PWd.pt (zGy (tst (eqA W.u) yH (aN bD dP (aK 7) bC) bC (aZ _)) (zCd (tst tM zGL (aK 3) bC (aZ _))))) (aC (s_z 3 bG.nd (aN cN gZ (aK 3) bC))
 (aC (s_z 8 bG.nd (PEd.frz (aN cN gZ bC (aN bD dP (aN bM eZ (aK 7) bC) (aW (zFh W.calm) zLR rfl B.min boot_min (aA bC (aA (aW aO dS rfl B.len Qx (bL 2)) aI aJ) cE))))))
 (aG (uH (i:=2) bG.nd rfl (Or.inl rfl) (PEf.frz (zDY (PEf.d (wE (aK 2) zBa (tE (zEo (aK 8))))) (PEf.d (cZ (aA (aF W Qau rfl (aA (aN bM eZ (aK 7) bC) (aA (PEf.d (wE (aK 2) (tE (zEo (aK 8))) zBa)) aI bI) aS)) aI aJ))))))))) bO))))))
 (dF.frzAt 2 (aC (kC (PWd.pt (zKa (tst wF zHR (aW aO dS rfl B.len Qx (bL 2)) bC (aZ _)) (zDj (tst wF zHR (aN bD dP (aN bM eZ (aK 1) bC) bC) bC (aZ _))))) (aG (cB (aF W Qau rfl (aA (aN bM eZ (aK 1) bC) (bL 2) aS)))) bO)
 (aG (cB (fY 2)))))))))))
theorem zBp{r:Mir}(F:Fn K mg "dealt_on" lV ["custom","catch"] f fd)(Qaw:CanM P w K mg base k "is_boat" ["custom"] bV)(Qa7:CanM P w K mg base k "dealt" ["way","weights","claims","catch"] iN)(Qa1:CanM P w K mg base k "way_of" ["custom"] hU)(W6:CanM P w K mg base k "weights_of" ["custom"] cS)(Qag:CanM P w K mg base k "kid_claims" ["custom"] eI)(Qaz:CanM P w K mg base k "kids_of" ["custom"] aY)(Qar:CanM P w K mg base k "dealt_on" ["custom","catch"] r):CanM P w K mg base (k+1) "dealt_on" ["custom","catch"] (gF r):=
  fM F fI fun W WR=>(aC (kC (zDi (aF W Qaw rfl (bL 0))) (aG (hZ (cZ (bL 1)))) bO)
 (aC (s_z 2 fI.nd (PEf.d (bT W Qa7 rfl (aA (aF W Qa1 rfl (bL 0)) (aA (aF W W6 rfl (bL 0)) (aA (PEf.d (bT W Qag rfl (bL 0))) (bL 1) aJ) aJ) aJ))))
 (aC (uH (i:=3) fI.nd rfl (Or.inl rfl) (cZ aI))
 (aC (jJ W.own W.calm (zKf rfl B.zip (aA (aF W Qaz rfl (bL 0)) (bL 2) aJ)) (zIY W.calm (pD (g_z 4 fI.nd) (pD (g_z 5 fI.nd) zEF)) (oU (oU zFV))) (zBG (lS bK (lS bK zBd))) (aG (zKY (i:=3) (pv 3) (bT W Qar rfl (aA (aK 4) (bL 5) aH)))))
 (aG (jL 3 (pv 3)))))))
theorem rY(F:Fn K mg "dealt_on" lV ["custom","catch"] f fd)(Qaw:CanM P w K mg base k "is_boat" ["custom"] bV)(Qa7:CanM P w K mg base k "dealt" ["way","weights","claims","catch"] iN)(Qa1:CanM P w K mg base k "way_of" ["custom"] hU)(W6:CanM P w K mg base k "weights_of" ["custom"] cS)(Qag:CanM P w K mg base k "kid_claims" ["custom"] eI)(Qaz:CanM P w K mg base k "kids_of" ["custom"] aY):∀ n:Nat,CanM P w K mg base (k+1+n) "dealt_on" ["custom","catch"] (eG n)
 | 0=>nF F fI fun cdv A outer s H E G W WR=>zDG
 | n+1=>zBp _ _ _ (k+1+n) B KT C R ET F (Qaw:=Qaw.mono (by omega)) (Qa7:=Qa7.mono (by omega)) (Qa1:=Qa1.mono (by omega)) (W6:=W6.mono (by omega)) (Qag:=Qag.mono (by omega)) (Qaz:=Qaz.mono (by omega)) (Qar:=rY F (Qaw:=Qaw) (Qa7:=Qa7) (Qa1:=Qa1) (W6:=W6) (Qag:=Qag) (Qaz:=Qaz) n)
theorem zFJ(F:Fn K mg "shares" vU ["custom","catch"] f fd)(Wv:CanM P w K mg base k "refuse_outside" ["amount","most"] bF)(Qar:CanM P w K mg base k "dealt_on" ["custom","catch"] (eG 10))(Qba:CanM P w K mg base k "whole" ["number"] bW)(Qav:CanM P w K mg base k "claim_of" ["custom"] dC):CanM P w K mg base (k+1) "shares" ["custom","catch"] iJ:=
  fM F zEr fun W WR=>(aC (oD (aF W Wv rfl (aA (aK 1) (aA (aF W Qba rfl (aA (aF W Qav rfl (bL 0)) aI aJ)) aI aJ) aH)))
 (aG (hZ (bT W Qar rfl (aA (aK 0) (bL 1) aH)))))
theorem xO{r:Mir}(F:Fn K mg "first_pair" iK ["custom","amounts","path"] f fd)(Qaw:CanM P w K mg base k "is_boat" ["custom"] bV)(Qao:CanM P w K mg base k "own_pair" ["custom","amounts","path"] eH)(Qa4:CanM P w K mg base k "by_kid" ["custom","some"] iE)(Qaz:CanM P w K mg base k "kids_of" ["custom"] aY)(Qab:CanM P w K mg base k "first_pair" ["custom","amounts","path"] r):CanM P w K mg base (k+1) "first_pair" ["custom","amounts","path"] (cH r):=
  fM F cX fun W WR=>(aC (kC (zDi (aF W Qaw rfl (bL 0))) (aG (cB (sP vA fun _=>.non))) bO)
 (aC (s_z 3 cX.nd (aF W Qao rfl (aA (aK 0) (aA (aK 1) (bL 2) aH) aH)))
 (aC (kC (xZ (aK 3) vA (aZ _)) (aG (cB (aK 3))) bO)
 (aC (s_z 4 cX.nd (PEf.d (bT W Qa4 rfl (aA (aK 0) (bL 1) aH))))
 (aC (jJ W.own W.calm (zIJ rfl B.enumerate (aF W Qaz rfl (bL 0))) (zIY W.calm (pD (g_z 5 cX.nd) (pD (g_z 6 cX.nd) zEF)) (oU (oU zFV))) (zBG (lS bK (lS bK zBd))) (aC (s_z 3 cX.nd (aF W Qab rfl (aA (aK 6) (aA (uF (aK 4) 5) (aA (aN cN gZ (aK 2) (eU (bL 5))) aI aS) bI) aH)))
 (aG (kC (xZ (aK 3) vA (aZ _)) (aG (cB (aK 3))) bO))))
 (aG (cB (sP vA fun _=>.non))))))))
theorem nS(F:Fn K mg "first_pair" iK ["custom","amounts","path"] f fd)(Qaw:CanM P w K mg base k "is_boat" ["custom"] bV)(Qao:CanM P w K mg base k "own_pair" ["custom","amounts","path"] eH)(Qa4:CanM P w K mg base k "by_kid" ["custom","some"] iE)(Qaz:CanM P w K mg base k "kids_of" ["custom"] aY):∀ n:Nat,CanM P w K mg base (k+1+n) "first_pair" ["custom","amounts","path"] (bA n)
 | 0=>nF F cX fun cdv A outer s H E G W WR=>zDG
 | n+1=>xO _ _ _ (k+1+n) B KT C R ET F (Qaw:=Qaw.mono (by omega)) (Qao:=Qao.mono (by omega)) (Qa4:=Qa4.mono (by omega)) (Qaz:=Qaz.mono (by omega)) (Qab:=nS F (Qaw:=Qaw) (Qao:=Qao) (Qa4:=Qa4) (Qaz:=Qaz) n)
theorem xW(F:Fn K mg "found_back" kT ["custom","amounts"] f fd)(Wz:CanM P w K mg base k "refuse_unlike" ["custom","amounts"] dH)(Qab:CanM P w K mg base k "first_pair" ["custom","amounts","path"] (bA 10))(Qal:CanM P w K mg base k "claims_of" ["custom"] (bH 10))(Qai:CanM P w K mg base k "is_outside" ["amount","most"] cG)(Qa6:CanM P w K mg base k "total" ["some"] jM)(Qba:CanM P w K mg base k "whole" ["number"] bW):CanM P w K mg base (k+1) "found_back" ["custom","amounts"] bS:=
  fM F gE fun W WR=>(aC (oD (aF W Wz rfl (aA (aK 0) (bL 1) aH)))
 (aC (jJ W.own W.calm (zIJ rfl B.enumerate (PEf.d (bT W Qal rfl (bL 0)))) (zIY W.calm (pD (g_z 2 gE.nd) (pD (g_z 3 gE.nd) zEF)) (oU (oU zFV))) (zBG (lS bK (lS bK zBd))) (aG (kC (zDi (aF W Qai rfl (aA (uF (aK 1) 2) (aA (aF W Qba rfl (bL 3)) aI aJ) bI))) (aG (cB (eU (aA (fH rfl C.OVER) (bL 2) aH)))) bO)))
 (aC (s_z 4 gE.nd (aF W Qab rfl (aA (aK 0) (aA (aK 1) (aA (eU aI) aI oB) aH) aH)))
 (aC (kC (xZ (aK 4) vA (aZ _)) (aG (cB (aK 4))) bO)
 (aG (cB (eU (aA (fH rfl C.CATCH) (aA (aF W Qa6 rfl (bL 1)) aI aJ) aH))))))))
theorem uP(F:Fn K mg "_law_amounts" jR ["custom","cell"] f fd)(Qac:CanM P w K mg base k "_law_claims" ["custom"] (cU 10))(Qa0:CanM P w K mg base k "shares" ["custom","catch"] iJ)(Qap:CanM P w K mg base k "_law_frac" ["top","bottom"] cP)(Qam:CanM P w K mg base k "_law_catch" ["claim","cell"] cK)(Qat:CanM P w K mg base k "_law_plus" ["one","two"] bE):CanM P w K mg base (k+1) "_law_amounts" ["custom","cell"] eS:=
  fM F bX fun W WR=>(aC (s_z 1 bX.nd (aN bD dP (aK 1) (aN gO rN bC bC)))
 (aC (s_z 2 bX.nd (aF W Qac rfl (bL 0)))
 (aC (uH (i:=3) bX.nd rfl (Or.inl rfl) (bT W Qa0 rfl (aA (aK 0) (aA (aF W Qam rfl (aA (aW (jN W.calm) rP rfl B.sum gY (bL 2)) (aA (aN bM eZ (aK 1) bC) aI aS) aJ)) aI aJ) aH)))
 (aC (s_z 4 bX.nd (aN bD dP (aK 1) bC))
 (aC (s_z 5 bX.nd (aN bD dP (aN bM eZ (aK 1) bC) (aW aO dS rfl B.len Qx (bL 2))))
 (aC (s_z 6 bX.nd (aN bD dP (aN bM eZ (aK 1) bC) (aW aO dS rfl B.len Qx (bL 2))))
 (aC (s_z 7 bX.nd (aF W Qap rfl (aA (aN cN gZ bC (aN bD dP (aN bM eZ (aK 1) bC) bC)) (aA (aN cN gZ bC (aN bD dP (aN bM eZ (aK 1) bC) bC)) aI aS) aS)))
 (aC (kC (tst wF zHR (aK 4) bC (aZ _)) (aC (zEj (i:=3) (pv 3) (aK 5) (PEd.frz (aF W Qat rfl (aA (uF (aK 3) 5) (bL 7) bI))))
 (aG (zEj (i:=3) (pv 3) (aK 6) (PEd.frz (aF W Qat rfl (aA (uF (aK 3) 6) (aA (eU (aA (aN zCq zHa bC (fY 7)) (aA (fY 7) aI bI) aS)) aI oB) bI)))))) bO)
 (aC (kC (tst (eqA W.u) yH (aK 4) bC (aZ _)) (aG (zEj (i:=3) (pv 3) (aK 5) (aF W Qam rfl (aA (uF (aK 2) 5) (aA (aN bM eZ (aK 1) bC) aI aS) bI)))) bO)
 (aC (kC (tst (eqA W.u) yH (aK 4) bC (aZ _)) (aG (zEj (i:=3) (pv 3) (aK 5) (PEd.frz (aF W Qat rfl (aA (uF (aK 3) 5) (aA (eU (aA (aN cA gM (uF (aK 2) 5) (zD fW zIC (PEf.d (cZ (aA bC (aA (aN zCq zHa bC bC) aI aS) cE))) (aN bD dP (aN bM eZ (aK 1) bC) bC) (fun _ _=>rfl))) (aA bC aI cE) aS)) aI oB) bI))))) bO)
 (aG (jL 3 (pv 3)))))))))))))
theorem zLP(F:Fn K mg "law" qY ["script"] f fd)(W9:CanM P w K mg base k "_law_custom" ["script"] fQ)(Qac:CanM P w K mg base k "_law_claims" ["custom"] (cU 10))(Qah:CanM P w K mg base k "_law_folded" ["script","start","many"] fO)(W4:CanM P w K mg base k "_law_amounts" ["custom","cell"] eS)(Qay:CanM P w K mg base k "_law_sum" ["some"] kX)(Qae:CanM P w K mg base k "found_back" ["custom","amounts"] bS)(Qat:CanM P w K mg base k "_law_plus" ["one","two"] bE)(Qa0:CanM P w K mg base k "shares" ["custom","catch"] iJ)(Qap:CanM P w K mg base k "_law_frac" ["top","bottom"] cP)(Qas:CanM P w K mg base k "_law_less" ["one","two"] dO):FnOk P w K mg base (CX1 P w) (k+1) f fd ["script"] (spM K mg 1 zKL):=
  zLE F jW fun cdv A outer s H E G W WR=>(aC (s_z 1 jW.nd (aF W W9 rfl (bL 0)))
 (aC (s_z 2 jW.nd (aF W Qac rfl (bL 1)))
 (aC (jJ W.own W.calm (mD (PEf.d (bT W Qah rfl (aA (aK 0) (aA bC (aA bC aI cE) cE) aH)))) (g_z 3 jW.nd) bK (aC (s_z 4 jW.nd (PEf.d (bT W W4 rfl (aA (aK 1) (bL 3) aH))))
 (aC (s_z 5 jW.nd (aF W Qay rfl (bL 4)))
 (aC (s_z 6 jW.nd (sO (eqA W.u) yH (PEf.d (oT W jW.nd rfl (sc:=aE qY) rfl rfl (by decide +kernel) (zCz rfl B.range (aA (aW aO dS rfl B.len Qx (bL 2)) aI aJ)) (fun C2 s2 H2 fp2 G W=>⟨(zNh (PWd.pt (zKa (tst tM zGL (zPa (uF (aK 4) 11)) bC (aZ _)) (zDj (zDi (aF W Qas rfl (aA (eU (aA (uF (aK 2) 11) (aA bC aI cE) bI)) (aA (uF (aK 4) 11) aI bI) oB))))))),(aK 11)⟩))) (PEf.d (cZ aI)) (aZ _)))
 (aC (s_z 7 jW.nd (zLZ (aK 6) (zII (sO (eqA W.u) yH (PEf.d (bT W Qa0 rfl (aA (aK 1) (bL 5) aH))) (aK 4) (aZ _)))))
 (aC (s_z 8 jW.nd (aF W Qae rfl (aA (aK 1) (aA (PEf.d (zIX rfl B.list boot_list (bL 4))) aI aJ) aH)))
 (aC (kC (PWd.pt (zKa (tst (neA W.u) zKR (sO (eqA W.u) yH (fY 8) (sP iA fun _=>.str _) (aZ _)) (aK 7) (aZ _)) (zDj (PWd.pt (zGy (zDi (aK 7)) (zCd (tst (neA W.u) zKR (aK 8) (eU (aA (sP iA fun _=>.str _) (bL 5) cE)) (aZ _)))))))) (aG (cB (sP zHu fun _=>.bl _))) bO)
 (aG (jJ W.own W.calm (zCz rfl B.range (aA bC aI cE)) (g_z 9 jW.nd) bK (aC (s_z 10 jW.nd (aF W Qat rfl (aA (aK 5) (aA (aF W Qap rfl (aA (aN zCq zHa (aK 9) bC) (aA (aN cN gZ bC (aN bD dP (aK 3) bC)) aI aS) aS)) aI aJ) aH)))
 (aG (kC (PWd.pt (zGy (zOw (zDi (aK 7))) (zGy (tst zOd zPc (fY 10) bC (aZ _)) (zCd (zOw (zDi (aF W Qas rfl (aA (eU (aA (aW (jN W.calm) rP rfl B.sum gY (bL 2)) (aA bC aI cE) aJ)) (bL 10) oB)))))))) (aG (kC (tst (eqA W.u) yH (PEf.d (bT W Qa0 rfl (aA (aK 1) (bL 10) aH))) (aK 4) (aZ _)) (aG (cB (sP zHu fun _=>.bl _))) bO)) bO))))))))))))
 (aG (cB (sP zHu fun _=>.bl _))))))
end
end
def FnK(K:PySem.W.Frag)(x:Str)(st:Stmt):Prop:=∃ f oc od sl kV dc pm an cd ct,PySem.W.nsIn K mainGlobals x=some (some (.ref f))/\K.lookup f=some ⟨oc,od,.func (PySem.W.fnOf x x (iR st) (eA st) (aE st) .none kV dc pm an cd ct),sl⟩/\PySem.W.codeIn K cd x=true/\PySem.W.keepIn K (.ref f)=true
theorem fk{K:Fg_}{h:Heap}{mg:Str->Option Value}{x:Str}{st:Stmt}(X:K.In h)(G:h.Ns mainGlobals mg)(d:FnK K x st)(ps:List Str)(hb:∀ (kV doc pm:Value) (an:Option Addr) (cdv ct:Value) (us:List Value),us.length=ps.length->bindArgs (PySem.W.fnOf x x (iR st) (eA st) (aE st) .none kV doc pm an cdv ct) ⟨us,[]⟩=pure (ps.zip us)):∃ f fd,Fn K mg x st ps f fd:=by
 obtain⟨f,oc,od,sl,kV,dc,pm,an,cd,ct,a,l,c,k⟩:=d;exact⟨f,_,uR (st:=st) l c k,(uR (st:=st) l c k).binds (ps:=ps) hb,k,Q8 X G a⟩
theorem fkm{K:Fg_}{x:Str}{st:Stmt}{f:Addr}{oc:Value}{od an:Option Addr}{sl:Array (Option Value)}{kV dc pm cd ct:Value}(a:PySem.W.nsIn K mainGlobals x=some (some (.ref f)))(l:K.lookup f=some ⟨oc,od,.func (PySem.W.fnOf x x (iR st) (eA st) (aE st) .none kV dc pm an cd ct),sl⟩)(c:PySem.W.codeIn K cd x=true)(k:PySem.W.keepIn K (.ref f)=true):FnK K x st:=⟨f,oc,od,sl,kV,dc,pm,an,cd,ct,a,l,c,k⟩
theorem zNc{l:PySem.W.OpenLaw}{w:World}{K:Fg_}{h:Heap}{mg:Str->Option Value}{fa f12 f55:Addr}(X:K.In h)(G:h.Ns mainGlobals mg)(hfa:mg "law" = some (.ref fa))
  {od12 an12:Option Addr} {sl12:Array (Option Value)} {oc12 kV12 dc12 pm12 ct12:Value}
  {od55 an55:Option Addr} {sl55:Array (Option Value)} {oc55 kV55 dc55 pm55 cd55 ct55:Value}
  (d0:FnK K "common_divisor" fV)
  (d1:FnK K "made" zFj)
  (d2:FnK K "whole" zBi)
  (d3:FnK K "plus" zFP)
  (d4:FnK K "minus" zBX)
  (d5:FnK K "times" zBR)
  (d6:FnK K "over" zFF)
  (d7:FnK K "less" zFw)
  (d8:FnK K "lesser" wV)
  (d9:FnK K "is_outside" kO)
  (d10:FnK K "refuse_outside" fU)
  (d11:FnK K "total" zBM)
  {cR T:Addr}
  (a12:PySem.W.nsIn K mainGlobals "ranked" = some (some (.ref f12))) (l12:K.lookup f12=some ⟨oc12,od12,.func (PySem.W.fnOf "ranked" "ranked" (iR gA) (eA gA) (aE gA) .none kV12 dc12 pm12 an12 (.ref cR) ct12),sl12⟩) (c12:PySem.W.codeIn K (.ref cR) "ranked" = true) (k12:PySem.W.keepIn K (.ref f12)=true)
  (tq:PySem.W.codeHdIn K cR T=true) (tn:K.lookup T=none)
  (d13:FnK K "looked" xE)
  (d14:FnK K "refuse_way" kK)
  (d15:FnK K "refuse_claims" gX)
  (d16:FnK K "refuse_weights" fX)
  (d17:FnK K "dealt" zBY)
  (d18:FnK K "rightly_dealt" dG)
  (d19:FnK K "row_dealt" mX)
  (d20:FnK K "even_dealt" lG)
  (d21:FnK K "levels_of" jF)
  (d22:FnK K "part_dealt" iD)
  (d23:FnK K "half_dealt" iL)
  (d24:FnK K "boat" zEB)
  (d25:FnK K "knot" zEZ)
  (d26:FnK K "is_boat" sL)
  (d27:FnK K "way_of" wO)
  (d28:FnK K "weights_of" lD)
  (d29:FnK K "kids_of" sG)
  (d30:FnK K "claims_of" jH)
  (d31:FnK K "claim_of" pL)
  (d32:FnK K "kid_claims" iC)
  (d33:FnK K "deep_of" lB)
  (d34:FnK K "by_kid" wJ)
  (d35:FnK K "shares" vU)
  (d36:FnK K "dealt_on" lV)
  (d37:FnK K "found_back" kT)
  (d38:FnK K "refuse_unlike" gP)
  (d39:FnK K "first_pair" iK)
  (d40:FnK K "own_pair" pK)
  (d41:FnK K "is_wrong" pC)
  (d42:FnK K "_law_cell_at" jS)
  (d43:FnK K "_law_shared" lH)
  (d44:FnK K "_law_frac" pA)
  (d45:FnK K "_law_plus" pZ)
  (d46:FnK K "_law_sum" rW)
  (d47:FnK K "_law_less" oY)
  (d48:FnK K "_law_claim" mY)
  (d49:FnK K "_law_knot" oW)
  (d50:FnK K "_law_custom" kR)
  (d51:FnK K "_law_claims" iB)
  (d52:FnK K "_law_catch" mU)
  (d53:FnK K "_law_amounts" jR)
  (d54:FnK K "_law_folded" lJ)
  (a55:PySem.W.nsIn K mainGlobals "law" = some (some (.ref f55))) (l55:K.lookup f55=some ⟨oc55,od55,.func (PySem.W.fnOf "law" "law" (iR qY) (eA qY) (aE qY) .none kV55 dc55 pm55 an55 cd55 ct55),sl55⟩) (c55:PySem.W.codeIn K cd55 "law" = true) (k55:PySem.W.keepIn K (.ref f55)=true)
  (z_abs:PySem.W.nsIn K mainGlobals "abs" = some none)
  (z_sorted:PySem.W.nsIn K mainGlobals "sorted" = some none)
  (z_range:PySem.W.nsIn K mainGlobals "range" = some none)
  (z_len:PySem.W.nsIn K mainGlobals "len" = some none)
  (z_sum:PySem.W.nsIn K mainGlobals "sum" = some none)
  (z_zip:PySem.W.nsIn K mainGlobals "zip" = some none)
  (z_tuple:PySem.W.nsIn K mainGlobals "tuple" = some none)
  (z_max:PySem.W.nsIn K mainGlobals "max" = some none)
  (z_enumerate:PySem.W.nsIn K mainGlobals "enumerate" = some none)
  (z_min:PySem.W.nsIn K mainGlobals "min" = some none)
  (z_list:PySem.W.nsIn K mainGlobals "list" = some none)
  (KT:Kt K) (CC:∀(h:Heap)(mg:Str->Option Value),K.In h->h.Ns mainGlobals mg->Ct K mg) (RR:∀(h:Heap)(mg:Str->Option Value),K.In h->h.Ns mainGlobals mg->Rt K mg) (EE:∀(h:Heap)(mg:Str->Option Value),K.In h->h.Ns mainGlobals mg->Et K mg)
  : K.lookup T=none/\nN K mg T/\∃ fd:FuncData,(∀(s:Shared)(v:Value),BindsTo s fd ⟨[v],[]⟩ [("script", v)])/\∀ base:Heap,K.In base->base.Ns mainGlobals mg->BMn base mg->FnOk l.prog w K mg base (CX1 l.prog w) 29 fa fd ["script"] (zNk K mg):=by
 have e:=hfa.symm.trans (Q8 X G a55);cases e;have B:Bt mg:=⟨Vx X G z_abs,Vx X G z_sorted,Vx X G z_range,Vx X G z_len,Vx X G z_sum,Vx X G z_zip,Vx X G z_tuple,Vx X G z_max,Vx X G z_enumerate,Vx X G z_min,Vx X G z_list⟩;have C:Ct K mg:=CC h mg X G;have R:Rt K mg:=RR h mg X G;have ET:Et K mg:=EE h mg X G;have hT:nN K mg T:=⟨f12,_,_,_,_,cR,Q8 X G a12,l12,rfl,fun h X=>PySem.W.codeHd_of_K X tq⟩
 refine⟨tn,hT,?_⟩
 refine⟨PySem.W.fnOf "law" "law" (iR qY) (eA qY) (aE qY) .none kV55 dc55 pm55 an55 cd55 ct55,fun s v=>.of_eq rfl,fun base _ _ hB=>?_⟩
 obtain⟨_,_,F0⟩:=fk X G d0 ["one","two"] (by walk_at "b")
 have Wu:=pS l.prog w base 0 B KT C R ET F0;obtain⟨_,_,F2⟩:=fk X G d2 ["number"] (by walk_at "b")
 have Qba:=zHU l.prog w base 0 B KT C R ET F2;obtain⟨_,_,F7⟩:=fk X G d7 ["one","two"] (by walk_at "b")
 have Qbe:=zJv l.prog w base 0 B KT C R ET F7;have F12:Fn K mg "ranked" gA ["some"] _ _:=⟨uR (st:=gA) l12 c12 k12,(uR (st:=gA) l12 c12 k12).binds (ps:=["some"]) (by walk_at "b"),k12,Q8 X G a12⟩
 have Qa3:=zGF l.prog w base 0 B KT C R ET F12 hT hB;obtain⟨_,_,F14⟩:=fk X G d14 ["way"] (by walk_at "b")
 have W8:=wP l.prog w base 0 B KT C R ET F14;obtain⟨_,_,F15⟩:=fk X G d15 ["claims"] (by walk_at "b")
 have Wx:=qV l.prog w base 0 B KT C R ET F15;obtain⟨_,_,F16⟩:=fk X G d16 ["way","weights","many"] (by walk_at "b")
 have Ww:=pX l.prog w base 0 B KT C R ET F16;obtain⟨_,_,F24⟩:=fk X G d24 ["claim"] (by walk_at "b")
 have Qbg:=zJM l.prog w base 0 B KT C R ET F24;obtain⟨_,_,F26⟩:=fk X G d26 ["custom"] (by walk_at "b")
 have Qaw:=zDB l.prog w base 0 B KT C R ET F26;obtain⟨_,_,F27⟩:=fk X G d27 ["custom"] (by walk_at "b")
 have Qa1:=zFI l.prog w base 0 B KT C R ET F27;obtain⟨_,_,F28⟩:=fk X G d28 ["custom"] (by walk_at "b")
 have W6:=yD l.prog w base 0 B KT C R ET F28;obtain⟨_,_,F42⟩:=fk X G d42 ["script","k"] (by walk_at "b")
 have W5:=tW l.prog w base 0 B KT C R ET F42;obtain⟨_,_,F43⟩:=fk X G d43 ["one","two"] (by walk_at "b")
 have W7:=wT l.prog w base 0 B KT C R ET F43;obtain⟨_,_,F47⟩:=fk X G d47 ["one","two"] (by walk_at "b")
 have Qas:=zBo l.prog w base 0 B KT C R ET F47;obtain⟨_,_,F48⟩:=fk X G d48 ["cell","kind"] (by walk_at "b")
 have Qan:=zAe l.prog w base 0 B KT C R ET F48;obtain⟨_,_,F54⟩:=fk X G d54 ["script","start","many"] (by walk_at "b")
 have Qah:=vW l.prog w base 0 B KT C R ET F54;obtain⟨_,_,F1⟩:=fk X G d1 ["top","bottom"] (by walk_at "b")
 have Qbb:=zKh l.prog w base 1 B KT C R ET F1 (Wu:=Wu.mo);obtain⟨_,_,F8⟩:=fk X G d8 ["one","two"] (by walk_at "b")
 have Qa5:=zGq l.prog w base 1 B KT C R ET F8 (Qbe:=Qbe.mo);obtain⟨_,_,F9⟩:=fk X G d9 ["amount","most"] (by walk_at "b")
 have Qai:=wL l.prog w base 1 B KT C R ET F9 (Qbe:=Qbe.mo);obtain⟨_,_,F13⟩:=fk X G d13 ["way","weights","claims"] (by walk_at "b")
 have Qa2:=zEy l.prog w base 1 B KT C R ET F13 (W8:=W8.mo) (Wx:=Wx.mo) (Ww:=Ww.mo);obtain⟨_,_,F29⟩:=fk X G d29 ["custom"] (by walk_at "b")
 have Qaz:=zDu l.prog w base 1 B KT C R ET F29 (Qaw:=Qaw.mo);obtain⟨_,_,F44⟩:=fk X G d44 ["top","bottom"] (by walk_at "b")
 have Qap:=zAZ l.prog w base 1 B KT C R ET F44 (W7:=W7.mo);obtain⟨_,_,F3⟩:=fk X G d3 ["one","two"] (by walk_at "b")
 have Qbc:=zKb l.prog w base 2 B KT C R ET F3 (Qbb:=Qbb.mo);obtain⟨_,_,F4⟩:=fk X G d4 ["one","two"] (by walk_at "b")
 have Qa9:=zHc l.prog w base 2 B KT C R ET F4 (Qbb:=Qbb.mo);obtain⟨_,_,F5⟩:=fk X G d5 ["one","two"] (by walk_at "b")
 have Qa8:=zHC l.prog w base 2 B KT C R ET F5 (Qbb:=Qbb.mo);obtain⟨_,_,F6⟩:=fk X G d6 ["one","two"] (by walk_at "b")
 have Qbd:=zKI l.prog w base 2 B KT C R ET F6 (Qbb:=Qbb.mo);obtain⟨_,_,F10⟩:=fk X G d10 ["amount","most"] (by walk_at "b")
 have Wv:=pN l.prog w base 2 B KT C R ET F10 (Qai:=Qai.mo);obtain⟨_,_,F21⟩:=fk X G d21 ["weights","claims"] (by walk_at "b")
 have Qak:=zAB l.prog w base 2 B KT C R ET F21 (Qbb:=Qbb.mo);obtain⟨_,_,F45⟩:=fk X G d45 ["one","two"] (by walk_at "b")
 have Qat:=zBC l.prog w base 2 B KT C R ET F45 (Qap:=Qap.mo);obtain⟨_,_,F52⟩:=fk X G d52 ["claim","cell"] (by walk_at "b")
 have Qam:=zAx l.prog w base 2 B KT C R ET F52 (Qap:=Qap.mo);obtain⟨_,_,F11⟩:=fk X G d11 ["some"] (by walk_at "b")
 have Qa6:=zHF l.prog w base 3 B KT C R ET F11 (Qbc:=Qbc.mo);obtain⟨_,_,F19⟩:=fk X G d19 ["claims","catch"] (by walk_at "b")
 have Qaj:=yW l.prog w base 3 B KT C R ET F19 (Qa5:=Qa5.mo) (Qa9:=Qa9.mo) (Qba:=Qba.mo);obtain⟨_,_,F20⟩:=fk X G d20 ["weights","claims","catch"] (by walk_at "b")
 have Qad:=xQ l.prog w base 3 B KT C R ET F20 (Qa3:=Qa3.mono (by decide)) (Qak:=Qak.mo) (Qbd:=Qbd.mo) (Qa5:=Qa5.mo) (Qa9:=Qa9.mo) (Qa8:=Qa8.mo) (Qba:=Qba.mo)
 obtain⟨_,_,F22⟩:=fk X G d22 ["claims","catch"] (by walk_at "b")
 have Qaf:=wK l.prog w base 3 B KT C R ET F22 (Qbd:=Qbd.mo) (Qba:=Qba.mo) (Qa8:=Qa8.mo);obtain⟨_,_,F46⟩:=fk X G d46 ["some"] (by walk_at "b")
 have Qay:=zDE l.prog w base 3 B KT C R ET F46 (Qat:=Qat.mo);obtain⟨_,_,F23⟩:=fk X G d23 ["claims","catch"] (by walk_at "b")
 have Qaa:=wW l.prog w base 4 B KT C R ET F23 (Qa8:=Qa8.mo) (Qad:=Qad.mo) (Qbc:=Qbc.mo);obtain⟨_,_,F18⟩:=fk X G d18 ["way","weights","claims","catch"] (by walk_at "b")
 have W3:=kB l.prog w base 5 B KT C R ET F18 (Qba:=Qba.mo) (Qaj:=Qaj.mo) (Qad:=Qad.mo) (Qaf:=Qaf.mo) (Qaa:=Qaa.mo) (Qa9:=Qa9.mo) (Qbe:=Qbe.mo) (Qbc:=Qbc.mo) 2;obtain⟨_,_,F17⟩:=fk X G d17 ["way","weights","claims","catch"] (by walk_at "b")
 have Qa7:=zHz l.prog w base 8 B KT C R ET F17 (Qa2:=Qa2.mo) (Wv:=Wv.mo) (W3:=W3.mo) (Qba:=Qba.mo);obtain⟨_,_,F51⟩:=fk X G d51 ["custom"] (by walk_at "b")
 have Qac:=nI l.prog w base 0 B KT C R ET F51  10;obtain⟨_,_,F30⟩:=fk X G d30 ["custom"] (by walk_at "b")
 have Qal:=qB l.prog w base 2 B KT C R ET F30 (Qaw:=Qaw.mo) (Qaz:=Qaz.mo) 10;obtain⟨_,_,F33⟩:=fk X G d33 ["custom"] (by walk_at "b")
 have Qax:=vH l.prog w base 2 B KT C R ET F33 (Qaz:=Qaz.mo) 10;obtain⟨_,_,F25⟩:=fk X G d25 ["way","weights","kids"] (by walk_at "b")
 have Qbf:=zKO l.prog w base 13 B KT C R ET F25 (W8:=W8.mo) (Ww:=Ww.mo) (Qax:=Qax.mo) (Qal:=Qal.mo);obtain⟨_,_,F31⟩:=fk X G d31 ["custom"] (by walk_at "b")
 have Qav:=zBc l.prog w base 13 B KT C R ET F31 (Qal:=Qal.mo);obtain⟨_,_,F34⟩:=fk X G d34 ["custom","some"] (by walk_at "b")
 have Qa4:=zEO l.prog w base 13 B KT C R ET F34 (Qaz:=Qaz.mo) (Qal:=Qal.mo);obtain⟨_,_,F38⟩:=fk X G d38 ["custom","amounts"] (by walk_at "b")
 have Wz:=qU l.prog w base 13 B KT C R ET F38 (Qal:=Qal.mo);obtain⟨_,_,F32⟩:=fk X G d32 ["custom"] (by walk_at "b")
 have Qag:=vX l.prog w base 14 B KT C R ET F32 (Qav:=Qav.mo) (Qaz:=Qaz.mo);obtain⟨_,_,F41⟩:=fk X G d41 ["custom","amounts","one","other"] (by walk_at "b")
 have Qaq:=zBk l.prog w base 14 B KT C R ET F41 (Qa4:=Qa4.mo) (Qaz:=Qaz.mo) (W6:=W6.mo) (Qa6:=Qa6.mo) (Qav:=Qav.mo) (Qa7:=Qa7.mo) (Qa1:=Qa1.mo) (Qbc:=Qbc.mo);obtain⟨_,_,F49⟩:=fk X G d49 ["cell","kids"] (by walk_at "b")
 have Qau:=zBr l.prog w base 14 B KT C R ET F49 (Qbf:=Qbf.mo);obtain⟨_,_,F40⟩:=fk X G d40 ["custom","amounts","path"] (by walk_at "b")
 have Qao:=zBe l.prog w base 15 B KT C R ET F40 (Qaz:=Qaz.mo) (Qaq:=Qaq.mo);obtain⟨_,_,F50⟩:=fk X G d50 ["script"] (by walk_at "b")
 have W9:=yA l.prog w base 15 B KT C R ET F50 (W5:=W5.mo) (Qau:=Qau.mo) (Qbg:=Qbg.mo) (Qan:=Qan.mo);obtain⟨_,_,F36⟩:=fk X G d36 ["custom","catch"] (by walk_at "b")
 have Qar:=rY l.prog w base 15 B KT C R ET F36 (Qaw:=Qaw.mo) (Qa7:=Qa7.mo) (Qa1:=Qa1.mo) (W6:=W6.mo) (Qag:=Qag.mo) (Qaz:=Qaz.mo) 10;obtain⟨_,_,F35⟩:=fk X G d35 ["custom","catch"] (by walk_at "b")
 have Qa0:=zFJ l.prog w base 26 B KT C R ET F35 (Wv:=Wv.mo) (Qar:=Qar.mo) (Qba:=Qba.mo) (Qav:=Qav.mo);obtain⟨_,_,F39⟩:=fk X G d39 ["custom","amounts","path"] (by walk_at "b")
 have Qab:=nS l.prog w base 16 B KT C R ET F39 (Qaw:=Qaw.mo) (Qao:=Qao.mo) (Qa4:=Qa4.mo) (Qaz:=Qaz.mo) 10;obtain⟨_,_,F37⟩:=fk X G d37 ["custom","amounts"] (by walk_at "b")
 have Qae:=xW l.prog w base 27 B KT C R ET F37 (Wz:=Wz.mo) (Qab:=Qab.mo) (Qal:=Qal.mo) (Qai:=Qai.mo) (Qa6:=Qa6.mo) (Qba:=Qba.mo);obtain⟨_,_,F53⟩:=fk X G d53 ["custom","cell"] (by walk_at "b")
 have W4:=uP l.prog w base 27 B KT C R ET F53 (Qac:=Qac.mo) (Qa0:=Qa0.mo) (Qap:=Qap.mo) (Qam:=Qam.mo) (Qat:=Qat.mo);have F55:Fn K mg "law" qY ["script"] _ _:=⟨uR (st:=qY) l55 c55 k55,(uR (st:=qY) l55 c55 k55).binds (ps:=["script"]) (by walk_at "b"),k55,Q8 X G a55⟩
 have Qbh:=zLP l.prog w base 28 B KT C R ET F55 (W9:=W9.mo) (Qac:=Qac.mo) (Qah:=Qah.mo) (W4:=W4.mo) (Qay:=Qay.mo) (Qae:=Qae.mo) (Qat:=Qat.mo) (Qa0:=Qa0.mo) (Qap:=Qap.mo) (Qas:=Qas.mo);exact zJb Qbh law_true
end Lw
open PySem PySem.W PyProof.Rows
local macro_rules | `(tactic| walk_at "fk")=>`(tactic| (refine' Lw.fkm ?a ?l ?c ?k;(case a=>k_is);(case l=>k_is);(case c=>k_is);(case k=>k_is)))
set_option maxRecDepth 100000 in
set_option maxHeartbeats 0 in
theorem PySem.Challenge.cw_catchhall_k49_whole_dealt_or_not_holds : PySem.Challenge.rw_catchhall_k49_whole_dealt_or_not.Holds := by
 w_on;o_law;k_head;(case hw=>w_witness2)
 k_fill
 refine L3.zOe (l:=PySem.Challenge.rw_catchhall_k49_whole_dealt_or_not) (k:=29) rfl rfl ⟨rfl,by decide,by decide⟩ (fun w h Y=>PySem.W.km_in_of Y) (fun w h Y=>PySem.W.km_tabs_of Y _ (.head _)) ?F
 case F=>
  intro w mg fa h KX G hmg
  refine' Lw.zNc KX G hmg ?d0 ?d1 ?d2 ?d3 ?d4 ?d5 ?d6 ?d7 ?d8 ?d9 ?d10 ?d11 ?a12 ?l12 ?c12 ?k12 ?tq ?tn ?d13 ?d14 ?d15 ?d16 ?d17 ?d18 ?d19 ?d20 ?d21 ?d22 ?d23 ?d24 ?d25 ?d26 ?d27 ?d28 ?d29 ?d30 ?d31 ?d32 ?d33 ?d34 ?d35 ?d36 ?d37 ?d38 ?d39 ?d40 ?d41 ?d42 ?d43 ?d44 ?d45 ?d46 ?d47 ?d48 ?d49 ?d50 ?d51 ?d52 ?d53 ?d54 ?a55 ?l55 ?c55 ?k55 ?z_abs ?z_sorted ?z_range ?z_len ?z_sum ?z_zip ?z_tuple ?z_max ?z_enumerate ?z_min ?z_list ?KT ?CC ?RR ?EE
  (case a12=>k_is)
  (case l12=>k_is)
  (case c12=>k_is)
  (case k12=>k_is)
  (case tq=>first | k_is | kernel_rfl | kn_code | decide +kernel)
  (case tn=>first | k_is | kernel_rfl | kn_code | decide +kernel)
  (case a55=>k_is)
  (case l55=>k_is)
  (case c55=>k_is)
  (case k55=>k_is)
  (case d0=>walk_at "fk")
  (case d1=>walk_at "fk")
  (case d2=>walk_at "fk")
  (case d3=>walk_at "fk")
  (case d4=>walk_at "fk")
  (case d5=>walk_at "fk")
  (case d6=>walk_at "fk")
  (case d7=>walk_at "fk")
  (case d8=>walk_at "fk")
  (case d9=>walk_at "fk")
  (case d10=>walk_at "fk")
  (case d11=>walk_at "fk")
  (case d13=>walk_at "fk")
  (case d14=>walk_at "fk")
  (case d15=>walk_at "fk")
  (case d16=>walk_at "fk")
  (case d17=>walk_at "fk")
  (case d18=>walk_at "fk")
  (case d19=>walk_at "fk")
  (case d20=>walk_at "fk")
  (case d21=>walk_at "fk")
  (case d22=>walk_at "fk")
  (case d23=>walk_at "fk")
  (case d24=>walk_at "fk")
  (case d25=>walk_at "fk")
  (case d26=>walk_at "fk")
  (case d27=>walk_at "fk")
  (case d28=>walk_at "fk")
  (case d29=>walk_at "fk")
  (case d30=>walk_at "fk")
  (case d31=>walk_at "fk")
  (case d32=>walk_at "fk")
  (case d33=>walk_at "fk")
  (case d34=>walk_at "fk")
  (case d35=>walk_at "fk")
  (case d36=>walk_at "fk")
  (case d37=>walk_at "fk")
  (case d38=>walk_at "fk")
  (case d39=>walk_at "fk")
  (case d40=>walk_at "fk")
  (case d41=>walk_at "fk")
  (case d42=>walk_at "fk")
  (case d43=>walk_at "fk")
  (case d44=>walk_at "fk")
  (case d45=>walk_at "fk")
  (case d46=>walk_at "fk")
  (case d47=>walk_at "fk")
  (case d48=>walk_at "fk")
  (case d49=>walk_at "fk")
  (case d50=>walk_at "fk")
  (case d51=>walk_at "fk")
  (case d52=>walk_at "fk")
  (case d53=>walk_at "fk")
  (case d54=>walk_at "fk")
  (case z_abs=>k_is)
  (case z_sorted=>k_is)
  (case z_range=>k_is)
  (case z_len=>k_is)
  (case z_sum=>k_is)
  (case z_zip=>k_is)
  (case z_tuple=>k_is)
  (case z_max=>k_is)
  (case z_enumerate=>k_is)
  (case z_min=>k_is)
  (case z_list=>k_is)
  (case KT=>refine' ⟨⟩<;>(first | kit_is | (show _=some true;kit_is) | (show _=some false;kit_is) | rfl | decide +kernel))
  (case CC=>
   intro h mg X G
   refine' Lw.zNS X G ?n_BOAT ?n_CATCH ?n_DEEPEST ?n_HALF ?pHALF0_l ?n_MOST_BOATS ?n_NOUGHT ?pNOUGHT1_l ?n_OVER ?n_PAIR ?n_WEIGHTED ?pWEIGHTED2_l ?n_CONTRARY ?aX<;>try first | k_is | kit_is | k_exc | rfl | decide +kernel | kernel_rfl)
  (case RR=>
   intro h mg X G
   refine' Lw.zNW X G ?n_BadClaim ?x_BadClaim ?n_BadWay ?x_BadWay ?n_BadWeights ?x_BadWeights ?n_NoFraction ?x_NoFraction ?n_Outside ?x_Outside ?n_TooMany ?x_TooMany ?n_Unlike ?x_Unlike<;>try first | k_is | kit_is | k_exc | rfl | decide +kernel | kernel_rfl)
  (case EE=>
   intro h mg X G
   refine' Lw.zNT X G ?n_Outside ?g5 ?g6 ?e1_Outside ?e2_Outside ?e3_Outside ?e4_Outside ?e7_Outside ?e8_Outside ?cx_Outside ?eo_Outside<;>try first | k_is | kit_is | k_exc | rfl | decide +kernel | kernel_rfl)
