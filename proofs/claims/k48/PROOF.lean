import PyProof.Rows.All
import Wide.All
import OpenK.AllK
import Wide.FinOn
import Lean
import PyProof.EqAt
import PyProof.EqKinds
import PyProof.TupleCall
import PyProof.NeKinds
import KE.KRevIter
import PyProof.Rows.SumAny
import PySem.Challenge.RW_catchhall_k48_whole_never_both
noncomputable section
set_option Elab.async false
set_option linter.all false
set_option maxRecDepth 100000
def Qb:=@Nat.le_refl
def Qc:=@List.mem_cons
def Qd:=@List.length_map
def Qe:=@List.mem_cons_of_mem
def Qf:=@List.mem_cons_self
def Qg:=@List.mem_of_getElem?
def Qh:=@List.size_toArray
def Qi:=@List.length_append
def Qj:=@List.map_cons
def Qk:=@List.getElem?_eq_getElem
def Ql:=@List.length_cons
def Qm:=@List.sum_cons
def Qn:=@Nat.lt_of_lt_of_le
def Qo:=@Nat.ne_of_lt
def Qp:=@Nat.le_trans
def Qq:=@List.getD_eq_getElem?_getD
def Qr:=@List.getElem?_map
def Qs:=@PySem.boot_len
def Qt:=@List.mem_range
def Qu:=@List.length_range
def Qv:=@List.mem_map
def Qw:=@List.map_append
def Qx:=@List.mem_append_right
def Qy:=@Int.emod_nonneg
def Qz:=@List.getElem?_eq_none
def Q0:=@List.mem_singleton
def Q2:=@List.getElem?_eq_some_iff
def Q3:=@List.append_nil
def Q4:=@List.map_map
def Q5:=@Nat.zero_add
def Q6:=@Rat.intCast_add
def Q7:=@Nat.zero_le
def Q8:=@List.not_mem_nil
def Q9:=@Int.emod_lt_of_pos
def Va:=@Int.natCast_nonneg
def Vb:=@List.length_set
def Vc:=@Int.toNat_natCast
def Vd:=@Rat.not_lt
def Ve:=@PySem.W.mg_of
def Vf:=@Rat.not_le
def Vg:=@Option.some.inj
def Vh:=@List.getElem?_set_self
def Vi:=@List.getElem?_set_ne
def Vj:=@Bool.and_eq_true
def Vk:=@Rat.le_refl
def Vl:=@List.getElem?_append_left
def Vm:=@Rat.intCast_le_intCast
def Vn:=@List.sum_nil
def Vo:=@List.flatMap_cons
def Vp:=@List.append_assoc
def Vq:=@List.map_nil
def Vr:=@List.flatMap_append
def Vs:=@List.getElem_mem
def Vt:=@Nat.lt_irrefl
def Vu:=@List.length_drop
def Vv:=@Nat.pow_le_pow_right
def Vw:=@Rat.intCast_mul
def Vx:=@Int.mul_one
def Vy:=@List.getElem?_append_right
def Vz:=@Bool.or_eq_true
def V0:=@List.lookup_cons
def V3:=@List.map_congr_left
def V4:=@List.sum_append
def V5:=@PySem.W.mg_none_of
def V6:=@List.mem_append
def V7:=@Rat.num_divInt_den
def V8:=@Nat.lt_of_le_of_lt
def V9:=@List.all_eq_true
def Xa:=@List.take_length
def Xb:=@List.range_succ
def Xc:=@Int.mul_pos
def Xd:=@List.length_take
def Xe:=@Nat.succ_le_succ
def Xf:=@Bool.false_eq_true
def Xg:=@Nat.lt_succ_of_lt
def Xh:=@Rat.le_of_lt
def Xi:=@Array.length_toList
def Xj:=@PySem.mem_of_lookup
def Xk:=@List.replicate_succ
def Xl:=@List.length_singleton
def Xm:=@Int.le_of_lt
def Xn:=@Int.mul_ne_zero
def Xo:=@List.getElem?_range
def Xp:=@Int.le_trans
def Xq:=@Int.natCast_add
def Xr:=@Rat.div_mul_cancel
def Xs:=@Int.mul_assoc
def Xt:=@Rat.add_zero
def Xu:=@List.cons.injEq
def Xv:=@Nat.le_of_lt
def Xw:=@List.mem_append_left
def Xx:=@List.nodup_cons
def Xy:=@List.length_replicate
def Xz:=@List.flatten_cons
def X0:=@Nat.le_of_eq
def X1:=@Int.add_mul
def X2:=@Int.mul_comm
def X3:=@Rat.mul_le_mul_of_nonneg_right
def X4:=@Rat.divInt_eq_div
def X5:=@Nat.lt_or_eq_of_le
def X6:=@PySem.F.excBase_ValueError
def X7:=@Bool.false_ne_true
def X8:=@Nat.ne_of_gt
def X9:=@PyProof.Rows.callWith_type1
def Yc:=@List.of_mem_zip
def Yd:=@List.take_succ
def Yf:=@List.length_nil
def Yg:=@Nat.min_self
def Yh:=@Nat.sub_self
def Yi:=@Nat.lt_succ_self
def Yj:=@Int.le_refl
def Yk:=@Rat.le_of_mul_le_mul_right
def Ym:=@List.take_append_drop
def Yn:=@List.map_id'
def Yo:=@List.mem_flatMap
def Yp:=@Nat.not_lt_zero
def Yq:=@List.mem_filter
def Yr:=@List.nil_append
def Ys:=@Int.pow_pos
def Yt:=@List.drop_eq_nil_of_le
def Yu:=@List.take_of_length_le
def Yv:=@List.ext_getElem?
def Yw:=@Nat.succ_pos
def Yy:=@Rat.mul_le_mul_of_nonneg_left
def Yz:=@List.flatMap_nil
def Y0:=@List.filterMap_cons
def Y1:=@PyProof.Rows.slot_tuple_getitem
def Y2:=@Nat.le_total
def Y3:=@Int.eq_ofNat_of_zero_le
def Y4:=@List.any_cons
def Y5:=@List.any_toArray
def Y6:=@PySem.F.plainAttrs_list
def Y7:=@List.forIn_cons
def Y8:=@Nat.succ.inj
def Y9:=@List.cons_append
def Ua:=@Bool.and_true
def Ub:=@Int.mul_nonneg
def Uc:=@Rat.le_total
def Ud:=@Rat.le_trans
def Ue:=@List.take_succ_cons
def Uf:=@List.mem_of_mem_take
def Ug:=@List.flatMap_def
def Uh:=@Int.ediv_nonneg
def Ui:=@Rat.mul_lt_mul_right
def Uj:=@List.length_flatMap
def Uk:=@PySem.W.hideAll_get
def Ul:=@List.mem_filterMap
def Um:=@List.getElem?_replicate
def Uo:=@PySem.F.slot_tuple_add
def Uq:=@PySem.F.entry_tuple_add
def Ur:=@PySem.F.args_tuple_add_2
def Us:=@Array.getElem?_toList
def Ut:=@Nat.add_comm
def Uu:=@Int.gcd_dvd_left
def Uv:=@Int.gcd_dvd_right
def Uw:=@Int.one_mul
def Ux:=@Rat.divInt_mul_divInt
def Uy:=@Nat.min_eq_left
def Uz:=@PySem.intBits_le_iff
def U0:=@List.eq_nil_of_length_eq_zero
def U1:=@List.drop_eq_getElem_cons
def U2:=@List.set_append_right
def U3:=@Nat.succ_ne_self
def U5:=@Nat.add_sub_cancel
def U6:=@Nat.sub_zero
def U7:=@List.toList_toArray
def U8:=@List.pairwise_map
def U9:=@Array.size_zip
def Wa:=@List.length_zip
def Wb:=@List.Pairwise.imp_of_mem
def Wc:=@List.range_zero
def Wd:=@Int.pow_add
def We:=@List.range_eq_range'
def Wf:=@Nat.mul_add
def Wg:=@List.mem_of_mem_drop
def Wh:=@Int.ne_of_gt
def Wj:=@Int.lt_of_le_of_lt
def Wk:=@Nat.le_of_ble_eq_true
def Wl:=@PySem.W.cellsFrom_some
def Wm:=@Option.isSome_iff_exists
def Wn:=@Int.neg_ediv_of_dvd
def Wo:=@Int.fdiv_eq_ediv_of_nonneg
def Wp:=@Int.fmod_eq_emod_of_nonneg
def Wq:=@PySem.F.slot_list_append
def Wr:=@PySem.F.type_list_append
def Ws:=@Array.getElem?_eq_some_iff
def Wu:=@Nat.add_sub_cancel_left
def Wv:=@PySem.F.plain_list_iadd
def Ww:=@List.getElem?_zip_eq_some
def Wx:=@Nat.lt_two_pow_self
def Wz:=@Classical.not_forall
abbrev Fg_:=PySem.W.Frag
namespace L2
open PySem PySem.Spec PyProof.Rows
abbrev Key:=Sum Int Str
def zMW:Key->Value->Bool
 | .inl k,v=>Value.isInt k v
 | .inr x,v=>Value.isStrOf x v
def zQP(w:World):Key->Int
 | .inl k=>hashInt k
 | .inr x=>hashStr w x
theorem dE:∀ {k:Key} {v:Value},zMW k v=true->(∃ i t,k=Sum.inl i/\v=Value.int i t)∨(∃ x t,k=Sum.inr x/\v=Value.str x t)
 | .inl i,v,h=>by
  obtain⟨t,e⟩:=Value.isInt_shape (k:=i) (v:=v) h;exact .inl ⟨i,t,rfl,e⟩
 | .inr x,v,h=>by
  obtain⟨t,e⟩:=Value.isStrOf_shape (x:=x) (v:=v) h;exact .inr ⟨x,t,rfl,e⟩
theorem zNy(a b:Int):decide ((Sum.inl a:Key)=Sum.inl b)=(a==b):=by
 by_cases e:a=b
 ·subst e;simp
 ·have h:¬ (Sum.inl a:Key)=Sum.inl b:=fun q=>e (Sum.inl.inj q)
  rw[decide_eq_false h];exact(beq_eq_false_iff_ne.mpr e).symm
theorem zOL(a b:Str):decide ((Sum.inr a:Key)=Sum.inr b)=decide (a=b):=by
 by_cases e:a=b
 ·subst e;simp
 ·have h:¬ (Sum.inr a:Key)=Sum.inr b:=fun q=>e (Sum.inr.inj q)
  rw[decide_eq_false h,decide_eq_false e]
theorem zOg(a:Int)(b:Str):decide ((Sum.inl a:Key)=Sum.inr b)=false:=decide_eq_false (fun q=>nomatch q)
theorem zOC(a:Str)(b:Int):decide ((Sum.inr a:Key)=Sum.inl b)=false:=decide_eq_false (fun q=>nomatch q)
def zGa(prog:Program)(w:World):PySem.KeyKind prog w Key where
 is:=zMW
 hash:=zQP w
 inj:=fun v a b ha hb=>by
  rcases dE ha with⟨i,t,rfl,rfl⟩ | ⟨x,t,rfl,rfl⟩
  ·rcases dE hb with⟨j,u,rfl,e⟩ | ⟨y,u,rfl,e⟩
   ·injection e with e1 _;rw[e1]
   ·exact nomatch e
  ·rcases dE hb with⟨j,u,rfl,e⟩ | ⟨y,u,rfl,e⟩
   ·exact nomatch e
   ·injection e with e1 _;rw[e1]
 byValue:=fun k v h=>by
  rcases dE h with⟨i,t,rfl,rfl⟩ | ⟨x,t,rfl,rfl⟩<;>rfl
 pyHash:=fun hv h=>by
  rcases dE hv with⟨i,t,rfl,rfl⟩ | ⟨x,t,rfl,rfl⟩
  ·exact wpAny_pyHash_int h
  ·exact wpAny_pyHash_str h
 eqBool:=fun hu hv h=>by
  rcases dE hu with⟨i,t,rfl,rfl⟩ | ⟨x,t,rfl,rfl⟩
  ·rcases dE hv with⟨j,u,rfl,rfl⟩ | ⟨y,u,rfl,rfl⟩
   ·rw[zNy] at h;exact wpAny_eqBool_int h
   ·rw[zOg] at h;exact SeqAt.EqAt.int_str i t y u _ _ _ _ h
  ·rcases dE hv with⟨j,u,rfl,rfl⟩ | ⟨y,u,rfl,rfl⟩
   ·rw[zOC] at h;exact SeqAt.EqAt.str_int x t j u _ _ _ _ h
   ·rw[zOL] at h;exact wpAny_eqBool_str h
 «strs» := fun k x t v h=>by
  rcases dE h with⟨i,u,rfl,e⟩ | ⟨y,u,rfl,e⟩
  ·exact nomatch e
  ·injection e with e1 _
   subst e1;cases v<;>rfl
inductive V where
 | non | bl (b:Bool) | int (i:Int) | str (x:Str) | byt (b:Array UInt8) | flt (b:UInt64) | ref (a:Addr) | ty (n:String)
 deriving DecidableEq
def cV:V->Value->Prop
 | .non,u=>u=Value.none
 | .bl b,u=>u=Value.bool b
 | .int i,u=>∃ t,u=Value.int i t
 | .str x,u=>∃ t,u=Value.str x t
 | .byt b,u=>∃ t,u=Value.bytes b t
 | .flt b,u=>∃ t,u=Value.float b t
 | .ref a,u=>u=Value.ref a
 | .ty n,u=>u=Value.type n
abbrev dH:List V->List Value->Prop:=Paired cV
theorem dH.length{xs:List V}{us:List Value}(r:dH xs us):xs.length=us.length:=Paired.length r
theorem dH.get:∀ {xs:List V} {us:List Value} {i:Nat} {x:V},dH xs us->xs[i]?=some x->∃ u,us[i]?=some u/\cV x u
 | _,_,_,_,.nil,e=>by simp at e
 | _,_,0,_,.cons r _,e=>by simp at e;subst e;exact⟨_,rfl,r⟩
 | _,_,i+1,x,.cons _ t,e=>by
  obtain⟨u,h1,h2⟩:=dH.get (i:=i) (x:=x) t (by simpa using e)
  exact⟨u,by simpa using h1,h2⟩
theorem dH.set{x:V}{u:Value}(r:cV x u):∀ {xs:List V} {us:List Value} (i:Nat),dH xs us->dH (xs.set i x) (us.set i u)
 | _,_,_,.nil=>.nil
 | _,_,0,.cons _ t=>.cons r t
 | _,_,i+1,.cons q t=>.cons q (dH.set r i t)
theorem dH.append:∀ {xs ys:List V} {us ws:List Value},dH xs us->dH ys ws->dH (xs++ys) (us++ws)
 | _,_,_,_,.nil,s=>s
 | _,_,_,_,.cons r t,s=>.cons r (dH.append t s)
theorem dH.take:∀ {xs:List V} {us:List Value} (n:Nat),dH xs us->dH (xs.take n) (us.take n)
 | _,_,0,_=>.nil
 | _,_,_+1,.nil=>.nil
 | _,_,n+1,.cons r t=>.cons r (dH.take n t)
theorem dH.drop:∀ {xs:List V} {us:List Value} (n:Nat),dH xs us->dH (xs.drop n) (us.drop n)
 | _,_,0,r=>r
 | _,_,_+1,.nil=>.nil
 | _,_,n+1,.cons _ t=>dH.drop n t
def zQp:Option V->Option Value->Prop
 | some v,some u=>cV v u
 | none,none=>True
 | _,_=>False
def KV{κ:Type}:List (κ×V)->List (κ×Value)->Prop:=Paired fun(p:κ×V) (q:κ×Value)=>p.1=q.1/\cV p.2 q.2
def kV:Key->V
 | .inl i=>.int i
 | .inr x=>.str x
inductive HO where
 | lst (xs:List V)
 | tup (xs:List V)
 | dK (kvs:List (Key×V)) | dT (kvs:List (List Key×V))
 | set (S:Int->Bool) (n:Nat)
 | ins (C dx:Addr) (fs:List (Str×V))
 | own (x:Addr)
 | xd (fs:List (Str×V))
 | met (f x:Addr)
 | rng (lo hi:Int)
 | frz (o:Obj) (u:HO)
 | tbl (ps:Array Value)
 | ext (φ:Heap->Prop)
abbrev Hp:=Addr->Option HO
def upd(H:Hp)(a:Addr)(o:HO):Hp:=fun b=>if b=a then some o else H b
theorem aS{H:Hp}{a:Addr}{o:HO}:upd H a o a=some o:=by unfold upd;rw[if_pos rfl]
theorem aX{H:Hp}{a b:Addr}{o:HO}(h:b≠a):upd H a o b=H b:=by unfold upd;rw[if_neg h]
theorem zOH{H:Hp}{a b:Addr}{o u:HO}(h:H a=some o)(h':H b=some u)(d:o≠u):a≠b:=by
 intro e;subst e;rw[h] at h';exact d (Vg h')
theorem aZ{H:Hp}{a b:Addr}{o:HO}(h:H a=some o)(h':H b=none):a≠b:=by
 intro e;subst e;rw[h] at h';cases h'
section
variable(P:Program)(w:World)
def kY(H:Hp)(h:Heap)(a:Addr):HO->Prop
 | .lst xs=>xs.length<=sizeLine/\∃(its:List Value)(n:Nat),dH xs its/\h.get? a=some { cls:=.type "list", data:=.seq its.toArray n }
 | .tup xs=>xs.length<=sizeLine/\∃ its:List Value,dH xs its/\IsTup h a its.toArray
 | .dK kvs=>kvs.length<=sizeLine/\(a==sysModules)=false/\∃ vs,KV kvs vs/\h.DictOf (zGa P w) a vs
 | .dT kvs=>kvs.length<=sizeLine/\(a==sysModules)=false/\∃ xs:List (List Key×Addr×Value),
   Paired (fun(p:List Key×V) (q:List Key×Addr×Value)=>p.1=q.1/\H q.2.1=some (.tup (p.1.map kV))/\cV p.2 q.2.2) kvs xs/\
   ∃ o es ep,h.get? a=some o/\o.ExactDict/\o.data=.dict es ep/\es.toList=xs.map (entryOfKey (tupleKind (zGa P w)))/\(xs.map (·.1)).Nodup
 | .set S n=>h.SetOf (intKind P w) a S n
 | .ins C dx fs=>H dx=some (.own a)/\fs.length<=1000/\dx≠a/\h.get? a=some (PySem.W.instObj C dx)/\
   ∃ mA,h.Ns1 dx mA/\(∀ f,zQp (fs.lookup f) (mA f))/\PySem.Within mA (fs.map (·.1))
 | .own _=>∃ o,h.get? a=some o
 | .xd fs=>∃ mA,h.Ns1 a mA/\∀ f,zQp (fs.lookup f) (mA f)
 | .rng lo hi=>∃ t u v,h.get? a=some { cls:=.type "range", data:=.fields #[.int lo t,.int hi u,.int 1 v] }
 | .frz o u=>h.get? a=some o/\kY H h a u
 | .tbl ps=>h.get? a=some { cls:=.none,data:=.fields ps }
 | .met f x=>h.get? a=some (PySem.W.methodObj (.ref f) (.ref x))
 | .ext φ=>φ h/\(∃ o,h.get? a=some o)/\∀ h1 h2:Heap,φ h1->(∀ o,h1.get? a=some o->h2.get? a=some o)->φ h2
def HOk(H:Hp)(h:Heap):Prop:=∀ a o,H a=some o->kY P w H h a o
end
section
variable{P:Program}{w:World}{H H':Hp}{h h':Heap}{a:Addr}{o:HO}
theorem kY.lt(x:kY P w H h a o):a<h.objs.size:=by
 cases o with
 | lst xs=>obtain⟨_,_,_,_,e⟩:=x;exact Heap.lt_size e
 | tup xs=>obtain⟨_,_,_,p⟩:=x;exact p.lt
 | dK kvs=>obtain⟨_,_,_,_,o,_,_,e,_⟩:=x;exact Heap.lt_size e
 | dT kvs=>obtain⟨_,_,_,_,o,_,_,e,_⟩:=x;exact Heap.lt_size e
 | set S n=>obtain⟨o,_,_,_,e,_⟩:=x;exact Heap.lt_size e
 | ins C dx fs=>obtain⟨_,_,_,e,_⟩:=x;exact Heap.lt_size e
 | own y=>obtain⟨_,e⟩:=x;exact Heap.lt_size e
 | xd fs=>obtain⟨_,⟨_,_,_,e,_⟩,_⟩:=x;exact Heap.lt_size e
 | rng lo hi=>obtain⟨_,_,_,e⟩:=x;exact Heap.lt_size e
 | frz ob u=>obtain⟨e,_⟩:=x;exact Heap.lt_size e
 | tbl ps=>exact Heap.lt_size (show h.get? a=some _ from x)
 | met f y=>exact Heap.lt_size (show h.get? a=some _ from x)
 | ext φ=>obtain⟨_,⟨_,e⟩,_⟩:=x;exact Heap.lt_size e
theorem Paired.mapP{α β:Type}{F G:α->β->Prop}:∀ {l₁:List α} {l₂:List β},Paired F l₁ l₂->(∀ a b,F a b->G a b)->Paired G l₁ l₂
 | _,_,.nil,_=>.nil
 | _,_,.cons r t,f=>.cons (f _ _ r) (Paired.mapP t f)
theorem kY.stay(x:kY P w H h a o)(k:∀ b u,(b=a∨H b=some (.own a))->h.get? b=some u->h'.get? b=some u)
  (ho:∀ b,H b=some (.own a)->H' b=some (.own a)) (ht:∀ b xs,H b=some (.tup xs)->H' b=some (.tup xs)):kY P w H' h' a o:=by
 induction o with
 | lst xs=>obtain⟨z,its,n,r,e⟩:=x;exact⟨z,its,n,r,k _ _ (.inl rfl) e⟩
 | tup xs=>obtain⟨z,its,r,ob,e,c⟩:=x;exact⟨z,its,r,ob,k _ _ (.inl rfl) e,c⟩
 | dK kvs=>obtain⟨z,y,vs,r,ob,es,ep,e,c⟩:=x;exact⟨z,y,vs,r,ob,es,ep,k _ _ (.inl rfl) e,c⟩
 | dT kvs=>
  obtain⟨z,y,xs,r,ob,es,ep,e,c⟩:=x;exact⟨z,y,xs,Paired.mapP r fun p q z=>⟨z.1,ht _ _ z.2.1,z.2.2⟩,ob,es,ep,k _ _ (.inl rfl) e,c⟩
 | set S n=>obtain⟨ob,es,ep,t,e,c⟩:=x;exact⟨ob,es,ep,t,k _ _ (.inl rfl) e,c⟩
 | ins C dx fs=>
  obtain⟨d,z,ne,e,mA,⟨od,es,ep,e2,c⟩,r⟩:=x;exact⟨ho _ d,z,ne,k _ _ (.inl rfl) e,mA,⟨od,es,ep,k _ _ (.inr d) e2,c⟩,r⟩
 | own y=>obtain⟨ob,e⟩:=x;exact⟨ob,k _ _ (.inl rfl) e⟩
 | xd fs=>obtain⟨mA,⟨od,es,ep,e,c⟩,r⟩:=x;exact⟨mA,⟨od,es,ep,k _ _ (.inl rfl) e,c⟩,r⟩
 | rng lo hi=>obtain⟨t,u,v,e⟩:=x;exact⟨t,u,v,k _ _ (.inl rfl) e⟩
 | frz ob u ih=>obtain⟨e,q⟩:=x;exact⟨k _ _ (.inl rfl) e,ih q⟩
 | tbl ps=>
  have e:h.get? a=some { cls:=.none,data:=.fields ps }:=x;show h'.get? a=some { cls:=.none,data:=.fields ps }
  exact k a _ (.inl rfl) e
 | met f y=>
  have e:h.get? a=some (PySem.W.methodObj (.ref f) (.ref y)):=x;show h'.get? a=some (PySem.W.methodObj (.ref f) (.ref y))
  exact k a _ (.inl rfl) e
 | ext φ=>obtain⟨p,⟨o,e⟩,st⟩:=x;exact⟨st _ _ p fun o q=>k _ _ (.inl rfl) q,⟨o,k _ _ (.inl rfl) e⟩,st⟩
theorem HOk.lt(x:HOk P w H h)(e:H a=some o):a<h.objs.size:=(x a o e).lt
theorem HOk.fresh(x:HOk P w H h)(e:h.objs.size<=a):H a=none:=by
 cases q:H a with
 | none=>rfl
 | some u=>exact absurd (Qn (x.lt q) e) (Vt _)
theorem HOk.kept(x:HOk P w H h)(k:∀ b u,h.get? b=some u->h'.get? b=some u):HOk P w H h':=fun a o e=>
 (x a o e).stay (fun b u _ q=>k b u q) (fun _ q=>q) fun _ _ q=>q
theorem HOk.laid(x:HOk P w H h)(k:∀ b u,h.get? b=some u->h'.get? b=some u)(hp:h.objs.size<=a)(new:kY P w (upd H a o) h' a o):HOk P w (upd H a o) h':=fun b u e=>by
 have hn:=x.fresh hp;by_cases hb:b=a
 ·subst hb;rw[aS] at e;cases e;exact new
 ·rw[aX hb] at e
  exact(x b u e).stay (fun c v _ q=>k c v q) (fun c q=>by rw[aX (aZ q hn)];exact q) fun c xs q=>by rw[aX (aZ q hn)];exact q
end
def Rd(H:Hp)(a:Addr)(u:HO):Prop:=H a=some u∨∃ o,H a=some (.frz o u)
theorem Rd.ok{P:Program}{w:World}{H:Hp}{h:Heap}{a:Addr}{u:HO}(r:Rd H a u)(x:HOk P w H h):kY P w H h a u:=by
 rcases r with r | ⟨o,r⟩
 ·exact x a u r
 ·obtain⟨_,q⟩:=x a _ r
  exact q
def Mut:Option HO->Prop
 | some (.lst _)=>True
 | some (.dK _)=>True
 | some (.dT _)=>True
 | some (.set _ _)=>True
 | some (.ins _ _ _)=>True
 | some (.ext _)=>True
 | _=>False
section
variable{P:Program}{w:World}{H:Hp}{h h':Heap}{x e:Addr}{o':HO}
theorem HOk.write(ok:HOk P w H h)(mu:Mut (H x))(he:e=x∨H e=some (.own x))(k:∀ b u,b≠e->h.get? b=some u->h'.get? b=some u)(heo:∃ u,h'.get? e=some u)
  (new:kY P w (upd H x o') h' x o'):HOk P w (upd H x o') h':=fun b u q=>by
 have nown:∀ c y,H c=some (.own y)->c≠x:=fun c y r z=>by subst z;rw[r] at mu;exact mu
 have ntup:∀ c xs,H c=some (.tup xs)->c≠x:=fun c xs r z=>by subst z;rw[r] at mu;exact mu
 by_cases hb:b=x
 ·subst hb;rw[aS] at q;cases q;exact new
 ·rw[aX hb] at q
  by_cases hbe:b=e
  ·have q':H b=some (.own x):=by
    rcases he with z | z
    ·exact absurd (hbe.trans z) hb
    ·rw[hbe];exact z
   rw[q] at q';cases q'
   obtain⟨v,hv⟩:=heo;exact⟨v,by rw[hbe];exact hv⟩
  ·refine(ok b u q).stay (fun c v hc r=>k c v ?_ r) (fun c r=>by rw[aX (nown c b r)];exact r) fun c xs r=>by rw[aX (ntup c xs r)];exact r
   rcases hc with rfl | hc
   ·exact hbe
   ·rintro rfl
    rcases he with z | z
    ·exact nown c b hc z
    ·rw[hc] at z;cases z;exact hb rfl
end
structure Un (fs ex:List Addr) (H H':Hp) (h h':Heap):Prop where
 keep:∀ b o,h.get? b=some o->H b=none->b∉fs->b∉ex->h'.get? b=some o
 slot:∀ b o,h.get? b=some o->H b=none->b∈fs->b∉ex->∃ sl,h'.get? b=some { o with slots:=sl }
 free:∀ b o,h.get? b=some o->H b=none->b∉ex->H' b=none
 there:∀ b o,h.get? b=some o->b∉ex->∃ o',h'.get? b=some o'
 tups:∀ b xs,H b=some (.tup xs)->H' b=some (.tup xs)
 frzs:∀ b o u,H b=some (.frz o u)->H' b=some (.frz o u)
 tbls:∀ b ps,H b=some (.tbl ps)->∃ more,H' b=some (.tbl (ps++more))
section
variable{fs fs' ex ex':List Addr}{H H1 H2:Hp}{h h1 h2 h':Heap}{a x e:Addr}{o:HO}
theorem Un.any(u:Un fs ex H H1 h h1){b:Addr}{ob:Obj}(q:h.get? b=some ob)(n:H b=none)(hx:b∉ex):∃ sl,h1.get? b=some { ob with slots:=sl }:=by
 by_cases hb:b∈fs
 ·exact u.slot b ob q n hb hx
 ·exact⟨ob.slots,u.keep b ob q n hb hx⟩
theorem Un.kept(k:∀ b u,h.get? b=some u->h'.get? b=some u):Un fs ex H H h h':=
 ⟨fun b ob q _ _ _=>k b ob q,fun b ob q _ _ _=>⟨ob.slots,k b ob q⟩,fun _ _ _ n _=>n,fun b ob q _=>⟨ob,k b ob q⟩,fun _ _ q=>q,fun _ _ _ q=>q,fun _ ps q=>⟨#[],by rw[q];simp⟩⟩
theorem Un.refl:Un fs ex H H h h:=Un.kept fun _ _ q=>q
theorem Un.laid(k:∀ b u,h.get? b=some u->h'.get? b=some u)(hp:h.objs.size<=a)(hn:H a=none):Un fs ex H (upd H a o) h h' where
 keep:=fun b u q _ _ _=>k b u q
 slot:=fun b u q _ _ _=>⟨u.slots,k b u q⟩
 free:=fun b u q n _=>by rw[aX (Qo (Qn (Heap.lt_size q) hp))];exact n
 there:=fun b u q _=>⟨u,k b u q⟩
 tups:=fun b xs q=>by rw[aX (aZ q hn)];exact q
 frzs:=fun b u xs q=>by rw[aX (aZ q hn)];exact q
 tbls:=fun b ps q=>⟨#[],by rw[aX (aZ q hn),q];simp⟩
theorem Un.write(mu:Mut (H x))(he:e=x∨H e=some (.own x))(k:∀ b u,b≠e->h.get? b=some u->h'.get? b=some u)(heo:∃ u,h'.get? e=some u):Un fs ex H (upd H x o) h h':=by
 have hx:∀ b,H b=none->b≠x:=fun b n z=>by subst z;rw[n] at mu;exact mu
 have hb:∀ b,H b=none->b≠e:=fun b n z=>by
  subst z;rcases he with r | r
  ·exact hx b n r
  ·rw[n] at r;cases r
 have hm:∀ b u,H b=some u->¬ Mut (some u)->b≠x:=fun b u q nm z=>by subst z;rw[q] at mu;exact nm mu
 refine⟨fun b u q n _ _=>k b u (hb b n) q,fun b u q n _ _=>⟨u.slots,k b u (hb b n) q⟩,fun b u q n _=>by rw[aX (hx b n)];exact n,fun b u q _=>?_,
  fun b xs q=>by rw[aX (hm b _ q fun z=>z)];exact q,fun b u xs q=>by rw[aX (hm b _ q fun z=>z)];exact q,fun b ps q=>⟨#[],by rw[aX (hm b _ q fun z=>z),q];simp⟩⟩
 by_cases hbe:b=e
 ·subst hbe;exact heo
 ·exact⟨u,k b u hbe q⟩
end
def trk(h:Heap)(H:Hp):List Addr:=(List.range h.objs.size).filter fun a=>(H a).isSome
def zIe(h:Heap)(H:Hp):Heap:=PySem.W.hideAll h (trk h H)
theorem zHx(h:Heap)(H:Hp):(zIe h H).objs.size=h.objs.size:=PySem.W.hideAll_size _ _
theorem zIE{h:Heap}{H:Hp}{b:Addr}{o:Obj}(e:h.get? b=some o)(n:H b=none):(zIe h H).get? b=some o:=
 Uk _ e fun hm=>by
  have q:(H b).isSome=true:=(Yq.mp hm).2;rw[n] at q;simp at q
theorem zKz{h:Heap}{H:Hp}{b:Addr}{o:Obj}(e:(zIe h H).get? b=some o):h.get? b=some o/\H b=none:=by
 have e':h.get? b=some o:=PySem.W.of_hideAll (trk h H) e;refine⟨e',?_⟩
 cases q:H b with
 | none=>rfl
 | some x=>
  have hm:b∈trk h H:=Yq.mpr ⟨Qt.mpr (Heap.lt_size e'),by simp[q]⟩
  have z:(zIe h H).get? b=none:=PySem.W.hideAll_none (trk h H) hm;rw[z] at e;cases e
def zLX(g h:Heap)(L:Addr):List (Addr×Obj):=(List.range h.objs.size).filterMap fun a=>if a=L∨(g.get? a).isSome=true then none else (h.get? a).map fun o=>(a,o)
def rest(g h:Heap)(L d:Addr):List (Addr×Obj):=(zLX g h L).filter fun p=>decide (p.1≠d)
structure Mod (K:PySem.W.Frag) (mg:Str->Option Value) (base:Heap):Prop where
 kin:K.In base
 glob:base.Ns mainGlobals mg
 blt:∃ mb,base.Ns builtinsNs mb/\∀ x:Str,x ≠ "__name__" -> mb x=bootBuiltins x
 nolimit:base.NoLimit
structure Cx where
 prog:Program
 w:World
 K:PySem.W.Frag
 mg:Str->Option Value
 base:Heap
 A:Around
 N:List Str
 s₀:Shared
 H₀:Hp
 env:Env
 outer:List Env
 stack:List Env
 ex:List Addr
 fn:Str->Bool
 calm:Bool
 pn:List (Addr×Obj)
 xe:Value->Shared->Prop
def frs(l:List Env):List Addr:=l.filterMap (·.frame)
abbrev Cx.fs(X:Cx):List Addr:=frs X.outer
def Vis(sc:Scope)(x:Str):Prop:=sc.names.lookup x=some .local∨sc.names.lookup x=some .cell∨sc.names.lookup x=some .free
def Loc(sc:Scope)(x:Str):Prop:=sc.names.lookup x=some .local∨sc.names.lookup x=some .cell
def zQY(env:Env)(h:Heap)(m:Str->Option Value)(x:Str)(u:Value):Prop:=
 (env.kindOf x=some .local/\m x=some u)∨((env.kindOf x=some .cell∨env.kindOf x=some .free)/\∃ c,env.cells.lookup x=some c/\h.IsCell c (some u))
structure Cx.Ok (X:Cx):Prop where
 mod:Mod X.K X.mg X.base
 kind:X.env.scope.kind=.function
 glob:X.env.globals=mainGlobals
 blt:X.env.builtins=builtinsNs
 above:X.s₀.heap.objs.size<=X.env.locals
 inj:∀ x y c,X.env.cells.lookup x=some c->X.env.cells.lookup y=some c->x=y
 has:∀ x,(X.env.kindOf x=some .cell∨X.env.kindOf x=some .free)->∃ c,X.env.cells.lookup x=some c
 cab:∀ x c,X.fn x=true->X.env.cells.lookup x=some c->X.s₀.heap.objs.size<=c
 hd:X.calm=true->X.A.handled=none
 frames:X.A.frames=some X.stack
 stk:X.stack=X.outer∨(X.stack=X.env::X.outer/\X.env.frame=some X.env.locals)
 exf:∀ b∈X.ex,b≠X.env.locals/\∀ x c,X.env.cells.lookup x=some c->c≠b
 bs:∀ b o,X.base.get? b=some o->X.s₀.heap.get? b=some o/\X.H₀ b=none
 bsz:X.base.objs.size<=X.s₀.heap.objs.size
 noex:∀ b o,X.base.get? b=some o->b∉X.ex
 exfs:∀ b∈X.ex,b∉X.fs
 funs:X.s₀.heap.FunFrames X.base X.outer
 frf:∀ b∈X.fs,X.H₀ b=none
structure Inv (X:Cx) (pins:List (Addr×Obj)) (σ:List (Option V)) (H:Hp) (s:Shared):Prop where
 ok:X.Ok
 os:s.os=X.s₀.os
 bare:AllBare s.gens
 base:Un X.fs X.ex X.H₀ H X.s₀.heap s.heap
 loc:∃ m,s.heap.Ns X.env.locals m/\∀(i:Nat)(x:Str)(v:V),X.N[i]?=some x->σ[i]?=some (some v)->Vis X.env.scope x->∃ u,cV v u/\zQY X.env s.heap m x u
 cell:∀ x c,X.env.cells.lookup x=some c->∃ v,s.heap.IsCell c v
 free:H X.env.locals=none
 freeC:∀ x c,X.env.cells.lookup x=some c->H c=none
 pin:∀ p∈X.pn++pins,s.heap.get? p.1=some p.2/\H p.1=none/\p.1≠X.env.locals/\p.1∉X.fs/\∀ v,p.2.data≠.cell v
 hok:HOk X.prog X.w H s.heap
 len:σ.length=X.N.length
section
variable{X:Cx}{pins:List (Addr×Obj)}{σ:List (Option V)}{H H':Hp}{s:Shared}{h':Heap}
theorem Cx.Ok.nofr(ok:X.Ok){b:Addr}{o:Obj}(e:X.base.get? b=some o):b∉X.fs:=fun hb=>by
 have:=(ok.funs.mem hb).1
 rw[e] at this;cases this
theorem Inv.bs(I:Inv X pins σ H s):∀ b o,X.base.get? b=some o->s.heap.get? b=some o/\H b=none:=fun b o e=>
 ⟨I.base.keep b o (I.ok.bs b o e).1 (I.ok.bs b o e).2 (I.ok.nofr e) (I.ok.noex b o e),I.base.free b o (I.ok.bs b o e).1 (I.ok.bs b o e).2 (I.ok.noex b o e)⟩
theorem Inv.bk(I:Inv X pins σ H s):∀ b o,X.base.get? b=some o->s.heap.get? b=some o:=fun b o e=>(I.bs b o e).1
theorem Inv.mod(I:Inv X pins σ H s):Mod X.K X.mg X.base:=I.ok.mod
theorem Inv.kIn(I:Inv X pins σ H s):X.K.In s.heap:=I.ok.mod.kin.keeps I.bk
theorem Inv.lt(I:Inv X pins σ H s):X.env.locals<s.heap.objs.size:=let ⟨_,hn,_⟩:=I.loc;hn.lt
theorem Inv.sz(I:Inv X pins σ H s):X.s₀.heap.objs.size<=s.heap.objs.size:=Qp I.ok.above (Xv I.lt)
theorem Inv.nofs(I:Inv X pins σ H s){a:Addr}(h:s.heap.objs.size<=a):a∉X.fs:=fun hb=>by
 obtain⟨_,o,ho,_⟩:=I.ok.funs.mem hb;exact absurd (Qn (Heap.lt_size ho) (Qp I.sz h)) (Vt _)
theorem Inv.cne(I:Inv X pins σ H s):∀ x c,X.env.cells.lookup x=some c->c≠X.env.locals:=fun x c e z=>by
 obtain⟨v,o,ho,hd⟩:=I.cell x c e;obtain⟨m,⟨o',es,ep,ho',hd',_⟩,_⟩:=I.loc;rw[z,ho'] at ho;cases ho;rw[hd'] at hd;cases hd
theorem Inv.funs(I:Inv X pins σ H s):s.heap.FunFrames X.base X.outer:=by
 have all:∀(l:List Env),(∀ b∈frs l,b∈X.fs)->X.s₀.heap.FunFrames X.base l->s.heap.FunFrames X.base l:=by
  intro l
  induction l with
  | nil=>intro _ _;trivial
  | cons env r ih=>
   intro hs hl;obtain⟨hk,⟨L,o,hf,hn,ho,hd⟩,hr⟩:=hl;have hL:L∈X.fs:=hs L (by unfold frs;rw[Y0,hf];exact Qf)
   obtain⟨sl,e⟩:=I.base.slot L o ho (I.ok.frf L hL) hL fun z=>I.ok.exfs L z hL
   exact⟨hk,⟨L,_,hf,hn,e,hd⟩,ih (fun b hb=>hs b (by unfold frs;rw[Y0,hf];exact Qe _ hb)) hr⟩
 exact all X.outer (fun _ hb=>hb) I.ok.funs
theorem Inv.stack(I:Inv X pins σ H s):s.heap.FunFrames X.base X.stack:=by
 rcases I.ok.stk with e | ⟨e,hf⟩
 ·rw[e];exact I.funs
 ·rw[e]
  obtain⟨m,hn,_⟩:=I.loc;refine .cons (by rw[I.ok.kind];decide) hf hn ?_ I.funs
  exact Heap.get?_none_of_le (Qp I.ok.bsz I.ok.above)
theorem Inv.stkSub(I:Inv X pins σ H s):∀ b∈frs X.stack,b∈X.env.locals::X.fs:=fun b hb=>by
 rcases I.ok.stk with e | ⟨e,hf⟩
 ·rw[e] at hb;exact Qe _ hb
 ·rw[e] at hb
  unfold frs at hb;rw[Y0,hf] at hb;exact hb
theorem Inv.stkFree(I:Inv X pins σ H s):∀ b∈frs X.stack,H b=none:=fun b hb=>by
 rcases Qc.mp (I.stkSub b hb) with e | hb
 ·rw[e];exact I.free
 ·obtain⟨_,o,ho,_⟩:=I.ok.funs.mem hb
  exact I.base.free b o ho (I.ok.frf b hb) fun z=>I.ok.exfs b z hb
theorem Inv.step{g':Array GenState}{t':Nat}{d':Drawn}{ch:List Addr}(I:Inv X pins σ H s)
  (hch:∀ b∈ch,(b∈X.ex∨X.s₀.heap.objs.size<=b)/\b≠X.env.locals/\(∀ x c,X.env.cells.lookup x=some c->c≠b)/\∀ p∈X.pn++pins,p.1≠b)
  (keep:∀ b o,b≠X.env.locals->b∉X.fs->b∉ch->s.heap.get? b=some o->H b=none->h'.get? b=some o)
  (slot:∀ b o,b≠X.env.locals->b∈X.fs->b∉ch->s.heap.get? b=some o->H b=none->∃ sl,h'.get? b=some { o with slots:=sl }) (free:∀ b o,b∉ch->s.heap.get? b=some o->H b=none->H' b=none)
  (there:∀ b o,b∉ch->s.heap.get? b=some o->∃ o',h'.get? b=some o')
  (tups:∀ b xs,H b=some (.tup xs)->H' b=some (.tup xs)) (frzs:∀ b o u,H b=some (.frz o u)->H' b=some (.frz o u)) (tbls:∀ b ps,H b=some (.tbl ps)->∃ more,H' b=some (.tbl (ps++more)))
  (ns:∀ m,s.heap.Ns X.env.locals m->h'.Ns X.env.locals m) (hok:HOk X.prog X.w H' h') (hg:AllBare g'):
  Inv X pins σ H' { s with heap:=h',gens:=g',drawn:=d',toks:=t' }:=by
 have neL:∀ b o,X.s₀.heap.get? b=some o->b≠X.env.locals:=fun b o e=>Qo (Qn (Heap.lt_size e) I.ok.above)
 have neC:∀ b o,X.s₀.heap.get? b=some o->b∉X.ex->b∉ch:=fun b o e hx hb=>by
  rcases (hch b hb).1 with z | z
  ·exact hx z
  ·exact absurd (Qn (Heap.lt_size e) z) (Vt _)
 have cellK:∀ x c,X.env.cells.lookup x=some c->∀ v,s.heap.IsCell c v->h'.IsCell c v:=fun x c e v ⟨o,ho,hd⟩=>by
  have nch:c∉ch:=fun z=>(hch c z).2.2.1 x c e rfl
  by_cases hc:c∈X.fs
  ·obtain⟨sl,q⟩:=slot c o (I.cne x c e) hc nch ho (I.freeC x c e)
   exact⟨_,q,hd⟩
  ·exact⟨o,keep c o (I.cne x c e) hc nch ho (I.freeC x c e),hd⟩
 refine⟨I.ok,I.os,hg,⟨fun b o e n hb hx=>?_,fun b o e n hb hx=>?_,fun b o e n hx=>?_,fun b o e hx=>?_,fun b xs e=>tups b xs (I.base.tups b xs e),fun b o xs e=>frzs b o xs (I.base.frzs b o xs e),fun b ps e=>?_⟩,?_,fun x c e=>?_,?_,fun x c e=>?_,fun p hp=>?_,hok,I.len⟩
 ·exact keep b o (neL b o e) hb (neC b o e hx) (I.base.keep b o e n hb hx) (I.base.free b o e n hx)
 ·obtain⟨sl,e1⟩:=I.base.slot b o e n hb hx
  obtain⟨sl',e2⟩:=slot b _ (neL b o e) hb (neC b o e hx) e1 (I.base.free b o e n hx);exact⟨sl',e2⟩
 ·obtain⟨o',e1⟩:=I.base.there b o e hx
  exact free b o' (neC b o e hx) e1 (I.base.free b o e n hx)
 ·obtain⟨o',e1⟩:=I.base.there b o e hx
  exact there b o' (neC b o e hx) e1
 ·obtain⟨m1,e1⟩:=I.base.tbls b ps e
  obtain⟨m2,e2⟩:=tbls b _ e1;exact⟨m1++m2,by rw[e2,Array.append_assoc]⟩
 ·obtain⟨m,hn,hl⟩:=I.loc
  refine⟨m,ns m hn,fun i x v e1 e2 e3=>?_⟩
  obtain⟨u,r,l⟩:=hl i x v e1 e2 e3;refine⟨u,r,?_⟩
  rcases l with l | ⟨k,c,e,z⟩
  ·exact .inl l
  ·exact .inr ⟨k,c,e,cellK x c e _ z⟩
 ·obtain⟨v,z⟩:=I.cell x c e
  exact⟨v,cellK x c e v z⟩
 ·obtain⟨m,⟨o,_,_,ho,_⟩,_⟩:=I.loc
  exact free _ o (fun z=>(hch _ z).2.1 rfl) ho I.free
 ·obtain⟨v,o,ho,hd⟩:=I.cell x c e
  exact free c o (fun z=>(hch c z).2.2.1 x c e rfl) ho (I.freeC x c e)
 ·obtain⟨e,n,ne,nf,d⟩:=I.pin p hp
  have nch:p.1∉ch:=fun z=>(hch p.1 z).2.2.2 p hp rfl
  exact⟨keep p.1 p.2 ne nf nch e n,free p.1 p.2 nch e n,ne,nf,d⟩
theorem Inv.un{t':Nat}(I:Inv X pins σ H s)(u:Un X.fs [] H H' s.heap h')(hok:HOk X.prog X.w H' h'):Inv X pins σ H' { s with heap:=h',toks:=t' }:=by
 obtain⟨m,⟨o,es,ep,ho,r⟩,_⟩:=id I.loc;obtain⟨sl,hL⟩:=u.any ho I.free (by simp)
 exact I.step (g':=s.gens) (d':=s.drawn) (ch:=[]) (fun _ z=>nomatch z) (fun b o _ hb _ e n=>u.keep b o e n hb (by simp)) (fun b o _ hb _ e n=>u.slot b o e n hb (by simp)) (fun b o _ e n=>u.free b o e n (by simp)) (fun b o _ e=>u.there b o e (by simp)) u.tups u.frzs u.tbls (fun m' hm=>by
  obtain⟨o',es',ep',ho',r'⟩:=hm;rw[ho] at ho';cases ho'
  exact⟨_,es',ep',hL,r'⟩) hok I.bare
theorem Inv.call{g':Array GenState}{t':Nat}{d':Drawn}{ch:List Addr}(I:Inv X pins σ H s)(u:Un (frs X.stack) ch H H' s.heap h')(hok:HOk X.prog X.w H' h')(hg:AllBare g')
  (hch:∀ b∈ch,(b∈X.ex∨X.s₀.heap.objs.size<=b)/\b≠X.env.locals/\(∀ x c,X.env.cells.lookup x=some c->c≠b)/\∀ p∈X.pn++pins,p.1≠b):
  Inv X pins σ H' { s with heap:=h',gens:=g',drawn:=d',toks:=t' }:=by
 obtain⟨m,⟨o,es,ep,ho,r⟩,_⟩:=id I.loc;obtain⟨sl,hL⟩:=u.any ho I.free fun z=>(hch _ z).2.1 rfl
 exact I.step (ch:=ch) hch (fun b o hL hb hc e n=>u.keep b o e n (fun z=>(Qc.mp (I.stkSub b z)).elim hL hb) hc) (fun b o _ _ hc e n=>u.any e n hc) (fun b o hc e n=>u.free b o e n hc) (fun b o hc e=>u.there b o e hc) u.tups u.frzs u.tbls (fun m' hm=>by
  obtain⟨o',es',ep',ho',r'⟩:=hm;rw[ho] at ho';cases ho'
  exact⟨_,es',ep',hL,r'⟩) hok hg
theorem Inv.turned{t':Nat}{it:Addr}(I:Inv X pins σ H s)(k:∀ b o,b≠it->s.heap.get? b=some o->h'.get? b=some o)(hn:H it=none)(hL:it≠X.env.locals)
  (h1:it∈X.ex∨X.s₀.heap.objs.size<=it) (h2:∀ x c,X.env.cells.lookup x=some c->c≠it) (h3:∀ p∈X.pn++pins,p.1≠it):Inv X pins σ H { s with heap:=h',toks:=t' }:=by
 have nit:∀ b u,H b=some u->b≠it:=fun b u e z=>by rw[z,hn] at e;cases e
 refine I.step (g':=s.gens) (d':=s.drawn) (ch:=[it]) (fun b hb=>?_) (fun b o _ _ hc e _=>k b o (fun z=>hc (by simp[z])) e) (fun b o _ _ hc e _=>⟨o.slots,k b o (fun z=>hc (by simp[z])) e⟩) (fun _ _ _ _ n=>n)
  (fun b o hc e=>⟨o,k b o (fun z=>hc (by simp[z])) e⟩) (fun _ _ e=>e) (fun _ _ _ e=>e) (fun b ps e=>⟨#[],by rw[e];simp⟩) (fun m hm=>?_) (fun b u e=>?_) I.bare
 ·have e:b=it:=by simpa using hb
  subst e;exact⟨h1,hL,h2,h3⟩
 ·obtain⟨o,es,ep,ho,r⟩:=hm
  exact⟨o,es,ep,k _ o (Ne.symm hL) ho,r⟩
 ·refine(I.hok b u e).stay (fun c v hc q=>k c v ?_ q) (fun _ q=>q) fun _ _ q=>q
  rcases hc with z | z
  ·rw[z];exact nit b u e
  ·exact nit c _ z
theorem Inv.tok(I:Inv X pins σ H s)(t:Nat):Inv X pins σ H { s with toks:=t }:=I.un (h':=s.heap) (t':=t) Un.refl I.hok
theorem Inv.kept{t':Nat}(I:Inv X pins σ H s)(k:∀ b u,s.heap.get? b=some u->h'.get? b=some u):Inv X pins σ H { s with heap:=h',toks:=t' }:=I.un (Un.kept k) (I.hok.kept k)
theorem Inv.laid{a:Addr}{o:HO}{t':Nat}(I:Inv X pins σ H s)(k:∀ b u,s.heap.get? b=some u->h'.get? b=some u)(hp:s.heap.objs.size<=a)(new:kY X.prog X.w (upd H a o) h' a o):
  Inv X pins σ (upd H a o) { s with heap:=h',toks:=t' }:=I.un (Un.laid k hp (I.hok.fresh hp)) (I.hok.laid k hp new)
theorem Inv.write{x e:Addr}{o:HO}{t':Nat}(I:Inv X pins σ H s)(mu:Mut (H x))(he:e=x∨H e=some (.own x))(k:∀ b u,b≠e->s.heap.get? b=some u->h'.get? b=some u)(heo:∃ u,h'.get? e=some u)
  (new:kY X.prog X.w (upd H x o) h' x o):Inv X pins σ (upd H x o) { s with heap:=h',toks:=t' }:=I.un (Un.write mu he k heo) (I.hok.write mu he k heo new)
theorem Inv.pins_of{pins':List (Addr×Obj)}(I:Inv X pins σ H s)(h:∀ p∈pins',s.heap.get? p.1=some p.2/\H p.1=none/\p.1≠X.env.locals/\p.1∉X.fs/\∀ v,p.2.data≠.cell v):Inv X pins' σ H s:=
 ⟨I.ok,I.os,I.bare,I.base,I.loc,I.cell,I.free,I.freeC,fun p hp=>(V6.mp hp).elim (fun z=>I.pin p (Xw _ z)) (h p),I.hok,I.len⟩
theorem zDH{N:List Str}(hN:N.Nodup){i j:Nat}{x:Str}(a:N[i]?=some x)(b:N[j]?=some x):i=j:=by
 obtain⟨h1,e1⟩:=Q2.mp a;obtain⟨h2,e2⟩:=Q2.mp b;exact(List.getElem_inj hN).mp (e1.trans e2.symm)
theorem zAP{M:Model}{A:Around}{E:Value->Shared->Prop}{i:Nat}{x:Str}{v:V}{u:Value}{Q:Unit->Shared->Prop}(I:Inv X pins σ H s)(hN:X.N.Nodup)(hi:X.N[i]?=some x)(hx:Loc X.env.scope x)(r:cV v u)
  (h:∀ s',Inv X pins (σ.set i (some v)) H s'->(∃ a,Heap.SameBut a s.heap s'.heap/\(a=X.env.locals∨X.env.cells.lookup x=some a))->Q () s') (hf:X.fn x=true∨X.env.scope.names.lookup x=some .local:=by first | exact .inl rfl | exact .inr rfl | assumption):wpAny M A (storeName X.env x u) Q E s:=by
 obtain⟨m,hn,hl⟩:=id I.loc;have hcls:(X.env.scope.kind==.class || (X.env.scope.kind==.module && X.env.locals != X.env.globals))=false:=by rw[I.ok.kind];rfl
 have hiσ:i<σ.length:=by rw[I.len];exact(Q2.mp hi).1
 have cne:=I.cne
 have tracked:∀ {a:Addr} {h':Heap},(∃ o,s.heap.get? a=some o/\H a=none)->Heap.SameBut a s.heap h'->HOk X.prog X.w H h':=fun {a h'} ha hs b ob e=>by
  obtain⟨_,_,hfree⟩:=ha;refine(I.hok b ob e).stay (fun c w' hc q=>(hs.2 c ?_).trans q) (fun _ q=>q) fun _ _ q=>q
  rintro rfl
  rcases hc with rfl | hc
  ·rw[hfree] at e;cases e
  ·rw[hfree] at hc;cases hc
 rcases hx with hk | hk
 ·refine wpAny_storeName_local hk hn (fun h' hn' hs=>?_) hcls
  obtain⟨oL,_,_,hoL,_⟩:=id hn;refine h _ ⟨I.ok,I.os,I.bare,⟨fun b o e n hb hx=>?_,fun b o e n hb hx=>?_,I.base.free,fun b o e hx=>?_,I.base.tups,I.base.frzs,I.base.tbls⟩,⟨_,hn',fun j y v' e1 e2 e3=>?_⟩,fun y c e=>?_,I.free,I.freeC,fun p hp=>?_,tracked ⟨oL,hoL,I.free⟩ hs,by simpa using I.len⟩ ⟨_,hs,.inl rfl⟩
  ·exact(hs.2 b (Qo (Qn (Heap.lt_size e) I.ok.above))).trans (I.base.keep b o e n hb hx)
  ·obtain⟨sl,e1⟩:=I.base.slot b o e n hb hx
   exact⟨sl,(hs.2 b (Qo (Qn (Heap.lt_size e) I.ok.above))).trans e1⟩
  ·obtain⟨o',e1⟩:=I.base.there b o e hx
   exact⟨o',(hs.2 b (Qo (Qn (Heap.lt_size e) I.ok.above))).trans e1⟩
  ·by_cases hj:j=i
   ·subst hj
    rw[hi] at e1;cases e1
    rw[Vh hiσ] at e2;cases e2;exact⟨u,r,.inl ⟨hk,by simp⟩⟩
   ·rw[Vi (Ne.symm hj)] at e2
    obtain⟨u',r',q⟩:=hl j y v' e1 e2 e3;refine⟨u',r',?_⟩
    rcases q with⟨k,e⟩ | ⟨k,c,e,z⟩
    ·refine .inl ⟨k,?_⟩
     have:y≠x:=fun e=>hj (zDH hN e1 (e ▸ hi))
     simp[this,e]
    ·exact .inr ⟨k,c,e,z.sameBut hs (cne y c e)⟩
  ·obtain⟨w',z⟩:=I.cell y c e
   exact⟨w',z.sameBut hs (cne y c e)⟩
  ·obtain⟨e,n,ne,nf,d⟩:=I.pin p hp
   exact⟨(hs.2 p.1 ne).trans e,n,ne,nf,d⟩
 ·have hfn:X.fn x=true:=by
   rcases hf with z | z
   ·exact z
   ·rw[z] at hk;cases hk
  obtain⟨c,hc⟩:=I.ok.has x (.inl hk);obtain⟨w',z⟩:=I.cell x c hc;refine wpAny_storeName_cell I.ok.kind hk hc z (fun h' hc' hs=>?_)
  obtain⟨oc,hoc,hocd⟩:=id z;refine h { s with heap:=h' } ⟨I.ok,I.os,I.bare,⟨fun b o e n hb hx=>?_,fun b o e n hb hx=>?_,I.base.free,fun b o e hx=>?_,I.base.tups,I.base.frzs,I.base.tbls⟩,⟨m,hn.sameBut hs (Ne.symm (cne x c hc)),fun j y v' e1 e2 e3=>?_⟩,fun y c' e=>?_,I.free,I.freeC,fun p hp=>?_,tracked ⟨oc,hoc,I.freeC x c hc⟩ hs,by simpa using I.len⟩ ⟨c,hs,.inr hc⟩
  ·exact(hs.2 b (Qo (Qn (Heap.lt_size e) (I.ok.cab x c hfn hc)))).trans (I.base.keep b o e n hb hx)
  ·obtain⟨sl,e1⟩:=I.base.slot b o e n hb hx
   exact⟨sl,(hs.2 b (Qo (Qn (Heap.lt_size e) (I.ok.cab x c hfn hc)))).trans e1⟩
  ·obtain⟨o',e1⟩:=I.base.there b o e hx
   exact⟨o',(hs.2 b (Qo (Qn (Heap.lt_size e) (I.ok.cab x c hfn hc)))).trans e1⟩
  ·by_cases hj:j=i
   ·subst hj
    rw[hi] at e1;cases e1
    rw[Vh hiσ] at e2;cases e2;exact⟨u,r,.inr ⟨.inl hk,c,hc,hc'⟩⟩
   ·rw[Vi (Ne.symm hj)] at e2
    obtain⟨u',r',q⟩:=hl j y v' e1 e2 e3;refine⟨u',r',?_⟩
    rcases q with q | ⟨k,c',e,z'⟩
    ·exact .inl q
    ·refine .inr ⟨k,c',e,z'.sameBut hs ?_⟩
     rintro rfl
     exact hj (zDH hN e1 (I.ok.inj _ _ _ e hc ▸ hi))
  ·by_cases hcc:c'=c
   ·subst hcc;exact⟨_,hc'⟩
   ·obtain⟨w2,z2⟩:=I.cell y c' e
    exact⟨w2,z2.sameBut hs hcc⟩
  ·obtain⟨e,n,ne,nf,d⟩:=I.pin p hp
   refine⟨(hs.2 p.1 ?_).trans e,n,ne,nf,d⟩
   intro q;rw[q,hoc] at e;have q':oc=p.2:=Vg e;exact d w' (by rw[<-q'];exact hocd)
theorem pE{M:Model}{A:Around}{E:Value->Shared->Prop}{i:Nat}{x:Str}{v:V}{u:Value}{Q:Unit->Shared->Prop}(I:Inv X pins σ H s)(hN:X.N.Nodup)(hi:X.N[i]?=some x)(hx:Loc X.env.scope x)(r:cV v u)
  (h:∀ s',Inv X pins (σ.set i (some v)) H s'->Q () s') (hf:X.fn x=true∨X.env.scope.names.lookup x=some .local:=by first | exact .inl rfl | exact .inr rfl | assumption):wpAny M A (storeName X.env x u) Q E s:=
 zAP I hN hi hx r (fun s' I' _=>h s' I') hf
theorem Inv.call'{s':Shared}{ch:List Addr}(I:Inv X pins σ H s)(ho:s'.os=s.os)(u:Un (frs X.stack) ch H H' s.heap s'.heap)(hok:HOk X.prog X.w H' s'.heap)(hg:AllBare s'.gens)
  (hch:∀ b∈ch,(b∈X.ex∨X.s₀.heap.objs.size<=b)/\b≠X.env.locals/\(∀ x c,X.env.cells.lookup x=some c->c≠b)/\∀ p∈X.pn++pins,p.1≠b):Inv X pins σ H' s':=by
 obtain⟨h',g',d',t',o'⟩:=s';have e:o'=s.os:=ho;subst e;exact I.call (g':=g') (t':=t') (d':=d') u hok hg hch
end
abbrev XK:=Value->Option Addr->Hp->Prop
abbrev St:=List (Option V)
abbrev VK:=V->Hp->Prop
abbrev TE:=St->Hp->VK->Prop
abbrev TT:=St->Hp->(Bool->Hp->Prop)->Prop
abbrev TA:=St->Hp->(List V->Hp->Prop)->Prop
structure Ends where
 nx:St->Hp->Prop
 rt:VK
 bk:St->Hp->Prop:=fun _ _=>False
 ct:St->Hp->Prop:=fun _ _=>False
abbrev TS:=Ends->St->Hp->Prop
def EP(X:Cx)(pins:List (Addr×Obj))(σ:St)(Q:VK)(u:Value)(s':Shared):Prop:=∃ v H',Inv X pins σ H' s'/\cV v u/\Q v H'
def TP(X:Cx)(pins:List (Addr×Obj))(σ:St)(Q:Bool->Hp->Prop)(b:Bool)(s':Shared):Prop:=∃ H',Inv X pins σ H' s'/\Q b H'
def AP(X:Cx)(pins:List (Addr×Obj))(σ:St)(Q:List V->Hp->Prop)(us:List Value)(s':Shared):Prop:=∃ vs H',Inv X pins σ H' s'/\dH vs us/\Q vs H'
def SP(X:Cx)(pins:List (Addr×Obj))(D:Ends)(f:Flow)(s':Shared):Prop:=
 match f with
 | .next=>∃ σ' H',Inv X pins σ' H' s'/\D.nx σ' H'
 | .brk=>∃ σ' H',Inv X pins σ' H' s'/\D.bk σ' H'
 | .cont=>∃ σ' H',Inv X pins σ' H' s'/\D.ct σ' H'
 | .ret u=>∃ v σ' H',Inv X pins σ' H' s'/\cV v u/\D.rt v H'
def PE(X:Cx)(e:Expr)(t:TE):Prop:=
 ∀(pins:List (Addr×Obj))(s:Shared)(σ:St)(H:Hp)(Q:VK),Inv X pins σ H s->t σ H Q->wpAny (model X.prog X.w) X.A (eval e X.env) (EP X pins σ Q) X.xe s
def PT(X:Cx)(e:Expr)(t:TT):Prop:=
 ∀(pins:List (Addr×Obj))(s:Shared)(σ:St)(H:Hp)(Q:Bool->Hp->Prop),Inv X pins σ H s->t σ H Q->wpAny (model X.prog X.w) X.A (isTrue e X.env (eval e X.env)) (TP X pins σ Q) X.xe s
def PW(X:Cx)(e:Expr)(t:TT):Prop:=
 ∀(whole:Sem Value)(pins:List (Addr×Obj))(s:Shared)(σ:St)(H:Hp)(Q:Bool->Hp->Prop),Inv X pins σ H s->t σ H Q->wpAny (model X.prog X.w) X.A (isTrue e X.env whole) (TP X pins σ Q) X.xe s
theorem PW.pt{X:Cx}{e:Expr}{t:TT}(h:PW X e t):PT X e t:=h _
def PA(X:Cx)(es:List Expr)(t:TA):Prop:=
 ∀(pos:Pos)(pins:List (Addr×Obj))(s:Shared)(σ:St)(H:Hp)(Q:List V->Hp->Prop),Inv X pins σ H s->t σ H Q->wpAny (model X.prog X.w) X.A (spliced (backTo pos (starEach es X.env))) (AP X pins σ Q) X.xe s
def PS(X:Cx)(st:Stmt)(t:TS):Prop:=
 ∀(pins:List (Addr×Obj))(s:Shared)(σ:St)(H:Hp)(D:Ends),Inv X pins σ H s->t D σ H->wpAny (model X.prog X.w) X.A (exec st X.env) (SP X pins D) X.xe s
def PSs(X:Cx)(st:List Stmt)(t:TS):Prop:=
 ∀(pins:List (Addr×Obj))(s:Shared)(σ:St)(H:Hp)(D:Ends),Inv X pins σ H s->t D σ H->wpAny (model X.prog X.w) X.A (execs st X.env) (SP X pins D) X.xe s
theorem thn{α:Type}{t:Sem α}{Q Q':α->Shared->Prop}{M:Model}{A:Around}{E:Value->Shared->Prop}{s:Shared}(h:wpAny M A t Q E s)(hQ:∀ a s,Q a s->Q' a s):wpAny M A t Q' E s:=wpAny_mono h hQ fun _ _ x=>x
section
variable{X:Cx}
theorem bin{a b:Expr}{ta tb:TE}(ha:PE X a ta)(hb:PE X b tb){pins:List (Addr×Obj)}{s:Shared}{σ:St}{H:Hp}{R:V->V->Hp->Prop}(I:Inv X pins σ H s)(h:ta σ H fun x H1=>tb σ H1 fun y H2=>R x y H2)
  {α:Type} {Q:α->Shared->Prop} {f:Value->Value->Sem α}
  (hf:∀ v u s2 x y H2,Inv X pins σ H2 s2->cV x v->cV y u->R x y H2->wpAny (model X.prog X.w) X.A (f v u) Q X.xe s2):
  wpAny (model X.prog X.w) X.A (eval a X.env) (fun v s₁=>wpAny (model X.prog X.w) X.A (eval b X.env) (fun u s₂=>wpAny (model X.prog X.w) X.A (f v u) Q X.xe s₂) X.xe s₁) X.xe s:=by
 refine thn (ha pins s σ H _ I h) fun v s1 ⟨x,H1,I1,r1,q1⟩=>?_
 refine thn (hb pins s1 σ H1 _ I1 q1) fun u s2 ⟨y,H2,I2,r2,q2⟩=>?_
 exact hf v u s2 x y H2 I2 r1 r2 q2
abbrev zDg(i:Nat):TE:=fun σ H Q=>∃ v,σ[i]?=some (some v)/\Q v H
abbrev tC(v:V):TE:=fun _ H Q=>Q v H
theorem tG{i:Nat}{x:Str}{pos:Pos}(hN:X.N[i]?=some x)(hv:Vis X.env.scope x)(hd:(x==("__debug__" : Str))=false:=by decide)(hcd:(x==("__classdict__" : Str))=false:=by decide):PE X (.Name x pos) (zDg i):=by
 intro pins s σ H Q I h;obtain⟨v,e,h⟩:=h;obtain⟨m,hn,hl⟩:=I.loc;obtain⟨u,r,l⟩:=hl i x v hN e hv;have fin:EP X pins σ Q u s:=⟨v,H,I,r,h⟩;rcases l with⟨hk,hm⟩ | ⟨hk,c,hc,hcell⟩
 ·exact wpAny_Name (wpAny_loadName_local I.ok.kind hk hn hm fin) hd
 ·rcases hk with hk | hk
  ·exact wpAny_Name (wpAny_loadName_cell I.ok.kind hk hc hcell fin) hd
  ·exact wpAny_Name (wpAny_loadName_free I.ok.kind hk hc hcell fin hcd) hd
theorem zGD{i j pos}:PE X (.Constant (.int i) j pos) (tC (.int i)):=fun _ _ _ H _ I h=>wpAny_Constant_int ⟨.int i,H,I.tok _,⟨_,rfl⟩,h⟩
theorem zBO{b j pos}:PE X (.Constant (.bool b) j pos) (tC (.bl b)):=fun _ _ _ H _ I h=>Constant_bool ⟨.bl b,H,I,rfl,h⟩
theorem wM{j pos}:PE X (.Constant .none j pos) (tC .non):=fun _ _ _ H _ I h=>Constant_none ⟨.non,H,I,rfl,h⟩
theorem gN{x j pos}:PE X (.Constant (.str x) j pos) (tC (.str x)):=fun _ _ _ H _ I h=>Calls.Constant_str ⟨.str x,H,I.tok _,⟨_,rfl⟩,h⟩
def Gl(X:Cx)(x:Str):Prop:=X.env.kindOf x=some .globalImplicit
theorem tZ{E:Value->Shared->Prop}{pins:List (Addr×Obj)}{s:Shared}{σ:St}{H:Hp}{x:Str}{u:Value}{pos:Pos}{Q:Value->Shared->Prop}(I:Inv X pins σ H s)(hg:Gl X x)(hm:X.mg x=some u)(h:Q u s)
  (hd:(x==("__debug__" : Str))=false:=by decide):wpAny (model X.prog X.w) X.A (eval (.Name x pos) X.env) Q E s:=
 Calls.Name_function_global I.ok.kind hg (Calls.loadGlobal_global (by rw[I.ok.glob];exact I.mod.glob.keeps I.bk) hm h) hd
theorem oM{E:Value->Shared->Prop}{pins:List (Addr×Obj)}{s:Shared}{σ:St}{H:Hp}{x:Str}{u:Value}{pos:Pos}{Q:Value->Shared->Prop}(I:Inv X pins σ H s)(hg:Gl X x)(hm:X.mg x=none)(hv:bootBuiltins x=some u)(h:Q u s)
  (hn:x ≠ "__name__" := by decide) (hd:(x==("__debug__" : Str))=false:=by decide):wpAny (model X.prog X.w) X.A (eval (.Name x pos) X.env) Q E s:=by
 obtain⟨mb,h1,h2⟩:=I.mod.blt;exact Calls.Name_function_global I.ok.kind hg (Calls.loadGlobal_builtin (by rw[I.ok.glob];exact I.mod.glob.keeps I.bk) hm (by rw[I.ok.blt];exact h1.keeps I.bk) ((h2 x hn).trans hv) h) hd
theorem zGw{x:Str}{v:V}{u:Value}{pos:Pos}(hg:Gl X x)(hm:X.mg x=some u)(r:cV v u)(hd:(x==("__debug__" : Str))=false:=by decide):PE X (.Name x pos) (tC v):=
 fun _ _ _ H _ I h=>tZ I hg hm ⟨v,H,I,r,h⟩ hd
variable{a b:Expr}{ta tb:TE}{pos:Pos}
def PC(X:Cx)(op:CmpOp)(a b:Expr)(t:TE):Prop:=
 ∀(pins:List (Addr×Obj))(s:Shared)(σ:St)(H:Hp)(Q:VK),Inv X pins σ H s->t σ H Q->
  wpAny (model X.prog X.w) X.A (eval a X.env) (fun v s₁=>wpAny (model X.prog X.w) X.A (eval b X.env) (fun u s₂=>wpAny (model X.prog X.w) X.A (compareOp op v u) (EP X pins σ Q) X.xe s₂) X.xe s₁) X.xe s
theorem zJx(b:Expr){op:CmpOp}(h:op≠.In)(h2:op≠.NotIn):behindInMarks op b=false:=by
 have e1:(op==CmpOp.In)=false:=by cases op<;>first | rfl | exact absurd rfl h
 have e2:(op==CmpOp.NotIn)=false:=by cases op<;>first | rfl | exact absurd rfl h2
 cases b<;>simp[behindInMarks,e1,e2]
abbrev tB(t:TE):TT:=fun σ H Q=>t σ H fun x H1=>∃ c,x=.bl c/\Q c H1
theorem zQB{op:CmpOp}{t:TE}(h:PC X op a b t)(h1:behindInMarks op b=false:=by first | exact zJx _ (by decide) (by decide) | rfl):PT X (.Compare a [op] [b] pos) (tB t):=by
 intro pins s σ H Q I hw;refine wpAny_isTrue_Compare1 (thn (h pins s σ H _ I hw) fun v s1 h1=>thn h1 fun u s2 h2=>thn h2 fun c s3 ⟨x,H1,I1,r1,q1⟩=>?_) h1
 obtain⟨d,rfl,q⟩:=q1;cases r1;exact wpAny_truthy_bool ⟨H1,I1,q⟩
theorem zOI{e:Expr}{t:TE}(h:PE X e t)(he:∀ whole,isTrue e X.env whole=(do let v <-whole;standAt e.pos;holding [v] (truthy v)):=by intro _;rfl):PT X e (tB t):=by
 intro pins s σ H Q I hw;refine isTrue_plain (thn (h pins s σ H _ I hw) fun v s1 ⟨x,H1,I1,r1,q1⟩=>?_) (he _)
 obtain⟨d,rfl,q⟩:=q1;cases r1;exact wpAny_truthy_bool ⟨H1,I1,q⟩
variable{tA tB':TT}{rest:List Expr}
abbrev zQT(t u:TT):TT:=fun σ H Q=>t σ H fun c H1=>if c=true then u σ H1 Q else Q false H1
abbrev tOr(t u:TT):TT:=fun σ H Q=>t σ H fun c H1=>if c=true then Q true H1 else u σ H1 Q
abbrev zQS(t:TT):TT:=fun σ H Q=>t σ H fun c H1=>Q (!c) H1
theorem zMq(ha:PT X a tA):PW X (.BoolOp .And [a] pos) tA:=by
 intro wh pins s σ H Q I h;refine isTrue_and (thn (ha pins s σ H Q I h) fun c s1 e=>?_)
 cases c with
 | true=>exact isTrue_and_nil e
 | false=>exact e
theorem zME(ha:PT X a tA):PW X (.BoolOp .Or [a] pos) tA:=by
 intro wh pins s σ H Q I h;refine isTrue_or (thn (ha pins s σ H Q I h) fun c s1 e=>?_)
 cases c with
 | false=>exact isTrue_or_nil e
 | true=>exact e
theorem zNT(ha:PT X a tA)(hb:PW X (.BoolOp .And (b::rest) pos) tB'):PW X (.BoolOp .And (a::b::rest) pos) (zQT tA tB'):=by
 intro wh pins s σ H Q I h;refine isTrue_and (thn (ha pins s σ H _ I h) fun c s1 ⟨H1,I1,q1⟩=>?_)
 cases c with
 | true=>exact hb wh pins s1 σ H1 Q I1 q1
 | false=>exact⟨H1,I1,q1⟩
theorem zQe(ha:PT X a tA)(hb:PW X (.BoolOp .Or (b::rest) pos) tB'):PW X (.BoolOp .Or (a::b::rest) pos) (tOr tA tB'):=by
 intro wh pins s σ H Q I h;refine isTrue_or (thn (ha pins s σ H _ I h) fun c s1 ⟨H1,I1,q1⟩=>?_)
 cases c with
 | true=>exact⟨H1,I1,q1⟩
 | false=>exact hb wh pins s1 σ H1 Q I1 q1
theorem zOZ(ha:PT X a tA):PT X (.UnaryOp .Not a pos) (zQS tA):=by
 intro pins s σ H Q I h;exact isTrue_not (ha pins s σ H (fun c H1=>Q (!c) H1) I h)
abbrev zRf(ta tb:TE):TE:=fun σ H Q=>ta σ H fun x H1=>∃ c,x=.bl c/\if c=true then Q (.bl true) H1 else tb σ H1 Q
theorem zNo{op}{t:TE}(h:PE X a t):PE X (.BoolOp op [a] pos) t:=fun pins s σ H Q I hw=>BoolOp_one (h pins s σ H Q I hw)
theorem zPs(ha:PE X a ta)(hb:PE X (.BoolOp .Or (b::rest) pos) tb):PE X (.BoolOp .Or (a::b::rest) pos) (zRf ta tb):=by
 intro pins s σ H Q I h;refine BoolOp_or (thn (ha pins s σ H _ I h) fun v s1 ⟨x,H1,I1,r1,q1⟩=>?_)
 obtain⟨c,rfl,q1⟩:=q1;cases r1;refine wpAny_truthy_bool ?_
 cases c with
 | false=>exact hb pins s1 σ H1 Q I1 q1
 | true=>exact⟨.bl true,H1,I1,rfl,q1⟩
abbrev tIf(t:TT)(ta tb:TE):TE:=fun σ H Q=>t σ H fun c H1=>if c=true then ta σ H1 Q else tb σ H1 Q
theorem zJd{c:Expr}(hc:PT X c tA)(ha:PE X a ta)(hb:PE X b tb):PE X (.IfExp c a b pos) (tIf tA ta tb):=by
 intro pins s σ H Q I h;refine wpAny_IfExp (thn (hc pins s σ H _ I h) fun d s1 ⟨H1,I1,q1⟩=>?_)
 cases d with
 | true=>exact ha pins s1 σ H1 Q I1 q1
 | false=>exact hb pins s1 σ H1 Q I1 q1
end
def SqL(K:PySem.W.Frag)(H:Hp)(a:Addr)(xs:List V):Prop:=
 Rd H a (.lst xs)∨
  ∃(o:Obj)(its:Array Value)(n:Nat),K.lookup a=some o/\o.cls=.type "list" /\ o.dict=none/\o.data=.seq its n/\its.size<=sizeLine/\dH xs its.toList
def SqT(K:PySem.W.Frag)(H:Hp)(a:Addr)(xs:List V):Prop:=
 Rd H a (.tup xs)∨
  ∃(o:Obj)(its:Array Value)(n:Nat),K.lookup a=some o/\o.cls=.type "tuple" /\ o.data=.seq its n/\its.size<=sizeLine/\dH xs its.toList
def zQQ:Value->Option V
 | .none=>some .non
 | .bool b=>some (.bl b)
 | .int i _=>some (.int i)
 | .str x _=>some (.str x)
 | .bytes b _=>some (.byt b)
 | .float b _=>some (.flt b)
 | .ref a=>some (.ref a)
 | .type n=>some (.ty n)
 | _=>none
theorem cV.abs{x:V}{u:Value}(r:cV x u):zQQ u=some x:=by
 cases x with
 | non=>cases r;rfl
 | bl _=>cases r;rfl
 | int _=>obtain⟨t,rfl⟩:=r;rfl
 | str _=>obtain⟨t,rfl⟩:=r;rfl
 | byt _=>obtain⟨t,rfl⟩:=r;rfl
 | flt _=>obtain⟨t,rfl⟩:=r;rfl
 | ref _=>cases r;rfl
 | ty _=>cases r;rfl
theorem cV.inj{x y:V}{u:Value}(r:cV x u)(q:cV y u):x=y:=Vg (r.abs.symm.trans q.abs)
theorem dH.inj:∀ {xs ys:List V} {us:List Value},dH xs us->dH ys us->xs=ys
 | _,_,_,.nil,.nil=>rfl
 | _,_,_,.cons r t,.cons r' t'=>by rw[r.inj r',dH.inj t t']
section
variable{X:Cx}{pins:List (Addr×Obj)}{σ:St}{H:Hp}{s:Shared}{a:Addr}{xs ys:List V}
theorem SqL.of{K:Fg_}(h:H a=some (.lst xs)):SqL K H a xs:=.inl (.inl h)
theorem SqT.of{K:Fg_}(h:H a=some (.tup xs)):SqT K H a xs:=.inl (.inl h)
theorem Inv.list(I:Inv X pins σ H s)(h:SqL X.K H a xs):∃ its:List Value,dH xs its/\PlainL s.heap a its.toArray/\xs.length<=sizeLine:=by
 rcases h with h | ⟨o,its,n,hk,hc,hd,hs,hz,r⟩
 ·obtain⟨z,its,n,r,e⟩:=h.ok I.hok
  exact⟨its,r,⟨_,n,e,rfl,rfl,rfl⟩,z⟩
 ·refine⟨its.toList,r,⟨o,n,I.kIn a o hk,hc,hd,by simpa using hs⟩,?_⟩
  have e:=r.length;simp only[Xi] at e;omega
theorem Inv.tuple(I:Inv X pins σ H s)(h:SqT X.K H a xs):∃ its:List Value,dH xs its/\IsTup s.heap a its.toArray/\xs.length<=sizeLine:=by
 rcases h with h | ⟨o,its,n,hk,hc,hs,hz,r⟩
 ·obtain⟨z,its,r,p⟩:=h.ok I.hok
  exact⟨its,r,p,z⟩
 ·refine⟨its.toList,r,⟨o,I.kIn a o hk,hc,n,by simpa using hs⟩,?_⟩
  have e:=r.length;simp only[Xi] at e;omega
theorem Inv.list_inj(I:Inv X pins σ H s)(h:SqL X.K H a xs)(h':SqL X.K H a ys):xs=ys:=by
 obtain⟨its,r,⟨o,n,e,_,_,d⟩,_⟩:=I.list h;obtain⟨its',r',⟨o',n',e',_,_,d'⟩,_⟩:=I.list h';rw[e] at e';cases e'
 rw[d] at d';injection d' with d1 _
 have:its=its':=by simpa using congrArg Array.toList d1
 subst this;exact r.inj r'
theorem Inv.tuple_inj(I:Inv X pins σ H s)(h:SqT X.K H a xs)(h':SqT X.K H a ys):xs=ys:=by
 obtain⟨its,r,⟨o,e,_,n,d⟩,_⟩:=I.tuple h;obtain⟨its',r',⟨o',e',_,n',d'⟩,_⟩:=I.tuple h';rw[e] at e';cases e'
 rw[d] at d';injection d' with d1 _
 have:its=its':=by simpa using congrArg Array.toList d1
 subst this;exact r.inj r'
end
abbrev Cx.wish(X:Cx)(E:Value->Shared->Prop):Cx:={ X with xe:=E }
abbrev Cx.nox(X:Cx):Cx:=X.wish fun _ _=>False
theorem Cx.Ok.wish{X:Cx}(ok:X.Ok)(E:Value->Shared->Prop):(X.wish E).Ok:=
 ⟨ok.mod,ok.kind,ok.glob,ok.blt,ok.above,ok.inj,ok.has,ok.cab,ok.hd,ok.frames,ok.stk,ok.exf,ok.bs,ok.bsz,ok.noex,ok.exfs,ok.funs,ok.frf⟩
theorem Cx.Ok.unwish{X:Cx}{E:Value->Shared->Prop}(ok:(X.wish E).Ok):X.Ok:=
 ⟨ok.mod,ok.kind,ok.glob,ok.blt,ok.above,ok.inj,ok.has,ok.cab,ok.hd,ok.frames,ok.stk,ok.exf,ok.bs,ok.bsz,ok.noex,ok.exfs,ok.funs,ok.frf⟩
section
variable{X:Cx}{pins:List (Addr×Obj)}{σ:St}{H:Hp}{s:Shared}{E:Value->Shared->Prop}
theorem Inv.wish(I:Inv X pins σ H s)(E:Value->Shared->Prop):Inv (X.wish E) pins σ H s:=⟨I.ok.wish E,I.os,I.bare,I.base,I.loc,I.cell,I.free,I.freeC,I.pin,I.hok,I.len⟩
theorem Inv.unwish(I:Inv (X.wish E) pins σ H s):Inv X pins σ H s:=⟨I.ok.unwish,I.os,I.bare,I.base,I.loc,I.cell,I.free,I.freeC,I.pin,I.hok,I.len⟩
end
section
variable{X:Cx}{st:Stmt}{rest:List Stmt}{t u:TS}{e:Expr}{te:TE}{pos:Pos}
abbrev zPv:TS:=fun D σ H=>D.nx σ H
abbrev zPK(t u:TS):TS:=fun D σ H=>t { D with nx:=u D } σ H
theorem zKr:PSs X [] zPv:=fun _ _ σ H _ I h=>wpAny_execs_nil ⟨σ,H,I,h⟩
theorem sQ(h1:PS X st t)(h2:PSs X rest u):PSs X (st::rest) (zPK t u):=by
 intro pins s σ H D I h;refine wpAny_execs_cons (thn (h1 pins s σ H { D with nx:=u D } I h) fun f s1 q=>?_)
 cases f with
 | next=>
  obtain⟨σ',H',I',q⟩:=q;exact h2 pins s1 σ' H' D I' q
 | ret v=>exact q
 | brk=>exact q
 | cont=>exact q
theorem zCP(h1:PS X st t):PSs X [st] t:=by
 intro pins s σ H D I h;refine wpAny_execs_cons (thn (h1 pins s σ H D I h) fun f s1 q=>?_)
 cases f with
 | next=>exact wpAny_execs_nil q
 | ret v=>exact q
 | brk=>exact q
 | cont=>exact q
theorem Inv.quiet{pins:List (Addr×Obj)}{σ:St}{H:Hp}{s:Shared}(I:Inv X pins σ H s):interactive X.env=false:=by simp[interactive,I.ok.kind]
abbrev zQh(te:TE):TS:=fun D σ H=>te σ H fun _ H1=>D.nx σ H1
theorem xT(he:PE X e te)(hs:swapsWith e none pos.line X.env=pure false:=by rfl):PS X (.Expr e pos) (zQh te):=by
 intro pins s σ H D I h;exact wpAny_Expr_any (thn (he pins s σ H _ I h) fun v s1 ⟨x,H1,I1,r1,q1⟩=>⟨σ,H1,I1,q1⟩) I.quiet hs
abbrev zQs(te:TE):TS:=fun D σ H=>te σ H D.rt
theorem zDw(he:PE X e te):PS X (.Return (some e) pos) (zQs te):=by
 intro pins s σ H D I h;exact wpAny_Return_some (thn (he pins s σ H _ I h) fun v s1 ⟨x,H1,I1,r1,q1⟩=>⟨x,σ,H1,I1,r1,q1⟩)
abbrev zRp(c:TT)(t u:TS):TS:=fun D σ H=>c σ H fun b H1=>if b=true then t D σ H1 else u D σ H1
theorem zPT{c:Expr}{a b:List Stmt}{tc:TT}(hc:PT X c tc)(ha:PSs X a t)(hb:PSs X b u):PS X (.If c a b pos) (zRp tc t u):=by
 intro pins s σ H D I h;refine wpAny_If (thn (hc pins s σ H _ I h) fun d s1 ⟨H1,I1,q1⟩=>?_)
 cases d with
 | true=>exact ha pins s1 σ H1 D I1 q1
 | false=>exact hb pins s1 σ H1 D I1 q1
end
abbrev TG:=V->St->Hp->(St->Hp->Prop)->Prop
abbrev TGs:=List V->St->Hp->(St->Hp->Prop)->Prop
def PG(X:Cx)(target:Expr)(t:TG):Prop:=
 ∀(pins:List (Addr×Obj))(s:Shared)(σ:St)(H:Hp)(v:V)(u:Value)(Q:St->Hp->Prop),Inv X pins σ H s->cV v u->t v σ H Q->
  wpAny (model X.prog X.w) X.A (assign target X.env u) (fun _ s'=>∃ σ' H',Inv X pins σ' H' s'/\Q σ' H') X.xe s
def PGs(X:Cx)(ts:List Expr)(t:TGs):Prop:=
 ∀(pins:List (Addr×Obj))(s:Shared)(σ:St)(H:Hp)(vs:List V)(us:List Value)(Q:St->Hp->Prop),Inv X pins σ H s->dH vs us->t vs σ H Q->
  wpAny (model X.prog X.w) X.A (assignInOrder ((assignEach ts X.env).map (·.2)) us) (fun _ s'=>∃ σ' H',Inv X pins σ' H' s'/\Q σ' H') X.xe s
abbrev zPD:=V->V->V->Hp->(Hp->Prop)->Prop
def zQo(X:Cx)(t:zPD):Prop:=
 ∀(pins:List (Addr×Obj))(s:Shared)(σ:St)(H:Hp)(o i v:V)(ov iv u:Value)(Q:Hp->Prop),Inv X pins σ H s->cV o ov->cV i iv->cV v u->t o i v H Q->
  wpAny (model X.prog X.w) X.A (setItem ov iv u) (fun _ s'=>∃ H',Inv X pins σ H' s'/\Q H') X.xe s
abbrev TIp:=V->V->Hp->VK->Prop
def PIp(X:Cx)(op:Operator)(t:TIp):Prop:=
 ∀(pins:List (Addr×Obj))(s:Shared)(σ:St)(H:Hp)(x y:V)(v u:Value)(Q:VK),Inv X pins σ H s->cV x v->cV y u->t x y H Q->
  wpAny (model X.prog X.w) X.A (inplaceOp op v u) (EP X pins σ Q) X.xe s
section
variable{X:Cx}{pos:Pos}
abbrev gName(i:Nat):TG:=fun v σ H Q=>Q (σ.set i (some v)) H
theorem zDb{i:Nat}{x:Str}(hN:X.N.Nodup)(hi:X.N[i]?=some x)(hx:Loc X.env.scope x)(hf:X.fn x=true∨X.env.scope.names.lookup x=some .local:=by first | exact .inl rfl | exact .inr rfl | assumption):PG X (.Name x pos) (gName i):=by
 intro pins s σ H v u Q I r h;exact wpAny_assign_Name (pE I hN hi hx r (fun s' I'=>⟨_,H,I',h⟩) hf)
def zAx:TGs:=fun vs σ H Q=>vs=[]/\Q σ H
def fH(t:TG)(u:TGs):TGs:=fun vs σ H Q=>∃ v r,vs=v::r/\t v σ H fun σ' H'=>u r σ' H' Q
theorem zFx:PGs X [] zAx:=by
 intro pins s σ H vs us Q I r h;obtain⟨e,h⟩:=h;subst e;cases r;exact assignInOrder_nil ⟨σ,H,I,h⟩
theorem yE{e:Expr}{es:List Expr}{t:TG}{u:TGs}(h1:PG X e t)(h2:PGs X es u)
  (hs:(assignEach (e::es) X.env).map (·.2)=assign e X.env::(assignEach es X.env).map (·.2):=by rfl):PGs X (e::es) (fH t u):=by
 intro pins s σ H vs us Q I r h;obtain⟨v,vr,e1,h⟩:=h;subst e1
 cases r with
 | cons r rr=>
  rw[hs];refine assignInOrder_cons (thn (h1 pins s σ H _ _ _ I r h) fun _ s1 ⟨σ1,H1,I1,q1⟩=>?_)
  exact h2 pins s1 σ1 H1 _ _ Q I1 rr q1
def zBc(K:PySem.W.Frag)(n:Nat)(t:TGs):TG:=fun v σ H Q=>∃ a xs,v=.ref a/\SqT K H a xs/\xs.length=n/\t xs σ H Q
theorem zJI{es:List Expr}{k:Nat}{t:TGs}{n:Nat}(hc:X.calm=true)(h:PGs X es t)
  (hn:(assignEach es X.env).length=n:=by rfl) (hst:(assignEach es X.env).findIdx? (·.1)=none:=by rfl):PG X (.Tuple es k pos) (zBc X.K n t):=by
 intro pins s σ H v u Q I r hw;obtain⟨a,xs,e1,hq,hl,hw⟩:=hw;subst e1;cases r;obtain⟨its,rv,ht,hz⟩:=I.tuple hq;refine assign_Tuple_tuple (I.ok.hd hc) ht (by simp[hn,<-hl,rv.length]) hst fun h' hx=>?_
 have I1:Inv X pins σ H { s with heap:=h' }:=I.kept (t':=s.toks) fun b o e=>hx b o (Qo (Heap.lt_size e)) e
 exact h pins _ σ H xs _ Q I1 (by simpa using rv) hw
def zRc(to ti:TE)(t:zPD):TG:=fun v σ H Q=>to σ H fun o H1=>ti σ H1 fun i H2=>t o i v H2 fun H3=>Q σ H3
theorem zNY{o i:Expr}{to ti:TE}{t:zPD}(ho:PE X o to)(hi:PE X i ti)(hs:zQo X t)
  (ha:∀ v,assign (.Subscript o i pos) X.env v=(do
   let ov <-holding [v] (eval o X.env)
   let iv <-holding [v,ov] (eval i X.env)
   standAt pos
   holding [v,ov,iv] (setItem ov iv v)
   release [v,ov,iv] []):=by intro _;rfl):PG X (.Subscript o i pos) (zRc to ti t):=by
 intro pins s σ H v u Q I r h;rw[ha];refine wpAny_bind (wpAny_holding (thn (ho pins s σ H _ I h) fun ov s1 ⟨x,H1,I1,r1,q1⟩=>?_))
 refine wpAny_bind (wpAny_holding (thn (hi pins s1 σ H1 _ I1 q1) fun iv s2 ⟨y,H2,I2,r2,q2⟩=>?_))
 refine wpAny_bind (wpAny_standAt (wpAny_bind (wpAny_holding (thn (hs pins s2 σ H2 x y v ov iv u _ I2 r1 r2 r q2) fun _ s3 ⟨H3,I3,q3⟩=>?_))))
 exact wpAny_release ⟨σ,H3,I3,q3⟩
abbrev zPI(te:TE)(g:TG):TS:=fun D σ H=>te σ H fun x H1=>g x σ H1 D.nx
theorem zNf{tg e:Expr}{te:TE}{g:TG}(he:PE X e te)(hg:PG X tg g)(hs:swapsWithSole [tg] e pos.line X.env=pure false:=by rfl)(hw:swappedStores [tg] e X.env=pure none:=by rfl)
  (h1:(assignEach [tg] X.env).map (·.2)=[assign tg X.env]:=by rfl):PS X (.Assign [tg] e pos) (zPI te g):=by
 intro pins s σ H D I h;refine wpAny_Assign_stores (thn (he pins s σ H _ I h) fun v s1 ⟨x,H1,I1,r1,q1⟩=>?_) hs hw
 rw[h1];exact thn (hg pins s1 σ H1 x v _ I1 r1 q1) fun _ s2 q=>q
theorem zKh{i:Nat}{x:Str}{e:Expr}{te:TE}{pos':Pos}(hN:X.N.Nodup)(hi:X.N[i]?=some x)(hx:Loc X.env.scope x)(he:PE X e te)(hs:swapsWith e (some (.Name x pos')) pos.line X.env=pure false:=by rfl)(hf:X.fn x=true∨X.env.scope.names.lookup x=some .local:=by first | exact .inl rfl | exact .inr rfl | assumption):
  PS X (.Assign [.Name x pos'] e pos) (zPI te (gName i)):=by
 intro pins s σ H D I h;refine wpAny_Assign_Name (thn (he pins s σ H _ I h) fun v s1 ⟨y,H1,I1,r1,q1⟩=>?_) hs
 exact pE I1 hN hi hx r1 (fun s2 I2=>⟨_,H1,I2,q1⟩) hf
abbrev zQX(i:Nat)(te:TE)(ti:TIp):TS:=fun D σ H=>∃ x,σ[i]?=some (some x)/\te σ H fun y H1=>ti x y H1 fun z H2=>D.nx (σ.set i (some z)) H2
theorem zNN{i:Nat}{x:Str}{e:Expr}{te:TE}{op:Operator}{ti:TIp}{pos':Pos}(hN:X.N.Nodup)(hi:X.N[i]?=some x)(hx:Loc X.env.scope x)(he:PE X e te)(ho:PIp X op ti)(hf:X.fn x=true∨X.env.scope.names.lookup x=some .local:=by first | exact .inl rfl | exact .inr rfl | assumption):
  PS X (.AugAssign (.Name x pos') op e pos) (zQX i te ti):=by
 intro pins s σ H D I h;obtain⟨v,e1,h⟩:=h;obtain⟨m,hn,hl⟩:=I.loc;have vis:Vis X.env.scope x:=by rcases hx with k | k;exact .inl k;exact .inr (.inl k)
 obtain⟨u,r,l⟩:=hl i x v hi e1 vis;refine wpAny_AugAssign_Name ?_
 have go:wpAny (model X.prog X.w) X.A (eval e X.env) (fun w s₂=>wpAny (model X.prog X.w) X.A (inplaceOp op u w) (fun r s₃=>wpAny (model X.prog X.w) X.A (storeName X.env x r) (fun _=>SP X pins D .next) X.xe s₃) X.xe s₂) X.xe s:=by
  refine thn (he pins s σ H _ I h) fun w s1 ⟨y,H1,I1,r1,q1⟩=>?_
  refine thn (ho pins s1 σ H1 v y u w _ I1 r r1 q1) fun z s2 ⟨zv,H2,I2,r2,q2⟩=>?_
  exact pE I2 hN hi hx r2 (fun s3 I3=>⟨_,H2,I3,q2⟩) hf
 rcases l with⟨hk,hm⟩ | ⟨hk,c,hc,hcell⟩
 ·exact wpAny_loadName_local I.ok.kind hk hn hm go
 ·rcases hk with hk | hk
  ·exact wpAny_loadName_cell I.ok.kind hk hc hcell go
  ·rcases hx with k | k
   ·have:X.env.scope.names.lookup x=some .free:=hk
    rw[k] at this;cases this
   ·have:X.env.scope.names.lookup x=some .free:=hk
    rw[k] at this;cases this
def ipI(f:Int->Int->Int):TIp:=fun x y H Q=>∃ i j,x=.int i/\y=.int j/\Q (.int (f i j)) H
theorem zNS:PIp X .Sub (ipI fun i j=>i-j):=by
 intro pins s σ H x y v u Q I r1 r2 h;obtain⟨i,j,e1,e2,q⟩:=h;subst e1;subst e2
 obtain⟨t,rfl⟩:=r1;obtain⟨t',rfl⟩:=r2;exact isub_int ⟨.int _,H,I.tok _,⟨_,rfl⟩,q⟩
end
section
variable{X:Cx}{pos:Pos}
def zOU(c:TT)(tb:TS):TS:=fun D σ H=>∃ W:Nat->St->Hp->Prop,(∃ m,W m σ H)/\∀ m σ H,W m σ H->
 c σ H fun b H1=>if b=true then ∃ N:St->Hp->Prop,(∀ σ' H',N σ' H'->∃ m',m' < m/\W m' σ' H')/\tb { D with nx:=N,ct:=N,bk:=D.nx } σ H1 else D.nx σ H1
theorem zIZ{c:Expr}{body:List Stmt}{tc:TT}{tb:TS}(hp:PassesOwn (model X.prog X.w) X.A X.env X.xe)(hc:PT X c tc)(hb:PSs X body tb):PS X (.While c body [] pos) (zOU tc tb):=by
 intro pins s σ H D I h;obtain⟨W,⟨m0,w0⟩,turn⟩:=h;refine wpAny_While (codeAny_whileLoop (fun n s'=>∃ σ' H',Inv X pins σ' H' s'/\W n σ' H') ?_ m0 ⟨σ,H,I,w0⟩)
 rintro n s1 ⟨σ1,H1,I1,w1⟩
 refine wpAny_passesOwn hp (thn (hc pins s1 σ1 H1 _ I1 (turn n σ1 H1 w1)) fun b s2 ⟨H2,I2,q2⟩=>?_)
 cases b with
 | true=>
  obtain⟨N,hN,q2⟩:=q2;rw[if_pos rfl];refine wpAny_passesOwn hp (thn (hb pins s2 σ1 H2 _ I2 q2) fun f s3 q3=>?_)
  cases f with
  | next=>
   obtain⟨σ3,H3,I3,n3⟩:=q3;obtain⟨m',hm,w3⟩:=hN σ3 H3 n3;exact⟨m',hm,σ3,H3,I3,w3⟩
  | cont=>
   obtain⟨σ3,H3,I3,n3⟩:=q3;obtain⟨m',hm,w3⟩:=hN σ3 H3 n3;exact⟨m',hm,σ3,H3,I3,w3⟩
  | brk=>exact q3
  | ret v=>exact q3
 | false=>
  rw[if_neg X7];exact wpAny_execs_nil ⟨σ1,H2,I2,q2⟩
end
structure It where
 go:Nat->Hp->Prop
 yld:Nat->Hp->V->Hp->Prop
 stop:Nat->Hp->Prop
def sM(X:Cx)(pins:List (Addr×Obj))(H:Hp)(b:Addr):Prop:=
 H b=none/\b≠X.env.locals/\b∉X.fs/\(b∈X.ex∨X.s₀.heap.objs.size<=b)/\(∀ x c,X.env.cells.lookup x=some c->c≠b)/\∀ p∈X.pn++pins,p.1≠b
theorem Inv.fpOk{X:Cx}{pins:List (Addr×Obj)}{σ:St}{H H':Hp}{s:Shared}{b:Addr}(I:Inv X pins σ H s)(hb:s.heap.objs.size<=b)(hn:H' b=none):sM X pins H' b:=by
 refine⟨hn,X8 (Qn I.lt hb),I.nofs hb,.inr (Qp I.sz hb),fun x c e z=>?_,fun p hp z=>?_⟩
 ·obtain⟨v,q⟩:=I.cell x c e
  exact absurd (Qn q.lt (by rw[z];exact hb)) (Vt _)
 ·exact absurd (Qn (Heap.lt_size (I.pin p hp).1) (by rw[z];exact hb)) (Vt _)
structure Turn (P:Program) (w:World) (K:PySem.W.Frag) (tg:Expr) (J:It) (fp:List Addr) (it:Addr) (tn:Nat->Heap->Prop):Prop where
 mem:it∈fp
 obj:∀ i h,tn i h->∀ b∈fp,∃ o,h.get? b=some o/\∀ v,o.data≠.cell v
 keep:∀ i h h',tn i h->(∀ b∈fp,∀ o,h.get? b=some o->h'.get? b=some o)->tn i h'
 item:∀(X:Cx),X.prog=P->X.w=w->X.K=K->X.calm=true->∀(i:Nat)(pins:List (Addr×Obj))(s:Shared)(σ:St)(H:Hp)(E:Value->Shared->Prop),Inv X pins σ H s->(∀ b∈fp,sM X pins H b)->tn i s.heap->J.go i H->
  wpAny (model P w) X.A (pyNext (.ref it)) (fun r s1=>∃ u,r=some u/\
   wpAny (model P w) X.A (letOwnedTupleGo tg (.ref it) u) (fun _ s2=>∃ x H',Inv X pins σ H' s2/\cV x u/\J.yld i H x H'/\tn (i+1) s2.heap/\∀ b∈fp,H' b=none) E s1) E s
 done:∀(X:Cx),X.prog=P->X.w=w->X.K=K->X.calm=true->∀(i:Nat)(pins:List (Addr×Obj))(s:Shared)(σ:St)(H:Hp)(E:Value->Shared->Prop),Inv X pins σ H s->(∀ b∈fp,sM X pins H b)->tn i s.heap->J.stop i H->
  wpAny (model P w) X.A (pyNext (.ref it)) (fun r s1=>r=none/\Inv X pins σ H s1) E s
 self:∀(A:Around)(i:Nat)(s:Shared)(Q:Value->Shared->Prop)(E:Value->Shared->Prop),tn i s.heap->Q (.ref it) s->wpAny (model P w) A (pyIter (.ref it)) Q E s
abbrev TI:=St->Hp->(It->Hp->Prop)->Prop
def PIE(X:Cx)(pins:List (Addr×Obj))(σ:St)(tg:Expr)(R:It->Hp->Prop)(itv:Value)(s2:Shared):Prop:=
 ∃(it:Addr)(fp:List Addr)(tn:Nat->Heap->Prop)(J:It)(H':Hp),itv=.ref it/\Inv X pins σ H' s2/\Turn X.prog X.w X.K tg J fp it tn/\tn 0 s2.heap/\(∀ b∈fp,sM X pins H' b)/\R J H'
def PI(X:Cx)(tg iter:Expr)(wi:TI):Prop:=
 ∀(pins:List (Addr×Obj))(s:Shared)(σ:St)(H:Hp)(R:It->Hp->Prop),Inv X pins σ H s->wi σ H R->
  wpAny (model X.prog X.w) X.A (eval iter X.env) (fun v s1=>wpAny (model X.prog X.w) X.A (pyIter v) (PIE X pins σ tg R) X.xe s1) X.xe s
theorem zKR{M:Model}{A:Around}{E:Value->Shared->Prop}{s:Shared}{tg:Expr}{it:Addr}{u:Value}{o:Obj}{n:String}{vs:Array Value}{Q:Unit->Shared->Prop}(ho:s.heap.get? it=some o)(hc:o.cls=.type n)(hd:o.data=.fields vs)
    (hn:["enumerate","zip","dict_itemiterator","dict_reverseitemiterator","odict_iterator","itertools.zip_longest","itertools.pairwise"].contains n=false) (hQ:Q () s):wpAny M A (letOwnedTupleGo tg (.ref it) u) Q E s:=by
  unfold letOwnedTupleGo
  cases tg<;>first
    | exact wpAny_pure hQ
    | (cases u<;>first
        | exact wpAny_pure hQ
        | (refine wpAny_bind (wpAny_load ho ?_)
           rw[hc,hd];show wpAny M A (if (["enumerate","zip","dict_itemiterator","dict_reverseitemiterator","odict_iterator","itertools.zip_longest","itertools.pairwise"].contains n && vs[0]?==some (rawInt _))=true then _ else _) Q E s
           rw[if_neg (by intro h;rw[hn,Bool.false_and] at h;cases h)]
           exact wpAny_pure hQ))
def Itl(K:PySem.W.Frag)(a:Addr):It:=
 ⟨fun i H=>∃ xs x,SqL K H a xs/\xs[i]?=some x,fun i H x H'=>H'=H/\∀ xs,SqL K H a xs->xs[i]?=some x,fun i H=>∃ xs,SqL K H a xs/\xs.length<=i⟩
def Itt(K:PySem.W.Frag)(a:Addr):It:=
 ⟨fun i H=>∃ xs x,SqT K H a xs/\xs[i]?=some x,fun i H x H'=>H'=H/\∀ xs,SqT K H a xs->xs[i]?=some x,fun i H=>∃ xs,SqT K H a xs/\xs.length<=i⟩
def Itr(lo:Int)(n:Nat):It:=⟨fun i _=>i<n,fun i H x H'=>H'=H/\x=.int (lo+i),fun i _=>n<=i⟩
theorem zAy{P:Program}{w:World}{K:Fg_}{tg:Expr}(a it:Addr):Turn P w K tg (Itl K a) [it] it (fun i h=>h.IsListIter it a i) where
 mem:=by simp
 obj:=fun i h st b hb=>by
  have e:b=it:=by simpa using hb
  subst e;obtain⟨o,e,c,d⟩:=st;exact⟨o,e,fun v z=>by rw[d] at z;cases z⟩
 keep:=fun i h h' st k=>st.at fun o e=>k it (by simp) o e
 item:=by
  intro X hP hw hK hc i pins s σ H E I hf st hg;subst hP hw hK;obtain⟨xs,x,hq,hx⟩:=hg;obtain⟨its,rv,p,hz⟩:=I.list hq;obtain⟨u,hu,ru⟩:=rv.get hx;obtain⟨f0,f1,f2,f3,f4,f5⟩:=hf it (by simp)
  refine wpAny_pyNext_list_item st p.isList (x:=u) (by simpa using hu) fun h' st' sb=>?_
  have I1:Inv X pins σ H { s with heap:=h' }:=I.turned (t':=s.toks) (fun b o hb e=>(sb.2 b hb).trans e) f0 f1 f3 f4 f5
  obtain⟨o,e,c,d⟩:=id st';exact⟨u,rfl,zKR (s:={ s with heap:=h' }) e c d (by decide) ⟨x,H,I1,ru,⟨rfl,fun ys hy=>by rw[I.list_inj hy hq];exact hx⟩,st',fun b hb=>(hf b hb).1⟩⟩
 done:=by
  intro X hP hw hK hc i pins s σ H E I hf st hg;subst hP hw hK;obtain⟨xs,hq,hx⟩:=hg;obtain⟨its,rv,p,hz⟩:=I.list hq;obtain⟨f0,f1,f2,f3,f4,f5⟩:=hf it (by simp)
  have hl:=rv.length;exact wpAny_pyNext_list_end (I.ok.hd hc) st p.isList (by simp;omega) fun h' eb=>⟨rfl,I.turned (t':=s.toks) (fun b o hb e=>eb b o hb e) f0 f1 f3 f4 f5⟩
 self:=fun _ _ _ _ _ st h=>wpAny_pyIter_listiter st h
theorem zEJ{P:Program}{w:World}{K:Fg_}{tg:Expr}(a it:Addr):Turn P w K tg (Itt K a) [it] it (fun i h=>h.IsTupleIter it a i) where
 mem:=by simp
 obj:=fun i h st b hb=>by
  have e:b=it:=by simpa using hb
  subst e;obtain⟨o,e,c,d⟩:=st;exact⟨o,e,fun v z=>by rw[d] at z;cases z⟩
 keep:=fun i h h' st k=>st.at fun o e=>k it (by simp) o e
 item:=by
  intro X hP hw hK hc i pins s σ H E I hf st hg;subst hP hw hK;obtain⟨xs,x,hq,hx⟩:=hg;obtain⟨its,rv,p,hz⟩:=I.tuple hq;obtain⟨u,hu,ru⟩:=rv.get hx;obtain⟨f0,f1,f2,f3,f4,f5⟩:=hf it (by simp)
  refine wpAny_pyNext_tuple_item st (show s.heap.IsTuple a its.toArray from p) (x:=u) (by simpa using hu) fun h' st' sb=>?_
  have I1:Inv X pins σ H { s with heap:=h' }:=I.turned (t':=s.toks) (fun b o hb e=>(sb.2 b hb).trans e) f0 f1 f3 f4 f5
  obtain⟨o,e,c,d⟩:=id st';exact⟨u,rfl,zKR (s:={ s with heap:=h' }) e c d (by decide) ⟨x,H,I1,ru,⟨rfl,fun ys hy=>by rw[I.tuple_inj hy hq];exact hx⟩,st',fun b hb=>(hf b hb).1⟩⟩
 done:=by
  intro X hP hw hK hc i pins s σ H E I hf st hg;subst hP hw hK;obtain⟨xs,hq,hx⟩:=hg;obtain⟨its,rv,p,hz⟩:=I.tuple hq;obtain⟨f0,f1,f2,f3,f4,f5⟩:=hf it (by simp)
  have hl:=rv.length;exact wpAny_pyNext_tuple_end (I.ok.hd hc) st (show s.heap.IsTuple a its.toArray from p) (by simp;omega) fun h' eb=>⟨rfl,I.turned (t':=s.toks) (fun b o hb e=>eb b o hb e) f0 f1 f3 f4 f5⟩
 self:=fun _ _ _ _ _ st h=>wpAny_pyIter_tupleiter st h
theorem zEQ{P:Program}{w:World}{K:Fg_}{tg:Expr}(it:Addr)(lo:Int)(n:Nat):Turn P w K tg (Itr lo n) [it] it (fun i h=>IsRangeIter h it (lo+(i:Nat)*1) ((n:Int)-(i:Nat)) 1) where
 mem:=by simp
 obj:=fun i h st b hb=>by
  have e:b=it:=by simpa using hb
  subst e
  exact⟨_,st,fun v z=>by
   have z':Data.fields _=Data.cell v:=z
   cases z'⟩
 keep:=fun i h h' st k=>k it (by simp) _ st
 item:=by
  intro X hP hw hK hc i pins s σ H E I hf st hg;subst hP hw hK;obtain⟨f0,f1,f2,f3,f4,f5⟩:=hf it (by simp)
  have W:=Walks.range (prog:=X.prog) (w:=X.w) (I.ok.hd hc) it lo 1 n;refine W.item i s _ _ hg st fun v h' tk hv st' kk=>?_
  obtain⟨t,rfl⟩:=hv;have I1:Inv X pins σ H { s with heap:=h',toks:=tk }:=I.turned (fun b o hb e=>kk b o (by simpa using hb) e) f0 f1 f3 f4 f5
  refine⟨_,rfl,zKR (s:={ s with heap:=h',toks:=tk }) (n := "range_iterator") st' rfl rfl (by decide) ⟨.int (lo+i),H,I1,⟨t,?_⟩,⟨rfl,rfl⟩,st',fun b hb=>(hf b hb).1⟩⟩
  rw[Vx]
 done:=by
  intro X hP hw hK hc i pins s σ H E I hf st hg;subst hP hw hK;obtain⟨f0,f1,f2,f3,f4,f5⟩:=hf it (by simp)
  exact wpAny_pyNext_range_end (I.ok.hd hc) st (by have:n<=i:=hg;omega) fun h' eb=>⟨rfl,I.turned (t':=s.toks) (fun b o hb e=>eb b o hb e) f0 f1 f3 f4 f5⟩
 self:=fun _ _ _ _ _ st h=>wpAny_pyIter_rangeiter st h
section
variable{X:Cx}{tg:Expr}
abbrev zPS(K:PySem.W.Frag)(tl:TE):TI:=fun σ H R=>tl σ H fun x H1=>∃ a,x=.ref a/\(∃ xs,SqL K H1 a xs)/\R (Itl K a) H1
theorem zMh{l:Expr}{tl:TE}(hl:PE X l tl):PI X tg l (zPS X.K tl):=by
 intro pins s σ H R I h;refine thn (hl pins s σ H _ I h) fun v s1 ⟨x,H1,I1,r1,q1⟩=>?_
 obtain⟨a,e,⟨xs,hq⟩,q⟩:=q1;subst e;cases r1;obtain⟨its,rv,p,hz⟩:=I1.list hq;refine wpAny_pyIter_list p.isList ?_
 refine⟨s1.heap.objs.size,[s1.heap.objs.size],_,_,H1,rfl,I1.kept (t':=s1.toks) fun b o e=>Heap.get?_push_of_some _ e,zAy a _,⟨_,Heap.get?_push_size _ rfl,rfl,rfl⟩,fun b hb=>?_,q⟩
 have e:b=s1.heap.objs.size:=by simpa using hb
 subst e;exact I1.fpOk (Qb _) (I1.hok.fresh (Qb _))
theorem zDn{pins:List (Addr×Obj)}{σ:St}{H:Hp}{s:Shared}{R:It->Hp->Prop}{E:Value->Shared->Prop}{lo hi:Int}{t u v:Tok}{tk:Nat}(I:Inv X pins σ H s)(h1:-(2^62)<=lo)(h2:lo<2^62)(h3:-(2^62)<=hi)(h4:hi<2^62)
  (q:R (Itr lo (hi-lo).toNat) H):wpAny (model X.prog X.w) X.A (pyIter (.ref s.heap.objs.size)) (PIE X pins σ tg R) E { s with heap:=s.heap.push { cls:=.type "range", data:=.fields #[.int lo t,.int hi u,.int 1 v] },toks:=tk }:=by
 refine wpAny_pyIter_range (IsRange.new ..) (small_one h1 h2 h3 h4) ?_
 have I1:Inv X pins σ H { s with heap:=s.heap.push { cls:=.type "range", data:=.fields #[.int lo t,.int hi u,.int 1 v] },toks:=tk }:=I.kept fun b o e=>Heap.get?_push_of_some _ e
 refine⟨(s.heap.push { cls:=.type "range", data:=.fields #[.int lo t,.int hi u,.int 1 v] }).objs.size,[(s.heap.push { cls:=.type "range", data:=.fields #[.int lo t,.int hi u,.int 1 v] }).objs.size],_,_,H,rfl,
  I1.kept (t':=tk) fun b o e=>Heap.get?_push_of_some _ e,zEQ _ lo (hi-lo).toNat,?_,fun b hb=>?_,q⟩
 ·have e1:lo+((0:Nat):Int)*1=lo:=by simp
  have e2:(((hi-lo).toNat:Nat):Int)-((0:Nat):Int)=Builtin.Range.rangeSize lo hi 1:=by rw[rangeSize_one];split<;>omega
  show IsRangeIter _ _ (lo+((0:Nat):Int)*1) ((((hi-lo).toNat:Nat):Int)-((0:Nat):Int)) 1
  rw[e1,e2];exact Heap.get?_push_size _ rfl
 ·have e:b=(s.heap.push { cls:=.type "range", data:=.fields #[.int lo t,.int hi u,.int 1 v] }).objs.size:=by simpa using hb
  subst e;exact I1.fpOk (Qb _) (I1.hok.fresh (Qb _))
abbrev zB(ta:TA):TI:=fun σ H R=>ta σ H fun vs H1=>∃ j:Int,vs=[.int j]/\-(2^62)<=j/\j<2^62/\R (Itr 0 j.toNat) H1
abbrev zFf(ta:TA):TI:=fun σ H R=>ta σ H fun vs H1=>∃ i j:Int,vs=[.int i,.int j]/\(-(2^62)<=i/\i<2^62/\-(2^62)<=j/\j<2^62)/\R (Itr i (j-i).toNat) H1
theorem zFC{a:Expr}{ta:TA}{p pos:Pos}(hg:Gl X "range")(hm:X.mg "range" = none)(ha:PA X [a] ta)(hs:starEach [a] X.env=[(false,eval a X.env)]:=by rfl):PI X tg (.Call (.Name "range" p) [a] [] pos) (zB ta):=by
 intro pins s σ H R I h;refine Call_ (oM I hg hm boot_range (X9 (thn (ha pos pins s σ H _ I h) fun us s1 ⟨vs,H1,I1,r1,q1⟩=>?_) hs rfl))
 obtain⟨j,e,q1,q2,q⟩:=q1;subst e
 cases r1 with
 | cons r rr=>
  cases rr;obtain⟨t,rfl⟩:=r;exact call_range_1 (zDn I1 (by omega) (by omega) q1 q2 (by simpa using q))
theorem zGe{a b:Expr}{ta:TA}{p pos:Pos}(hg:Gl X "range")(hm:X.mg "range" = none)(ha:PA X [a,b] ta)(hs:starEach [a,b] X.env=[(false,eval a X.env),(false,eval b X.env)]:=by rfl)(hs2:starEach [b] X.env=[(false,eval b X.env)]:=by rfl):
  PI X tg (.Call (.Name "range" p) [a,b] [] pos) (zFf ta):=by
 intro pins s σ H R I h;refine Call_ (oM I hg hm boot_range (X9 (thn (ha pos pins s σ H _ I h) fun us s1 ⟨vs,H1,I1,r1,q1⟩=>?_) (by rw[hs,hs2]) (by rw[hs2];rfl)))
 obtain⟨i,j,e,⟨q1,q2,q3,q4⟩,q⟩:=q1;subst e
 cases r1 with
 | cons r rr=>
  cases rr with
  | cons r' rr=>
   cases rr;obtain⟨t,rfl⟩:=r;obtain⟨t',rfl⟩:=r';exact call_range_2 (zDn I1 q1 q2 q3 q4 q)
abbrev zQx(wi:TI)(g:TG)(tb:TS):TS:=fun D σ H=>wi σ H fun J H1=>∃ W:Nat->Nat->St->Hp->Prop,(∃ m,W 0 m σ H1)/\∀ i m σ H,W i m σ H->
 (J.stop i H/\D.nx σ H)∨(J.go i H/\∃ N:St->Hp->Prop,(∀ σ' H',N σ' H'->∃ m',m' < m/\W (i+1) m' σ' H')/\∀ x H',J.yld i H x H'->g x σ H' fun σ2 H2=>tb { D with nx:=N,ct:=N,bk:=D.nx } σ2 H2)
def tU(fp:List Addr)(h:Heap):List (Addr×Obj):=fp.filterMap fun b=>(h.get? b).map fun o=>(b,o)
theorem eU{fp:List Addr}{h:Heap}{b:Addr}{o:Obj}(hb:b∈fp)(e:h.get? b=some o):(b,o)∈tU fp h:=Ul.mpr ⟨b,hb,by rw[e];rfl⟩
theorem zFn{fp:List Addr}{h:Heap}{p:Addr×Obj}(hp:p∈tU fp h):p.1∈fp/\h.get? p.1=some p.2:=by
 obtain⟨b,hb,e⟩:=Ul.mp hp
 cases q:h.get? b with
 | none=>rw[q] at e;cases e
 | some o=>
  rw[q] at e;have e':(b,o)=p:=Vg e;subst e';exact⟨hb,q⟩
theorem Inv.pinned{pins:List (Addr×Obj)}{σ:St}{H:Hp}{s:Shared}{fp:List Addr}(I:Inv X pins σ H s)(hf:∀ b∈fp,sM X pins H b)(ho:∀ b∈fp,∃ o,s.heap.get? b=some o/\∀ v,o.data≠.cell v):Inv X (pins++tU fp s.heap) σ H s:=
 I.pins_of fun p hp=>(V6.mp hp).elim (fun z=>I.pin p (Qx _ z)) fun z=>by
  obtain⟨hb,e⟩:=zFn z;obtain⟨f0,f1,f2,_⟩:=hf p.1 hb;obtain⟨o,e',d⟩:=ho p.1 hb;rw[e] at e';cases e'
  exact⟨e,f0,f1,f2,d⟩
theorem Inv.unpinned{pins pl:List (Addr×Obj)}{σ:St}{H:Hp}{s:Shared}(I:Inv X (pins++pl) σ H s):Inv X pins σ H s:=I.pins_of fun p hp=>I.pin p (Qx _ (Xw _ hp))
theorem zJM{iter:Expr}{body:List Stmt}{wi:TI}{g:TG}{tb:TS}{pos:Pos}(hp:PassesOwn (model X.prog X.w) X.A X.env X.xe)(hc:X.calm=true)(hi:PI X tg iter wi)(hg:PG X tg g)(hb:PSs X body tb)
  (hs:∀ x,foldedSetIterable iter X.env x=pure x:=by intro _;rfl):PS X (.For tg iter body [] pos) (zQx wi g tb):=by
 intro pins s σ H D I h;refine wpAny_For (thn (hi pins s σ H _ I h) fun v s1 h1=>thn h1 fun itv s2 h2=>?_) hs
 obtain⟨it,fp,tn,J,H2,e,I2,T,st2,f2,W,⟨m0,w0⟩,turn⟩:=h2;subst e;have stat:∀ {H':Hp},(∀ b∈fp,H' b=none)->∀ b∈fp,sM X pins H' b:=fun hn b hb=>⟨hn b hb,(f2 b hb).2⟩
 refine codeAny_forLoop_any (fun n s'=>∃ i σ' H',Inv X pins σ' H' s'/\tn i s'.heap/\(∀ b∈fp,H' b=none)/\W i n σ' H') ?_ m0 ⟨0,σ,H2,I2,st2,fun b hb=>(f2 b hb).1,w0⟩
 rintro n s3 ⟨i,σ3,H3,I3,st3,fr3,w3⟩
 rcases turn i n σ3 H3 w3 with⟨stop,qn⟩ | ⟨go,N,hN,step⟩
 ·refine wpAny_passesOwn hp (thn (T.done X rfl rfl rfl hc i pins s3 σ3 H3 X.xe I3 (stat fr3) st3 stop) fun r s4 ⟨hr,I4⟩=>?_)
  subst hr;exact wpAny_execs_nil ⟨σ3,H3,I4,qn⟩
 ·refine wpAny_passesOwn hp (thn (T.item X rfl rfl rfl hc i pins s3 σ3 H3 X.xe I3 (stat fr3) st3 go) fun r s4 ⟨u,hr,h4⟩=>?_)
  subst hr;refine wpAny_passesOwn hp (thn h4 fun _ s5 ⟨x,H5,I5,r5,y5,st5,fr5⟩=>?_)
  have I5':=I5.pinned (stat fr5) (T.obj _ _ st5);refine wpAny_passesOwn hp (thn (hg _ s5 σ3 H5 x u _ I5' r5 (step x H5 y5)) fun _ s6 ⟨σ6,H6,I6,q6⟩=>?_)
  refine wpAny_passesOwn hp (thn (hb _ s6 σ6 H6 _ I6 q6) fun f s7 q7=>?_)
  have again:∀ {σ7:St} {H7:Hp},Inv X (pins++tU fp s5.heap) σ7 H7 s7->N σ7 H7->∃ m,m<n/\∃ i σ' H',Inv X pins σ' H' s7/\tn i s7.heap/\(∀ b∈fp,H' b=none)/\W i m σ' H':=fun {σ7 H7} I7 n7=>by
   obtain⟨m',hm,w7⟩:=hN σ7 H7 n7;refine⟨m',hm,i+1,σ7,H7,I7.unpinned,T.keep _ _ _ st5 fun b hb o e=>(I7.pin (b,o) (Qx _ (Qx _ (eU hb e)))).1,fun b hb=>?_,w7⟩
   obtain⟨o,e,d⟩:=T.obj _ _ st5 b hb;exact(I7.pin (b,o) (Qx _ (Qx _ (eU hb e)))).2.1
  cases f with
  | next=>obtain⟨σ7,H7,I7,n7⟩:=q7;exact again I7 n7
  | cont=>obtain⟨σ7,H7,I7,n7⟩:=q7;exact again I7 n7
  | brk=>obtain⟨σ7,H7,I7,q7⟩:=q7;exact⟨σ7,H7,I7.unpinned,q7⟩
  | ret v=>obtain⟨x7,σ7,H7,I7,r7,q7⟩:=q7;exact⟨x7,σ7,H7,I7.unpinned,r7,q7⟩
end
abbrev R2:=V->V->Hp->VK->Prop
def OpR(X:Cx)(f:Value->Value->Sem Value)(r:R2):Prop:=
 ∀(pins:List (Addr×Obj))(s:Shared)(σ:St)(H:Hp)(x y:V)(v u:Value)(Q:VK),Inv X pins σ H s->cV x v->cV y u->r x y H Q->
  wpAny (model X.prog X.w) X.A (f v u) (EP X pins σ Q) X.xe s
def UnR(X:Cx)(f:Value->Sem Value)(r:V->Hp->VK->Prop):Prop:=
 ∀(pins:List (Addr×Obj))(s:Shared)(σ:St)(H:Hp)(x:V)(v:Value)(Q:VK),Inv X pins σ H s->cV x v->r x H Q->
  wpAny (model X.prog X.w) X.A (f v) (EP X pins σ Q) X.xe s
def vL(X:Cx)(f:Value)(r:List V->Hp->VK->Prop):Prop:=
 ∀(pins:List (Addr×Obj))(s:Shared)(σ:St)(H:Hp)(xs:List V)(us:List Value)(Q:VK),Inv X pins σ H s->dH xs us->r xs H Q->
  wpAny (model X.prog X.w) X.A (call f us) (EP X pins σ Q) X.xe s
abbrev tOp(r:R2)(ta tb:TE):TE:=fun σ H Q=>ta σ H fun x H1=>tb σ H1 fun y H2=>r x y H2 Q
abbrev tUn(r:V->Hp->VK->Prop)(ta:TE):TE:=fun σ H Q=>ta σ H fun x H1=>r x H1 Q
def rI(C:Int->Int->Prop)(g:Int->Int->V):R2:=fun x y H Q=>∃ i j,x=.int i/\y=.int j/\C i j/\Q (g i j) H
def rI0(g:Int->Int->V):R2:=fun x y H Q=>∃ i j,x=.int i/\y=.int j/\Q (g i j) H
def rU(g:Int->V):V->Hp->VK->Prop:=fun x H Q=>∃ i,x=.int i/\Q (g i) H
section
variable{X:Cx}{a b c:Expr}{ta tb tc:TE}{pos:Pos}
theorem zQc(ha:PE X a ta)(hb:PE X b tb){pins:List (Addr×Obj)}{s:Shared}{σ:St}{H:Hp}{R:V->V->Hp->Prop}(I:Inv X pins σ H s)
  (h:ta σ H fun x H1=>tb σ H1 fun y H2=>R x y H2) {Q:Value->Shared->Prop} {f:Value->Value->Sem Value}
  (hf:∀ v u s2 x y H2,Inv X pins σ H2 s2->cV x v->cV y u->R x y H2->wpAny (model X.prog X.w) X.A (f v u) Q X.xe s2):
  wpAny (model X.prog X.w) X.A (eval a X.env) (fun v s₁=>wpAny (model X.prog X.w) X.A (eval b X.env) (fun u s₂=>wpAny (model X.prog X.w) X.A (f v u) Q X.xe s₂) X.xe s₁) X.xe s:=by
 refine thn (ha pins s σ H _ I h) fun v s1 ⟨x,H1,I1,r1,q1⟩=>?_
 refine thn (hb pins s1 σ H1 _ I1 q1) fun u s2 ⟨y,H2,I2,r2,q2⟩=>?_
 exact hf v u s2 x y H2 I2 r1 r2 q2
theorem zBd{op:Operator}{r:R2}(ho:OpR X (binaryOp op) r)(ha:PE X a ta)(hb:PE X b tb):PE X (.BinOp a op b pos) (tOp r ta tb):=by
 intro pins s σ H Q I h;exact wpAny_BinOp (zQc ha hb I h fun v u s2 x y H2 I2 rx ry q=>ho pins s2 σ H2 x y v u Q I2 rx ry q)
theorem zPQ{op:UnaryOp}{r:V->Hp->VK->Prop}(ho:UnR X (unaryOp op) r)(ha:PE X a ta):PE X (.UnaryOp op a pos) (tUn r ta):=by
 intro pins s σ H Q I h;exact UnaryOp_ (thn (ha pins s σ H _ I h) fun v s1 ⟨x,H1,I1,r1,q1⟩=>ho pins s1 σ H1 x v Q I1 r1 q1)
theorem opI{f:Value->Value->Sem Value}{C:Int->Int->Prop}{g:Int->Int->Int}
  (rule:∀(i j:Int)(t u:Tok)(s:Shared)(Q:Value->Shared->Prop)(E:Value->Shared->Prop),C i j->Q (.int (g i j) s.toks) { s with toks:=s.toks+1 }->wpAny (model X.prog X.w) X.A (f (.int i t) (.int j u)) Q E s):
  OpR X f (rI C fun i j=>.int (g i j)):=by
 intro pins s σ H x y v u Q I rx ry h;obtain⟨i,j,rfl,rfl,hc,q⟩:=h;obtain⟨t,rfl⟩:=rx;obtain⟨t',rfl⟩:=ry;exact rule i j t t' s _ _ hc ⟨.int (g i j),H,I.tok _,⟨_,rfl⟩,q⟩
theorem zQj{f:Value->Value->Sem Value}{g:Int->Int->Int}
  (rule:∀(i j:Int)(t u:Tok)(s:Shared)(Q:Value->Shared->Prop)(E:Value->Shared->Prop),Q (.int (g i j) s.toks) { s with toks:=s.toks+1 }->wpAny (model X.prog X.w) X.A (f (.int i t) (.int j u)) Q E s):
  OpR X f (rI0 fun i j=>.int (g i j)):=by
 intro pins s σ H x y v u Q I rx ry h;obtain⟨i,j,rfl,rfl,q⟩:=h;obtain⟨t,rfl⟩:=rx;obtain⟨t',rfl⟩:=ry;exact rule i j t t' s _ _ ⟨.int (g i j),H,I.tok _,⟨_,rfl⟩,q⟩
theorem zPw{f:Value->Value->Sem Value}{g:Int->Int->Bool}
  (rule:∀(i j:Int)(t u:Tok)(s:Shared)(Q:Value->Shared->Prop)(E:Value->Shared->Prop),Q (.bool (g i j)) s->wpAny (model X.prog X.w) X.A (f (.int i t) (.int j u)) Q E s):
  OpR X f (rI0 fun i j=>.bl (g i j)):=by
 intro pins s σ H x y v u Q I rx ry h;obtain⟨i,j,rfl,rfl,q⟩:=h;obtain⟨t,rfl⟩:=rx;obtain⟨t',rfl⟩:=ry;exact rule i j t t' s _ _ ⟨.bl (g i j),H,I,rfl,q⟩
def zPk(i j:Int):Prop:=(-(2^64)<i/\i<2^64)∨(-(2^64)<j/\j<2^64)
theorem zPk.ok{i j:Int}(h:zPk i j):IntMulOk i j:=by
 rcases h with⟨h1,h2⟩ | ⟨h1,h2⟩
 ·exact .of_left (intBits_le_64 h1 h2)
 ·exact .of_right (intBits_le_64 h1 h2)
theorem zMJ:OpR X (binaryOp .Add) (rI0 fun i j=>.int (i+j)):=zQj fun _ _ _ _ _ _ _ q=>add_int q
theorem zHB:OpR X (binaryOp .Sub) (rI0 fun i j=>.int (i-j)):=zQj fun _ _ _ _ _ _ _ q=>sub_int q
theorem bJ:OpR X (binaryOp .Mod) (rI (fun _ j=>j≠0) fun i j=>.int (i.fmod j)):=opI fun _ _ _ _ _ _ _ hc q=>mod_int' hc q
theorem unI{f:Value->Sem Value}{g:Int->Int}
  (rule:∀(i:Int)(t:Tok)(s:Shared)(Q:Value->Shared->Prop)(E:Value->Shared->Prop),Q (.int (g i) s.toks) { s with toks:=s.toks+1 }->wpAny (model X.prog X.w) X.A (f (.int i t)) Q E s):
  UnR X f (rU fun i=>.int (g i)):=by
 intro pins s σ H x v Q I rx h;obtain⟨i,rfl,q⟩:=h;obtain⟨t,rfl⟩:=rx;exact rule i t s _ _ ⟨.int (g i),H,I.tok _,⟨_,rfl⟩,q⟩
theorem zNp:UnR X (unaryOp .USub) (rU fun i=>.int (-i)):=unI fun _ _ _ _ _ q=>neg_int q
end
section
variable{X:Cx}{a b c:Expr}{ta tb tc:TE}{pos:Pos}
theorem zMP{pins:List (Addr×Obj)}{σ:St}{H:Hp}{s:Shared}{Q:VK}{k k':Bool}(I:Inv X pins σ H s)(q:Q (.bl k) H)(e:k=k'):EP X pins σ Q (.bool k') s:=by
 subst e;exact⟨.bl k,H,I,rfl,q⟩
theorem uA:OpR X (compareOp .Lt) (rI0 fun i j=>.bl (decide (i<j))):=zPw fun _ _ _ _ _ _ _ q=>lt_int q
theorem uZ:OpR X (compareOp .Gt) (rI0 fun i j=>.bl (decide (j<i))):=zPw fun _ _ _ _ _ _ _ q=>gt_int q
theorem zJc:OpR X (compareOp .GtE) (rI0 fun i j=>.bl (decide (j<=i))):=zPw fun _ _ _ _ _ _ _ q=>ge_int q
theorem zLK:OpR X (compareOp .IsNot) (fun x y H Q=>y=.non/\Q (.bl (!decide (x=.non))) H):=by
 intro pins s σ H x y v u Q I rx ry h;obtain⟨rfl,q⟩:=h;cases ry;refine isnot_none_gen (zMP I q ?_)
 cases x<;>first
  | (cases rx;rfl)
  | (obtain⟨t,rfl⟩:=rx;rfl)
theorem OpR.or{f:Value->Value->Sem Value}{r r':R2}(h:OpR X f r)(h':OpR X f r'):OpR X f (fun x y H Q=>r x y H Q∨r' x y H Q):=by
 intro pins s σ H x y v u Q I rx ry q;rcases q with q | q
 ·exact h pins s σ H x y v u Q I rx ry q
 ·exact h' pins s σ H x y v u Q I rx ry q
theorem bC(b:Expr){op:CmpOp}(h:op≠.In:=by decide)(h2:op≠.NotIn:=by decide):behindInMarks op b=false:=by
 have e1:(op==CmpOp.In)=false:=by cases op<;>first | rfl | exact absurd rfl h
 have e2:(op==CmpOp.NotIn)=false:=by cases op<;>first | rfl | exact absurd rfl h2
 cases b<;>simp[behindInMarks,e1,e2]
theorem zMl{op:CmpOp}{r:R2}(ho:OpR X (compareOp op) r)(ha:PE X a ta)(hb:PE X b tb)(hm:behindInMarks op b=false):PE X (.Compare a [op] [b] pos) (tOp r ta tb):=by
 intro pins s σ H Q I h;exact wpAny_Compare1 (zQc ha hb I h fun v u s2 x y H2 I2 rx ry q=>ho pins s2 σ H2 x y v u Q I2 rx ry q) hm
abbrev zNw(t:TE):TT:=fun σ H Q=>t σ H fun x H'=>∃ k,x=.bl k/\Q k H'
theorem zCS{op:CmpOp}{r:R2}(ho:OpR X (compareOp op) r)(ha:PE X a ta)(hb:PE X b tb)(hm:behindInMarks op b=false):PT X (.Compare a [op] [b] pos) (zNw (tOp r ta tb)):=by
 intro pins s σ H Q I h
 refine wpAny_isTrue_Compare1 (thn (ha pins s σ H _ I h) fun v s1 ⟨x,H1,I1,r1,q1⟩=>thn (hb pins s1 σ H1 _ I1 q1) fun u s2 ⟨y,H2,I2,r2,q2⟩=>
  thn (ho pins s2 σ H2 x y v u _ I2 r1 r2 q2) fun c s3 ⟨z,H3,I3,r3,k,e,q3⟩=>?_) hm
 subst e;cases r3;exact wpAny_truthy_bool ⟨H3,I3,q3⟩
theorem zEi:(sizeLine:Nat)<2^63:=by rw[sizeLine_eq];decide
theorem zCD{x:V}{us:List Value}(r:dH [x] us):∃ u,us=[u]/\cV x u:=by
 cases r with
 | cons r1 r2=>cases r2;exact⟨_,rfl,r1⟩
theorem zPy{x y:V}{us:List Value}(r:dH [x,y] us):∃ u w',us=[u,w']/\cV x u/\cV y w':=by
 cases r with
 | cons r1 r2=>
  cases r2 with
  | cons r3 r4=>cases r4;exact⟨_,_,rfl,r1,r3⟩
theorem zU:vL X (.builtin "abs") (fun xs H Q=>∃ i,xs=[.int i]/\Q (.int (if i<0 then -i else i)) H):=by
 intro pins s σ H xs us Q I r h;obtain⟨i,rfl,q⟩:=h;obtain⟨u,rfl,t,rfl⟩:=zCD r;exact call_abs_int fun u tk=>⟨.int (if i<0 then -i else i),H,I.tok _,⟨_,rfl⟩,q⟩
theorem zGi(hc:X.calm=true):vL X (.builtin "min") (fun xs H Q=>∃ i j,xs=[.int i,.int j]/\Q (.int (if j<i then j else i)) H):=by
 intro pins s σ H xs us Q I r h;obtain⟨i,j,rfl,q⟩:=h;obtain⟨u,w',rfl,⟨t,rfl⟩,⟨t',rfl⟩⟩:=zPy r;refine min_two_ints (I.ok.hd hc) fun h' tk k=>⟨_,H,I.kept k,?_,q⟩
 by_cases hj:j<i
 ·rw[if_pos hj,if_pos hj];exact⟨_,rfl⟩
 ·rw[if_neg hj,if_neg hj];exact⟨_,rfl⟩
end
section
variable{prog:Program}{w:World}{A:Around}{E:Value->Shared->Prop}{s:Shared}{K:Fg_}{x dx C f:Addr}{mA:Str->Option Value}{name:Str}{v:Value}
end
section
variable{P:Program}{w:World}{H H':Hp}{h h':Heap}{a C dx:Addr}{fs fs':List (Str×V)}
end
section
variable{X:Cx}{pins:List (Addr×Obj)}{σ:St}{H:Hp}{s:Shared}{a C dx:Addr}{fs:List (Str×V)}{f:Str}{v:V}{A:Around}{E:Value->Shared->Prop}
end
section
variable{X:Cx}{o e value:Expr}{f:Str}{pos pos' tpos:Pos}{ta tv:TE}
end
section
variable{X:Cx}{pins:List (Addr×Obj)}{σ:St}{H:Hp}{s:Shared}{A:Around}{E:Value->Shared->Prop}{Q:Value->Shared->Prop}{c:Value}{b:Bool}
end
structure Room (k:Nat) (A:Around):Prop where
 hd:A.handled=none
 dp:A.depth+3*k+5<recursionLimit
 un:A.units+16*k+200<cLine
theorem Room.mono{j k:Nat}{A:Around}(r:Room k A)(h:j<=k):Room j A:=⟨r.hd,by have:=r.dp;omega,by have:=r.un;omega⟩
theorem Room.deeper{k:Nat}{A:Around}(r:Room (k+1) A)(env:Env):Room k (A.deeper env):=
 ⟨r.hd,by have:=r.dp;show A.depth+1+3*k+5<_;omega,by have:=r.un;show A.units+3+16*k+200<_;omega⟩
theorem Room.depth{k:Nat}{A:Around}(r:Room k A):A.depth<recursionLimit:=by have:=r.dp;omega
theorem Room.units{k:Nat}{A:Around}(r:Room k A):A.units+64<cLine:=by have:=r.un;omega
abbrev zQW:TA:=fun _ H Q=>Q [] H
abbrev zQa(ta:TE)(tr:TA):TA:=fun σ H Q=>ta σ H fun x H1=>tr σ H1 fun xs H2=>Q (x::xs) H2
section
variable{X:Cx}{e:Expr}{es:List Expr}{te:TE}{t:TA}{pos:Pos}
theorem nH:PA X [] zQW:=fun _ _ _ _ H Q I h=>Calls.spliced_nil ⟨[],H,I,.nil,h⟩
theorem jK(ha:PE X e te)(hr:PA X es t)(hs:starEach (e::es) X.env=(false,eval e X.env)::starEach es X.env:=by rfl):PA X (e::es) (zQa te t):=by
 intro pos pins s σ H Q I h;rw[hs];show wpAny _ _ (spliced ((false,eval e X.env)::backTo pos (starEach es X.env))) _ _ s
 refine Calls.spliced_cons (thn (ha pins s σ H _ I h) fun u s1 ⟨x,H1,I1,r1,q1⟩=>?_)
 exact thn (hr pos pins s1 σ H1 _ I1 q1) fun us s2 ⟨xs,H2,I2,r2,q2⟩=>⟨x::xs,H2,I2,.cons r1 r2,q2⟩
abbrev zRe(t:TA):TE:=fun σ H Q=>t σ H fun xs H1=>xs.length<=sizeLine/\∀ p,H1 p=none->Q (.ref p) (upd H1 p (.tup xs))
abbrev zQM(t:TA):TE:=fun σ H Q=>t σ H fun xs H1=>xs.length<=sizeLine/\∀ p,H1 p=none->Q (.ref p) (upd H1 p (.lst xs))
theorem zNO{x1}(h:PA X es t):PE X (.Tuple es x1 pos) (zRe t):=by
 intro pins s σ H Q I hq;refine wpAny_Tuple_spliced (thn (h pos pins s σ H _ I hq) fun us s1 ⟨xs,H1,I1,r,z,q⟩=>⟨by rw[<-r.length];exact z,?_⟩)
 have hf:H1 s1.heap.objs.size=none:=I1.hok.fresh (Qb _);refine⟨.ref s1.heap.objs.size,upd H1 s1.heap.objs.size (.tup xs),I1.laid (t':=s1.toks) (fun b u e=>Heap.get?_push_of_some _ e) (Qb _) ?_,rfl,q _ hf⟩
 exact⟨z,us,r,⟨_,Heap.get?_push_size _ rfl,rfl,_,rfl⟩⟩
theorem zNc(h:PA X es t):PE X (.List es pos) (zQM t):=by
 intro pins s σ H Q I hq;refine wpAny_List_spliced (thn (h pos pins s σ H _ I hq) fun us s1 ⟨xs,H1,I1,r,z,q⟩=>⟨by rw[<-r.length];exact z,?_⟩)
 have hf:H1 s1.heap.objs.size=none:=I1.hok.fresh (Qb _);refine⟨.ref s1.heap.objs.size,upd H1 s1.heap.objs.size (.lst xs),I1.laid (t':=s1.toks) (fun b u e=>Heap.get?_push_of_some _ e) (Qb _) ?_,rfl,q _ hf⟩
 exact⟨z,us,0,r,Heap.get?_push_size _ rfl⟩
end
abbrev Sp:=List V->Hp->VK->XK->Prop
abbrev CXT:=List Env->Hp->Shared->XK->Value->Shared->Prop
structure Env0 (P:Program) (w:World) (K:PySem.W.Frag) (mg:Str->Option Value) (base:Heap) (A:Around) (outer:List Env) (s:Shared) (H:Hp):Prop where
 frames:A.frames=some outer
 mod:Mod K mg base
 bs:∀ b o,base.get? b=some o->s.heap.get? b=some o/\H b=none
 bsz:base.objs.size<=s.heap.objs.size
 funs:s.heap.FunFrames base outer
 frf:∀ b∈frs outer,H b=none
 hok:HOk P w H s.heap
 bare:AllBare s.gens
def CE(outer:List Env)(P:Program)(w:World)(H:Hp)(s:Shared)(Q:VK)(u:Value)(s':Shared):Prop:=
 ∃ v H',s'.os=s.os/\AllBare s'.gens/\Un (frs outer) [] H H' s.heap s'.heap/\HOk P w H' s'.heap/\cV v u/\Q v H'
def CR(CX:CXT)(outer:List Env)(P:Program)(w:World)(H:Hp)(s:Shared)(Q:VK)(E:XK)(r:Result)(s':Shared):Prop:=
 match r with
 | .ok (.ret u)=>CE outer P w H s Q u s'
 | .ok _=>False
 | .error e=>CX outer H s E e s'
structure FnOk (P:Program) (w:World) (K:PySem.W.Frag) (mg:Str->Option Value) (base:Heap) (CX:CXT) (k:Nat) (f:Addr) (fd:FuncData) (ps:List Str) (sp:Sp):Prop where
 len:∀ vs H Q E,sp vs H Q E->vs.length=ps.length
 run:∀(A:Around)(outer:List Env)(s:Shared)(H:Hp)(args:Args)(us:List Value)(vs:List V)(Q:VK)(E:XK),Room k A->Env0 P w K mg base A outer s H->BindsTo s fd args (ps.zip us)->dH vs us->sp vs H Q E->
  codeAny (model P w) A (.call (.ref f) args) (CR CX outer P w H s Q E) s
theorem FnOk.mono{P:Program}{w:World}{K:Fg_}{mg:Str->Option Value}{base:Heap}{CX:CXT}{j k:Nat}{f:Addr}{fd:FuncData}{ps:List Str}{sp:Sp}(F:FnOk P w K mg base CX j f fd ps sp)(h:j<=k):
  FnOk P w K mg base CX k f fd ps sp:=⟨F.len,fun A outer s H args us vs Q E hr=>F.run A outer s H args us vs Q E (hr.mono h)⟩
theorem FnOk.imp{P:Program}{w:World}{K:Fg_}{mg:Str->Option Value}{base:Heap}{CX:CXT}{k:Nat}{f:Addr}{fd:FuncData}{ps:List Str}{sp sp':Sp}(F:FnOk P w K mg base CX k f fd ps sp)
  (h:∀ vs H Q E,sp' vs H Q E->sp vs H Q E):FnOk P w K mg base CX k f fd ps sp':=
 ⟨fun vs H Q E q=>F.len vs H Q E (h _ _ _ _ q),fun A outer s H args us vs Q E hr he hb hv hs=>F.run A outer s H args us vs Q E hr he hb hv (h _ _ _ _ hs)⟩
theorem Env0.in1{P:Program}{w:World}{K:Fg_}{mg:Str->Option Value}{base:Heap}{A:Around}{outer:List Env}{s:Shared}{H:Hp}(e:Env0 P w K mg base A outer s H):
  Env0 P w K mg base A.in1 outer s H:=⟨e.frames,e.mod,e.bs,e.bsz,e.funs,e.frf,e.hok,e.bare⟩
section
variable{X:Cx}{pins:List (Addr×Obj)}{σ:St}{H:Hp}{s s':Shared}
theorem Inv.env0(I:Inv X pins σ H s):Env0 X.prog X.w X.K X.mg X.base X.A X.stack s H:=
 ⟨I.ok.frames,I.ok.mod,I.bs,Qp I.ok.bsz I.sz,I.stack,I.stkFree,I.hok,I.bare⟩
theorem Inv.after{Q:VK}{u:Value}(I:Inv X pins σ H s)(h:CE X.stack X.prog X.w H s Q u s'):EP X pins σ Q u s':=by
 obtain⟨v,H',os,bare,un,hok,r,q⟩:=h;obtain⟨hh,g,d,t,os'⟩:=s';obtain rfl:os'=s.os:=os;exact⟨v,H',I.call (h':=hh) (g':=g) (d':=d) (t':=t) (ch:=[]) un hok bare (fun b z=>absurd z (by simp)),r,q⟩
end
abbrev zLS(sp:Sp)(dvs:List V)(E:XK)(t:TA):TE:=fun σ H Q=>t σ H fun vs H1=>sp (vs++dvs) H1 Q E
def zAe(K:PySem.W.Frag)(fd:FuncData)(ps:List Str)(ds:List Value):Prop:=
 ∀(s:Shared)(us:List Value),K.In s.heap->(us++ds).length=ps.length->BindsTo s fd ⟨us,[]⟩ (ps.zip (us++ds))
theorem zAe.all{K:Fg_}{fd:FuncData}{ps:List Str}(h:∀ us:List Value,us.length=ps.length->bindArgs fd ⟨us,[]⟩=pure (ps.zip us)):zAe K fd ps []:=fun s us _ hl=>by
 rw[Q3] at hl ⊢
 exact .of_eq (h us hl)
def zDD(CX:CXT)(X:Cx)(E:XK):Prop:=∀(pins:List (Addr×Obj))(σ:St)(H:Hp)(s:Shared)(e:Value)(s':Shared),Inv X pins σ H s->CX X.stack H s E e s'->X.xe e s'
section
variable{X:Cx}{CX:CXT}{k:Nat}{f C:Addr}{fd:FuncData}{ps:List Str}{sp:Sp}{dvs:List V}{ds:List Value}{E:XK}{x m:Str}{p pos apos:Pos}{e o:Expr}{es:List Expr}{ta:TE}{t:TA}
theorem zOx{pins:List (Addr×Obj)}{σ:St}{H:Hp}{s:Shared}{Q:VK}{us:List Value}{vs:List V}(F:FnOk X.prog X.w X.K X.mg X.base CX k f fd ps sp)(hr:Room k X.A)(hb:zAe X.K fd ps ds)(hd:dH dvs ds)(hx:zDD CX X E)
  (I:Inv X pins σ H s) (r:dH vs us) (h:sp (vs++dvs) H Q E):wpAny (model X.prog X.w) X.A (call (.ref f) us) (EP X pins σ Q) X.xe s:=by
 have r2:dH (vs++dvs) (us++ds):=r.append hd;have hl:(us++ds).length=ps.length:=by rw[<-r2.length];exact F.len _ _ _ _ h
 refine wpAny_call (codeAny_mono (F.run X.A X.stack s H ⟨us,[]⟩ (us++ds) (vs++dvs) Q E hr I.env0 (hb s us I.kIn hl) r2 h) fun r s' hq=>?_)
 cases r with
 | error e=>exact hx pins σ H s e s' I hq
 | ok fl=>
  cases fl with
  | ret u=>exact I.after hq
  | next=>exact False.elim hq
  | brk=>exact False.elim hq
  | cont=>exact False.elim hq
theorem zCr(F:FnOk X.prog X.w X.K X.mg X.base CX k f fd ps sp)(hr:Room k X.A)(hg:Gl X x)(hm:X.mg x=some (.ref f))(hk:PySem.W.keepIn X.K (.ref f)=true)(hb:zAe X.K fd ps ds)(hd:dH dvs ds)(hx:zDD CX X E)
  (ha:PA X (e::es) t) (hdb:(x==("__debug__" : Str))=false:=by decide) (he:starEach (e::es) X.env=(false,eval e X.env)::starEach es X.env:=by rfl) (hpl:(backTo pos (starEach es X.env)).any (·.1)=false:=by rfl):
  PE X (.Call (.Name x p) (e::es) [] pos) (zLS sp dvs E t):=by
 intro pins s σ H Q I h;refine wpAny_Call_Name_kw (tZ I hg hm ?_ hdb)
 refine PySem.W.callWith_K (h₀:=X.base) I.ok.mod.kin hk (thn (ha pos pins s σ H _ I h) fun us s1 ⟨vs,H1,I1,r,q⟩=>⟨I1.kIn,?_⟩) he hpl
 exact zOx F hr hb hd hx I1 r q
end
section
variable{X:Cx}{CX:CXT}{k:Nat}{f C:Addr}{fd:FuncData}{ps ks:List Str}{sp:Sp}{E:XK}{x m:Str}{p pos apos kpos:Pos}{e o:Expr}{es:List Expr}{kws:List Keyword}{te ta:TE}{t tk:TA}{nm:Option Str}
variable{g:List Value->List Value->List Value}{gV:List V->List V->List V}
end
structure FnScope (N P:List Str) (sc:Scope):Prop where
 kind:sc.kind=.function
 co:sc.isCoroutine=false
 gen:sc.isGenerator=false
 nd:N.Nodup
 pre:N.take P.length=P
 par:∀ x∈P,sc.names.lookup x=some .local∨sc.names.lookup x=some .cell
 nofree:∀ y∈sc.names,y.2≠.free
theorem zBA{kindOf:Str->Option NameKind}{x:Str}:∀ {binds:List (Str×Value)} {m:Str->Option Value},(∀ v,(x,v)∉binds)->bindL kindOf binds m x=m x
 | [],_,_=>rfl
 | (n,v)::r,m,h=>by
  unfold bindL;rw[zBA fun w hw=>h w (Qe _ hw)];split
  ·have:x≠n:=by rintro rfl;exact h v Qf
   simp[this]
  ·rfl
theorem zBt{kindOf:Str->Option NameKind}{x:Str}:∀ {binds:List (Str×Value)} {m:Str->Option Value},(∀ v,(x,v)∉binds)->bindC kindOf binds m x=m x
 | [],_,_=>rfl
 | (n,v)::r,m,h=>by
  unfold bindC;rw[zBt fun w hw=>h w (Qe _ hw)];split
  ·rfl
  ·have:x≠n:=by rintro rfl;exact h v Qf
   simp[this]
theorem zBn{kindOf:Str->Option NameKind}{x:Str}{v:Value}:∀ {P:List Str} {vs:List Value} {i:Nat} {m:Str->Option Value},P.Nodup->P[i]?=some x->vs[i]?=some v->kindOf x=some .local->
  bindL kindOf (P.zip vs) m x=some v
 | [],_,_,_,_,h,_,_=>by simp at h
 | _::_,[],_,_,_,_,h,_=>by simp at h
 | p::P,w::vs,0,m,nd,h1,h2,hk=>by
  simp at h1 h2;subst h1;subst h2
  show bindL kindOf ((p,w)::P.zip vs) m p=_
  unfold bindL;rw[zBA fun v hv=>(Xx.mp nd).1 (Yc hv).1,if_pos hk];simp
 | p::P,w::vs,i+1,m,nd,h1,h2,hk=>by
  show bindL kindOf ((p,w)::P.zip vs) m x=_
  unfold bindL;exact zBn (i:=i) (Xx.mp nd).2 (by simpa using h1) (by simpa using h2) hk
theorem zAD{kindOf:Str->Option NameKind}{x:Str}{v:Value}:∀ {P:List Str} {vs:List Value} {i:Nat} {m:Str->Option Value},P.Nodup->P[i]?=some x->vs[i]?=some v->kindOf x≠some .local->
  bindC kindOf (P.zip vs) m x=some v
 | [],_,_,_,_,h,_,_=>by simp at h
 | _::_,[],_,_,_,_,h,_=>by simp at h
 | p::P,w::vs,0,m,nd,h1,h2,hk=>by
  simp at h1 h2;subst h1;subst h2
  show bindC kindOf ((p,w)::P.zip vs) m p=_
  unfold bindC;rw[zBt fun v hv=>(Xx.mp nd).1 (Yc hv).1,if_neg hk];simp
 | p::P,w::vs,i+1,m,nd,h1,h2,hk=>by
  show bindC kindOf ((p,w)::P.zip vs) m x=_
  unfold bindC;exact zAD (i:=i) (Xx.mp nd).2 (by simpa using h1) (by simpa using h2) hk
def start(N:List Str)(vs:List V):St:=vs.map some++List.replicate (N.length-vs.length) none
def zEN(CX:CXT)(P:Program)(w:World)(K:PySem.W.Frag)(mg:Str->Option Value)(base:Heap)(N:List Str)(qual:Str)(scope:Scope)(f:Addr)(cd:Value)(A:Around)(outer:List Env)(s:Shared)(H:Hp)(E:XK):Cx where
 prog:=P
 w:=w
 K:=K
 mg:=mg
 base:=base
 A:=A.deeper (envOfC qual scope s.heap.objs.size f cd)
 N:=N
 s₀:=s
 H₀:=H
 env:=envOfC qual scope s.heap.objs.size f cd
 outer:=outer
 stack:=envOfC qual scope s.heap.objs.size f cd::outer
 ex:=[]
 calm:=true
 fn:=fun _=>true
 pn:=[]
 xe:=fun e s'=>wpAny (model P w) (A.deeper (envOfC qual scope s.heap.objs.size f cd)) (leaving (envOfC qual scope s.heap.objs.size f cd) e) (fun _ s''=>CX outer H s E e s'') (fun e' s''=>CX outer H s E e' s'') s'
theorem zDK{sc:Scope}{n:Nat}{x:Str}(h:sc.names.lookup x=some .cell):∃ c,(cellsFrom n sc.names []).lookup x=some c:=by
 have q:=Wl sc.names n [] (.inl h);exact Wm.mp q
theorem zGL{CX:CXT}{P:Program}{w:World}{K:Fg_}{mg:Str->Option Value}{base:Heap}{N ps:List Str}{qual:Str}{scope:Scope}{f:Addr}{cd:Value}{A:Around}{outer:List Env}{s s1:Shared}{H:Hp}{E:XK}{us:List Value}{vs:List V}
  (S:FnScope N ps scope) (hd:A.handled=none) (e0:Env0 P w K mg base A outer s H) (hl:vs.length=ps.length) (r:dH vs us)
  (x:InCallC s s.heap.objs.size (bindL (envOfC qual scope s.heap.objs.size f cd).kindOf (ps.zip us) fun _=>none) (cellsFrom (s.heap.objs.size+1) scope.names []) (bindC (envOfC qual scope s.heap.objs.size f cd).kindOf (ps.zip us) fun _=>none) s1):
  Inv (zEN CX P w K mg base N qual scope f cd A outer s H E) [] (start N vs) H s1:=by
 have hpl:ps.length<=N.length:=by have:=congrArg List.length S.pre;rw[Xd] at this;omega
 obtain⟨h1,tk,rfl,hk⟩:=x.done;have noA:∀ b:Addr,b∉(zEN CX P w K mg base N qual scope f cd A outer s H E).ex:=fun b z=>absurd (show b∈([]:List Addr) from z) (by simp)
 refine⟨⟨e0.mod,S.kind,rfl,rfl,Qb _,fun y z c h1 h2=>?_,fun y hy=>?_,fun y c _ h=>?_,fun _=>hd,Around.frames_deeper e0.frames,.inr ⟨rfl,rfl⟩,fun b z=>absurd z (noA b),e0.bs,e0.bsz,fun b _ _=>noA b,fun b z=>absurd z (noA b),e0.funs,e0.frf⟩,
  rfl,e0.bare,Un.kept hk,⟨_,x.toInCall.ns,fun i y v h1 h2 h3=>?_⟩,fun y c h=>⟨_,x.cell y c h⟩,e0.hok.fresh (Qb _),fun y c h=>?_,fun p hp=>absurd (show p∈([]:List (Addr×Obj)) from hp) (by simp),e0.hok.kept hk,?_⟩
 ·exact name_of_addr x.apart (Xj h1) (Xj h2)
 ·have hy:scope.names.lookup y=some .cell∨scope.names.lookup y=some .free:=hy
  rcases hy with hy | hy
  ·exact zDK hy
  ·exact absurd rfl (S.nofree _ (Xj hy))
 ·exact Xv (x.above y c (Xj h))
 ·have hi:i<vs.length:=by
   unfold start at h2;by_cases hi:i<vs.length
   ·exact hi
   ·rw[Vy (by simpa using hi)] at h2
    rw[Um] at h2;split at h2<;>cases h2
  have ha:vs[i]?=some v:=by
   unfold start at h2;rw[Vl (by simpa using hi),Qr] at h2
   cases e:vs[i]? with
   | none=>rw[e] at h2;cases h2
   | some a=>rw[e] at h2;cases h2;rfl
  obtain⟨u,hu,rv⟩:=r.get ha
  have hp:ps[i]?=some y:=by
   rw[<-S.pre,List.getElem?_take_of_lt (by omega)];exact h1
  have ndP:ps.Nodup:=by rw[<-S.pre];exact S.nd.sublist (List.take_sublist _ _)
  refine⟨u,rv,?_⟩
  rcases S.par y (Qg hp) with k | k
  ·exact .inl ⟨k,zBn ndP hp hu k⟩
  ·obtain⟨c,e⟩:=zDK (n:=s.heap.objs.size+1) k
   refine .inr ⟨.inl k,c,e,?_⟩
   have q:=x.cell y c e;rw[zAD ndP hp hu (by show scope.names.lookup y≠_;rw[k];decide)] at q;exact q
 ·exact e0.hok.fresh (Xv (x.above y c (Xj h)))
 ·unfold start
  show _=N.length
  rw[Qi,Qd,Xy];omega
theorem zNl{CX:CXT}{P:Program}{w:World}{K:Fg_}{mg:Str->Option Value}{base:Heap}{k:Nat}{f:Addr}{name qual:Str}{params:Arguments}{body:List Stmt}{scope:Scope}{dV kV doc pm cdv ct oc:Value}{an od:Option Addr}
  {osl:Array (Option Value)} {N ps:List Str} {sp:Sp} (lk:K.lookup f=some ⟨oc,od,.func (PySem.W.fnOf name qual params body scope dV kV doc pm an cdv ct),osl⟩) (hcd:PySem.W.codeIn K cdv qual=true) (S:FnScope N ps scope)
  (len:∀ vs H Q E,sp vs H Q E->vs.length=ps.length)
  (hbody:∀(A:Around)(outer:List Env)(s:Shared)(H:Hp)(vs:List V)(Q:VK)(E:XK),Room k (A.deeper (envOfC qual scope s.heap.objs.size f cdv))->sp vs H Q E->
   ∃ t,PSs (zEN CX P w K mg base N qual scope f cdv A outer s H E) body t/\t { nx:=fun _ H'=>Q .non H',rt:=Q } (start N vs) H):
  FnOk P w K mg base CX (k+1) f (PySem.W.fnOf name qual params body scope dV kV doc pm an cdv ct) ps sp:=by
 refine⟨len,fun A outer s H args us vs Q E hr e0 hb r hsp=>?_⟩
 have hl:=len _ _ _ _ hsp;have KX:K.In s.heap:=e0.mod.kin.keeps fun b o e=>(e0.bs b o e).1
 have lim:s.heap.NoLimit:=e0.mod.nolimit.keeps fun b o e=>(e0.bs b o e).1
 have hkind:∀ y∈ps.zip us,scope.names.lookup y.1=some .local∨(scope.names.lookup y.1=some .cell/\((cellsFrom (s.heap.objs.size+1) scope.names []).lookup y.1).isSome=true):=fun ⟨n,v⟩ hy=>by
  rcases S.par n (Yc hy).1 with q | q
  ·exact .inl q
  ·exact .inr ⟨q,Wl _ _ _ (.inl q)⟩
 refine codeAny_call_function hr.depth (KX _ _ lk) rfl S.co S.gen rfl (PySem.W.codeRec_of KX hcd) (hb _ _ _ _ ?_)
 refine wpAny_newFunctionEnv_cells S.kind hkind fun env he s1 x=>?_
 subst he;refine⟨lim.keeps x.toInCall.keep,codeAny_func ?_⟩
 obtain⟨t,ht,hq⟩:=hbody A outer s H vs Q E (hr.deeper _) hsp;have I:Inv (zEN CX P w K mg base N qual scope f cdv A outer s H E) [] (start N vs) H s1:=zGL S hr.hd e0 hl r x;refine wpAny_mono (ht [] s1 (start N vs) H _ I hq) (fun fl s' hs=>?_) fun e s' hs=>hs
 have fin:∀ {σ':St} {H':Hp} {v:V} {u:Value},Inv (zEN CX P w K mg base N qual scope f cdv A outer s H E) [] σ' H' s'->cV v u->Q v H'->CE outer P w H s Q u s':=
  fun {σ' H' v u} J rv q=>⟨v,H',J.os,J.bare,J.base,J.hok,rv,q⟩
 cases fl with
 | ret u=>
  obtain⟨v,σ',H',J,rv,q⟩:=hs;exact fin J rv q
 | next=>
  obtain⟨σ',H',J,q⟩:=hs;exact fin (v:=V.non) (u:=Value.none) J rfl q
 | brk=>
  obtain⟨_,_,_,q⟩:=hs;exact False.elim q
 | cont=>
  obtain⟨_,_,_,q⟩:=hs;exact False.elim q
section
variable{X:Cx}{x:Str}{p pos:Pos}{e:Expr}{es:List Expr}{t:TA}{id T:String}{r:List V->Hp->VK->Prop}
abbrev tCB(r:List V->Hp->VK->Prop)(t:TA):TE:=fun σ H Q=>t σ H fun vs H1=>r vs H1 Q
theorem zDy(hc:vL X (.builtin id) r)(hg:Gl X x)(hm:X.mg x=none)(hv:bootBuiltins x=some (.builtin id))(ha:PA X (e::es) t)(hn:x ≠ "__name__" := by decide)(hdb:(x==("__debug__" : Str))=false:=by decide)
  (he:starEach (e::es) X.env=(false,eval e X.env)::starEach es X.env:=by rfl) (hpl:(backTo pos (starEach es X.env)).any (·.1)=false:=by rfl):PE X (.Call (.Name x p) (e::es) [] pos) (tCB r t):=by
 intro pins s σ H Q I h;refine wpAny_Call_Name_kw (oM I hg hm hv ?_ hn hdb)
 exact PyProof.Rows.callWith_builtin1 (thn (ha pos pins s σ H _ I h) fun us s1 ⟨vs,H1,I1,r1,q1⟩=>hc pins s1 σ H1 vs us Q I1 r1 q1) he hpl
theorem zBg(hc:vL X (.type T) r)(hg:Gl X x)(hm:X.mg x=none)(hv:bootBuiltins x=some (.type T))(ha:PA X (e::es) t)(hn:x ≠ "__name__" := by decide)(hdb:(x==("__debug__" : Str))=false:=by decide)
  (he:starEach (e::es) X.env=(false,eval e X.env)::starEach es X.env:=by rfl) (hpl:(backTo pos (starEach es X.env)).any (·.1)=false:=by rfl):PE X (.Call (.Name x p) (e::es) [] pos) (tCB r t):=by
 intro pins s σ H Q I h;refine wpAny_Call_Name_kw (oM I hg hm hv ?_ hn hdb)
 exact X9 (thn (ha pos pins s σ H _ I h) fun us s1 ⟨vs,H1,I1,r1,q1⟩=>hc pins s1 σ H1 vs us Q I1 r1 q1) he hpl
end
end L2
namespace HT
open PySem PyProof.Rows
section
open PySem.SeqAt
open PySem.AutoSeq1 (wpAny_loadPart')
open PySem.MeetsSeq PySem.MeetsSeq2 PySem.MeetsSeq3
end
section
variable{prog:Program}{w:World}{A:Around}{E:Value->Shared->Prop}{s:Shared}
theorem cat_tup{t b:Addr}{vs ws:List Value}{Q:Value->Shared->Prop}(ht:IsTup s.heap t vs.toArray)(hb:IsTup s.heap b ws.toArray)(hv:vs≠[])
  (h1:ws=[]->Q (.ref t) s) (h2:ws≠[]->Q (.ref s.heap.objs.size) { s with heap:=s.heap.push { cls:=.type "tuple", data:=.seq (vs++ws).toArray } })
  (hsz:vs.length+ws.length<=sizeLine):wpAny (model prog w) A (binaryOp .Add (.ref t) (.ref b)) Q E s:=by
 obtain⟨⟨cls,dd,data,sl⟩,ho,hc,n,hd⟩:=id ht;obtain⟨⟨cls2,dd2,data2,sl2⟩,ho2,hc2,n2,hd2⟩:=id hb;simp only at hc hd hc2 hd2
 subst hc hd hc2 hd2;have e:vs.toArray++ws.toArray=(vs++ws).toArray:=by simp
 by_cases hw:ws=[]
 ·exact concat_meets ⟨_,ho,rfl⟩ ⟨_,ho2,rfl⟩ noFill_tuple_add seq_tuple_add Uo Uq (Ur _ _)
   (tuple_addW1 t b vs.toArray ws.toArray n n2 dd dd2 sl sl2 (by simpa using hv) (by simp[hw])) ⟨ho,ho2,h1 hw⟩
 ·refine concat_meets ⟨_,ho,rfl⟩ ⟨_,ho2,rfl⟩ noFill_tuple_add seq_tuple_add Uo Uq (Ur _ _)
   (tuple_addW2 t b vs.toArray ws.toArray n n2 dd dd2 sl sl2 (by simpa using hv) (by simpa using hw) (by rw[Qh,Qh];exact hsz)) ⟨ho,ho2,?_⟩
  rw[e];exact h2 hw
def sIx(n d:Nat):Option Int->Nat
 | none=>d
 | some v=>if v<0 then (v+(n:Int)).toNat else min v.toNat n
theorem zNU(n d:Nat)(hd:d<=n)(o:Option Int):sIx n d o<=n:=by
 cases o with
 | none=>exact hd
 | some v=>
  show(if v<0 then (v+(n:Int)).toNat else min v.toNat n)<=n
  by_cases hv:v<0
  ·rw[if_pos hv];omega
  ·rw[if_neg hv];exact Nat.min_le_right _ _
theorem zFI(v:Int)(n d:Nat):(if v<0 then max (v+(n:Int)) 0 else min v (n:Int))=((sIx n d (some v):Nat):Int):=by
 show(if v<0 then max (v+(n:Int)) 0 else min v (n:Int))=(((if v<0 then (v+(n:Int)).toNat else min v.toNat n):Nat):Int)
 by_cases hv:v<0
 ·simp only[if_pos hv];omega
 ·simp only[if_neg hv];omega
theorem zEV(lo hi:Option Int)(n:Nat):Builtin.Slice.sliceAdjust lo hi 1 (n:Int)=(((sIx n 0 lo:Nat):Int),((sIx n n hi:Nat):Int)):=by
 have h1:¬ ((1:Int)<0):=by omega
 unfold Builtin.Slice.sliceAdjust;simp only[h1,if_false];refine Prod.ext ?_ ?_
 ·cases lo with
  | none=>rfl
  | some v=>exact zFI v n 0
 ·cases hi with
  | none=>rfl
  | some v=>exact zFI v n n
theorem zEu(i j:Nat):Builtin.Slice.slicePlaces (i:Int) (j:Int) 1=j-i:=by
 unfold Builtin.Slice.slicePlaces;have h1:(1:Int) > 0:=by omega
 simp only[h1,if_true,Int.ediv_one];split<;>omega
theorem wY{v:Value}{o:Option Int}{Q:Option Int->Shared->Prop}(p:IsPart v o)(h:Q o s):wpAny (model prog w) A (Builtin.Slice.slicePartIndex v) Q E s:=by
 cases p with
 | none=>exact slicePart_none h
 | int i t=>exact slicePart_int h
theorem sliceApplied_gen{sl:Addr}{vl vu:Value}{lo hi:Option Int}{n:Nat}{Q:Int×Int×Nat->Shared->Prop}(hs:s.heap.IsSliceOf sl vl vu .none)(pl:IsPart vl lo)(pu:IsPart vu hi)
  (h:Q (((sIx n 0 lo:Nat):Int),1,sIx n n hi-sIx n 0 lo) s):wpAny (model prog w) A (Builtin.Slice.sliceApplied (.ref sl) (pure (n:Int))) Q E s:=by
 obtain⟨os,hos,hcs,hds⟩:=id hs;unfold Builtin.Slice.sliceApplied Builtin.Slice.sliceFields;refine wpAny_bind (wpAny_bind (wpAny_field hos hds (x:=vl) rfl (wpAny_bind (wpAny_field hos hds (x:=vu) rfl (wpAny_bind (wpAny_field hos hds (x:=.none) rfl (wpAny_pure ?_)))))))
 refine wpAny_bind (slicePart_none ?_)
 show wpAny _ _ (if ((1:Int)==0)=true then _ else _) _ _ s
 rw[if_neg (by decide)];refine wpAny_bind (wY pl (wpAny_bind (wY pu (wpAny_bind (wpAny_pure ?_)))))
 show wpAny _ _ (match Builtin.Slice.sliceAdjust lo hi 1 (n:Int) with | (lo,hi)=>pure (lo,(1:Int),Builtin.Slice.slicePlaces lo hi 1)) _ _ s
 rw[zEV lo hi n];show wpAny _ _ (pure (((sIx n 0 lo:Nat):Int),(1:Int),Builtin.Slice.slicePlaces ((sIx n 0 lo:Nat):Int) ((sIx n n hi:Nat):Int) 1)) _ _ s
 rw[zEu];exact wpAny_pure h
theorem zJa(xs:Array Value)(i k:Nat):((List.range k).filterMap fun(m:Nat)=>xs[((i:Int)+(m:Int)*1).toNat]?).toArray=((xs.toList.drop i).take k).toArray:=by
 have e:(fun(m:Nat)=>xs[((i:Int)+(m:Int)*1).toNat]?)=fun m=>xs[i+m]?:=by
  funext m
  have:((i:Int)+(m:Int)*1).toNat=i+m:=by omega
  rw[this]
 rw[e];have:=pick_run xs i k
 rw[List.filterMap_map] at this;have e2:((fun x=>xs[x]?) ∘ fun x=>i+x)=fun m=>xs[i+m]?:=rfl
 rw[e2] at this;rw[this]
theorem getItem_tuple_cut{t sl:Addr}{items:Array Value}{vl vu:Value}{lo hi:Option Int}{Q:Value->Shared->Prop}(ht:IsTup s.heap t items)(hs:s.heap.IsSliceOf sl vl vu .none)(pl:IsPart vl lo)(pu:IsPart vu hi)
  (hw:¬ (sIx items.size 0 lo=0/\sIx items.size items.size hi=items.size))
  (h:Q (.ref s.heap.objs.size) { s with heap:=s.heap.push { cls:=.type "tuple", data:=.seq ((items.toList.drop (sIx items.size 0 lo)).take (sIx items.size items.size hi-sIx items.size 0 lo)).toArray } })
  (hsz:items.size<=sizeLine):wpAny (model prog w) A (getItem (.ref t) (.ref sl)) Q E s:=by
 have htake:sizeOk (.seq ((items.toList.drop (sIx items.size 0 lo)).take (sIx items.size items.size hi-sIx items.size 0 lo)).toArray):=by
  show((items.toList.drop (sIx items.size 0 lo)).take (sIx items.size items.size hi-sIx items.size 0 lo)).toArray.size<=sizeLine
  rw[Qh,Xd,Vu,Xi];omega
 have hj:sIx items.size items.size hi<=items.size:=zNU _ _ (Qb _) hi;obtain⟨os,hos,hcs,hds⟩:=id hs;have hTs:s.TypeIs (.ref sl) "slice" := ⟨os,hos,hcs⟩;unfold getItem;try with_reducible refine wpAny_holding ?_
 first | refine wpAny_bind (wpAny_pure ?_) | skip
 refine wpAny_bind (wpAny_sequenceKey ht.typeIs (by decide) ?_)
 refine wpAny_bind (wpAny_callSpecial?_slot (name:=Str.ofString "__getitem__") ht.typeIs Y1
  (wpAny_call_entry Y1 ht.typeIs entry_tuple_getitem ?_ (args_tuple_getitem _ _)))
 show wpAny _ _ (Builtin.Tuple.tupleItemsOf (.ref t) >>= _) _ _ s
 refine wpAny_bind (tupleItemsOf_ ht ?_)
 refine wpAny_bind (wpAny_typeOf hTs ?_)
 rw[if_pos (by decide)];refine wpAny_bind (sliceApplied_gen hs pl pu ?_)
 have hno:¬ ((((sIx items.size 0 lo:Nat):Int)==0 && (1:Int)==1 && (sIx items.size items.size hi-sIx items.size 0 lo)==items.size)=true):=by
  intro q;rw[Vj,Vj] at q;have q1:((sIx items.size 0 lo:Nat):Int)=0:=eq_of_beq q.1.1;have q2:sIx items.size items.size hi-sIx items.size 0 lo=items.size:=eq_of_beq q.2;exact hw ⟨by omega,by omega⟩
 show wpAny _ _ (if (((sIx items.size 0 lo:Nat):Int)==0 && (1:Int)==1 && (sIx items.size items.size hi-sIx items.size 0 lo)==items.size)=true then _ else _) _ _ s
 rw[if_neg hno,zJa]
 first
  | exact wpAny_bind (m:=Builtin.Tuple.tupleExact _) (wpAny_newObj_type (wpAny_pure ⟨_,rfl,wpAny_pure h⟩) htake)
  | exact wpAny_bind (m:=Builtin.Tuple.tupleExact _) (wpAny_newObj_type (wpAny_bind (wpAny_pure (wpAny_pure ⟨_,rfl,wpAny_pure h⟩))) htake)
  | exact wpAny_bind (wpAny_bind (m:=Builtin.Tuple.tupleExact _) (wpAny_newObj_type (wpAny_pure (wpAny_pure ⟨_,rfl,wpAny_pure h⟩)) htake))
  | exact wpAny_bind (wpAny_bind (m:=Builtin.Tuple.tupleExact _) (wpAny_newObj_type (wpAny_pure ⟨_,rfl,wpAny_pure h⟩) htake))
end
end HT
namespace L2
open PySem PySem.Spec PyProof.Rows
abbrev TO:=St->Hp->(Option Int->Hp->Prop)->Prop
def PO(X:Cx)(e:Option Expr)(t:TO):Prop:=
 ∀(pins:List (Addr×Obj))(s:Shared)(σ:St)(H:Hp)(Q:Option Int->Hp->Prop),Inv X pins σ H s->t σ H Q->
  wpAny (model X.prog X.w) X.A (evalPart e X.env) (fun u s'=>∃ o H',Inv X pins σ H' s'/\IsPart u o/\Q o H') X.xe s
abbrev zLi:TO:=fun _ H Q=>Q none H
abbrev zPF(t:TE):TO:=fun σ H Q=>t σ H fun x H1=>∃ i,x=.int i/\Q (some i) H1
section
variable{X:Cx}{e:Expr}{te:TE}{lo hi:Option Expr}{tl th:TO}{pos p2:Pos}
theorem zKv:PO X none zLi:=by
 intro pins s σ H Q I h;rw[evalPart_none];exact wpAny_pure ⟨none,H,I,.none,h⟩
theorem zMo(h:PE X e te):PO X (some e) (zPF te):=by
 intro pins s σ H Q I hw;rw[evalPart_some];refine thn (h pins s σ H _ I hw) fun u s1 ⟨x,H1,I1,r1,q1⟩=>?_
 obtain⟨i,rfl,q⟩:=q1;obtain⟨t,rfl⟩:=r1;exact⟨some i,H1,I1,.int i t,q⟩
def SlR(X:Cx)(r:V->Option Int->Option Int->Hp->VK->Prop):Prop:=
 ∀(pins:List (Addr×Obj))(s:Shared)(σ:St)(H:Hp)(x:V)(v vl vu:Value)(lo hi:Option Int)(sl:Addr)(Q:VK),Inv X pins σ H s->cV x v->s.heap.IsSliceOf sl vl vu .none->IsPart vl lo->IsPart vu hi->r x lo hi H Q->
  ∃ T id,typeLookup (.type T) "__getitem__" = pure (some (.builtin id))/\s.TypeIs v T/\wpAny (model X.prog X.w) X.A (getItem v (.ref sl)) (EP X pins σ Q) X.xe s
theorem SlR.or{r r':V->Option Int->Option Int->Hp->VK->Prop}(h:SlR X r)(h':SlR X r'):SlR X (fun x lo hi H Q=>r x lo hi H Q∨r' x lo hi H Q):=by
 intro pins s σ H x v vl vu lo hi sl Q I rx hs pl pu q;rcases q with q | q
 ·exact h pins s σ H x v vl vu lo hi sl Q I rx hs pl pu q
 ·exact h' pins s σ H x v vl vu lo hi sl Q I rx hs pl pu q
abbrev tSl(r:V->Option Int->Option Int->Hp->VK->Prop)(te:TE)(tl th:TO):TE:=fun σ H Q=>te σ H fun x H1=>tl σ H1 fun l H2=>th σ H2 fun u H3=>r x l u H3 Q
theorem zDX{r:V->Option Int->Option Int->Hp->VK->Prop}(hr:SlR X r)(he:PE X e te)(hl:PO X lo tl)(hu:PO X hi th):PE X (.Subscript e (.Slice lo hi none p2) pos) (tSl r te tl th):=by
 intro pins s σ H Q I h;refine Subscript_ (thn (he pins s σ H _ I h) fun v s1 ⟨x,H1,I1,r1,q1⟩=>?_)
 refine wpAny_Slice (thn (hl pins s1 σ H1 _ I1 q1) fun vl s2 ⟨l,H2,I2,pl,q2⟩=>thn (hu pins s2 σ H2 _ I2 q2) fun vu s3 ⟨u,H3,I3,pu,q3⟩=>?_)
 rw[evalPart_none];refine wpAny_pure ?_
 have I4:Inv X pins σ H3 { s3 with heap:=s3.heap.push { cls:=.type "slice", data:=.fields #[vl,vu,.none] } }:=I3.kept (t':=s3.toks) fun b ob q=>Heap.get?_push_of_some _ q
 obtain⟨T,id,hT,ht,hg⟩:=hr pins { s3 with heap:=s3.heap.push { cls:=.type "slice", data:=.fields #[vl,vu,.none] } } σ H3 x v vl vu l u s3.heap.objs.size Q I4 r1 (Heap.IsSliceOf.new ..) pl pu q3;show wpAny (model X.prog X.w) X.A (subscriptTail e (.Slice lo hi none p2) v (.ref s3.heap.objs.size)) (EP X pins σ Q) X.xe { s3 with heap:=s3.heap.push { cls:=.type "slice", data:=.fields #[vl,vu,.none] } }
 exact tail_any (ops:=[.ref s3.heap.objs.size,v]) ht hT hg (by with_unfolding_all rfl)
def zIi(xs:List V)(lo hi:Option Int):List V:=(xs.drop (HT.sIx xs.length 0 lo)).take (HT.sIx xs.length xs.length hi-HT.sIx xs.length 0 lo)
theorem sW(xs:List V)(lo hi:Option Int):(zIi xs lo hi).length<=xs.length:=by
 unfold zIi;rw[Xd,Vu];omega
def zQZ(K:PySem.W.Frag):V->Option Int->Option Int->Hp->VK->Prop:=fun x lo hi H Q=>∃ a xs,x=.ref a/\SqT K H a xs/\
 ¬ (HT.sIx xs.length 0 lo=0/\HT.sIx xs.length xs.length hi=xs.length)/\∀ p,H p=none->Q (.ref p) (upd H p (.tup (zIi xs lo hi)))
theorem zNF:SlR X (zQZ X.K):=by
 intro pins s σ H x v vl vu lo hi sl Q I rx hs pl pu h;obtain⟨a,xs,rfl,hx,hw,q⟩:=h;cases rx;obtain⟨its,r,ht,hz⟩:=I.tuple hx;have hlen:its.toArray.size=xs.length:=by rw[Qh];exact r.length.symm
 refine⟨"tuple", _,PyProof.Rows.slot_tuple_getitem.lookup,ht.typeIs,?_⟩
 refine HT.getItem_tuple_cut ht hs pl pu (by rw[hlen];exact hw) ?_ (by rw[hlen];exact hz)
 rw[hlen];refine⟨.ref s.heap.objs.size,_,I.laid (t':=s.toks) (o:=.tup (zIi xs lo hi)) (fun b ob q=>Heap.get?_push_of_some _ q) (Qb _) ?_,rfl,q _ (I.hok.fresh (Qb _))⟩
 exact⟨Qp (sW xs lo hi) hz,_,(r.drop (HT.sIx xs.length 0 lo)).take (HT.sIx xs.length xs.length hi-HT.sIx xs.length 0 lo),IsTup.new _ _⟩
def zOR(K:PySem.W.Frag):R2:=fun x y H Q=>∃ a b xs ys,x=.ref a/\y=.ref b/\SqT K H a xs/\SqT K H b ys/\xs≠[]/\xs.length+ys.length<=sizeLine/\
 (ys=[]->Q (.ref a) H)/\(ys≠[]->∀ p,H p=none->Q (.ref p) (upd H p (.tup (xs++ys))))
theorem dH.nil_iff{xs:List V}{us:List Value}(r:dH xs us):us=[] ↔ xs=[]:=by
 cases r with
 | nil=>simp
 | cons _ _=>simp
theorem zMk:OpR X (binaryOp .Add) (zOR X.K):=by
 intro pins s σ H x y v u Q I rx ry h;obtain⟨a,b,xs,ys,rfl,rfl,ha,hb,hx,hz,q1,q2⟩:=h;cases rx;cases ry;obtain⟨its,r1,p1,_⟩:=I.tuple ha;obtain⟨its2,r2,p2,_⟩:=I.tuple hb;refine HT.cat_tup p1 p2 (fun z=>hx (r1.nil_iff.mp z)) (fun z=>⟨.ref a,H,I,rfl,q1 (r2.nil_iff.mp z)⟩) (fun z=>?_) (by rw[<-r1.length,<-r2.length];exact hz)
 refine⟨.ref s.heap.objs.size,_,I.laid (t':=s.toks) (o:=.tup (xs++ys)) (fun b ob q=>Heap.get?_push_of_some _ q) (Qb _) ?_,rfl,q2 (fun w=>z (r2.nil_iff.mpr w)) _ (I.hok.fresh (Qb _))⟩
 exact⟨by rw[Qi];exact hz,_,r1.append r2,IsTup.new _ _⟩
end
def ixN(n:Nat)(i:Int):Option Nat:=if 0<=i then (if i<n then some i.toNat else none) else if -(n:Int)<=i then some (i+n).toNat else none
def atI{α:Type}(xs:List α)(i:Int):Option α:=(ixN xs.length i).bind fun j=>xs[j]?
theorem zGm{n:Nat}{i:Int}{j:Nat}(h:ixN n i=some j):seqIndex? i n=some j/\j<n/\-(n:Int)<=i/\i<n:=by
 unfold ixN at h;by_cases h0:0<=i
 ·rw[if_pos h0] at h
  by_cases h1:i<n
  ·rw[if_pos h1] at h
   have e:i.toNat=j:=Vg h;exact⟨by rw[seqIndex_of h0 h1,e],by omega,by omega,h1⟩
  ·rw[if_neg h1] at h;cases h
 ·rw[if_neg h0] at h
  by_cases h1:-(n:Int)<=i
  ·rw[if_pos h1] at h
   have e:(i+n).toNat=j:=Vg h;exact⟨by rw[seqIndex_neg (by omega) h1,e],by omega,h1,by omega⟩
  ·rw[if_neg h1] at h;cases h
theorem zHK{α:Type}{xs:List α}{i:Int}{v:α}(h:atI xs i=some v):∃ j,seqIndex? i xs.length=some j/\xs[j]?=some v/\j<xs.length/\-(xs.length:Int)<=i/\i<xs.length:=by
 unfold atI at h
 cases e:ixN xs.length i with
 | none=>rw[e] at h;cases h
 | some j=>
  rw[e] at h;obtain⟨h1,h2,h3,h4⟩:=zGm e;exact⟨j,h1,h,h2,h3,h4⟩
theorem zBU{α:Type}{xs:List α}{j:Nat}{v:α}(h:xs[j]?=some v):atI xs (j:Int)=some v:=by
 have hj:j<xs.length:=(Q2.mp h).1
 have e:ixN xs.length (j:Int)=some j:=by
  unfold ixN;rw[if_pos (by omega),if_pos (by omega)];simp
 unfold atI;rw[e];exact h
def zCl(b:Expr):Prop:=∀ o i,subscripted b false o i=operate [o,i] (getItem o i)
def IxR(X:Cx)(r:R2):Prop:=
 ∀(value slice:Expr)(pins:List (Addr×Obj))(s:Shared)(σ:St)(H:Hp)(x y:V)(v u:Value)(Q:VK),Inv X pins σ H s->cV x v->cV y u->r x y H Q->
  subscripted slice false v u=operate [v,u] (getItem v u)->wpAny (model X.prog X.w) X.A (subscriptTail value slice v u) (EP X pins σ Q) X.xe s
def MtR(X:Cx)(id:String)(r:V->List V->Hp->VK->Prop):Prop:=
 ∀(pins:List (Addr×Obj))(s:Shared)(σ:St)(H:Hp)(x:V)(xs:List V)(v:Value)(us:List Value)(Q:VK),Inv X pins σ H s->cV x v->dH xs us->r x xs H Q->
  wpAny (model X.prog X.w) X.A (call (.builtin id) (v::us)) (EP X pins σ Q) X.xe s
section
variable{X:Cx}{a b:Expr}{ta tb:TE}{pos:Pos}
theorem IxR.or{r r':R2}(h:IxR X r)(h':IxR X r'):IxR X (fun x y H Q=>r x y H Q∨r' x y H Q):=by
 intro value slice pins s σ H x y v u Q I rx ry q hs;rcases q with q | q
 ·exact h value slice pins s σ H x y v u Q I rx ry q hs
 ·exact h' value slice pins s σ H x y v u Q I rx ry q hs
theorem zEm{r:R2}(hr:IxR X r)(ha:PE X a ta)(hb:PE X b tb)(hs:zCl b):PE X (.Subscript a b pos) (tOp r ta tb):=by
 intro pins s σ H Q I h;exact Subscript_ (zQc ha hb I h fun v u s2 x y H2 I2 rx ry q=>hr a b pins s2 σ H2 x y v u Q I2 rx ry q (hs _ _))
def zPp(K:PySem.W.Frag):R2:=fun x y H Q=>∃ p xs i v,x=.ref p/\y=.int i/\SqL K H p xs/\atI xs i=some v/\Q v H
def zPg(K:PySem.W.Frag):R2:=fun x y H Q=>∃ p xs i v,x=.ref p/\y=.int i/\SqT K H p xs/\atI xs i=some v/\Q v H
theorem zLl:IxR X (zPp X.K):=by
 intro value slice pins s σ H x y v u Q I rx ry h hs;obtain⟨p,xs,i,z,rfl,rfl,hq,he,q⟩:=h;cases rx;obtain⟨t,rfl⟩:=ry;obtain⟨its,r,pl,hz⟩:=I.list hq;obtain⟨j,h1,h2,h3,h4,h5⟩:=zHK he;obtain⟨w,ew,rw'⟩:=r.get h2;have hl:=r.length;have hn:=zEi;have fin:EP X pins σ Q w s:=⟨z,H,I,rw',q⟩;by_cases h0:0<=i
 ·have hj:i.toNat=j:=by
   rw[seqIndex_of h0 h5] at h1;exact Vg h1
  exact item_listR pl.isList h0 (by omega) (by rw[hj];simpa using ew) fin hs
 ·have hj:(i+(its.toArray.size:Int)).toNat=j:=by
   rw[seqIndex_neg (by omega) h4] at h1;rw[Qh,<-hl];exact Vg h1
  exact subscriptTail_builtinR (x:=w) pl.isList.typeIs slot_list_getitem.lookup
   (wpAny_getItem_list_neg (Q:=fun r s'=>r=w/\EP X pins σ Q r s') pl.isList (by omega) (by rw[Qh]<;>omega) (by omega) (by rw[hj];simpa using ew) ⟨rfl,fin⟩) hs
theorem zNZ:IxR X (zPg X.K):=by
 intro value slice pins s σ H x y v u Q I rx ry h hs;obtain⟨p,xs,i,z,rfl,rfl,hq,he,q⟩:=h;cases rx;obtain⟨t,rfl⟩:=ry;obtain⟨its,r,pl,hz⟩:=I.tuple hq;obtain⟨j,h1,h2,h3,h4,h5⟩:=zHK he;obtain⟨w,ew,rw'⟩:=r.get h2;have hl:=r.length;have hn:=zEi;have fin:EP X pins σ Q w s:=⟨z,H,I,rw',q⟩
 exact subscriptTail_builtinR (x:=w) pl.typeIs slot_tuple_getitem.lookup
  (getItem_tuple (j:=j) (Q:=fun r s'=>r=w/\EP X pins σ Q r s') pl (by omega) (by omega) (by rw[Qh,<-hl];exact h1) (by simpa using ew) ⟨rfl,fin⟩) hs
theorem zEs(its:List Value)(n j:Nat)(u:Value):Obj.mapSeq (·.setIfInBounds j u) { cls:=.type "list", data:=.seq its.toArray n }={ cls:=.type "list", data:=.seq (its.set j u).toArray n }:=by
 simp[Obj.mapSeq]
theorem Inv.lst{pins:List (Addr×Obj)}{σ:St}{H:Hp}{s:Shared}{p:Addr}{xs:List V}(I:Inv X pins σ H s)(h:H p=some (.lst xs)):
  ∃(its:List Value)(n:Nat),dH xs its/\s.heap.get? p=some { cls:=.type "list", data:=.seq its.toArray n }/\xs.length<=sizeLine:=by
 obtain⟨z,its,n,r,e⟩:=I.hok p _ h;exact⟨its,n,r,e,z⟩
theorem Inv.lstUpd{pins:List (Addr×Obj)}{σ:St}{H:Hp}{s:Shared}{p:Addr}{xs ys:List V}{its its':List Value}{n n':Nat}{f:Obj->Obj}(I:Inv X pins σ H s)(h:H p=some (.lst xs))
  (ho:s.heap.get? p=some { cls:=.type "list", data:=.seq its.toArray n }) (hf:f { cls:=.type "list", data:=.seq its.toArray n }={ cls:=.type "list", data:=.seq its'.toArray n' }) (r:dH ys its') (hz:ys.length<=sizeLine) (t:Nat):
  Inv X pins σ (upd H p (.lst ys)) { s with heap:=s.heap.update p f,toks:=t }:=by
 have e:(s.heap.update p f).get? p=some { cls:=.type "list", data:=.seq its'.toArray n' }:=by
  rw[Heap.get?_update_self f ho (by rw[hf]<;>rfl),hf]
 refine I.write (x:=p) (e:=p) (by rw[h];trivial) (.inl rfl) (fun b u hb q=>(Heap.get?_update_other _ _ (Ne.symm hb)).trans q) ⟨_,e⟩ ?_
 exact⟨hz,its',n',r,e⟩
def zPW:V->V->V->Hp->(Hp->Prop)->Prop:=fun o i v H Q=>∃ p xs k j,o=.ref p/\i=.int k/\H p=some (.lst xs)/\ixN xs.length k=some j/\Q (upd H p (.lst (xs.set j v)))
theorem zIs:zQo X zPW:=by
 intro pins s σ H o i v ov iv u Q I ro ri rv h;obtain⟨p,xs,k,j,rfl,rfl,hp,hj,q⟩:=h;cases ro;obtain⟨t,rfl⟩:=ri;obtain⟨its,n,r,ho,hz⟩:=I.lst hp;obtain⟨h1,h2,h3,h4⟩:=zGm hj;have hl:=r.length;have hn:=zEi
 have I':Inv X pins σ (upd H p (.lst (xs.set j v))) { s with heap:=s.heap.update p (Obj.mapSeq (·.setIfInBounds j u)) }:=
  I.lstUpd hp ho (zEs its n j u) (r.set rv j) (by rw[Vb];exact hz) s.toks
 by_cases h0:0<=k
 ·have hk:k.toNat=j:=by
   rw[seqIndex_of h0 h4] at h1;exact Vg h1
  exact PySem.W.ki_setAt ho h0 (by omega) (by rw[Qh,<-hl];exact h4) (by rw[hk];exact⟨_,I',q⟩)
 ·have hk:(k+(its.toArray.size:Int)).toNat=j:=by
   rw[seqIndex_neg (by omega) h3] at h1;rw[Qh,<-hl];exact Vg h1
  exact PySem.W.ki_setBack ho (by omega) (by rw[Qh,<-hl];exact h3) (by omega) (by rw[hk];exact⟨_,I',q⟩)
theorem zAR(lo hi:Option Int)(n:Nat):(sliceBounds lo hi none n).1=((HT.sIx n 0 lo:Nat):Int)/\(sliceBounds lo hi none n).2.1=((HT.sIx n n hi:Nat):Int)/\(sliceBounds lo hi none n).2.2=1:=by
 refine⟨?_,?_,rfl⟩
 ·cases lo with
  | none=>simp[sliceBounds,HT.sIx]
  | some i=>
   simp only[sliceBounds,HT.sIx,Option.getD_none,show(1:Int) > 0 by decide,if_true];by_cases h:i<0
   ·simp only[h,if_true]<;>omega
   ·simp only[h,if_false]<;>omega
 ·cases hi with
  | none=>simp[sliceBounds,HT.sIx]
  | some i=>
   simp only[sliceBounds,HT.sIx,Option.getD_none,show(1:Int) > 0 by decide,if_true];by_cases h:i<0
   ·simp only[h,if_true]<;>omega
   ·simp only[h,if_false]<;>omega
theorem yQ(its:List Value)(lo hi:Option Int):slicePick its.toArray lo hi none=((its.drop (HT.sIx its.length 0 lo)).take (HT.sIx its.length its.length hi-HT.sIx its.length 0 lo)).toArray:=by
 obtain⟨h1,h2,h3⟩:=zAR lo hi its.toArray.size;unfold slicePick;rw[h1,h2,h3];simp only[sliceRange_one,pick_run,Qh]<;>rfl
def zQI(K:PySem.W.Frag):V->Option Int->Option Int->Hp->VK->Prop:=fun x lo hi H Q=>∃ a xs,x=.ref a/\SqL K H a xs/\∀ p,H p=none->Q (.ref p) (upd H p (.lst (zIi xs lo hi)))
theorem zHw:SlR X (zQI X.K):=by
 intro pins s σ H x v vl vu lo hi sl Q I rx hs pl pu h;obtain⟨a,xs,rfl,hx,q⟩:=h;cases rx;obtain⟨its,r,ht,hz⟩:=I.list hx;have hlen:=r.length;refine⟨"list", _,slot_list_getitem.lookup,ht.isList.typeIs,?_⟩
 refine wpAny_getItem_list_slice ht.isList hs pl pu .none (by simp) ?_ (by rw[Qh]<;>omega)
 rw[yQ,<-hlen];refine⟨.ref s.heap.objs.size,_,I.laid (t':=s.toks) (o:=.lst (zIi xs lo hi)) (fun b ob q=>Heap.get?_push_of_some _ q) (Qb _) ?_,rfl,q _ (I.hok.fresh (Qb _))⟩
 exact⟨Qp (sW xs lo hi) hz,_,0,(r.drop (HT.sIx xs.length 0 lo)).take (HT.sIx xs.length xs.length hi-HT.sIx xs.length 0 lo),Heap.get?_push_size _ rfl⟩
theorem aL:vL X (.builtin "len") (fun xs H Q=>∃ p ys,xs=[.ref p]/\(SqL X.K H p ys∨SqT X.K H p ys)/\Q (.int ys.length) H):=by
 intro pins s σ H xs us Q I r h;obtain⟨p,ys,rfl,hq,q⟩:=h;obtain⟨u,rfl,rx⟩:=zCD r;cases rx;have hn:=zEi;rcases hq with hq | hq
 ·obtain⟨its,r',pl,hz⟩:=I.list hq
  have hlen:=r'.length;exact Calls.call_len_list pl.isList (by simp only[Qh]<;>omega) ⟨.int ys.length,H,I.tok _,⟨s.toks+1,by rw[Qh,hlen]⟩,q⟩
 ·obtain⟨its,r',pl,hz⟩:=I.tuple hq
  have hlen:=r'.length;exact len_tuple pl (by simp only[Qh]<;>omega) ⟨.int ys.length,H,I.tok _,⟨s.toks+1,by rw[Qh,hlen]⟩,q⟩
theorem zAn:vL X (.type "list") (fun xs H Q=>∃ p ys,xs=[.ref p]/\(SqL X.K H p ys∨SqT X.K H p ys)/\∀ l,H l=none->Q (.ref l) (upd H l (.lst ys))):=by
 intro pins s σ H xs us Q I r h;obtain⟨p,ys,rfl,hq,q⟩:=h;obtain⟨u,rfl,rx⟩:=zCD r;cases rx
 have fin:∀(its:List Value),dH ys its->ys.length<=sizeLine->∀(h':Heap)(c':Nat),(∀ b o',s.heap.get? b=some o'->h'.get? b=some o')->
   h'.get? s.heap.objs.size=some { cls:=.type "list", dict:=none,data:=.seq its.toArray c',slots:=#[] }->EP X pins σ Q (.ref s.heap.objs.size) { s with heap:=h' }:=fun its r' hz h' c' kp e=>
  ⟨.ref s.heap.objs.size,_,I.laid (t':=s.toks) kp (Qb _) (show kY X.prog X.w _ h' _ (.lst ys) from ⟨hz,its,c',r',e⟩),rfl,q _ (I.hok.fresh (Qb _))⟩
 rcases hq with hq | hq
 ·obtain⟨its,r',pl,hz⟩:=I.list hq
  have hlen:=r'.length;obtain⟨o,ho,hc,n,hd⟩:=pl.isList;exact call_list_seq p (.inl rfl) ho hc hd (fun h' c' kp e=>fin its r' hz h' c' kp e) (by simp only[Qh]<;>omega)
 ·obtain⟨its,r',pl,hz⟩:=I.tuple hq
  have hlen:=r'.length;obtain⟨o,ho,hc,n,hd⟩:=pl;exact call_list_seq p (.inr rfl) ho hc hd (fun h' c' kp e=>fin its r' hz h' c' kp e) (by simp only[Qh]<;>omega)
theorem oA:vL X (.type "tuple") (fun xs H Q=>∃ p ys,xs=[.ref p]/\((SqL X.K H p ys/\∀ l,H l=none->Q (.ref l) (upd H l (.tup ys)))∨(SqT X.K H p ys/\Q (.ref p) H))):=by
 intro pins s σ H xs us Q I r h;obtain⟨p,ys,rfl,h⟩:=h;obtain⟨u,rfl,rx⟩:=zCD r;cases rx;rcases h with⟨hq,q⟩ | ⟨hq,q⟩
 ·obtain⟨its,r',pl,hz⟩:=I.list hq
  have hlen:=r'.length;refine call_tuple_list pl.isList (fun h' kp=>?_) (by simp only[Qh]<;>omega)
  have I1:Inv X pins σ H { s with heap:=h' }:=I.kept (t':=s.toks) kp
  have I2:Inv X pins σ (upd H h'.objs.size (.tup ys)) { s with heap:=h'.push { cls:=.type "tuple", data:=.seq its.toArray } }:=
   I1.laid (t':=s.toks) (fun b o e=>Heap.get?_push_of_some _ e) (Qb _) (show kY X.prog X.w _ _ _ (.tup ys) from ⟨hz,its,r',IsTup.new _ _⟩)
  exact⟨.ref h'.objs.size,_,I2,rfl,q _ (I1.hok.fresh (Qb _))⟩
 ·obtain⟨its,r',pl,hz⟩:=I.tuple hq
  exact call_tuple_same pl ⟨.ref p,H,I,rfl,q⟩
def tyV(K:PySem.W.Frag)(T:String)(x:V)(H:Hp):Prop:=match x with
 | .str _=>T = "str"
 | .int _=>T = "int"
 | .ref p=>(T = "list" /\ ∃ xs,SqL K H p xs)∨(T = "tuple" /\ ∃ o,K.lookup p=some o/\o.cls=.type "tuple" /\ o.dict=none)∨
   (T = "dict" /\ ((∃ kvs,H p=some (.dK kvs))∨∃ kvs,H p=some (.dT kvs)))∨(T = "set" /\ ∃ S n,H p=some (.set S n))
 | _=>False
theorem zMV{pins:List (Addr×Obj)}{σ:St}{H:Hp}{s:Shared}{T:String}{x:V}{v:Value}(I:Inv X pins σ H s)(r:cV x v)(ty:tyV X.K T x H):
  s.TypeIs v T/\∀ a,v=.ref a->∃ ob,s.heap.get? a=some ob/\ob.dict=none:=by
 cases x with
 | str z=>
  obtain⟨t,rfl⟩:=r;cases (show T = "str" from ty)
  exact⟨typeIs_str s z t,fun _ e=>nomatch e⟩
 | int i=>
  obtain⟨t,rfl⟩:=r;cases (show T = "int" from ty)
  exact⟨typeIs_int s i t,fun _ e=>nomatch e⟩
 | ref p=>
  cases r;rcases ty with⟨rfl,xs,hq⟩ | ⟨rfl,o,hk,hc,hd⟩ | ⟨rfl,hk⟩ | ⟨rfl,S,n,hk⟩
  ·obtain⟨its,_,pl,_⟩:=I.list hq
   refine⟨pl.isList.typeIs,fun a e=>?_⟩
   cases e;obtain⟨o,n,e,c,hd,_⟩:=pl;exact⟨o,e,hd⟩
  ·refine⟨⟨o,I.kIn p o hk,hc⟩,fun a e=>?_⟩
   cases e;exact⟨o,I.kIn _ o hk,hd⟩
  ·have z:∃ o,s.heap.get? p=some o/\o.ExactDict:=by
    rcases hk with⟨kvs,hk⟩ | ⟨kvs,hk⟩
    ·obtain⟨_,_,_,_,o,_,_,e,ex,_⟩:=I.hok p _ hk
     exact⟨o,e,ex⟩
    ·obtain⟨_,_,_,_,o,_,_,e,ex,_⟩:=I.hok p _ hk
     exact⟨o,e,ex⟩
   obtain⟨o,e,ex⟩:=z;refine⟨⟨o,e,ex.1⟩,fun a e2=>?_⟩
   cases e2;exact⟨o,e,ex.2.1⟩
  ·obtain⟨o,_,_,_,e,ex,_⟩:=I.hok p _ hk
   refine⟨⟨o,e,ex.1⟩,fun a e2=>?_⟩
   cases e2;exact⟨o,e,ex.2.1⟩
 | _=>exact False.elim ty
abbrev tBM(K:PySem.W.Frag)(T:String)(r:V->List V->Hp->VK->Prop)(to:TE)(t:TA):TE:=fun σ H Q=>to σ H fun x H1=>tyV K T x H1/\t σ H1 fun xs H2=>r x xs H2 Q
variable{o e:Expr}{es:List Expr}{to:TE}{t:TA}{name:Str}{apos cpos:Pos}{T id:String}{r:V->List V->Hp->VK->Prop}
theorem zIS(pa:PlainAttrs T)(slot:Slot T name id)(hty:typeOf (.builtin id)=pure (.type "method_descriptor"))(hm:MtR X id r)(ho:PE X o to)(ha:PA X (e::es) t)
  (hbase:attributeBase o name X.env (eval o X.env)=eval o X.env:=by rfl)
  (hfew:((backTo cpos (starEach (e::es) X.env)).all (fun x=>!x.1) && (backToKw cpos (keywordEach [] X.env)).all (fun x=>x.1.isSome)
   && decide ((e::es).length+([]:List Keyword).length+(if ([]:List Keyword).isEmpty then 0 else 1)<30))=true:=by rfl)
  (hline:(apos.endLine==cpos.line)=true:=by rfl) (hs:starEach (e::es) X.env=(false,eval e X.env)::starEach es X.env:=by rfl) (hplain:(backTo cpos (starEach es X.env)).any (·.1)=false:=by rfl):
  PE X (.Call (.Attribute o name apos) (e::es) [] cpos) (tBM X.K T r to t):=by
 intro pins s σ H Q I h;refine wpAny_Call_method_late hbase hfew hline rfl (thn (ho pins s σ H _ I h) fun v s1 ⟨x,H1,I1,r1,ty,q1⟩=>?_)
 obtain⟨h1,h2⟩:=zMV I1 r1 ty;refine⟨T,id,pa,slot,hty,h1,h2,?_⟩
 have hA:=ha cpos pins s1 σ H1 _ I1 q1;rw[hs] at hA ⊢
 refine Calls.callWith_builtin (by show(false || (backTo cpos (starEach es X.env)).any (·.1))=false;rw[hplain]<;>rfl) (Calls.evalArgs_plain ?_)
 exact thn hA fun us s2 ⟨vs,H2,I2,r2,q2⟩=>hm pins s2 σ H2 x vs v us Q I2 r1 r2 q2
end
def MtM(X:Cx)(id:String)(r:V->List V->Hp->VK->Prop):Prop:=
 ∀(pins:List (Addr×Obj))(s:Shared)(σ:St)(H:Hp)(x:V)(xs:List V)(v:Value)(us:List Value)(Q:VK),Inv X pins σ H s->cV x v->dH xs us->r x xs H Q->
  wpAny (model X.prog X.w) X.A (call (.builtin id) (v::us)) (EP X pins σ Q) X.xe s
theorem dH.one:∀ {x:V} {us:List Value},dH [x] us->∃ u,us=[u]/\cV x u
 | _,_,.cons r .nil=>⟨_,rfl,r⟩
theorem dH.eraseIdx:∀ {xs:List V} {us:List Value} (i:Nat),dH xs us->dH (xs.eraseIdx i) (us.eraseIdx i)
 | _,_,_,.nil=>.nil
 | _,_,0,.cons _ t=>t
 | _,_,i+1,.cons r t=>.cons r (dH.eraseIdx i t)
theorem dH.rep{xs:List V}{us:List Value}(h:dH xs us):∀ k:Nat,dH (List.replicate k xs).flatten (List.replicate k us).flatten
 | 0=>.nil
 | k+1=>by
  rw[Xk,Xk,Xz,Xz];exact dH.append h (dH.rep h k)
theorem zAo{α:Type}:∀(l:List α)(i:Nat),(l.eraseIdx i).length<=l.length
 | [],_=>Qb _
 | _::_,0=>Nat.le_succ _
 | _::r,i+1=>Xe (zAo r i)
theorem zBb(its:List Value):∀(k:Nat)(acc:List Value),
  List.foldl (fun x1 x2=>x1++x2) acc.toArray (List.replicate k its.toArray)=(acc++(List.replicate k its).flatten).toArray
 | 0,acc=>by simp
 | k+1,acc=>by
  have e:acc.toArray++its.toArray=(acc++its).toArray:=by simp
  have e2:(acc++its)++(List.replicate k its).flatten=acc++(List.replicate (k+1) its).flatten:=by
   rw[Xk,Xz,Vp]
  rw[<-e2,<-zBb its k (acc++its),<-e,Xk,List.foldl_cons]
section
variable{X:Cx}{pins:List (Addr×Obj)}{σ:St}{H:Hp}{s:Shared}{l b:Addr}{xs ys zs:List V}
theorem Inv.lset{its its':List Value}{n:Nat}{f:Array Value->Array Value}{t':Nat}(I:Inv X pins σ H s)(hH:H l=some (.lst xs))
  (e:s.heap.get? l=some { cls:=.type "list", data:=.seq its.toArray n }) (hf:f its.toArray=its'.toArray) (hv:dH ys its') (hz:ys.length<=sizeLine):
  Inv X pins σ (upd H l (.lst ys)) { s with heap:=s.heap.update l (Obj.mapSeq f),toks:=t' }:=by
 have q:=PySem.IsL.update e f;rw[hf] at q;refine I.write (x:=l) (e:=l) (by rw[hH];exact trivial) (.inl rfl) (fun b' u hb hu=>(Heap.get?_update_other s.heap (Obj.mapSeq f) (Ne.symm hb)).trans hu) ⟨_,q⟩ ?_
 exact⟨hz,its',_,hv,q⟩
theorem Inv.lnew{its:List Value}{t':Nat}(I:Inv X pins σ H s)(hv:dH ys its)(hz:ys.length<=sizeLine):
  Inv X pins σ (upd H s.heap.objs.size (.lst ys)) { s with heap:=s.heap.push { cls:=.type "list", data:=.seq its.toArray },toks:=t' }:=
 I.laid (fun _ _ q=>Heap.get?_push_of_some _ q) (Qb _) ⟨hz,its,0,hv,Heap.get?_push_size _ rfl⟩
theorem Inv.fresh(I:Inv X pins σ H s):H s.heap.objs.size=none:=I.hok.fresh (Qb _)
theorem Inv.lstM(I:Inv X pins σ H s)(hH:H l=some (.lst xs)):xs.length<=sizeLine/\∃(its:List Value)(n:Nat),dH xs its/\xs.length=its.length/\s.heap.get? l=some { cls:=.type "list", data:=.seq its.toArray n }:=by
 obtain⟨z,its,n,r,e⟩:=I.hok l _ hH;exact⟨z,its,n,r,r.length,e⟩
theorem zDz{n:Nat}(h:n<=sizeLine):Builtin.List.listTooLong n=false:=by
 unfold Builtin.List.listTooLong;exact decide_eq_false (by omega)
end
section
variable{X:Cx}
def zLU:V->List V->Hp->VK->Prop:=fun x vs H Q=>∃ l xs y,x=.ref l/\vs=[y]/\H l=some (.lst xs)/\xs.length<sizeLine/\Q .non (upd H l (.lst (xs++[y])))
theorem pL:MtM X "list.append" zLU:=by
 intro pins s σ H x vs v us Q I rx rv h;obtain⟨l,xs,y,rfl,rfl,hH,hz,q⟩:=h;cases rx;obtain⟨u,rfl,ru⟩:=rv.one;obtain⟨z,its,n,r,hl,e⟩:=I.lstM hH;refine call_meets F.slot_list_append ⟨_,e,rfl⟩ F.entry_list_append (F.args_list_append_2 _ _) (PySem.list_append l its.toArray n u (by rw[Qh];omega)) ⟨e,?_⟩
 refine⟨.non,_,I.lset (its':=its++[u]) hH e (by simp) (r.append (.cons ru .nil)) ?_,rfl,q⟩
 rw[Qi,Xl];omega
def zLQ:V->List V->Hp->VK->Prop:=fun x vs H Q=>∃ l b xs zs,x=.ref l/\vs=[.ref b]/\H l=some (.lst xs)/\H b=some (.lst zs)/\xs.length+zs.length<=sizeLine/\Q .non (upd H l (.lst (xs++zs)))
theorem zHX:MtM X "list.extend" zLQ:=by
 intro pins s σ H x vs v us Q I rx rv h;obtain⟨l,b,xs,zs,rfl,rfl,hH,hB,hz,q⟩:=h;cases rx;obtain⟨u,rfl,ru⟩:=rv.one;cases ru;obtain⟨z,its,n,r,hl,e⟩:=I.lstM hH;obtain⟨z2,its2,n2,r2,hl2,e2⟩:=I.lstM hB;have hsz:its.toArray.size+its2.toArray.size<=sizeLine:=by rw[Qh,Qh];omega
 have hlong:¬ (!its.toArray.isEmpty && Builtin.List.listTooLong (its.toArray.size+its2.toArray.size))=true:=by
  rw[zDz hsz,Bool.and_false];exact X7
 refine call_meets F.slot_list_extend ⟨_,e,rfl⟩ F.entry_list_extend (F.args_list_extend_2 _ _)
  (AutoSeq1.list_extend_list_list_0 l its.toArray n b its2.toArray n2 hlong (by rw[Qh];omega) (by omega)) ⟨e,e2,?_⟩
 refine⟨.non,_,I.lset (its':=its++its2) hH e (by simp) (r.append r2) ?_,rfl,q⟩
 rw[Qi];omega
def zNu:V->List V->Hp->VK->Prop:=fun x vs H Q=>∃ l xs i k y,x=.ref l/\vs=[.int i]/\H l=some (.lst xs)/\-(2^63)<=i/\i<2^63/\seqIndex? i xs.length=some k/\xs[k]?=some y/\Q y (upd H l (.lst (xs.eraseIdx k)))
theorem zIw:MtM X "list.pop" zNu:=by
 intro pins s σ H x vs v us Q I rx rv h;obtain⟨l,xs,i,k,y,rfl,rfl,hH,h1,h2,hk,hy,q⟩:=h;cases rx;obtain⟨u,rfl,ru⟩:=rv.one;obtain⟨t,rfl⟩:=ru;obtain⟨z,its,n,r,hl,e⟩:=I.lstM hH;obtain⟨w,hw,rw'⟩:=r.get hy
 refine call_meets F.slot_list_pop ⟨_,e,rfl⟩ F.entry_list_pop (F.args_list_pop_2 _ _)
  (MeetsSeq.list_pop_at l its.toArray n i t k w (fitsIndex_both h1 h2) (by rw[Qh,<-hl];exact hk) (by rw[<-Us];exact hw) (by rw[Qh];omega)) ⟨e,?_⟩
 refine⟨y,_,I.lset (its':=its.eraseIdx k) hH e ?_ (r.eraseIdx k) ?_,rw',q⟩
 ·show its.toArray.eraseIdxIfInBounds k=(its.eraseIdx k).toArray
  rw[List.eraseIdxIfInBounds_toArray]
 ·have:=zAo xs k
  omega
def zQE:R2:=fun x y H Q=>∃ l k xs,x=.ref l/\y=.int k/\H l=some (.lst xs)/\-(2^63)<=k/\k<2^63/\xs.length*k.toNat<=sizeLine/\
 ∀ p,H p=none->Q (.ref p) (upd H p (.lst (List.replicate k.toNat xs).flatten))
theorem zLV{α:Type}(xs:List α)(k:Nat):(List.replicate k xs).flatten.length=k*xs.length:=by
 induction k with
 | zero=>simp
 | succ k ih=>rw[Xk,Xz,Qi,ih,Nat.succ_mul,Ut]
theorem zOl:OpR X (binaryOp .Mult) zQE:=by
 intro pins s σ H x y v u Q I rx ry h;obtain⟨l,k,xs,rfl,rfl,hH,h1,h2,hz,q⟩:=h;cases rx;obtain⟨t,rfl⟩:=ry;obtain⟨z,its,n,r,hl,e⟩:=I.lstM hH;have hlen:its.toArray.size*k.toNat<=sizeLine:=by rw[Qh,<-hl];exact hz
 have hcap:¬ its.toArray.size*k.toNat > (2^63-1) / 8:=by
  have:(sizeLine:Nat)<=(2^63-1) / 8:=by decide
  omega
 have hfit:¬ (!Builtin.List.listFitsIndex k)=true:=by
  rw[fitsIndex_both h1 h2];exact X7
 have hlong:¬ Builtin.List.listTooLong (its.toArray.size*k.toNat)=true:=by
  rw[zDz hlen];exact X7
 have hnew:List.foldl (fun x1 x2=>x1++x2) #[] (List.replicate (if its.toArray.isEmpty=true then 0 else k.toNat) its.toArray)=(List.replicate k.toNat its).flatten.toArray:=by
  have f0:∀ m:Nat,List.foldl (fun x1 x2=>x1++x2) #[] (List.replicate m its.toArray)=(List.replicate m its).flatten.toArray:=fun m=>by
   have:=zBb its m []
   rw[Yr] at this;exact this
  rw[f0]
  cases its with
  | nil=>simp
  | cons a r'=>rw[if_neg (by simp)]
 refine wpAny_binaryOp_repeat_ref (T := "list") (U := "int") (by decide) ⟨_,e,rfl⟩ (fun s'=>typeIs_int s' k t) noFill_list_mul F.fills_int_mul F.slot_int_rmul repeat_list F.slot_int_index.lookup
  (call_meets F.slot_int_rmul (typeIs_int s k t) F.entry_int_rmul (F.args_int_rmul_2 _ _) (int___rmul___int_list k t l its.toArray n)
   ⟨e,rfl,⟨_,e,rfl⟩,call_meets F.slot_list_mul ⟨_,e,rfl⟩ F.entry_list_mul (F.args_list_mul_2 _ _) (AutoListH.list___mul___list_int_3 l its.toArray n k t hfit hcap hlong) ⟨e,?_⟩⟩)
 rw[hnew];exact⟨.ref _,_,I.lnew (t':=s.toks) (r.rep k.toNat) (by rw[zLV,Nat.mul_comm];exact hz),rfl,q _ I.fresh⟩
end
section
variable{prog:Program}{w:World}{A:Around}{E:Value->Shared->Prop}{s:Shared}
set_option maxRecDepth 100000 in
end
section
variable{X:Cx}
end
end L2
namespace Att
open PySem PySem.W PySem.Calls PyProof.Rows
theorem tX{P:Params}{h:Heap}:∀(ns:List Int)(vs:List Value),WellAll P h vs (ns.map WData.int)->IntsAre vs ns:=by
 intro ns
 induction ns with
 | nil=>
  intro vs w;rw[Vq] at w;cases w;exact .nil
 | cons n ns ih=>
  intro vs w;rw[Qj] at w
  cases w with
  | cons a b=>
   cases a;exact .cons _ _ (ih _ b)
theorem script_of{l:OpenLaw}{n:Nat}(hn:l.most=some n){P:Params}{h:Heap}{args:List WData}{vals:List Value}
  (hpre:l.row.toRowW.claim.pre args=true) (hwl:WellAll P h vals args):
  ∃ a vs ns,vals=[Value.ref a]/\args=[WData.list (ns.map WData.int)]/\h.get? a=some { cls:=.type "list", data:=.seq vs.toArray }/\IntsAre vs ns/\ns.length<=n:=by
 have hsh:WShape.hasAll [] args [.list .int]=true:=(pre_splitW hpre).1;have hc:l.pre.holds [] { args:=args }=true:=(pre_splitW hpre).2;obtain⟨d,r,rfl,h1,h2⟩:=hasAllW_cons hsh;obtain rfl:=hasAllW_nil h2;obtain⟨xs,rfl,h3⟩:=hasW_list h1;obtain⟨ns,rfl⟩:=items_int h3
 have hlen:ns.length<=n:=by
  unfold OpenLaw.pre at hc
  have h4:(WTm.not (.lt (.lit (.int (n:Int))) (.len (.arg 0)))).holds [] { args:=[.list (ns.map .int)] }=true:=by
   have h4:=(holds_andW hc).1;rw[hn] at h4;exact h4
  have h5:=condW_of h4 (w_not (w_lt w_lit (w_len_list (w_arg rfl))));rw[Qd] at h5;refine Nat.le_of_not_lt fun q=>?_
  have q':(n:Int)<((ns.length:Nat):Int):=by omega
  first
   | (rw[decide_eq_true q'] at h5;exact absurd h5 (by decide))
   | (simp at h5;omega)
 cases hwl with
 | cons w1 w2=>
  cases w2
  cases w1 with
  | list ho hall=>exact⟨_,_,ns,rfl,rfl,ho,tX ns _ hall,hlen⟩
theorem post_true(l:OpenLaw)(args:List WData):l.row.toRowW.claim.post args (.bool true) args=true:=
 postW_of (r:=l.row.toRowW) (X:=(true==true))
  (show WShape.has [] (.bool true) .bool=true by first | rfl | decide | simp[WShape.has,WShape.arms,WShape.armsAll])
  (show(WTm.eq .res (.lit (.bool true))).value [] { args:=args,res:=some (.bool true),after:=args }=some (.bool (true==true)) from w_eq_bool (w_res rfl) w_lit) rfl
section
variable{prog:Program}{w:World}{A:Around}{E:Value->Shared->Prop}{s:Shared}{K:Frag}
end
end Att
namespace L2
open PySem PySem.Spec PyProof.Rows
theorem zAB:∀ {vs:List Value} {ns:List Int},IntsAre vs ns->dH (ns.map V.int) vs
 | _,_,.nil=>.nil
 | _,_,.cons n t h=>.cons ⟨t,rfl⟩ (zAB h)
def zRg(H:Hp):Prop:=∀ b,H b=none∨∃ o xs,H b=some (.frz o (.lst xs))
def jE(s:Stmt):Arguments:=match s with
 | .FunctionDef _ a _ _ _ _ _ _ _ _=>a
 | _=>{ posonlyargs:=[],args:=[],vararg:=none,kwonlyargs:=[],kw_defaults:=[],kwarg:=none,defaults:=[] }
def eI(s:Stmt):List Stmt:=match s with
 | .FunctionDef _ _ b _ _ _ _ _ _ _=>b
 | _=>[]
def aF(s:Stmt):Scope:=match s with
 | .FunctionDef _ _ _ _ _ _ sc _ _ _=>sc
 | _=>{ kind:=.function,names:=[],isGenerator:=false,isCoroutine:=false }
structure Fun (K:PySem.W.Frag) (x qual:Str) (st:Stmt) (f:Addr) (fd:FuncData):Prop where
 ex:∃(oc:Value)(od:Option Addr)(kV doc pm:Value)(an:Option Addr)(cdv ct:Value)(osl:Array (Option Value)),
  fd=PySem.W.fnOf x qual (jE st) (eI st) (aF st) .none kV doc pm an cdv ct/\K.lookup f=some ⟨oc,od,.func fd,osl⟩/\PySem.W.codeIn K cdv qual=true
 kp:PySem.W.keepIn K (.ref f)=true
section
variable{P:Program}{w:World}{K:Fg_}{mg:Str->Option Value}{base:Heap}
theorem Fun.binds{x qual:Str}{st:Stmt}{f:Addr}{fd:FuncData}{ps:List Str}(F:Fun K x qual st f fd)
  (h:∀(kV doc pm:Value)(an:Option Addr)(cdv ct:Value)(us:List Value),us.length=ps.length->bindArgs (PySem.W.fnOf x qual (jE st) (eI st) (aF st) .none kV doc pm an cdv ct) ⟨us,[]⟩=pure (ps.zip us)):zAe K fd ps []:=by
 obtain⟨oc,od,kV,doc,pm,an,cdv,ct,osl,rfl,lk,hcd⟩:=F.ex;exact .all (h kV doc pm an cdv ct)
theorem xB{x qual:Str}{st:Stmt}{f:Addr}{oc:Value}{od an:Option Addr}{osl:Array (Option Value)}{kV doc pm cdv ct:Value}(l:K.lookup f=some ⟨oc,od,.func (PySem.W.fnOf x qual (jE st) (eI st) (aF st) .none kV doc pm an cdv ct),osl⟩)
  (c:PySem.W.codeIn K cdv qual=true) (k:PySem.W.keepIn K (.ref f)=true):Fun K x qual st f (PySem.W.fnOf x qual (jE st) (eI st) (aF st) .none kV doc pm an cdv ct):=⟨⟨oc,od,kV,doc,pm,an,cdv,ct,osl,rfl,l,c⟩,k⟩
end
section
variable{X:Cx}
theorem pv(i:Nat){x:Str}{pos:Pos}(hN:X.N[i]?=some x:=by rfl)(hv:Vis X.env.scope x:=by first | exact Or.inl rfl | exact Or.inr (Or.inl rfl) | exact Or.inr (Or.inr rfl))(hd:(x==("__debug__" : Str))=false:=by decide)
  (hcd:(x==("__classdict__" : Str))=false:=by decide):PE X (.Name x pos) (zDg i):=tG hN hv hd hcd
end
def Same(H H':Hp):Prop:=∀ b o,H b=some o->H' b=some o
theorem Same.refl(H:Hp):Same H H:=fun _ _ h=>h
theorem Same.trans{H H1 H2:Hp}(a:Same H H1)(b:Same H1 H2):Same H H2:=fun c o h=>b c o (a c o h)
end L2
set_option maxHeartbeats 4000000
set_option exponentiation.threshold 20000
namespace L2
open PySem PySem.Spec PyProof.Rows
section
variable{X:Cx}
variable{tg:Expr}
end
section
variable{P:Program}{w:World}{H H':Hp}{h:Heap}{a:Addr}{o:HO}
theorem kY.here(x:kY P w H h a o):∃ ob,h.get? a=some ob:=by
 cases o with
 | lst xs=>obtain⟨_,_,_,_,e⟩:=x;exact⟨_,e⟩
 | tup xs=>obtain⟨_,_,_,e⟩:=x;obtain⟨ob,e,_⟩:=e;exact⟨_,e⟩
 | dK kvs=>obtain⟨_,_,_,_,e⟩:=x;obtain⟨ob,_,_,e,_⟩:=e;exact⟨_,e⟩
 | dT kvs=>obtain⟨_,_,_,_,ob,_,_,e,_⟩:=x;exact⟨_,e⟩
 | set S n=>obtain⟨ob,_,_,_,e,_⟩:=x;exact⟨_,e⟩
 | ins C dx fs=>obtain⟨_,_,_,e,_⟩:=x;exact⟨_,e⟩
 | own y=>exact x
 | xd fs=>obtain⟨_,⟨ob,_,_,e,_⟩,_⟩:=x;exact⟨_,e⟩
 | met f y=>exact⟨_,x⟩
 | rng lo hi=>obtain⟨_,_,_,e⟩:=x;exact⟨_,e⟩
 | frz ob u=>exact⟨_,x.1⟩
 | tbl ps=>exact⟨_,x⟩
 | ext φ=>exact x.2.1
theorem HOk.none_of(ok:HOk P w H h)(e:h.get? a=none):H a=none:=by
 cases q:H a with
 | none=>rfl
 | some o=>
  obtain⟨ob,z⟩:=(ok a o q).here;rw[e] at z;cases z
end
structure Fly (P:Program) (w:World) (l:List Env) (H H':Hp) (s:Shared) (ea:Addr) (cls:Value) (s':Shared):Prop where
 os:s'.os=s.os
 bare:AllBare s'.gens
 un:Un (frs l) [] H H' s.heap s'.heap
 hok:HOk P w H' s'.heap
 ne:H' ea=none
 new:s.heap.get? ea=none
 fly:∃ B a0,Heap.FlyingW B l ea cls a0 s'.heap/\(∀ b o,s'.heap.get? b=some o->((∃ o',s.heap.get? b=some o')∨H' b≠none)->b∉frs l->B.get? b=some o)
def CX1(P:Program)(w:World):CXT:=fun outer H s E e s'=>∃ ea cls H',e=.ref ea/\Fly P w outer H H' s ea cls s'/\E cls none H'
structure Own (X:Cx):Prop where
 stk:X.stack=X.env::X.outer
 fr:X.env.frame=some X.env.locals
 ex:X.ex=[]
section
variable{X:Cx}{pins:List (Addr×Obj)}{σ:St}{H H':Hp}{s s':Shared}{ea:Addr}{cls:Value}
theorem zDF(O:Own X):frs X.stack=X.env.locals::X.fs:=by
 rw[O.stk];show List.filterMap _ (_::_)=_
 rw[Y0,O.fr];rfl
theorem Inv.there0(I:Inv X pins σ H s)(O:Own X){b:Addr}{o:Obj}(e:X.s₀.heap.get? b=some o):∃ o',s.heap.get? b=some o':=I.base.there b o e (by rw[O.ex];simp)
theorem Inv.ne0(I:Inv X pins σ H s){b:Addr}{o:Obj}(e:X.s₀.heap.get? b=some o):b≠X.env.locals:=Qo (Qn (Heap.lt_size e) I.ok.above)
theorem Fly.leave(I:Inv X pins σ H s)(O:Own X)(F:Fly X.prog X.w X.stack H H' s ea cls s'){h':Heap}{B:Heap}{a0:Value}
  (hf:Heap.FlyingW B X.stack ea cls a0 s'.heap) (cov:∀ b o,s'.heap.get? b=some o->((∃ o',s.heap.get? b=some o')∨H' b≠none)->b∉frs X.stack->B.get? b=some o)
  (hf':Heap.FlyingW B X.outer ea cls a0 h') (up:s'.heap.UpToSlots h'):Fly X.prog X.w X.outer X.H₀ H' X.s₀ ea cls { s' with heap:=h' }:=by
 have fst:frs X.stack=X.env.locals::X.fs:=zDF O;have nin:∀ {b:Addr},b≠X.env.locals->b∉X.fs->b∉frs X.stack:=fun h1 h2=>by rw[fst];simp[h1,h2]
 have trk:∀ {b:Addr},H' b≠none->b∉frs X.stack:=fun {b} hb hm=>by
  have h1:=I.stkFree b hm;obtain⟨_,o,ho,_⟩:=I.stack.mem hm;exact hb (F.un.free b o ho h1 (by simp))
 have keepB:∀ {b:Addr} {o:Obj},s'.heap.get? b=some o->((∃ o',s.heap.get? b=some o')∨H' b≠none)->b∉frs X.stack->h'.get? b=some o:=fun e1 e2 e3=>hf'.1 _ _ (cov _ _ e1 e2 e3)
 have slotOf:∀ {b:Addr} {o:Obj},b∈frs X.stack->s'.heap.get? b=some o->∃ sl,h'.get? b=some { o with slots:=sl }:=fun {b o} hm e=>by
  obtain⟨_,o',ho',hn⟩:=hf.2.2.1.mem hm;rw[e] at ho';cases ho'
  exact up b o e hn
 refine⟨F.os.trans I.os,F.bare,⟨?_,?_,?_,?_,?_,?_,?_⟩,?_,F.ne,?_,⟨B,a0,hf',?_⟩⟩
 ·intro b o e n hb hx
  have e1:=I.base.keep b o e n hb (by rw[O.ex];simp)
  have n1:=I.base.free b o e n (by rw[O.ex];simp)
  have hs:b∉frs X.stack:=nin (I.ne0 e) hb;exact keepB (F.un.keep b o e1 n1 hs (by simp)) (.inl ⟨o,e1⟩) hs
 ·intro b o e n hb hx
  obtain⟨sl,e1⟩:=I.base.slot b o e n hb (by rw[O.ex];simp)
  have n1:=I.base.free b o e n (by rw[O.ex];simp)
  have hs:b∈frs X.stack:=by rw[fst];exact Qe _ hb
  obtain⟨sl2,e2⟩:=F.un.slot b _ e1 n1 hs (by simp)
  obtain⟨sl3,e3⟩:=slotOf hs e2;exact⟨sl3,e3⟩
 ·intro b o e n hx
  obtain⟨o1,e1⟩:=I.there0 O e;exact F.un.free b o1 e1 (I.base.free b o e n (by rw[O.ex];simp)) (by simp)
 ·intro b o e hx
  obtain⟨o1,e1⟩:=I.there0 O e;obtain⟨o2,e2⟩:=F.un.there b o1 e1 (by simp)
  by_cases hs:b∈frs X.stack
  ·obtain⟨sl,e3⟩:=slotOf hs e2
   exact⟨_,e3⟩
  ·exact⟨o2,keepB e2 (.inl ⟨o1,e1⟩) hs⟩
 ·exact fun b xs e=>F.un.tups b xs (I.base.tups b xs e)
 ·exact fun b o u e=>F.un.frzs b o u (I.base.frzs b o u e)
 ·intro b ps e
  obtain⟨m1,e1⟩:=I.base.tbls b ps e;obtain⟨m2,e2⟩:=F.un.tbls b _ e1;exact⟨m1++m2,by rw[e2,Array.append_assoc]⟩
 ·intro a o e
  refine(F.hok a o e).stay (fun b u hb z=>?_) (fun b z=>z) (fun b xs z=>z)
  have hb':H' b≠none:=by
   rcases hb with rfl | hb
   ·rw[e];simp
   ·rw[hb];simp
  exact keepB z (.inr hb') (trk hb')
 ·show X.s₀.heap.get? ea=none
  cases q:X.s₀.heap.get? ea with
  | none=>rfl
  | some o=>
   obtain⟨o1,e1⟩:=I.there0 O q;rw[F.new] at e1;cases e1
 ·intro b o e c hb
  have c':(∃ o',s.heap.get? b=some o')∨H' b≠none:=by
   rcases c with⟨o',c⟩ | c
   ·exact .inl (I.there0 O c)
   ·exact .inr c
  have hs:b∉frs X.stack:=by
   rcases c with⟨o',c⟩ | c
   ·exact nin (I.ne0 c) hb
   ·exact trk c
  have ex:∃ o2,s'.heap.get? b=some o2:=by
   rcases c' with⟨o',c1⟩ | c1
   ·exact F.un.there b o' c1 (by simp)
   ·cases q:H' b with
    | none=>exact absurd q c1
    | some u=>exact(F.hok b u q).here
  obtain⟨o2,e2⟩:=ex;have z:=keepB e2 c' hs;have z':h'.get? b=some o:=e;rw[z] at z';cases z'
  exact cov b o e2 c' hs
end
section
variable{X:Cx}{pins:List (Addr×Obj)}{σ:St}{H H':Hp}{s s':Shared}{ea:Addr}{cls:Value}
theorem zOs(l:List Env):∀ env∈l,∀ b,env.frame=some b->b∈frs l:=fun env he b hb=>Ul.mpr ⟨env,he,hb⟩
theorem Fly.made(I:Inv X pins σ H s)(O:Own X){vs:List Value}(hx:Heap.MadeExcOf s.heap s'.heap ea cls vs)(hos:s'.os=s.os)(hg:AllBare s'.gens){h':Heap}{t:Addr}
  (hf':Heap.FlyingW (PySem.W.hideAll s.heap (frs X.stack)) X.outer ea cls (.ref t) h') (up:s'.heap.UpToSlots h'):Fly X.prog X.w X.outer X.H₀ H X.s₀ ea cls { s' with heap:=h' }:=by
 have fst:frs X.stack=X.env.locals::X.fs:=zDF O;have nin:∀ {b:Addr},b≠X.env.locals->b∉X.fs->b∉frs X.stack:=fun h1 h2=>by rw[fst];simp[h1,h2]
 have trk:∀ {b:Addr},H b≠none->b∉frs X.stack:=fun {b} hb hm=>hb (I.stkFree b hm)
 have keepB:∀ {b:Addr} {o:Obj},s.heap.get? b=some o->b∉frs X.stack->h'.get? b=some o:=fun e1 e3=>hf'.1 _ _ (Uk _ e1 e3)
 have slotOf:∀ {b:Addr} {o:Obj},b∈frs X.stack->s.heap.get? b=some o->∃ sl,h'.get? b=some { o with slots:=sl }:=fun {b o} hm e=>by
  obtain⟨_,o',ho',hn⟩:=I.stack.mem hm;rw[e] at ho';cases ho'
  exact up b o (hx.keeps b o e) hn
 refine⟨hos.trans I.os,hg,⟨?_,?_,?_,?_,?_,?_,?_⟩,?_,?_,?_,⟨_,_,hf',?_⟩⟩
 ·intro b o e n hb hx'
  exact keepB (I.base.keep b o e n hb (by rw[O.ex];simp)) (nin (I.ne0 e) hb)
 ·intro b o e n hb hx'
  obtain⟨sl,e1⟩:=I.base.slot b o e n hb (by rw[O.ex];simp)
  have hs:b∈frs X.stack:=by rw[fst];exact Qe _ hb
  obtain⟨sl3,e3⟩:=slotOf hs e1;exact⟨sl3,e3⟩
 ·exact fun b o e n hx'=>I.base.free b o e n (by rw[O.ex];simp)
 ·intro b o e hx'
  obtain⟨o1,e1⟩:=I.there0 O e;by_cases hs:b∈frs X.stack
  ·obtain⟨sl,e3⟩:=slotOf hs e1
   exact⟨_,e3⟩
  ·exact⟨o1,keepB e1 hs⟩
 ·exact fun b xs e=>I.base.tups b xs e
 ·exact fun b o u e=>I.base.frzs b o u e
 ·exact fun b ps e=>I.base.tbls b ps e
 ·intro a o e
  refine(I.hok a o e).stay (fun b u hb z=>?_) (fun b z=>z) (fun b xs z=>z)
  have hb':H b≠none:=by
   rcases hb with rfl | hb
   ·rw[e];simp
   ·rw[hb];simp
  exact keepB z (trk hb')
 ·exact I.hok.none_of hx.new
 ·show X.s₀.heap.get? ea=none
  cases q:X.s₀.heap.get? ea with
  | none=>rfl
  | some o=>
   obtain⟨o1,e1⟩:=I.there0 O q;rw[hx.new] at e1;cases e1
 ·intro b o e c hb
  have hs:b∉frs X.stack:=by
   rcases c with⟨o',c⟩ | c
   ·exact nin (I.ne0 c) hb
   ·exact trk c
  have ex:∃ o2,s.heap.get? b=some o2:=by
   rcases c with⟨o',c1⟩ | c1
   ·exact I.there0 O c1
   ·cases q:H b with
    | none=>exact absurd q c1
    | some u=>exact(I.hok b u q).here
  obtain⟨o2,e2⟩:=ex;have z:=keepB e2 hs;have z':h'.get? b=some o:=e;rw[z] at z';cases z'
  exact Uk _ e2 hs
end
section
variable{CX:CXT}{P:Program}{w:World}{K:Fg_}{mg:Str->Option Value}{base:Heap}{N:List Str}{qual:Str}{scope:Scope}{f:Addr}{cd:Value}{A:Around}{outer:List Env}{s₀:Shared}{H₀:Hp}{E:XK}
theorem zDQ:Own (zEN CX P w K mg base N qual scope f cd A outer s₀ H₀ E):=⟨rfl,rfl,rfl⟩
theorem zPZ{E':XK}(h:∀ c H',E' c none H'->E c none H'):zDD (CX1 P w) (zEN (CX1 P w) P w K mg base N qual scope f cd A outer s₀ H₀ E) E':=by
 intro pins σ H s e s' I hc;obtain⟨ea,cls,H',rfl,F,q⟩:=hc;obtain⟨B,a0,hf,cov⟩:=F.fly;have O:Own (zEN (CX1 P w) P w K mg base N qual scope f cd A outer s₀ H₀ E):=zDQ;exact wpAny_leaves_onW (I.ok.frames.trans (congrArg some O.stk)) O.fr hf fun h' hf' up=>⟨ea,cls,H',rfl,F.leave I O hf cov hf' up,h _ _ q⟩
theorem zDa{pins:List (Addr×Obj)}{σ:St}{H:Hp}{s s':Shared}{ea:Addr}{cls:Value}{vs:List Value}(I:Inv (zEN (CX1 P w) P w K mg base N qual scope f cd A outer s₀ H₀ E) pins σ H s)
  (hx:Heap.MadeExcOf s.heap s'.heap ea cls vs) (hos:s'.os=s.os) (hg:AllBare s'.gens) (q:E cls none H):(zEN (CX1 P w) P w K mg base N qual scope f cd A outer s₀ H₀ E).xe (.ref ea) s':=by
 have O:Own (zEN (CX1 P w) P w K mg base N qual scope f cd A outer s₀ H₀ E):=zDQ;have hst:=O.stk
 exact wpAny_leaves_madeW (base:=PySem.W.hideAll s.heap (frs (zEN (CX1 P w) P w K mg base N qual scope f cd A outer s₀ H₀ E).stack)) (h:=s.heap) (I.ok.frames.trans (congrArg some O.stk)) O.fr (fun b o z=>PySem.W.of_hideAll _ z)
  (PySem.W.funFrames_hide (I.stack) (zOs _)) hx fun h' t hf' _ _ up=>⟨ea,cls,H,rfl,Fly.made I O hx hos hg hf' up,q⟩
end
structure Err (K:PySem.W.Frag) (mg:Str->Option Value) (x:Str) (C:Addr):Prop where
 own:∀ h:Heap,K.In h->∃ bm newId B initId,OwnCls x C bm newId mg h/\ExcBaseFacts B newId initId bm
end L2
namespace L3
open PySem
inductive D where
 | non | bl (b:Bool) | int (i:Int) | str (x:Str) | tup (ds:List D) | lst (ds:List D)
inductive Res (α:Type) where
 | ok (a:α) | err (c:Str) | no
def Res.bind{α β:Type}(x:Res α)(f:α->Res β):Res β:=match x with
 | .ok a=>f a
 | .err c=>.err c
 | .no=>.no
theorem Res.ok_bind{α β:Type}{a:α}{f:α->Res β}:(Res.ok a).bind f=f a:=rfl
inductive Sl where
 | un | val (d:D) | own (ds:List D) | exc (c:Str) | tab (T:List (Str×Str))
abbrev Rho:=List Sl
inductive Rt where
 | v (d:D) | f (ds:List D)
def Rt.d:Rt->D
 | .v d=>d
 | .f ds=>.lst ds
inductive Fl where
 | nx (ρ:Rho) | ret (r:Rt) | brk (ρ:Rho) | ctn (ρ:Rho)
abbrev Ev:=Rho->Res D
abbrev Fv:=Rho->Res (List D)
abbrev Tv:=Rho->Res Bool
abbrev Sv:=Rho->Res Fl
abbrev Mir:=List D->Res Rt
mutual
def eqD:D->D->Bool
 | .non,.non=>true
 | .bl a,.bl b=>a==b
 | .bl a,.int b=>(if a then 1 else 0)==b
 | .int a,.bl b=>a==(if b then 1 else 0)
 | .int a,.int b=>a==b
 | .str a,.str b=>a==b
 | .tup ds,.tup es=>wP ds es
 | .lst ds,.lst es=>wP ds es
 | _,_=>false
def wP:List D->List D->Bool
 | [],[]=>true
 | d::ds,e::es=>eqD d e && wP ds es
 | _,_=>false
end
mutual
def dep:D->Nat
 | .tup ds=>depS ds+1
 | .lst ds=>depS ds+1
 | _=>0
def depS:List D->Nat
 | []=>0
 | d::ds=>max (dep d) (depS ds)
end
mutual
def noL:D->Bool
 | .tup ds=>noLs ds
 | .lst _=>false
 | _=>true
def noLs:List D->Bool
 | []=>true
 | d::ds=>noL d && noLs ds
end
theorem pZ:∀ {ds:List D} {d:D},d∈ds->dep d<=depS ds
 | e::ds,d,h=>by
  rw[depS];rcases Qc.mp h with rfl | h
  ·exact Nat.le_max_left ..
  ·exact Qp (pZ h) (Nat.le_max_right ..)
theorem zIG:∀ {ds:List D},noLs ds=true ↔ ∀ d∈ds,noL d=true
 | []=>by simp[noLs]
 | d::ds=>by rw[noLs,Vj,zIG];simp
theorem mU:∀(ds es:List D),wP ds es=((List.range (min ds.length es.length)).all (fun j=>eqD (ds.getD j .non) (es.getD j .non)) && ds.length==es.length)
 | [],[]=>rfl
 | [],e::es=>by simp[wP]
 | d::ds,[]=>by simp[wP]
 | d::ds,e::es=>by
  rw[wP,mU ds es];have h:min (d::ds).length (e::es).length=min ds.length es.length+1:=by simp only[Ql];omega
  rw[h,List.range_succ_eq_map];simp[List.all_map,Function.comp_def,Bool.and_assoc]
mutual
theorem mM:∀ d:D,eqD d d=true
 | .non=>rfl
 | .bl b=>by simp[eqD]
 | .int i=>by simp[eqD]
 | .str x=>by simp[eqD]
 | .tup ds=>by rw[eqD];exact tE ds
 | .lst ds=>by rw[eqD];exact tE ds
theorem tE:∀ ds:List D,wP ds ds=true
 | []=>rfl
 | d::ds=>by rw[wP,mM d,tE ds];rfl
end
def nb(i:Int):Nat:=i.natAbs.log2+1
theorem zLh(i:Int):i.natAbs<2^nb i:=Nat.lt_log2_self
theorem zPP{i:Int}{m:Nat}(h:i.natAbs<2^m)(hm:0<m):nb i<=m:=by
 unfold nb;by_cases h0:i.natAbs=0
 ·rw[h0];exact hm
 ·exact(Nat.log2_lt h0).mpr h
def iP(i j:Int):Bool:=(decide (-(2^64)<i) && decide (i<2^64)) || (decide (-(2^64)<j) && decide (j<2^64)) || decide (nb i+nb j<=134217728)
def lA(j:Int):Bool:=decide (j≠0) && decide (nb j<=9000)
def qY(i j:Int):Bool:=decide (0<=j) && decide ((nb i:Int)*j<=2^27)
abbrev Op2:=D->D->Res D
def nZ:Op2
 | .int i,.int j=>.ok (.int (i+j))
 | .tup a,.tup b=>if a.length+b.length<=16777216 then .ok (.tup (a++b)) else .no
 | _,_=>.no
def zRj:Op2
 | .int i,.int j=>.ok (.int (i+j))
 | _,_=>.no
def zBS:Op2
 | .int i,.int j=>.ok (.int (i-j))
 | _,_=>.no
def qA:Op2
 | .int i,.int j=>if iP i j=true then .ok (.int (i*j)) else .no
 | _,_=>.no
def lY:Op2
 | .int i,.int j=>if lA j=true then .ok (.int (i.fdiv j)) else .no
 | _,_=>.no
def jZ:Op2
 | .int i,.int j=>if j≠0 then .ok (.int (i.fmod j)) else .no
 | _,_=>.no
def zBy:Op2
 | .int i,.int j=>if qY i j=true then .ok (.int (i^j.toNat)) else .no
 | _,_=>.no
def oEq(x y:D):Res D:=if dep x<=50 then .ok (.bl (eqD x y)) else .no
def oNe(x y:D):Res D:=if dep x<=50 then .ok (.bl (!eqD x y)) else .no
def oLt:Op2
 | .int i,.int j=>.ok (.bl (decide (i<j)))
 | _,_=>.no
def oLe:Op2
 | .int i,.int j=>.ok (.bl (decide (i<=j)))
 | _,_=>.no
def oGt:Op2
 | .int i,.int j=>.ok (.bl (decide (j<i)))
 | _,_=>.no
def oGe:Op2
 | .int i,.int j=>.ok (.bl (decide (j<=i)))
 | _,_=>.no
def atD(ds:List D)(i:Int):Option D:=if 0<=i then ds[i.toNat]? else if 0<=(ds.length:Int)+i then ds[((ds.length:Int)+i).toNat]? else none
def ofO{α:Type}:Option α->Res α
 | some a=>.ok a
 | none=>.no
def oIx:Op2
 | .tup ds,.int i=>ofO (atD ds i)
 | .lst ds,.int i=>ofO (atD ds i)
 | _,_=>.no
def oIn:Op2
 | d,.lst ds=>if depS ds<=50 then .ok (.bl (ds.any fun e=>eqD e d)) else .no
 | d,.tup ds=>if depS ds<=50 then .ok (.bl (ds.any fun e=>eqD e d)) else .no
 | _,_=>.no
def tO:Op2
 | d,.lst ds=>if depS ds<=50 then .ok (.bl (!(ds.any fun e=>eqD e d))) else .no
 | d,.tup ds=>if depS ds<=50 then .ok (.bl (!(ds.any fun e=>eqD e d))) else .no
 | _,_=>.no
def zOE:D->Res D
 | .int i=>.ok (.int (-i))
 | _=>.no
def zQG:D->Res D
 | .bl b=>.ok (.bl (!b))
 | _=>.no
def aE(i:Nat)(ρ:Rho):Res D:=match ρ[i]? with
 | some (.val d)=>.ok d
 | _=>.no
def eC(d:D)(_ρ:Rho):Res D:=.ok d
def eOp(o:Op2)(a b:Ev)(ρ:Rho):Res D:=(a ρ).bind fun x=>(b ρ).bind fun y=>o x y
def eUn(o:D->Res D)(a:Ev)(ρ:Rho):Res D:=(a ρ).bind o
def zQk(a b:Ev)(ρ:Rho):Res D:=(a ρ).bind fun x=>match x with
 | .bl c=>if c=true then b ρ else .ok (.bl false)
 | _=>.no
def eOr(a b:Ev)(ρ:Rho):Res D:=(a ρ).bind fun x=>match x with
 | .bl c=>if c=true then .ok (.bl true) else b ρ
 | _=>.no
def eIf(t:Tv)(a b:Ev)(ρ:Rho):Res D:=(t ρ).bind fun c=>if c=true then a ρ else b ρ
def aNil(_ρ:Rho):Res (List D):=.ok []
def aB(e:Ev)(r:Fv)(ρ:Rho):Res (List D):=(e ρ).bind fun d=>(r ρ).bind fun ds=>.ok (d::ds)
def qX(a:Fv)(ρ:Rho):Res D:=(a ρ).bind fun ds=>if ds.length<=16777216 then .ok (.tup ds) else .no
def aN(m:Mir)(a:Fv)(ρ:Rho):Res D:=(a ρ).bind fun ds=>(m ds).bind fun r=>.ok r.d
def jM:List D->Res D
 | [.lst ds]=>.ok (.int ds.length)
 | [.tup ds]=>.ok (.int ds.length)
 | _=>.no
def zMr:List D->Res D
 | [.int i]=>.ok (.int (if i<0 then -i else i))
 | _=>.no
def zRu:List D->Res D
 | [.int i,.int j]=>.ok (.int (if j > i then j else i))
 | _=>.no
def zMF:List D->Res D
 | [.int i,.int j]=>.ok (.int (if j<i then j else i))
 | _=>.no
def zKo:List D->Res D
 | [.lst ds]=>.ok (.tup ds)
 | [.tup ds]=>.ok (.tup ds)
 | _=>.no
def eB(b:List D->Res D)(a:Fv)(ρ:Rho):Res D:=(a ρ).bind b
def tyN:D->String
 | .non => "NoneType" | .bl _ => "bool" | .int _ => "int" | .str _ => "str" | .tup _ => "tuple" | .lst _ => "list"
def isT(T:String)(d:D):Bool:=tyN d==T || (T == "int" && tyN d == "bool")
def zQJ(T:String)(a:Ev)(ρ:Rho):Res D:=(a ρ).bind fun d=>.ok (.bl (isT T d))
def isNon:D->Bool
 | .non=>true
 | _=>false
def zEU(a:Ev)(ρ:Rho):Res D:=(a ρ).bind fun d=>.ok (.bl (!isNon d))
def Sl.frz:Sl->Sl
 | .own ds=>.val (.lst ds)
 | s=>s
def zDE(e:Ev)(ρ:Rho):Res D:=(e (ρ.map Sl.frz)).bind fun d=>if noL d=true then .ok d else .no
def nQ(a:Fv)(ρ:Rho):Res (List D):=(a ρ).bind fun ds=>if ds.length<=16777216 then .ok ds else .no
def eA(m:Mir)(a:Fv)(ρ:Rho):Res (List D):=(a ρ).bind fun ds=>(m ds).bind fun r=>match r with
 | .f ds=>.ok ds
 | .v _=>.no
def zAp(a:Fv)(ρ:Rho):Res (List D):=(a ρ).bind fun ds=>match ds with
 | [.lst ds]=>.ok ds
 | [.tup ds]=>.ok ds
 | _=>.no
def zLs(a b:Ev)(ρ:Rho):Res (List D):=(a ρ).bind fun x=>(b ρ).bind fun y=>match x,y with
 | .lst ds,.lst es=>if ds.length+es.length<=16777216 then .ok (ds++es) else .no
 | _,_=>.no
def eF(f:Fv)(ρ:Rho):Res D:=(f ρ).bind fun ds=>.ok (.lst ds)
def zOa(f:Fv)(ρ:Rho):Res (List D):=(f (ρ.map Sl.frz)).bind fun ds=>if noLs ds=true then .ok ds else .no
def cut(n:Nat)(i:Option Int)(d:Nat):Nat:=match i with
 | none=>d
 | some i=>if 0<=i then min i.toNat n else ((n:Int)+i).toNat
def eG(ds:List D)(lo hi:Option Int):List D:=(ds.drop (cut ds.length lo 0)).take (cut ds.length hi ds.length-cut ds.length lo 0)
abbrev Ov:=Rho->Res (Option Int)
def oN(_ρ:Rho):Res (Option Int):=.ok none
def oS(e:Ev)(ρ:Rho):Res (Option Int):=(e ρ).bind fun d=>match d with
 | .int i=>.ok (some i)
 | _=>.no
def fSl(a:Ev)(lo hi:Ov)(ρ:Rho):Res (List D):=(a ρ).bind fun x=>(lo ρ).bind fun l=>(hi ρ).bind fun h=>match x with
 | .lst ds=>.ok (eG ds l h)
 | _=>.no
def zRr(a:Ev)(lo hi:Ov)(ρ:Rho):Res D:=(a ρ).bind fun x=>(lo ρ).bind fun l=>(hi ρ).bind fun h=>match x with
 | .tup ds=>if (eG ds l h).length<ds.length then .ok (.tup (eG ds l h)) else .no
 | _=>.no
def dL(e:Ev)(ρ:Rho):Res Bool:=(e ρ).bind fun d=>match d with
 | .bl b=>.ok b
 | _=>.no
def tFrzB(t:Tv)(ρ:Rho):Res Bool:=t (ρ.map Sl.frz)
def zLZ(t:Tv)(ρ:Rho):Res Bool:=(t ρ).bind fun b=>.ok (!b)
def zEK(t u:Tv)(ρ:Rho):Res Bool:=(t ρ).bind fun b=>if b=true then u ρ else .ok false
def zEX(t u:Tv)(ρ:Rho):Res Bool:=(t ρ).bind fun b=>if b=true then .ok true else u ρ
def sNext(ρ:Rho):Res Fl:=.ok (.nx ρ)
def bB(a b:Sv)(ρ:Rho):Res Fl:=(a ρ).bind fun f=>match f with
 | .nx ρ'=>b ρ'
 | f=>.ok f
def sIf(t:Tv)(a b:Sv)(ρ:Rho):Res Fl:=(t ρ).bind fun c=>if c=true then a ρ else b ρ
def cW(i:Nat)(e:Ev)(ρ:Rho):Res Fl:=(e ρ).bind fun d=>.ok (.nx (ρ.set i (.val d)))
def zBQ(i:Nat)(f:Fv)(ρ:Rho):Res Fl:=(f ρ).bind fun ds=>.ok (.nx (ρ.set i (.own ds)))
def sJ(e:Ev)(ρ:Rho):Res Fl:=(e ρ).bind fun _=>.ok (.nx ρ)
def eX(e:Ev)(ρ:Rho):Res Fl:=(e (ρ.map Sl.frz)).bind fun d=>.ok (.ret (.v d))
def lJ(f:Fv)(ρ:Rho):Res Fl:=(f (ρ.map Sl.frz)).bind fun ds=>.ok (.ret (.f ds))
def gM(i:Nat)(ρ:Rho):Res Fl:=match ρ[i]? with
 | some (.own ds)=>.ok (.ret (.f ds))
 | _=>.no
def sRetN(_ρ:Rho):Res Fl:=.ok (.ret (.v .non))
def jO(c:Str)(a:Fv)(ρ:Rho):Res Fl:=(a ρ).bind fun ds=>if ds.length<=16777216 then .err c else .no
def sNo(_ρ:Rho):Res Fl:=.no
def zGS(i:Nat)(e:Ev)(ρ:Rho):Res Fl:=match ρ[i]? with
 | some (.own ds)=>(e ρ).bind fun d=>if ds.length<16777216 then .ok (.nx (ρ.set i (.own (ds++[d])))) else .no
 | _=>.no
def zMw(i:Nat)(e:Fv)(ρ:Rho):Res Fl:=match ρ[i]? with
 | some (.own ds)=>(e ρ).bind fun es=>if ds.length+es.length<=16777216 then .ok (.nx (ρ.set i (.own (ds++es)))) else .no
 | _=>.no
def zEF(i:Nat)(k e:Ev)(ρ:Rho):Res Fl:=(e ρ).bind fun d=>match ρ[i]? with
 | some (.own ds)=>(k ρ).bind fun j=>match j with
  | .int j=>if 0<=j/\j<ds.length then .ok (.nx (ρ.set i (.own (ds.set j.toNat d)))) else if -(ds.length:Int)<=j/\j<0 then .ok (.nx (ρ.set i (.own (ds.set (j+ds.length).toNat d)))) else .no
  | _=>.no
 | _=>.no
def zMQ(i:Nat)(o:Op2)(e:Ev)(ρ:Rho):Res Fl:=match ρ[i]? with
 | some (.val x)=>(e ρ).bind fun y=>(o x y).bind fun d=>.ok (.nx (ρ.set i (.val d)))
 | _=>.no
def sFrz(s:Sv)(ρ:Rho):Res Fl:=s (ρ.map Sl.frz)
def frzAt(i:Nat)(ρ:Rho):Rho:=match ρ[i]? with
 | some (.own ds)=>ρ.set i (.val (.lst ds))
 | _=>ρ
def sFrzAt(i:Nat)(s:Sv)(ρ:Rho):Res Fl:=s (frzAt i ρ)
def noErr{α:Type}:Res α->Res α
 | .err _=>.no
 | r=>r
def zNb(i:Nat)(m:Mir)(a:Fv)(ρ:Rho):Res Fl:=(noErr (a ρ)).bind fun ds=>(m ds).bind fun r=>.ok (.nx (ρ.set i (.val r.d)))
abbrev Gv:=D->Rho->Res Rho
def gName(i:Nat)(d:D)(ρ:Rho):Res Rho:=.ok (ρ.set i (.val d))
def zBc(gs:List D->Rho->Res Rho)(d:D)(ρ:Rho):Res Rho:=match d with
 | .tup ds=>gs ds ρ
 | _=>.no
def zAx(ds:List D)(ρ:Rho):Res Rho:=match ds with
 | []=>.ok ρ
 | _=>.no
def fH(g:Gv)(r:List D->Rho->Res Rho)(ds:List D)(ρ:Rho):Res Rho:=match ds with
 | d::ds=>(g d ρ).bind fun ρ'=>r ds ρ'
 | []=>.no
def zRh(g:Gv)(f:Ev)(ρ:Rho):Res Fl:=(f ρ).bind fun d=>(g d ρ).bind fun ρ'=>.ok (.nx ρ')
def loop(g:Gv)(b:Sv):List D->Rho->Res Fl
 | [],ρ=>.ok (.nx ρ)
 | d::ds,ρ=>(g d ρ).bind fun ρ1=>(b ρ1).bind fun f=>match f with
  | .nx ρ2=>loop g b ds ρ2
  | .ctn ρ2=>loop g b ds ρ2
  | .brk ρ2=>.ok (.nx ρ2)
  | .ret r=>.ok (.ret r)
def rX(it:Fv)(g:Gv)(b:Sv)(ρ:Rho):Res Fl:=(it ρ).bind fun ds=>loop g b ds ρ
def uW(e:Ev)(ρ:Rho):Res (List D):=(e ρ).bind fun d=>match d with
 | .lst ds=>.ok ds
 | .tup ds=>.ok ds
 | _=>.no
def rng(lo:Int)(n:Nat)(c:Int):List D:=(List.range n).map fun(i:Nat)=>D.int (lo+(i:Int)*c)
def zB(a:Fv)(ρ:Rho):Res (List D):=(a ρ).bind fun ds=>match ds with
 | [.int j]=>if -(2^62)<=j/\j<2^62 then .ok (rng 0 j.toNat 1) else .no
 | _=>.no
def zFf(a:Fv)(ρ:Rho):Res (List D):=(a ρ).bind fun ds=>match ds with
 | [.int i,.int j]=>if -(2^62)<=i/\i<2^62/\-(2^62)<=j/\j<2^62 then .ok (rng i (j-i).toNat 1) else .no
 | _=>.no
def wh(t:Tv)(b:Sv):Nat->Rho->Res Fl
 | 0,_=>.no
 | n+1,ρ=>(t ρ).bind fun c=>if c=true then (b ρ).bind fun f=>match f with
   | .nx ρ2=>wh t b n ρ2
   | .ctn ρ2=>wh t b n ρ2
   | .brk ρ2=>.ok (.nx ρ2)
   | .ret r=>.ok (.ret r)
  else .ok (.nx ρ)
open Classical in
def fE(t:Tv)(b:Sv)(ρ:Rho):Res Fl:=if h:∃ n,wh t b n ρ≠.no then wh t b h.choose ρ else .no
theorem xG{t:Tv}{b:Sv}:∀ {n:Nat} {ρ:Rho} {k:Nat},wh t b n ρ≠.no->n<=k->wh t b k ρ=wh t b n ρ
 | 0,ρ,k,h,_=>absurd rfl h
 | n+1,ρ,0,h,l=>absurd l (by omega)
 | n+1,ρ,k+1,h,l=>by
  rw[wh,wh];rw[wh] at h
  cases ht:t ρ with
  | no=>rfl
  | err c=>rfl
  | ok c=>
   rw[ht] at h;simp only[Res.bind] at h ⊢
   cases c with
   | false=>rfl
   | true=>
    simp only[if_true] at h ⊢
    cases hb:b ρ with
    | no=>rfl
    | err c=>rfl
    | ok f=>
     rw[hb] at h
     cases f with
     | nx ρ2=>exact xG h (by omega)
     | ctn ρ2=>exact xG h (by omega)
     | brk ρ2=>rfl
     | ret r=>rfl
theorem gA{t:Tv}{b:Sv}{n:Nat}{ρ:Rho}(h:wh t b n ρ≠.no):fE t b ρ=wh t b n ρ:=by
 have hx:∃ n,wh t b n ρ≠.no:=⟨n,h⟩;unfold fE;rw[dif_pos hx];rcases Y2 n hx.choose with l | l
 ·exact xG h l
 ·exact(xG hx.choose_spec l).symm
theorem nR{t:Tv}{b:Sv}{ρ:Rho}(h:fE t b ρ≠.no):∃ n,fE t b ρ=wh t b n ρ:=by
 unfold fE at h ⊢
 split
 ·exact⟨_,rfl⟩
 ·rename_i hx;rw[dif_neg hx] at h;exact absurd rfl h
theorem zBj{t:Tv}{b:Sv}{ρ:Rho}:fE t b ρ=((t ρ).bind fun c=>if c=true then (b ρ).bind fun f=>match f with
   | .nx ρ2=>fE t b ρ2
   | .ctn ρ2=>fE t b ρ2
   | .brk ρ2=>.ok (.nx ρ2)
   | .ret r=>.ok (.ret r)
  else .ok (.nx ρ)):=by
 have key:∀ n,wh t b (n+1) ρ≠.no->wh t b (n+1) ρ=((t ρ).bind fun c=>if c=true then (b ρ).bind fun f=>match f with
   | .nx ρ2=>fE t b ρ2
   | .ctn ρ2=>fE t b ρ2
   | .brk ρ2=>.ok (.nx ρ2)
   | .ret r=>.ok (.ret r)
  else .ok (.nx ρ)):=by
  intro n h;rw[wh] at h ⊢
  cases ht:t ρ with
  | no=>rfl
  | err c=>rfl
  | ok c=>
   rw[ht] at h;simp only[Res.bind] at h ⊢
   cases c with
   | false=>rfl
   | true=>
    simp only[if_true] at h ⊢
    cases hb:b ρ with
    | no=>rfl
    | err c=>rfl
    | ok f=>
     rw[hb] at h
     cases f with
     | nx ρ2=>exact(gA h).symm
     | ctn ρ2=>exact(gA h).symm
     | brk ρ2=>rfl
     | ret r=>rfl
 by_cases h:fE t b ρ=.no
 ·rw[h]
  cases ht:t ρ with
  | no=>rfl
  | err c=>
   exfalso
   have q:wh t b 1 ρ=.err c:=by rw[wh,ht];rfl
   have:=gA (t:=t) (b:=b) (ρ:=ρ) (n:=1) (by rw[q];exact fun z=>by cases z)
   rw[h,q] at this;cases this
  | ok c=>
   simp only[Res.bind]
   cases c with
   | false=>
    exfalso
    have q:wh t b 1 ρ=.ok (.nx ρ):=by rw[wh,ht];rfl
    have:=gA (t:=t) (b:=b) (ρ:=ρ) (n:=1) (by rw[q];exact fun z=>by cases z)
    rw[h,q] at this;cases this
   | true=>
    simp only[if_true]
    cases hb:b ρ with
    | no=>rfl
    | err c=>
     exfalso
     have q:wh t b 1 ρ=.err c:=by rw[wh,ht];simp[Res.bind,hb]
     have:=gA (t:=t) (b:=b) (ρ:=ρ) (n:=1) (by rw[q];exact fun z=>by cases z)
     rw[h,q] at this;cases this
    | ok f=>
     have again:∀ ρ2,(f=.nx ρ2∨f=.ctn ρ2)->fE t b ρ2=.no:=by
      intro ρ2 hf;by_cases h2:fE t b ρ2=.no
      ·exact h2
      ·exfalso
       obtain⟨n,e⟩:=nR h2
       have q:wh t b (n+1) ρ=wh t b n ρ2:=by
        rw[wh,ht];simp only[Res.bind,if_true,hb];rcases hf with rfl | rfl<;>rfl
       have h3:wh t b (n+1) ρ≠.no:=by rw[q,<-e];exact h2
       have:=gA h3
       rw[h] at this;exact h3 this.symm
     cases f with
     | nx ρ2=>exact(again ρ2 (.inl rfl)).symm
     | ctn ρ2=>exact(again ρ2 (.inr rfl)).symm
     | brk ρ2=>
      exfalso
      have q:wh t b 1 ρ=.ok (.nx ρ2):=by rw[wh,ht];simp[Res.bind,hb]
      have:=gA (t:=t) (b:=b) (ρ:=ρ) (n:=1) (by rw[q];exact fun z=>by cases z)
      rw[h,q] at this;cases this
     | ret r=>
      exfalso
      have q:wh t b 1 ρ=.ok (.ret r):=by rw[wh,ht];simp[Res.bind,hb]
      have:=gA (t:=t) (b:=b) (ρ:=ρ) (n:=1) (by rw[q];exact fun z=>by cases z)
      rw[h,q] at this;cases this
 ·obtain⟨n,e⟩:=nR h
  cases n with
  | zero=>rw[e] at h;exact absurd rfl h
  | succ n=>rw[e];exact key n (by rw[<-e];exact h)
def zMy(f:Fv)(g:Ev)(ρ:Rho):Res (List D):=(f ρ).bind fun ds=>(g ρ).bind fun d=>match d with
 | .int k=>if 0<=k/\k<2^62/\ds.length*k.toNat<=16777216 then .ok (List.replicate k.toNat ds).flatten else .no
 | _=>.no
def qI(_ρ:Rho):Res Bool:=.ok true
def fM(t:Tv)(f:Ev)(ρ:Rho):List D->Res (List D)
 | []=>.ok []
 | d::ds=>(noErr (t (ρ++[.val d]))).bind fun c=>if c=true then (noErr (f (ρ++[.val d]))).bind fun e=>(fM t f ρ ds).bind fun es=>.ok (e::es) else fM t f ρ ds
def sF(it:Fv)(t:Tv)(f:Ev)(ρ:Rho):Res (List D):=(it ρ).bind fun ds=>if ds.length<=16777215 then fM t f ρ ds else .no
def start(n:Nat)(ds:List D):Rho:=ds.map Sl.val++List.replicate (n-ds.length) .un
def fin:Fl->Res Rt
 | .nx _=>.ok (.v .non)
 | .ret r=>.ok r
 | .brk _=>.no
 | .ctn _=>.no
def fn(p n:Nat)(b:Sv)(ds:List D):Res Rt:=if ds.length=p then (b (start n ds)).bind fin else .no
def zIh:D->Option (List D)
 | .lst ds=>some ds
 | .tup ds=>some ds
 | _=>none
def kZ:List D->List D->List D
 | a::r,b::q=>.tup [a,b]::kZ r q
 | _,_=>[]
def zMx(a:Fv)(ρ:Rho):Res (List D):=(a ρ).bind fun ds=>match ds with
 | [x,y]=>match zIh x,zIh y with
  | some xs,some ys=>.ok (kZ xs ys)
  | _,_=>.no
 | _=>.no
def jV:Nat->List D->List D
 | _,[]=>[]
 | n,d::r=>.tup [.int n,d]::jV (n+1) r
def zGn(e:Ev)(ρ:Rho):Res (List D):=(e ρ).bind fun d=>match d with
 | .lst ds=>.ok (jV 0 ds)
 | .tup ds=>.ok (jV 0 ds)
 | _=>.no
def fK(f:Ev)(ρ:Rho):List D->Res (List D)
 | []=>.ok []
 | .tup [a,b]::ds=>(noErr (f (ρ++[.val a,.val b]))).bind fun e=>(fK f ρ ds).bind fun es=>.ok (e::es)
 | _::_=>.no
def wO(it:Fv)(f:Ev)(ρ:Rho):Res (List D):=(it ρ).bind fun ds=>if ds.length<=16777215 then fK f ρ ds else .no
def slQ(l h:Option Int):D->Res D
 | .lst ds=>.ok (.lst (eG ds l h))
 | .tup ds=>.ok (.tup (eG ds l h))
 | _=>.no
def zPR(a:Ev)(lo hi:Ov)(ρ:Rho):Res D:=(a ρ).bind fun x=>(lo ρ).bind fun l=>(hi ρ).bind fun h=>slQ l h x
def zRo:D->Option Str
 | .str x=>some x
 | .int i=>if i.natAbs.log2<1920 then some (toString i) else none
 | _=>none
def zQR:Str->List D->Option Str
 | a,[]=>some a
 | a,d::r=>match zRo d with
  | some x=>if x.length<=sizeLine/\(a++x).length<=sizeLine then zQR (a++x) r else none
  | none=>none
def mX:List D->Option (List Int)
 | []=>some []
 | .int i::ds=>match mX ds with
  | some ns=>some (i::ns)
  | none=>none
 | _::_=>none
def zCJ:List D->Res D
 | [.lst ds]=>(match mX ds with
  | some ns=>.ok (.int ns.sum)
  | none=>.no)
 | [.tup ds]=>(match mX ds with
  | some ns=>.ok (.int ns.sum)
  | none=>.no)
 | _=>.no
def chO:Option Nat->Res D
 | some c=>.ok (.str ⟨#[c]⟩)
 | none=>.no
def slS(l u:Option Int):D->Res D
 | .str x=>if x.length<=sizeLine then .ok (.str (Txt.slice x l u)) else .no
 | _=>.no
def qM(T:List (Str×Str)):D->Res D
 | .str x=>.ok (.bl (!(T.lookup x).isSome))
 | _=>.no
def zOJ:Option Str->Res D
 | some y=>.ok (.str y)
 | none=>.no
def zAj(T:List (Str×Str)):D->Res D
 | .str x=>zOJ (T.lookup x)
 | _=>.no
def yL:Int->List Int->Int
 | a,[]=>a
 | a,b::r=>yL (if b > a then b else a) r
def zCO:List D->Res D
 | [.lst ds,.int d]=>(match mX ds with | some (a::r)=>.ok (.int (yL a r)) | some []=>.ok (.int d) | none=>.no)
 | _=>.no
end L3
namespace L3
open PySem
def iH(kz:List Int)(π:List Nat):Prop:=π.Perm (List.range kz.length)/\π.Pairwise (fun i j=>kz.getD i 0<=kz.getD j 0)/\π.Pairwise (fun i j=>kz.getD i 0=kz.getD j 0->i<j)
def zIg(b:Int):D->Res Int
 | .tup [.int t,.int d]=>if lA d && iP t (b.fdiv d) then .ok (t*b.fdiv d) else .no
 | _=>.no
def nS(b:Int):List D->Res (List Int)
 | []=>.ok []
 | d::r=>(zIg b d).bind fun k=>(nS b r).bind fun ks=>.ok (k::ks)
def lF(π:List Nat):List D:=π.map fun i:Nat=>D.int (i:Int)
theorem zLr{b k:Int}{d:D}(h:zIg b d=.ok k):∃ t c,d=.tup [.int t,.int c]/\lA c=true/\iP t (b.fdiv c)=true/\k=t*b.fdiv c:=by
 unfold zIg at h;split at h
 ·rename_i t c
  split at h
  ·rename_i hc
   rw[Vj] at hc;cases h;exact⟨t,c,rfl,hc.1,hc.2,rfl⟩
  ·cases h
 ·cases h
theorem yX{b:Int}:∀ {rows:List D} {kz:List Int},nS b rows=.ok kz->kz.length=rows.length/\∀(j:Nat)(k:Int),kz[j]?=some k->∃ d,rows[j]?=some d/\zIg b d=.ok k
 | [],kz,h=>by cases h;exact⟨rfl,fun j k z=>by simp at z⟩
 | d::r,kz,h=>by
  unfold nS at h
  cases e:zIg b d with
  | no=>rw[e] at h;cases h
  | err c=>rw[e] at h;cases h
  | ok k0=>
   rw[e] at h;have h':(nS b r).bind (fun ks=>Res.ok (k0::ks))=.ok kz:=h
   cases e2:nS b r with
   | no=>rw[e2] at h';cases h'
   | err c=>rw[e2] at h';cases h'
   | ok ks=>
    rw[e2] at h';cases h'
    obtain⟨h1,h2⟩:=yX e2;refine⟨by rw[Ql,Ql,h1],fun j k z=>?_⟩
    cases j with
    | zero=>simp at z;subst z;exact⟨d,rfl,e⟩
    | succ j=>exact h2 j k (by simpa using z)
def zDt(ρ:Rho):Res (List Int):=match ρ[0]?,ρ[1]? with
 | some (Sl.val (.lst rows)),some (Sl.val (.int b))=>if rows.length<64 then nS b rows else .no
 | _,_=>.no
def yN(sa sb:Sv)(ds:List D):Res (List Int):=if ds.length=1 then (match sa (L3.start 3 ds) with
 | .ok (.nx ρ)=>(match sb ρ with
  | .ok (.nx ρ')=>zDt ρ'
  | _=>.no)
 | _=>.no) else .no
theorem zDo{b:Int}:∀ {rows:List D} {c:Str},nS b rows≠.err c
 | [],c,h=>by cases h
 | d::r,c,h=>by
  unfold nS at h
  have k0:∀ c,zIg b d≠.err c:=fun c z=>by
   unfold zIg at z;split at z
   ·split at z<;>cases z
   ·cases z
  cases e:zIg b d with
  | no=>rw[e] at h;cases h
  | err c'=>exact k0 _ e
  | ok k=>
   rw[e] at h;have h':(nS b r).bind (fun ks=>Res.ok (k::ks))=.err c:=h
   cases e2:nS b r with
   | no=>rw[e2] at h';cases h'
   | err c'=>exact zDo e2
   | ok ks=>rw[e2] at h';cases h'
theorem zPt{sa sb:Sv}(ds:List D)(c:Str):yN sa sb ds≠.err c:=fun h=>by
 unfold yN zDt at h;split at h
 ·split at h
  ·split at h
   ·split at h
    ·split at h
     ·exact zDo h
     ·cases h
    ·cases h
   ·cases h
  ·cases h
 ·cases h
theorem zMU{sa sb:Sv}(ds:List D)(h:yN sa sb ds≠.no):ds.length=1:=by
 unfold yN at h;split at h
 ·assumption
 ·exact absurd rfl h
open Classical in
def nV(kz:List Int)(F:List Nat->Res Fl):Res Fl:=if h:∃ x,∀ π,iH kz π->F π=x then h.choose else .no
theorem zFb{kz:List Int}{F:List Nat->Res Fl}{π:List Nat}(h:nV kz F≠.no)(hπ:iH kz π):F π=nV kz F:=by
 unfold nV at h ⊢
 split at h
 ·rename_i z;rw[dif_pos z];exact z.choose_spec π hπ
 ·exact absurd rfl h
theorem zEL{kz:List Int}{F:List Nat->Res Fl}{x:Res Fl}{π:List Nat}(hπ:iH kz π)(h:∀ π,iH kz π->F π=x):nV kz F=x:=by
 have z:∃ x,∀ π,iH kz π->F π=x:=⟨x,h⟩;unfold nV;rw[dif_pos z,<-z.choose_spec π hπ];exact h π hπ
def zIB(fs:Fv)(kf:List D->Res (List Int))(g:Gv)(b r:Sv):Sv:=fun ρ=>((fs ρ).bind kf).bind fun kz=>nV kz fun π=>bB (fun ρ=>loop g b (lF π) ρ) r ρ
abbrev Tri:=D×List D×List D
def zND(kz:List Int)(i j:Nat):Bool:=decide (kz.getD i 0<kz.getD j 0) || decide (kz.getD i 0=kz.getD j 0) && decide (i<=j)
theorem pP{kz:List Int}{i j:Nat}:zND kz i j=true ↔ kz.getD i 0<kz.getD j 0∨kz.getD i 0=kz.getD j 0/\i<=j:=by
 unfold zND;rw[Vz,Vj,decide_eq_true_eq,decide_eq_true_eq,decide_eq_true_eq]
def zDJ(kz:List Int):List Nat:=(List.range kz.length).mergeSort (zND kz)
theorem zFQ(kz:List Int):(zDJ kz).Pairwise fun i j=>zND kz i j=true:=
 List.pairwise_mergeSort (le:=zND kz) (fun a b c h1 h2=>by rw[pP] at *;omega) (fun a b=>by rw[Vz,pP,pP];omega) _
theorem zHy(kz:List Int):iH kz (zDJ kz):=by
 have p:(zDJ kz).Perm (List.range kz.length):=List.mergeSort_perm _ _;have nd:(zDJ kz).Nodup:=p.nodup_iff.mpr List.nodup_range;have w:=zFQ kz;refine⟨p,w.imp fun h=>?_,(List.Pairwise.and w nd).imp fun h=>?_⟩
 ·rw[pP] at h;omega
 ·obtain⟨h1,h2⟩:=h
  rw[pP] at h1;intro e;omega
def zFa(ce:Str)(b h:Sv)(ρ:Rho):Res Fl:=match b ρ with
 | .err c=>if (c==ce)=true then (match h ρ with
   | .ok (.ret r)=>.ok (.ret r)
   | _=>.no) else .no
 | r=>r
def zMu:Res Fl->Res Fl
 | .ok (.ret r)=>.ok (.ret r)
 | _=>.no
def zPl(ce:Str)(h:Sv)(ρ:Rho):Res Fl->Res Fl
 | .err c=>if (c==ce)=true then zMu (h ρ) else .no
 | .ok f=>.ok f
 | .no=>.no
theorem sTryN_at{ce:Str}{b h:Sv}{ρ:Rho}:zFa ce b h ρ=zPl ce h ρ (b ρ):=by
 unfold zFa zPl
 cases b ρ with
 | ok f=>rfl
 | no=>rfl
 | err c=>
  show(if (c==ce)=true then _ else _)=if (c==ce)=true then _ else _
  congr 1
theorem tryN_ok{ce:Str}{h:Sv}{ρ:Rho}{f:Fl}:zPl ce h ρ (.ok f)=.ok f:=rfl
theorem zIv{ce:Str}{h:Sv}{ρ:Rho}:zPl ce h ρ (.err ce)=zMu (h ρ):=by
 show(if (ce==ce)=true then zMu (h ρ) else .no)=_
 rw[if_pos (beq_self_eq_true ce)]
theorem retO_r{r:Rt}:zMu (.ok (.ret r))=.ok (.ret r):=rfl
def zEt(i:Nat)(a b m:Ev)(ρ:Rho):Res Fl:=match ρ[i]? with
 | some (.own (y::r))=>(a (ρ.set i (.own r))).bind fun x=>(qA y x).bind fun u=>(b (ρ.set i (.own r))).bind fun z=>(nZ u z).bind fun w=>(m (ρ.set i (.own r))).bind fun k=>(jZ w k).bind fun v=>if r.length<16777216 then .ok (.nx (ρ.set i (.own (r++[v])))) else .no
 | _=>.no
end L3
namespace Fq
theorem zDW{a b:Int}(ha:0<=a)(hb:0<b):Int.gcd b (a % b)=Int.gcd a b:=by
 obtain⟨m,rfl⟩:=Y3 ha;obtain⟨n,rfl⟩:=Y3 (Xm hb);show Nat.gcd n (m % n)=Nat.gcd m n
 rw[Nat.gcd_comm n (m % n),Nat.gcd_comm m n,Nat.gcd_rec n m]
def dv(t b:Int):Int:=if b<0 then -(Int.gcd t b:Int) else (Int.gcd t b:Int)
theorem zKI{t b:Int}(hb:b≠0):0<(Int.gcd t b:Int):=by
 have h:Int.gcd t b≠0:=fun h=>hb (Int.gcd_eq_zero_iff.mp h).2
 omega
theorem zMH{t b:Int}(hb:b≠0):dv t b≠0:=by
 have:=zKI (t:=t) hb
 unfold dv;split<;>omega
theorem xP(t b:Int):dv t b ∣ t:=by
 unfold dv;split
 ·exact Int.neg_dvd.mpr (Uu ..)
 ·exact Uu ..
theorem zDO(t b:Int):dv t b ∣ b:=by
 unfold dv;split
 ·exact Int.neg_dvd.mpr (Uv ..)
 ·exact Uv ..
theorem nL{t d:Int}(h:d ∣ t):t.fdiv d=t / d:=by
 rw[Int.fdiv_eq_ediv];simp[h]
theorem zAI{t b:Int}(hb:b≠0):t.fdiv (dv t b)=(Rat.divInt t b).num:=by
 rw[nL (xP t b),Rat.num_divInt,Int.gcd_comm b t];unfold dv;rcases Int.lt_trichotomy b 0 with h | h | h
 ·rw[if_pos h,Int.sign_eq_neg_one_of_neg h,Int.ediv_neg]
  have:(-1:Int)*t=-t:=by omega
  rw[this,Wn (Uu ..)]
 ·exact absurd h hb
 ·rw[if_neg (by omega),Int.sign_eq_one_of_pos h,Uw]
theorem zBm{t b:Int}(hb:b≠0):b.fdiv (dv t b)=((Rat.divInt t b).den:Int):=by
 rw[nL (zDO t b),Rat.den_divInt,if_neg hb,Int.gcd_comm b t];unfold dv;rcases Int.lt_trichotomy b 0 with h | h | h
 ·rw[if_pos h,Int.ediv_neg,Int.natCast_ediv]
  have e:((b.natAbs:Nat):Int)=-b:=by omega
  rw[e,Wn (Uv ..)]
 ·exact absurd h hb
 ·rw[if_neg (by omega),Int.natCast_ediv]
  have e:((b.natAbs:Nat):Int)=b:=by omega
  rw[e]
theorem fI(q:Rat):(q.den:Int)≠0:=by have:=q.den_nz;omega
theorem dZ(q:Rat):(0:Int)<(q.den:Int):=by have:=q.den_nz;omega
theorem zFR(p q:Rat):Rat.divInt (p.num*q.den+q.num*p.den) (p.den*q.den)=p+q:=by
 rw[<-Rat.divInt_add_divInt _ _ (fI p) (fI q),V7,V7]
theorem zJB(p q:Rat):Rat.divInt (p.num*q.den-q.num*p.den) (p.den*q.den)=p-q:=by
 rw[<-Rat.divInt_sub_divInt _ _ (fI p) (fI q),V7,V7]
theorem zJA(p q:Rat):Rat.divInt (p.num*q.num) (p.den*q.den)=p*q:=by
 rw[<-Ux,V7,V7]
theorem zGF(p q:Rat):Rat.divInt (p.num*q.den) (p.den*q.num)=p / q:=by
 rw[<-Ux,V7,Rat.div_def,Rat.inv_def]
theorem zJU{q:Rat}:q.num≠0 ↔ q≠0:=by
 constructor
 ·intro h e;exact h (by rw[e];rfl)
 ·intro h e;exact h (Rat.num_eq_zero.mp e)
def Sz(n:Nat)(q:Rat):Prop:=q.num.natAbs<2^n/\q.den<2^n
theorem Sz.mono{m n:Nat}{q:Rat}(h:Sz m q)(l:m<=n):Sz n q:=
 ⟨Qn h.1 (Vv (by decide) l),Qn h.2 (Vv (by decide) l)⟩
theorem zOD{t b:Int}(hb:b≠0):(Rat.divInt t b).num.natAbs<=t.natAbs:=by
 rw[<-zAI hb,nL (xP t b),Int.natAbs_ediv_of_dvd (xP t b)];exact Nat.div_le_self ..
theorem zDG{t b:Int}(hb:b≠0):(Rat.divInt t b).den<=b.natAbs:=by
 rw[Rat.den_divInt,if_neg hb];exact Nat.div_le_self ..
theorem Sz.of{n:Nat}{t b:Int}(hb:b≠0)(ht:t.natAbs<2^n)(h:b.natAbs<2^n):Sz n (Rat.divInt t b):=
 ⟨V8 (zOD hb) ht,V8 (zDG hb) h⟩
theorem fJ{a b:Int}{m n:Nat}(ha:a.natAbs<2^m)(hb:b.natAbs<2^n):(a*b).natAbs<2^(m+n):=by
 rw[Int.natAbs_mul,Nat.pow_add];exact Nat.mul_lt_mul'' ha hb
theorem zMG{a b:Int}{m:Nat}(ha:a.natAbs<2^m)(hb:b.natAbs<2^m):(a+b).natAbs<2^(m+1):=by
 rw[Nat.pow_succ];omega
theorem zOB{a b:Int}{m:Nat}(ha:a.natAbs<2^m)(hb:b.natAbs<2^m):(a-b).natAbs<2^(m+1):=by
 rw[Nat.pow_succ];omega
theorem Sz.d{n:Nat}{q:Rat}(h:Sz n q):((q.den:Int)).natAbs<2^n:=h.2
theorem Sz.add{m n:Nat}{p q:Rat}(hp:Sz m p)(hq:Sz n q):Sz (m+n+1) (p+q):=by
 rw[<-zFR];refine Sz.of (by have:=dZ p;have:=dZ q;exact Xn (fI p) (fI q)) (zMG (fJ hp.1 hq.d) ?_) ?_
 ·rw[Ut m n];exact fJ hq.1 hp.d
 ·exact Qn (fJ hp.d hq.d) (Vv (by decide) (by omega))
theorem Sz.sub{m n:Nat}{p q:Rat}(hp:Sz m p)(hq:Sz n q):Sz (m+n+1) (p-q):=by
 rw[<-zJB];refine Sz.of (Xn (fI p) (fI q)) (zOB (fJ hp.1 hq.d) ?_) ?_
 ·rw[Ut m n];exact fJ hq.1 hp.d
 ·exact Qn (fJ hp.d hq.d) (Vv (by decide) (by omega))
theorem Sz.mul{m n:Nat}{p q:Rat}(hp:Sz m p)(hq:Sz n q):Sz (m+n) (p*q):=by
 rw[<-zJA];exact Sz.of (Xn (fI p) (fI q)) (fJ hp.1 hq.1) (fJ hp.d hq.d)
theorem Sz.div{m n:Nat}{p q:Rat}(hp:Sz m p)(hq:Sz n q)(h:q≠0):Sz (m+n) (p / q):=by
 rw[<-zGF];exact Sz.of (Xn (fI p) (zJU.mpr h)) (fJ hp.1 hq.d) (fJ hp.d hq.1)
end Fq
namespace Fr
open L3 PySem Fq
theorem zKb{t:Tv}{b:Sv}{ρ:Rho}(P:Rho->Prop)(μ:Rho->Nat)(Q:Res Fl->Prop)(h0:P ρ)
  (step:∀ ρ,P ρ->(t ρ=.ok false/\Q (.ok (.nx ρ)))∨(t ρ=.ok true/\∃ ρ',b ρ=.ok (.nx ρ')/\P ρ'/\μ ρ' < μ ρ)):Q (fE t b ρ):=by
 have main:∀ n ρ,μ ρ<=n->P ρ->Q (fE t b ρ):=by
  intro n
  induction n with
  | zero=>
   intro ρ hn hp;rw[zBj];rcases step ρ hp with⟨h1,h2⟩ | ⟨h1,ρ',h2,h3,h4⟩
   ·rw[h1];exact h2
   ·omega
  | succ n ih=>
   intro ρ hn hp;rw[zBj];rcases step ρ hp with⟨h1,h2⟩ | ⟨h1,ρ',h2,h3,h4⟩
   ·rw[h1];exact h2
   ·rw[h1]
    simp only[Res.bind,if_true,h2];exact ih ρ' (by omega) h3
 exact main _ ρ (Qb _) h0
theorem zFB{i:Int}{m:Nat}(h:i.natAbs<2^m):nb i<=m+1:=zPP (Qn h (Vv (by decide) (by omega))) (by omega)
theorem cC{i j:Int}{m n:Nat}(hi:i.natAbs<2^m)(hj:j.natAbs<2^n)(h:m+n<=100000000):iP i j=true:=by
 unfold iP;have h1:=zFB hi;have h2:=zFB hj;rw[Vz];exact .inr (decide_eq_true (by omega))
theorem zLx{i j:Int}(h1:-(2^64)<j)(h2:j<2^64):iP i j=true:=by
 unfold iP;rw[Vz,Vz];exact .inl (.inr (by rw[decide_eq_true h1,decide_eq_true h2];rfl))
theorem zLc{i j:Int}(h1:-(2^64)<i)(h2:i<2^64):iP i j=true:=by
 unfold iP;rw[Vz,Vz];exact .inl (.inl (by rw[decide_eq_true h1,decide_eq_true h2];rfl))
theorem sN{j:Int}{m:Nat}(h0:j≠0)(hj:j.natAbs<2^m)(h:m<=8999):lA j=true:=by
 unfold lA;have h1:=zFB hj;rw[decide_eq_true h0,decide_eq_true (show nb j<=9000 by omega)];rfl
theorem okDiv_lit{j:Int}(h0:0<j)(h:j<1000000000000000000):lA j=true:=sN (m:=64) (by omega) (by omega) (by decide)
theorem okMul_litr{i j:Int}(h1:-1000000000000000000<j)(h2:j<1000000000000000000):iP i j=true:=zLx (by omega) (by omega)
theorem okMul_litl{i j:Int}(h1:-1000000000000000000<i)(h2:i<1000000000000000000):iP i j=true:=zLc (by omega) (by omega)
theorem p10(n:Nat):(0:Int)<10^n:=Ys (by decide)
theorem p10ne(n:Nat):((10:Int)^n=0)=False:=eq_false (by have:=p10 n;omega)
theorem p10pos2(n:Nat):(0:Int)<2*10^n:=by have:=p10 n;omega
theorem p10ne2(n:Nat):((2:Int)*10^n=0)=False:=eq_false (by have:=p10 n;omega)
theorem okp9:qY 10 9=true:=by decide
theorem okp30:qY 10 30=true:=by decide
theorem okp40:qY 10 40=true:=by decide
def dq(q:Rat):D:=.tup [.int q.num,.int (q.den:Int)]
def dp(p:Rat×Rat):D:=.tup [dq p.1,dq p.2]
theorem eq_dq(p q:Rat):eqD (dq p) (dq q)=decide (p=q):=by
 show((p.num==q.num) && (((p.den:Int)==(q.den:Int)) && true))=decide (p=q)
 by_cases h:p=q
 ·subst h;simp
 ·rw[decide_eq_false h]
  by_cases h1:p.num=q.num
  ·have h2:p.den≠q.den:=fun e=>h (Rat.ext h1 e)
   have:((p.den:Int)==(q.den:Int))=false:=by simp;omega
   rw[this];simp
  ·simp[h1]
theorem dep_dq(q:Rat):dep (dq q)=1:=rfl
theorem ix_dq0(q:Rat):oIx (dq q) (.int 0)=.ok (.int q.num):=rfl
theorem ix_dq1(q:Rat):oIx (dq q) (.int 1)=.ok (.int (q.den:Int)):=rfl
theorem ty_dq(q:Rat):tyN (dq q) = "tuple" := rfl
theorem len_dq(q:Rat):jM [dq q]=.ok (.int 2):=rfl
theorem oEq_dq(p q:Rat):oEq (dq p) (dq q)=.ok (.bl (decide (p=q))):=by
 rw[<-eq_dq];rfl
theorem oNe_dq(p q:Rat):oNe (dq p) (dq q)=.ok (.bl (!decide (p=q))):=by
 rw[<-eq_dq];rfl
theorem noL_dq(q:Rat):noL (dq q)=true:=rfl
theorem zOk(p q:Rat×Rat):eqD (dp p) (dp q)=decide (p=q):=by
 show(eqD (dq p.1) (dq q.1) && (eqD (dq p.2) (dq q.2) && true))=decide (p=q)
 rw[eq_dq,eq_dq];obtain⟨a,b⟩:=p;obtain⟨c,d⟩:=q;simp
theorem dp_mk(a b:Rat):(.tup [dq a,dq b]:D)=dp (a,b):=rfl
theorem ix_dp0(p:Rat×Rat):oIx (dp p) (.int 0)=.ok (dq p.1):=rfl
theorem ix_dp1(p:Rat×Rat):oIx (dp p) (.int 1)=.ok (dq p.2):=rfl
theorem ty_dp(p:Rat×Rat):tyN (dp p) = "tuple" := rfl
theorem len_dp(p:Rat×Rat):jM [dp p]=.ok (.int 2):=rfl
theorem dep_dp(p:Rat×Rat):dep (dp p)=2:=rfl
theorem noL_dp(p:Rat×Rat):noL (dp p)=true:=rfl
theorem oEq_dp(p q:Rat×Rat):oEq (dp p) (dp q)=.ok (.bl (decide (p=q))):=by
 rw[<-zOk];rfl
theorem oNe_dp(p q:Rat×Rat):oNe (dp p) (dp q)=.ok (.bl (!decide (p=q))):=by
 rw[<-zOk];rfl
theorem fdiv_pos(a:Int){b:Int}(h:0<b):a.fdiv b=a / b:=Wo a (by omega)
theorem fmod_pos(a:Int){b:Int}(h:0<b):a.fmod b=a % b:=Wp a (by omega)
theorem zLI(a:Int){b:Int}(h:0<=b):a.fdiv b=a / b:=Wo a h
theorem zCW(a:Int){b:Int}(h:0<=b):a.fmod b=a % b:=Wp a h
theorem noLs_dps:∀ l:List (Rat×Rat),noLs (l.map dp)=true
 | []=>rfl
 | q::l=>by rw[Qj,noLs,noL_dp,noLs_dps l];rfl
theorem wR{α:Type}{l:List α}{i:Nat}{a:α}(h:l[i]?=some a):l.take (i+1)=l.take i++[a]:=by rw[Yd,h];rfl
theorem zMC{b:Int}(h:0<b):(.tup [.int 1,.int b]:D)=dq (Rat.divInt 1 b):=by
 have hb:b≠0:=by omega
 have e:Fq.dv 1 b=1:=by unfold Fq.dv;rw[if_neg (by omega)];simp
 unfold dq;rw[<-Fq.zAI hb,<-Fq.zBm hb,e];simp
theorem zNd(k:Int):(.tup [.int k,.int 1]:D)=dq (k:Rat):=rfl
end Fr
namespace L3
open PySem
def zAQ(b:Sv):Fl->Res Fl
 | .nx ρ=>b ρ
 | .ret r=>.ok (.ret r)
 | .brk ρ=>.ok (.brk ρ)
 | .ctn ρ=>.ok (.ctn ρ)
theorem sSeq_at{a b:Sv}{ρ:Rho}:bB a b ρ=(a ρ).bind (zAQ b):=by
 unfold bB;congr;funext f;cases f<;>rfl
def ifF(a b:Sv)(ρ:Rho):Bool->Res Fl
 | true=>a ρ
 | false=>b ρ
theorem sIf_at{t:Tv}{a b:Sv}{ρ:Rho}:sIf t a b ρ=(t ρ).bind (ifF a b ρ):=by
 unfold sIf;congr;funext c;cases c<;>rfl
def zPY(a b:Ev)(ρ:Rho):Bool->Res D
 | true=>a ρ
 | false=>b ρ
theorem eIf_at{t:Tv}{a b:Ev}{ρ:Rho}:eIf t a b ρ=(t ρ).bind (zPY a b ρ):=by
 unfold eIf;congr;funext c;cases c<;>rfl
def zPx(b:Ev)(ρ:Rho):D->Res D
 | .bl true=>b ρ
 | .bl false=>.ok (.bl false)
 | _=>.no
theorem eAnd_at{a b:Ev}{ρ:Rho}:zQk a b ρ=(a ρ).bind (zPx b ρ):=by
 unfold zQk;congr;funext c;cases c<;>try rfl
 rename_i c;cases c<;>rfl
def orF(b:Ev)(ρ:Rho):D->Res D
 | .bl true=>.ok (.bl true)
 | .bl false=>b ρ
 | _=>.no
theorem eOr_at{a b:Ev}{ρ:Rho}:eOr a b ρ=(a ρ).bind (orF b ρ):=by
 unfold eOr;congr;funext c;cases c<;>try rfl
 rename_i c;cases c<;>rfl
def opF(o:Op2)(b:Ev)(ρ:Rho)(x:D):Res D:=(b ρ).bind (o x)
theorem eOp_at{o:Op2}{a b:Ev}{ρ:Rho}:eOp o a b ρ=(a ρ).bind (opF o b ρ):=rfl
def consG(d:D)(ds:List D):Res (List D):=.ok (d::ds)
def consF(r:Fv)(ρ:Rho)(d:D):Res (List D):=(r ρ).bind (consG d)
theorem aCons_at{e:Ev}{r:Fv}{ρ:Rho}:aB e r ρ=(e ρ).bind (consF r ρ):=rfl
def tupF(ds:List D):Res D:=if ds.length<=16777216 then .ok (.tup ds) else .no
theorem eTup_at{a:Fv}{ρ:Rho}:qX a ρ=(a ρ).bind tupF:=rfl
def rtF(r:Rt):Res D:=.ok r.d
def callF(m:Mir)(ds:List D):Res D:=(m ds).bind rtF
theorem eCall_at{m:Mir}{a:Fv}{ρ:Rho}:aN m a ρ=(a ρ).bind (callF m):=rfl
def isTF(T:String)(d:D):Res D:=.ok (.bl (isT T d))
theorem eIsT_at{T:String}{a:Ev}{ρ:Rho}:zQJ T a ρ=(a ρ).bind (isTF T):=rfl
def notNF(d:D):Res D:=.ok (.bl (!isNon d))
theorem eNotN_at{a:Ev}{ρ:Rho}:zEU a ρ=(a ρ).bind notNF:=rfl
def frzF(d:D):Res D:=if noL d=true then .ok d else .no
theorem eFrz_at{e:Ev}{ρ:Rho}:zDE e ρ=(e (ρ.map Sl.frz)).bind frzF:=rfl
def fLstF(ds:List D):Res (List D):=if ds.length<=16777216 then .ok ds else .no
theorem fLst_at{a:Fv}{ρ:Rho}:nQ a ρ=(a ρ).bind fLstF:=rfl
def rtFF:Rt->Res (List D)
 | .f ds=>.ok ds
 | .v _=>.no
def fcallF(m:Mir)(ds:List D):Res (List D):=(m ds).bind rtFF
theorem fCall_at{m:Mir}{a:Fv}{ρ:Rho}:eA m a ρ=(a ρ).bind (fcallF m):=by
 unfold eA fcallF;congr
def zEg:List D->Res (List D)
 | [.lst ds]=>.ok ds
 | [.tup ds]=>.ok ds
 | _=>.no
theorem fListF_l{ds:List D}:zEg [.lst ds]=.ok ds:=rfl
theorem fListF_t{ds:List D}:zEg [.tup ds]=.ok ds:=rfl
theorem fList_at{a:Fv}{ρ:Rho}:zAp a ρ=(a ρ).bind zEg:=rfl
def catG(x y:D):Res (List D):=match x,y with
 | .lst ds,.lst es=>if ds.length+es.length<=16777216 then .ok (ds++es) else .no
 | _,_=>.no
def catF(b:Ev)(ρ:Rho)(x:D):Res (List D):=(b ρ).bind (catG x)
theorem fCat_at{a b:Ev}{ρ:Rho}:zLs a b ρ=(a ρ).bind (catF b ρ):=rfl
def efF(ds:List D):Res D:=.ok (.lst ds)
theorem eF_at{f:Fv}{ρ:Rho}:eF f ρ=(f ρ).bind efF:=rfl
def fFrzF(ds:List D):Res (List D):=if noLs ds=true then .ok ds else .no
theorem fFrz_at{f:Fv}{ρ:Rho}:zOa f ρ=(f (ρ.map Sl.frz)).bind fFrzF:=rfl
def oSF:D->Res (Option Int)
 | .int i=>.ok (some i)
 | _=>.no
theorem oS_at{e:Ev}{ρ:Rho}:oS e ρ=(e ρ).bind oSF:=by
 unfold oS;congr
def fSlH(x:D)(l h:Option Int):Res (List D):=match x with
 | .lst ds=>.ok (eG ds l h)
 | _=>.no
def fSlG(hi:Ov)(ρ:Rho)(x:D)(l:Option Int):Res (List D):=(hi ρ).bind (fSlH x l)
def fSlF(lo hi:Ov)(ρ:Rho)(x:D):Res (List D):=(lo ρ).bind (fSlG hi ρ x)
theorem fSl_at{a:Ev}{lo hi:Ov}{ρ:Rho}:fSl a lo hi ρ=(a ρ).bind (fSlF lo hi ρ):=rfl
def zRt(x:D)(l h:Option Int):Res D:=match x with
 | .tup ds=>if (eG ds l h).length<ds.length then .ok (.tup (eG ds l h)) else .no
 | _=>.no
def blF:D->Res Bool
 | .bl b=>.ok b
 | _=>.no
theorem tVal_at{e:Ev}{ρ:Rho}:dL e ρ=(e ρ).bind blF:=by
 unfold dL;congr
def notF(b:Bool):Res Bool:=.ok (!b)
theorem tNotB_at{t:Tv}{ρ:Rho}:zLZ t ρ=(t ρ).bind notF:=rfl
def zLR(u:Tv)(ρ:Rho):Bool->Res Bool
 | true=>u ρ
 | false=>.ok false
theorem tAndB_at{t u:Tv}{ρ:Rho}:zEK t u ρ=(t ρ).bind (zLR u ρ):=by
 unfold zEK;congr;funext c;cases c<;>rfl
def zPu(u:Tv)(ρ:Rho):Bool->Res Bool
 | true=>.ok true
 | false=>u ρ
theorem tOrB_at{t u:Tv}{ρ:Rho}:zEX t u ρ=(t ρ).bind (zPu u ρ):=by
 unfold zEX;congr;funext c;cases c<;>rfl
def setF(i:Nat)(ρ:Rho)(d:D):Res Fl:=.ok (.nx (ρ.set i (.val d)))
theorem sSet_at{i:Nat}{e:Ev}{ρ:Rho}:cW i e ρ=(e ρ).bind (setF i ρ):=rfl
def ownF(i:Nat)(ρ:Rho)(ds:List D):Res Fl:=.ok (.nx (ρ.set i (.own ds)))
theorem sOwn_at{i:Nat}{f:Fv}{ρ:Rho}:zBQ i f ρ=(f ρ).bind (ownF i ρ):=rfl
def dropF(ρ:Rho)(_d:D):Res Fl:=.ok (.nx ρ)
theorem sDrop_at{e:Ev}{ρ:Rho}:sJ e ρ=(e ρ).bind (dropF ρ):=rfl
def retF(d:D):Res Fl:=.ok (.ret (.v d))
theorem sRet_at{e:Ev}{ρ:Rho}:eX e ρ=(e (ρ.map Sl.frz)).bind retF:=rfl
def retFF(ds:List D):Res Fl:=.ok (.ret (.f ds))
theorem sRetF_at{f:Fv}{ρ:Rho}:lJ f ρ=(f (ρ.map Sl.frz)).bind retFF:=rfl
def raiseF(c:Str)(ds:List D):Res Fl:=if ds.length<=16777216 then .err c else .no
theorem sRaise_at{c:Str}{a:Fv}{ρ:Rho}:jO c a ρ=(a ρ).bind (raiseF c):=rfl
def appF(i:Nat)(ρ:Rho)(ds:List D)(d:D):Res Fl:=if ds.length<16777216 then .ok (.nx (ρ.set i (.own (ds++[d])))) else .no
def appS(i:Nat)(e:Ev)(ρ:Rho):Option Sl->Res Fl
 | some (.own ds)=>(e ρ).bind (appF i ρ ds)
 | _=>.no
theorem sApp_at{i:Nat}{e:Ev}{ρ:Rho}:zGS i e ρ=appS i e ρ ρ[i]?:=by
 unfold zGS appS;rfl
def extF(i:Nat)(ρ:Rho)(ds:List D)(es:List D):Res Fl:=if ds.length+es.length<=16777216 then .ok (.nx (ρ.set i (.own (ds++es)))) else .no
def extS(i:Nat)(e:Fv)(ρ:Rho):Option Sl->Res Fl
 | some (.own ds)=>(e ρ).bind (extF i ρ ds)
 | _=>.no
theorem sExt_at{i:Nat}{e:Fv}{ρ:Rho}:zMw i e ρ=extS i e ρ ρ[i]?:=by
 unfold zMw extS;rfl
def augF(i:Nat)(ρ:Rho)(o:Op2)(x y:D):Res Fl:=(o x y).bind (setF i ρ)
def augS(i:Nat)(o:Op2)(e:Ev)(ρ:Rho):Option Sl->Res Fl
 | some (.val x)=>(e ρ).bind (augF i ρ o x)
 | _=>.no
theorem sAug_at{i:Nat}{o:Op2}{e:Ev}{ρ:Rho}:zMQ i o e ρ=augS i o e ρ ρ[i]?:=by
 unfold zMQ augS;rfl
def dropG(ρ:Rho)(_r:Rt):Res Fl:=.ok (.nx ρ)
def setG(i:Nat)(ρ:Rho)(r:Rt):Res Fl:=.ok (.nx (ρ.set i (.val r.d)))
def xsetF(i:Nat)(m:Mir)(ρ:Rho)(ds:List D):Res Fl:=(m ds).bind (setG i ρ)
theorem xSet_at{i:Nat}{m:Mir}{a:Fv}{ρ:Rho}:zNb i m a ρ=(noErr (a ρ)).bind (xsetF i m ρ):=rfl
def varS:Option Sl->Res D
 | some (.val d)=>.ok d
 | _=>.no
theorem eVar_at{i:Nat}{ρ:Rho}:aE i ρ=varS ρ[i]?:=by
 unfold aE varS;rfl
def retS:Option Sl->Res Fl
 | some (.own ds)=>.ok (.ret (.f ds))
 | _=>.no
theorem sRetOwn_at{i:Nat}{ρ:Rho}:gM i ρ=retS ρ[i]?:=by
 unfold gM retS;rfl
def nxF(ρ:Rho):Res Fl:=.ok (.nx ρ)
def unpF(g:Gv)(ρ:Rho)(d:D):Res Fl:=(g d ρ).bind nxF
theorem sUnp_at{g:Gv}{f:Ev}{ρ:Rho}:zRh g f ρ=(f ρ).bind (unpF g ρ):=rfl
def gtF(gs:List D->Rho->Res Rho)(ρ:Rho):D->Res Rho
 | .tup ds=>gs ds ρ
 | _=>.no
theorem gTup_at{gs:List D->Rho->Res Rho}{d:D}{ρ:Rho}:zBc gs d ρ=gtF gs ρ d:=by
 unfold zBc gtF;rfl
theorem gCons_at{g:Gv}{r:List D->Rho->Res Rho}{d:D}{ds:List D}{ρ:Rho}:fH g r (d::ds) ρ=(g d ρ).bind (r ds):=rfl
theorem gNil_at{ρ:Rho}:zAx [] ρ=.ok ρ:=rfl
def forF(g:Gv)(b:Sv)(ρ:Rho)(ds:List D):Res Fl:=loop g b ds ρ
theorem sFor_at{it:Fv}{g:Gv}{b:Sv}{ρ:Rho}:rX it g b ρ=(it ρ).bind (forF g b ρ):=rfl
def zJq:D->Res (List D)
 | .lst ds=>.ok ds
 | .tup ds=>.ok ds
 | _=>.no
theorem seqD_l{ds:List D}:zJq (.lst ds)=.ok ds:=rfl
theorem seqD_t{ds:List D}:zJq (.tup ds)=.ok ds:=rfl
theorem iSeq_at{e:Ev}{ρ:Rho}:uW e ρ=(e ρ).bind zJq:=by
 unfold uW;congr
def zMO:List D->Res (List D)
 | [.int j]=>if -(2^62)<=j/\j<2^62 then .ok (rng 0 j.toNat 1) else .no
 | _=>.no
theorem iRng1_at{a:Fv}{ρ:Rho}:zB a ρ=(a ρ).bind zMO:=rfl
def zOM:List D->Res (List D)
 | [.int i,.int j]=>if -(2^62)<=i/\i<2^62/\-(2^62)<=j/\j<2^62 then .ok (rng i (j-i).toNat 1) else .no
 | _=>.no
theorem iRng2_at{a:Fv}{ρ:Rho}:zFf a ρ=(a ρ).bind zOM:=rfl
theorem fn_at{p n:Nat}{b:Sv}{ds:List D}(h:ds.length=p):fn p n b ds=(b (start n ds)).bind fin:=by
 unfold fn;rw[if_pos h]
theorem nr{α:Sort _}{a b:α}(h:a=b):a=b:=h
theorem okb{α β:Type}{a:α}{f:α->Res β}:(Res.ok a).bind f=f a:=nr rfl
theorem erb{α β:Type}{c:Str}{f:α->Res β}:(Res.err c).bind f=.err c:=nr rfl
theorem seqF_nx{b:Sv}{ρ:Rho}:zAQ b (.nx ρ)=b ρ:=nr rfl
theorem seqF_ret{b:Sv}{r:Rt}:zAQ b (.ret r)=.ok (.ret r):=nr rfl
theorem gtF_t{gs:List D->Rho->Res Rho}{ρ:Rho}{ds:List D}:gtF gs ρ (.tup ds)=gs ds ρ:=nr rfl
theorem ifF_t{a b:Sv}{ρ:Rho}:ifF a b ρ true=a ρ:=nr rfl
theorem ifF_f{a b:Sv}{ρ:Rho}:ifF a b ρ false=b ρ:=nr rfl
theorem eifF_t{a b:Ev}{ρ:Rho}:zPY a b ρ true=a ρ:=nr rfl
theorem eifF_f{a b:Ev}{ρ:Rho}:zPY a b ρ false=b ρ:=nr rfl
theorem andF_t{b:Ev}{ρ:Rho}:zPx b ρ (.bl true)=b ρ:=nr rfl
theorem andF_f{b:Ev}{ρ:Rho}:zPx b ρ (.bl false)=.ok (.bl false):=nr rfl
theorem orF_t{b:Ev}{ρ:Rho}:orF b ρ (.bl true)=.ok (.bl true):=nr rfl
theorem orF_f{b:Ev}{ρ:Rho}:orF b ρ (.bl false)=b ρ:=nr rfl
theorem tandF_t{u:Tv}{ρ:Rho}:zLR u ρ true=u ρ:=nr rfl
theorem tandF_f{u:Tv}{ρ:Rho}:zLR u ρ false=.ok false:=nr rfl
theorem torF_t{u:Tv}{ρ:Rho}:zPu u ρ true=.ok true:=nr rfl
theorem torF_f{u:Tv}{ρ:Rho}:zPu u ρ false=u ρ:=nr rfl
theorem oAdd_i{i j:Int}:nZ (.int i) (.int j)=.ok (.int (i+j)):=rfl
theorem oSub_i{i j:Int}:zBS (.int i) (.int j)=.ok (.int (i-j)):=rfl
theorem oMul_i{i j:Int}(h:iP i j=true):qA (.int i) (.int j)=.ok (.int (i*j)):=if_pos h
theorem oDiv_i{i j:Int}(h:lA j=true):lY (.int i) (.int j)=.ok (.int (i.fdiv j)):=if_pos h
theorem oMod_i{i j:Int}(h:j≠0):jZ (.int i) (.int j)=.ok (.int (i.fmod j)):=if_pos h
theorem oPow_i{i j:Int}(h:qY i j=true):zBy (.int i) (.int j)=.ok (.int (i^j.toNat)):=if_pos h
theorem oEq_i{i j:Int}:oEq (.int i) (.int j)=.ok (.bl (decide (i=j))):=rfl
theorem oNe_i{i j:Int}:oNe (.int i) (.int j)=.ok (.bl (!decide (i=j))):=rfl
theorem oLt_i{i j:Int}:oLt (.int i) (.int j)=.ok (.bl (decide (i<j))):=rfl
theorem oLe_i{i j:Int}:oLe (.int i) (.int j)=.ok (.bl (decide (i<=j))):=rfl
theorem oGt_i{i j:Int}:oGt (.int i) (.int j)=.ok (.bl (decide (j<i))):=rfl
theorem oGe_i{i j:Int}:oGe (.int i) (.int j)=.ok (.bl (decide (j<=i))):=rfl
theorem ofO_some{α:Type}{a:α}:ofO (some a)=.ok a:=rfl
theorem oNeg_i{i:Int}:zOE (.int i)=.ok (.int (-i)):=rfl
theorem oNot_b{b:Bool}:zQG (.bl b)=.ok (.bl (!b)):=rfl
theorem bAbs_i{i:Int}:zMr [.int i]=.ok (.int (i.natAbs:Int)):=by
 show Res.ok (D.int (if i<0 then -i else i))=_
 congr 2;split<;>omega
theorem bMin_i{i j:Int}:zMF [.int i,.int j]=.ok (.int (min i j)):=by
 show Res.ok (D.int (if j<i then j else i))=_
 congr 2;split<;>omega
theorem uU{j:Int}(h1:-(2^62)<=j)(h2:j<2^62):zMO [.int j]=.ok (rng 0 j.toNat 1):=if_pos ⟨h1,h2⟩
theorem zHA{i j:Int}(h1:-(2^62)<=i)(h2:i<2^62)(h3:-(2^62)<=j)(h4:j<2^62):zOM [.int i,.int j]=.ok (rng i (j-i).toNat 1):=if_pos ⟨h1,h2,h3,h4⟩
theorem zBZ{α:Type}{g:Gv}{b:Sv}{ds:List D}{ρ:Rho}{k:Fl->Res α}{Q:Res α->Prop}(P:Rho->Prop)(h0:P ρ)
  (st:∀ d ρ,d∈ds->P ρ->∃ ρ2,(g d ρ).bind b=.ok (.nx ρ2)/\P ρ2) (fi:∀ ρ',P ρ'->Q (k (.nx ρ'))):Q ((loop g b ds ρ).bind k):=by
 suffices h:∃ ρ',loop g b ds ρ=.ok (.nx ρ')/\P ρ' by
  obtain⟨ρ',e,hp⟩:=h;rw[e];exact fi ρ' hp
 clear fi
 induction ds generalizing ρ with
 | nil=>exact⟨ρ,rfl,h0⟩
 | cons d ds ih=>
  obtain⟨ρ2,e,hp⟩:=st d ρ Qf h0;obtain⟨ρ',e',hp'⟩:=ih hp fun d' ρ' hd=>st d' ρ' (Qe _ hd)
  refine⟨ρ',?_,hp'⟩
  rw[loop]
  cases hg:g d ρ with
  | no=>rw[hg] at e;cases e
  | err c=>rw[hg] at e;cases e
  | ok ρ1=>
   rw[hg] at e;have e2:b ρ1=.ok (.nx ρ2):=e;simp only[Res.bind,e2];exact e'
theorem ty_i{i:Int}:tyN (.int i) = "int" := rfl
theorem ty_b{b:Bool}:tyN (.bl b) = "bool" := rfl
theorem ty_t{ds:List D}:tyN (.tup ds) = "tuple" := rfl
theorem ty_l{ds:List D}:tyN (.lst ds) = "list" := rfl
theorem ty_s{x:Str}:tyN (.str x) = "str" := rfl
theorem ty_n:tyN .non = "NoneType" := rfl
theorem bLen_t{ds:List D}:jM [.tup ds]=.ok (.int ds.length):=rfl
theorem bLen_l{ds:List D}:jM [.lst ds]=.ok (.int ds.length):=rfl
theorem bTup_t{ds:List D}:zKo [.tup ds]=.ok (.tup ds):=rfl
theorem bTup_l{ds:List D}:zKo [.lst ds]=.ok (.tup ds):=rfl
theorem hZ{α:Type}{g:Gv}{b:Sv}{ds:List D}{ρ:Rho}{k:Fl->Res α}{Q:Res α->Prop}(P:Nat->Rho->Prop)(h0:P 0 ρ)
  (st:∀ i d ρ,ds[i]?=some d->P i ρ->∃ ρ2,(g d ρ).bind b=.ok (.nx ρ2)/\P (i+1) ρ2) (fi:∀ ρ',P ds.length ρ'->Q (k (.nx ρ'))):Q ((loop g b ds ρ).bind k):=by
 suffices h:∀(ds:List D)(j:Nat)(ρ:Rho),P j ρ->(∀ i d ρ,ds[i]?=some d->P (j+i) ρ->∃ ρ2,(g d ρ).bind b=.ok (.nx ρ2)/\P (j+i+1) ρ2)->∃ ρ',loop g b ds ρ=.ok (.nx ρ')/\P (j+ds.length) ρ' by
  obtain⟨ρ',e,hp⟩:=h ds 0 ρ h0 (fun i d ρ hd hp=>by rw[Q5] at hp ⊢;exact st i d ρ hd hp)
  rw[e];exact fi ρ' (by rw[Q5] at hp;exact hp)
 intro ds
 induction ds with
 | nil=>intro j ρ hp _;exact⟨ρ,rfl,hp⟩
 | cons d ds ih=>
  intro j ρ hp st;obtain⟨ρ2,e,hp2⟩:=st 0 d ρ rfl hp
  obtain⟨ρ',e',hp'⟩:=ih (j+1) ρ2 hp2 fun i d' ρ' hd hp=>by
   have:=st (i+1) d' ρ' (by simpa using hd) (by rw[show j+(i+1)=j+1+i by omega];exact hp)
   rw[show j+(i+1)=j+1+i by omega] at this;exact this
  refine⟨ρ',?_,by rw[Ql,show j+(ds.length+1)=j+1+ds.length by omega];exact hp'⟩
  rw[loop]
  cases hg:g d ρ with
  | no=>rw[hg] at e;cases e
  | err c=>rw[hg] at e;cases e
  | ok ρ1=>
   rw[hg] at e;have e2:b ρ1=.ok (.nx ρ2):=e;simp only[Res.bind,e2];exact e'
theorem wG{lo c:Int}{n i:Nat}{d:D}(h:(rng lo n c)[i]?=some d):i<n/\d=.int (lo+(i:Int)*c):=by
 unfold rng at h;rw[Qr] at h;by_cases hi:i<n
 ·rw[Xo hi] at h
  cases h;exact⟨hi,rfl⟩
 ·rw[Qz (by rw[Qu];omega)] at h
  cases h
theorem zOj{lo c:Int}{n:Nat}:(rng lo n c).length=n:=by unfold rng;rw[Qd,Qu]
theorem zDj{f:Ev}{ρ:Rho}{h:D->D}:∀ {ds:List D},(∀ d∈ds,f (ρ++[.val d])=.ok (h d))->fM qI f ρ ds=.ok (ds.map h)
 | [],_=>rfl
 | d::ds,hf=>by
  rw[fM,hf d Qf];simp only[qI,noErr,Res.bind,if_true];rw[zDj fun e he=>hf e (Qe _ he)];rfl
def zR(t:Tv)(f:Ev)(ρ:Rho)(ds:List D):Res (List D):=if ds.length<=16777215 then fM t f ρ ds else .no
theorem fComp_at{it:Fv}{t:Tv}{f:Ev}{ρ:Rho}:sF it t f ρ=(it ρ).bind (zR t f ρ):=rfl
theorem zHR{f:Ev}{ρ:Rho}{h:D->D}{ds:List D}(hl:ds.length<=16777215)(hf:∀ d∈ds,f (ρ++[.val d])=.ok (h d)):zR qI f ρ ds=.ok (ds.map h):=by
 unfold zR;rw[if_pos hl,zDj hf]
theorem zDC{α:Type}(l:List α)(a:Nat):l.drop (min a l.length)=l.drop a:=by
 rcases Y2 a l.length with h | h
 ·rw[Uy h]
 ·rw[Nat.min_eq_right h,List.drop_length,Yt h]
theorem zHa{ds:List D}{a b:Int}(h1:0<=a)(h2:0<=b):eG ds (some a) (some b)=(ds.drop a.toNat).take (b.toNat-a.toNat):=by
 unfold eG cut;simp only[h1,h2,if_true];rw[zDC];rcases Y2 ds.length a.toNat with c | c
 ·rw[Yt c,List.take_nil,List.take_nil]
 ·rw[Uy c]
  rcases Y2 b.toNat ds.length with d | d
  ·rw[Uy d]
  ·rw[Nat.min_eq_right d,Yu (by rw[Vu];exact Qb _),Yu (by rw[Vu];exact Nat.sub_le_sub_right d _)]
theorem zEY{ds:List D}{a:Int}(h1:0<=a):eG ds (some a) none=ds.drop a.toNat:=by
 unfold eG cut;simp only[h1,if_true];rw[zDC,Yu (by rw[Vu];omega)]
theorem zON{d:D}{ds:List D}(h:depS ds<=50):oIn d (.lst ds)=.ok (.bl (ds.any fun e=>eqD e d)):=by
 cases d<;>exact if_pos h
theorem nE{α:Type}{f:α->D}{l:List α}{i:Int}{a:α}(h0:0<=i)(h:l[i.toNat]?=some a):oIx (.lst (l.map f)) (.int i)=.ok (f a):=by
 show ofO (atD (l.map f) i)=_
 unfold atD;rw[if_pos h0,Qr,h];rfl
theorem oIx_tc{d:D}{ds:List D}{i:Int}:oIx (.tup (d::ds)) (.int i)=ofO (atD (d::ds) i):=rfl
theorem rD{α:Type}{f:α->D}{l:List α}{i:Int}{a:α}(h0:0<=i)(h:l[i.toNat]?=some a):oIx (.tup (l.map f)) (.int i)=.ok (f a):=by
 show ofO (atD (l.map f) i)=_
 unfold atD;rw[if_pos h0,Qr,h];rfl
def zQd(ds:List D):D->Res (List D)
 | .int k=>if 0<=k/\k<2^62/\ds.length*k.toNat<=16777216 then .ok (List.replicate k.toNat ds).flatten else .no
 | _=>.no
def repF(g:Ev)(ρ:Rho)(ds:List D):Res (List D):=(g ρ).bind (zQd ds)
theorem fRep_at{f:Fv}{g:Ev}{ρ:Rho}:zMy f g ρ=(f ρ).bind (repF g ρ):=by
 unfold zMy repF;congr
theorem zFv{d:D}{k:Nat}(h:k<=16777216):zQd [d] (.int (k:Int))=.ok (List.replicate k d):=by
 have e:∀ n,(List.replicate n [d]).flatten=List.replicate n d:=by
  intro n
  induction n with
  | zero=>rfl
  | succ n ih=>rw[Xk,Xz,ih];rfl
 unfold zQd;dsimp only
 rw[if_pos ⟨by omega,by omega,by simp only[Ql,Yf,Vc];omega⟩,Vc,e]
theorem zFG{α:Type}{u:α->D}{f:Ev}{ρ:Rho}{g:α->D}:∀ {l:List α},(∀ a∈l,f (ρ++[.val (u a)])=.ok (g a))->fM qI f ρ (l.map u)=.ok (l.map g)
 | [],_=>rfl
 | a::l,h=>by
  rw[Qj,fM,h a Qf];simp only[qI,noErr,Res.bind,if_true];rw[zFG fun b hb=>h b (Qe _ hb)];rfl
theorem sU{α:Type}{u:α->D}{f:Ev}{ρ:Rho}{g:α->D}{l:List α}(hl:l.length<=16777215)(h:∀ a∈l,f (ρ++[.val (u a)])=.ok (g a)):zR qI f ρ (l.map u)=.ok (l.map g):=by
 unfold zR;rw[if_pos (by rw[Qd];exact hl),zFG h]
theorem bSum_l{ns:List Int}:zCJ [.lst (ns.map D.int)]=.ok (.int ns.sum):=by
 have e:∀ ns:List Int,mX (ns.map D.int)=some ns:=by
  intro ns
  induction ns with
  | nil=>rfl
  | cons i ns ih=>rw[Qj,mX,ih]
 show(match mX (ns.map D.int) with | some ns=>Res.ok (D.int ns.sum) | none=>.no)=_
 rw[e]
theorem bSum_t{ns:List Int}:zCJ [.tup (ns.map D.int)]=.ok (.int ns.sum):=by
 have e:∀ ns:List Int,mX (ns.map D.int)=some ns:=by
  intro ns
  induction ns with
  | nil=>rfl
  | cons i ns ih=>rw[Qj,mX,ih]
 show(match mX (ns.map D.int) with | some ns=>Res.ok (D.int ns.sum) | none=>.no)=_
 rw[e]
def slI(i:Nat)(ρ:Rho):Int:=match ρ[i]? with
 | some (.val (.int x))=>x
 | _=>0
theorem chO_s{c:Nat}:chO (some c)=.ok (.str ⟨#[c]⟩):=rfl
theorem zNs{x:Str}:dep (.str x)<=50:=by simp[dep]
theorem oEq_s{x y:Str}:oEq (.str x) (.str y)=.ok (.bl (x==y)):=by
 unfold oEq;rw[if_pos zNs,eqD]
theorem oNe_s{x y:Str}:oNe (.str x) (.str y)=.ok (.bl (!(x==y))):=by
 unfold oNe;rw[if_pos zNs,eqD]
theorem fB{g:Gv}{b:Sv}{d:D}{ds:List D}{ρ ρ1 ρ2:Rho}(hg:g d ρ=.ok ρ1)(hb:b ρ1=.ok (.nx ρ2)):loop g b (d::ds) ρ=loop g b ds ρ2:=by
 rw[loop];simp only[hg,Res.bind,hb]
theorem zHp{g:Gv}{b:Sv}{d:D}{ds:List D}{ρ ρ1:Rho}{r:Rt}(hg:g d ρ=.ok ρ1)(hb:b ρ1=.ok (.ret r)):loop g b (d::ds) ρ=.ok (.ret r):=by
 rw[loop];simp only[hg,Res.bind,hb]
theorem oTabNot_s{T:List (Str×Str)}{x:Str}:qM T (.str x)=.ok (.bl (!(T.lookup x).isSome)):=rfl
theorem zAs{α:Type}(p:α->Int):∀ l:List α,mX (l.map fun a=>D.int (p a))=some (l.map p)
 | []=>rfl
 | a::l=>by rw[Qj,mX,zAs p l];rfl
def mx0:List Int->Int
 | []=>0
 | a::r=>yL a r
theorem zFt{α:Type}{p:α->Int}{l:List α}:zCO [.lst (l.map fun a=>D.int (p a)),.int 0]=.ok (.int (mx0 (l.map p))):=by
 show(match mX (l.map fun a=>D.int (p a)) with | some (a::r)=>Res.ok (D.int (yL a r)) | some []=>.ok (.int 0) | none=>.no)=_
 rw[zAs];cases l<;>rfl
def zQn:List D->Res (List D)
 | [x,y]=>match zIh x,zIh y with
  | some xs,some ys=>.ok (kZ xs ys)
  | _,_=>.no
 | _=>.no
theorem iZip_at{a:Fv}{ρ:Rho}:zMx a ρ=(a ρ).bind zQn:=by
 unfold zMx;congr
theorem uK{x y:D}{xs ys:List D}(hx:zIh x=some xs)(hy:zIh y=some ys):zQn [x,y]=.ok (kZ xs ys):=by
 show(match zIh x,zIh y with | some xs,some ys=>Res.ok (kZ xs ys) | _,_=>.no)=_
 rw[hx,hy]
def zLy:D->Res (List D)
 | .lst ds=>.ok (jV 0 ds)
 | .tup ds=>.ok (jV 0 ds)
 | _=>.no
theorem enumF_t{ds:List D}:zLy (.tup ds)=.ok (jV 0 ds):=rfl
theorem enumF_l{ds:List D}:zLy (.lst ds)=.ok (jV 0 ds):=rfl
theorem iEnum_at{e:Ev}{ρ:Rho}:zGn e ρ=(e ρ).bind zLy:=by
 unfold zGn;congr
def zHG(f:Ev)(ρ:Rho)(ds:List D):Res (List D):=if ds.length<=16777215 then fK f ρ ds else .no
theorem fComp2_at{it:Fv}{f:Ev}{ρ:Rho}:wO it f ρ=(it ρ).bind (zHG f ρ):=rfl
theorem zDl{α β:Type}{u:α->D}{v:β->D}{f:Ev}{ρ:Rho}{g:α->β->D}:∀ {l:List α} {m:List β},(∀ p∈l.zip m,f (ρ++[.val (u p.1),.val (v p.2)])=.ok (g p.1 p.2))->
  fK f ρ (kZ (l.map u) (m.map v))=.ok ((l.zip m).map fun p=>g p.1 p.2)
 | [],m,h=>by cases m<;>rfl
 | a::l,[],h=>rfl
 | a::l,b::m,h=>by
  have h1:=h (a,b) Qf;have h2:=zDl (l:=l) (m:=m) (u:=u) (v:=v) (g:=g) fun p hp=>h p (Qe _ hp)
  show(noErr (f (ρ++[.val (u a),.val (v b)]))).bind (fun e=>(fK f ρ (kZ (l.map u) (m.map v))).bind fun es=>.ok (e::es))=_
  rw[h1,h2];rfl
theorem oW{α β:Type}{u:α->D}{v:β->D}{f:Ev}{ρ:Rho}{g:α->β->D}{l:List α}{m:List β}(hl:l.length<=16777215)(h:∀ p∈l.zip m,f (ρ++[.val (u p.1),.val (v p.2)])=.ok (g p.1 p.2)):
  zHG f ρ (kZ (l.map u) (m.map v))=.ok ((l.zip m).map fun p=>g p.1 p.2):=by
 unfold zHG;rw[if_pos,zDl h]
 have:∀(a b:List D),(kZ a b).length<=a.length:=by
  intro a
  induction a with
  | nil=>intro b;cases b<;>exact Qb _
  | cons x a ih=>intro b;cases b with
   | nil=>exact Q7 _
   | cons y b=>exact Xe (ih b)
 exact Qp (this _ _) (by rw[Qd];exact hl)
def zQw(hi:Ov)(ρ:Rho)(x:D)(l:Option Int):Res D:=(hi ρ).bind fun h=>slQ l h x
def slQF(lo hi:Ov)(ρ:Rho)(x:D):Res D:=(lo ρ).bind (zQw hi ρ x)
theorem eSlQ_at{a:Ev}{lo hi:Ov}{ρ:Rho}:zPR a lo hi ρ=(a ρ).bind (slQF lo hi ρ):=rfl
def zMv(x:D)(l h:Option Int):Res D:=slQ l h x
theorem slQE_at{hi:Ov}{ρ:Rho}{x:D}{l:Option Int}:zQw hi ρ x l=(hi ρ).bind (zMv x l):=rfl
theorem slQG_l{ds:List D}{l h:Option Int}:zMv (.lst ds) l h=.ok (.lst (eG ds l h)):=rfl
theorem slQG_t{ds:List D}{l h:Option Int}:zMv (.tup ds) l h=.ok (.tup (eG ds l h)):=rfl
end L3
namespace Ln
open Fq
abbrev Pt:=Rat×Rat
def asc(a b:Pt):Prop:=a.1<b.1/\a.2<=b.2
def btw(a b c:Pt):Bool:=decide ((b.2-a.2)*(c.1-b.1)=(c.2-b.2)*(b.1-a.1))
def push:List Pt->Pt->List Pt
 | b::a::s,c=>if btw a b c=true then c::a::s else c::b::a::s
 | s,c=>c::s
def few:Pt->List Pt->List Pt
 | _,[]=>[]
 | _,[b]=>[b]
 | a,b::c::r=>if btw a b c=true then few b (c::r) else b::few b (c::r)
def Ok(ps:List Pt):Prop:=ps.head?=some (0,0)/\ps.Pairwise asc
theorem lt_iff{p q:Rat}:p.num*q.den<q.num*p.den ↔ p<q:=Rat.lt_iff p q |>.symm
end Ln
namespace L3
open PySem PySem.Spec PyProof.Rows L2
abbrev St:=L2.St
mutual
inductive IsD (K:PySem.W.Frag) (H:Hp):V->D->Prop where
 | non:IsD K H .non .non
 | bl (b:Bool):IsD K H (.bl b) (.bl b)
 | int (i:Int):IsD K H (.int i) (.int i)
 | str (x:Str):IsD K H (.str x) (.str x)
 | tup {a:Addr} {xs:List V} {ds:List D}:SqT K H a xs->IsDs K H xs ds->IsD K H (.ref a) (.tup ds)
 | lst {a:Addr} {xs:List V} {ds:List D}:SqL K H a xs->IsDs K H xs ds->IsD K H (.ref a) (.lst ds)
inductive IsDs (K:PySem.W.Frag) (H:Hp):List V->List D->Prop where
 | nil:IsDs K H [] []
 | cons {v:V} {d:D} {vs:List V} {ds:List D}:IsD K H v d->IsDs K H vs ds->IsDs K H (v::vs) (d::ds)
end
theorem _root_.L2.Same.rd{H H':Hp}(e:Same H H'){a:Addr}{u:HO}(h:Rd H a u):Rd H' a u:=by
 rcases h with h | ⟨o,h⟩
 ·exact .inl (e _ _ h)
 ·exact .inr ⟨o,e _ _ h⟩
theorem bV{K:Fg_}{H H':Hp}(e:Same H H'){a:Addr}{xs:List V}(h:SqT K H a xs):SqT K H' a xs:=h.imp (Same.rd e) id
theorem cH{K:Fg_}{H H':Hp}(e:Same H H'){a:Addr}{xs:List V}(h:SqL K H a xs):SqL K H' a xs:=h.imp (Same.rd e) id
section
variable{K:Fg_}{H H':Hp}
mutual
theorem IsD.mono(e:Same H H'):∀ {v:V} {d:D},IsD K H v d->IsD K H' v d
 | _,_,.non=>.non
 | _,_,.bl b=>.bl b
 | _,_,.int i=>.int i
 | _,_,.str x=>.str x
 | _,_,.tup h hs=>.tup (bV e h) (IsDs.mono e hs)
 | _,_,.lst h hs=>.lst (cH e h) (IsDs.mono e hs)
theorem IsDs.mono(e:Same H H'):∀ {vs:List V} {ds:List D},IsDs K H vs ds->IsDs K H' vs ds
 | _,_,.nil=>.nil
 | _,_,.cons h hs=>.cons (IsD.mono e h) (IsDs.mono e hs)
end
theorem IsDs.length:∀ {vs:List V} {ds:List D},IsDs K H vs ds->vs.length=ds.length
 | _,_,.nil=>rfl
 | _,_,.cons _ hs=>by rw[Ql,Ql,IsDs.length hs]
theorem IsDs.at:∀ {vs:List V} {ds:List D} {j:Nat} {d:D},IsDs K H vs ds->ds[j]?=some d->∃ v,vs[j]?=some v/\IsD K H v d
 | _,_,_,_,.nil,e=>by simp at e
 | _,_,0,_,.cons r _,e=>by simp at e;subst e;exact⟨_,rfl,r⟩
 | _,_,j+1,d,.cons _ t,e=>by
  obtain⟨v,h1,h2⟩:=IsDs.at (j:=j) (d:=d) t (by simpa using e)
  exact⟨v,by simpa using h1,h2⟩
theorem IsDs.append:∀ {vs ws:List V} {ds es:List D},IsDs K H vs ds->IsDs K H ws es->IsDs K H (vs++ws) (ds++es)
 | _,_,_,_,.nil,s=>s
 | _,_,_,_,.cons r t,s=>.cons r (IsDs.append t s)
theorem IsDs.take:∀ {vs:List V} {ds:List D} (n:Nat),IsDs K H vs ds->IsDs K H (vs.take n) (ds.take n)
 | _,_,0,_=>.nil
 | _,_,_+1,.nil=>.nil
 | _,_,n+1,.cons r t=>.cons r (IsDs.take n t)
theorem IsDs.drop:∀ {vs:List V} {ds:List D} (n:Nat),IsDs K H vs ds->IsDs K H (vs.drop n) (ds.drop n)
 | _,_,0,r=>r
 | _,_,_+1,.nil=>.nil
 | _,_,n+1,.cons _ t=>IsDs.drop n t
theorem IsDs.set{v:V}{d:D}(h:IsD K H v d):∀ {vs:List V} {ds:List D} (j:Nat),IsDs K H vs ds->IsDs K H (vs.set j v) (ds.set j d)
 | _,_,_,.nil=>.nil
 | _,_,0,.cons _ t=>.cons h t
 | _,_,j+1,.cons q t=>.cons q (IsDs.set h j t)
mutual
theorem IsD.noL(k:∀ b xs,Rd H b (.tup xs)->Rd H' b (.tup xs)):∀ {v:V} {d:D},IsD K H v d->L3.noL d=true->IsD K H' v d
 | _,_,.non,_=>.non
 | _,_,.bl b,_=>.bl b
 | _,_,.int i,_=>.int i
 | _,_,.str x,_=>.str x
 | _,_,.tup h hs,e=>.tup (h.imp (k _ _) id) (IsDs.noL k hs (by rw[L3.noL] at e;exact e))
 | _,_,.lst h hs,e=>by rw[L3.noL] at e;cases e
theorem IsDs.noL(k:∀ b xs,Rd H b (.tup xs)->Rd H' b (.tup xs)):∀ {vs:List V} {ds:List D},IsDs K H vs ds->L3.noLs ds=true->IsDs K H' vs ds
 | _,_,.nil,_=>.nil
 | _,_,.cons h hs,e=>by
  rw[L3.noLs,Vj] at e;exact .cons (IsD.noL k h e.1) (IsDs.noL k hs e.2)
end
end
theorem IsD.intI{K:Fg_}{H:Hp}{v:V}{i:Int}(h:IsD K H v (.int i)):v=.int i:=by cases h;rfl
theorem IsD.blI{K:Fg_}{H:Hp}{v:V}{b:Bool}(h:IsD K H v (.bl b)):v=.bl b:=by cases h;rfl
theorem IsD.strI{K:Fg_}{H:Hp}{v:V}{x:Str}(h:IsD K H v (.str x)):v=.str x:=by cases h;rfl
theorem IsD.tupI{K:Fg_}{H:Hp}{v:V}{ds:List D}(h:IsD K H v (.tup ds)):∃ a xs,v=.ref a/\SqT K H a xs/\IsDs K H xs ds:=by
 cases h with
 | tup h hs=>exact⟨_,_,rfl,h,hs⟩
theorem IsD.lstI{K:Fg_}{H:Hp}{v:V}{ds:List D}(h:IsD K H v (.lst ds)):∃ a xs,v=.ref a/\SqL K H a xs/\IsDs K H xs ds:=by
 cases h with
 | lst h hs=>exact⟨_,_,rfl,h,hs⟩
def sB:Str := "ranked.<locals>.<lambda>"
def zAv(P:Addr)(H:Hp):Prop:=∃ ps,H P=some (.tbl ps)/\TriplesOk ps.toList/\∀(pos:Pos)(cv:Value),codeAmong pos ps.toList=some cv->∃ c oc vs t u,cv=.ref c/\H c=some (.frz oc u)/\oc.data=.fields vs/\vs[1]?=some (.str sB t)
theorem zAv.put{P a:Addr}{H:Hp}{x:HO}(h:zAv P H)(h1:∀ ps,H a≠some (.tbl ps))(h2:∀ o u,H a≠some (.frz o u)):zAv P (upd H a x):=by
 obtain⟨ps,e,t,k⟩:=h;refine⟨ps,by rw[aX (show P≠a from fun z=>h1 ps (by rw[<-z];exact e))];exact e,t,fun pos cv q=>?_⟩
 obtain⟨c,oc,vs,tk,u,r1,r2,r3⟩:=k pos cv q;exact⟨c,oc,vs,tk,u,r1,by rw[aX (show c≠a from fun z=>h2 oc u (by rw[<-z];exact r2))];exact r2,r3⟩
structure Keep (H H':Hp):Prop where
 k:∀ b o,H b=some o->H' b=some o∨∃ ps ps',o=.tbl ps/\H' b=some (.tbl ps')
 t:∀ P,zAv P H->zAv P H'
theorem Keep.refl(H:Hp):Keep H H:=⟨fun _ _ e=>.inl e,fun _ e=>e⟩
theorem Keep.trans{H H1 H2:Hp}(a:Keep H H1)(b:Keep H1 H2):Keep H H2:=
 ⟨fun c o e=>by
  rcases a.k c o e with z | ⟨ps,ps',rfl,z⟩
  ·exact b.k c o z
  ·rcases b.k c _ z with y | ⟨qs,qs',_,y⟩
   ·exact .inr ⟨ps,ps',rfl,y⟩
   ·exact .inr ⟨ps,qs',rfl,y⟩,fun P e=>b.t P (a.t P e)⟩
theorem Keep.at{H H':Hp}(k:Keep H H'){b:Addr}{o:HO}(e:H b=some o)(ho:∀ ps,o≠.tbl ps:=by intro ps z;cases z):H' b=some o:=by
 rcases k.k b o e with z | ⟨ps,ps',z,_⟩
 ·exact z
 ·exact absurd z (ho ps)
theorem Keep.none{H H':Hp}(k:Keep H H'){p:Addr}(e:H' p=none):H p=none:=by
 cases z:H p with
 | none=>rfl
 | some o=>rcases k.k p o z with y | ⟨_,_,_,y⟩<;>(rw[y] at e;cases e)
structure Ext (Hi H Hi' H':Hp):Prop where
 i:Same Hi Hi'
 h:Keep H H'
 s:Same Hi' H'
 n:∀ b,Hi b=none->Hi' b≠none->H b=none
theorem Ext.refl{Hi H:Hp}(h:Same Hi H):Ext Hi H Hi H:=⟨Same.refl _,Keep.refl _,h,fun _ e q=>absurd e q⟩
theorem Ext.trans{Hi H Hi1 H1 Hi2 H2:Hp}(a:Ext Hi H Hi1 H1)(b:Ext Hi1 H1 Hi2 H2):Ext Hi H Hi2 H2:=
 ⟨a.i.trans b.i,a.h.trans b.h,b.s,fun c e q=>by
  cases z:Hi1 c with
  | some o=>exact a.n c e (by rw[z];exact fun w=>by cases w)
  | none=>
   have z2:=b.n c z q
   exact a.h.none z2⟩
theorem cA{H:Hp}{p:Addr}(h:H p=none)(o:HO):Same H (upd H p o):=fun b u q=>by rw[aX (aZ q h)];exact q
theorem zDL{H:Hp}{p:Addr}(h:H p=none)(o:HO):Keep H (upd H p o):=⟨fun b u q=>.inl (cA h o b u q),fun P e=>e.put (fun ps z=>by rw[h] at z;cases z) (fun ob u z=>by rw[h] at z;cases z)⟩
theorem _root_.L2.Same.none{H H':Hp}(h:Same H H'){p:Addr}(e:H' p=none):H p=none:=by
 cases z:H p with
 | none=>rfl
 | some o=>rw[h _ _ z] at e;cases e
theorem Ext.new{Hi H:Hp}{p:Addr}{o:HO}(h:Same Hi H)(hp:H p=none):Ext Hi H (upd Hi p o) (upd H p o) where
 i:=cA (h.none hp) o
 h:=zDL hp o
 s:=fun b u q=>by
  by_cases e:b=p
  ·subst e;rw[aS] at q ⊢;exact q
  ·rw[aX e] at q ⊢;exact h _ _ q
 n:=fun b e q=>by
  by_cases z:b=p
  ·rw[z];exact hp
  ·rw[aX z] at q;exact absurd e q
theorem Ext.newF{Hi H:Hp}{p:Addr}{o:HO}(h:Same Hi H)(hp:H p=none):Ext Hi H Hi (upd H p o) where
 i:=Same.refl _
 h:=zDL hp o
 s:=h.trans (cA hp o)
 n:=fun b e q=>absurd e q
theorem Ext.out{Hi H Hi' H':Hp}(e:Ext Hi H Hi' H'){a:Addr}{o:HO}(h:H a=some o)(hi:Hi a=none)(ho:∀ ps,o≠.tbl ps:=by intro ps z;cases z):H' a=some o/\Hi' a=none:=by
 refine⟨e.h.at h ho,?_⟩
 cases z:Hi' a with
 | none=>rfl
 | some u=>have:=e.n a hi (by rw[z];exact fun w=>by cases w);rw[h] at this;cases this
theorem Ext.hold{Hi H Hi' H':Hp}(e:Ext Hi H Hi' H'){a:Addr}{o:HO}(hn:H a=none)(h:H' a=some o)(hi:Hi' a=none):Ext Hi H (upd Hi' a o) H' where
 i:=e.i.trans (cA hi o)
 h:=e.h
 s:=fun b u q=>by
  by_cases z:b=a
  ·subst z;rw[aS] at q;cases q;exact h
  ·rw[aX z] at q;exact e.s _ _ q
 n:=fun b z q=>by
  by_cases w:b=a
  ·rw[w];exact hn
  ·rw[aX w] at q;exact e.n b z q
def zQi(a C:Addr):Heap->Prop:=fun h=>∃ o vs,h.get? a=some o/\o.cls=.ref C/\o.data=.fields vs
def kvT(T:List (Str×Str)):List (Key×V):=T.map fun q=>(Sum.inr q.1,V.str q.2)
def zDP(K:PySem.W.Frag)(mg:Str->Option Value)(B Hi H:Hp)(o:Option (Option V)):Sl->Prop
 | .un=>True
 | .val d=>∃ v,o=some (some v)/\IsD K Hi v d
 | .own ds=>∃ a xs,o=some (some (.ref a))/\H a=some (.lst xs)/\Hi a=none/\B a=none/\IsDs K Hi xs ds
 | .exc c=>∃ a C,o=some (some (.ref a))/\H a=some (.ext (zQi a C))/\Hi a=none/\B a=none/\mg c=some (.ref C)
 | .tab T=>∃ a,o=some (some (.ref a))/\Hi a=some (.dK (kvT T))
structure Rel (K:PySem.W.Frag) (mg:Str->Option Value) (B Bi Hi H:Hp) (σ:St) (ρ:Rho):Prop where
 len:σ.length=ρ.length
 ext:Ext Bi B Hi H
 slot:∀(i:Nat)(s:Sl),ρ[i]?=some s->zDP K mg B Hi H σ[i]? s
 dist:∀(i j:Nat)(a:Addr)(ds es:List D),ρ[i]?=some (.own ds)->ρ[j]?=some (.own es)->σ[i]?=some (some (.ref a))->σ[j]?=some (some (.ref a))->i=j
section
variable{K:Fg_}{mg:Str->Option Value}{B Bi Hi H Hi' H':Hp}{σ:St}{ρ:Rho}
theorem zDP.ext{o:Option (Option V)}{s:Sl}(h:zDP K mg B Hi H o s)(e:Ext Hi H Hi' H'):zDP K mg B Hi' H' o s:=by
 cases s with
 | un=>trivial
 | val d=>obtain⟨v,q,r⟩:=h;exact⟨v,q,r.mono e.i⟩
 | own ds=>
  obtain⟨a,xs,q,h1,h2,h3,h4⟩:=h;obtain⟨e1,e2⟩:=e.out h1 h2;exact⟨a,xs,q,e1,e2,h3,h4.mono e.i⟩
 | exc c=>
  obtain⟨a,C,q,h1,h2,h3,h4⟩:=h;obtain⟨e1,e2⟩:=e.out h1 h2;exact⟨a,C,q,e1,e2,h3,h4⟩
 | tab T=>obtain⟨a,q,h1⟩:=h;exact⟨a,q,e.i _ _ h1⟩
theorem Rel.grow(R:Rel K mg B Bi Hi H σ ρ)(e:Ext Hi H Hi' H'):Rel K mg B Bi Hi' H' σ ρ:=⟨R.len,R.ext.trans e,fun i s q=>(R.slot i s q).ext e,R.dist⟩
theorem Rel.s(R:Rel K mg B Bi Hi H σ ρ):Same Hi H:=R.ext.s
theorem Rel.set{i:Nat}{v:V}{d:D}(R:Rel K mg B Bi Hi H σ ρ)(h:IsD K Hi v d):Rel K mg B Bi Hi H (σ.set i (some v)) (ρ.set i (.val d)) where
 len:=by rw[Vb,Vb];exact R.len
 ext:=R.ext
 slot:=fun j s q=>by
  by_cases e:i=j
  ·subst e
   by_cases hl:i<ρ.length
   ·rw[Vh hl] at q;cases q
    exact⟨v,by rw[Vh (by rw[R.len];exact hl)],h⟩
   ·rw[Qz (by rw[Vb];omega)] at q;cases q
  ·rw[Vi e] at q ⊢
   exact R.slot j s q
 dist:=fun j k a ds es q1 q2 q3 q4=>by
  have h1:∀ {j:Nat} {ds:List D},(ρ.set i (.val d))[j]?=some (.own ds)->i≠j:=fun {j ds} q e=>by
   subst e;by_cases hl:i<ρ.length
   ·rw[Vh hl] at q;cases q
   ·rw[Qz (by rw[Vb];omega)] at q;cases q
  have n1:=h1 q1;have n2:=h1 q2;rw[Vi n1] at q1 q3;rw[Vi n2] at q2 q4;exact R.dist j k a ds es q1 q2 q3 q4
theorem Rel.setOwn{i:Nat}{a:Addr}{xs:List V}{ds:List D}(R:Rel K mg B Bi Hi H σ ρ)(e:Ext Hi H Hi' H')(hn:H a=none)(h:H' a=some (.lst xs))(hi:Hi' a=none)(hs:IsDs K Hi' xs ds):
  Rel K mg B Bi Hi' H' (σ.set i (some (.ref a))) (ρ.set i (.own ds)) where
 len:=by rw[Vb,Vb];exact R.len
 ext:=R.ext.trans e
 slot:=fun j s q=>by
  by_cases z:i=j
  ·subst z
   by_cases hl:i<ρ.length
   ·rw[Vh hl] at q;cases q
    exact⟨a,xs,by rw[Vh (by rw[R.len];exact hl)],h,hi,R.ext.h.none hn,hs⟩
   ·rw[Qz (by rw[Vb];omega)] at q;cases q
  ·rw[Vi z] at q ⊢
   exact(R.slot j s q).ext e
 dist:=fun j k b es fs q1 q2 q3 q4=>by
  have h1:∀ {j:Nat} {es:List D},i≠j->ρ[j]?=some (.own es)->σ[j]?=some (some (.ref a))->False:=fun {j es} _ p1 p2=>by
   obtain⟨a',xs',q,h1,_⟩:=R.slot j _ p1;rw[p2] at q;cases q;rw[hn] at h1;cases h1
  have h2:∀ {j:Nat} {es:List D},(ρ.set i (.own ds))[j]?=some (.own es)->i<σ.length∨i≠j:=fun {j es} p=>by
   by_cases z:i=j
   ·subst z
    by_cases hl:i<ρ.length
    ·exact .inl (by rw[R.len];exact hl)
    ·rw[Qz (by rw[Vb];omega)] at p;cases p
   ·exact .inr z
  by_cases z1:i=j
  ·by_cases z2:i=k
   ·rw[<-z1,<-z2]
   ·exfalso
    subst z1;have hl:i<σ.length:=(h2 q1).resolve_right (fun w=>w rfl)
    rw[Vh hl] at q3;cases q3
    rw[Vi z2] at q2 q4;exact h1 z2 q2 q4
  ·by_cases z2:i=k
   ·exfalso
    subst z2;have hl:i<σ.length:=(h2 q2).resolve_right (fun w=>w rfl)
    rw[Vh hl] at q4;cases q4
    rw[Vi z1] at q1 q3;exact h1 z1 q1 q3
   ·rw[Vi z1] at q1 q3
    rw[Vi z2] at q2 q4;exact R.dist j k b es fs q1 q2 q3 q4
theorem Rel.write{i:Nat}{a:Addr}{ys:List V}{ds es:List D}(R:Rel K mg B Bi Hi H σ ρ)(e:ρ[i]?=some (.own ds))(ea:σ[i]?=some (some (.ref a)))(hs:IsDs K Hi ys es):
  Rel K mg B Bi Hi (upd H a (.lst ys)) σ (ρ.set i (.own es)):=by
 obtain⟨a',xs',q,h1,h2,h3,h4⟩:=R.slot i _ e;rw[ea] at q;cases q
 have hl:i<ρ.length:=by
  by_cases hl:i<ρ.length
  ·exact hl
  ·rw[Qz (by omega)] at e;cases e
 refine⟨by rw[Vb];exact R.len,⟨R.ext.i,⟨fun b o z=>?_,fun P z=>(R.ext.h.t P z).put (fun ps y=>by rw[h1] at y;cases y) (fun ob u y=>by rw[h1] at y;cases y)⟩,fun b o z=>?_,R.ext.n⟩,fun j s z=>?_,fun j k b fs gs q1 q2 q3 q4=>?_⟩
 ·rw[aX (aZ z h3)];exact R.ext.h.k _ _ z
 ·rw[aX (aZ z h2)];exact R.ext.s _ _ z
 ·by_cases w:i=j
  ·subst w
   rw[Vh hl] at z;cases z
   exact⟨a,ys,ea,aS,h2,h3,hs⟩
  ·rw[Vi w] at z
   have S:=R.slot j s z
   cases s with
   | un=>trivial
   | val d=>exact S
   | own fs=>
    obtain⟨b,zs,p,g1,g2,g3,g4⟩:=S;have hb:b≠a:=fun c=>w (R.dist i j a ds fs e z ea (by rw[p,c]))
    exact⟨b,zs,p,by rw[aX hb];exact g1,g2,g3,g4⟩
   | exc c=>
    obtain⟨b,C,p,g1,g2,g3,g4⟩:=S;have hb:b≠a:=zOH g1 h1 (by intro z;cases z)
    exact⟨b,C,p,by rw[aX hb];exact g1,g2,g3,g4⟩
   | tab T=>exact S
 ·have own:∀ {j:Nat} {fs:List D},(ρ.set i (.own es))[j]?=some (.own fs)->∃ gs,ρ[j]?=some (.own gs):=fun {j fs} p=>by
   by_cases w:i=j
   ·subst w;exact⟨ds,e⟩
   ·rw[Vi w] at p;exact⟨fs,p⟩
  obtain⟨fs',q1'⟩:=own q1;obtain⟨gs',q2'⟩:=own q2;exact R.dist j k b fs' gs' q1' q2' q3 q4
theorem Rel.frzAt{i:Nat}(R:Rel K mg B Bi Hi H σ ρ):∃ Hi',Same Hi Hi'/\Rel K mg B Bi Hi' H σ (L3.frzAt i ρ):=by
 unfold L3.frzAt;split
 ·rename_i ds e
  obtain⟨a,xs,q,h1,h2,h3,h4⟩:=R.slot i _ e
  have hl:i<ρ.length:=by
   by_cases hl:i<ρ.length
   ·exact hl
   ·rw[Qz (by omega)] at e;cases e
  have sm:Same Hi (upd Hi a (.lst xs)):=cA h2 _
  have ss:Same (upd Hi a (.lst xs)) H:=fun b u z=>by
   by_cases w:b=a
   ·subst w;rw[aS] at z;cases z;exact h1
   ·rw[aX w] at z;exact R.s _ _ z
  refine⟨upd Hi a (.lst xs),sm,by rw[Vb];exact R.len,⟨R.ext.i.trans sm,R.ext.h,ss,fun b z w=>?_⟩,fun j s z=>?_,fun j k b fs gs q1 q2 q3 q4=>?_⟩
  ·by_cases c:b=a
   ·rw[c];exact h3
   ·rw[aX c] at w;exact R.ext.n b z w
  ·by_cases w:i=j
   ·subst w
    rw[Vh hl] at z;cases z
    exact⟨.ref a,q,.lst (SqL.of aS) (h4.mono sm)⟩
   ·rw[Vi w] at z
    have S:=R.slot j s z
    cases s with
    | un=>trivial
    | val d=>obtain⟨v,p,r⟩:=S;exact⟨v,p,r.mono sm⟩
    | own fs=>
     obtain⟨b,zs,p,g1,g2,g3,g4⟩:=S;have hb:b≠a:=fun c=>w (R.dist i j a ds fs e z q (by rw[p,c]))
     exact⟨b,zs,p,g1,by rw[aX hb];exact g2,g3,g4.mono sm⟩
    | exc c=>
     obtain⟨b,C,p,g1,g2,g3,g4⟩:=S;have hb:b≠a:=zOH g1 h1 (by intro z;cases z)
     exact⟨b,C,p,g1,by rw[aX hb];exact g2,g3,g4⟩
    | tab T=>obtain⟨b,p,g1⟩:=S;exact⟨b,p,sm _ _ g1⟩
  ·have own:∀ {j:Nat} {fs:List D},(ρ.set i (.val (.lst ds)))[j]?=some (.own fs)->ρ[j]?=some (.own fs):=fun {j fs} p=>by
    by_cases w:i=j
    ·subst w;rw[Vh hl] at p;cases p
    ·rw[Vi w] at p;exact p
   exact R.dist j k b fs gs (own q1) (own q2) q3 q4
 ·exact⟨Hi,Same.refl _,R⟩
end
end L3
namespace L3
open PySem PySem.Spec PyProof.Rows L2
section
variable{K:Fg_}{mg:Str->Option Value}{B Bi Hi H Hi' H':Hp}{σ:St}{ρ:Rho}
theorem Rel.frz(R:Rel K mg B Bi Hi H σ ρ):∃ Hf,Same Hi Hf/\Rel K mg B Bi Hf H σ (ρ.map Sl.frz)/\∀ b,Hi b=none->Hf b≠none->∃ xs,Hf b=some (.lst xs):=by
 let own:Addr->Prop:=fun b=>∃(i:Nat)(ds:List D),ρ[i]?=some (.own ds)/\σ[i]?=some (some (.ref b))
 have dec:∀ b,Decidable (own b):=fun b=>Classical.propDecidable _
 let Hf:Hp:=fun b=>match Hi b with
  | some o=>some o
  | none=>if own b then H b else none
 have hf1:∀ b o,Hi b=some o->Hf b=some o:=fun b o e=>by show(match Hi b with | some o=>some o | none=>if own b then H b else none)=_;rw[e]
 have hf2:∀ b,Hi b=none->own b->Hf b=H b:=fun b e z=>by show(match Hi b with | some o=>some o | none=>if own b then H b else none)=_;rw[e];exact if_pos z
 have hf3:∀ b,Hi b=none->¬ own b->Hf b=none:=fun b e z=>by show(match Hi b with | some o=>some o | none=>if own b then H b else none)=_;rw[e];exact if_neg z
 have lst:∀ b,own b->∃ xs,H b=some (.lst xs)/\Hi b=none/\B b=none:=fun b ⟨i,ds,e1,e2⟩=>by
  obtain⟨a,xs,q,h1,h2,h3,h4⟩:=R.slot i _ e1;rw[e2] at q;cases q
  exact⟨xs,h1,h2,h3⟩
 have ss:Same Hf H:=fun b o z=>by
  cases q:Hi b with
  | some u=>rw[hf1 b u q] at z;cases z;exact R.s _ _ q
  | none=>
   by_cases w:own b
   ·rw[hf2 b q w] at z;exact z
   ·rw[hf3 b q w] at z;cases z
 refine⟨Hf,hf1,⟨by rw[Qd];exact R.len,⟨R.ext.i.trans hf1,R.ext.h,ss,fun b z w=>?_⟩,fun j s z=>?_,fun j k b fs gs q1 q2 q3 q4=>?_⟩,fun b z w=>?_⟩
 ·cases q:Hi b with
  | some u=>exact R.ext.n b z (by rw[q];exact fun c=>by cases c)
  | none=>
   by_cases c:own b
   ·exact(lst b c).choose_spec.2.2
   ·exact absurd (hf3 b q c) w
 ·rw[Qr] at z
  cases e:ρ[j]? with
  | none=>rw[e] at z;cases z
  | some t=>
   rw[e] at z;cases z;have S:=R.slot j t e
   cases t with
   | un=>trivial
   | val d=>obtain⟨v,p,r⟩:=S;exact⟨v,p,r.mono hf1⟩
   | own ds=>
    obtain⟨a,xs,q,h1,h2,h3,h4⟩:=S;exact⟨.ref a,q,.lst (SqL.of (by rw[hf2 a h2 ⟨j,ds,e,q⟩];exact h1)) (h4.mono hf1)⟩
   | exc c=>
    obtain⟨a,C,q,h1,h2,h3,h4⟩:=S;refine⟨a,C,q,h1,?_,h3,h4⟩
    refine hf3 a h2 fun c=>?_
    obtain⟨xs,g,_⟩:=lst a c;rw[h1] at g;cases g
   | tab T=>obtain⟨a,q,h1⟩:=S;exact⟨a,q,hf1 _ _ h1⟩
 ·exfalso
  rw[Qr] at q1
  cases e:ρ[j]? with
  | none=>rw[e] at q1;cases q1
  | some t=>rw[e] at q1;cases t<;>cases q1
 ·by_cases c:own b
  ·obtain⟨xs,g,_⟩:=lst b c
   exact⟨xs,by rw[hf2 b z c];exact g⟩
  ·exact absurd (hf3 b z c) w
theorem Ext.thaw{Hf:Hp}(s:Same Hi Hf)(fl:∀ b,Hi b=none->Hf b≠none->∃ xs,Hf b=some (.lst xs))(hs:Same Hf H)(e:Ext Hf H Hi' H'):
  ∃ Ht,Ext Hi H Ht H'/\(∀ b xs,Rd Hi' b (.tup xs)->Rd Ht b (.tup xs))/\Same Ht Hi'/\∀ b,Ht b=none->Hi' b=none∨∃ xs,H b=some (.lst xs):=by
 have dec:∀ b,Decidable (Hi b=none/\Hf b≠none):=fun b=>Classical.propDecidable _
 let Ht:Hp:=fun b=>if Hi b=none/\Hf b≠none then none else Hi' b
 have t1:∀ b,¬ (Hi b=none/\Hf b≠none)->Ht b=Hi' b:=fun b z=>if_neg z
 have t2:∀ b,(Hi b=none/\Hf b≠none)->Ht b=none:=fun b z=>if_pos z
 have tt:Same Ht Hi':=fun b o z=>by
  by_cases w:Hi b=none/\Hf b≠none
  ·rw[t2 b w] at z;cases z
  ·rw[t1 b w] at z;exact z
 refine⟨Ht,⟨fun b o z=>?_,e.h,tt.trans e.s,fun b z w=>?_⟩,fun b xs r=>?_,tt,fun b z=>?_⟩
 ·rw[t1 b (fun w=>by rw[z] at w;cases w.1)];exact e.i _ _ (s _ _ z)
 ·by_cases c:Hi b=none/\Hf b≠none
  ·exact absurd (t2 b c) w
  ·rw[t1 b c] at w
   have:Hf b=none:=by
    cases q:Hf b with
    | none=>rfl
    | some u=>exact absurd ⟨z,by rw[q];exact fun c=>by cases c⟩ c
   exact e.n b this w
 ·have nl:¬ (Hi b=none/\Hf b≠none):=fun w=>by
   obtain⟨ys,g⟩:=fl b w.1 w.2;have g':=e.i _ _ g;rcases r with r | ⟨o,r⟩<;>(rw[g'] at r;cases r)
  rcases r with r | ⟨o,r⟩
  ·exact .inl (by rw[t1 b nl];exact r)
  ·exact .inr ⟨o,by rw[t1 b nl];exact r⟩
 ·by_cases c:Hi b=none/\Hf b≠none
  ·obtain⟨ys,g⟩:=fl b c.1 c.2
   exact .inr ⟨ys,hs _ _ g⟩
  ·exact .inl (by rw[t1 b c] at z;exact z)
end
structure Gx where
 B:Hp
 Bi:Hp
 E:Str->Hp->Prop
abbrev kK(X:Cx)(G:Gx)(Hi H:Hp)(σ:St)(ρ:Rho):Prop:=Rel X.K X.mg G.B G.Bi Hi H σ ρ
def Out(G:Gx)(Hi H:Hp){α:Type}(r:Res α)(k:α->Hp->Hp->Prop):Prop:=match r with
 | .ok a=>∀ Hi' H',Ext Hi H Hi' H'->k a Hi' H'
 | .err c=>∀ Hi' H',Ext Hi H Hi' H'->G.E c H'
 | .no=>False
theorem Out.bind{G:Gx}{Hi H:Hp}{α β:Type}{r:Res α}{f:α->Res β}{k:β->Hp->Hp->Prop}(h:Out G Hi H (r.bind f) k):
  Out G Hi H r fun a Hi' H'=>Out G Hi' H' (f a) k:=by
 cases r with
 | no=>exact h
 | err c=>exact h
 | ok a=>
  intro Hi1 H1 e;have h':Out G Hi H (f a) k:=h;show Out G Hi1 H1 (f a) k
  cases q:f a with
  | no=>rw[q] at h';exact h'
  | err c=>rw[q] at h';exact fun Hi2 H2 e2=>h' _ _ (e.trans e2)
  | ok b=>rw[q] at h';exact fun Hi2 H2 e2=>h' _ _ (e.trans e2)
theorem Out.imp{G:Gx}{Hi H:Hp}{α:Type}{r:Res α}{k k':α->Hp->Hp->Prop}(h:Out G Hi H r k)(f:∀ a Hi' H',Ext Hi H Hi' H'->k a Hi' H'->k' a Hi' H'):Out G Hi H r k':=by
 cases r with
 | no=>exact h
 | err c=>exact h
 | ok a=>exact fun Hi1 H1 e=>f a Hi1 H1 e (h Hi1 H1 e)
theorem Out.here{G:Gx}{Hi H:Hp}{α:Type}{a:α}{k:α->Hp->Hp->Prop}(h:Out G Hi H (.ok a) k)(s:Same Hi H):k a Hi H:=h Hi H (Ext.refl s)
def tD(X:Cx)(G:Gx)(f:Ev):TE:=fun σ H Q=>∃ ρ Hi,kK X G Hi H σ ρ/\Out G Hi H (f ρ) fun d Hi' H'=>∀ v,IsD X.K Hi' v d->Q v H'
def zJj(K:PySem.W.Frag)(H Hi' H':Hp)(a:Addr)(ds:List D):Prop:=H a=none/\Hi' a=none/\∃ xs,H' a=some (.lst xs)/\IsDs K Hi' xs ds
def tF(X:Cx)(G:Gx)(f:Fv):TE:=fun σ H Q=>∃ ρ Hi,kK X G Hi H σ ρ/\Out G Hi H (f ρ) fun ds Hi' H'=>∀ a,zJj X.K H Hi' H' a ds->Q (.ref a) H'
def tTb(X:Cx)(G:Gx)(f:Tv):TT:=fun σ H Q=>∃ ρ Hi,kK X G Hi H σ ρ/\Out G Hi H (f ρ) fun b _ H'=>Q b H'
def tAs(X:Cx)(G:Gx)(f:Fv):TA:=fun σ H Q=>∃ ρ Hi,kK X G Hi H σ ρ/\Out G Hi H (f ρ) fun ds Hi' H'=>∀ vs,IsDs X.K Hi' vs ds->Q vs H'
def Fin(X:Cx)(G:Gx)(Hi:Hp)(E:Ends)(r:Res Fl):Prop:=match r with
 | .ok (.nx ρ')=>∀ σ' Hi' H',Same Hi Hi'->kK X G Hi' H' σ' ρ'->E.nx σ' H'
 | .ok (.brk ρ')=>∀ σ' Hi' H',Same Hi Hi'->kK X G Hi' H' σ' ρ'->E.bk σ' H'
 | .ok (.ctn ρ')=>∀ σ' Hi' H',Same Hi Hi'->kK X G Hi' H' σ' ρ'->E.ct σ' H'
 | .ok (.ret (.v d))=>∀ v Hi' H',Ext G.Bi G.B Hi' H'->IsD X.K Hi' v d->E.rt v H'
 | .ok (.ret (.f ds))=>∀ a Hi' H',Ext G.Bi G.B Hi' H'->zJj X.K G.B Hi' H' a ds->E.rt (.ref a) H'
 | .err c=>∀ Hi' H',Ext G.Bi G.B Hi' H'->G.E c H'
 | .no=>False
theorem Fin.mono{X:Cx}{G:Gx}{Hi Hi':Hp}{E:Ends}{r:Res Fl}(h:Fin X G Hi E r)(s:Same Hi Hi'):Fin X G Hi' E r:=by
 cases r with
 | no=>exact h
 | err c=>exact h
 | ok f=>
  cases f with
  | nx ρ=>exact fun σ' Hi2 H2 s2=>h σ' Hi2 H2 (s.trans s2)
  | brk ρ=>exact fun σ' Hi2 H2 s2=>h σ' Hi2 H2 (s.trans s2)
  | ctn ρ=>exact fun σ' Hi2 H2 s2=>h σ' Hi2 H2 (s.trans s2)
  | ret r=>cases r<;>exact h
def tS(X:Cx)(G:Gx)(f:Sv):TS:=fun E σ H=>∃ ρ Hi,kK X G Hi H σ ρ/\Fin X G Hi E (f ρ)
@[irreducible] def PEd (X:Cx) (G:Gx) (e:Expr) (f:Ev):Prop:=PE X e (tD X G f)
unseal PEd
@[irreducible] def PEf (X:Cx) (G:Gx) (e:Expr) (f:Fv):Prop:=PE X e (tF X G f)
unseal PEf
@[irreducible] def PTd (X:Cx) (G:Gx) (e:Expr) (f:Tv):Prop:=PT X e (tTb X G f)
unseal PTd
@[irreducible] def PWd (X:Cx) (G:Gx) (e:Expr) (f:Tv):Prop:=PW X e (tTb X G f)
unseal PWd
@[irreducible] def PAd (X:Cx) (G:Gx) (es:List Expr) (f:Fv):Prop:=PA X es (tAs X G f)
unseal PAd
@[irreducible] def PSd (X:Cx) (G:Gx) (s:Stmt) (f:Sv):Prop:=PS X s (tS X G f)
unseal PSd
@[irreducible] def dJ (X:Cx) (G:Gx) (s:List Stmt) (f:Sv):Prop:=PSs X s (tS X G f)
unseal dJ
theorem PE.wk{X:Cx}{e:Expr}{t t':TE}(h:PE X e t)(w:∀ σ H Q,t' σ H Q->t σ H Q):PE X e t':=fun pins s σ H Q I q=>h pins s σ H Q I (w σ H Q q)
theorem PT.wk{X:Cx}{e:Expr}{t t':TT}(h:PT X e t)(w:∀ σ H Q,t' σ H Q->t σ H Q):PT X e t':=fun pins s σ H Q I q=>h pins s σ H Q I (w σ H Q q)
theorem PW.wk{X:Cx}{e:Expr}{t t':TT}(h:PW X e t)(w:∀ σ H Q,t' σ H Q->t σ H Q):PW X e t':=fun wh pins s σ H Q I q=>h wh pins s σ H Q I (w σ H Q q)
theorem PA.wk{X:Cx}{es:List Expr}{t t':TA}(h:PA X es t)(w:∀ σ H Q,t' σ H Q->t σ H Q):PA X es t':=fun pos pins s σ H Q I q=>h pos pins s σ H Q I (w σ H Q q)
theorem PS.wk{X:Cx}{s:Stmt}{t t':TS}(h:PS X s t)(w:∀ E σ H,t' E σ H->t E σ H):PS X s t':=fun pins s σ H E I q=>h pins s σ H E I (w E σ H q)
theorem PSs.wk{X:Cx}{s:List Stmt}{t t':TS}(h:PSs X s t)(w:∀ E σ H,t' E σ H->t E σ H):PSs X s t':=fun pins s σ H E I q=>h pins s σ H E I (w E σ H q)
section
variable{X:Cx}{G:Gx}{a b e:Expr}{es:List Expr}{pos:Pos}{f g:Ev}
theorem zNQ(i:Nat)(h:PE X e (zDg i)):PEd X G e (aE i):=PE.wk h fun σ H Q q=>by
 obtain⟨ρ,Hi,R,o⟩:=q;unfold aE at o
 cases z:ρ[i]? with
 | none=>rw[z] at o;exact o.elim
 | some s=>
  rw[z] at o
  cases s with
  | val d=>
   obtain⟨v,p,r⟩:=R.slot i _ z;exact⟨v,p,o.here R.s v r⟩
  | un=>exact o.elim
  | own ds=>exact o.elim
  | exc c=>exact o.elim
  | tab T=>exact o.elim
theorem pG{v:V}{d:D}(h:PE X e (tC v))(r:∀ H,IsD X.K H v d):PEd X G e (eC d):=PE.wk h fun σ H Q q=>by
 obtain⟨ρ,Hi,R,o⟩:=q;exact o.here R.s v (r Hi)
theorem zDV{Hi H:Hp}{σ:St}{ρ:Rho}{β:Type}{k:D->Res β}{k':β->Hp->Hp->Prop}{Q:VK}(R:kK X G Hi H σ ρ)(o:Out G Hi H ((f ρ).bind k) k')
  (w:∀ v d Hi' H',Ext Hi H Hi' H'->kK X G Hi' H' σ ρ->IsD X.K Hi' v d->Out G Hi' H' (k d) k'->Q v H'):tD X G f σ H Q:=
 ⟨ρ,Hi,R,o.bind.imp fun d Hi' H' e q v r=>w v d Hi' H' e (R.grow e) r q⟩
def OpK(X:Cx)(r:R2)(o:Op2):Prop:=(∀ a b c,o a b≠.err c)/\∀(Hi H:Hp)(x y:V)(a b d:D)(Q:VK),Same Hi H->IsD X.K Hi x a->IsD X.K Hi y b->o a b=.ok d->
 (∀ v Hi' H',Ext Hi H Hi' H'->IsD X.K Hi' v d->Q v H')->r x y H Q
theorem op2{r:R2}{o:Op2}(k:OpK X r o):∀ σ H Q,tD X G (eOp o f g) σ H Q->tOp r (tD X G f) (tD X G g) σ H Q:=fun σ H Q q=>by
 obtain⟨ρ,Hi,R,ou⟩:=q;refine zDV R ou fun v d Hi1 H1 e1 R1 r1 o1=>?_
 refine zDV R1 o1 fun w d' Hi2 H2 e2 R2 r2 o2=>?_
 cases z:o d d' with
 | no=>rw[z] at o2;exact o2.elim
 | err c=>exact absurd z (k.1 d d' c)
 | ok u=>
  rw[z] at o2;exact k.2 Hi2 H2 v w d d' u Q R2.s (r1.mono e2.i) r2 z fun x Hi3 H3 e3 r3=>o2 Hi3 H3 e3 x r3
theorem aP{op:Operator}{r:R2}{o:Op2}(ho:OpR X (binaryOp op) r)(k:OpK X r o)(ha:PEd X G a f)(hb:PEd X G b g):PEd X G (.BinOp a op b pos) (eOp o f g):=PE.wk (zBd ho ha hb) (op2 k)
theorem zDx{op:CmpOp}{r:R2}{o:Op2}(ho:OpR X (compareOp op) r)(k:OpK X r o)(ha:PEd X G a f)(hb:PEd X G b g)(hm:behindInMarks op b=false):PEd X G (.Compare a [op] [b] pos) (eOp o f g):=PE.wk (zMl ho ha hb hm) (op2 k)
theorem zCM{r:R2}{o:Op2}(ho:IxR X r)(k:OpK X r o)(ha:PEd X G a f)(hb:PEd X G b g)(hs:zCl b):PEd X G (.Subscript a b pos) (eOp o f g):=PE.wk (zEm ho ha hb hs) (op2 k)
theorem tst{op:CmpOp}{r:R2}{o:Op2}(ho:OpR X (compareOp op) r)(k:OpK X r o)(ha:PEd X G a f)(hb:PEd X G b g)(hm:behindInMarks op b=false):PTd X G (.Compare a [op] [b] pos) (dL (eOp o f g)):=
 PT.wk (zCS ho ha hb hm) fun σ H Q q=>by
  obtain⟨ρ,Hi,R,ou⟩:=q;refine op2 k σ H _ ⟨ρ,Hi,R,ou.bind.imp fun d Hi' H' e o v r=>?_⟩
  cases d with
  | bl c=>rw[r.blI];exact⟨c,rfl,o.here e.s⟩
  | _=>exact o.elim
theorem zFk(h:PEd X G a f)(he:∀ whole,isTrue a X.env whole=(do let v <-whole;standAt a.pos;holding [v] (truthy v)):=by intro _;rfl):PTd X G a (dL f):=PT.wk (zOI h he) fun σ H Q q=>by
 obtain⟨ρ,Hi,R,ou⟩:=q;refine⟨ρ,Hi,R,ou.bind.imp fun d Hi' H' e o v r=>?_⟩
 cases d with
 | bl c=>rw[r.blI];exact⟨c,rfl,o.here e.s⟩
 | _=>exact o.elim
variable{t u:Tv}
theorem zPo{Hi H:Hp}{σ:St}{ρ:Rho}{β:Type}{k:Bool->Res β}{k':β->Hp->Hp->Prop}{Q:Bool->Hp->Prop}(R:kK X G Hi H σ ρ)(o:Out G Hi H ((t ρ).bind k) k')
  (w:∀ c Hi' H',Ext Hi H Hi' H'->kK X G Hi' H' σ ρ->Out G Hi' H' (k c) k'->Q c H'):tTb X G t σ H Q:=
 ⟨ρ,Hi,R,o.bind.imp fun d Hi' H' e q=>w d Hi' H' e (R.grow e) q⟩
theorem zQF(h:PTd X G a t):PTd X G (.UnaryOp .Not a pos) (zLZ t):=PT.wk (zOZ h) fun σ H Q q=>by
 obtain⟨ρ,Hi,R,ou⟩:=q;exact zPo R ou fun c Hi1 H1 e1 R1 o1=>o1.here R1.s
theorem zFX(h:PTd X G a t):PWd X G (.BoolOp .And [a] pos) t:=zMq h
theorem zAW(h:PTd X G a t):PWd X G (.BoolOp .Or [a] pos) t:=zME h
theorem zKQ{rest:List Expr}(ha:PTd X G a t)(hb:PWd X G (.BoolOp .And (b::rest) pos) u):PWd X G (.BoolOp .And (a::b::rest) pos) (zEK t u):=PW.wk (zNT ha hb) fun σ H Q q=>by
 obtain⟨ρ,Hi,R,ou⟩:=q;refine zPo R ou fun c Hi1 H1 e1 R1 o1=>?_
 cases c with
 | true=>exact⟨ρ,Hi1,R1,o1⟩
 | false=>exact o1.here R1.s
theorem zId{rest:List Expr}(ha:PTd X G a t)(hb:PWd X G (.BoolOp .Or (b::rest) pos) u):PWd X G (.BoolOp .Or (a::b::rest) pos) (zEX t u):=PW.wk (zQe ha hb) fun σ H Q q=>by
 obtain⟨ρ,Hi,R,ou⟩:=q;refine zPo R ou fun c Hi1 H1 e1 R1 o1=>?_
 cases c with
 | true=>exact o1.here R1.s
 | false=>exact⟨ρ,Hi1,R1,o1⟩
theorem PWd.pt{e:Expr}(h:PWd X G e t):PTd X G e t:=PW.pt h
theorem zPd{op}(h:PEd X G a f):PEd X G (.BoolOp op [a] pos) f:=zNo h
theorem zPr{rest:List Expr}(ha:PEd X G a f)(hb:PEd X G (.BoolOp .Or (b::rest) pos) g):PEd X G (.BoolOp .Or (a::b::rest) pos) (eOr f g):=PE.wk (zPs ha hb) fun σ H Q q=>by
 obtain⟨ρ,Hi,R,ou⟩:=q;refine zDV R ou fun v d Hi1 H1 e1 R1 r1 o1=>?_
 cases d with
 | bl c=>
  refine⟨c,r1.blI,?_⟩
  cases c with
  | true=>exact o1.here R1.s _ (.bl true)
  | false=>exact⟨ρ,Hi1,R1,o1⟩
 | _=>exact o1.elim
theorem zFz(ha:PEd X G a f):PEd X G (.UnaryOp .USub a pos) (eUn zOE f):=PE.wk (zPQ zNp ha) fun σ H Q q=>by
 obtain⟨ρ,Hi,R,ou⟩:=q;refine zDV R ou fun v d Hi1 H1 e1 R1 r1 o1=>?_
 cases d with
 | int c=>exact⟨c,r1.intI,o1.here R1.s _ (.int _)⟩
 | _=>exact o1.elim
theorem zLt{c:Expr}(hc:PTd X G c t)(ha:PEd X G a f)(hb:PEd X G b g):PEd X G (.IfExp c a b pos) (eIf t f g):=PE.wk (zJd hc ha hb) fun σ H Q q=>by
 obtain⟨ρ,Hi,R,ou⟩:=q;refine zPo R ou fun c Hi1 H1 e1 R1 o1=>?_
 cases c with
 | true=>exact⟨ρ,Hi1,R1,o1⟩
 | false=>exact⟨ρ,Hi1,R1,o1⟩
variable{fs:Fv}
theorem aK:PAd X G [] aNil:=PA.wk nH fun σ H Q q=>by
 obtain⟨ρ,Hi,R,ou⟩:=q;exact ou.here R.s [] .nil
theorem aA(ha:PEd X G e f)(hr:PAd X G es fs)(hs:starEach (e::es) X.env=(false,eval e X.env)::starEach es X.env:=by rfl):PAd X G (e::es) (aB f fs):=PA.wk (jK ha hr hs) fun σ H Q q=>by
 obtain⟨ρ,Hi,R,ou⟩:=q;refine zDV R ou fun v d Hi1 H1 e1 R1 r1 o1=>?_
 refine⟨ρ,Hi1,R1,o1.bind.imp fun ds Hi2 H2 e2 o2 vs rs=>?_⟩
 exact o2.here e2.s _ (.cons (r1.mono e2.i) rs)
theorem zIj{Hi H:Hp}{σ:St}{ρ:Rho}{β:Type}{k:List D->Res β}{k':β->Hp->Hp->Prop}{Q:List V->Hp->Prop}(R:kK X G Hi H σ ρ)(o:Out G Hi H ((fs ρ).bind k) k')
  (w:∀ vs ds Hi' H',Ext Hi H Hi' H'->kK X G Hi' H' σ ρ->IsDs X.K Hi' vs ds->Out G Hi' H' (k ds) k'->Q vs H'):tAs X G fs σ H Q:=
 ⟨ρ,Hi,R,o.bind.imp fun d Hi' H' e q v r=>w v d Hi' H' e (R.grow e) r q⟩
theorem eQ{x1}(h:PAd X G es fs):PEd X G (.Tuple es x1 pos) (qX fs):=PE.wk (zNO h) fun σ H Q q=>by
 obtain⟨ρ,Hi,R,ou⟩:=q;refine zIj R ou fun vs ds Hi1 H1 e1 R1 r1 o1=>?_
 by_cases hz:ds.length<=16777216
 ·rw[if_pos hz] at o1
  refine⟨by rw[r1.length];exact hz,fun p hp=>?_⟩
  exact o1 _ _ (Ext.new R1.s hp) (.ref p) (.tup (SqT.of aS) (r1.mono (cA (R1.s.none hp) _)))
 ·rw[if_neg hz] at o1;exact o1.elim
theorem cX(h:PAd X G es fs):PEf X G (.List es pos) (nQ fs):=PE.wk (zNc h) fun σ H Q q=>by
 obtain⟨ρ,Hi,R,ou⟩:=q;refine zIj R ou fun vs ds Hi1 H1 e1 R1 r1 o1=>?_
 by_cases hz:ds.length<=16777216
 ·rw[if_pos hz] at o1
  refine⟨by rw[r1.length];exact hz,fun p hp=>?_⟩
  exact o1 _ _ (Ext.newF R1.s hp) p ⟨e1.h.none hp,R1.s.none hp,vs,aS,r1⟩
 ·rw[if_neg hz] at o1;exact o1.elim
theorem PEf.d(h:PEf X G e fs):PEd X G e (eF fs):=PE.wk h fun σ H Q q=>by
 obtain⟨ρ,Hi,R,ou⟩:=q;refine⟨ρ,Hi,R,?_⟩
 cases z:fs ρ with
 | no=>unfold eF at ou;rw[z] at ou;exact ou
 | err c=>unfold eF at ou;rw[z] at ou;exact ou
 | ok ds=>
  unfold eF at ou;rw[z] at ou
  intro Hi1 H1 e1 a n;obtain⟨n1,n2,xs,n3,n4⟩:=n;have ou':∀ Hi' H',Ext Hi H Hi' H'->∀ v,IsD X.K Hi' v (.lst ds)->Q v H':=ou;exact ou' _ _ (e1.hold n1 n3 n2) (.ref a) (.lst (SqL.of aS) (n4.mono (cA n2 _)))
theorem PEd.frz(h:PEd X G e f):PEd X G e (zDE f):=PE.wk h fun σ H Q q=>by
 obtain⟨ρ,Hi,R,ou⟩:=q;obtain⟨Hf,s1,R1,fl⟩:=R.frz;refine⟨ρ.map Sl.frz,Hf,R1,?_⟩
 unfold zDE at ou
 cases z:f (ρ.map Sl.frz) with
 | no=>rw[z] at ou;exact ou
 | err c=>
  rw[z] at ou;intro Hi1 H1 e1;have ou':∀ Hi' H',Ext Hi H Hi' H'->G.E c H':=ou;obtain⟨Ht,e2,k,s2,n⟩:=Ext.thaw s1 fl R1.s e1;exact ou' Ht H1 e2
 | ok d=>
  rw[z] at ou;by_cases hz:noL d=true
  ·have ou':Out G Hi H (if noL d=true then Res.ok d else .no) _:=ou
   rw[if_pos hz] at ou';intro Hi1 H1 e1 v r;obtain⟨Ht,e2,k,s2,n⟩:=Ext.thaw s1 fl R1.s e1;exact ou' Ht H1 e2 v (r.noL k hz)
  ·have ou':Out G Hi H (if noL d=true then Res.ok d else .no) _:=ou
   rw[if_neg hz] at ou';exact ou'.elim
end
end L3
namespace L3
open PySem PySem.Spec PyProof.Rows L2
unseal PEd PEf PTd PWd PAd PSd dJ
section
variable{X:Cx}{G:Gx}{a b e:Expr}{es:List Expr}{pos:Pos}{f g:Ev}{fs:Fv}{t u:Tv}
theorem PEf.frz(h:PEf X G e fs):PEf X G e (zOa fs):=PE.wk h fun σ H Q q=>by
 obtain⟨ρ,Hi,R,ou⟩:=q;obtain⟨Hf,s1,R1,fl⟩:=R.frz;refine⟨ρ.map Sl.frz,Hf,R1,?_⟩
 unfold zOa at ou
 cases z:fs (ρ.map Sl.frz) with
 | no=>rw[z] at ou;exact ou
 | err c=>
  rw[z] at ou;intro Hi1 H1 e1;have ou':∀ Hi' H',Ext Hi H Hi' H'->G.E c H':=ou;obtain⟨Ht,e2,k,s2,n⟩:=Ext.thaw s1 fl R1.s e1;exact ou' Ht H1 e2
 | ok ds=>
  rw[z] at ou;have ou':Out G Hi H (if noLs ds=true then Res.ok ds else .no) _:=ou;by_cases hz:noLs ds=true
  ·rw[if_pos hz] at ou'
   intro Hi1 H1 e1 a n;obtain⟨n1,n2,xs,n3,n4⟩:=n;obtain⟨Ht,e2,k,s2,_⟩:=Ext.thaw s1 fl R1.s e1;exact ou' Ht H1 e2 a ⟨n1,s2.none n2,xs,n3,n4.noL k hz⟩
  ·rw[if_neg hz] at ou';exact ou'.elim
theorem OpR.or{o:Value->Value->Sem Value}{r r':R2}(h:OpR X o r)(h':OpR X o r'):OpR X o (fun x y H Q=>r x y H Q∨r' x y H Q):=by
 intro pins s σ H x y v u Q I rx ry q;rcases q with q | q
 ·exact h pins s σ H x y v u Q I rx ry q
 ·exact h' pins s σ H x y v u Q I rx ry q
theorem zOF{o:Op2}{h:Int->Int->Int}(hi:∀ i j,o (.int i) (.int j)=.ok (.int (h i j)))(hn:∀ a b d,o a b=.ok d->∃ i j,a=.int i/\b=.int j)(he:∀ a b c,o a b≠.err c):OpK X (rI0 fun i j=>.int (h i j)) o:=
 ⟨he,fun Hi H x y a b d Q s r1 r2 z q=>by
  obtain⟨i,j,rfl,rfl⟩:=hn a b d z;rw[hi] at z;cases z
  exact⟨i,j,r1.intI,r2.intI,q _ Hi H (Ext.refl s) (.int _)⟩⟩
theorem zHC{o:Op2}{h:Int->Int->Bool}(hi:∀ i j,o (.int i) (.int j)=.ok (.bl (h i j)))(hn:∀ a b d,o a b=.ok d->∃ i j,a=.int i/\b=.int j)(he:∀ a b c,o a b≠.err c):OpK X (rI0 fun i j=>.bl (h i j)) o:=
 ⟨he,fun Hi H x y a b d Q s r1 r2 z q=>by
  obtain⟨i,j,rfl,rfl⟩:=hn a b d z;rw[hi] at z;cases z
  exact⟨i,j,r1.intI,r2.intI,q _ Hi H (Ext.refl s) (.bl _)⟩⟩
theorem zMd:OpK X (rI0 fun i j=>.int (i-j)) zBS:=zOF (fun _ _=>rfl) (fun a b d z=>by unfold zBS at z;split at z<;>first | exact⟨_,_,rfl,rfl⟩ | cases z) (fun a b c z=>by unfold zBS at z;split at z<;>cases z)
theorem zGJ:OpK X (rI0 fun i j=>.bl (decide (i<j))) oLt:=zHC (fun _ _=>rfl) (fun a b d z=>by unfold oLt at z;split at z<;>first | exact⟨_,_,rfl,rfl⟩ | cases z) (fun a b c z=>by unfold oLt at z;split at z<;>cases z)
theorem zIf:OpK X (rI0 fun i j=>.bl (decide (j<i))) oGt:=zHC (fun _ _=>rfl) (fun a b d z=>by unfold oGt at z;split at z<;>first | exact⟨_,_,rfl,rfl⟩ | cases z) (fun a b c z=>by unfold oGt at z;split at z<;>cases z)
theorem zPi:OpK X (rI0 fun i j=>.bl (decide (j<=i))) oGe:=zHC (fun _ _=>rfl) (fun a b d z=>by unfold oGe at z;split at z<;>first | exact⟨_,_,rfl,rfl⟩ | cases z) (fun a b c z=>by unfold oGe at z;split at z<;>cases z)
theorem zJf{o:Op2}{C:Int->Int->Prop}{h:Int->Int->Int}(hn:∀ a b d,o a b=.ok d->∃ i j,a=.int i/\b=.int j/\C i j/\d=.int (h i j))(he:∀ a b c,o a b≠.err c):OpK X (rI C fun i j=>.int (h i j)) o:=
 ⟨he,fun Hi H x y a b d Q s r1 r2 z q=>by
  obtain⟨i,j,rfl,rfl,hc,rfl⟩:=hn a b d z
  exact⟨i,j,r1.intI,r2.intI,hc,q _ Hi H (Ext.refl s) (.int _)⟩⟩
def zMA(i j:Int):Prop:=iP i j=true
theorem cS:OpR X (binaryOp .Mult) (rI zMA fun i j=>.int (i*j)):=opI fun i j _ _ _ _ _ hc q=>by
 have hc':iP i j=true:=hc;unfold iP at hc';simp only[Vz,Vj,decide_eq_true_eq] at hc';rcases hc' with (⟨h1,h2⟩ | ⟨h1,h2⟩) | h
 ·exact mul_int q (zPk.ok (.inl ⟨h1,h2⟩))
 ·exact mul_int q (zPk.ok (.inr ⟨h1,h2⟩))
 ·exact mul_int q (PySem.IntMulOk.of_le (Uz.mpr (zLh i)) (Uz.mpr (zLh j)) h)
def zMB(_ j:Int):Prop:=lA j=true
theorem bS:OpR X (binaryOp .FloorDiv) (rI zMB fun i j=>.int (i.fdiv j)):=opI fun i j _ _ _ _ _ hc q=>by
 have hc':lA j=true:=hc;unfold lA at hc';simp only[Vj,decide_eq_true_eq] at hc';refine floordiv_int hc'.1 q (.inl (PyProof.noPylong_of_log2 ?_))
 have h2:=hc'.2;unfold nb at h2;omega
def zMz(i j:Int):Prop:=qY i j=true
theorem iE:OpR X (binaryOp .Pow) (rI zMz fun i j=>.int (i^j.toNat)):=opI fun i j _ _ _ _ _ hc q=>by
 have hc':qY i j=true:=hc;unfold qY at hc';simp only[Vj,decide_eq_true_eq] at hc';refine pow_int hc'.1 (Xp (Int.mul_le_mul_of_nonneg_right ?_ hc'.1) hc'.2) q
 have:=Uz.mpr (zLh i)
 omega
theorem jJ:OpK X (rI zMA fun i j=>.int (i*j)) qA:=zJf (fun a b d z=>by
 unfold qA at z;split at z
 case h_2=>cases z
 rename_i i j
 have z':(if iP i j=true then Res.ok (D.int (i*j)) else .no)=.ok d:=z;by_cases h:iP i j=true
 ·rw[if_pos h] at z';cases z';exact⟨i,j,rfl,rfl,h,rfl⟩
 ·rw[if_neg h] at z';cases z') (fun a b c z=>by
 unfold qA at z;split at z
 case h_2=>cases z
 rename_i i j
 have z':(if iP i j=true then Res.ok (D.int (i*j)) else .no)=.err c:=z;by_cases h:iP i j=true
 ·rw[if_pos h] at z';cases z'
 ·rw[if_neg h] at z';cases z')
theorem fR:OpK X (rI zMB fun i j=>.int (i.fdiv j)) lY:=zJf (fun a b d z=>by
 unfold lY at z;split at z
 case h_2=>cases z
 rename_i i j
 have z':(if lA j=true then Res.ok (D.int (i.fdiv j)) else .no)=.ok d:=z;by_cases h:lA j=true
 ·rw[if_pos h] at z';cases z';exact⟨i,j,rfl,rfl,h,rfl⟩
 ·rw[if_neg h] at z';cases z') (fun a b c z=>by
 unfold lY at z;split at z
 case h_2=>cases z
 rename_i i j
 have z':(if lA j=true then Res.ok (D.int (i.fdiv j)) else .no)=.err c:=z;by_cases h:lA j=true
 ·rw[if_pos h] at z';cases z'
 ·rw[if_neg h] at z';cases z')
theorem eD:OpK X (rI (fun _ j=>j≠0) fun i j=>.int (i.fmod j)) jZ:=zJf (fun a b d z=>by
 unfold jZ at z;split at z
 case h_2=>cases z
 rename_i i j
 have z':(if j≠0 then Res.ok (D.int (i.fmod j)) else .no)=.ok d:=z;by_cases h:j≠0
 ·rw[if_pos h] at z';cases z';exact⟨i,j,rfl,rfl,h,rfl⟩
 ·rw[if_neg h] at z';cases z') (fun a b c z=>by
 unfold jZ at z;split at z
 case h_2=>cases z
 rename_i i j
 have z':(if j≠0 then Res.ok (D.int (i.fmod j)) else .no)=.err c:=z;by_cases h:j≠0
 ·rw[if_pos h] at z';cases z'
 ·rw[if_neg h] at z';cases z')
theorem uC:OpK X (rI zMz fun i j=>.int (i^j.toNat)) zBy:=zJf (fun a b d z=>by
 unfold zBy at z;split at z
 case h_2=>cases z
 rename_i i j
 have z':(if qY i j=true then Res.ok (D.int (i^j.toNat)) else .no)=.ok d:=z;by_cases h:qY i j=true
 ·rw[if_pos h] at z';cases z';exact⟨i,j,rfl,rfl,h,rfl⟩
 ·rw[if_neg h] at z';cases z') (fun a b c z=>by
 unfold zBy at z;split at z
 case h_2=>cases z
 rename_i i j
 have z':(if qY i j=true then Res.ok (D.int (i^j.toNat)) else .no)=.err c:=z;by_cases h:qY i j=true
 ·rw[if_pos h] at z';cases z'
 ·rw[if_neg h] at z';cases z')
def zNR(K:PySem.W.Frag):R2:=fun x y H Q=>∃ a b ys,x=.ref a/\y=.ref b/\SqT K H a []/\SqT K H b ys/\Q (.ref b) H
theorem zLq:OpR X (binaryOp .Add) (zNR X.K):=by
 intro pins s σ H x y v u Q I rx ry h;obtain⟨a,b,ys,rfl,rfl,ha,hb,q⟩:=h;cases rx;cases ry;obtain⟨its,r1,p1,_⟩:=I.tuple ha;obtain⟨its2,r2,p2,_⟩:=I.tuple hb;cases r1;obtain⟨⟨c1,d1,t1,s1⟩,ho1,hc1,n1,hd1⟩:=id p1;obtain⟨⟨c2,d2,t2,s2⟩,ho2,hc2,n2,hd2⟩:=id p2;simp only at hc1 hd1 hc2 hd2
 subst hc1 hd1 hc2 hd2;exact concat_meets ⟨_,ho1,rfl⟩ ⟨_,ho2,rfl⟩ noFill_tuple_add seq_tuple_add Uo Uq (Ur _ _) (tuple_addW0 a b #[] its2.toArray n1 n2 d1 d2 s1 s2 rfl) ⟨ho1,ho2,⟨.ref b,H,I,rfl,q⟩⟩
def zOn(K:PySem.W.Frag):R2:=fun x y H Q=>rI0 (fun i j=>.int (i+j)) x y H Q∨(zOR K x y H Q∨zNR K x y H Q)
theorem cI:OpR X (binaryOp .Add) (zOn X.K):=OpR.or zMJ (OpR.or zMk zLq)
theorem iK:OpK X (zOn X.K) nZ:=⟨fun a b c z=>(by
  unfold nZ at z;split at z
  case h_1=>cases z
  case h_3=>cases z
  rename_i as bs
  have z':(if as.length+bs.length<=16777216 then Res.ok (D.tup (as++bs)) else .no)=.err c:=z
  split at z'<;>cases z'),fun Hi H x y a b d Q s r1 r2 z q=>by
  unfold nZ at z;split at z
  case h_3=>cases z
  ·cases z
   exact .inl ⟨_,_,r1.intI,r2.intI,q _ Hi H (Ext.refl s) (.int _)⟩
  ·rename_i as bs
   have z':(if as.length+bs.length<=16777216 then Res.ok (D.tup (as++bs)) else .no)=.ok d:=z;split at z'
   ·rename_i hz
    cases z'
    obtain⟨p,xs,rfl,h1,i1⟩:=r1.tupI;obtain⟨p',ys,rfl,h2,i2⟩:=r2.tupI;by_cases h0:as.length=0
    ·have e0:as=[]:=U0 h0
     subst e0;cases i1;exact .inr (.inr ⟨p,p',ys,rfl,rfl,bV s h1,bV s h2,q _ Hi H (Ext.refl s) (.tup h2 i2)⟩)
    refine .inr (.inl ⟨p,p',xs,ys,rfl,rfl,bV s h1,bV s h2,fun e=>h0 (by rw[<-i1.length,e];rfl),by rw[i1.length,i2.length];exact hz,fun e=>?_,fun _ l hl=>?_⟩)
    ·subst e
     cases i2;rw[Q3] at q;exact q _ Hi H (Ext.refl s) (.tup h1 i1)
    ·exact q _ _ _ (Ext.new s hl) (.tup (SqT.of aS) ((i1.append i2).mono (cA (s.none hl) _)))
   ·cases z'⟩
theorem zKM{α:Type}{xs:List α}{i:Int}{v:α}(h0:i<0)(h1:0<=(xs.length:Int)+i)(h:xs[((xs.length:Int)+i).toNat]?=some v):atI xs i=some v:=by
 have e:ixN xs.length i=some ((xs.length:Int)+i).toNat:=by
  unfold ixN;rw[if_neg (by omega),if_pos (by omega)];congr 2
  omega
 unfold atI;rw[e];exact h
theorem zHc{K:Fg_}{H:Hp}{xs:List V}{ds:List D}{i:Int}{d:D}(h:IsDs K H xs ds)(e:atD ds i=some d):∃ v,atI xs i=some v/\IsD K H v d:=by
 unfold atD at e;by_cases h0:0<=i
 ·rw[if_pos h0] at e
  obtain⟨v,hv,r⟩:=h.at e;refine⟨v,?_,r⟩
  have:=zBU hv
  rw[show((i.toNat:Nat):Int)=i by omega] at this;exact this
 ·rw[if_neg h0] at e
  by_cases h1:0<=(ds.length:Int)+i
  ·rw[if_pos h1] at e
   obtain⟨v,hv,r⟩:=h.at e;refine⟨v,?_,r⟩
   have hl:=h.length;have e2:((ds.length:Int)+i).toNat=((xs.length:Int)+i).toNat:=by rw[hl]
   rw[e2] at hv;exact zKM (by omega) (by omega) hv
  ·rw[if_neg h1] at e;cases e
theorem zKx:OpK X (fun x y H Q=>zPp X.K x y H Q∨zPg X.K x y H Q) oIx:=⟨fun a b c z=>(by
  unfold oIx at z;split at z
  case h_3=>cases z
  ·rename_i ds i
   have z':ofO (atD ds i)=Res.err c:=z;cases q:atD ds i<;>rw[q] at z'<;>cases z'
  ·rename_i ds i
   have z':ofO (atD ds i)=Res.err c:=z
   cases q:atD ds i<;>rw[q] at z'<;>cases z'),fun Hi H x y a b d Q s r1 r2 z q=>by
  unfold oIx at z;split at z
  case h_3=>cases z
  ·rename_i ds i
   have z':ofO (atD ds i)=Res.ok d:=z
   cases w:atD ds i with
   | none=>rw[w] at z';cases z'
   | some d'=>
    rw[w] at z';cases z'
    obtain⟨p,xs,rfl,h1,i1⟩:=r1.tupI;obtain⟨v,hv,r⟩:=zHc i1 w;exact .inr ⟨p,xs,i,v,rfl,r2.intI,bV s h1,hv,q v Hi H (Ext.refl s) r⟩
  ·rename_i ds i
   have z':ofO (atD ds i)=Res.ok d:=z
   cases w:atD ds i with
   | none=>rw[w] at z';cases z'
   | some d'=>
    rw[w] at z';cases z'
    obtain⟨p,xs,rfl,h1,i1⟩:=r1.lstI;obtain⟨v,hv,r⟩:=zHc i1 w
    exact .inl ⟨p,xs,i,v,rfl,r2.intI,cH s h1,hv,q v Hi H (Ext.refl s) r⟩⟩
theorem iM:IxR X (fun x y H Q=>zPp X.K x y H Q∨zPg X.K x y H Q):=zLl.or zNZ
end
section
variable{X:Cx}{pins:List (Addr×Obj)}{σ:St}{H:Hp}{s:Shared}
mutual
theorem IsD.inj(I:Inv X pins σ H s):∀ {v:V} {d e:D},IsD X.K H v d->IsD X.K H v e->d=e
 | _,_,_,.non,h=>by cases h;rfl
 | _,_,_,.bl b,h=>by cases h;rfl
 | _,_,_,.int i,h=>by cases h;rfl
 | _,_,_,.str x,h=>by cases h;rfl
 | _,_,_,.tup h hs,h2=>by
  cases h2 with
  | tup h' hs'=>
   have e:=I.tuple_inj h h';subst e;rw[IsDs.inj I hs hs']
  | lst h' hs'=>
   exfalso
   obtain⟨_,_,⟨o,e,c,_⟩,_⟩:=I.tuple h;obtain⟨_,_,⟨o',n',e',c',_⟩,_⟩:=I.list h';rw[e] at e';cases e';rw[c] at c';exact absurd c' (by decide)
 | _,_,_,.lst h hs,h2=>by
  cases h2 with
  | lst h' hs'=>
   have e:=I.list_inj h h';subst e;rw[IsDs.inj I hs hs']
  | tup h' hs'=>
   exfalso
   obtain⟨_,_,⟨o,e,c,_⟩,_⟩:=I.tuple h';obtain⟨_,_,⟨o',n',e',c',_⟩,_⟩:=I.list h;rw[e] at e';cases e';rw[c] at c';exact absurd c' (by decide)
theorem IsDs.inj(I:Inv X pins σ H s):∀ {vs:List V} {ds es:List D},IsDs X.K H vs ds->IsDs X.K H vs es->ds=es
 | _,_,_,.nil,h=>by cases h;rfl
 | _,_,_,.cons h hs,h2=>by
  cases h2 with
  | cons h' hs'=>rw[IsD.inj I h h',IsDs.inj I hs hs']
end
theorem zGQ{α:Type}{l:List α}{j:Nat}{x d:α}(h:l[j]?=some x):l.getD j d=x:=by
 rw[Qq,h];rfl
theorem mI{A:Around}{xs xs':List V}{ds ds':List D}{its its':List Value}(hs:IsDs X.K H xs ds)(hs':IsDs X.K H xs' ds')(rv:dH xs its)(rv':dH xs' its')
  (rc:∀(d d':D)(v v':V)(u u':Value),d∈ds->IsD X.K H v d->IsD X.K H v' d'->cV v u->cV v' u'->SeqAt.EqAt A s u u' (eqD d d'))
  (j:Nat) (g1:j<its.toArray.size) (g2:j<its'.toArray.size):SeqAt.EqAt A s its.toArray[j] its'.toArray[j] (eqD (ds.getD j .non) (ds'.getD j .non)):=by
 have g1':j<its.length:=by simpa using g1
 have g2':j<its'.length:=by simpa using g2
 have l1:its.length=ds.length:=by rw[<-rv.length,hs.length]
 have l2:its'.length=ds'.length:=by rw[<-rv'.length,hs'.length]
 obtain⟨d,hd⟩:∃ d,ds[j]?=some d:=⟨_,Qk (by omega)⟩
 obtain⟨d',hd'⟩:∃ d,ds'[j]?=some d:=⟨_,Qk (by omega)⟩
 obtain⟨v,hv,iv⟩:=hs.at hd;obtain⟨v',hv',iv'⟩:=hs'.at hd';obtain⟨w1,hw,rw1⟩:=rv.get hv;obtain⟨w2,hw',rw2⟩:=rv'.get hv'
 have e1:its.toArray[j]=w1:=by
  rw[Qk g1'] at hw;simpa using hw
 have e2:its'.toArray[j]=w2:=by
  rw[Qk g2'] at hw';simpa using hw'
 rw[e1,e2,zGQ hd,zGQ hd'];exact rc d d' v v' w1 w2 (Qg hd) iv iv' rw1 rw2
theorem iG{ds ds':List D}(h:ds.length=ds'.length):((List.range ds.length).all fun j=>eqD (ds.getD j .non) (ds'.getD j .non))=wP ds ds':=by
 rw[mU,<-h,Yg];simp
theorem yT{ds ds':List D}(h:ds.length≠ds'.length):wP ds ds'=false:=by
 rw[mU];simp[h]
theorem zBo(I:Inv X pins σ H s){A:Around}{v v':V}{d d':D}{u u':Value}(h1:IsD X.K H v d)(h2:IsD X.K H v' d')(r1:cV v u)(r2:cV v' u')(hu:A.units<cLine)
  (rc:∀ ds,(d=.tup ds∨d=.lst ds)->∀(e e':D)(w w':V)(z z':Value),e∈ds->IsD X.K H w e->IsD X.K H w' e'->cV w z->cV w' z'->SeqAt.EqAt A.in1 s z z' (eqD e e')):
  SeqAt.EqAt A s u u' (eqD d d'):=by
 cases h1 with
 | non=>
  cases (show u=Value.none from r1)
  cases h2 with
  | non=>cases (show u'=Value.none from r2);exact SeqAt.EqAt.same _
  | bl b=>cases (show u'=Value.bool _ from r2);exact SeqAt.EqAt.none_bool _
  | int i=>obtain⟨t,rfl⟩:=r2;exact SeqAt.EqAt.none_int _ _
  | str x=>obtain⟨t,rfl⟩:=r2;exact SeqAt.EqAt.none_str _ _
  | tup h hs=>cases (show u'=Value.ref _ from r2);obtain⟨its,rv,p,hz⟩:=I.tuple h;exact SeqAt.EqAt.none_tuple (show s.heap.IsTuple _ its.toArray from p) hu
  | lst h hs=>cases (show u'=Value.ref _ from r2);obtain⟨its,rv,p,hz⟩:=I.list h;exact SeqAt.EqAt.none_list p.isList hu
 | bl b=>
  cases (show u=Value.bool _ from r1)
  cases h2 with
  | non=>cases (show u'=Value.none from r2);exact SeqAt.EqAt.bool_none _
  | bl b=>cases (show u'=Value.bool _ from r2);exact SeqAt.EqAt.bool_bool _ _
  | int i=>obtain⟨t,rfl⟩:=r2;exact SeqAt.EqAt.bool_int _ _ _
  | str x=>obtain⟨t,rfl⟩:=r2;exact SeqAt.EqAt.bool_str _ _ _
  | tup h hs=>cases (show u'=Value.ref _ from r2);obtain⟨its,rv,p,hz⟩:=I.tuple h;exact SeqAt.EqAt.bool_tuple _ (show s.heap.IsTuple _ its.toArray from p) hu
  | lst h hs=>cases (show u'=Value.ref _ from r2);obtain⟨its,rv,p,hz⟩:=I.list h;exact SeqAt.EqAt.bool_list _ p.isList hu
 | int i=>
  obtain⟨t,rfl⟩:=r1
  cases h2 with
  | non=>cases (show u'=Value.none from r2);exact SeqAt.EqAt.int_none _ _
  | bl b=>cases (show u'=Value.bool _ from r2);exact SeqAt.EqAt.int_bool _ _ _
  | int i=>obtain⟨t,rfl⟩:=r2;exact SeqAt.EqAt.int_int _ _ _ _
  | str x=>obtain⟨t,rfl⟩:=r2;exact SeqAt.EqAt.int_str _ _ _ _
  | tup h hs=>cases (show u'=Value.ref _ from r2);obtain⟨its,rv,p,hz⟩:=I.tuple h;exact SeqAt.EqAt.int_tuple _ _ (show s.heap.IsTuple _ its.toArray from p) hu
  | lst h hs=>cases (show u'=Value.ref _ from r2);obtain⟨its,rv,p,hz⟩:=I.list h;exact SeqAt.EqAt.int_list _ _ p.isList hu
 | str x=>
  obtain⟨t,rfl⟩:=r1
  cases h2 with
  | non=>cases (show u'=Value.none from r2);exact SeqAt.EqAt.str_none _ _
  | bl b=>cases (show u'=Value.bool _ from r2);exact SeqAt.EqAt.str_bool _ _ _
  | int i=>obtain⟨t,rfl⟩:=r2;exact SeqAt.EqAt.str_int _ _ _ _
  | str x=>obtain⟨t,rfl⟩:=r2;exact SeqAt.EqAt.str_str _ _ _ _
  | tup h hs=>cases (show u'=Value.ref _ from r2);obtain⟨its,rv,p,hz⟩:=I.tuple h;exact SeqAt.EqAt.str_tuple _ _ (show s.heap.IsTuple _ its.toArray from p) hu
  | lst h hs=>cases (show u'=Value.ref _ from r2);obtain⟨its,rv,p,hz⟩:=I.list h;exact SeqAt.EqAt.str_list _ _ p.isList hu
 | @tup a xs ds h hs=>
  cases (show u=Value.ref a from r1)
  obtain⟨its,rv,p,hz⟩:=I.tuple h
  cases h2 with
  | non=>cases (show u'=Value.none from r2);exact SeqAt.EqAt.tuple_none (show s.heap.IsTuple _ its.toArray from p) hu
  | bl b=>cases (show u'=Value.bool _ from r2);exact SeqAt.EqAt.tuple_bool _ (show s.heap.IsTuple _ its.toArray from p) hu
  | int i=>obtain⟨t,rfl⟩:=r2;exact SeqAt.EqAt.tuple_int _ _ (show s.heap.IsTuple _ its.toArray from p) hu
  | str x=>obtain⟨t,rfl⟩:=r2;exact SeqAt.EqAt.tuple_str _ _ (show s.heap.IsTuple _ its.toArray from p) hu
  | @tup a' xs' ds' h' hs'=>
   cases (show u'=Value.ref a' from r2)
   by_cases e:a=a'
   ·subst e
    have e:=I.tuple_inj h h';subst e;have e:=IsDs.inj I hs hs';subst e;rw[mM];exact SeqAt.EqAt.same _
   ·obtain⟨its',rv',p',hz'⟩:=I.tuple h'
    have l1:its.toArray.size=ds.length:=by rw[Qh,<-rv.length,hs.length]
    have l2:its'.toArray.size=ds'.length:=by rw[Qh,<-rv'.length,hs'.length]
    have key:=SeqAt.RcAt.tuples (A:=A) (s:=s) (show s.heap.IsTuple a its.toArray from p) (show s.heap.IsTuple a' its'.toArray from p') hu
     (mI (A:=A.in1) (s:=s) hs hs' rv rv' fun d d' v v' u u' hm iv iv' r r'=>rc ds (.inl rfl) d d' v v' u u' hm iv iv' r r')
    rw[l1,l2,<-mU] at key;exact SeqAt.EqAt.of_refs e key
  | @lst a' xs' ds' h' hs'=>
   cases (show u'=Value.ref a' from r2)
   obtain⟨its',rv',p',hz'⟩:=I.list h';exact SeqAt.EqAt.tuple_list (show s.heap.IsTuple _ its.toArray from p) p'.isList hu
 | @lst a xs ds h hs=>
  cases (show u=Value.ref a from r1)
  obtain⟨its,rv,p,hz⟩:=I.list h
  cases h2 with
  | non=>cases (show u'=Value.none from r2);exact SeqAt.EqAt.list_none p.isList hu
  | bl b=>cases (show u'=Value.bool _ from r2);exact SeqAt.EqAt.list_bool _ p.isList hu
  | int i=>obtain⟨t,rfl⟩:=r2;exact SeqAt.EqAt.list_int _ _ p.isList hu
  | str x=>obtain⟨t,rfl⟩:=r2;exact SeqAt.EqAt.list_str _ _ p.isList hu
  | @tup a' xs' ds' h' hs'=>
   cases (show u'=Value.ref a' from r2)
   obtain⟨its',rv',p',hz'⟩:=I.tuple h';exact SeqAt.EqAt.list_tuple p.isList (show s.heap.IsTuple _ its'.toArray from p') hu
  | @lst a' xs' ds' h' hs'=>
   cases (show u'=Value.ref a' from r2)
   by_cases e:a=a'
   ·subst e
    have e:=I.list_inj h h';subst e;have e:=IsDs.inj I hs hs';subst e;rw[mM];exact SeqAt.EqAt.same _
   ·obtain⟨its',rv',p',hz'⟩:=I.list h'
    have l1:its.toArray.size=ds.length:=by rw[Qh,<-rv.length,hs.length]
    have l2:its'.toArray.size=ds'.length:=by rw[Qh,<-rv'.length,hs'.length]
    by_cases hl:ds.length=ds'.length
    ·have key:=SeqAt.RcAt.lists (A:=A) (s:=s) p.isList p'.isList (by rw[l1,l2,hl]) hu
      (mI (A:=A.in1) (s:=s) hs hs' rv rv' fun d d' v v' u u' hm iv iv' r r'=>rc ds (.inr rfl) d d' v v' u u' hm iv iv' r r')
     rw[l1,iG hl] at key;exact SeqAt.EqAt.of_refs e key
    ·have key:=SeqAt.RcAt.lists_lengths (A:=A) (s:=s) p.isList p'.isList (by rw[l1,l2];simp[hl]) hu
     rw[eqD,yT hl];exact SeqAt.EqAt.of_refs e key
theorem zHL(I:Inv X pins σ H s)(n:Nat):∀ {v v':V} {d d':D},dep d<=n->IsD X.K H v d->IsD X.K H v' d'->
  ∀(A:Around)(u u':Value),A.units+n<cLine->cV v u->cV v' u'->SeqAt.EqAt A s u u' (eqD d d'):=by
 induction n with
 | zero=>
  intro v v' d d' hn h1 h2 A u u' hu r1 r2;refine zBo I h1 h2 r1 r2 (by omega) fun ds hd=>?_
  rcases hd with rfl | rfl<;>(rw[dep] at hn;omega)
 | succ n ih=>
  intro v v' d d' hn h1 h2 A u u' hu r1 r2;refine zBo I h1 h2 r1 r2 (by omega) fun ds hd e e' w w' z z' hm i1 i2 q1 q2=>?_
  refine ih ?_ i1 i2 A.in1 z z' (by show A.units+1+n<cLine;omega) q1 q2
  have:=pZ hm
  rcases hd with rfl | rfl<;>(rw[dep] at hn;omega)
theorem zGj(I:Inv X pins σ H s){A:Around}{v v':V}{d d':D}{u u':Value}(h1:IsD X.K H v d)(h2:IsD X.K H v' d')(r1:cV v u)(r2:cV v' u')(hu:A.units<cLine)
  (rc:∀ ds,(d=.tup ds∨d=.lst ds)->∀(e e':D)(w w':V)(z z':Value),e∈ds->IsD X.K H w e->IsD X.K H w' e'->cV w z->cV w' z'->SeqAt.EqAt A.in1 s z z' (eqD e e')):
  SeqAt.RcAt A s u u' (eqD d d'):=by
 cases h1 with
 | non=>
  cases (show u=Value.none from r1)
  cases h2 with
  | non=>cases (show u'=Value.none from r2);exact SeqAt.RcAt.none_none
  | bl b=>cases (show u'=Value.bool _ from r2);exact SeqAt.RcAt.none_bool _
  | int i=>obtain⟨t,rfl⟩:=r2;exact SeqAt.RcAt.none_int _ _
  | str x=>obtain⟨t,rfl⟩:=r2;exact SeqAt.RcAt.none_str _ _
  | tup h hs=>cases (show u'=Value.ref _ from r2);obtain⟨its,rv,p,hz⟩:=I.tuple h;exact SeqAt.RcAt.none_tuple (show s.heap.IsTuple _ its.toArray from p) hu
  | lst h hs=>cases (show u'=Value.ref _ from r2);obtain⟨its,rv,p,hz⟩:=I.list h;exact SeqAt.RcAt.none_list p.isList hu
 | bl b=>
  cases (show u=Value.bool _ from r1)
  cases h2 with
  | non=>cases (show u'=Value.none from r2);exact SeqAt.RcAt.bool_none _
  | bl b=>cases (show u'=Value.bool _ from r2);exact SeqAt.RcAt.bool_bool _ _
  | int i=>obtain⟨t,rfl⟩:=r2;exact SeqAt.RcAt.bool_int _ _ _
  | str x=>obtain⟨t,rfl⟩:=r2;exact SeqAt.RcAt.bool_str _ _ _
  | tup h hs=>cases (show u'=Value.ref _ from r2);obtain⟨its,rv,p,hz⟩:=I.tuple h;exact SeqAt.RcAt.bool_tuple _ (show s.heap.IsTuple _ its.toArray from p) hu
  | lst h hs=>cases (show u'=Value.ref _ from r2);obtain⟨its,rv,p,hz⟩:=I.list h;exact SeqAt.RcAt.bool_list _ p.isList hu
 | int i=>
  obtain⟨t,rfl⟩:=r1
  cases h2 with
  | non=>cases (show u'=Value.none from r2);exact SeqAt.RcAt.int_none _ _
  | bl b=>cases (show u'=Value.bool _ from r2);exact SeqAt.RcAt.int_bool _ _ _
  | int i=>obtain⟨t,rfl⟩:=r2;exact SeqAt.RcAt.int_int _ _ _ _
  | str x=>obtain⟨t,rfl⟩:=r2;exact SeqAt.RcAt.int_str _ _ _ _
  | tup h hs=>cases (show u'=Value.ref _ from r2);obtain⟨its,rv,p,hz⟩:=I.tuple h;exact SeqAt.RcAt.int_tuple _ _ (show s.heap.IsTuple _ its.toArray from p) hu
  | lst h hs=>cases (show u'=Value.ref _ from r2);obtain⟨its,rv,p,hz⟩:=I.list h;exact SeqAt.RcAt.int_list _ _ p.isList hu
 | str x=>
  obtain⟨t,rfl⟩:=r1
  cases h2 with
  | non=>cases (show u'=Value.none from r2);exact SeqAt.RcAt.str_none _ _
  | bl b=>cases (show u'=Value.bool _ from r2);exact SeqAt.RcAt.str_bool _ _ _
  | int i=>obtain⟨t,rfl⟩:=r2;exact SeqAt.RcAt.str_int _ _ _ _
  | str x=>obtain⟨t,rfl⟩:=r2;exact SeqAt.RcAt.str_str _ _ _ _
  | tup h hs=>cases (show u'=Value.ref _ from r2);obtain⟨its,rv,p,hz⟩:=I.tuple h;exact SeqAt.RcAt.str_tuple _ _ (show s.heap.IsTuple _ its.toArray from p) hu
  | lst h hs=>cases (show u'=Value.ref _ from r2);obtain⟨its,rv,p,hz⟩:=I.list h;exact SeqAt.RcAt.str_list _ _ p.isList hu
 | @tup a xs ds h hs=>
  cases (show u=Value.ref a from r1)
  obtain⟨its,rv,p,hz⟩:=I.tuple h
  cases h2 with
  | non=>cases (show u'=Value.none from r2);exact SeqAt.RcAt.tuple_none (show s.heap.IsTuple _ its.toArray from p) hu
  | bl b=>cases (show u'=Value.bool _ from r2);exact SeqAt.RcAt.tuple_bool _ (show s.heap.IsTuple _ its.toArray from p) hu
  | int i=>obtain⟨t,rfl⟩:=r2;exact SeqAt.RcAt.tuple_int _ _ (show s.heap.IsTuple _ its.toArray from p) hu
  | str x=>obtain⟨t,rfl⟩:=r2;exact SeqAt.RcAt.tuple_str _ _ (show s.heap.IsTuple _ its.toArray from p) hu
  | @tup a' xs' ds' h' hs'=>
   cases (show u'=Value.ref a' from r2)
   ·obtain⟨its',rv',p',hz'⟩:=I.tuple h'
    have l1:its.toArray.size=ds.length:=by rw[Qh,<-rv.length,hs.length]
    have l2:its'.toArray.size=ds'.length:=by rw[Qh,<-rv'.length,hs'.length]
    have key:=SeqAt.RcAt.tuples (A:=A) (s:=s) (show s.heap.IsTuple a its.toArray from p) (show s.heap.IsTuple a' its'.toArray from p') hu
     (mI (A:=A.in1) (s:=s) hs hs' rv rv' fun d d' v v' u u' hm iv iv' r r'=>rc ds (.inl rfl) d d' v v' u u' hm iv iv' r r')
    rw[l1,l2,<-mU] at key;exact key
  | @lst a' xs' ds' h' hs'=>
   cases (show u'=Value.ref a' from r2)
   obtain⟨its',rv',p',hz'⟩:=I.list h';exact SeqAt.RcAt.tuple_list (show s.heap.IsTuple _ its.toArray from p) p'.isList hu
 | @lst a xs ds h hs=>
  cases (show u=Value.ref a from r1)
  obtain⟨its,rv,p,hz⟩:=I.list h
  cases h2 with
  | non=>cases (show u'=Value.none from r2);exact SeqAt.RcAt.list_none p.isList hu
  | bl b=>cases (show u'=Value.bool _ from r2);exact SeqAt.RcAt.list_bool _ p.isList hu
  | int i=>obtain⟨t,rfl⟩:=r2;exact SeqAt.RcAt.list_int _ _ p.isList hu
  | str x=>obtain⟨t,rfl⟩:=r2;exact SeqAt.RcAt.list_str _ _ p.isList hu
  | @tup a' xs' ds' h' hs'=>
   cases (show u'=Value.ref a' from r2)
   obtain⟨its',rv',p',hz'⟩:=I.tuple h';exact SeqAt.RcAt.list_tuple p.isList (show s.heap.IsTuple _ its'.toArray from p') hu
  | @lst a' xs' ds' h' hs'=>
   cases (show u'=Value.ref a' from r2)
   ·obtain⟨its',rv',p',hz'⟩:=I.list h'
    have l1:its.toArray.size=ds.length:=by rw[Qh,<-rv.length,hs.length]
    have l2:its'.toArray.size=ds'.length:=by rw[Qh,<-rv'.length,hs'.length]
    by_cases hl:ds.length=ds'.length
    ·have key:=SeqAt.RcAt.lists (A:=A) (s:=s) p.isList p'.isList (by rw[l1,l2,hl]) hu
      (mI (A:=A.in1) (s:=s) hs hs' rv rv' fun d d' v v' u u' hm iv iv' r r'=>rc ds (.inr rfl) d d' v v' u u' hm iv iv' r r')
     rw[l1,iG hl] at key;exact key
    ·have key:=SeqAt.RcAt.lists_lengths (A:=A) (s:=s) p.isList p'.isList (by rw[l1,l2];simp[hl]) hu
     rw[eqD,yT hl];exact key
theorem zHo(I:Inv X pins σ H s){A:Around}{v v':V}{d d':D}{u u':Value}(h1:IsD X.K H v d)(h2:IsD X.K H v' d')(r1:cV v u)(r2:cV v' u')(hu:A.units<cLine)
  (rc:∀ ds,(d=.tup ds∨d=.lst ds)->∀(e e':D)(w w':V)(z z':Value),e∈ds->IsD X.K H w e->IsD X.K H w' e'->cV w z->cV w' z'->SeqAt.EqAt A.in1 s z z' (eqD e e')):
  SeqAt.RcNeAt A s u u' (!eqD d d'):=by
 cases h1 with
 | non=>
  cases (show u=Value.none from r1)
  cases h2 with
  | non=>cases (show u'=Value.none from r2);exact SeqAt.RcNeAt.none_none
  | bl b=>cases (show u'=Value.bool _ from r2);exact SeqAt.RcNeAt.none_bool _
  | int i=>obtain⟨t,rfl⟩:=r2;exact SeqAt.RcNeAt.none_int _ _
  | str x=>obtain⟨t,rfl⟩:=r2;exact SeqAt.RcNeAt.none_str _ _
  | tup h hs=>cases (show u'=Value.ref _ from r2);obtain⟨its,rv,p,hz⟩:=I.tuple h;exact SeqAt.RcNeAt.none_tuple (show s.heap.IsTuple _ its.toArray from p) hu
  | lst h hs=>cases (show u'=Value.ref _ from r2);obtain⟨its,rv,p,hz⟩:=I.list h;exact SeqAt.RcNeAt.none_list p.isList hu
 | bl b=>
  cases (show u=Value.bool _ from r1)
  cases h2 with
  | non=>cases (show u'=Value.none from r2);exact SeqAt.RcNeAt.bool_none _
  | bl b=>cases (show u'=Value.bool _ from r2);exact SeqAt.RcNeAt.bool_bool _ _
  | int i=>obtain⟨t,rfl⟩:=r2;exact SeqAt.RcNeAt.bool_int _ _ _
  | str x=>obtain⟨t,rfl⟩:=r2;exact SeqAt.RcNeAt.bool_str _ _ _
  | tup h hs=>cases (show u'=Value.ref _ from r2);obtain⟨its,rv,p,hz⟩:=I.tuple h;exact SeqAt.RcNeAt.bool_tuple _ (show s.heap.IsTuple _ its.toArray from p) hu
  | lst h hs=>cases (show u'=Value.ref _ from r2);obtain⟨its,rv,p,hz⟩:=I.list h;exact SeqAt.RcNeAt.bool_list _ p.isList hu
 | int i=>
  obtain⟨t,rfl⟩:=r1
  cases h2 with
  | non=>cases (show u'=Value.none from r2);exact SeqAt.RcNeAt.int_none _ _
  | bl b=>cases (show u'=Value.bool _ from r2);exact SeqAt.RcNeAt.int_bool _ _ _
  | int i=>obtain⟨t,rfl⟩:=r2;exact SeqAt.RcNeAt.int_int _ _ _ _
  | str x=>obtain⟨t,rfl⟩:=r2;exact SeqAt.RcNeAt.int_str _ _ _ _
  | tup h hs=>cases (show u'=Value.ref _ from r2);obtain⟨its,rv,p,hz⟩:=I.tuple h;exact SeqAt.RcNeAt.int_tuple _ _ (show s.heap.IsTuple _ its.toArray from p) hu
  | lst h hs=>cases (show u'=Value.ref _ from r2);obtain⟨its,rv,p,hz⟩:=I.list h;exact SeqAt.RcNeAt.int_list _ _ p.isList hu
 | str x=>
  obtain⟨t,rfl⟩:=r1
  cases h2 with
  | non=>cases (show u'=Value.none from r2);exact SeqAt.RcNeAt.str_none _ _
  | bl b=>cases (show u'=Value.bool _ from r2);exact SeqAt.RcNeAt.str_bool _ _ _
  | int i=>obtain⟨t,rfl⟩:=r2;exact SeqAt.RcNeAt.str_int _ _ _ _
  | str x=>obtain⟨t,rfl⟩:=r2;exact SeqAt.RcNeAt.str_str _ _ _ _
  | tup h hs=>cases (show u'=Value.ref _ from r2);obtain⟨its,rv,p,hz⟩:=I.tuple h;exact SeqAt.RcNeAt.str_tuple _ _ (show s.heap.IsTuple _ its.toArray from p) hu
  | lst h hs=>cases (show u'=Value.ref _ from r2);obtain⟨its,rv,p,hz⟩:=I.list h;exact SeqAt.RcNeAt.str_list _ _ p.isList hu
 | @tup a xs ds h hs=>
  cases (show u=Value.ref a from r1)
  obtain⟨its,rv,p,hz⟩:=I.tuple h
  cases h2 with
  | non=>cases (show u'=Value.none from r2);exact SeqAt.RcNeAt.tuple_none (show s.heap.IsTuple _ its.toArray from p) hu
  | bl b=>cases (show u'=Value.bool _ from r2);exact SeqAt.RcNeAt.tuple_bool _ (show s.heap.IsTuple _ its.toArray from p) hu
  | int i=>obtain⟨t,rfl⟩:=r2;exact SeqAt.RcNeAt.tuple_int _ _ (show s.heap.IsTuple _ its.toArray from p) hu
  | str x=>obtain⟨t,rfl⟩:=r2;exact SeqAt.RcNeAt.tuple_str _ _ (show s.heap.IsTuple _ its.toArray from p) hu
  | @tup a' xs' ds' h' hs'=>
   cases (show u'=Value.ref a' from r2)
   ·obtain⟨its',rv',p',hz'⟩:=I.tuple h'
    have l1:its.toArray.size=ds.length:=by rw[Qh,<-rv.length,hs.length]
    have l2:its'.toArray.size=ds'.length:=by rw[Qh,<-rv'.length,hs'.length]
    have key:=SeqAt.RcNeAt.tuples (A:=A) (s:=s) (show s.heap.IsTuple a its.toArray from p) (show s.heap.IsTuple a' its'.toArray from p') hu
     (mI (A:=A.in1) (s:=s) hs hs' rv rv' fun d d' v v' u u' hm iv iv' r r'=>rc ds (.inl rfl) d d' v v' u u' hm iv iv' r r')
    rw[l1,l2,<-mU] at key;exact key
  | @lst a' xs' ds' h' hs'=>
   cases (show u'=Value.ref a' from r2)
   obtain⟨its',rv',p',hz'⟩:=I.list h';exact SeqAt.RcNeAt.tuple_list (show s.heap.IsTuple _ its.toArray from p) p'.isList hu
 | @lst a xs ds h hs=>
  cases (show u=Value.ref a from r1)
  obtain⟨its,rv,p,hz⟩:=I.list h
  cases h2 with
  | non=>cases (show u'=Value.none from r2);exact SeqAt.RcNeAt.list_none p.isList hu
  | bl b=>cases (show u'=Value.bool _ from r2);exact SeqAt.RcNeAt.list_bool _ p.isList hu
  | int i=>obtain⟨t,rfl⟩:=r2;exact SeqAt.RcNeAt.list_int _ _ p.isList hu
  | str x=>obtain⟨t,rfl⟩:=r2;exact SeqAt.RcNeAt.list_str _ _ p.isList hu
  | @tup a' xs' ds' h' hs'=>
   cases (show u'=Value.ref a' from r2)
   obtain⟨its',rv',p',hz'⟩:=I.tuple h';exact SeqAt.RcNeAt.list_tuple p.isList (show s.heap.IsTuple _ its'.toArray from p') hu
  | @lst a' xs' ds' h' hs'=>
   cases (show u'=Value.ref a' from r2)
   ·obtain⟨its',rv',p',hz'⟩:=I.list h'
    have l1:its.toArray.size=ds.length:=by rw[Qh,<-rv.length,hs.length]
    have l2:its'.toArray.size=ds'.length:=by rw[Qh,<-rv'.length,hs'.length]
    by_cases hl:ds.length=ds'.length
    ·have key:=SeqAt.RcNeAt.lists (A:=A) (s:=s) p.isList p'.isList (by rw[l1,l2,hl]) hu
      (mI (A:=A.in1) (s:=s) hs hs' rv rv' fun d d' v v' u u' hm iv iv' r r'=>rc ds (.inr rfl) d d' v v' u u' hm iv iv' r r')
     rw[l1,iG hl] at key;exact key
    ·have key:=SeqAt.RcNeAt.lists_lengths (A:=A) (s:=s) p.isList p'.isList (by rw[l1,l2];simp[hl]) hu
     rw[eqD,yT hl];exact key
theorem eqA{X:Cx}(hu:X.A.units+64<cLine):OpR X (compareOp .Eq) (fun x y H Q=>∃ d d',IsD X.K H x d/\IsD X.K H y d'/\dep d<=50/\Q (.bl (eqD d d')) H):=by
 intro pins s σ H x y v u Q I rx ry h;obtain⟨d,d',h1,h2,hn,q⟩:=h;refine zGj I h1 h2 rx ry (by omega) (fun ds hd e e' w w' z z' hm i1 i2 q1 q2=>?_) X.prog X.w X.xe _ ⟨.bl _,H,I,rfl,q⟩
 refine zHL I 50 ?_ i1 i2 X.A.in1 z z' (by show X.A.units+1+50<cLine;omega) q1 q2
 have:=pZ hm
 rcases hd with rfl | rfl<;>(rw[dep] at hn;omega)
theorem neA{X:Cx}(hu:X.A.units+64<cLine):OpR X (compareOp .NotEq) (fun x y H Q=>∃ d d',IsD X.K H x d/\IsD X.K H y d'/\dep d<=50/\Q (.bl (!eqD d d')) H):=by
 intro pins s σ H x y v u Q I rx ry h;obtain⟨d,d',h1,h2,hn,q⟩:=h;refine zHo I h1 h2 rx ry (by omega) (fun ds hd e e' w w' z z' hm i1 i2 q1 q2=>?_) X.prog X.w X.xe _ ⟨.bl _,H,I,rfl,q⟩
 refine zHL I 50 ?_ i1 i2 X.A.in1 z z' (by show X.A.units+1+50<cLine;omega) q1 q2
 have:=pZ hm
 rcases hd with rfl | rfl<;>(rw[dep] at hn;omega)
theorem yY{X:Cx}:OpK X (fun x y H Q=>∃ d d',IsD X.K H x d/\IsD X.K H y d'/\dep d<=50/\Q (.bl (eqD d d')) H) oEq:=⟨fun a b c z=>(by
  unfold oEq at z;split at z<;>cases z),fun Hi H x y a b d Q s r1 r2 z q=>by
  unfold oEq at z;split at z
  ·rename_i h;cases z;exact⟨a,b,r1.mono s,r2.mono s,h,q _ Hi H (Ext.refl s) (.bl _)⟩
  ·cases z⟩
theorem zPj{X:Cx}:OpK X (fun x y H Q=>∃ d d',IsD X.K H x d/\IsD X.K H y d'/\dep d<=50/\Q (.bl (!eqD d d')) H) oNe:=⟨fun a b c z=>(by
  unfold oNe at z;split at z<;>cases z),fun Hi H x y a b d Q s r1 r2 z q=>by
  unfold oNe at z;split at z
  ·rename_i h;cases z;exact⟨a,b,r1.mono s,r2.mono s,h,q _ Hi H (Ext.refl s) (.bl _)⟩
  ·cases z⟩
open Classical in
def zJT(K:PySem.W.Frag)(H:Hp)(dx:D)(u:Value):Bool:=if ∃ w d,IsD K H w d/\cV w u/\eqD d dx=true then true else false
theorem zFV(I:Inv X pins σ H s){dx d:D}{w:V}{u:Value}(h:IsD X.K H w d)(r:cV w u):zJT X.K H dx u=eqD d dx:=by
 unfold zJT;by_cases e:eqD d dx=true
 ·rw[if_pos ⟨w,d,h,r,e⟩,e]
 ·rw[if_neg]
  ·simpa using e
  ·rintro⟨w',d',h',r',e'⟩
   have:=r.inj r'
   subst this;have:=IsD.inj I h h'
   subst this;exact e e'
theorem sY(I:Inv X pins σ H s){dx:D}:∀ {xs:List V} {ds:List D} {us:List Value},IsDs X.K H xs ds->dH xs us->us.any (zJT X.K H dx)=ds.any fun d=>eqD d dx
 | _,_,_,.nil,.nil=>rfl
 | _,_,_,.cons h hs,.cons r t=>by rw[Y4,Y4,zFV I h r,sY I hs t]
theorem sX(I:Inv X pins σ H s){A:Around}{dx:D}{x:V}{ux:Value}(hx:IsD X.K H x dx)(rx:cV x ux)(hu:A.units+50<cLine):∀ {xs:List V} {ds:List D} {us:List Value},IsDs X.K H xs ds->dH xs us->(∀ d∈ds,dep d<=50)->∀ u∈us,SeqAt.EqAt A s u ux (zJT X.K H dx u)
 | _,_,_,.nil,.nil,_=>fun u hu=>by cases hu
 | _,_,_,.cons h hs,.cons r t,f=>fun u hm=>by
  rcases Qc.mp hm with rfl | hm
  ·rw[zFV I h r];exact zHL I 50 (f _ Qf) h hx A _ ux hu r rx
  ·exact sX I hx rx hu hs t (fun d hd=>f d (Qe _ hd)) u hm
def zPh(K:PySem.W.Frag)(neg:Bool):R2:=fun x y H Q=>∃ d ds,IsD K H x d/\(IsD K H y (.lst ds)∨IsD K H y (.tup ds))/\depS ds<=50/\Q (.bl (if neg=true then !(ds.any fun e=>eqD e d) else ds.any fun e=>eqD e d)) H
theorem inA{X:Cx}(hu:X.A.units+64<cLine):OpR X (compareOp .In) (zPh X.K false):=by
 intro pins s σ H x y v u Q I rx ry h;obtain⟨d,ds,h1,h2,hn,q⟩:=h;have hd:∀ e∈ds,dep e<=50:=fun e he=>Qp (pZ he) hn
 rcases h2 with h2 | h2
 ·obtain⟨a,xs,rfl,hl,hs⟩:=h2.lstI
  cases ry;obtain⟨its,rv,p,hz⟩:=I.list hl;refine SeqAt.in_listAt (zJT X.K H d) p.isList (fun y hy=>sX I h1 rx (by show X.A.units+1+50<cLine;omega) hs rv hd y (by simpa using hy)) ?_
  exact⟨.bl _,H,I,by rw[Y5,sY I hs rv];rfl,q⟩
 ·obtain⟨a,xs,rfl,hl,hs⟩:=h2.tupI
  cases ry;obtain⟨its,rv,p,hz⟩:=I.tuple hl;refine SeqAt.in_tupleAt (zJT X.K H d) (show s.heap.IsTuple _ its.toArray from p) (fun y hy=>sX I h1 rx (by show X.A.units+1+50<cLine;omega) hs rv hd y (by simpa using hy)) ?_
  exact⟨.bl _,H,I,by rw[Y5,sY I hs rv];rfl,q⟩
theorem zNq{X:Cx}(hu:X.A.units+64<cLine):OpR X (compareOp .NotIn) (zPh X.K true):=by
 intro pins s σ H x y v u Q I rx ry h;obtain⟨d,ds,h1,h2,hn,q⟩:=h;have hd:∀ e∈ds,dep e<=50:=fun e he=>Qp (pZ he) hn
 rcases h2 with h2 | h2
 ·obtain⟨a,xs,rfl,hl,hs⟩:=h2.lstI
  cases ry;obtain⟨its,rv,p,hz⟩:=I.list hl;refine SeqAt.notIn_listAt (zJT X.K H d) p.isList (fun y hy=>sX I h1 rx (by show X.A.units+1+50<cLine;omega) hs rv hd y (by simpa using hy)) ?_
  exact⟨.bl _,H,I,by rw[Y5,sY I hs rv];rfl,q⟩
 ·obtain⟨a,xs,rfl,hl,hs⟩:=h2.tupI
  cases ry;obtain⟨its,rv,p,hz⟩:=I.tuple hl;refine SeqAt.notIn_tupleAt (zJT X.K H d) (show s.heap.IsTuple _ its.toArray from p) (fun y hy=>sX I h1 rx (by show X.A.units+1+50<cLine;omega) hs rv hd y (by simpa using hy)) ?_
  exact⟨.bl _,H,I,by rw[Y5,sY I hs rv];rfl,q⟩
theorem zPG{X:Cx}:OpK X (zPh X.K false) oIn:=⟨fun a b c z=>(by
  cases b<;>first | cases z | (simp only[oIn] at z;split at z<;>cases z)),fun Hi H x y a b d Q s r1 r2 z q=>by
  cases b<;>first | cases z | skip
  ·rename_i ds
   simp only[oIn] at z;split at z
   ·rename_i h;cases z;exact⟨a,ds,r1.mono s,.inr (r2.mono s),h,q _ Hi H (Ext.refl s) (.bl _)⟩
   ·cases z
  ·rename_i ds
   simp only[oIn] at z;split at z
   ·rename_i h;cases z;exact⟨a,ds,r1.mono s,.inl (r2.mono s),h,q _ Hi H (Ext.refl s) (.bl _)⟩
   ·cases z⟩
theorem zLM{X:Cx}:OpK X (zPh X.K true) tO:=⟨fun a b c z=>(by
  cases b<;>first | cases z | (simp only[tO] at z;split at z<;>cases z)),fun Hi H x y a b d Q s r1 r2 z q=>by
  cases b<;>first | cases z | skip
  ·rename_i ds
   simp only[tO] at z;split at z
   ·rename_i h;cases z;exact⟨a,ds,r1.mono s,.inr (r2.mono s),h,q _ Hi H (Ext.refl s) (.bl _)⟩
   ·cases z
  ·rename_i ds
   simp only[tO] at z;split at z
   ·rename_i h;cases z;exact⟨a,ds,r1.mono s,.inl (r2.mono s),h,q _ Hi H (Ext.refl s) (.bl _)⟩
   ·cases z⟩
end
end L3
namespace L3
open PySem PySem.Spec PyProof.Rows L2
unseal PEd PEf PTd PWd PAd PSd dJ
section
variable{X:Cx}{G:Gx}{a b e:Expr}{es:List Expr}{pos p:Pos}{f g:Ev}{fs gs:Fv}{t u:Tv}{x:Str}{id T:String}
def zBv(X:Cx)(r:List V->Hp->VK->Prop)(o:List D->Res D):Prop:=(∀ a c,o a≠.err c)/\∀(Hi H:Hp)(vs:List V)(ds:List D)(d:D)(Q:VK),Same Hi H->IsDs X.K Hi vs ds->o ds=.ok d->
 (∀ v Hi' H',Ext Hi H Hi' H'->IsD X.K Hi' v d->Q v H')->r vs H Q
theorem zOo{r:List V->Hp->VK->Prop}{o:List D->Res D}(k:zBv X r o):∀ σ H Q,tD X G (eB o fs) σ H Q->tCB r (tAs X G fs) σ H Q:=fun σ H Q q=>by
 obtain⟨ρ,Hi,R,ou⟩:=q;refine zIj R ou fun vs ds Hi1 H1 e1 R1 r1 o1=>?_
 cases z:o ds with
 | no=>rw[z] at o1;exact o1.elim
 | err c=>exact absurd z (k.1 ds c)
 | ok d=>rw[z] at o1;exact k.2 Hi1 H1 vs ds d Q R1.s r1 z fun v Hi2 H2 e2 r2=>o1 Hi2 H2 e2 v r2
theorem aT{r:List V->Hp->VK->Prop}{o:List D->Res D}(hc:vL X (.builtin id) r)(k:zBv X r o)(hg:Gl X x)(hm:X.mg x=none)(hv:bootBuiltins x=some (.builtin id))(ha:PAd X G (e::es) fs)(hn:x ≠ "__name__" := by decide)(hdb:(x==("__debug__" : Str))=false:=by decide)
  (he:starEach (e::es) X.env=(false,eval e X.env)::starEach es X.env:=by rfl) (hpl:(backTo pos (starEach es X.env)).any (·.1)=false:=by rfl):PEd X G (.Call (.Name x p) (e::es) [] pos) (eB o fs):=
 PE.wk (zDy hc hg hm hv ha hn hdb he hpl) (zOo k)
theorem zAw{r:List V->Hp->VK->Prop}{o:List D->Res D}(hc:vL X (.type T) r)(k:zBv X r o)(hg:Gl X x)(hm:X.mg x=none)(hv:bootBuiltins x=some (.type T))(ha:PAd X G (e::es) fs)(hn:x ≠ "__name__" := by decide)(hdb:(x==("__debug__" : Str))=false:=by decide)
  (he:starEach (e::es) X.env=(false,eval e X.env)::starEach es X.env:=by rfl) (hpl:(backTo pos (starEach es X.env)).any (·.1)=false:=by rfl):PEd X G (.Call (.Name x p) (e::es) [] pos) (eB o fs):=
 PE.wk (zBg hc hg hm hv ha hn hdb he hpl) (zOo k)
theorem IsDs.one{K:Fg_}{H:Hp}{vs:List V}{d:D}(h:IsDs K H vs [d]):∃ v,vs=[v]/\IsD K H v d:=by
 cases h with
 | cons h t=>cases t;exact⟨_,rfl,h⟩
theorem IsDs.two{K:Fg_}{H:Hp}{vs:List V}{d d':D}(h:IsDs K H vs [d,d']):∃ v w,vs=[v,w]/\IsD K H v d/\IsD K H w d':=by
 cases h with
 | cons h t=>obtain⟨w,rfl,hw⟩:=t.one;exact⟨_,w,rfl,h,hw⟩
theorem cT:zBv X (fun xs H Q=>∃ p ys,xs=[.ref p]/\(SqL X.K H p ys∨SqT X.K H p ys)/\Q (.int ys.length) H) jM:=⟨fun a c z=>(by
  unfold jM at z;split at z<;>cases z),fun Hi H vs ds d Q s r z q=>by
  unfold jM at z;split at z
  ·cases z
   obtain⟨v,rfl,h⟩:=r.one;obtain⟨a,xs,rfl,h1,h2⟩:=h.lstI;refine⟨a,xs,rfl,.inl (cH s h1),?_⟩
   rw[h2.length];exact q _ Hi H (Ext.refl s) (.int _)
  ·cases z
   obtain⟨v,rfl,h⟩:=r.one;obtain⟨a,xs,rfl,h1,h2⟩:=h.tupI;refine⟨a,xs,rfl,.inr (bV s h1),?_⟩
   rw[h2.length];exact q _ Hi H (Ext.refl s) (.int _)
  ·cases z⟩
theorem zFu:zBv X (fun xs H Q=>∃ i,xs=[.int i]/\Q (.int (if i<0 then -i else i)) H) zMr:=⟨fun a c z=>(by
  unfold zMr at z;split at z<;>cases z),fun Hi H vs ds d Q s r z q=>by
  unfold zMr at z;split at z
  ·cases z
   obtain⟨v,rfl,h⟩:=r.one;exact⟨_,by rw[h.intI],q _ Hi H (Ext.refl s) (.int _)⟩
  ·cases z⟩
theorem zPc:zBv X (fun xs H Q=>∃ i j,xs=[.int i,.int j]/\Q (.int (if j<i then j else i)) H) zMF:=⟨fun a c z=>(by
  unfold zMF at z;split at z<;>cases z),fun Hi H vs ds d Q s r z q=>by
  unfold zMF at z;split at z
  ·cases z
   obtain⟨v,w,rfl,h,h'⟩:=r.two;exact⟨_,_,by rw[h.intI,h'.intI],q _ Hi H (Ext.refl s) (.int _)⟩
  ·cases z⟩
theorem zKk:zBv X (fun xs H Q=>∃ p ys,xs=[.ref p]/\((SqL X.K H p ys/\∀ l,H l=none->Q (.ref l) (upd H l (.tup ys)))∨(SqT X.K H p ys/\Q (.ref p) H))) zKo:=⟨fun a c z=>(by
  unfold zKo at z;split at z<;>cases z),fun Hi H vs ds d Q s r z q=>by
  unfold zKo at z;split at z
  ·cases z
   obtain⟨v,rfl,h⟩:=r.one;obtain⟨a,xs,rfl,h1,h2⟩:=h.lstI;exact⟨a,xs,rfl,.inl ⟨cH s h1,fun l hl=>q _ _ _ (Ext.new s hl) (.tup (SqT.of aS) (h2.mono (cA (s.none hl) _)))⟩⟩
  ·cases z
   obtain⟨v,rfl,h⟩:=r.one;obtain⟨a,xs,rfl,h1,h2⟩:=h.tupI;exact⟨a,xs,rfl,.inr ⟨bV s h1,q _ Hi H (Ext.refl s) (.tup h1 h2)⟩⟩
  ·cases z⟩
theorem xO(hg:Gl X "list")(hm:X.mg "list" = none)(hv:bootBuiltins "list" = some (.type "list"))(ha:PAd X G (e::es) fs)
  (he:starEach (e::es) X.env=(false,eval e X.env)::starEach es X.env:=by rfl) (hpl:(backTo pos (starEach es X.env)).any (·.1)=false:=by rfl):PEf X G (.Call (.Name "list" p) (e::es) [] pos) (zAp fs):=
 PE.wk (zBg zAn hg hm hv ha (by decide) (by decide) he hpl) fun σ H Q q=>by
 obtain⟨ρ,Hi,R,ou⟩:=q;refine zIj R ou fun vs ds Hi1 H1 e1 R1 r1 o1=>?_
 split at o1
 ·obtain⟨v,rfl,h⟩:=r1.one
  obtain⟨a,xs,rfl,h1,h2⟩:=h.lstI;exact⟨a,xs,rfl,.inl (cH R1.s h1),fun l hl=>o1 _ _ (Ext.newF R1.s hl) l ⟨e1.h.none hl,R1.s.none hl,xs,aS,h2⟩⟩
 ·obtain⟨v,rfl,h⟩:=r1.one
  obtain⟨a,xs,rfl,h1,h2⟩:=h.tupI;exact⟨a,xs,rfl,.inr (bV R1.s h1),fun l hl=>o1 _ _ (Ext.newF R1.s hl) l ⟨e1.h.none hl,R1.s.none hl,xs,aS,h2⟩⟩
 ·exact o1.elim
theorem zLL{K:Fg_}{H:Hp}{v:V}{d:D}(h:IsD K H v d):decide (v=.non)=isNon d:=by
 cases h<;>simp[isNon]
variable{lo hi:Option Expr}{l h:Ov}{p2:Pos}
def tOv(X:Cx)(G:Gx)(f:Ov):TO:=fun σ H Q=>∃ ρ Hi,kK X G Hi H σ ρ/\Out G Hi H (f ρ) fun o _ H'=>Q o H'
@[irreducible] def POd (X:Cx) (G:Gx) (e:Option Expr) (f:Ov):Prop:=PO X e (tOv X G f)
unseal POd
theorem PO.wk{X:Cx}{e:Option Expr}{t t':TO}(h:PO X e t)(w:∀ σ H Q,t' σ H Q->t σ H Q):PO X e t':=fun pins s σ H Q I q=>h pins s σ H Q I (w σ H Q q)
theorem zCv:POd X G none oN:=PO.wk zKv fun σ H Q q=>by
 obtain⟨ρ,Hi,R,ou⟩:=q;exact ou.here R.s
theorem tM(he:PEd X G e f):POd X G (some e) (oS f):=PO.wk (zMo he) fun σ H Q q=>by
 obtain⟨ρ,Hi,R,ou⟩:=q;refine zDV R ou fun v d Hi1 H1 e1 R1 r1 o1=>?_
 cases d with
 | int i=>exact⟨i,r1.intI,o1.here R1.s⟩
 | _=>exact o1.elim
theorem zPn{f:Ov}{Hi H:Hp}{σ:St}{ρ:Rho}{β:Type}{k:Option Int->Res β}{k':β->Hp->Hp->Prop}{Q:Option Int->Hp->Prop}(R:kK X G Hi H σ ρ)(o:Out G Hi H ((f ρ).bind k) k')
  (w:∀ c Hi' H',Ext Hi H Hi' H'->kK X G Hi' H' σ ρ->Out G Hi' H' (k c) k'->Q c H'):tOv X G f σ H Q:=
 ⟨ρ,Hi,R,o.bind.imp fun d Hi' H' e q=>w d Hi' H' e (R.grow e) q⟩
theorem zHW(n d:Nat)(i:Option Int):cut n i d=HT.sIx n d i:=by
 cases i with
 | none=>rfl
 | some i=>
  simp only[cut,HT.sIx];split<;>split<;>omega
theorem IsDs.cut{K:Fg_}{H:Hp}{xs:List V}{ds:List D}(h:IsDs K H xs ds)(l r:Option Int):IsDs K H (zIi xs l r) (eG ds l r):=by
 unfold zIi eG;rw[zHW,zHW,h.length];exact(h.drop _).take _
theorem zC(he:PEd X G e f)(hl:POd X G lo l)(hu:POd X G hi h):PEf X G (.Subscript e (.Slice lo hi none p2) pos) (fSl f l h):=PE.wk (zDX zHw he hl hu) fun σ H Q q=>by
 obtain⟨ρ,Hi,R,ou⟩:=q;refine zDV R ou fun v d Hi1 H1 e1 R1 r1 o1=>?_
 refine zPn R1 o1 fun i Hi2 H2 e2 R2 o2=>?_
 refine zPn R2 o2 fun j Hi3 H3 e3 R3 o3=>?_
 cases d with
 | lst ds=>
  obtain⟨a,xs,rfl,h1,h2⟩:=r1.lstI;refine⟨a,xs,rfl,cH (e2.i.trans (e3.i.trans R3.s)) h1,fun p hp=>?_⟩
  exact o3 _ _ (Ext.newF R3.s hp) p ⟨(e1.h.trans (e2.h.trans e3.h)).none hp,R3.s.none hp,_,aS,(h2.cut i j).mono (e2.i.trans e3.i)⟩
 | _=>exact o3.elim
def zPU(K:PySem.W.Frag):R2:=fun x y H Q=>∃ l b xs zs,x=.ref l/\y=.ref b/\SqL K H l xs/\SqL K H b zs/\xs.length+zs.length<=sizeLine/\∀ p,H p=none->Q (.ref p) (upd H p (.lst (xs++zs)))
theorem zKu:OpR X (binaryOp .Add) (zPU X.K):=by
 intro pins s σ H x y v u Q I rx ry h;obtain⟨l,b,xs,zs,rfl,rfl,hl,hb,hz,q⟩:=h;cases rx;cases ry;obtain⟨its,r,p,_⟩:=I.list hl;obtain⟨its2,r2,p2,_⟩:=I.list hb;obtain⟨⟨cls,dd,data,sl⟩,ho,hc,n,hd⟩:=id p.isList;obtain⟨⟨cls2,dd2,data2,sl2⟩,ho2,hc2,n2,hd2⟩:=id p2.isList;simp only at hc hd hc2 hd2
 subst hc hd hc2 hd2;have hsz:its.toArray.size+its2.toArray.size<=sizeLine:=by rw[Qh,Qh,<-r.length,<-r2.length];exact hz
 have e:its.toArray++its2.toArray=(its++its2).toArray:=by simp
 refine concat_meets ⟨_,ho,rfl⟩ ⟨_,ho2,rfl⟩ noFill_list_add seq_list_add PySem.F.slot_list_add PySem.F.entry_list_add (PySem.F.args_list_add_2 _ _) (list_addW l b its.toArray its2.toArray n n2 dd dd2 sl sl2 hsz) ⟨ho,ho2,?_⟩
 rw[e];exact⟨.ref _,_,I.lnew (t':=s.toks) (r.append r2) (by rw[Qi];exact hz),rfl,q _ I.fresh⟩
theorem zBi(ha:PEd X G a f)(hb:PEd X G b g):PEf X G (.BinOp a .Add b pos) (zLs f g):=PE.wk (zBd zKu ha hb) fun σ H Q q=>by
 obtain⟨ρ,Hi,R,ou⟩:=q;refine zDV R ou fun v d Hi1 H1 e1 R1 r1 o1=>?_
 refine zDV R1 o1 fun w d' Hi2 H2 e2 R2 r2 o2=>?_
 cases d<;>first | exact o2.elim | skip
 cases d'<;>first | exact o2.elim | skip
 rename_i ds es
 obtain⟨a,xs,rfl,h1,h2⟩:=r1.lstI;obtain⟨b,ys,rfl,h3,h4⟩:=r2.lstI;have o2':Out G Hi2 H2 (if ds.length+es.length<=16777216 then Res.ok (ds++es) else .no) _:=o2;by_cases hz:ds.length+es.length<=16777216
 ·rw[if_pos hz] at o2'
  refine⟨a,b,xs,ys,rfl,rfl,cH (e2.i.trans e2.s) h1,cH e2.s h3,by rw[h2.length,h4.length];exact hz,fun p hp=>?_⟩
  exact o2' _ _ (Ext.newF e2.s hp) p ⟨(e1.h.trans e2.h).none hp,e2.s.none hp,_,aS,(h2.mono e2.i).append h4⟩
 ·rw[if_neg hz] at o2';exact o2'.elim
end
end L3
namespace L3
open PySem PySem.Spec PyProof.Rows L2
unseal PEd PEf PTd PWd PAd PSd dJ POd
section
variable{X:Cx}{G:Gx}{a b e:Expr}{es:List Expr}{pos p:Pos}{f g:Ev}{fs gs:Fv}{t u:Tv}{x:Str}{st:Stmt}{rest:List Stmt}{sa sb:Sv}
theorem kI{Hi H:Hp}{σ:St}{ρ:Rho}{E:Ends}{α:Type}{r:Res α}{k:α->Res Fl}(R:kK X G Hi H σ ρ)(h:Fin X G Hi E (r.bind k)){Q:α->Hp->Hp->Prop}
  (w:∀ a Hi' H',r=.ok a->Ext Hi H Hi' H'->Fin X G Hi' E (k a)->Q a Hi' H'):Out G Hi H r Q:=by
 cases r with
 | no=>exact h
 | err c=>exact fun Hi' H' e=>h Hi' H' (R.ext.trans e)
 | ok a=>exact fun Hi' H' e=>w a Hi' H' rfl e (Fin.mono (show Fin X G Hi E (k a) from h) e.i)
theorem bI:dJ X G [] sNext:=PSs.wk zKr fun E σ H q=>by
 obtain⟨ρ,Hi,R,h⟩:=q;exact h σ Hi H (Same.refl _) R
theorem zMY{E:Ends}{Hi:Hp}{ρ:Rho}(h:Fin X G Hi E (bB sa sb ρ)):Fin X G Hi { E with nx:=tS X G sb E } (sa ρ):=by
 unfold bB at h
 cases z:sa ρ with
 | no=>rw[z] at h;exact h
 | err c=>rw[z] at h;exact h
 | ok fl=>
  rw[z] at h
  cases fl with
  | nx ρ'=>exact fun σ' Hi' H' s R'=>⟨ρ',Hi',R',Fin.mono (show Fin X G Hi E (sb ρ') from h) s⟩
  | brk ρ'=>exact h
  | ctn ρ'=>exact h
  | ret r=>cases r<;>exact h
theorem zNI{E:Ends}{σ:St}{H:Hp}(q:tS X G (bB sa sb) E σ H):tS X G sa { E with nx:=tS X G sb E } σ H:=by
 obtain⟨ρ,Hi,R,h⟩:=q;exact⟨ρ,Hi,R,zMY h⟩
theorem aD(h1:PSd X G st sa)(h2:dJ X G rest sb):dJ X G (st::rest) (bB sa sb):=PSs.wk (sQ h1 h2) fun _ _ _ q=>zNI q
theorem aI(h1:PSd X G st sa):dJ X G [st] sa:=zCP h1
theorem nF(he:PEd X G e f)(hs:swapsWith e none pos.line X.env=pure false:=by rfl):PSd X G (.Expr e pos) (sJ f):=PS.wk (xT he hs) fun E σ H q=>by
 obtain⟨ρ,Hi,R,h⟩:=q;exact⟨ρ,Hi,R,kI R h fun d Hi' H' _ e h' v r=>h' σ Hi' H' (Same.refl _) (R.grow e)⟩
theorem bR(he:PEd X G e f):PSd X G (.Return (some e) pos) (eX f):=PS.wk (zDw he) fun E σ H q=>by
 obtain⟨ρ,Hi,R,h⟩:=q;obtain⟨Hf,s1,R1,fl⟩:=R.frz;refine⟨ρ.map Sl.frz,Hf,R1,kI R1 (Fin.mono h s1) fun d Hi' H' _ e h' v r=>?_⟩
 exact h' v Hi' H' (R1.ext.trans e) r
theorem hG(he:PEf X G e fs):PSd X G (.Return (some e) pos) (lJ fs):=PS.wk (zDw he) fun E σ H q=>by
 obtain⟨ρ,Hi,R,h⟩:=q;obtain⟨Hf,s1,R1,fl⟩:=R.frz;refine⟨ρ.map Sl.frz,Hf,R1,kI R1 (Fin.mono h s1) fun ds Hi' H' _ e h' a n=>?_⟩
 obtain⟨n1,n2,xs,n3,n4⟩:=n;exact h' a Hi' H' (R1.ext.trans e) ⟨R1.ext.h.none n1,n2,xs,n3,n4⟩
theorem iV(i:Nat)(he:PE X e (zDg i)):PSd X G (.Return (some e) pos) (gM i):=PS.wk (zDw he) fun E σ H q=>by
 obtain⟨ρ,Hi,R,h⟩:=q;unfold gM at h
 cases z:ρ[i]? with
 | none=>rw[z] at h;exact h.elim
 | some s=>
  rw[z] at h
  cases s with
  | own ds=>
   obtain⟨a,xs,p,h1,h2,h3,h4⟩:=R.slot i _ z;exact⟨.ref a,p,h a Hi H R.ext ⟨h3,h2,xs,h1,h4⟩⟩
  | un=>exact h.elim
  | val d=>exact h.elim
  | exc c=>exact h.elim
  | tab T=>exact h.elim
theorem iO{c:Expr}{as bs:List Stmt}(hc:PTd X G c t)(ha:dJ X G as sa)(hb:dJ X G bs sb):PSd X G (.If c as bs pos) (sIf t sa sb):=PS.wk (zPT hc ha hb) fun E σ H q=>by
 obtain⟨ρ,Hi,R,h⟩:=q;refine⟨ρ,Hi,R,kI R h fun c Hi' H' _ e h'=>?_⟩
 cases c with
 | true=>exact⟨ρ,Hi',R.grow e,h'⟩
 | false=>exact⟨ρ,Hi',R.grow e,h'⟩
theorem zPC{i:Nat}{pos':Pos}(hN:X.N.Nodup)(hi:X.N[i]?=some x)(hx:Loc X.env.scope x)(he:PEd X G e f)(hs:swapsWith e (some (.Name x pos')) pos.line X.env=pure false:=by rfl)
  (hf:X.fn x=true∨X.env.scope.names.lookup x=some .local:=by first | exact .inl rfl | exact .inr rfl | assumption):PSd X G (.Assign [.Name x pos'] e pos) (cW i f):=PS.wk (zKh hN hi hx he hs hf) fun E σ H q=>by
 obtain⟨ρ,Hi,R,h⟩:=q;exact⟨ρ,Hi,R,kI R h fun d Hi' H' _ e h' v r=>h' _ Hi' H' (Same.refl _) ((R.grow e).set r)⟩
theorem sE{i:Nat}{pos':Pos}(hN:X.N.Nodup)(hi:X.N[i]?=some x)(hx:Loc X.env.scope x)(he:PEf X G e fs)(hs:swapsWith e (some (.Name x pos')) pos.line X.env=pure false:=by rfl)
  (hf:X.fn x=true∨X.env.scope.names.lookup x=some .local:=by first | exact .inl rfl | exact .inr rfl | assumption):PSd X G (.Assign [.Name x pos'] e pos) (zBQ i fs):=PS.wk (zKh hN hi hx he hs hf) fun E σ H q=>by
 obtain⟨ρ,Hi,R,h⟩:=q;refine⟨ρ,Hi,R,kI R h fun ds Hi' H' _ e h' a n=>?_⟩
 obtain⟨n1,n2,xs,n3,n4⟩:=n;exact h' _ Hi' H' (Same.refl _) (R.setOwn e n1 n3 n2 n4)
theorem zCk{i:Nat}{o:Expr}{apos cpos:Pos}(ho:PE X o (zDg i))(he:PEd X G e f)
  (hbase:attributeBase o "append" X.env (eval o X.env)=eval o X.env:=by rfl)
  (hfew:((backTo cpos (starEach [e] X.env)).all (fun x=>!x.1) && (backToKw cpos (keywordEach [] X.env)).all (fun x=>x.1.isSome)
   && decide ([e].length+([]:List Keyword).length+(if ([]:List Keyword).isEmpty then 0 else 1)<30))=true:=by rfl)
  (hline:(apos.endLine==cpos.line)=true:=by rfl) (hs:starEach [e] X.env=(false,eval e X.env)::starEach [] X.env:=by rfl)
  (hsw:swapsWith (.Call (.Attribute o "append" apos) [e] [] cpos) none pos.line X.env=pure false:=by rfl):
  PSd X G (.Expr (.Call (.Attribute o "append" apos) [e] [] cpos) pos) (zGS i f):=
 PS.wk (xT (zIS Y6 Wq Wr pL ho (jK he nH hs) hbase hfew hline hs) hsw) fun E σ H q=>by
 obtain⟨ρ,Hi,R,h⟩:=q;unfold zGS at h
 cases z:ρ[i]? with
 | none=>rw[z] at h;exact h.elim
 | some s=>
  rw[z] at h
  cases s with
  | own ds=>
   obtain⟨a,xs,p,h1,h2,h3,h4⟩:=R.slot i _ z;refine⟨.ref a,p,.inl ⟨rfl,xs,SqL.of h1⟩,?_⟩
   refine⟨ρ,Hi,R,kI R h fun d Hi' H' _ e h' v r=>?_⟩
   have R':=R.grow e;obtain⟨g1,g2⟩:=e.out h1 h2;by_cases hz:ds.length<16777216
   ·rw[if_pos hz] at h'
    refine⟨a,xs,v,rfl,rfl,g1,by rw[h4.length];exact hz,?_⟩
    exact h' σ Hi' _ (Same.refl _) (R'.write z p ((h4.mono e.i).append (.cons r .nil)))
   ·rw[if_neg hz] at h';exact h'.elim
  | un=>exact h.elim
  | val d=>exact h.elim
  | exc c=>exact h.elim
  | tab T=>exact h.elim
theorem zNA{i:Nat}{o:Expr}{apos cpos:Pos}(ho:PE X o (zDg i))(he:PEf X G e fs)
  (hbase:attributeBase o "extend" X.env (eval o X.env)=eval o X.env:=by rfl)
  (hfew:((backTo cpos (starEach [e] X.env)).all (fun x=>!x.1) && (backToKw cpos (keywordEach [] X.env)).all (fun x=>x.1.isSome)
   && decide ([e].length+([]:List Keyword).length+(if ([]:List Keyword).isEmpty then 0 else 1)<30))=true:=by rfl)
  (hline:(apos.endLine==cpos.line)=true:=by rfl) (hs:starEach [e] X.env=(false,eval e X.env)::starEach [] X.env:=by rfl)
  (hsw:swapsWith (.Call (.Attribute o "extend" apos) [e] [] cpos) none pos.line X.env=pure false:=by rfl):
  PSd X G (.Expr (.Call (.Attribute o "extend" apos) [e] [] cpos) pos) (zMw i fs):=
 PS.wk (xT (zIS Y6 PySem.F.slot_list_extend PySem.F.type_list_extend zHX ho (jK he nH hs) hbase hfew hline hs) hsw) fun E σ H q=>by
 obtain⟨ρ,Hi,R,h⟩:=q;unfold zMw at h
 cases z:ρ[i]? with
 | none=>rw[z] at h;exact h.elim
 | some s=>
  rw[z] at h
  cases s with
  | own ds=>
   obtain⟨a,xs,p,h1,h2,h3,h4⟩:=R.slot i _ z;refine⟨.ref a,p,.inl ⟨rfl,xs,SqL.of h1⟩,?_⟩
   refine⟨ρ,Hi,R,kI R h fun es Hi' H' _ e h' b n=>?_⟩
   obtain⟨n1,n2,ys,n3,n4⟩:=n;have R':=R.grow e;obtain⟨g1,g2⟩:=e.out h1 h2;by_cases hz:ds.length+es.length<=16777216
   ·rw[if_pos hz] at h'
    refine⟨a,b,xs,ys,rfl,rfl,g1,n3,by rw[h4.length,n4.length];exact hz,?_⟩
    exact h' σ Hi' _ (Same.refl _) (R'.write z p ((h4.mono e.i).append n4))
   ·rw[if_neg hz] at h';exact h'.elim
  | un=>exact h.elim
  | val d=>exact h.elim
  | exc c=>exact h.elim
  | tab T=>exact h.elim
theorem zGM{i:Nat}{o k:Expr}{fk:Ev}{tpos:Pos}(ho:PE X o (zDg i))(hk:PEd X G k fk)(he:PEd X G e f)(hs:swapsWithSole [.Subscript o k tpos] e pos.line X.env=pure false:=by rfl)(hw:swappedStores [.Subscript o k tpos] e X.env=pure none:=by rfl)
  (h1:(assignEach [.Subscript o k tpos] X.env).map (·.2)=[assign (.Subscript o k tpos) X.env]:=by rfl)
  (ha:∀ v,assign (.Subscript o k tpos) X.env v=(do
   let ov <-holding [v] (eval o X.env)
   let iv <-holding [v,ov] (eval k X.env)
   standAt tpos
   holding [v,ov,iv] (setItem ov iv v)
   release [v,ov,iv] []):=by intro _;rfl):PSd X G (.Assign [.Subscript o k tpos] e pos) (zEF i fk f):=
 PS.wk (zNf he (zNY ho hk zIs ha) hs hw h1) fun E σ H q=>by
 obtain⟨ρ,Hi,R,h⟩:=q;refine⟨ρ,Hi,R,kI R h fun d Hi1 H1 _ e1 h1 v r=>?_⟩
 have R1:=R.grow e1
 cases z:ρ[i]? with
 | none=>rw[z] at h1;exact h1.elim
 | some s=>
  rw[z] at h1
  cases s with
  | own ds=>
   obtain⟨a,xs,p,g1,g2,g3,g4⟩:=R1.slot i _ z;refine⟨.ref a,p,?_⟩
   refine⟨ρ,Hi1,R1,kI R1 h1 fun j Hi2 H2 _ e2 h2 w rw'=>?_⟩
   have R2:=R1.grow e2;obtain⟨k1,k2⟩:=e2.out g1 g2
   cases j with
   | int j=>
    have hl:=g4.length;have h2':Fin X G Hi2 E (if 0<=j/\j<ds.length then Res.ok (.nx (ρ.set i (.own (ds.set j.toNat d)))) else if -(ds.length:Int)<=j/\j<0 then .ok (.nx (ρ.set i (.own (ds.set (j+ds.length).toNat d)))) else .no):=h2;by_cases c1:0<=j/\j<ds.length
    ·rw[if_pos c1] at h2'
     refine⟨a,xs,j,j.toNat,rfl,rw'.intI,k1,by unfold ixN;rw[if_pos c1.1,if_pos (by omega)],?_⟩
     exact h2' σ Hi2 _ (Same.refl _) (R2.write z p ((g4.mono e2.i).set (r.mono e2.i) j.toNat))
    ·rw[if_neg c1] at h2'
     by_cases c2:-(ds.length:Int)<=j/\j<0
     ·rw[if_pos c2] at h2'
      refine⟨a,xs,j,(j+ds.length).toNat,rfl,rw'.intI,k1,by unfold ixN;rw[if_neg (by omega),if_pos (by omega),hl],?_⟩
      exact h2' σ Hi2 _ (Same.refl _) (R2.write z p ((g4.mono e2.i).set (r.mono e2.i) (j+ds.length).toNat))
     ·rw[if_neg c2] at h2';exact h2'.elim
   | _=>exact h2.elim
  | un=>exact h1.elim
  | val d=>exact h1.elim
  | exc c=>exact h1.elim
  | tab T=>exact h1.elim
theorem zPJ{i:Nat}{op:Operator}{o:Op2}{r:Int->Int->Int}{pos':Pos}(hN:X.N.Nodup)(hi:X.N[i]?=some x)(hx:Loc X.env.scope x)(he:PEd X G e f)(ho:PIp X op (ipI r))(hr:∀ a b d,o a b=.ok d->∃ i j,a=.int i/\b=.int j/\d=.int (r i j))(hn:∀ a b c,o a b≠.err c)
  (hf:X.fn x=true∨X.env.scope.names.lookup x=some .local:=by first | exact .inl rfl | exact .inr rfl | assumption):PSd X G (.AugAssign (.Name x pos') op e pos) (zMQ i o f):=PS.wk (zNN hN hi hx he ho hf) fun E σ H q=>by
 obtain⟨ρ,Hi,R,h⟩:=q;unfold zMQ at h
 cases z:ρ[i]? with
 | none=>rw[z] at h;exact h.elim
 | some s=>
  rw[z] at h
  cases s with
  | val d=>
   obtain⟨v,p,rv⟩:=R.slot i _ z;refine⟨v,p,ρ,Hi,R,kI R h fun d' Hi' H' _ e h' w rw'=>?_⟩
   cases q:o d d' with
   | no=>rw[q] at h';exact h'.elim
   | err c=>exact absurd q (hn _ _ _)
   | ok u=>
    rw[q] at h';obtain⟨i',j',rfl,rfl,rfl⟩:=hr _ _ _ q;exact⟨i',j',rv.intI,rw'.intI,h' _ Hi' H' (Same.refl _) ((R.grow e).set (.int _))⟩
  | un=>exact h.elim
  | own ds=>exact h.elim
  | exc c=>exact h.elim
  | tab T=>exact h.elim
theorem dJ.frzAt(i:Nat){sts:List Stmt}(h:dJ X G sts sa):dJ X G sts (sFrzAt i sa):=PSs.wk h fun E σ H q=>by
 obtain⟨ρ,Hi,R,h⟩:=q;obtain⟨Hi',s,R'⟩:=R.frzAt (i:=i);exact⟨_,Hi',R',Fin.mono h s⟩
def tGv(X:Cx)(G:Gx)(g:Gv):TG:=fun v σ H Q=>∃ d ρ Hi,IsD X.K Hi v d/\kK X G Hi H σ ρ/\∃ ρ',g d ρ=.ok ρ'/\∀ σ' Hi' H',Same Hi Hi'->kK X G Hi' H' σ' ρ'->Q σ' H'
@[irreducible] def PGd (X:Cx) (G:Gx) (e:Expr) (g:Gv):Prop:=PG X e (tGv X G g)
unseal PGd
theorem zOy{i:Nat}(hN:X.N.Nodup)(hi:X.N[i]?=some x)(hx:Loc X.env.scope x)(hf:X.fn x=true∨X.env.scope.names.lookup x=some .local:=by first | exact .inl rfl | exact .inr rfl | assumption):PGd X G (.Name x pos) (gName i):=
 fun pins s σ H v u Q I r q=>zDb hN hi hx hf pins s σ H v u Q I r (by
  obtain⟨d,ρ,Hi,rd,R,ρ',e,k⟩:=q;cases e
  exact k _ Hi H (Same.refl _) (R.set rd))
def zQU(X:Cx)(G:Gx)(g:List D->Rho->Res Rho):TGs:=fun vs σ H Q=>∃ ds ρ Hi,IsDs X.K Hi vs ds/\kK X G Hi H σ ρ/\∃ ρ',g ds ρ=.ok ρ'/\∀ σ' Hi' H',Same Hi Hi'->kK X G Hi' H' σ' ρ'->Q σ' H'
@[irreducible] def gH (X:Cx) (G:Gx) (es:List Expr) (g:List D->Rho->Res Rho):Prop:=PGs X es (zQU X G g)
unseal gH
theorem zGG:gH X G [] zAx:=fun pins s σ H vs us Q I r q=>zFx pins s σ H vs us Q I r (by
  obtain⟨ds,ρ,Hi,rd,R,ρ',e,k⟩:=q
  cases ds with
  | nil=>cases rd;cases e;exact⟨rfl,k _ Hi H (Same.refl _) R⟩
  | cons d ds=>cases e)
theorem pY{g:Gv}{r:List D->Rho->Res Rho}(h1:PGd X G e g)(h2:gH X G es r)(hs:(assignEach (e::es) X.env).map (·.2)=assign e X.env::(assignEach es X.env).map (·.2):=by rfl):gH X G (e::es) (fH g r):=
 fun pins s σ H vs us Q I rr q=>yE h1 h2 hs pins s σ H vs us Q I rr (by
  obtain⟨ds,ρ,Hi,rd,R,ρ',e,k⟩:=q
  cases ds with
  | nil=>cases e
  | cons d ds=>
   cases rd with
   | cons rd rds=>
    refine⟨_,_,rfl,d,ρ,Hi,rd,R,?_⟩
    have e':(g d ρ).bind (fun ρ'=>r ds ρ')=.ok ρ':=e
    cases z:g d ρ with
    | no=>rw[z] at e';cases e'
    | err c=>rw[z] at e';cases e'
    | ok ρ1=>
     rw[z] at e'
     exact⟨ρ1,rfl,fun σ1 Hi1 H1 s1 R1=>⟨ds,ρ1,Hi1,rds.mono s1,R1,ρ',e',fun σ2 Hi2 H2 s2 R2=>k σ2 Hi2 H2 (s1.trans s2) R2⟩⟩)
theorem zMs{k:Nat}{r:List D->Rho->Res Rho}{n:Nat}(hc:X.calm=true)(h:gH X G es r)(hr:∀ ds ρ ρ',r ds ρ=.ok ρ'->ds.length=n)(hn:(assignEach es X.env).length=n:=by rfl)(hst:(assignEach es X.env).findIdx? (·.1)=none:=by rfl):PGd X G (.Tuple es k pos) (zBc r):=
 fun pins s σ H v u Q I rr q=>zJI hc h hn hst pins s σ H v u Q I rr (by
  obtain⟨d,ρ,Hi,rd,R,ρ',e,kk⟩:=q
  cases d with
  | tup ds=>
   obtain⟨a,xs,rfl,h1,h2⟩:=rd.tupI;exact⟨a,xs,rfl,bV R.s h1,by rw[h2.length];exact hr ds ρ ρ' e,ds,ρ,Hi,h2,R,ρ',e,kk⟩
  | _=>cases e)
def vM(K:PySem.W.Frag)(Hi:Hp)(J:It)(ds:List D):Prop:=∀(Hi1 H1:Hp),Same Hi Hi1->Same Hi1 H1->∀ i,
 (ds.length<=i->J.stop i H1)/\∀ d,ds[i]?=some d->J.go i H1/\∀ x H2,J.yld i H1 x H2->∃ Hi2,Ext Hi1 H1 Hi2 H2/\IsD K Hi2 x d
def tIv(X:Cx)(G:Gx)(f:Fv):TI:=fun σ H R=>∃ ρ Hi,kK X G Hi H σ ρ/\Out G Hi H (f ρ) fun ds Hi' H'=>∀ J,vM X.K Hi' J ds->R J H'
@[irreducible] def PId (X:Cx) (G:Gx) (tg e:Expr) (f:Fv):Prop:=PI X tg e (tIv X G f)
unseal PId
theorem PI.wk{tg:Expr}{t t':TI}(h:PI X tg e t)(w:∀ σ H Q,t' σ H Q->t σ H Q):PI X tg e t':=fun pins s σ H Q I q=>h pins s σ H Q I (w σ H Q q)
theorem zJQ{g:Gv}{J:It}{ds:List D}{Hi1 H1:Hp}{σ:St}{ρ:Rho}{E:Ends}(hge:∀ d ρ c,g d ρ≠.err c)(R1:kK X G Hi1 H1 σ ρ)(h1:Fin X G Hi1 E (loop g sa ds ρ))(gv:vM X.K Hi1 J ds):zQx (fun _ _ R=>R J H1) (tGv X G g) (tS X G sa) E σ H1:=by
 refine⟨fun i m σ' H'=>m=ds.length-i/\∃ ρ' Hi',Same Hi1 Hi'/\kK X G Hi' H' σ' ρ'/\Fin X G Hi' E (loop g sa (ds.drop i) ρ'),⟨_,rfl,ρ,Hi1,Same.refl _,R1,h1⟩,?_⟩
 rintro i m σ' H' ⟨rfl,ρ',Hi',s',R',h'⟩
 obtain⟨w1,w2⟩:=gv Hi' H' s' R'.s i;by_cases hl:i<ds.length
 ·obtain⟨d,hd⟩:∃ d,ds[i]?=some d:=⟨_,Qk hl⟩
  obtain⟨go,yl⟩:=w2 d hd
  have e3:ds.drop i=d::ds.drop (i+1):=by
   rw[Qk hl] at hd;cases hd;exact U1 hl
  rw[e3] at h';refine .inr ⟨go,fun σ2 H2=>∃ ρ2 Hi2,Same Hi1 Hi2/\kK X G Hi2 H2 σ2 ρ2/\Fin X G Hi2 E (loop g sa (ds.drop (i+1)) ρ2),fun σ2 H2 z=>⟨ds.length-(i+1),by omega,rfl,z⟩,fun x H2 y=>?_⟩
  obtain⟨Hi2,e2,r2⟩:=yl x H2 y;have R2:=R'.grow e2
  have h2:Fin X G Hi2 E ((g d ρ').bind fun ρ1=>(sa ρ1).bind fun f=>match f with
   | .nx ρ2=>loop g sa (ds.drop (i+1)) ρ2
   | .ctn ρ2=>loop g sa (ds.drop (i+1)) ρ2
   | .brk ρ2=>.ok (.nx ρ2)
   | .ret r=>.ok (.ret r)):=Fin.mono h' e2.i
  cases z:g d ρ' with
  | no=>rw[z] at h2;exact h2.elim
  | err c=>exact absurd z (hge _ _ _)
  | ok ρ1=>
   rw[z] at h2;refine⟨d,ρ',Hi2,r2,R2,ρ1,z,fun σ3 Hi3 H3 s3 R3=>⟨ρ1,Hi3,R3,?_⟩⟩
   have h3:=Fin.mono h2 s3;have sm:Same Hi1 Hi3:=(s'.trans e2.i).trans s3;simp only[Res.bind] at h3
   cases zb:sa ρ1 with
   | no=>rw[zb] at h3;exact h3.elim
   | err c=>rw[zb] at h3;exact h3
   | ok fl=>
    rw[zb] at h3
    cases fl with
    | nx ρ2=>exact fun σ4 Hi4 H4 s4 R4=>⟨ρ2,Hi4,sm.trans s4,R4,Fin.mono (show Fin X G Hi3 E (loop g sa (ds.drop (i+1)) ρ2) from h3) s4⟩
    | ctn ρ2=>exact fun σ4 Hi4 H4 s4 R4=>⟨ρ2,Hi4,sm.trans s4,R4,Fin.mono (show Fin X G Hi3 E (loop g sa (ds.drop (i+1)) ρ2) from h3) s4⟩
    | brk ρ2=>exact h3
    | ret r=>cases r<;>exact h3
 ·rw[Yt (by omega)] at h'
  exact .inl ⟨w1 (by omega),h' σ' Hi' H' (Same.refl _) R'⟩
theorem iN{tg iter:Expr}{body:List Stmt}{it:Fv}{g:Gv}(hp:PassesOwn (model X.prog X.w) X.A X.env X.xe)(hc:X.calm=true)(hi:PId X G tg iter it)(hg:PGd X G tg g)(hge:∀ d ρ c,g d ρ≠.err c)(hb:dJ X G body sa)
  (hs:∀ x,foldedSetIterable iter X.env x=pure x:=by intro _;rfl):PSd X G (.For tg iter body [] pos) (rX it g sa):=PS.wk (zJM hp hc hi hg hb hs) fun E σ H q=>by
 obtain⟨ρ,Hi,R,h⟩:=q;exact⟨ρ,Hi,R,kI R h fun ds Hi1 H1 _ e1 h1 J gv=>zJQ hge (R.grow e1) h1 gv⟩
theorem zHl{c:Expr}{body:List Stmt}(hp:PassesOwn (model X.prog X.w) X.A X.env X.xe)(hc:PTd X G c t)(hb:dJ X G body sa):PSd X G (.While c body [] pos) (fE t sa):=PS.wk (zIZ hp hc hb) fun E σ H q=>by
 obtain⟨ρ,Hi,R,h⟩:=q;have hn:fE t sa ρ≠.no:=fun z=>by rw[z] at h;exact h
 obtain⟨n,en⟩:=nR hn;rw[en] at h;refine⟨fun m σ' H'=>∃ ρ' Hi',Same Hi Hi'/\kK X G Hi' H' σ' ρ'/\Fin X G Hi' E (wh t sa m ρ'),⟨n,ρ,Hi,Same.refl _,R,h⟩,?_⟩
 rintro m σ' H' ⟨ρ',Hi',s',R',h'⟩
 cases m with
 | zero=>exact h'.elim
 | succ m=>
  rw[wh] at h';refine⟨ρ',Hi',R',kI R' h' fun c Hi1 H1 _ e1 h1=>?_⟩
  have R1:=R'.grow e1
  cases c with
  | false=>exact h1 σ' Hi1 H1 (Same.refl _) R1
  | true=>
   refine⟨fun σ2 H2=>∃ ρ2 Hi2,Same Hi Hi2/\kK X G Hi2 H2 σ2 ρ2/\Fin X G Hi2 E (wh t sa m ρ2),fun σ2 H2 z=>⟨m,by omega,z⟩,ρ',Hi1,R1,?_⟩
   have sm:Same Hi Hi1:=s'.trans e1.i;simp only[if_true] at h1
   cases zb:sa ρ' with
   | no=>rw[zb] at h1;exact h1.elim
   | err c=>rw[zb] at h1;exact h1
   | ok fl=>
    rw[zb] at h1
    cases fl with
    | nx ρ2=>exact fun σ4 Hi4 H4 s4 R4=>⟨ρ2,Hi4,sm.trans s4,R4,Fin.mono (show Fin X G Hi1 E (wh t sa m ρ2) from h1) s4⟩
    | ctn ρ2=>exact fun σ4 Hi4 H4 s4 R4=>⟨ρ2,Hi4,sm.trans s4,R4,Fin.mono (show Fin X G Hi1 E (wh t sa m ρ2) from h1) s4⟩
    | brk ρ2=>exact h1
    | ret r=>cases r<;>exact h1
theorem zFM{K:Fg_}{Hi:Hp}{a:Addr}{xs:List V}{ds:List D}(h:SqT K Hi a xs)(hs:IsDs K Hi xs ds):vM K Hi (Itt K a) ds:=fun Hi1 H1 s1 s2 i=>by
 have h1:=bV (s1.trans s2) h;refine⟨fun hl=>⟨xs,h1,by rw[hs.length];exact hl⟩,fun d hd=>?_⟩
 obtain⟨v,hv,r⟩:=hs.at hd;refine⟨⟨xs,v,h1,hv⟩,fun x H2 y=>?_⟩
 obtain⟨e,y⟩:=y;subst e;have:=y xs h1
 rw[hv] at this;cases this;exact⟨Hi1,Ext.refl s2,r.mono s1⟩
theorem zLj{lo c:Int}{n i:Nat}{d:D}(h:(rng lo n c)[i]?=some d):i<n/\d=.int (lo+(i:Int)*c):=by
 unfold rng at h;rw[Qr] at h;by_cases hl:i<n
 ·rw[Xo hl] at h;cases h;exact⟨hl,rfl⟩
 ·rw[Qz (by rw[Qu];omega)] at h;cases h
theorem zKK(lo c:Int)(n:Nat):(rng lo n c).length=n:=by unfold rng;rw[Qd,Qu]
theorem zBk{K:Fg_}{Hi:Hp}(lo:Int)(n:Nat):vM K Hi (Itr lo n) (rng lo n 1):=fun Hi1 H1 s1 s2 i=>by
 refine⟨fun hl=>by rw[zKK] at hl;exact hl,fun d hd=>?_⟩
 obtain⟨h1,rfl⟩:=zLj hd;refine⟨h1,fun x H2 y=>?_⟩
 obtain⟨e,y⟩:=y;subst e y;rw[Vx];exact⟨Hi1,Ext.refl s2,.int _⟩
theorem zAz{tg:Expr}(hg:Gl X "range")(hm:X.mg "range" = none)(ha:PAd X G [a] fs)(hs:starEach [a] X.env=[(false,eval a X.env)]:=by rfl):PId X G tg (.Call (.Name "range" p) [a] [] pos) (zB fs):=PI.wk (zFC hg hm ha hs) fun σ H Q q=>by
 obtain⟨ρ,Hi,R,ou⟩:=q;refine zIj R ou fun vs ds Hi1 H1 e1 R1 r1 o1=>?_
 split at o1
 ·rename_i j
  obtain⟨v,rfl,h⟩:=r1.one;by_cases hz:-(2^62)<=j/\j<2^62
  ·rw[if_pos hz] at o1
   exact⟨j,by rw[h.intI],hz.1,hz.2,o1.here R1.s _ (zBk 0 j.toNat)⟩
  ·rw[if_neg hz] at o1;exact o1.elim
 ·exact o1.elim
theorem zKa{tg:Expr}(hg:Gl X "range")(hm:X.mg "range" = none)(ha:PAd X G [a,b] fs)(hs:starEach [a,b] X.env=[(false,eval a X.env),(false,eval b X.env)]:=by rfl)(hs2:starEach [b] X.env=[(false,eval b X.env)]:=by rfl):PId X G tg (.Call (.Name "range" p) [a,b] [] pos) (zFf fs):=PI.wk (zGe hg hm ha hs hs2) fun σ H Q q=>by
 obtain⟨ρ,Hi,R,ou⟩:=q;refine zIj R ou fun vs ds Hi1 H1 e1 R1 r1 o1=>?_
 split at o1
 ·rename_i i j
  obtain⟨v,w,rfl,h,h'⟩:=r1.two;by_cases hz:-(2^62)<=i/\i<2^62/\-(2^62)<=j/\j<2^62
  ·rw[if_pos hz] at o1
   exact⟨i,j,by rw[h.intI,h'.intI],hz,o1.here R1.s _ (zBk i (j-i).toNat)⟩
  ·rw[if_neg hz] at o1;exact o1.elim
 ·exact o1.elim
end
end L3
namespace L3
open PySem PySem.Spec PyProof.Rows L2
unseal PEd PEf PTd PWd PAd PSd dJ POd PGd gH PId
structure Fn (K:PySem.W.Frag) (mg:Str->Option Value) (x:Str) (st:Stmt) (ps:List Str) (f:Addr) (fd:FuncData):Prop where
 fn:Fun K x x st f fd
 bd:zAe K fd ps []
 kp:PySem.W.keepIn K (.ref f)=true
 mg:mg x=some (.ref f)
def XE(X:Cx)(G:Gx):XK:=fun cls _ H=>∃ c,X.mg c=some cls/\G.E c H
def oX(K:PySem.W.Frag)(mg:Str->Option Value)(P:Addr):Prop:=∃ f oc od fd osl c,mg "ranked" = some (.ref f)/\K.lookup f=some ⟨oc,od,.func fd,osl⟩/\fd.code=.ref c/\∀ h,K.In h->PySem.W.CodeHd h c P
def TB(K:PySem.W.Frag)(mg:Str->Option Value)(Hi H:Hp):Prop:=∀ P,oX K mg P->zAv P H/\Hi P=none
theorem TB.ext{K:Fg_}{mg:Str->Option Value}{Hi H Hi' H':Hp}(t:TB K mg Hi H)(e:Ext Hi H Hi' H'):TB K mg Hi' H':=fun P h=>⟨e.h.t P (t P h).1,by
 cases z:Hi' P with
 | none=>rfl
 | some o=>
  obtain⟨⟨ps,q,_⟩,n⟩:=t P h;have:=e.n P n (by rw[z];exact fun w=>by cases w)
  rw[q] at this;cases this⟩
structure Good (X:Cx) (G:Gx) (k:Nat):Prop where
 calm:X.calm=true
 room:Room k X.A
 pass:zDD (CX1 X.prog X.w) X (XE X G)
 own:PassesOwn (model X.prog X.w) X.A X.env X.xe
 tb:TB X.K X.mg G.Bi G.B
def zEI(X:Cx)(G:Gx):Prop:=∀(pins:List (Addr×Obj))(σ:St)(H:Hp)(s s':Shared)(ea:Addr)(cls:Value)(vs:List Value),Inv X pins σ H s->Heap.MadeExcOf s.heap s'.heap ea cls vs->s'.os=s.os->AllBare s'.gens->XE X G cls none H->X.xe (.ref ea) s'
def spM(K:PySem.W.Frag)(mg:Str->Option Value)(p:Nat)(m:Mir):Sp:=fun vs H Q E=>vs.length=p/\∃ Bi ds,TB K mg Bi H/\Same Bi H/\IsDs K Bi vs ds/\match m ds with
 | .ok (.v d)=>∀ v Hi' H',Ext Bi H Hi' H'->IsD K Hi' v d->Q v H'
 | .ok (.f es)=>∀ a Hi' H',Ext Bi H Hi' H'->zJj K H Hi' H' a es->Q (.ref a) H'
 | .err c=>∀ C,mg c=some C->∀ Hi' H',Ext Bi H Hi' H'->E C none H'
 | .no=>False
structure CanM (P:Program) (w:World) (K:PySem.W.Frag) (mg:Str->Option Value) (base:Heap) (k:Nat) (x:Str) (ps:List Str) (m:Mir):Prop where
 ex:∃ f fd,FnOk P w K mg base (CX1 P w) k f fd ps (spM K mg ps.length m)/\zAe K fd ps []/\PySem.W.keepIn K (.ref f)=true/\mg x=some (.ref f)
 ln:∀ ds,m ds≠.no->ds.length=ps.length
theorem Good.u{X:Cx}{G:Gx}{k:Nat}(W:Good X G k):X.A.units+64<cLine:=W.room.units
theorem CanM.mono{P:Program}{w:World}{K:Fg_}{mg:Str->Option Value}{base:Heap}{j k:Nat}{x:Str}{ps:List Str}{m:Mir}(c:CanM P w K mg base j x ps m)(h:j<=k):CanM P w K mg base k x ps m:=by
 obtain⟨⟨f,fd,F,r⟩,l⟩:=c;exact⟨⟨f,fd,F.mono h,r⟩,l⟩
section
variable{X:Cx}{G:Gx}{a b e:Expr}{es:List Expr}{pos p:Pos}{f g:Ev}{fs gs:Fv}{t u:Tv}{x:Str}{st:Stmt}{rest:List Stmt}{sa sb:Sv}{k:Nat}{ps:List Str}{m:Mir}
theorem zNm{ps:List Str}(tb:TB X.K X.mg G.Bi G.B)(ln:∀ ds,m ds≠.no->ds.length=ps.length):∀ σ H Q,tD X G (aN m fs) σ H Q->zLS (spM X.K X.mg ps.length m) [] (XE X G) (tAs X G fs) σ H Q:=fun σ H Q q=>by
 obtain⟨ρ,Hi,R,ou⟩:=q;refine zIj R ou fun vs ds Hi1 H1 e1 R1 r1 o1=>?_
 rw[Q3];have hm:m ds≠.no:=fun z=>by rw[z] at o1;exact o1
 refine⟨by rw[r1.length];exact ln ds hm,Hi1,ds,tb.ext R1.ext,R1.s,r1,?_⟩
 cases z:m ds with
 | no=>exact absurd z hm
 | err c=>rw[z] at o1;exact fun C hC Hi2 H2 e2=>⟨c,hC,o1 Hi2 H2 e2⟩
 | ok r=>
  rw[z] at o1
  cases r with
  | v d=>exact fun v Hi2 H2 e2 r2=>o1 Hi2 H2 e2 v r2
  | f ds=>
   intro a Hi2 H2 e2 n;obtain⟨n1,n2,xs,n3,n4⟩:=n;exact o1 _ _ (e2.hold n1 n3 n2) (.ref a) (.lst (SqL.of aS) (n4.mono (cA n2 _)))
theorem aG(W:Good X G k)(c:CanM X.prog X.w X.K X.mg X.base k x ps m)(hg:Gl X x)(ha:PAd X G (e::es) fs)
  (hdb:(x==("__debug__" : Str))=false:=by decide) (he:starEach (e::es) X.env=(false,eval e X.env)::starEach es X.env:=by rfl) (hpl:(backTo pos (starEach es X.env)).any (·.1)=false:=by rfl):
  PEd X G (.Call (.Name x p) (e::es) [] pos) (aN m fs):=by
 obtain⟨⟨f,fd,F,b,kp,hm⟩,ln⟩:=c;exact PE.wk (zCr F W.room hg hm kp b .nil W.pass ha hdb he hpl) (zNm W.tb ln)
theorem zLE{ps:List Str}(tb:TB X.K X.mg G.Bi G.B)(ln:∀ ds,m ds≠.no->ds.length=ps.length):∀ σ H Q,tF X G (eA m fs) σ H Q->zLS (spM X.K X.mg ps.length m) [] (XE X G) (tAs X G fs) σ H Q:=fun σ H Q q=>by
 obtain⟨ρ,Hi,R,ou⟩:=q;refine zIj R ou fun vs ds Hi1 H1 e1 R1 r1 o1=>?_
 rw[Q3];have hm:m ds≠.no:=fun z=>by rw[z] at o1;exact o1
 refine⟨by rw[r1.length];exact ln ds hm,Hi1,ds,tb.ext R1.ext,R1.s,r1,?_⟩
 cases z:m ds with
 | no=>exact absurd z hm
 | err c=>rw[z] at o1;exact fun C hC Hi2 H2 e2=>⟨c,hC,o1 Hi2 H2 e2⟩
 | ok r=>
  rw[z] at o1
  cases r with
  | v d=>exact o1.elim
  | f ds=>exact fun a Hi2 H2 e2 n=>o1 Hi2 H2 e2 a ⟨e1.h.none n.1,n.2⟩
theorem bT(W:Good X G k)(c:CanM X.prog X.w X.K X.mg X.base k x ps m)(hg:Gl X x)(ha:PAd X G (e::es) fs)
  (hdb:(x==("__debug__" : Str))=false:=by decide) (he:starEach (e::es) X.env=(false,eval e X.env)::starEach es X.env:=by rfl) (hpl:(backTo pos (starEach es X.env)).any (·.1)=false:=by rfl):
  PEf X G (.Call (.Name x p) (e::es) [] pos) (eA m fs):=by
 obtain⟨⟨f,fd,F,b,kp,hm⟩,ln⟩:=c;exact PE.wk (zCr F W.room hg hm kp b .nil W.pass ha hdb he hpl) (zLE W.tb ln)
theorem eJ{d:D}(hg:Gl X x)(h:∃ v u',X.mg x=some u'/\cV v u'/\IsD X.K (fun _=>none) v d)(hdb:(x==("__debug__" : Str))=false:=by decide):PEd X G (.Name x pos) (eC d):=by
 obtain⟨v,u',hm,r,hd⟩:=h;exact pG (zGw hg hm r hdb) fun H=>hd.mono fun b o z=>by cases z
end
abbrev BX(P:Program)(w:World)(K:PySem.W.Frag)(mg:Str->Option Value)(base:Heap)(N:List Str)(x:Str)(st:Stmt)(f:Addr)(cdv:Value)(A:Around)(outer:List Env)(s:Shared)(H:Hp)(E:XK):Cx:=
 zEN (CX1 P w) P w K mg base N x (aF st) f cdv A outer s H E
theorem zAc{K:Fg_}{mg:Str->Option Value}{Bi H:Hp}{N:List Str}{vs:List V}{ds:List D}(s:Same Bi H)(h:IsDs K Bi vs ds):Rel K mg H Bi Bi H (L2.start N vs) (L3.start N.length ds) where
 len:=by
  unfold L2.start L3.start;rw[Qi,Qi,Qd,Qd,Xy,Xy,h.length]
 ext:=Ext.refl s
 slot:=fun i sl e=>by
  unfold L3.start at e;by_cases hi:i<ds.length
  ·rw[Vl (by rw[Qd];exact hi),Qr] at e
   obtain⟨d,hd⟩:∃ d,ds[i]?=some d:=⟨_,Qk hi⟩;rw[hd] at e;cases e
   obtain⟨v,hv,r⟩:=h.at hd;refine⟨v,?_,r⟩
   unfold L2.start;rw[Vl (by rw[Qd,h.length];exact hi),Qr,hv];rfl
  ·rw[Vy (by rw[Qd];omega),Um] at e
   split at e
   ·cases e;trivial
   ·cases e
 dist:=fun i j a es fs e _ _ _=>by
  exfalso
  unfold L3.start at e;by_cases hi:i<ds.length
  ·rw[Vl (by rw[Qd];exact hi),Qr] at e
   cases z:ds[i]? with
   | none=>rw[z] at e;cases e
   | some d=>rw[z] at e;cases e
  ·rw[Vy (by rw[Qd];omega),Um] at e
   split at e<;>cases e
section
variable{P:Program}{w:World}{K:Fg_}{mg:Str->Option Value}{base:Heap}{N ps:List Str}{x:Str}{st:Stmt}{f:Addr}{fd:FuncData}{k:Nat}{b:Sv}
theorem zGY{cdv:Value}{A:Around}{outer:List Env}{s:Shared}{H Bi:Hp}{E:XK}(hr:Room k (A.deeper (envOfC x (aF st) s.heap.objs.size f cdv)))(tb:TB K mg Bi H):
  Good (BX P w K mg base N x st f cdv A outer s H E) ⟨H,Bi,fun c H'=>∀ C,mg c=some C->E C none H'⟩ k where
 calm:=rfl
 room:=hr
 pass:=zPZ fun c H' q=>by
  obtain⟨c',h1,h2⟩:=q;exact h2 c h1
 own:=PassesOwn.leaving
 tb:=tb
theorem zDm{cdv:Value}{A:Around}{outer:List Env}{s:Shared}{H Bi:Hp}{E:XK}:
  zEI (BX P w K mg base N x st f cdv A outer s H E) ⟨H,Bi,fun c H'=>∀ C,mg c=some C->E C none H'⟩:=fun pins σ H1 s1 s' ea cls vs I hx hos hg q=>by
 obtain⟨c',h1,h2⟩:=q;exact zDa I hx hos hg (h2 cls h1)
theorem zOh(F:Fn K mg x st ps f fd)(S:FnScope N ps (aF st))
  (h:∀(cdv:Value)(A:Around)(outer:List Env)(s:Shared)(H:Hp)(E:XK)(G:Gx),Good (BX P w K mg base N x st f cdv A outer s H E) G k->zEI (BX P w K mg base N x st f cdv A outer s H E) G->dJ (BX P w K mg base N x st f cdv A outer s H E) G (eI st) b):
  FnOk P w K mg base (CX1 P w) (k+1) f fd ps (spM K mg ps.length (fn ps.length N.length b)):=by
 obtain⟨oc,od,kV,doc,pm,an,cdv,ct,osl,rfl,lk,hcd⟩:=F.fn.ex;refine zNl lk hcd S (fun vs H Q E h=>h.1) fun A outer s H vs Q E hr hsp=>?_
 obtain⟨hl,Bi,ds,tb,sm,hd,hq⟩:=hsp;have hg:=zGY (P:=P) (w:=w) (K:=K) (mg:=mg) (base:=base) (N:=N) (outer:=outer) (H:=H) (Bi:=Bi) (E:=E) hr tb;refine⟨_,h cdv A outer s H E _ hg zDm,L3.start N.length ds,Bi,zAc sm hd,?_⟩
 have hlen:ds.length=ps.length:=by rw[<-hd.length];exact hl
 unfold fn at hq;rw[if_pos hlen] at hq
 cases z:b (L3.start N.length ds) with
 | no=>rw[z] at hq;exact hq
 | err c=>rw[z] at hq;exact fun Hi' H' e C hC=>hq C hC Hi' H' e
 | ok fl=>
  rw[z] at hq
  cases fl with
  | nx ρ'=>exact fun σ' Hi' H' s R=>hq .non Hi' H' R.ext .non
  | brk ρ'=>exact hq.elim
  | ctn ρ'=>exact hq.elim
  | ret r=>
   cases r with
   | v d=>exact hq
   | f es=>exact hq
theorem mG(F:Fn K mg x st ps f fd)(S:FnScope N ps (aF st))
  (h:∀(cdv:Value)(A:Around)(outer:List Env)(s:Shared)(H:Hp)(E:XK)(G:Gx),Good (BX P w K mg base N x st f cdv A outer s H E) G k->zEI (BX P w K mg base N x st f cdv A outer s H E) G->dJ (BX P w K mg base N x st f cdv A outer s H E) G (eI st) b):
  CanM P w K mg base (k+1) x ps (fn ps.length N.length b):=by
 refine⟨⟨f,fd,zOh F S h,F.bd,F.kp,F.mg⟩,fun ds hm=>?_⟩
 unfold fn at hm;split at hm
 ·assumption
 ·exact absurd rfl hm
end
section
variable{X:Cx}{G:Gx}{a b e:Expr}{es:List Expr}{pos p:Pos}{f g:Ev}{fs gs:Fv}{t u:Tv}{x:Str}{st:Stmt}{rest:List Stmt}{sa sb:Sv}{k:Nat}
theorem xL{c:Expr}(ha:PEd X G a f)(hc:PE X c (tC .non))(hm:behindInMarks .IsNot c=false):PTd X G (.Compare a [.IsNot] [c] pos) (dL (zEU f)):=PT.wk (zCS zLK ha hc hm) fun σ H Q q=>by
 obtain⟨ρ,Hi,R,ou⟩:=q;unfold dL zEU at ou
 cases z:f ρ with
 | no=>rw[z] at ou;exact ou.elim
 | err c=>rw[z] at ou;exact⟨ρ,Hi,R,by rw[z];exact ou⟩
 | ok d=>
  rw[z] at ou;refine⟨ρ,Hi,R,?_⟩
  rw[z];intro Hi1 H1 e1 v r;exact⟨rfl,_,rfl,by rw[zLL r];exact ou Hi1 H1 e1⟩
theorem PTd.frz(h:PTd X G e t):PTd X G e (tFrzB t):=PT.wk h fun σ H Q q=>by
 obtain⟨ρ,Hi,R,ou⟩:=q;obtain⟨Hf,s1,R1,fl⟩:=R.frz;refine⟨ρ.map Sl.frz,Hf,R1,?_⟩
 unfold tFrzB at ou
 cases z:t (ρ.map Sl.frz) with
 | no=>rw[z] at ou;exact ou
 | err c=>
  rw[z] at ou;intro Hi1 H1 e1;obtain⟨Ht,e2,k,s2,n⟩:=Ext.thaw s1 fl R1.s e1;exact ou Ht H1 e2
 | ok c=>
  rw[z] at ou;intro Hi1 H1 e1;obtain⟨Ht,e2,k,s2,n⟩:=Ext.thaw s1 fl R1.s e1;exact ou Ht H1 e2
def iSq(K:PySem.W.Frag)(tl:TE):TI:=fun σ H R=>tl σ H fun x H1=>∃ a,x=.ref a/\(((∃ xs,SqL K H1 a xs)/\R (Itl K a) H1)∨((∃ xs,SqT K H1 a xs)/\R (Itt K a) H1))
theorem zNB{tg l:Expr}{tl:TE}(hl:PE X l tl):PI X tg l (iSq X.K tl):=by
 intro pins s σ H R I h;refine thn (hl pins s σ H _ I h) fun v s1 ⟨x,H1,I1,r1,q1⟩=>?_
 obtain⟨a,e,q1⟩:=q1;subst e;cases r1;rcases q1 with⟨⟨xs,hq⟩,q⟩ | ⟨⟨xs,hq⟩,q⟩
 ·obtain⟨its,rv,p,hz⟩:=I1.list hq
  refine wpAny_pyIter_list p.isList ?_
  refine⟨s1.heap.objs.size,[s1.heap.objs.size],_,_,H1,rfl,I1.kept (t':=s1.toks) fun b o e=>Heap.get?_push_of_some _ e,zAy a _,⟨_,Heap.get?_push_size _ rfl,rfl,rfl⟩,fun b hb=>?_,q⟩
  have e:b=s1.heap.objs.size:=by simpa using hb
  subst e;exact I1.fpOk (Qb _) (I1.hok.fresh (Qb _))
 ·obtain⟨its,rv,p,hz⟩:=I1.tuple hq
  refine wpAny_pyIter_tuple (show s1.heap.IsTuple a its.toArray from p) ?_
  refine⟨s1.heap.objs.size,[s1.heap.objs.size],_,_,H1,rfl,I1.kept (t':=s1.toks) fun b o e=>Heap.get?_push_of_some _ e,zEJ a _,⟨_,Heap.get?_push_size _ rfl,rfl,rfl⟩,fun b hb=>?_,q⟩
  have e:b=s1.heap.objs.size:=by simpa using hb
  subst e;exact I1.fpOk (Qb _) (I1.hok.fresh (Qb _))
theorem zBa{K:Fg_}{Hi:Hp}{a:Addr}{xs:List V}{ds:List D}(h1:SqL K Hi a xs)(h2:IsDs K Hi xs ds):vM K Hi (Itl K a) ds:=fun Hi1 H1 s1 s2 i=>by
 have h3:=cH (s1.trans s2) h1;refine⟨fun hl=>⟨xs,h3,by rw[h2.length];exact hl⟩,fun d hd=>?_⟩
 obtain⟨v,hv,r⟩:=h2.at hd;refine⟨⟨xs,v,h3,hv⟩,fun x H2 y=>?_⟩
 obtain⟨e,y⟩:=y;subst e;have:=y xs h3
 rw[hv] at this;cases this;exact⟨Hi1,Ext.refl s2,r.mono s1⟩
theorem jY{tg:Expr}(h:PEd X G e f):PId X G tg e (uW f):=PI.wk (zNB h) fun σ H Q q=>by
 obtain⟨ρ,Hi,R,ou⟩:=q;refine zDV R ou fun v d Hi1 H1 e1 R1 r1 o1=>?_
 cases d with
 | lst ds=>
  obtain⟨a,xs,rfl,h1,h2⟩:=r1.lstI;exact⟨a,rfl,.inl ⟨⟨xs,cH R1.s h1⟩,o1.here R1.s _ (zBa h1 h2)⟩⟩
 | tup ds=>
  obtain⟨a,xs,rfl,h1,h2⟩:=r1.tupI;exact⟨a,rfl,.inr ⟨⟨xs,bV R1.s h1⟩,o1.here R1.s _ (zFM h1 h2)⟩⟩
 | _=>exact o1.elim
theorem bG{i:Nat}:∀ d ρ c,gName i d ρ≠.err c:=fun d ρ c z=>by cases z
theorem zCx:∀ d ρ c,zAx d ρ≠.err c:=fun d ρ c z=>by cases d<;>cases z
theorem mP{g:Gv}{r:List D->Rho->Res Rho}(h1:∀ d ρ c,g d ρ≠.err c)(h2:∀ d ρ c,r d ρ≠.err c):∀ d ρ c,fH g r d ρ≠.err c:=fun d ρ c z=>by
 cases d with
 | nil=>cases z
 | cons d ds=>
  have z':(g d ρ).bind (fun ρ'=>r ds ρ')=.err c:=z
  cases q:g d ρ with
  | no=>rw[q] at z';cases z'
  | err c'=>exact h1 _ _ _ q
  | ok ρ'=>rw[q] at z';exact h2 _ _ _ z'
theorem zCg{r:List D->Rho->Res Rho}(h:∀ d ρ c,r d ρ≠.err c):∀ d ρ c,zBc r d ρ≠.err c:=fun d ρ c z=>by
 cases d<;>first | cases z | exact h _ _ _ z
theorem zGV:∀(ds:List D)(ρ ρ':Rho),zAx ds ρ=.ok ρ'->ds.length=0:=fun ds ρ ρ' z=>by
 cases ds with
 | nil=>rfl
 | cons d ds=>cases z
theorem rB{g:Gv}{r:List D->Rho->Res Rho}{n:Nat}(h:∀ (ds:List D) (ρ ρ':Rho),r ds ρ=.ok ρ'->ds.length=n):∀(ds:List D)(ρ ρ':Rho),fH g r ds ρ=.ok ρ'->ds.length=n+1:=fun ds ρ ρ' z=>by
 cases ds with
 | nil=>cases z
 | cons d ds=>
  have z':(g d ρ).bind (fun ρ'=>r ds ρ')=.ok ρ':=z
  cases q:g d ρ with
  | no=>rw[q] at z';cases z'
  | err c'=>rw[q] at z';cases z'
  | ok ρ1=>rw[q] at z';rw[Ql,h ds ρ1 ρ' z']
theorem zKC:∀ a b d,zBS a b=.ok d->∃ i j,a=.int i/\b=.int j/\d=.int (i-j):=fun a b d z=>by
 unfold zBS at z;split at z
 ·cases z;exact⟨_,_,rfl,rfl,rfl⟩
 ·cases z
theorem zJg:∀ a b c,zBS a b≠.err c:=fun a b c z=>by unfold zBS at z;split at z<;>cases z
end
theorem zBx{K:Fg_}{H:Hp}:∀ ns:List Int,IsDs K H (ns.map V.int) (ns.map D.int)
 | []=>.nil
 | n::ns=>.cons (.int n) (zBx ns)
section
variable{X:Cx}{G:Gx}{e:Expr}{es:List Expr}{pos np cpos:Pos}{fs:Fv}{k:Nat}{c:Str}
theorem iB(W:Good X G k)(WR:zEI X G)(hR:∃ C,Err X.K X.mg c C)(hg:Gl X c)(ha:PAd X G (e::es) fs)
  (he:starEach (e::es) X.env=(false,eval e X.env)::starEach es X.env:=by rfl) (hplain:(backTo cpos (starEach es X.env)).any (·.1)=false:=by rfl) (hd:(c==("__debug__" : Str))=false:=by decide):
  PSd X G (.Raise (some (.Call (.Name c np) (e::es) [] cpos)) none pos) (jO c fs):=by
 intro pins s σ H E I q;obtain⟨ρ,Hi,R,h⟩:=q;obtain⟨C,Er⟩:=hR;obtain⟨bmB,newId,B,initId,O,FB⟩:=Er.own X.base I.mod.kin;obtain⟨tl,N,nm,q,bs,hdct,sn,sub,ab,col,dd,k0,k1,k2,k3,k5,mN,hC,hN,hni,T⟩:=O.obj
 have hA:=ha cpos pins s σ H (fun vs H1=>vs.length<=sizeLine/\XE X G (.ref C) none H1) I ⟨ρ,Hi,R,kI R h fun ds Hi' H' _ e1 h' vs r=>by
  have h':Fin X G Hi' E (if ds.length<=16777216 then (.err c:Res Fl) else .no):=h';by_cases hz:ds.length<=16777216
  ·rw[if_pos hz] at h'
   exact⟨by rw[r.length];exact hz,c,O.bound,h' Hi' H' (R.ext.trans e1)⟩
  ·rw[if_neg hz] at h';exact h'.elim⟩
 refine wpAny_Raise_call_subT (C:=C) (nm:=nm) (q:=q) (N:=N) (bs:=bs) (bm:=tl) (hdct:=hdct) (sn:=sn) (sub:=sub) (ab:=ab) (col:=col) (dd:=dd) (k0:=k0) (k1:=k1) (k2:=k2) (k3:=k3) (k5:=k5)
  FB (mN:=mN) (T.hasType FB.hasBase) (I.ok.hd W.calm) (by rw[he];show(false || (backTo cpos (starEach es X.env)).any (·.1))=false;rw[hplain];rfl) hni (tZ I hg O.bound ⟨rfl,?_⟩ hd)
 rw[he] at hA ⊢
 refine Calls.evalArgs_plain (wpAny_mono hA (fun us s₂ h₂=>?_) fun _ _ y=>y)
 obtain⟨vs,H2,I2,rv,hz,hx⟩:=h₂;exact⟨rfl,by show us.length<=sizeLine;rw[<-rv.length];exact hz,I2.bk _ _ hC,hN.keeps I2.bk,T.keeps I2.bk,fun h' ea hm=>WR pins σ H2 s₂ { s₂ with heap:=h' } ea (.ref C) us I2 hm rfl I2.bare hx⟩
end
end L3
namespace L3
open PySem PySem.Spec PyProof.Rows L2 PySem.W Builtin Builtin.ObjectAttr Builtin.Getset_descriptor
unseal PEd PEf PTd PWd PAd PSd dJ POd PGd gH PId
section
variable{prog:Program}{w:World}{A:Around}{E:Value->Shared->Prop}{s:Shared}{K:Frag}{x D:Addr}{ox:Obj}
def zPm(x D:Addr)(h:Heap):Prop:=∃ o,h.get? x=some o/\o.cls=.ref D
theorem zPm.looks{h:Heap}(I:zPm x D h){M:Model}:Looks M h (typeOf (.ref x)) (.ref D):=by
 obtain⟨o,h1,h2⟩:=I;exact h2 ▸ (Looks.ld h1).andThen .now
structure ExK (K:Frag) (D:Addr):Prop where
 hc:(clsIn K D).isSome=true
 ga:findIn K (.ref D) "__getattribute__" = some (some (.builtin "BaseException.__getattribute__"))
 no:findIn K (.ref D) "__getattr__" = some none
 ha:findIn K (.ref D) "__class__" = some (some (.builtin "object.__class__"))
 hn:specialIn K (.builtin "object.__class__") "__get__" = some (some (.builtin "getset_descriptor.__get__"))
 tk:takesIn K (.builtin "object.__class__")=some true
 mo:mroIn K D (.type "object")=some true
 mb:mroIn K D (.type "BaseException")=some true
end
section
variable{prog:Program}{w:World}{A:Around}{E:Value->Shared->Prop}{s:Shared}{K:Frag}{x C CE:Addr}{ox:Obj}
structure CaK (K:Frag) (CE:Addr):Prop where
 ty:typeIn K (.ref CE)=some (.type "type")
 cl:(clsIn K CE).isSome=true
 mb:mroIn K CE (.type "BaseException")=some true
theorem zFP(T:CaK K CE)(hm:mroIn K C (.ref CE)=some true){Q:Bool->Shared->Prop}(X:K.In s.heap)(I:zPm x C s.heap)(h:Q true s):wpAny (model prog w) A (excMatches (.ref x) (.ref CE)) Q E s:=by
 obtain⟨hh,g,d,t,os⟩:=s;have L0:=I.looks (M:=model prog w);have L1:=looks_typeIn (M:=model prog w) X T.ty;have L2:=looks_mroIn (M:=model prog w) X T.mb;have L3:=looks_mroIn (M:=model prog w) X hm
 have Lt:Looks (model prog w) hh (isType (.ref CE)) true:=by
  obtain⟨cd,hcD⟩:=Wm.mp T.cl;unfold clsIn at hcD;split at hcD
  ·rename_i c' d' cd' sl' ho
   intro A' Q' E' s' k q;unfold isType loadHead;exact wpAny_bind (wpAny_loadPart (k _ _ (X _ _ ho)) (wpAny_pure q))
  ·cases hcD
 unfold excMatches isInstance isExcClass;refine wpAny_bind (wpAny_bind ?_)
 refine L1.at ?_
 refine wpAny_of_eq tc_notTuple ?_
 show wpAny _ _ (forIn [Value.ref CE] PUnit.unit _ >>= _) _ _ _
 rw[Y7];refine wpAny_bind (wpAny_bind (wpAny_bind (wpAny_bind ?_)))
 refine Lt.at ?_
 show wpAny _ _ (isSubtype (.ref CE) (.type "BaseException")) _ _ _
 refine L2.at ?_
 refine wpAny_pure ?_
 show wpAny _ _ (forIn ([]:List Value) PUnit.unit _) _ _ _
 rw[List.forIn_nil];refine wpAny_pure ?_
 refine wpAny_bind ?_
 refine L0.at ?_
 refine wpAny_bind ?_
 rw[Y7];refine wpAny_bind (wpAny_bind ?_)
 refine L3.at ?_
 repeat (first | exact h | wp_step)
end
section
variable{X:Cx}{pins:List (Addr×Obj)}{σ:St}{H H':Hp}{s s':Shared}{ea:Addr}{cls:Value}
theorem Fly.stay(I:Inv X pins σ H s)(F:Fly X.prog X.w X.stack H H' s ea cls s'){h' B:Heap}{a0:Value}
  (hf:Heap.FlyingW B X.stack ea cls a0 s'.heap) (cov:∀ b o,s'.heap.get? b=some o->((∃ o',s.heap.get? b=some o')∨H' b≠none)->b∉frs X.stack->B.get? b=some o)
  (hf':Heap.FlyingW B X.stack ea cls a0 h') (up:s'.heap.UpToSlots h') {t':Nat}:Inv X pins σ H' { s' with heap:=h',toks:=t' }:=by
 have trk:∀ {b:Addr},H' b≠none->b∉frs X.stack:=fun {b} hb hm=>by
  have h1:=I.stkFree b hm;obtain⟨_,o,ho,_⟩:=I.stack.mem hm;exact hb (F.un.free b o ho h1 (by simp))
 have keepB:∀ {b:Addr} {o:Obj},s'.heap.get? b=some o->((∃ o',s.heap.get? b=some o')∨H' b≠none)->b∉frs X.stack->h'.get? b=some o:=fun e1 e2 e3=>hf'.1 _ _ (cov _ _ e1 e2 e3)
 have slotOf:∀ {b:Addr} {o:Obj},b∈frs X.stack->s'.heap.get? b=some o->∃ sl,h'.get? b=some { o with slots:=sl }:=fun {b o} hm e=>by
  obtain⟨_,o',ho',hn⟩:=hf.2.2.1.mem hm;rw[e] at ho';cases ho'
  exact up b o e hn
 refine I.call' (s':={ s' with heap:=h',toks:=t' }) (ch:=[]) F.os ⟨?_,?_,F.un.free,?_,F.un.tups,F.un.frzs,F.un.tbls⟩ ?_ F.bare (fun b z=>absurd z (by simp))
 ·intro b o e n hb hx
  exact keepB (F.un.keep b o e n hb hx) (.inl ⟨o,e⟩) hb
 ·intro b o e n hb hx
  obtain⟨sl,e1⟩:=F.un.slot b o e n hb hx;obtain⟨sl2,e2⟩:=slotOf hb e1;exact⟨sl2,e2⟩
 ·intro b o e hx
  obtain⟨o1,e1⟩:=F.un.there b o e hx;by_cases hs:b∈frs X.stack
  ·obtain⟨sl,e3⟩:=slotOf hs e1
   exact⟨_,e3⟩
  ·exact⟨o1,keepB e1 (.inl ⟨o,e⟩) hs⟩
 ·intro a o e
  refine(F.hok a o e).stay (fun b u hb z=>?_) (fun b z=>z) (fun b xs z=>z)
  have hb':H' b≠none:=by
   rcases hb with rfl | hb
   ·rw[e];simp
   ·rw[hb];simp
  exact keepB z (.inr hb') (trk hb')
theorem _root_.L2.Inv.track(I:Inv X pins σ H s){a:Addr}{o:HO}(hn:H a=none)(h0:X.s₀.heap.get? a=none)(hl:a≠X.env.locals)(hc:∀ x c,X.env.cells.lookup x=some c->c≠a)(hp:∀ p∈X.pn++pins,p.1≠a)
  (ho:kY X.prog X.w (upd H a o) s.heap a o):Inv X pins σ (upd H a o) s where
 ok:=I.ok
 os:=I.os
 bare:=I.bare
 base:=⟨I.base.keep,I.base.slot,fun b ob e n hx=>by
   have:b≠a:=fun z=>by rw[z,h0] at e;cases e
   rw[aX this];exact I.base.free b ob e n hx,I.base.there,fun b xs e=>by
   have z:=I.base.tups b xs e
   rw[aX (aZ z hn)];exact z,fun b ob u e=>by
   have z:=I.base.frzs b ob u e
   rw[aX (aZ z hn)];exact z,fun b ps e=>by
   obtain⟨m,z⟩:=I.base.tbls b ps e
   exact⟨m,by rw[aX (aZ z hn)];exact z⟩⟩
 loc:=I.loc
 cell:=I.cell
 free:=by rw[aX (Ne.symm hl)];exact I.free
 freeC:=fun x c e=>by rw[aX (hc x c e)];exact I.freeC x c e
 pin:=fun p hp'=>by
  obtain⟨e1,e2,e3,e4,e5⟩:=I.pin p hp';exact⟨e1,by rw[aX (hp p hp')];exact e2,e3,e4,e5⟩
 hok:=fun b u e=>by
  by_cases hb:b=a
  ·subst hb;rw[aS] at e;cases e;exact ho
  ·rw[aX hb] at e
   exact(I.hok b u e).stay (fun c v _ q=>q) (fun c q=>by rw[aX (aZ q hn)];exact q) fun c xs q=>by rw[aX (aZ q hn)];exact q
 len:=I.len
abbrev mQ(X:Cx)(ea:Addr):Cx:={ X with A:=X.A.mark (some (.ref ea)),calm:=false,xe:=fun _ _=>False }
theorem _root_.L2.Inv.clause(I:Inv X pins σ H s)(ea:Addr):Inv (mQ X ea) pins σ H s:=
 ⟨⟨I.ok.mod,I.ok.kind,I.ok.glob,I.ok.blt,I.ok.above,I.ok.inj,I.ok.has,I.ok.cab,(fun z=>Bool.noConfusion z),I.ok.frames,I.ok.stk,I.ok.exf,I.ok.bs,I.ok.bsz,I.ok.noex,I.ok.exfs,I.ok.funs,I.ok.frf⟩,I.os,I.bare,I.base,I.loc,I.cell,I.free,I.freeC,I.pin,I.hok,I.len⟩
theorem _root_.L2.Inv.unclause{ea:Addr}(ok:X.Ok)(I:Inv (mQ X ea) pins σ H s):Inv X pins σ H s:=⟨ok,I.os,I.bare,I.base,I.loc,I.cell,I.free,I.freeC,I.pin,I.hok,I.len⟩
end
section
variable{X:Cx}{G:Gx}{a e:Expr}{es:List Expr}{pos p:Pos}{fs:Fv}{t:Tv}{x:Str}{k:Nat}{ps:List Str}{m:Mir}{st:Stmt}{sts:List Stmt}{sa sb:Sv}
def G0(G:Gx):Gx:={ G with E:=fun _ _=>False }
def zPz(X:Cx)(pins:List (Addr×Obj))(σ:St)(Hi H:Hp)(c:Str)(ev:Value)(s':Shared):Prop:=
 ∃(s1:Shared)(H1:Hp)(ea:Addr)(cls:Value)(Hi' H':Hp),ev=.ref ea/\Inv X pins σ H1 s1/\X.mg c=some cls/\Fly X.prog X.w X.stack H1 H' s1 ea cls s'/\Ext Hi H Hi' H'/\Keep H H1
def zQz(X:Cx)(G:Gx)(Hi:Hp)(E:Ends)(r:Res Fl):Prop:=match r with
 | .err _=>True
 | r=>Fin X G Hi E r
@[irreducible] def PSx (X:Cx) (G:Gx) (st:Stmt) (f:Sv):Prop:=∀(pins:List (Addr×Obj))(s:Shared)(σ:St)(H:Hp)(E:Ends)(ρ:Rho)(Hi:Hp)(Et:Value->Shared->Prop),
 Inv X pins σ H s->kK X G Hi H σ ρ->f ρ≠.no->zQz X G Hi E (f ρ)->(∀ c ev s',f ρ=.err c->zPz X pins σ Hi H c ev s'->Et ev s')->wpAny (model X.prog X.w) X.A (exec st X.env) (SP X pins E) Et s
unseal PSx
@[irreducible] def jL (X:Cx) (G:Gx) (sts:List Stmt) (f:Sv):Prop:=∀(pins:List (Addr×Obj))(s:Shared)(σ:St)(H:Hp)(E:Ends)(ρ:Rho)(Hi:Hp)(Et:Value->Shared->Prop),
 Inv X pins σ H s->kK X G Hi H σ ρ->f ρ≠.no->zQz X G Hi E (f ρ)->(∀ c ev s',f ρ=.err c->zPz X pins σ Hi H c ev s'->Et ev s')->wpAny (model X.prog X.w) X.A (execs sts X.env) (SP X pins E) Et s
unseal jL
theorem zOt(h:PSx X G st sa):jL X G [st] sa:=fun pins s σ H E ρ Hi Et I R hn hf he=>by
 refine wpAny_execs_cons (wpAny_mono (h pins s σ H E ρ Hi Et I R hn hf he) (fun f s1 q=>?_) fun _ _ z=>z)
 cases f with
 | next=>exact wpAny_execs_nil q
 | ret v=>exact q
 | brk=>exact q
 | cont=>exact q
theorem zPL{pins:List (Addr×Obj)}{s:Shared}{σ:St}{H:Hp}{ρ:Rho}{Hi:Hp}{Et:Value->Shared->Prop}{Q:VK}{ds:List D}(tb:TB X.K X.mg G.Bi G.B)(c:CanM X.prog X.w X.K X.mg X.base k x ps m)(hr:Room k X.A)(hg:Gl X x)(ha:PAd X.nox (G0 G) (e::es) fs)
  (I:Inv X pins σ H s) (R:kK X G Hi H σ ρ) (hds:fs ρ=.ok ds) (hm:m ds≠.no) (hq:∀ r v Hi' H',m ds=.ok r->Ext Hi H Hi' H'->IsD X.K Hi' v r.d->Q v H') (he:∀ c ev s',m ds=.err c->zPz X pins σ Hi H c ev s'->Et ev s')
  (hdb:(x==("__debug__" : Str))=false) (hst:starEach (e::es) X.env=(false,eval e X.env)::starEach es X.env) (hpl:(backTo pos (starEach es X.env)).any (·.1)=false):
  wpAny (model X.prog X.w) X.A (eval (.Call (.Name x p) (e::es) [] pos) X.env) (EP X pins σ Q) Et s:=by
 obtain⟨⟨f,fd,F,b,kp,hmg⟩,ln⟩:=c;refine wpAny_Call_Name_kw (tZ I hg hmg ?_ hdb)
 have hA:=ha pos pins s σ H (fun vs H1=>∃ Hi1,Ext Hi H Hi1 H1/\IsDs X.K Hi1 vs ds) (I.wish _) ⟨ρ,Hi,R,by rw[hds];exact fun Hi1 H1 e1 vs r=>⟨Hi1,e1,r⟩⟩
 refine PySem.W.callWith_K (h₀:=X.base) I.ok.mod.kin kp (wpAny_mono hA (fun us s1 q=>?_) fun _ _ z=>False.elim z) hst hpl
 obtain⟨vs,H1,I1',r,Hi1,e1,hd⟩:=q;have I1:Inv X pins σ H1 s1:=I1'.unwish;refine⟨I1.kIn,?_⟩
 have hl:us.length=ps.length:=by rw[<-r.length,hd.length];exact ln ds hm
 refine wpAny_call (codeAny_mono (F.run X.A X.stack s1 H1 ⟨us,[]⟩ us vs (fun v H2=>Q v H2) (fun cls _ H2=>∃ c Hi2,X.mg c=some cls/\m ds=.err c/\Ext Hi1 H1 Hi2 H2) hr I1.env0 (by have:=b s1 us I1.kIn (by rw[Q3];exact hl);rwa [Q3] at this) r ?_) fun res s' hq'=>?_)
 ·refine⟨by rw[hd.length];exact ln ds hm,Hi1,ds,tb.ext (R.ext.trans e1),e1.s,hd,?_⟩
  cases z:m ds with
  | no=>exact absurd z hm
  | err c'=>exact fun C hC Hi2 H2 e2=>⟨c',Hi2,hC,rfl,e2⟩
  | ok rr=>
   cases rr with
   | v d=>exact fun v Hi2 H2 e2 r2=>hq _ v Hi2 H2 z (e1.trans e2) r2
   | f es=>
    intro a' Hi2 H2 e2 n;obtain⟨n1,n2,xs,n3,n4⟩:=n;exact hq _ (.ref a') (upd Hi2 a' (.lst xs)) H2 z (e1.trans (e2.hold n1 n3 n2)) (.lst (SqL.of aS) (n4.mono (cA n2 _)))
 ·cases res with
  | error ev=>
   obtain⟨ea,cls,H',rfl,Fl,c',Hi2,hc,hmc,e2⟩:=hq';exact he c' _ s' hmc ⟨s1,H1,ea,cls,Hi2,H',rfl,I1,hc,Fl,e1.trans e2,e1.h⟩
  | ok fl=>
   cases fl with
   | ret u=>exact I1.after hq'
   | next=>exact False.elim hq'
   | brk=>exact False.elim hq'
   | cont=>exact False.elim hq'
theorem zIO{α:Type}{r:Res α}{β:Type}{f:α->Res β}(h:(noErr r).bind f≠.no):∃ a,r=.ok a/\(noErr r).bind f=f a:=by
 cases r with
 | ok a=>exact⟨a,rfl,rfl⟩
 | err c=>exact absurd rfl h
 | no=>exact absurd rfl h
theorem zNW{i:Nat}{y:Str}{py pos2:Pos}(hN:X.N.Nodup)(hi:X.N[i]?=some y)(hy:Loc X.env.scope y)(W:Good X G k)(c:CanM X.prog X.w X.K X.mg X.base k x ps m)(hg:Gl X x)(ha:PAd X.nox (G0 G) (e::es) fs)
  (hdb:(x==("__debug__" : Str))=false:=by decide) (hst:starEach (e::es) X.env=(false,eval e X.env)::starEach es X.env:=by rfl) (hpl:(backTo pos (starEach es X.env)).any (·.1)=false:=by rfl)
  (hs2:swapsWith (.Call (.Name x p) (e::es) [] pos) (some (.Name y py)) pos2.line X.env=pure false:=by rfl) (hfn:X.fn y=true∨X.env.scope.names.lookup y=some .local:=by first | exact .inl rfl | exact .inr rfl | assumption):
  PSx X G (.Assign [.Name y py] (.Call (.Name x p) (e::es) [] pos) pos2) (zNb i m fs):=fun pins s σ H E ρ Hi Et I R hn hf he=>by
 unfold zNb at hn hf he;obtain⟨ds,hds,heq⟩:=zIO hn;rw[heq] at hn hf he;have hm:m ds≠.no:=fun z=>by rw[z] at hn;exact hn rfl
 refine wpAny_Assign_Name (wpAny_mono (zPL (Q:=fun v H'=>E.nx (σ.set i (some v)) H') W.tb c W.room hg ha I R hds hm (fun r v Hi' H' z e1 rv=>?_) (fun c' ev s' z q=>he c' ev s' (by rw[z];rfl) q) hdb hst hpl) (fun v s1 q=>?_) fun _ _ z=>z) hs2
 ·rw[z] at hf
  exact(show Fin X G Hi E (.ok (.nx (ρ.set i (.val r.d)))) from hf) _ Hi' H' e1.i ((R.grow e1).set rv)
 ·obtain⟨v',H1,I1,r1,q1⟩:=q
  exact pE I1 hN hi hy r1 (fun s2 I2=>⟨_,H1,I2,q1⟩) hfn
end
end L3
namespace L3
open PySem PySem.Spec PyProof.Rows L2 PySem.W
unseal PEd PEf PTd PWd PAd PSd dJ POd PGd gH PId PSx jL
section
variable{X:Cx}{G:Gx}{k:Nat}{fb fh:Sv}{body suite:List Stmt}{b₀:Stmt}{ce n:Str}{np hpos pos:Pos}{i:Nat}{tb:List Str}
def Cat(K:Frag)(mg:Str->Option Value)(ce c:Str):Prop:=∃ C CE,mg c=some (.ref C)/\mg ce=some (.ref CE)/\ExK K C/\CaK K CE/\mroIn K C (.ref CE)=some true
structure GoodH (X:Cx):Prop where
 u:X.A.units+64<cLine
end
section
variable{X:Cx}{G:Gx}{a:Expr}{p q pos:Pos}{i:Nat}{anc:List (Str×List Str)}{xs:List Str}{x:Str}
end
section
variable{K:Frag}{h:Heap}{mg:Str->Option Value}{x c ce:Str}{C CE:Addr}
theorem uS{newId:String}{bmB:List Value}{B initId:String}(X:K.In h)(G:h.Ns mainGlobals mg)(e:nsIn K mainGlobals x=some (some (.ref C)))(q:excIn K C bmB newId=true)(F:ExcBaseFacts B newId initId bmB):∃ C,Err K mg x C:=by
 refine⟨C,⟨fun h' X'=>⟨bmB,newId,B,initId,⟨mg_of X G e,?_⟩,F⟩⟩⟩
 unfold excIn at q;split at q
 ·rename_i dd cd sl ho
  split at q
  ·rename_i C' bm k0 k1 k2 k3 n k5 hm hs
   simp only[Vj,beq_iff_eq,Bool.not_eq_true'] at q;obtain⟨⟨⟨⟨⟨rfl,rfl⟩,hdel⟩,ht⟩,hok⟩,hni⟩:=q;obtain⟨nm,bs,mro,ns,qn,hd,sn,sub,ab,col,del⟩:=cd;dsimp only at hm hdel hok hni
   subst hm hdel
   have hsl:sl=#[k0,k1,k2,k3,some (.builtin n),k5]:=by
    obtain⟨l⟩:=sl;simp only at hs
    rw[hs]
   subst hsl;exact⟨bm,ns,nm,qn,bs,hd,sn,sub,ab,col,dd,k0,k1,k2,k3,k5,_,X' _ _ ho,.of_isNs (isNs_of_in X' hok),nsMap_none_of_in X' hok hni,tail_of_in X' ht⟩
  ·cases q
 ·cases q
theorem zKn(q:hasDictIn K C=true):(clsIn K C).isSome=true:=by
 obtain⟨cd,hc,_⟩:=any_some q;rw[hc];rfl
theorem zMZ(h1:hasDictIn K C=true)(h2:findIn K (.ref C) "__getattribute__" = some (some (.builtin "BaseException.__getattribute__")))(h3:findIn K (.ref C) "__getattr__" = some none)(h4:findIn K (.ref C) "__class__" = some (some (.builtin "object.__class__")))
  (h5:specialIn K (.builtin "object.__class__") "__get__" = some (some (.builtin "getset_descriptor.__get__"))) (h6:takesIn K (.builtin "object.__class__")=some true) (h7:mroIn K C (.type "object")=some true) (h8:mroIn K C (.type "BaseException")=some true):ExK K C:=
 ⟨zKn h1,h2,h3,h4,h5,h6,h7,h8⟩
theorem zMK(h1:typeIn K (.ref CE)=some (.type "type"))(h2:hasDictIn K CE=true)(h3:mroIn K CE (.type "BaseException")=some true):CaK K CE:=⟨h1,zKn h2,h3⟩
end
def zCt(env:Env):List (Str×NameKind)->List (Str×Addr)->List (Str×Addr)
 | [],cs=>cs
 | (n,k)::r,cs=>zCt env r (if k==.free then (n,(env.cells.lookup n).getD 0)::cs else cs)
theorem zJz{env:Env}:∀(l:List (Str×NameKind))(cs:List (Str×Addr)),(∀ p∈l,p.2=.free->∃ c,env.cells.lookup p.1=some c)->
  (forIn l cs (fun p (r:List (Str×Addr))=>if (p.2==NameKind.free)=true then (do let a <-cellOf env p.1;pure (ForInStep.yield ((p.1,a)::r))) else pure (ForInStep.yield r)):Sem (List (Str×Addr)))=pure (zCt env l cs)
 | [],cs,_=>by simp[zCt]
 | (n,k)::r,cs,h=>by
  rw[Y7,zCt];have ih:=fun cs=>zJz r cs fun p hp=>h p (Qe _ hp)
  by_cases e:(k==NameKind.free)=true
  ·obtain⟨c,hc⟩:=h (n,k) Qf (beq_iff_eq.mp e)
   simp only[e,if_true,cellOf,hc,pure_bind,Option.getD_some];exact ih _
  ·simp only[e,Xf,if_false,pure_bind]
   exact ih _
theorem zKi{env:Env}{scope:Scope}(h:∀ p∈scope.names,p.2=.free->∃ c,env.cells.lookup p.1=some c):closureFor scope env=pure (zCt env scope.names []):=by
 have:=zJz scope.names [] h
 unfold closureFor;rw[<-this];simp
theorem tN{env:Env}:∀(l:List (Str×NameKind))(cs:List (Str×Addr)),(∀ p∈l,p.2=.free->∃ c,env.cells.lookup p.1=some c)->(∀ y c,cs.lookup y=some c->env.cells.lookup y=some c)->
  ∀ y c,(zCt env l cs).lookup y=some c->env.cells.lookup y=some c
 | [],cs,_,h,y,c,e=>h y c e
 | (n,k)::r,cs,hl,h,y,c,e=>by
  rw[zCt] at e;refine tN r _ (fun p hp=>hl p (Qe _ hp)) (fun y c e=>?_) y c e
  by_cases z:(k==NameKind.free)=true
  ·obtain⟨c',hc⟩:=hl (n,k) Qf (beq_iff_eq.mp z)
   simp only[z,if_true,V0,hc,Option.getD_some] at e
   cases w:y==n with
   | true=>rw[w] at e;cases e;rw[beq_iff_eq.mp w];exact hc
   | false=>rw[w] at e;exact h y c e
  ·simp only[z,Xf,if_false] at e
   exact h y c e
theorem zDT{env:Env}:∀(l:List (Str×NameKind))(cs:List (Str×Addr))(y:Str),(∃ c,cs.lookup y=some c)->∃ c,(zCt env l cs).lookup y=some c
 | [],cs,y,h=>h
 | (n,k)::r,cs,y,⟨c,h⟩=>by
  rw[zCt];refine zDT r _ y ?_
  split
  ·rw[V0]
   cases y==n with
   | true=>exact⟨_,rfl⟩
   | false=>exact⟨c,h⟩
  ·exact⟨c,h⟩
theorem uM{env:Env}:∀(l:List (Str×NameKind))(cs:List (Str×Addr))(y:Str),(y,NameKind.free)∈l->∃ c,(zCt env l cs).lookup y=some c
 | (n,k)::r,cs,y,h=>by
  rw[zCt];rcases Qc.mp h with e | h
  ·cases e
   refine zDT r _ _ ⟨(env.cells.lookup n).getD 0,?_⟩
   simp only[beq_self_eq_true,if_true,V0]
  ·exact uM r _ y h
theorem bW{α:Type}:∀ {l:List (Str×α)} {y:Str} {k:α},l.lookup y=some k->(y,k)∈l
 | (n,k')::r,y,k,h=>by
  rw[V0] at h
  cases z:y==n with
  | true=>rw[z] at h;cases h;rw[beq_iff_eq.mp z];exact Qf
  | false=>rw[z] at h;exact Qe _ (bW h)
theorem cE{env:Env}:∀ {l:List (Str×NameKind)} {y:Str} {k:NameKind},
  (l.map fun(n,k)=>if (k==NameKind.free && env.scope.kind==.function && env.kindOf n==some .cell) then (n,NameKind.cell) else (n,k)).lookup y=some k->
  l.lookup y=some k∨(k=.cell/\l.lookup y=some .free)
 | (n,k')::r,y,k,h=>by
  rw[Qj] at h;rw[V0];by_cases c:(k'==NameKind.free && env.scope.kind==.function && env.kindOf n==some .cell)=true
  ·simp only[c,if_true,V0] at h
   cases z:y==n with
   | true=>
    rw[z] at h;cases h;refine .inr ⟨rfl,?_⟩
    simp only[Vj] at c;rw[beq_iff_eq.mp c.1.1]
   | false=>rw[z] at h;exact cE h
  ·simp only[c,Xf,if_false,V0] at h
   cases z:y==n with
   | true=>rw[z] at h;exact .inl h
   | false=>rw[z] at h;exact cE h
def msk(x y:Str):Str:=if y=x then ("" : Str) else y
structure BlkOk (X:Cx) (x:Str) (scope:Scope):Prop where
 kind:scope.kind=.function
 cell:∀ y∈scope.names,y.2≠.cell
 loc:scope.names.lookup x=some .local
 names:∀ y∈scope.names,y.2=.local->scope.names.lookup y.1=some .local
 fre:∀ p∈scope.names,p.2=.free->X.env.kindOf p.1=some .cell∨X.env.kindOf p.1=some .free
 oth:∀ y∈X.N,y≠x->scope.names.lookup y≠some .local
 emp:scope.names.lookup ("" : Str)=none
def cxC(X:Cx)(x:Str)(scope:Scope)(C:Addr)(s₂:Shared)(H₂:Hp)(fp:List Addr):Cx:=
  { prog:=X.prog,w:=X.w,K:=X.K,mg:=X.mg,base:=X.base,A:=X.A,N:=X.N.map (msk x)++[x],s₀:=s₂,H₀:=H₂,env:=compEnvC scope (zCt X.env scope.names []) C X.env,outer:=X.stack,stack:=X.stack,
    ex:=fp,fn:=fun _=>false,calm:=X.calm,pn:=X.pn,xe:=fun _ _=>False }
section
variable{X:Cx}{pins:List (Addr×Obj)}{σ:St}{H:Hp}{s₂:Shared}{x:Str}{scope:Scope}{fp:List Addr}{D C:Addr}{h₁:Heap}
theorem BlkOk.cl(B:BlkOk X x scope)(I:Inv X pins σ H s₂):∀ p∈scope.names,p.2=.free->∃ c,X.env.cells.lookup p.1=some c:=fun p hp e=>I.ok.has p.1 (B.fre p hp e)
theorem zPA(I:Inv X pins σ H s₂)(B:BlkOk X x scope)(hfp:∀ b∈fp,sM X pins H b)(hfl:∀ b∈fp,b<s₂.heap.objs.size)(hD:s₂.heap.objs.size<=D)(hC:s₂.heap.objs.size<=C)(hDC:D≠C)
  (old:∀ b o,s₂.heap.get? b=some o->h₁.get? b=some o) {n:Nat} (hacc:h₁.get? D=some { cls:=.type "list", data:=.seq ([]:List Value).toArray n }) {m:Str->Option Value} (hns:h₁.Ns C m) (t:Nat):
  Inv (cxC X x scope C s₂ H fp) pins (σ++[none]) (upd H D (.lst [])) { s₂ with heap:=h₁,toks:=t }:=by
 have sub:=tN scope.names [] (B.cl I) (fun y c e=>nomatch e)
 have old_lt:∀ {b:Addr} {o:Obj},s₂.heap.get? b=some o->b≠D/\b≠C:=fun e=>⟨Qo (Qn (Heap.lt_size e) hD),Qo (Qn (Heap.lt_size e) hC)⟩
 have free:∀ {b:Addr},b≠D->H b=none->upd H D (.lst []) b=none:=fun n e=>by rw[aX n];exact e
 refine⟨⟨I.ok.mod,B.kind,I.ok.glob,I.ok.blt,hC,fun y z c e1 e2=>I.ok.inj y z c (sub y c e1) (sub z c e2),fun y hy=>?_,fun y c e=>(nomatch e),I.ok.hd,I.ok.frames,.inl rfl,fun b hb=>⟨Qo (Qn (hfl b hb) hC),fun y c e=>(hfp b hb).2.2.2.2.1 y c (sub y c e)⟩,
  I.bs,Qp I.ok.bsz I.sz,fun b o e hb=>?_,fun b hb z=>?_,I.stack,I.stkFree⟩,rfl,I.bare,Un.laid old hD (I.hok.fresh hD),⟨m,hns,fun i y v e1 e2 e3=>?_⟩,fun y c e=>?_,free (Ne.symm hDC) (I.hok.fresh hC),fun y c e=>?_,fun p hp=>?_,I.hok.laid old hD ⟨Q7 _,[],n,.nil,hacc⟩,?_⟩
 ·have:∃ k,(k=NameKind.cell∨k=NameKind.free)/\((relabel scope X.env).names).lookup y=some k:=hy.elim (fun h=>⟨_,.inl rfl,h⟩) fun h=>⟨_,.inr rfl,h⟩
  obtain⟨k,hk,e⟩:=this
  have e':(y,NameKind.free)∈scope.names:=by
   rcases cE e with z | ⟨_,z⟩
   ·rcases hk with rfl | rfl
    ·exact absurd rfl (B.cell _ (bW z))
    ·exact bW z
   ·exact bW z
  exact uM scope.names [] y e'
 ·rcases (hfp b hb).2.2.2.1 with z | z
  ·exact I.ok.noex b o e z
  ·exact absurd (Qn (Heap.lt_size e) (Qp I.ok.bsz z)) (Vt _)
 ·rcases Qc.mp (I.stkSub b z) with w | w
  ·exact(hfp b hb).2.1 w
  ·exact(hfp b hb).2.2.1 w
 ·
  have hi:i<σ.length:=by
   by_cases hi:i<σ.length
   ·exact hi
   ·exfalso
    rw[Vy (by omega)] at e2
    cases q:i-σ.length with
    | zero=>rw[q] at e2;cases e2
    | succ j=>rw[q] at e2;cases e2
  rw[Vl hi] at e2;have e1':(X.N.map (msk x)++[x])[i]?=some y:=e1;rw[Vl (by rw[Qd,<-I.len];exact hi),Qr] at e1'
  cases q:X.N[i]? with
  | none=>rw[q] at e1';cases e1'
  | some z=>
   rw[q] at e1';have e1'':msk x z=y:=Vg e1';have hz:z∈X.N:=Qg q;have vis:∃ k,((relabel scope X.env).names).lookup y=some k:=e3.elim (fun h=>⟨_,h⟩) fun h=>h.elim (fun h=>⟨_,h⟩) fun h=>⟨_,h⟩
   have hzx:z≠x:=fun w=>by
    obtain⟨k,hk⟩:=vis;have:y=("" : Str):=by rw[<-e1'',w];exact if_pos rfl
    rw[this] at hk;rcases cE hk with h | ⟨_,h⟩<;>(rw[B.emp] at h;cases h)
   have hy:z=y:=by rw[<-e1''];exact(if_neg hzx).symm
   subst hy
   have fr:(z,NameKind.free)∈scope.names:=by
    rcases e3 with h | h | h
    ·rcases cE h with h | ⟨h,_⟩
     ·exact absurd h (B.oth z hz hzx)
     ·cases h
    ·rcases cE h with h | ⟨_,h⟩
     ·exact absurd rfl (B.cell _ (bW h))
     ·exact bW h
    ·rcases cE h with h | ⟨h,_⟩
     ·exact bW h
     ·cases h
   have kd:=B.fre _ fr rfl;obtain⟨m0,hn0,hl⟩:=I.loc;obtain⟨u,ru,lk⟩:=hl i z v q e2 (kd.elim (fun h=>.inr (.inl h)) fun h=>.inr (.inr h))
   refine⟨u,ru,.inr ⟨?_,?_⟩⟩
   ·rcases e3 with h | h | h
    ·rcases cE h with h | ⟨h,_⟩
     ·exact absurd h (B.oth z hz hzx)
     ·cases h
    ·exact .inl h
    ·exact .inr h
   ·rcases lk with⟨k1,_⟩ | ⟨_,c,hc,hcell⟩
    ·rcases kd with kd | kd<;>(rw[kd] at k1;cases k1)
    ·obtain⟨c',hc'⟩:=uM (env:=X.env) scope.names [] z fr
     have:=sub z c' hc'
     rw[hc] at this;cases this;obtain⟨o,ho,hd⟩:=hcell;exact⟨c,hc',o,old _ _ ho,hd⟩
 ·obtain⟨v,o,ho,hd⟩:=I.cell y c (sub y c e)
  exact⟨v,o,old _ _ ho,hd⟩
 ·obtain⟨v,o,ho,hd⟩:=I.cell y c (sub y c e)
  exact free (old_lt ho).1 (I.freeC y c (sub y c e))
 ·obtain⟨e,n,ne,nf,d⟩:=I.pin p hp
  refine⟨old _ _ e,free (old_lt e).1 n,(old_lt e).2,fun z=>?_,d⟩
  rcases Qc.mp (I.stkSub _ z) with w | w
  ·exact ne w
  ·exact nf w
 ·show(σ++[none]).length=(X.N.map (msk x)++[x]).length
  rw[Qi,Qi,Qd,I.len];rfl
end
section
variable{K:Fg_}{mg:Str->Option Value}{B Bi Hi H Hi' H':Hp}{σ:St}{ρ:Rho}
theorem Rel.snoc{v:V}{d:D}(R:Rel K mg B Bi Hi H σ ρ)(h:IsD K Hi v d):Rel K mg B Bi Hi H (σ++[some v]) (ρ++[.val d]) where
 len:=by rw[Qi,Qi,R.len];rfl
 ext:=R.ext
 slot:=fun j s q=>by
  by_cases hl:j<ρ.length
  ·rw[Vl hl] at q
   rw[Vl (by rw[R.len];exact hl)];exact R.slot j s q
  ·rw[Vy (by omega)] at q
   rw[Vy (by rw[R.len];omega),R.len]
   cases z:j-ρ.length with
   | zero=>rw[z] at q;cases q;exact⟨v,rfl,h⟩
   | succ n=>rw[z] at q;cases q
 dist:=fun j k a ds es q1 q2 q3 q4=>by
  have own:∀ {j:Nat} {ds:List D},(ρ++[Sl.val d])[j]?=some (.own ds)->j<ρ.length:=fun {j ds} q=>by
   by_cases hl:j<ρ.length
   ·exact hl
   ·rw[Vy (by omega)] at q
    cases z:j-ρ.length with
    | zero=>rw[z] at q;cases q
    | succ n=>rw[z] at q;cases q
  have h1:=own q1;have h2:=own q2;rw[Vl h1] at q1;rw[Vl h2] at q2;rw[Vl (by rw[R.len];exact h1)] at q3;rw[Vl (by rw[R.len];exact h2)] at q4;exact R.dist j k a ds es q1 q2 q3 q4
theorem Ext.rewrite{a:Addr}{o:HO}(e:Ext Hi H Hi' H')(hn:H a=none)(hi:Hi' a=none)(hl:∃ xs,H' a=some (.lst xs)):Ext Hi H Hi' (upd H' a o) where
 i:=e.i
 h:=⟨fun b u z=>by rw[aX (aZ z hn)];exact e.h.k _ _ z,fun P z=>by
  obtain⟨xs,hl⟩:=hl
  exact(e.h.t P z).put (fun ps y=>by rw[hl] at y;cases y) (fun ob u y=>by rw[hl] at y;cases y)⟩
 s:=fun b u z=>by rw[aX (aZ z hi)];exact e.s _ _ z
 n:=e.n
theorem IsDs.snoc{v:V}{d:D}(h:IsD K H v d):∀ {vs:List V} {ds:List D},IsDs K H vs ds->IsDs K H (vs++[v]) (ds++[d])
 | _,_,.nil=>.cons h .nil
 | _,_,.cons r t=>.cons r (IsDs.snoc h t)
end
theorem yJ{α:Type}{r:Res α}{a:α}(h:noErr r=.ok a):r=.ok a:=by
 cases r with
 | ok b=>exact h
 | err c=>cases h
 | no=>cases h
theorem zFd{t:Tv}{f:Ev}{ρ:Rho}{d:D}{ds es:List D}(h:fM t f ρ (d::ds)=.ok es):
  (t (ρ++[.val d])=.ok false/\fM t f ρ ds=.ok es)∨(t (ρ++[.val d])=.ok true/\∃ e es',f (ρ++[.val d])=.ok e/\fM t f ρ ds=.ok es'/\es=e::es'):=by
 rw[fM] at h
 cases ht:noErr (t (ρ++[.val d])) with
 | no=>rw[ht] at h;cases h
 | err c=>rw[ht] at h;cases h
 | ok c=>
  rw[ht] at h;have ht':=yJ ht
  cases c with
  | false=>exact .inl ⟨ht',h⟩
  | true=>
   refine .inr ⟨ht',?_⟩
   have h':((noErr (f (ρ++[.val d]))).bind fun e=>(fM t f ρ ds).bind fun es=>.ok (e::es))=.ok es:=h
   cases hf:noErr (f (ρ++[.val d])) with
   | no=>rw[hf] at h';cases h'
   | err c=>rw[hf] at h';cases h'
   | ok e=>
    rw[hf] at h';have h'':((fM t f ρ ds).bind fun es=>.ok (e::es))=.ok es:=h'
    cases hr:fM t f ρ ds with
    | no=>rw[hr] at h'';cases h''
    | err c=>rw[hr] at h'';cases h''
    | ok es'=>
     rw[hr] at h'';cases h''
     exact⟨e,es',yJ hf,rfl,rfl⟩
theorem xY{t:Tv}{f:Ev}{ρ:Rho}{c:Str}:∀ {ds:List D},fM t f ρ ds≠.err c
 | []=>fun h=>by cases h
 | d::ds=>fun h=>by
  rw[fM] at h
  cases ht:noErr (t (ρ++[.val d])) with
  | no=>rw[ht] at h;cases h
  | err c=>cases q:t (ρ++[.val d])<;>(rw[q] at ht;cases ht)
  | ok b=>
   rw[ht] at h
   cases b with
   | false=>exact xY h
   | true=>
    have h':((noErr (f (ρ++[.val d]))).bind fun e=>(fM t f ρ ds).bind fun es=>.ok (e::es))=.err c:=h
    cases hf:noErr (f (ρ++[.val d])) with
    | no=>rw[hf] at h';cases h'
    | err c=>cases q:f (ρ++[.val d])<;>(rw[q] at hf;cases hf)
    | ok e=>
     rw[hf] at h'
     cases hr:fM t f ρ ds with
     | no=>simp only[Res.bind,hr] at h';cases h'
     | err c'=>exact xY hr
     | ok es=>simp only[Res.bind,hr] at h';cases h'
@[irreducible] def PTs (X:Cx) (G:Gx) (ifs:List Expr) (t:Tv):Prop:=
 ∀(pins:List (Addr×Obj))(s:Shared)(σ:St)(H:Hp)(Q:Bool->Hp->Prop),Inv X pins σ H s->tTb X G t σ H Q->
  wpAny (model X.prog X.w) X.A (forIn ifs true fun c r=>if r=true then do let ok <-isTrue c X.env (eval c X.env);pure (ForInStep.yield ok) else pure (ForInStep.yield r)) (TP X pins σ Q) X.xe s
unseal PTs
theorem zBe{X:Cx}{G:Gx}:PTs X G [] qI:=fun pins s σ H Q I ⟨ρ,Hi,R,o⟩=>wpAny_tests_nil ⟨H,I,Out.here (a:=true) o R.s⟩
theorem zOm{X:Cx}{G:Gx}{c:Expr}{t:Tv}(h:PTd X G c t):PTs X G [c] t:=fun pins s σ H Q I q=>wpAny_tests_one (h pins s σ H Q I q)
end L3
namespace L3
open PySem PySem.Spec PyProof.Rows L2
unseal PEd PEf PTd PWd PAd PSd dJ POd PGd gH PId PSx jL PTs
section
variable{X:Cx}{G:Gx}{elt iter:Expr}{x:Str}{px pos:Pos}{ifs:List Expr}{scope:Scope}{it:Fv}{t:Tv}{f:Ev}{k:Nat}
theorem zLY{M:Model}{A:Around}{α:Type}{m:Sem α}{itv u:Value}{s:Shared}{Q1:Unit->Shared->Prop}{R1:α->Shared->Prop}{E:Value->Shared->Prop}(h:wpAny M A (letOwnedTupleGo (.Name x px) itv u) Q1 E s)
  (k:∀ s5,Q1 () s5->wpAny M A m R1 E s5):wpAny M A m R1 E s:=by
 have key:=wpAny_bind (f:=fun _:Unit=>m) (wpAny_mono h (fun _ s5 h5=>k s5 h5) fun _ _ z=>z)
 have e:(letOwnedTupleGo (.Name x px) itv u >>= fun _=>m)=m:=pure_bind () fun _=>m
 rw[e] at key;exact key
theorem zGc{N:List Str}(hN:N.Nodup)(h0:("" : Str)∉N)(hx:x≠("" : Str)):(N.map (msk x)++[x]).Nodup:=by
 rw[List.nodup_append];refine⟨?_,Xx.mpr ⟨by simp,List.nodup_nil⟩,fun a ha b hb e=>?_⟩
 ·induction N with
  | nil=>exact List.nodup_nil
  | cons y N ih=>
   rw[Qj,Xx];obtain⟨hy,hN⟩:=Xx.mp hN;refine⟨fun hm=>?_,ih hN fun z=>h0 (Qe _ z)⟩
   obtain⟨z,hz,e⟩:=Qv.mp hm;unfold msk at e;by_cases c1:z=x
   ·by_cases c2:y=x
    ·exact hy (by rw[c2,<-c1];exact hz)
    ·rw[if_pos c1,if_neg c2] at e;exact h0 (by rw[e];exact Qf)
   ·by_cases c2:y=x
    ·rw[if_neg c1,if_pos c2] at e;exact h0 (by rw[<-e];exact Qe _ hz)
    ·rw[if_neg c1,if_neg c2] at e;exact hy (by rw[<-e];exact hz)
 ·obtain⟨z,hz,e1⟩:=Qv.mp ha
  rw[Q0] at hb;subst hb;subst e;unfold msk at e1;split at e1
  ·exact hx e1.symm
  ·rename_i c;exact c e1
structure CW where
 i:Nat
 v:List (Option V)
 H:Hp
 Hi:Hp
 ys:List V
 done:List D
 rest:List D
structure CS (Y:Cx) (pins:List (Addr×Obj)) (σ:St) (tn:Nat->Heap->Prop) (fp:List Addr) (Hi2 H2:Hp) (a:Addr) (m:Nat) (cp:Nat->Res (List D)) (es:List D) (c:CW) (s':Shared):Prop where
 inv:Inv Y pins (σ++c.v) c.H s'
 wid:c.v.length=m
 tn:tn c.i s'.heap
 fr:∀ b∈fp,c.H b=none
 ext:Ext Hi2 H2 c.Hi c.H
 acc:c.H a=some (.lst c.ys)
 hi:c.Hi a=none
 isd:IsDs Y.K c.Hi c.ys c.done
 len:c.done.length<=c.i
 cmp:cp c.i=.ok c.rest
 all:es=c.done++c.rest
def zQy(X:Cx)(pins:List (Addr×Obj))(σ:St)(use:Option (Value->Sem Unit))(Q':Value->Shared->Prop)(Qa:Addr->Hp->Prop):Prop:=
 ∀(C A:Addr)(m:Str->Option Value)(s4:Shared)(H3:Hp),s4.heap.Ns C m->(∀ h',Heap.SameBut C s4.heap h'->Inv X pins σ H3 { s4 with heap:=h' })->sM X pins H3 C->Qa A H3->
  compPost (model X.prog X.w) X.A X.xe use Q' (.ref A) C (.ok .next) s4
theorem zAJ(hc:X.calm=true/\TB X.K X.mg G.Bi G.B)(hr:Room k X.A)(Bk:BlkOk X x scope)(hN:X.N.Nodup)(h0:("" : Str)∉X.N)(hx0:x≠("" : Str))(hi:PId X G (.Name x px) iter it)
  (hb:∀(C:Addr)(s₂:Shared)(H₂:Hp)(fp:List Addr)(G':Gx),Good (cxC X x scope C s₂ H₂ fp) G' k->PTs (cxC X x scope C s₂ H₂ fp) G' ifs t/\PEd (cxC X x scope C s₂ H₂ fp) G' elt f)
  (hs:∀ x,foldedSetIterable iter X.env x=pure x:=by intro _;rfl)
  {pins:List (Addr×Obj)} {s:Shared} {σ:St} {H Hi:Hp} {ρ:Rho} {use:Option (Value->Sem Unit)} {Q':Value->Shared->Prop} {Qa:Addr->Hp->Prop} {cpos:Pos} (I:Inv X pins σ H s) (R:kK X G Hi H σ ρ)
  (ou:Out G Hi H ((sF it t f) ρ) fun ds Hi' H'=>∀ a,zJj X.K H Hi' H' a ds->Qa a H') (hend:zQy X pins σ use Q' Qa):
  wpAny (model X.prog X.w) X.A (comprehension (.ListComp elt [⟨.Name x px,iter,ifs,0⟩] scope pos) scope X.env cpos (newList []) false (eval iter X.env) use) Q' X.xe s:=by
 refine wpAny_comprehension_free (use:=use) rfl hs (zKi (Bk.cl I)) Bk.kind Bk.names ?_
 refine thn (hi pins s σ H (fun J H2=>∃ ds Hi2,Ext Hi H Hi2 H2/\vM X.K Hi2 J ds/\Out G Hi2 H2 (if ds.length<=16777215 then fM t f ρ ds else .no) fun ds Hi' H'=>∀ a,zJj X.K H Hi' H' a ds->Qa a H') I
  ⟨ρ,Hi,R,(Out.bind ou).imp fun ds Hi2 H2 e2 o2 J gv=>⟨ds,Hi2,e2,gv,o2⟩⟩) fun v s1 h1=>thn h1 fun itv s2 h2=>?_
 obtain⟨itA,fp,tn,J,H2,rfl,I2,T,st2,f2,ds,Hi2,e2,gv,ou2⟩:=h2
 have hlen:ds.length<=16777215:=by
  by_cases hlen:ds.length<=16777215
  ·exact hlen
  ·rw[if_neg hlen] at ou2;exact ou2.elim
 rw[if_pos hlen] at ou2
 cases hes:fM t f ρ ds with
 | no=>rw[hes] at ou2;exact ou2.elim
 | err c=>exact absurd hes xY
 | ok es=>
  rw[hes] at ou2;have R2:kK X G Hi2 H2 σ ρ:=R.grow e2;refine wpAny_newObj_type (wpAny_newFunctionEnv Bk.cell (by intro y hy;simp at hy) (fun h₁ hns₁ hsb₁=>?_) Bk.kind)
  dsimp only at hns₁ hsb₁ ⊢
  generalize hH2:s2.heap.push { cls:=.type "list", dict:=none,data:=.seq ([]:List Value).toArray }=HP at hns₁ hsb₁ ⊢;have hC:HP.objs.size=s2.heap.objs.size+1:=by rw[<-hH2,Heap.size_push]
  have hDC:s2.heap.objs.size≠HP.objs.size:=by rw[hC];omega
  have ltC:∀ {b:Addr} {o:Obj},s2.heap.get? b=some o->b≠HP.objs.size:=fun e=>by rw[hC];exact Qo (Xg (Heap.lt_size e))
  have old:∀ b o,s2.heap.get? b=some o->h₁.get? b=some o:=fun b o e=>hsb₁.extBut b o (ltC e) (Heap.get?_push_of_some _ (hH2 ▸ Heap.get?_push_of_some _ e))
  have hacc:h₁.get? s2.heap.objs.size=some { cls:=.type "list", data:=.seq ([]:List Value).toArray 0 }:=hsb₁.extBut _ _ hDC (Heap.get?_push_of_some _ (hH2 ▸ Heap.get?_push_size _ rfl));have hfl:∀ b∈fp,b<s2.heap.objs.size:=fun b hb=>by obtain⟨o,e,_⟩:=T.obj _ _ st2 b hb;exact Heap.lt_size e
  have IE:=zPA (t:=s2.toks+([]:List (Str×Value)).length) I2 Bk f2 hfl (Qb _) (by rw[hC];omega) hDC old hacc hns₁
  have sub:=tN scope.names [] (Bk.cl I2) (fun y c e=>nomatch e)
  have H2D:H2 s2.heap.objs.size=none:=I2.hok.fresh (Qb _);have HD:H s2.heap.objs.size=none:=e2.h.none H2D;have Hi2D:Hi2 s2.heap.objs.size=none:=e2.s.none H2D;generalize hX:cxC X x scope HP.objs.size s2 H2 fp=Y at IE
  have GY:Good Y ⟨G.B,G.Bi,fun _ _=>False⟩ k:=by
   subst hX;exact⟨hc.1,hr,fun pins σ H s e s' _ h=>by obtain⟨_,_,_,_,_,c,_,z⟩:=h;exact z.elim,PassesOwn.never,hc.2⟩
  obtain⟨hts,hel⟩:=(hX ▸ hb HP.objs.size s2 H2 fp ⟨G.B,G.Bi,fun _ _=>False⟩ (hX.symm ▸ GY):PTs Y ⟨G.B,G.Bi,fun _ _=>False⟩ ifs t/\PEd Y ⟨G.B,G.Bi,fun _ _=>False⟩ elt f)
  have stat:∀ {H':Hp},(∀ b∈fp,H' b=none)->∀ b∈fp,sM Y pins H' b:=fun hn b hb=>by
   subst hX;refine⟨hn b hb,?_,fun z=>?_,.inl hb,fun y c e=>(f2 b hb).2.2.2.2.1 y c (sub y c e),(f2 b hb).2.2.2.2.2⟩
   ·show b≠HP.objs.size
    rw[hC];exact Qo (Xg (hfl b hb))
   ·rcases Qc.mp (I2.stkSub b z) with w | w
    ·exact(f2 b hb).2.1 w
    ·exact(f2 b hb).2.2.1 w
  have YN:Y.N.Nodup:=by subst hX;exact zGc hN h0 hx0
  have Yx:Y.N[σ.length]?=some x:=by
   subst hX;show(X.N.map (msk x)++[x])[σ.length]?=some x
   rw[Vy (by rw[Qd,I2.len];omega),Qd,I2.len,Yh];rfl
  have Yl:Y.env.scope.names.lookup x=some .local:=by subst hX;exact lookup_relabel_local Bk.loc
  have Ye:Y.env=compEnvC scope (zCt X.env scope.names []) HP.objs.size X.env:=by subst hX;rfl
  have Yxe:∀ e s,¬ Y.xe e s:=by subst hX;exact fun _ _ h=>h
  have tn1:tn 0 h₁:=T.keep _ _ _ st2 fun b _ o e=>old b o e
  have loop:∀ s3:Shared,s3={ s2 with heap:=h₁,toks:=s2.toks+([]:List (Str×Value)).length }->
    codeAny (model X.prog X.w) X.A (.compLoop (.ListComp elt [⟨.Name x px,iter,ifs,0⟩] scope pos) 0 (.ref itA) (.ref s2.heap.objs.size) Y.env) (compPost (model X.prog X.w) X.A X.xe use Q' (.ref s2.heap.objs.size) HP.objs.size) s3:=by
   rintro s3 rfl
   subst hX
   have fr0:∀ b∈fp,upd H2 s2.heap.objs.size (.lst []) b=none:=fun b hb=>by
    rw[aX (Qo (hfl b hb))];exact(f2 b hb).1
   refine codeAny_compLoop_tests (fun n s'=>∃ c:CW,n=ds.length-c.i/\CS (cxC X x scope HP.objs.size s2 H2 fp) pins σ tn fp Hi2 H2 s2.heap.objs.size 1 (fun i=>fM t f ρ (ds.drop i)) es c s') ?_ ds.length
    ⟨⟨0,[none],_,Hi2,[],[],es⟩,rfl,⟨IE,rfl,tn1,fr0,(Ext.refl e2.s).trans (Ext.newF e2.s H2D),aS,Hi2D,.nil,Qb _,hes,rfl⟩⟩
   ·rintro n s3 ⟨⟨i,vv,H3,Hi3,ys,done,rest⟩,rfl,I3,wd3,st3,fr3,e3,hD3,hiD3,rd3,hl3,hr3,hes3⟩
    dsimp only at I3 wd3 st3 fr3 e3 hD3 hiD3 rd3 hl3 hr3 hes3 ⊢
    obtain⟨v,rfl⟩:∃ v,vv=[v]:=by
     match vv,wd3 with
     | [v],_=>exact⟨v,rfl⟩
    obtain⟨w1,w2⟩:=gv Hi3 H3 e3.i e3.s i;have lift:∀ {α:Type} {m:Sem α} {Q':α->Shared->Prop} {E:Value->Shared->Prop} {s':Shared},wpAny (model X.prog X.w) X.A m Q' (cxC X x scope HP.objs.size s2 H2 fp).xe s'->wpAny (model X.prog X.w) X.A m Q' E s':=fun h=>wpAny_mono h (fun _ _ z=>z) fun e s z=>(Yxe e s z).elim
    by_cases hlt:i<ds.length
    ·obtain⟨d,hd⟩:∃ d,ds[i]?=some d:=⟨_,Qk hlt⟩
     obtain⟨go,yl⟩:=w2 d hd
     have e4:ds.drop i=d::ds.drop (i+1):=by
      rw[Qk hlt] at hd;cases hd;exact U1 hlt
     rw[e4] at hr3;refine thn (T.item (cxC X x scope HP.objs.size s2 H2 fp) rfl rfl rfl hc.1 i pins s3 _ H3 _ I3 (stat fr3) st3 go) fun r s4 ⟨u,hru,h4⟩=>?_
     subst hru;refine zLY h4 fun s5 h5=>?_
     obtain⟨xv,H5,I5,r5,y5,st5,fr5⟩:=h5;obtain⟨Hi5,e5,rd5⟩:=yl xv H5 y5;have I5':=I5.pinned (stat fr5) (T.obj _ _ st5);refine wpAny_assign_Name (pE I5' YN Yx (.inl Yl) r5 (fun s6 I6=>?_) (.inr Yl))
     have es6:(σ++[v]).set σ.length (some xv)=σ++[some xv]:=by rw[U2 _ _ (Qb _),Yh];rfl
     rw[es6] at I6;have E5:Ext Hi2 H2 Hi5 H5:=e3.trans e5;have R5:kK (cxC X x scope HP.objs.size s2 H2 fp) ⟨G.B,G.Bi,fun _ _=>False⟩ Hi5 H5 (σ++[some xv]) (ρ++[.val d]):=Rel.snoc (R2.grow E5) rd5
     obtain⟨hD5,hiD5⟩:=e5.out hD3 hiD3;have rd5':=rd3.mono e5.i
     have again:∀ {H8 Hi8:Hp} {ys':List V} {done' rest':List D} {s8:Shared},Inv (cxC X x scope HP.objs.size s2 H2 fp) (pins++tU fp s5.heap) (σ++[some xv]) H8 s8->Ext Hi2 H2 Hi8 H8->H8 s2.heap.objs.size=some (.lst ys')->Hi8 s2.heap.objs.size=none->IsDs X.K Hi8 ys' done'->done'.length<=i+1->
       fM t f ρ (ds.drop (i+1))=.ok rest'->es=done'++rest'->∃ m,m<ds.length-i/\∃ c:CW,m=ds.length-c.i/\CS (cxC X x scope HP.objs.size s2 H2 fp) pins σ tn fp Hi2 H2 s2.heap.objs.size 1 (fun i=>fM t f ρ (ds.drop i)) es c s8:=fun {H8 Hi8 ys' done' rest' s8} I8 E8 a1 a2 a3 a4 a5 a6=>by
      refine⟨ds.length-(i+1),by omega,⟨i+1,[some xv],H8,Hi8,ys',done',rest'⟩,rfl,⟨I8.unpinned,rfl,T.keep _ _ _ st5 fun b hb o e=>(I8.pin (b,o) (Qx _ (Qx _ (eU hb e)))).1,fun b hb=>?_,E8,a1,a2,a3,a4,a5,a6⟩⟩
      obtain⟨o,e,_⟩:=T.obj _ _ st5 b hb;exact(I8.pin (b,o) (Qx _ (Qx _ (eU hb e)))).2.1
     rcases zFd hr3 with⟨ht,hr4⟩ | ⟨ht,e,es',hf,hr4,hee⟩
     ·refine lift (thn (hts _ s6 _ H5 (fun b H'=>b=false/\∃ Hi',Ext Hi5 H5 Hi' H') I6 ⟨_,Hi5,R5,by rw[ht];exact fun Hi' H' e=>⟨rfl,Hi',e⟩⟩) fun b s7 h7=>?_)
      obtain⟨H7,I7,rfl,Hi7,e7⟩:=h7;obtain⟨hD7,hiD7⟩:=e7.out hD5 hiD5;exact again I7 (E5.trans e7) hD7 hiD7 (rd5'.mono e7.i) (by omega) hr4 hes3
     ·refine lift (thn (hts _ s6 _ H5 (fun b H'=>b=true/\∃ Hi',Ext Hi5 H5 Hi' H') I6 ⟨_,Hi5,R5,by rw[ht];exact fun Hi' H' e=>⟨rfl,Hi',e⟩⟩) fun b s7 h7=>?_)
      obtain⟨H7,I7,rfl,Hi7,e7⟩:=h7;obtain⟨hD7,hiD7⟩:=e7.out hD5 hiD5;simp only[if_true];refine lift (thn (hel _ s7 _ H7 (fun w H'=>∃ Hi',Ext Hi7 H7 Hi' H'/\IsD X.K Hi' w e) I7 ⟨_,Hi7,R5.grow e7,by rw[hf];exact fun Hi' H' ee w hw=>⟨Hi',ee,hw⟩⟩) fun u8 s8 h8=>?_)
      obtain⟨w8,H8,I8,r8,Hi8,e8,rw8⟩:=h8;obtain⟨hD8,hiD8⟩:=e8.out hD7 hiD7;have rdy:IsDs X.K Hi8 ys done:=(rd5'.mono e7.i).mono e8.i;refine lift (thn (pL (X:=(cxC X x scope HP.objs.size s2 H2 fp)) _ s8 _ H8 (.ref s2.heap.objs.size) [w8] (.ref s2.heap.objs.size) [u8] (fun _ H'=>H'=upd H8 s2.heap.objs.size (.lst (ys++[w8]))) I8 rfl (.cons r8 .nil) ⟨_,ys,w8,rfl,rfl,hD8,?_,rfl⟩) fun _ s9 h9=>?_)
      ·rw[rdy.length]
       exact V8 hl3 (Qn hlt (Qp hlen (by decide)))
      ·obtain⟨_,H9,I9,_,rfl⟩:=h9
       refine again I9 (Ext.rewrite ((E5.trans e7).trans e8) H2D hiD8 ⟨_,hD8⟩) aS hiD8 (rdy.snoc rw8) (by rw[Qi];exact Xe hl3) hr4 ?_
       rw[hes3,hee,Vp];rfl
    ·rw[Yt (by omega),fM] at hr3
     cases hr3;refine thn (T.done (cxC X x scope HP.objs.size s2 H2 fp) rfl rfl rfl hc.1 i pins s3 _ H3 _ I3 (stat fr3) st3 (w1 (by omega))) fun r s4 ⟨hrn,I4⟩=>?_
     subst hrn;obtain⟨m4,hn4,_⟩:=I4.loc;have fC:H3 HP.objs.size=none:=I4.free;have nC:∀ b u,H3 b=some u->b≠HP.objs.size:=fun b u e z=>by rw[z,fC] at e;cases e
     have U4:=I4.base;refine hend HP.objs.size s2.heap.objs.size m4 s4 H3 hn4 (fun h' hs'=>?_) (I2.fpOk (by rw[hC];omega) fC) ?_
     ·have kp:∀ b o,b≠HP.objs.size->s4.heap.get? b=some o->h'.get? b=some o:=fun b o hb e=>hs'.extBut b o hb e
      refine Inv.call' I2 (ch:=fp) I4.os ⟨fun b o e n hb hx=>kp b o (ltC e) (U4.keep b o e n hb hx),fun b o e n hb hx=>?_,U4.free,fun b o e hx=>?_,U4.tups,U4.frzs,U4.tbls⟩ (fun b u e=>?_) I4.bare (fun b hb=>⟨(f2 b hb).2.2.2.1,(f2 b hb).2.1,(f2 b hb).2.2.2.2.1,(f2 b hb).2.2.2.2.2⟩)
      ·obtain⟨sl,q⟩:=U4.slot b o e n hb hx
       exact⟨sl,kp b _ (ltC e) q⟩
      ·obtain⟨o',q⟩:=U4.there b o e hx
       exact⟨o',kp b _ (ltC e) q⟩
      ·refine(I4.hok b u e).stay (fun c v hc q=>kp c v ?_ q) (fun _ q=>q) fun _ _ q=>q
       rcases hc with z | z
       ·rw[z];exact nC b u e
       ·exact nC c _ z
     ·refine ou2 Hi3 H3 e3 _ ⟨HD,hiD3,ys,hD3,?_⟩
      rw[hes3,Q3];exact rd3
  rw[Ye] at loop;exact codeAny_compStart_list (loop _ rfl) (T.self _ 0 _ _ _ tn1 (loop _ rfl))
theorem zLa(hc:X.calm=true/\TB X.K X.mg G.Bi G.B)(hr:Room k X.A)(Bk:BlkOk X x scope)(hN:X.N.Nodup)(h0:("" : Str)∉X.N)(hx0:x≠("" : Str))(hi:PId X G (.Name x px) iter it)
  (hb:∀(C:Addr)(s₂:Shared)(H₂:Hp)(fp:List Addr)(G':Gx),Good (cxC X x scope C s₂ H₂ fp) G' k->PTs (cxC X x scope C s₂ H₂ fp) G' ifs t/\PEd (cxC X x scope C s₂ H₂ fp) G' elt f)
  (hs:∀ x,foldedSetIterable iter X.env x=pure x:=by intro _;rfl):PEf X G (.ListComp elt [⟨.Name x px,iter,ifs,0⟩] scope pos) (sF it t f):=by
 intro pins s σ H Q I w;obtain⟨ρ,Hi,R,ou⟩:=w;rw[eval_ListComp];refine zAJ hc hr Bk hN h0 hx0 hi hb hs (use:=none) (Qa:=fun a H'=>Q (.ref a) H') I R ou fun C A m s4 H3 hn hI _ q=>?_
 exact⟨m,hn,fun h' hs'=>⟨.ref A,H3,hI h' hs',rfl,q⟩⟩
def PC(X:Cx)(e:Expr)(t:TE):Prop:=∀(pins:List (Addr×Obj))(s:Shared)(σ:St)(H:Hp)(Q:VK),Inv X pins σ H s->t σ H Q->∀(u:Value->Sem Unit)(Q':Unit->Shared->Prop),
 (∀(C:Addr)(m:Str->Option Value)(s4:Shared)(v:V)(w:Value)(H3:Hp),s4.heap.Ns C m->(∀ h',Heap.SameBut C s4.heap h'->Inv X pins σ H3 { s4 with heap:=h' })->sM X pins H3 C->cV v w->Q v H3->
  wpAny (model X.prog X.w) X.A (u w) (fun _ s''=>∃ m,s''.heap.Ns C m/\∀ h',Heap.SameBut C s''.heap h'->Q' () { s'' with heap:=h' }) X.xe s4)->wpAny (model X.prog X.w) X.A (evalThenUse e X.env u) Q' X.xe s
@[irreducible] def PCd (X:Cx) (G:Gx) (e:Expr) (f:Ev):Prop:=PC X e (tD X G f)
unseal PCd
@[irreducible] def PCf (X:Cx) (G:Gx) (e:Expr) (f:Fv):Prop:=PC X e (tF X G f)
unseal PCf
theorem zMf(hc:X.calm=true/\TB X.K X.mg G.Bi G.B)(hr:Room k X.A)(Bk:BlkOk X x scope)(hN:X.N.Nodup)(h0:("" : Str)∉X.N)(hx0:x≠("" : Str))(hi:PId X G (.Name x px) iter it)
  (hb:∀(C:Addr)(s₂:Shared)(H₂:Hp)(fp:List Addr)(G':Gx),Good (cxC X x scope C s₂ H₂ fp) G' k->PTs (cxC X x scope C s₂ H₂ fp) G' ifs t/\PEd (cxC X x scope C s₂ H₂ fp) G' elt f)
  (hs:∀ x,foldedSetIterable iter X.env x=pure x:=by intro _;rfl):PCf X G (.ListComp elt [⟨.Name x px,iter,ifs,0⟩] scope pos) (sF it t f):=by
 intro pins s σ H Q I w u Q' hend;obtain⟨ρ,Hi,R,ou⟩:=w;rw[arm_evalThenUse_ListComp];refine wpAny_bind (zAJ hc hr Bk hN h0 hx0 hi hb hs (use:=some u) (Q':=fun _ s=>wpAny (model X.prog X.w) X.A (pure ()) Q' X.xe s) (Qa:=fun a H'=>Q (.ref a) H') I R ou fun C A m s4 H3 hn hI fo q=>?_)
 refine thn (hend C m s4 (.ref A) (.ref A) H3 hn hI fo rfl q) fun _ s5 h5=>?_
 obtain⟨m5,hn5,h5⟩:=h5;exact⟨m5,hn5,fun h' hs'=>wpAny_pure (h5 h' hs')⟩
theorem zKG{i:Nat}{y:Str}{e:Expr}{te:TE}{pos' pos:Pos}(hN:X.N.Nodup)(hi:X.N[i]?=some y)(hx:Loc X.env.scope y)(he:PC X e te)(hs:swapsWith e (some (.Name y pos')) pos.line X.env=pure true)
  (hf:X.fn y=true∨X.env.scope.names.lookup y=some .local):PS X (.Assign [.Name y pos'] e pos) (zPI te (L2.gName i)):=by
 intro pins s σ H E I h;rw[exec_Assign_Name_used _ _ _ _ hs];refine wpAny_bind (wpAny_standAt (wpAny_bind ?_))
 refine he pins s σ H _ I h _ _ fun C m s4 v w H3 hn hI fo r q=>?_
 have I4:Inv X pins σ H3 s4:=hI s4.heap (Heap.SameBut.refl _ _);refine wpAny_assign_Name (zAP I4 hN hi hx r (fun s5 I5 sb=>?_) hf)
 obtain⟨a,sb,ha⟩:=sb
 have aC:C≠a:=by
  rcases ha with rfl | ha
  ·exact fo.2.1
  ·exact fun z=>fo.2.2.2.2.1 y a ha z.symm
 refine⟨m,hn.sameBut sb aC,fun h' hs'=>wpAny_pure ?_⟩
 have fC:=fo.1;have nC:∀ b u,H3 b=some u->b≠C:=fun b u e z=>by rw[z,fC] at e;cases e
 have kp:∀ b o,b≠C->s5.heap.get? b=some o->h'.get? b=some o:=fun b o hb e=>hs'.extBut b o hb e
 refine⟨σ.set i (some v),H3,?_,q⟩
 refine Inv.call' I5 (ch:=[C]) rfl ⟨fun b o e n hb hx=>kp b o (by simpa using hx) e,fun b o e n hb hx=>⟨o.slots,kp b _ (by simpa using hx) e⟩,fun b o e n hx=>n,fun b o e hx=>⟨o,kp b _ (by simpa using hx) e⟩,fun _ _ q=>q,fun _ _ _ q=>q,fun _ ps q=>⟨#[],by simpa using q⟩⟩ (fun b u e=>?_) I5.bare (fun b hb=>?_)
 ·refine(I5.hok b u e).stay (fun c v hc q=>kp c v ?_ q) (fun _ q=>q) fun _ _ q=>q
  rcases hc with z | z
  ·rw[z];exact nC b u e
  ·exact nC c _ z
 ·have e:b=C:=by simpa using hb
  subst e;exact⟨fo.2.2.2.1,fo.2.1,fo.2.2.2.2.1,fo.2.2.2.2.2⟩
theorem zOb{i:Nat}{y:Str}{e:Expr}{fs:Fv}{pos' pos:Pos}(hN:X.N.Nodup)(hi:X.N[i]?=some y)(hx:Loc X.env.scope y)(he:PCf X G e fs)(hs:swapsWith e (some (.Name y pos')) pos.line X.env=pure true)
  (hf:X.fn y=true∨X.env.scope.names.lookup y=some .local:=by first | exact .inl rfl | exact .inr rfl | assumption):PSd X G (.Assign [.Name y pos'] e pos) (zBQ i fs):=PS.wk (zKG hN hi hx he hs hf) fun E σ H q=>by
 obtain⟨ρ,Hi,R,h⟩:=q;refine⟨ρ,Hi,R,kI R h fun ds Hi' H' _ e h' a n=>?_⟩
 obtain⟨n1,n2,xs,n3,n4⟩:=n;exact h' _ Hi' H' (Same.refl _) (R.setOwn e n1 n3 n2 n4)
end
end L3
namespace L3
open PySem PySem.Spec PyProof.Rows L2
unseal PEd PEf PTd PWd PAd PSd dJ POd PGd gH PId PSx jL PTs PCd PCf
def zPe(sc:Scope)(N:List Str)(x:Str)(scope:Scope):Bool:=
 scope.names.all (fun y=>y.2 != .cell) && scope.names.lookup x==some .local && scope.names.all (fun y=>y.2 != .local || scope.names.lookup y.1==some .local)
  && scope.names.all (fun p=>p.2 != .free || (sc.names.lookup p.1==some .cell || sc.names.lookup p.1==some .free)) && N.all (fun y=>y==x || scope.names.lookup y != some .local) && (scope.names.lookup ("" : Str)).isNone && !N.contains ("" : Str) && x != ("" : Str)
section
variable{X:Cx}{G:Gx}{elt iter:Expr}{x:Str}{px pos:Pos}{ifs:List Expr}{scope sc:Scope}{it:Fv}{t:Tv}{f:Ev}{k:Nat}{N:List Str}
theorem zJW(hk:scope.kind=.function)(hsc:X.env.scope=sc)(hN:X.N=N)(h:zPe sc N x scope=true):BlkOk X x scope/\("" : Str)∉X.N/\x≠("" : Str):=by
 unfold zPe at h;simp only[Vj] at h;obtain⟨⟨⟨⟨⟨⟨⟨h1,h2⟩,h3⟩,h4⟩,h5⟩,h6⟩,h7⟩,h8⟩:=h;subst hN hsc;refine⟨⟨hk,fun y hy e=>?_,beq_iff_eq.mp h2,fun y hy e=>?_,fun p hp e=>?_,fun y hy hne e=>?_,?_⟩,fun z=>?_,fun z=>?_⟩
 ·have:=V9.mp h1 y hy
  rw[e] at this;cases this
 ·have:=V9.mp h3 y hy
  rw[e] at this;simpa using this
 ·have:=V9.mp h4 p hp
  rw[e] at this;have q:X.env.scope.names.lookup p.1=some .cell∨X.env.scope.names.lookup p.1=some .free:=by simpa using this
  exact q
 ·have:=V9.mp h5 y hy
  rw[e] at this;simp[hne] at this
 ·simpa using h6
 ·have:X.N.contains ("" : Str)=true:=by simpa using z
  rw[this] at h7;cases h7
 ·rw[z] at h8;simp at h8
theorem pA(W:Good X G k)(hnd:N.Nodup)(hk:scope.kind=.function)(hsc:X.env.scope=sc)(hN:X.N=N)(h:zPe sc N x scope=true)(hi:PId X G (.Name x px) iter it)
  (hb:∀(C:Addr)(s₂:Shared)(H₂:Hp)(fp:List Addr)(G':Gx),Good (cxC X x scope C s₂ H₂ fp) G' k->PTs (cxC X x scope C s₂ H₂ fp) G' ifs t/\PEd (cxC X x scope C s₂ H₂ fp) G' elt f)
  (hs:∀ x,foldedSetIterable iter X.env x=pure x:=by intro _;rfl):PEf X G (.ListComp elt [⟨.Name x px,iter,ifs,0⟩] scope pos) (sF it t f):=by
 obtain⟨b,h0,hx⟩:=zJW hk hsc hN h;exact zLa ⟨W.calm,W.tb⟩ W.room b (hN ▸ hnd) h0 hx hi hb hs
theorem zJh(W:Good X G k)(hnd:N.Nodup)(hk:scope.kind=.function)(hsc:X.env.scope=sc)(hN:X.N=N)(h:zPe sc N x scope=true)(hi:PId X G (.Name x px) iter it)
  (hb:∀(C:Addr)(s₂:Shared)(H₂:Hp)(fp:List Addr)(G':Gx),Good (cxC X x scope C s₂ H₂ fp) G' k->PTs (cxC X x scope C s₂ H₂ fp) G' ifs t/\PEd (cxC X x scope C s₂ H₂ fp) G' elt f)
  (hs:∀ x,foldedSetIterable iter X.env x=pure x:=by intro _;rfl):PCf X G (.ListComp elt [⟨.Name x px,iter,ifs,0⟩] scope pos) (sF it t f):=by
 obtain⟨b,h0,hx⟩:=zJW hk hsc hN h;exact zMf ⟨W.calm,W.tb⟩ W.room b (hN ▸ hnd) h0 hx hi hb hs
end
section
variable{X:Cx}{G:Gx}{a b:Expr}{pos:Pos}{f:Fv}{g:Ev}
theorem IsDs.rep{K:Fg_}{H:Hp}{xs:List V}{ds:List D}(h:IsDs K H xs ds):∀ n:Nat,IsDs K H (List.replicate n xs).flatten (List.replicate n ds).flatten
 | 0=>.nil
 | n+1=>by
  rw[Xk,Xk,Xz,Xz];exact h.append (IsDs.rep h n)
theorem zHu(ha:PEf X G a f)(hb:PEd X G b g):PEf X G (.BinOp a .Mult b pos) (zMy f g):=PE.wk (zBd zOl ha hb) fun σ H Q q=>by
 obtain⟨ρ,Hi,R,ou⟩:=q;refine⟨ρ,Hi,R,(Out.bind ou).imp fun ds Hi1 H1 e1 o1 l nl=>?_⟩
 refine⟨ρ,Hi1,R.grow e1,(Out.bind o1).imp fun d Hi2 H2 e2 o2 v rv=>?_⟩
 cases d<;>first | exact o2.elim | skip
 rename_i k
 obtain⟨n1,n2,xs,n3,n4⟩:=nl;have o2':Out G Hi2 H2 (if 0<=k/\k<2^62/\ds.length*k.toNat<=16777216 then Res.ok (List.replicate k.toNat ds).flatten else .no) _:=o2;by_cases hz:0<=k/\k<2^62/\ds.length*k.toNat<=16777216
 ·rw[if_pos hz] at o2'
  refine⟨l,k,xs,rfl,rv.intI,e2.h.at n3,by omega,by omega,by rw[n4.length];exact hz.2.2,fun p hp=>?_⟩
  exact o2' _ _ (Ext.newF e2.s hp) p ⟨(e1.h.trans e2.h).none hp,e2.s.none hp,_,aS,(n4.mono e2.i).rep _⟩
 ·rw[if_neg hz] at o2';exact o2'.elim
end
section
variable{es r:List Expr}{a b f:Expr}{k:Nat}{p:Pos}{x:Str}{c:Const}{env:Env}
theorem sP:starEach (.Tuple es k p::r) env=(false,eval (.Tuple es k p) env)::starEach r env:=rfl
theorem aW{o:Operator}:starEach (.BinOp a o b p::r) env=(false,eval (.BinOp a o b p) env)::starEach r env:=rfl
theorem bD:starEach (.Subscript a b p::r) env=(false,eval (.Subscript a b p) env)::starEach r env:=rfl
theorem aH:starEach (.Name x p::r) env=(false,eval (.Name x p) env)::starEach r env:=rfl
theorem cU:starEach (.Constant c k p::r) env=(false,eval (.Constant c k p) env)::starEach r env:=rfl
theorem aJ{ks:List Keyword}:starEach (.Call f es ks p::r) env=(false,eval (.Call f es ks p) env)::starEach r env:=rfl
end
section
variable{X:Cx}{G:Gx}{e st:Expr}{te tk:TE}{lo hi:Option Expr}{tl th:TO}{pos p2:Pos}{f g:Ev}{l h:Ov}
end
end L3
set_option maxRecDepth 100000
namespace L3
open PySem PySem.Spec PyProof.Rows L2
section
variable{prog:Program}{w:World}{A:Around}{E:Value->Shared->Prop}{s:Shared}
end
section
unseal PEd PEf PTd PWd PAd PSd dJ POd PGd gH PId PSx jL PTs PCd PCf
variable{X:Cx}{G:Gx}{fs:Fv}{f:Ev}
end
end L3
namespace L3
open PySem PySem.Spec PyProof.Rows L2
unseal PEd PEf PTd PWd PAd PSd dJ POd PGd gH PId PSx jL PTs PCd PCf
section
variable{X:Cx}{G:Gx}
def zQr(K:PySem.W.Frag):List V->Hp->VK->Prop:=fun xs H Q=>∃(a:Addr)(ns:List Int),xs=[.ref a]/\(SqL K H a (ns.map V.int)∨SqT K H a (ns.map V.int))/\Q (.int ns.sum) H
theorem tI(ns:List Int):∀ j,preSum (fun i=>ns.getD i 0) j=(ns.take j).sum
 | 0=>by rw[List.take_zero];rfl
 | j+1=>by
  rw[preSum,tI ns j,Yd];rw[Qq]
  cases ns[j]? with
  | none=>simp
  | some x=>simp
theorem yB{ns:List Int}{its:List Value}(r:dH (ns.map V.int) its){i:Nat}{v:Value}(h:its[i]?=some v):∃ t,v=.int (ns.getD i 0) t:=by
 have hl:=r.length;rw[Qd] at hl;have hi:=(Q2.mp h).1
 have hx:(ns.map V.int)[i]?=some (.int (ns.getD i 0)):=by
  rw[Qr,Qq,Qk (by omega)];rfl
 obtain⟨u,hu,ru⟩:=r.get hx;rw[h] at hu;cases hu;exact ru
theorem mV(hc:X.calm=true):vL X (.builtin "sum") (zQr X.K):=by
 intro pins s σ H xs us Q I r h;obtain⟨a,ns,rfl,hq,q⟩:=h;obtain⟨u,rfl,ru⟩:=r.one;cases ru;have hh:=I.ok.hd hc;rcases hq with hq | hq
 ·obtain⟨its,rv,p,hz⟩:=I.list hq
  have hlt:a<s.heap.objs.size:=by obtain⟨_,e,_⟩:=p.isList;exact Heap.lt_size e
  have hl:=rv.length;rw[Qd] at hl;refine call_sum_walkG (wpAny_pyIter_list p.isList ?_)
  refine⟨s.heap.objs.size,_,_,_,_,_,fun i=>ns.getD i 0,rfl,Walks.list (A:=X.A.in1) hh s.heap.objs.size a (Qo hlt) its.toArray,⟨⟨_,Heap.get?_push_size _ rfl,rfl,rfl⟩,p.isList.push _⟩,fun b hb=>?_,fun i v hv=>yB rv (by simpa using hv),fun h' tk t' hk=>?_⟩
  ·show b<(s.heap.push _).objs.size
   rw[Heap.size_push];rcases Qc.mp hb with rfl | hb
   ·exact Yi _
   ·rcases Qc.mp hb with rfl | hb
    ·exact Xg hlt
    ·cases hb
  ·refine⟨.int ns.sum,H,I.kept (t':=tk) fun b o e=>hk b o (fun z=>?_) (Heap.get?_push_of_some _ e),⟨t',?_⟩,q⟩
   ·have z':b=s.heap.objs.size:=by simpa using z
    have l:=Heap.lt_size e;rw[z'] at l;exact Vt _ l
   ·rw[Qh,<-hl,tI,Xa]
 ·obtain⟨its,rv,p,hz⟩:=I.tuple hq
  have p':s.heap.IsTuple a its.toArray:=p;have hlt:a<s.heap.objs.size:=by obtain⟨_,e,_⟩:=p';exact Heap.lt_size e
  have hl:=rv.length;rw[Qd] at hl;refine call_sum_walkG (wpAny_pyIter_tuple p' ?_)
  refine⟨s.heap.objs.size,_,_,_,_,_,fun i=>ns.getD i 0,rfl,Walks.tuple (A:=X.A.in1) hh s.heap.objs.size a (Qo hlt) its.toArray,⟨⟨_,Heap.get?_push_size _ rfl,rfl,rfl⟩,p'.push _⟩,fun b hb=>?_,fun i v hv=>yB rv (by simpa using hv),fun h' tk t' hk=>?_⟩
  ·show b<(s.heap.push _).objs.size
   rw[Heap.size_push];rcases Qc.mp hb with rfl | hb
   ·exact Yi _
   ·rcases Qc.mp hb with rfl | hb
    ·exact Xg hlt
    ·cases hb
  ·refine⟨.int ns.sum,H,I.kept (t':=tk) fun b o e=>hk b o (fun z=>?_) (Heap.get?_push_of_some _ e),⟨t',?_⟩,q⟩
   ·have z':b=s.heap.objs.size:=by simpa using z
    have l:=Heap.lt_size e;rw[z'] at l;exact Vt _ l
   ·rw[Qh,<-hl,tI,Xa]
theorem jN{K:Fg_}{H:Hp}:∀ {xs:List V} {ds:List D} {ns:List Int},IsDs K H xs ds->mX ds=some ns->xs=ns.map V.int
 | _,_,ns,.nil,h=>by cases h;rfl
 | _,_,ns,.cons (d:=d) (ds:=ds) r rs,h=>by
  cases d with
  | int i=>
   rw[mX] at h
   cases z:mX ds with
   | none=>rw[z] at h;cases h
   | some ms=>
    rw[z] at h;cases h;rw[r.intI,jN rs z];rfl
  | _=>cases h
theorem wU:zBv X (zQr X.K) zCJ:=⟨fun a c z=>(by
  unfold zCJ at z;split at z
  ·split at z<;>cases z
  ·split at z<;>cases z
  ·cases z),fun Hi H vs ds d Q s r z q=>by
  unfold zCJ at z;split at z
  ·split at z
   ·rename_i ns hns
    cases z;obtain⟨v,rfl,h⟩:=r.one;obtain⟨a,xs,rfl,h1,h2⟩:=h.lstI;have e:=jN h2 hns;subst e;exact⟨a,ns,rfl,.inl (cH s h1),q _ Hi H (Ext.refl s) (.int _)⟩
   ·cases z
  ·split at z
   ·rename_i ns hns
    cases z;obtain⟨v,rfl,h⟩:=r.one;obtain⟨a,xs,rfl,h1,h2⟩:=h.tupI;have e:=jN h2 hns;subst e;exact⟨a,ns,rfl,.inr (bV s h1),q _ Hi H (Ext.refl s) (.int _)⟩
   ·cases z
  ·cases z⟩
theorem jR:bootBuiltins "sum" = some (.builtin "sum"):=by first | rfl | decide +kernel
end
section
variable{prog:Program}{w:World}{A:Around}{E:Value->Shared->Prop}{s:Shared}
end
section
variable{X:Cx}{G:Gx}{es:List Expr}{pos:Pos}
end
theorem ln0{α:Type}{us:List α}(h:us.length=0):us=[]:=U0 h
theorem ln1{α:Type}{us:List α}(h:us.length=1):∃ a0:α,us=[a0]:=by
 cases us with
 | nil=>cases h
 | cons a r=>
  cases ln0 (Y8 h)
  exact⟨a,rfl⟩
theorem ln2{α:Type}{us:List α}(h:us.length=2):∃ a0 a1:α,us=[a0,a1]:=by
 cases us with
 | nil=>cases h
 | cons a r=>
  obtain⟨a1,rfl⟩:=ln1 (Y8 h);exact⟨a,a1,rfl⟩
theorem ln3{α:Type}{us:List α}(h:us.length=3):∃ a0 a1 a2:α,us=[a0,a1,a2]:=by
 cases us with
 | nil=>cases h
 | cons a r=>
  obtain⟨a1,a2,rfl⟩:=ln2 (Y8 h);exact⟨a,a1,a2,rfl⟩
theorem ln4{α:Type}{us:List α}(h:us.length=4):∃ a0 a1 a2 a3:α,us=[a0,a1,a2,a3]:=by
 cases us with
 | nil=>cases h
 | cons a r=>
  obtain⟨a1,a2,a3,rfl⟩:=ln3 (Y8 h);exact⟨a,a1,a2,a3,rfl⟩
section
variable{X:Cx}{G:Gx}{a b c e:Expr}{pos p2:Pos}{f g h:Ev}{fs:Fv}{lo hi:Option Expr}{l u:Ov}
end
section
variable{X:Cx}{G:Gx}{a b c e:Expr}{pos p2 p:Pos}{f g h:Ev}{fs:Fv}{x:Str}
theorem zCE{bl:List Stmt}:dJ X G bl sNo:=fun pins s σ H E I q=>by
 obtain⟨ρ,Hi,R,ou⟩:=q;exact ou.elim
def zID(T:List (Str×Str)):List (Str×KTD.Dat):=T.map fun q=>(q.1,.flat (.str q.2))
structure IsTab (K:PySem.W.Frag) (mg:Str->Option Value) (x:Str) (T:List (Str×Str)) (a:Addr):Prop where
 mg:mg x=some (.ref a)
 tab:∀ h:Heap,K.In h->KTD.TextTab h a (zID T)
theorem zHI(k:Str):∀ T:List (Str×Str),KTD.datumAt k (zID T)=(T.lookup k).map fun y=>.flat (.str y)
 | []=>rfl
 | (x,y)::r=>by
  show(if decide (k=x)=true then some (KTD.Dat.flat (.str y)) else KTD.datumAt k (zID r))=_
  rw[V0];by_cases hx:k=x
  ·rw[if_pos (decide_eq_true hx),show(k==x)=true from beq_iff_eq.mpr hx];rfl
  ·rw[if_neg (by simp[hx]),show(k==x)=false from beq_eq_false_iff_ne.mpr hx];exact zHI k r
theorem zFp(k:Str)(T:List (Str×Str)):KTD.inKeys k (zID T)=(T.lookup k).isSome:=by
 rw[<-KTD.isSome_datumAt,zHI,Option.isSome_map]
theorem zKf{T:List (Str×Str)}{ad:Addr}(t:IsTab X.K X.mg x T ad)(hg:Gl X x)(hd:(x==("__debug__" : Str))=false:=by decide):PE X (.Name x p) (tC (.ref ad)):=zGw hg t.mg rfl hd
theorem zHY{T:List (Str×Str)}{ad:Addr}(t:IsTab X.K X.mg x T ad):OpR X (compareOp .NotIn) (fun v y H Q=>∃ k,v=.str k/\y=.ref ad/\Q (.bl (!(T.lookup k).isSome)) H):=by
 intro pins s σ H v y u w Q I rx ry h;obtain⟨k,rfl,rfl,q⟩:=h;obtain⟨tk,rfl⟩:=rx;cases ry;refine KTD.notin_text ⟨t.tab s.heap I.kIn,fun _ _ e=>e⟩ ?_
 rw[zFp];exact⟨.bl _,H,I.tok _,rfl,q⟩
theorem zAF{h₀:Heap}{k:Str}{P:Value->Prop}:∀ {T:List (Str×Str)},(∀ z t,T.lookup k=some z->P (.str z t))->KTD.EachL h₀ k P (zID T)
 | [],_=>trivial
 | [(x,y)],hP=>fun hk t=>hP y t (by rw[V0,show(k==x)=true from beq_iff_eq.mpr hk])
 | (x,y)::q::r,hP=>by
  show if decide (k=x)=true then KTD.Opened h₀ P (.flat (.str y)) else KTD.EachL h₀ k P (zID (q::r))
  by_cases hk:k=x
  ·rw[if_pos (decide_eq_true hk)]
   exact fun t=>hP y t (by rw[V0,show(k==x)=true from beq_iff_eq.mpr hk])
  ·rw[if_neg (by simp[hk])]
   exact zAF fun z t hz=>hP z t (by rw[V0,show(k==x)=false from beq_eq_false_iff_ne.mpr hk];exact hz)
theorem zFT(T:List (Str×Str)):((zID T).all fun q=>KTD.plain q.2)=true:=by
 unfold zID;rw[List.all_map];exact V9.mpr fun _ _=>rfl
theorem zNV{T:List (Str×Str)}{ad:Addr}(t:IsTab X.K X.mg x T ad):IxR X (fun v y H Q=>∃ k z,v=.ref ad/\y=.str k/\T.lookup k=some z/\Q (.str z) H):=by
 intro value slice pins s σ H v y u w Q I rx ry h hs;obtain⟨k,z,rfl,rfl,hk,q⟩:=h;cases rx;obtain⟨tk,rfl⟩:=ry;refine KTD.item_textA ⟨t.tab s.heap I.kIn,fun _ _ e=>e⟩ (zFT T) (by rw[zFp,hk];rfl) ?_ hs
 refine zAF fun z' t' hz=>?_
 rw[hk] at hz;cases hz;exact⟨.str _,H,I.tok _,⟨_,rfl⟩,q⟩
theorem unT{o:D->Res D}{r:R2}{y:V}(hr:∀ (Hi H:Hp) (v:V) (d:D) (Q:VK),IsD X.K Hi v d->Same Hi H->(∃ d',o d=.ok d'/\(∀ w Hi' H',Ext Hi H Hi' H'->IsD X.K Hi' w d'->Q w H'))->r v y H Q)
  (he:∀ d c,o d≠.err c):∀ σ H Q,tD X G (eUn o f) σ H Q->tOp r (tD X G f) (tC y) σ H Q:=fun σ H Q q=>by
 obtain⟨ρ,Hi,R,ou⟩:=q;refine zDV R ou fun v d Hi1 H1 e1 R1 r1 o1=>?_
 cases z:o d with
 | no=>rw[z] at o1;exact o1.elim
 | err c=>exact absurd z (he d c)
 | ok d'=>rw[z] at o1;exact hr Hi1 H1 v d Q r1 R1.s ⟨d',z,fun w Hi' H' e1 r1=>o1 Hi' H' e1 w r1⟩
theorem zNv{T:List (Str×Str)}{ad:Addr}:∀ σ H Q,tD X G (eUn (qM T) f) σ H Q->tOp (fun v y H Q=>∃ k,v=.str k/\y=.ref ad/\Q (.bl (!(T.lookup k).isSome)) H) (tD X G f) (tC (.ref ad)) σ H Q:=
 unT (fun Hi H v d Q r s h=>by
  obtain⟨d',z,q⟩:=h;unfold qM at z;split at z
  ·cases z;exact⟨_,r.strI,rfl,q _ Hi H (Ext.refl s) (.bl _)⟩
  ·cases z) fun d c z=>by unfold qM at z;split at z<;>cases z
theorem zMN{op:CmpOp}{o:D->Res D}{r:R2}{y:V}(hp:PT X (.Compare a [op] [b] pos) (zNw (tOp r (tD X G f) (tC y))))(hu:∀ σ H Q,tD X G (eUn o f) σ H Q->tOp r (tD X G f) (tC y) σ H Q):PTd X G (.Compare a [op] [b] pos) (dL (eUn o f)):=
 PT.wk hp fun σ H Q q=>by
  obtain⟨ρ,Hi,R,ou⟩:=q;refine hu σ H _ ⟨ρ,Hi,R,ou.bind.imp fun d Hi' H' e o v r=>?_⟩
  cases d with
  | bl c=>rw[r.blI];exact⟨c,rfl,o.here e.s⟩
  | _=>exact o.elim
theorem zIl{T:List (Str×Str)}{ad:Addr}(t:IsTab X.K X.mg x T ad)(hg:Gl X x)(ha:PEd X G a f)(hm:behindInMarks .NotIn (.Name x p)=false)(hd:(x==("__debug__" : Str))=false:=by decide):PTd X G (.Compare a [.NotIn] [.Name x p] pos) (dL (eUn (qM T) f)):=
 zMN (zCS (zHY t) ha (zKf t hg hd) hm) zNv
theorem zOX{T:List (Str×Str)}{ad:Addr}(t:IsTab X.K X.mg x T ad)(hg:Gl X x)(hb:PEd X G b g)(hs:zCl b)(hd:(x==("__debug__" : Str))=false:=by decide):PEd X G (.Subscript (.Name x p) b pos) (eUn (zAj T) g):=
 PE.wk (zEm (zNV t) (zKf t hg hd) hb hs) fun σ H Q q=>by
  obtain⟨ρ,Hi,R,ou⟩:=q;refine zDV R ou fun v d Hi1 H1 e1 R1 r1 o1=>?_
  cases d with
  | str k=>
   have o2:Out G Hi1 H1 (zOJ (T.lookup k)) _:=o1
   cases z:T.lookup k with
   | none=>rw[z] at o2;exact o2.elim
   | some y=>rw[z] at o2;exact⟨k,y,rfl,r1.strI,z,o2.here R1.s _ (.str _)⟩
  | _=>exact o1.elim
end
section
variable{prog:Program}{w:World}{A:Around}{R:Result->Shared->Prop}{I:Addr}{fp wr:List Addr}{n:Nat}{P:Nat->Value->Prop}{St:Nat->Heap->Prop}{kw:List (Str×Value)}
def zMn(R:Result->Shared->Prop)(wr:List Addr)(S:Addr)(s:Shared)(P:Value->Prop):Prop:=
 ∀ v h' tk,P v->(∀ b o,b∉wr->b≠S->s.heap.get? b=some o->h'.get? b=some o)->R (.ok (.ret v)) { s with heap:=h',toks:=tk }
def zPM(s:Shared)(S:Addr)(vs:Array Value)(c:Nat):Prop:=s.heap.get? S=some { cls:=.type "list", dict:=none,data:=.seq vs c,slots:=#[] }
theorem zEd:(toString "max" ++ toString ".loop" : String) = "max.loop" := by decide
theorem zMi(W:Walks prog w A.in1 I fp wr n P St)(bt:Nat->Nat->Bool)(hcmp:CmpOf prog w A.in1 .Gt P bt)(S:Addr)(hSf:S∉fp):
  ∀(k j:Nat)(s:Shared)(vb:Value)(c:Nat),n-(j+1)=k->j+1<=n->St (j+1) s.heap->P (argBest bt j) vb->zPM s S #[vb,vb] c->zMn R wr S s (P (argBest bt (n-1)))->
  codeAny (model prog w) A (.builtin "max.loop" ⟨[.ref I,.none,.ref S],kw⟩) R s:=by
 have hSw:S∉wr:=fun h=>hSf (W.sub _ h)
 intro k
 induction k with
 | zero=>
  intro j s vb c hk hj hst hPb hS hR;have hin:j+1=n:=by omega
  refine codeAny_builtin F.entry_max_loop ?_;rw[Around.under_plainId F.plain_max_loop _]
  refine wpAny_bind (wpAny_seqItems hS rfl ?_)
  refine wpAny_bind (m:=tryCatch (pyNext (.ref I)) _) (wpAny_tryCatch (W.done s _ _ (hin ▸ hst) fun h' tk hk'=>?_))
  have hS':=hk' S _ hSw hS;refine wpAny_bind (m:=updateSeq S (fun _=>#[])) (wpAny_updateSeq hS' rfl (wpAny_bind (wpAny_letGo (wpAny_pure ?_))))
  exact hR vb _ tk (by rw[<-hin];exact hPb) fun b o hbw hbS e=>(Heap.get?_update_other _ _ (Ne.symm hbS)).trans (hk' b o hbw e)
 | succ k ih=>
  intro j s vb c hk hj hst hPb hS hR;have hlt:j+1<n:=by omega
  refine codeAny_builtin F.entry_max_loop ?_;rw[Around.under_plainId F.plain_max_loop _]
  refine wpAny_bind (wpAny_seqItems hS rfl ?_)
  refine wpAny_bind (m:=tryCatch (pyNext (.ref I)) _) (wpAny_tryCatch (W.item (j+1) s _ _ hlt hst fun v h' tk hP hst' hk'=>?_))
  have hS':=hk' S _ hSw hS;refine wpAny_bind (m:=tryCatch (holding [v,v] (richCompare .Gt v vb >>= _)) _) (wpAny_tryCatch (wpAny_holding (wpAny_bind (hcmp (j+1) (argBest bt j) v vb _ _ _ hP hPb ?_))))
  refine wpAny_bind (wpAny_holding (wpAny_truthy_bool (wpAny_bind (wpAny_letGo (wpAny_pure ?_)))))
  cases hb:bt (j+1) (argBest bt j) with
  | true=>
   simp only[if_true];refine wpAny_bind ?_;refine wpAny_updateSeq hS' rfl (wpAny_bind (wpAny_letGo ?_));rw[zEd]
   refine wpAny_pure ⟨plainId_quiet F.plain_max_loop _,ih (j+1) _ v _ (by omega) hlt (W.frame _ _ _ hst' fun b hbf o e=>(Heap.get?_update_other _ _ (fun h:S=b=>hSf (by rw[h];exact hbf))).trans e) (by simp only[argBest,hb,if_true];exact hP) (Heap.get?_update_self _ hS' rfl) fun v' h'' tk'' hP' hk''=>?_⟩
   exact hR v' h'' tk'' hP' fun b o hbw hbS e=>hk'' b o hbw hbS ((Heap.get?_update_other _ _ (Ne.symm hbS)).trans (hk' b o hbw e))
  | false=>
   simp only[Xf,if_false];refine wpAny_bind (wpAny_letGo ?_);rw[zEd]
   exact wpAny_pure ⟨plainId_quiet F.plain_max_loop _,ih (j+1) _ vb c (by omega) hlt hst' (by simp only[argBest,hb,Xf,if_false];exact hPb) hS' fun v' h'' tk'' hP' hk''=>hR v' h'' tk'' hP' fun b o hbw hbS e=>hk'' b o hbw hbS (hk' b o hbw e)⟩
theorem zJr(W:Walks prog w A.in1 I fp wr n P St)(bt:Nat->Nat->Bool)(hcmp:CmpOf prog w A.in1 .Gt P bt)(S:Addr)(hSf:S∉fp)(hn:0<n){s:Shared}{c:Nat}(hst:St 0 s.heap)(hS:zPM s S #[] c)(hR:zMn R wr S s (P (argBest bt (n-1)))):
  codeAny (model prog w) A (.builtin "max.loop" ⟨[.ref I,.none,.ref S],kw⟩) R s:=by
 have hSw:S∉wr:=fun h=>hSf (W.sub _ h)
 refine codeAny_builtin F.entry_max_loop ?_;rw[Around.under_plainId F.plain_max_loop _]
 refine wpAny_bind (wpAny_seqItems hS rfl ?_)
 refine wpAny_bind (m:=tryCatch (pyNext (.ref I)) _) (wpAny_tryCatch (W.item 0 s _ _ hn hst fun v h' tk hP hst' hk'=>?_))
 have hS':=hk' S _ hSw hS;refine wpAny_bind (m:=updateSeq S (fun _=>#[v,v])) (wpAny_updateSeq hS' rfl ?_);rw[zEd]
 refine wpAny_pure ⟨plainId_quiet F.plain_max_loop _,zMi W bt hcmp S hSf _ 0 _ v _ rfl hn (W.frame _ _ _ hst' fun b hbf o e=>(Heap.get?_update_other _ _ (fun h:S=b=>hSf (by rw[h];exact hbf))).trans e) hP (Heap.get?_update_self _ hS' rfl) fun v' h'' tk'' hP' hk''=>?_⟩
 exact hR v' h'' tk'' hP' fun b o hbw hbS e=>hk'' b o hbw hbS ((Heap.get?_update_other _ _ (Ne.symm hbS)).trans (hk' b o hbw e))
theorem zMp{x:Str}{d:Value}(W:Walks prog w A.in1 I fp wr 0 P St)(S:Addr)(hSf:S∉fp){s:Shared}{c:Nat}(hst:St 0 s.heap)(hS:zPM s S #[] c)(hR:zMn R wr S s (·=d)):
  codeAny (model prog w) A (.builtin "max.loop" ⟨[.ref I,.none,.ref S],[(x,d)]⟩) R s:=by
 refine codeAny_builtin F.entry_max_loop ?_;rw[Around.under_plainId F.plain_max_loop _]
 refine wpAny_bind (wpAny_seqItems hS rfl ?_)
 refine wpAny_bind (m:=tryCatch (pyNext (.ref I)) _) (wpAny_tryCatch (W.done s _ _ hst fun h' tk hk'=>?_))
 exact wpAny_bind (wpAny_rule (wpAny_pure (hR d h' tk rfl fun b o hbw _ e=>hk' b o hbw e)))
end
section
variable{X:Cx}{G:Gx}{a c:Expr}{pos p kp:Pos}{f g:Ev}
theorem zHt(num:Nat->Int):∀ k,num (argBest (fun i j=>decide (num i > num j)) k)=yL (num 0) ((List.range k).map fun i=>num (i+1))
 | 0=>rfl
 | k+1=>by
  rw[Xb,Qw]
  have app:∀(l:List Int)(a b:Int),yL a (l++[b])=if b > yL a l then b else yL a l:=by
   intro l
   induction l with
   | nil=>intro a b;rfl
   | cons x r ih=>intro a b;rw[Y9,yL,ih,yL]
  rw[List.map_singleton,app,<-zHt num k];show num (if decide (num (k+1) > num (argBest _ k))=true then k+1 else argBest _ k)=_
  by_cases h:num (k+1) > num (argBest (fun i j=>decide (num i > num j)) k)
  ·rw[if_pos (decide_eq_true h),if_pos h]
  ·rw[if_neg (by simp[h]),if_neg h]
theorem zCe(m:Int)(ns:List Int):(m::ns).getD (argBest (fun i j=>decide ((m::ns).getD i 0 > (m::ns).getD j 0)) ns.length) 0=yL m ns:=by
 rw[zHt (fun i=>(m::ns).getD i 0) ns.length];show yL m _=_
 congr 1
 refine Yv fun i=>?_
 rw[Qr];by_cases h:i<ns.length
 ·rw[Xo h,Qk h]
  show some ((m::ns).getD (i+1) 0)=_
  rw[List.getD_cons_succ,Qq,Qk h];rfl
 ·rw[Qz (by rw[Qu];omega),Qz (by omega)];rfl
def zQA(d:Int):List Int->Int
 | []=>d
 | m::r=>yL m r
def zNr(K:PySem.W.Frag):R2:=fun x y H Q=>∃(ad:Addr)(d:Int)(ns:List Int),x=.ref ad/\y=.int d/\SqL K H ad (ns.map V.int)/\Q (.int (zQA d ns)) H
theorem zGu(x v:Value):argsOk "max" ⟨[x],[(Str.ofString "default", v)]⟩:=by unfold argsOk;kernel_rfl
theorem zFA(hc:X.calm=true){pins:List (Addr×Obj)}{s:Shared}{σ:St}{H:Hp}{ad:Addr}{d:Int}{t:Tok}{ns:List Int}{Q:VK}(I:Inv X pins σ H s)(hq:SqL X.K H ad (ns.map V.int))(q:Q (.int (zQA d ns)) H):
  wpAny (model X.prog X.w) X.A (call (.builtin "max") [.ref ad] [(Str.ofString "default", .int d t)]) (EP X pins σ Q) X.xe s:=by
 have hh:=I.ok.hd hc;obtain⟨its,rv,p,hz⟩:=I.list hq;have hlt:ad<s.heap.objs.size:=by obtain⟨_,e,_⟩:=p.isList;exact Heap.lt_size e
 have hl:=rv.length;rw[Qd] at hl;refine kmk_tree F.kind_max F.plain_max F.entry_max (zGu _ _) ?_
 refine wpAny_bind (m:=Builtin.Builtins.bindParams "max" ["key","default"] 0 ⟨[],[(Str.ofString "default", .int d t)]⟩) (wpAny_of_eq (a:=[none,some (.int d t)]) (by first | rfl | kernel_rfl) ?_)
 refine wpAny_bind (wpAny_pure ?_)
 refine wpAny_bind (wpAny_pyIter_list p.isList ?_)
 refine wpAny_bind (wpAny_newObj_type ?_)
 rw[zEd];refine wpAny_pure ⟨plainId_quiet F.plain_max_loop _,?_⟩
 have W:=Walks.list (prog:=X.prog) (w:=X.w) (A:=X.A.in1) hh s.heap.objs.size ad (Qo hlt) its.toArray
 have hSf:(s.heap.push { cls:=.type "list_iterator", data:=.fields #[.ref ad,.int 0 0] }).objs.size∉[s.heap.objs.size,ad]:=by
  rw[Heap.size_push];intro z;rcases Qc.mp z with z | z
  ·exact U3 _ z
  ·exact Vt _ (V8 (X0 (Q0.mp z)) (Xg hlt))
 have keep:∀ {h':Heap} {b:Addr} {o:Obj},(∀ b o,b∉[s.heap.objs.size]->b≠(s.heap.push { cls:=.type "list_iterator", data:=.fields #[.ref ad,.int 0 0] }).objs.size->((s.heap.push { cls:=.type "list_iterator", data:=.fields #[.ref ad,.int 0 0] }).push { cls:=.type "list", data:=.seq #[] }).get? b=some o->h'.get? b=some o)->s.heap.get? b=some o->h'.get? b=some o:=fun {h' b o} hk e=>by
  have l:=Heap.lt_size e;refine hk b o (fun z=>?_) (fun z=>?_) (Heap.get?_push_of_some _ (Heap.get?_push_of_some _ e))
  ·rw[Q0.mp z] at l;exact Vt _ l
  ·rw[z,Heap.size_push] at l;exact Vt _ (Nat.lt_of_succ_lt l)
 have hst:((s.heap.push { cls:=.type "list_iterator", data:=.fields #[.ref ad,.int 0 0] }).push { cls:=.type "list", data:=.seq #[] }).IsListIter s.heap.objs.size ad 0/\((s.heap.push { cls:=.type "list_iterator", data:=.fields #[.ref ad,.int 0 0] }).push { cls:=.type "list", data:=.seq #[] }).IsList ad its.toArray:=
  ⟨⟨_,Heap.get?_push_of_some _ (Heap.get?_push_size _ rfl),rfl,rfl⟩,(p.isList.push _).push _⟩
 cases ns with
 | nil=>
  have e0:its=[]:=U0 (by rw[<-hl];rfl)
  subst e0;exact zMp W _ hSf hst (Heap.get?_push_size _ rfl) fun v h' tk hv hk=>⟨.int d,H,I.kept (t':=tk) fun b o e=>keep hk e,⟨t,hv⟩,q⟩
 | cons m r=>
  refine zJr W (fun i j=>decide ((m::r).getD i 0 > (m::r).getD j 0)) (CmpOf.ints_gt _ fun i v hv=>yB rv (by simpa using hv)) _ hSf (by rw[Qh,<-hl];exact Yw _) hst (Heap.get?_push_size _ rfl) fun v h' tk hv hk=>?_
  obtain⟨t',rfl⟩:=yB rv (i:=argBest (fun i j=>decide ((m::r).getD i 0 > (m::r).getD j 0)) (its.toArray.size-1)) (by simpa using hv)
  refine⟨.int (yL m r),H,I.kept (t':=tk) fun b o e=>keep hk e,⟨t',?_⟩,q⟩
  rw[Qh,<-hl,Ql,U5,zCe]
theorem zLJ{ta tb:TE}(hc:X.calm=true)(hg:Gl X "max")(hm:X.mg "max" = none)(ha:PE X a ta)(hb:PE X c tb)(hs:starEach [a] X.env=(false,eval a X.env)::starEach [] X.env:=by rfl):
  PE X (.Call (.Name "max" p) [a] [⟨some "default", c,kp⟩] pos) (tOp (zNr X.K) ta tb):=by
 intro pins s σ H Q I h;refine wpAny_Call_Name_kw (oM I hg hm boot_max ?_ (by decide) (by decide))
 refine callWith_kw (thn ((jK ha nH hs) pos pins s σ H (fun vs H1=>match vs with | [x]=>tb σ H1 fun y H2=>zNr X.K x y H2 Q | _=>False) I h) fun us s1 ⟨vs,H1,I1,r1,q1⟩=>?_) (by rw[hs];rfl) (by rw[hs];rfl)
 match vs,r1,q1 with
 | [x],r1,q1=>
  obtain⟨u,rfl,ru⟩:=zCD r1;refine kws_cons (thn (hb pins s1 σ H1 _ I1 q1) fun v s2 ⟨y,H2,I2,r2,q2⟩=>kws_nil ?_)
  obtain⟨ad,d,ns,rfl,rfl,hq,q⟩:=q2;cases ru;obtain⟨t,rfl⟩:=r2;exact zFA hc I2 hq q
theorem zLg(hc:X.calm=true)(hg:Gl X "max")(hm:X.mg "max" = none)(ha:PEd X G a f)(hb:PEd X G c g)(hs:starEach [a] X.env=(false,eval a X.env)::starEach [] X.env:=by rfl):
  PEd X G (.Call (.Name "max" p) [a] [⟨some "default", c,kp⟩] pos) (eOp (fun x y=>zCO [x,y]) f g):=PE.wk (zLJ hc hg hm ha hb hs) (op2 ⟨fun a b c z=>(by
  replace z:zCO [a,b]=_:=z
  unfold zCO at z;split at z
  ·split at z<;>cases z
  ·cases z),fun Hi H x y a b d Q s r1 r2 z q=>by
  replace z:zCO [a,b]=_:=z
  unfold zCO at z;split at z
  ·rename_i ds d' he
   cases he;obtain⟨ad,xs,rfl,h1,h2⟩:=r1.lstI;split at z
   ·rename_i m ns hns
    cases z;have e:=jN h2 hns;subst e;exact⟨ad,_,_,rfl,r2.intI,cH s h1,q _ Hi H (Ext.refl s) (.int _)⟩
   ·rename_i hns
    cases z;have e:=jN h2 hns;subst e;exact⟨ad,_,[],rfl,r2.intI,cH s h1,q _ Hi H (Ext.refl s) (.int _)⟩
   ·cases z
  ·cases z⟩)
end
section
variable{X:Cx}{G:Gx}{e:Expr}{pos:Pos}{f:Ev}
end
end L3
namespace L2
open PySem PySem.Spec PyProof.Rows
section
variable{κ:Type}[DecidableEq κ]
end
abbrev KT(H:Hp):List (List Key×V)->List (List Key×Addr×Value)->Prop:=Paired fun p q=>p.1=q.1/\H q.2.1=some (.tup (p.1.map kV))/\cV p.2 q.2.2
section
variable{P:Program}{w:World}{H:Hp}{h:Heap}{a:Addr}
end
section
variable{X:Cx}{pins:List (Addr×Obj)}{σ:St}{H:Hp}{s:Shared}{a:Addr}{y v:V}{u r:Value}{o:Option V}{A:Around}{E:Value->Shared->Prop}
end
section
variable{X:Cx}{pins:List (Addr×Obj)}{σ:St}{H:Hp}{s:Shared}{a:Addr}{kvs:List (Key×V)}{k:Key}{u:Value}{A:Around}{E:Value->Shared->Prop}
end
section
variable{X:Cx}{o i e value:Expr}{pos pos' tpos:Pos}{td ty tv:TE}
end
section
variable{X:Cx}{pos:Pos}
end
end L2
namespace L3
open PySem PySem.Spec PyProof.Rows L2
unseal PEd PEf PTd PWd PAd PSd dJ POd PGd gH PId PSx jL PTs PCd PCf
section
variable{X:Cx}{G:Gx}{a b c e:Expr}{pos p2 p:Pos}{f g h:Ev}{fs:Fv}{x:Str}
end
end L3
namespace L3
open PySem PySem.Spec PyProof.Rows L2
def itN(k:Bool):String:=if k then "list_iterator" else "tuple_iterator"
def zBu(k:Bool)(h:Heap)(it l:Addr)(i:Nat):Prop:=if k then h.IsListIter it l i else h.IsTupleIter it l i
def sL(k:Bool)(h:Heap)(l:Addr)(xs:Array Value):Prop:=if k then h.IsList l xs else h.IsTuple l xs
theorem zBu.get{k:Bool}{h:Heap}{it l:Addr}{i:Nat}(x:zBu k h it l i):∃ o,h.get? it=some o/\o.cls=.type (itN k)/\o.data=.fields #[.ref l,.int i 0]:=by
 cases k<;>(obtain⟨o,a,b,c⟩:=x;exact⟨o,a,b,c⟩)
theorem zBu.mk{k:Bool}{h:Heap}{it l:Addr}{i:Nat}{o:Obj}(a:h.get? it=some o)(b:o.cls=.type (itN k))(c:o.data=.fields #[.ref l,.int i 0]):zBu k h it l i:=by
 cases k<;>exact⟨o,a,b,c⟩
theorem zBu.go{k:Bool}{h h':Heap}{it l:Addr}{i:Nat}(x:zBu k h it l i)(g:∀ o,h.get? it=some o->h'.get? it=some o):zBu k h' it l i:=by
 obtain⟨o,a,b,c⟩:=x.get;exact .mk (g o a) b c
theorem sL.go{k:Bool}{h h':Heap}{l:Addr}{xs:Array Value}(x:sL k h l xs)(g:∀ o,h.get? l=some o->h'.get? l=some o):sL k h' l xs:=by
 cases k<;>(obtain⟨o,a,b⟩:=x;exact⟨o,g o a,b⟩)
section
variable{prog:Program}{w:World}{A:Around}{E:Value->Shared->Prop}{s:Shared}
theorem zJ{k:Bool}{l:Addr}{xs:Array Value}{Q:Value->Shared->Prop}(hl:sL k s.heap l xs)(hQ:Q (.ref s.heap.objs.size) { s with heap:=s.heap.push { cls:=.type (itN k),data:=.fields #[.ref l,.int 0 0] } }):
  wpAny (model prog w) A (pyIter (.ref l)) Q E s:=by
 cases k
 ·exact wpAny_pyIter_tuple hl hQ
 ·exact wpAny_pyIter_list hl hQ
theorem nxT{it t:Addr}{i:Nat}{items:Array Value}{Q:Value->Shared->Prop}(hh:A.handled=none∨(items[i]?).isSome=true)(x:s.heap.IsTupleIter it t i)(y:s.heap.IsTuple t items)
  (go:∀ v,items[i]?=some v->∀ h2,h2.IsTupleIter it t (i+1)->Heap.SameBut it s.heap h2->Q v { s with heap:=h2 })
  (stop:items[i]?=none->∀ h2 e,Heap.ExtBut it s.heap h2->(∃ ob,h2.get? e=some ob/\ob.cls=.type "StopIteration")->E (.ref e) { s with heap:=h2 }):wpAny (model prog w) A (Builtin.SmallTypes.nextOf (.ref it)) Q E s:=by
 obtain⟨oi,ei,ci,di⟩:=id x;obtain⟨ot,et,_,nt,dt⟩:=y;have nn:¬ ((Value.ref t==Value.none)=true):=X7;unfold Builtin.SmallTypes.nextOf;refine wpAny_bind (wpAny_callSpecial?_slot (name:=Str.ofString "__next__") x.typeIs F.slot_tuple_iterator_next (wpAny_call_entry F.slot_tuple_iterator_next x.typeIs F.entry_tuple_iterator_next (show wpAny _ _ (field _ 0 >>= _) _ _ s from wpAny_bind (wpAny_field ei di (x:=.ref t) rfl ?_)) (F.args_tuple_iterator_next_1 _)))
 show wpAny _ _ (ite ((Value.ref t==Value.none)=true) _ _) _ _ s
 rw[if_neg nn];refine show wpAny _ _ (field _ 1 >>= _) _ _ s from wpAny_bind (wpAny_field ei di (x:=.int i 0) rfl (show wpAny _ _ (seqItems? _ >>= _) _ _ s from wpAny_bind (wpAny_seqItems et dt ?_)))
 have fr:∀ g:Array Value->Array Value,Heap.get? (s.heap.update it (Obj.mapFields g)) it=some (Obj.mapFields g oi):=fun g=>Heap.get?_update_self _ ei (Obj.isFreed_of_fields (Obj.data_mapFields di g))
 cases q:items[i]? with
 | some v=>
  simp only[Vc,q];refine wpAny_bind (wpAny_setField ei di (by simp) (wpAny_pure ⟨v,rfl,wpAny_pure (go v q _ ⟨_,fr _,(Obj.cls_mapFields ..).trans ci,?_⟩ (Heap.SameBut.update ..))⟩))
  rw[Obj.data_mapFields di];simp[rawInt]
 | none=>
  have hh:A.handled=none:=hh.elim id fun z=>by rw[q] at z;cases z
  simp only[Vc,q];refine wpAny_bind (wpAny_rule (wpAny_bind (wpAny_setField ei di (by simp) (show wpAny _ _ (newExc _ [] >>= _) _ _ _ from wpAny_bind ?_))))
  simp only[newExc,newTuple];refine wpAny_bind (wpAny_newObj_type (wpAny_bind (m:=firstArgMember _ _) (wpAny_of_eq (a:=Value.none) (by first | rfl | (simp only[firstArgMember];rfl)) (wpAny_newObj_type ?_ (by size_fits)))) (by size_fits))
  simp only[raiseNew];refine wpAny_bind (wpAny_handled ?_)
  rw[show A.in1.handled=none from hh];exact wpAny_bind (wpAny_pure (wpAny_throw (stop q _ _ (((Heap.SameBut.update ..).extBut.push _).push _) ⟨_,Heap.get?_push_size _ rfl,rfl⟩)))
theorem zDc{k:Bool}{it t:Addr}{i:Nat}{items:Array Value}{x:Value}{Q:Value->Shared->Prop}(hit:zBu k s.heap it t i)(ht:sL k s.heap t items)(hx:items[i]?=some x)
  (hQ:∀ h',zBu k h' it t (i+1)->Heap.SameBut it s.heap h'->Q x { s with heap:=h' }):wpAny (model prog w) A (Builtin.SmallTypes.nextOf (.ref it)) Q E s:=by
 cases k
 ·exact nxT (.inr (by rw[hx];rfl)) hit ht (fun v q h2 g1 g2=>by rw[hx] at q;cases q;exact hQ h2 g1 g2) fun q=>by rw[hx] at q;cases q
 ·exact wpAny_nextOf_list_item hit ht hx hQ
theorem zEh{k:Bool}{it t:Addr}{i:Nat}{items:Array Value}{Q:Value->Shared->Prop}(hh:A.handled=none)(hit:zBu k s.heap it t i)(ht:sL k s.heap t items)(hx:items[i]?=none)
  (hE:∀ h' e,Heap.ExtBut it s.heap h'->(∃ o,h'.get? e=some o/\o.cls=.type "StopIteration")->E (.ref e) { s with heap:=h' }):wpAny (model prog w) A (Builtin.SmallTypes.nextOf (.ref it)) Q E s:=by
 cases k
 ·exact nxT (.inl hh) hit ht (fun v q=>by rw[hx] at q;cases q) fun _=>hE
 ·exact wpAny_nextOf_list_end hh hit ht hx hE
theorem zOw{k:Bool}(hh:A.handled=none)(it l:Addr)(hne:l≠it)(items:Array Value):Draws prog w A it [it,l] items.size (fun i v=>items[i]?=some v) (fun i h=>zBu k h it l i/\sL k h l items) where
 live:=fun _ _ st=>let ⟨o,ho,_⟩:=st.1.get;⟨o,ho⟩
 frame:=fun _ _ _ st hk=>⟨st.1.go fun o e=>hk it (by simp) o e,st.2.go fun o e=>hk l (by simp) o e⟩
 item:=fun i s Q E hi st hQ=>by
  refine zDc st.1 st.2 (x:=items[i]) (by simp[hi]) fun h' hit' hs'=>?_
  exact hQ _ h' s.toks (by simp[hi]) ⟨hit',st.2.go fun o e=>hs'.extBut _ o hne e⟩ hs'
 done:=fun s Q E st hE=>zEh hh st.1 st.2 (by simp) hE
def wQ(f0:Value)(k1 k2:Bool)(l1 l2 n:Addr)(j1 j2:Nat)(h:Heap):Prop:=
 IsZip h (n+4) (n+2) (n+3) f0/\IsPair h (n+2) (.ref n) (.ref (n+1))/\(∃ a b,IsPair h (n+3) a b)/\zBu k1 h n l1 j1/\zBu k2 h (n+1) l2 j2
def nX(n:Addr)(h h2:Heap):Prop:=∀ c o,c≠n+4->c≠n+3->c≠n->c≠n+1->h.get? c=some o->h2.get? c=some o
theorem nX.then{n:Addr}{h h1 h2:Heap}(a:nX n h h1)(b:nX n h1 h2):nX n h h2:=fun c o c1 c2 c3 c4 e=>b c o c1 c2 c3 c4 (a c o c1 c2 c3 c4 e)
theorem nX.eb{n a:Addr}{h h2:Heap}(k:Heap.ExtBut a h h2)(m:a=n+4∨a=n+3∨a=n∨a=n+1):nX n h h2:=fun c o c1 c2 c3 c4 e=>k c o (fun z=>by subst z;rcases m with m | m | m | m<;>contradiction) e
theorem nX.sq{k:Bool}{n l:Addr}{h h2:Heap}{xs:Array Value}(a:nX n h h2)(hl:l<n)(x:sL k h l xs):sL k h2 l xs:=
 x.go fun o e=>a l o (Qo (Nat.lt_add_right 4 hl)) (Qo (Nat.lt_add_right 3 hl)) (Qo hl) (Qo (Xg hl)) e
theorem zJn(n:Addr):n+3≠n+4/\n+2≠n+4/\n≠n+4/\n+1≠n+4/\n+2≠n+3/\n≠n+3/\n+1≠n+3/\n+2≠n/\n+1≠n/\n+2≠n+1:=by
 refine⟨?_,?_,?_,?_,?_,?_,?_,?_,?_,?_⟩<;>(intro z;have z':(_:Nat)=_:=z;omega)
theorem wQ.fld{f0:Value}{k1 k2:Bool}{l1 l2 n:Addr}{j1 j2:Nat}{h h2:Heap}(g:wQ f0 k1 k2 l1 l2 n j1 j2 h){f1:Value}(z:IsZip h2 (n+4) (n+2) (n+3) f1)(s:Heap.ExtBut (n+4) h h2):wQ f1 k1 k2 l1 l2 n j1 j2 h2:=by
 obtain⟨_,g2,⟨a,b,g3⟩,g4,g5⟩:=g;obtain⟨e1,e2,e3,e4,_⟩:=zJn n;exact⟨z,s _ _ e2 g2,⟨a,b,s _ _ e1 g3⟩,g4.go fun o e=>s _ o e3 e,g5.go fun o e=>s _ o e4 e⟩
theorem wQ.it1{f0:Value}{k1 k2:Bool}{l1 l2 n:Addr}{j1 j2 m:Nat}{h h2:Heap}(g:wQ f0 k1 k2 l1 l2 n j1 j2 h)(z:zBu k1 h2 n l1 m)(s:Heap.ExtBut n h h2):wQ f0 k1 k2 l1 l2 n m j2 h2:=by
 obtain⟨g1,g2,⟨a,b,g3⟩,_,g5⟩:=g;obtain⟨e1,e2,e3,e4,e5,e6,e7,e8,e9,_⟩:=zJn n;exact⟨s _ _ e3.symm g1,s _ _ e8 g2,⟨a,b,s _ _ e6.symm g3⟩,z,g5.go fun o e=>s _ o e9 e⟩
theorem wQ.it2{f0:Value}{k1 k2:Bool}{l1 l2 n:Addr}{j1 j2 m:Nat}{h h2:Heap}(g:wQ f0 k1 k2 l1 l2 n j1 j2 h)(z:zBu k2 h2 (n+1) l2 m)(s:Heap.ExtBut (n+1) h h2):wQ f0 k1 k2 l1 l2 n j1 m h2:=by
 obtain⟨g1,g2,⟨a,b,g3⟩,g4,_⟩:=g;obtain⟨e1,e2,e3,e4,e5,e6,e7,e8,e9,e10⟩:=zJn n;exact⟨s _ _ e4.symm g1,s _ _ e10 g2,⟨a,b,s _ _ e7.symm g3⟩,g4.go fun o e=>s _ o e9.symm e,z⟩
theorem wQ.out{f0 a b:Value}{k1 k2:Bool}{l1 l2 n:Addr}{j1 j2:Nat}{h h2:Heap}(g:wQ f0 k1 k2 l1 l2 n j1 j2 h)(z:IsPair h2 (n+3) a b)(s:Heap.ExtBut (n+3) h h2):wQ f0 k1 k2 l1 l2 n j1 j2 h2:=by
 obtain⟨g1,g2,_,g4,g5⟩:=g;obtain⟨e1,e2,e3,e4,e5,e6,e7,_⟩:=zJn n;exact⟨s _ _ e1.symm g1,s _ _ e5 g2,⟨a,b,z⟩,g4.go fun o e=>s _ o e6 e,g5.go fun o e=>s _ o e7 e⟩
theorem zRq{k1 k2:Bool}{n l1 l2:Addr}{j:Nat}{xs ys:Array Value}{Q:PySem.Fin->Shared->Prop}(hh:A.handled=none)(b1:l1<n)(b2:l2<n)(g:wQ .none k1 k2 l1 l2 n j j s.heap)(d1:sL k1 s.heap l1 xs)(d2:sL k2 s.heap l2 ys)
  (go:∀ x y,xs[j]?=some x->ys[j]?=some y->∀ h2,wQ (rawInt s.heap.objs.size) k1 k2 l1 l2 n (j+1) (j+1) h2->IsPair h2 s.heap.objs.size x y->nX n s.heap h2->Q (.done (.ret (.ref s.heap.objs.size))) { s with heap:=h2 })
  (stop:xs[j]?=none∨ys[j]?=none->∀ h2 e,nX n s.heap h2->(∃ o,h2.get? e=some o/\o.cls=.type "StopIteration")->E (.ref e) { s with heap:=h2 }):
  wpAny (model prog w) A (Builtin.«zip.__next__» ⟨[.ref (n+4)],[]⟩) Q E s:=by
 have stopZ:∀ {h1:Heap} {e:Addr} {v:Value} {k:Nat} {R:Unit->Shared->Prop},(xs[j]?=none∨ys[j]?=none)->nX n s.heap h1->IsZip h1 (n+4) (n+2) (n+3) .ellipsis->(∃ o,h1.get? e=some o/\o.cls=.type "StopIteration")->k<5->
   (∀ h3,nX n s.heap h3->(∃ o,h3.get? e=some o/\o.cls=.type "StopIteration")->R () { s with heap:=h3 })->wpAny (model prog w) A (setField (.ref (n+4)) k v) R E { s with heap:=h1 }:=by
  intro h1 e v k R q kz z he hk fin;obtain⟨oe,e1,e2⟩:=he;have nz:e≠n+4:=fun y=>by subst y;rw[z] at e1;cases e1;simp at e2
  exact wpAny_setField_rec z (by simpa using hk) fun h3 _ s3=>fin h3 (kz.then (.eb s3.extBut (.inl rfl))) ⟨oe,s3.extBut _ _ nz e1,e2⟩
 obtain⟨z0,t0,⟨a,b,p0⟩,_⟩:=id g;refine show wpAny _ _ (field _ 2 >>= _) _ _ s from wpAny_bind (wpAny_field z0 rfl (x:=.bool false) rfl (show wpAny _ _ (field _ 3 >>= _) _ _ s from wpAny_bind (wpAny_field z0 rfl (x:=.ref (n+2)) rfl (wpAny_bind (wpAny_seqItems t0 rfl (wpAny_bind ?_))))))
 unfold Builtin.SmallTypes.ownedTupleIsFree;refine wpAny_bind (wpAny_field z0 rfl (x:=.none) rfl (wpAny_pure ?_))
 simp only[if_true];refine wpAny_bind (wpAny_rule (wpAny_bind (wpAny_field z0 rfl (x:=.ref (n+3)) rfl (wpAny_bind (wpAny_setField_rec z0 (by simp) fun h1 z1 s1=>wpAny_bind ?_)))))
 have g1:wQ .ellipsis k1 k2 l1 l2 n j j h1:=g.fld z1 s1.extBut;have k1':nX n s.heap h1:=.eb s1.extBut (.inl rfl);simp only[List.zipIdx_cons,List.zipIdx_nil,Y7,List.forIn_nil];refine wpAny_bind (wpAny_bind (wpAny_onRaise (show wpAny _ _ (Builtin.SmallTypes.nextOf _ >>= _) _ _ _ from wpAny_bind ?_)))
 cases q1:xs[j]? with
 | none=>
  refine zEh (s:={ s with heap:=h1 }) hh g1.2.2.2.1 (k1'.sq b1 d1) q1 fun h2 e x2 he=>stopZ (.inl q1) (k1'.then (.eb x2 (.inr (.inr (.inl rfl))))) (x2 _ _ (zJn n).2.2.1.symm g1.1) he (by decide) fun h3=>stop (.inl q1) h3 e
 | some x=>
  refine zDc (s:={ s with heap:=h1 }) g1.2.2.2.1 (k1'.sq b1 d1) q1 fun h2 i2 s2=>wpAny_pure ?_
  have g2:=g1.it1 i2 s2.extBut;have k2':=k1'.then (.eb s2.extBut (.inr (.inr (.inl rfl))));have p2:IsPair h2 (n+3) a b:=s2.extBut _ _ (zJn n).2.2.2.2.2.1.symm (s1.extBut _ _ (zJn n).1 p0);refine wpAny_bind (wpAny_seqItems (s:={ s with heap:=h2 }) p2 rfl (wpAny_bind (wpAny_updateSeq_pair p2 fun h3 p3 s3=>wpAny_bind (wpAny_letGo (wpAny_pure ?_)))))
  have g3:=g2.out p3 s3.extBut;have k3':=k2'.then (.eb s3.extBut (.inr (.inl rfl)));refine wpAny_bind (wpAny_bind (wpAny_onRaise (show wpAny _ _ (Builtin.SmallTypes.nextOf _ >>= _) _ _ _ from wpAny_bind ?_)))
  cases q2:ys[j]? with
  | none=>
   refine zEh (s:={ s with heap:=h3 }) hh g3.2.2.2.2 (k3'.sq b2 d2) q2 fun h4 e x4 he=>stopZ (.inr q2) (k3'.then (.eb x4 (.inr (.inr (.inr rfl))))) (x4 _ _ (zJn n).2.2.2.1.symm g3.1) he (by decide) fun h5=>stop (.inr q2) h5 e
  | some y=>
   refine zDc (s:={ s with heap:=h3 }) g3.2.2.2.2 (k3'.sq b2 d2) q2 fun h4 i4 s4=>wpAny_pure ?_
   have g4:=g3.it2 i4 s4.extBut;have p4:IsPair h4 (n+3) x b:=s4.extBut _ _ (zJn n).2.2.2.2.2.2.1.symm p3;refine wpAny_bind (wpAny_seqItems (s:={ s with heap:=h4 }) p4 rfl (wpAny_bind (wpAny_updateSeq_pair p4 fun h5 p5 s5=>wpAny_bind (wpAny_letGo (wpAny_pure (wpAny_pure ?_))))))
   have p5:IsPair h5 (n+3) x y:=p5;have g5:=g4.out p5 s5.extBut;have k5':=(k3'.then (.eb s4.extBut (.inr (.inr (.inr rfl))))).then (.eb s5.extBut (.inr (.inl rfl)));have sz:h5.objs.size=s.heap.objs.size:=s5.1.trans (s4.1.trans (s3.1.trans (s2.1.trans s1.1)));refine wpAny_bind (wpAny_seqItems (s:={ s with heap:=h5 }) p5 rfl (wpAny_bind (wpAny_newTuple (show wpAny _ _ (Builtin.SmallTypes.ownedTupleHandOut _ (.ref h5.objs.size) >>= _) _ _ _ from wpAny_bind ?_))))
   unfold Builtin.SmallTypes.ownedTupleHandOut;refine wpAny_bind (wpAny_setField_rec (Heap.get?_push_of_some _ g5.1) (by simp) fun h7 z7 s7=>wpAny_setField_rec z7 (by simp) fun h8 z8 s8=>wpAny_pure ?_)
   have nz:h5.objs.size≠n+4:=X8 (Heap.lt_size g5.1);have x8:Heap.ExtBut (n+4) h5 h8:=fun c o c1 e=>s8.extBut _ _ c1 (s7.extBut _ _ c1 (Heap.get?_push_of_some _ e))
   have g8:wQ (rawInt h5.objs.size) k1 k2 l1 l2 n (j+1) (j+1) h8:=g5.fld z8 x8;have t8:IsPair h8 h5.objs.size x y:=s8.extBut _ _ nz (s7.extBut _ _ nz (Heap.get?_push_size _ rfl));rw[sz] at g8 t8;show Q (.done (.ret (.ref h5.objs.size))) _
   rw[sz];exact go x y q1 q2 h8 g8 t8 (k5'.then (.eb x8 (.inl rfl)))
theorem zQu{k1 k2:Bool}{n l1 l2:Addr}{j:Nat}{xs ys:Array Value}{Q:Option Value->Shared->Prop}(hh:A.handled=none)(b1:l1<n)(b2:l2<n)(g:wQ .none k1 k2 l1 l2 n j j s.heap)(d1:sL k1 s.heap l1 xs)(d2:sL k2 s.heap l2 ys)
  (go:∀ x y,xs[j]?=some x->ys[j]?=some y->∀ h2,wQ (rawInt s.heap.objs.size) k1 k2 l1 l2 n (j+1) (j+1) h2->IsPair h2 s.heap.objs.size x y->nX n s.heap h2->Q (some (.ref s.heap.objs.size)) { s with heap:=h2 })
  (stop:xs[j]?=none∨ys[j]?=none->∀ h2,nX n s.heap h2->Q none { s with heap:=h2 }):wpAny (model prog w) A (pyNext (.ref (n+4))) Q E s:=by
 have ty:s.TypeIs (.ref (n+4)) "zip" := ⟨_,g.1,rfl⟩;unfold pyNext
 refine wpAny_bind (wpAny_attempt (wpAny_callSpecial?_slot (name:=Str.ofString "__next__") ty F.slot_zip_next (wpAny_call_entry F.slot_zip_next ty F.entry_zip_next
  (zRq hh b1 b2 g d1 d2 (fun x y q1 q2 h2 a1 a2 a3=>⟨_,rfl,wpAny_pure (go x y q1 q2 h2 a1 a2 a3)⟩) fun q h2 e k he=>?_) (F.args_zip_next_1 _))))
 obtain⟨o,eo,co⟩:=he;exact wpAny_bind (wpAny_isInstance (T := "StopIteration") (b:=true) ⟨o,eo,co⟩ isSubtype_stop (wpAny_pure (stop q h2 k)))
end
abbrev zO(k:Bool)(l:Addr):Obj:={ cls:=.type (itN k),data:=.fields #[.ref l,.int 0 0] }
abbrev zH2(k1 k2:Bool)(h:Heap)(l1 l2:Addr):Heap:=(h.push (zO k1 l1)).push (zO k2 l2)
abbrev zH3(k1 k2:Bool)(h:Heap)(l1 l2:Addr):Heap:=(zH2 k1 k2 h l1 l2).push { cls:=.type "tuple", data:=.seq #[.ref h.objs.size,.ref (h.push (zO k1 l1)).objs.size] }
abbrev zH4(k1 k2:Bool)(h:Heap)(l1 l2:Addr):Heap:=(zH3 k1 k2 h l1 l2).push { cls:=.type "tuple", data:=.seq #[.none,.none] }
abbrev zH5(k1 k2:Bool)(h:Heap)(l1 l2:Addr):Heap:=(zH4 k1 k2 h l1 l2).push { cls:=.type "zip", data:=.fields #[.none,.bool false,.bool false,.ref (zH2 k1 k2 h l1 l2).objs.size,.ref (zH3 k1 k2 h l1 l2).objs.size] }
theorem zIJ(k1 k2:Bool)(l1 l2:Addr)(xs ys:Array Value):Meets (Builtin.«zip.__new__» ⟨[.type "zip", .ref l1,.ref l2],[]⟩) (fun _ R s=>sL k1 s.heap l1 xs/\sL k2 s.heap l2 ys/\
  R (.ok (.ret (.ref (zH4 k1 k2 s.heap l1 l2).objs.size))) { s with heap:=zH5 k1 k2 s.heap l1 l2 }):=
 .of_wp fun prog w A R s h=>by
  obtain⟨hp,g,d,tk,os⟩:=s;obtain⟨hl1,hl2,h⟩:=h;have hsub:=sub_zip;have d1:sL k1 (Shared.heap ⟨hp,g,d,tk,os⟩) l1 xs:=hl1;have d2:sL k2 (Shared.heap ⟨hp.push { cls:=.type (itN k1),data:=.fields #[.ref l1,.int 0 0] },g,d,tk,os⟩) l2 ys:=hl2.go fun o e=>Heap.get?_push_of_some _ e
  wp_walk using zJ d1,zJ d2
  exact⟨_,rfl,h⟩
section
variable{prog:Program}{w:World}{A:Around}{E:Value->Shared->Prop}{s:Shared}
theorem zJp{k1 k2:Bool}{l1 l2:Addr}{xs ys:Array Value}{Q:Value->Shared->Prop}(d1:sL k1 s.heap l1 xs)(d2:sL k2 s.heap l2 ys)
  (h:∀ h2,wQ .none k1 k2 l1 l2 s.heap.objs.size 0 0 h2->(∀ c o,s.heap.get? c=some o->h2.get? c=some o)->Q (.ref (s.heap.objs.size+4)) { s with heap:=h2 }):wpAny (model prog w) A (call (.type "zip") [.ref l1,.ref l2]) Q E s:=by
 refine callType_new F.called_zip (by decide) (F.typeCall_zip_2 _ _) (F.newCall_zip_2 _ _) (fun obj=>F.args_object_init_3 obj _ _) F.entry_zip_new (zIJ k1 k2 l1 l2 xs ys) ⟨d1,d2,?_⟩
 have up:∀ {h:Heap} {a:Addr} {o ob:Obj},h.get? a=some o->(h.push ob).get? a=some o:=fun e=>Heap.get?_push_of_some _ e
 have m1:(s.heap.push (zO k1 l1)).objs.size=s.heap.objs.size+1:=Heap.size_push ..;have m2:(zH2 k1 k2 s.heap l1 l2).objs.size=s.heap.objs.size+2:=(Heap.size_push ..).trans (congrArg (·+1) m1);have m3:(zH3 k1 k2 s.heap l1 l2).objs.size=s.heap.objs.size+3:=(Heap.size_push ..).trans (congrArg (·+1) m2);have m4:(zH4 k1 k2 s.heap l1 l2).objs.size=s.heap.objs.size+4:=(Heap.size_push ..).trans (congrArg (·+1) m3);have r0:(zH5 k1 k2 s.heap l1 l2).get? s.heap.objs.size=some (zO k1 l1):=up (up (up (up (Heap.get?_push_size _ rfl))));have r1:(zH5 k1 k2 s.heap l1 l2).get? (s.heap.push (zO k1 l1)).objs.size=some (zO k2 l2):=up (up (up (Heap.get?_push_size _ rfl)));have r2:(zH5 k1 k2 s.heap l1 l2).get? (zH2 k1 k2 s.heap l1 l2).objs.size=some _:=up (up (Heap.get?_push_size _ rfl));have r3:(zH5 k1 k2 s.heap l1 l2).get? (zH3 k1 k2 s.heap l1 l2).objs.size=some _:=up (Heap.get?_push_size _ rfl);have r4:(zH5 k1 k2 s.heap l1 l2).get? (zH4 k1 k2 s.heap l1 l2).objs.size=some _:=Heap.get?_push_size _ rfl;rw[m1] at r1;rw[m1,m2] at r2;rw[m3] at r3;rw[m2,m3,m4] at r4;show _/\_
 rw[m4];exact⟨⟨_,r4,rfl⟩,h _ ⟨r4,r2,⟨_,_,r3⟩,.mk r0 rfl rfl,.mk r1 rfl rfl⟩ fun c o x=>up (up (up (up (up x))))⟩
end
section
variable{X:Cx}{pins:List (Addr×Obj)}{σ:St}{H:Hp}{s:Shared}{h':Heap}{fp:List Addr}
theorem zHn{t':Nat}{p:Addr}{xs:List V}{us:List Value}(I:Inv X pins σ H s)(hf:∀ b∈fp,sM X pins H b)(k:∀ b o,b∉fp->s.heap.get? b=some o->h'.get? b=some o)
  (hp:s.heap.objs.size<=p) (ht:IsTup h' p us.toArray) (hv:dH xs us) (hz:xs.length<=sizeLine):Inv X pins σ (upd H p (.tup xs)) { s with heap:=h',toks:=t' }:=by
 have hn:H p=none:=I.hok.fresh hp;have nf:∀ b u,H b=some u->b∉fp:=fun b u e z=>by rw[(hf b z).1] at e;cases e
 have np:∀ b u,H b=some u->upd H p (.tup xs) b=some u:=fun b u e=>by rw[aX (aZ e hn)];exact e
 refine I.step (g':=s.gens) (d':=s.drawn) (ch:=fp) (fun b hb=>⟨(hf b hb).2.2.2.1,(hf b hb).2.1,(hf b hb).2.2.2.2.1,(hf b hb).2.2.2.2.2⟩) (fun b o _ _ hc e _=>k b o hc e) (fun b o _ _ hc e _=>⟨o.slots,k b o hc e⟩) (fun b o _ e n=>?_)
  (fun b o hc e=>⟨o,k b o hc e⟩) (fun b xs e=>np _ _ e) (fun b o u e=>np _ _ e) (fun b ps e=>⟨#[],by rw[np _ _ e];simp⟩) (fun m hm=>?_) (fun b u e=>?_) I.bare
 ·rw[aX (Qo (Qn (Heap.lt_size e) hp))];exact n
 ·obtain⟨o,es,ep,ho,r⟩:=hm
  exact⟨o,es,ep,k _ o (fun z=>(hf _ z).2.1 rfl) ho,r⟩
 ·by_cases hb:b=p
  ·subst hb
   rw[aS] at e;cases e
   exact⟨hz,us,hv,ht⟩
  ·rw[aX hb] at e
   refine(I.hok b u e).stay (fun c v hc q=>k c v ?_ q) (fun _ q=>np _ _ q) fun _ _ q=>np _ _ q
   rcases hc with z | z
   ·rw[z];exact nf b u e
   ·exact nf c _ z
theorem zHz{t':Nat}(I:Inv X pins σ H s)(hf:∀ b∈fp,sM X pins H b)(k:∀ b o,b∉fp->s.heap.get? b=some o->h'.get? b=some o):Inv X pins σ H { s with heap:=h',toks:=t' }:=by
 have nf:∀ b u,H b=some u->b∉fp:=fun b u e z=>by rw[(hf b z).1] at e;cases e
 refine I.step (g':=s.gens) (d':=s.drawn) (ch:=fp) (fun b hb=>⟨(hf b hb).2.2.2.1,(hf b hb).2.1,(hf b hb).2.2.2.2.1,(hf b hb).2.2.2.2.2⟩) (fun b o _ _ hc e _=>k b o hc e) (fun b o _ _ hc e _=>⟨o.slots,k b o hc e⟩) (fun b o _ e n=>n)
  (fun b o hc e=>⟨o,k b o hc e⟩) (fun b xs e=>e) (fun b o u e=>e) (fun b ps e=>⟨#[],by rw[e];simp⟩) (fun m hm=>?_) (fun b u e=>?_) I.bare
 ·obtain⟨o,es,ep,ho,r⟩:=hm
  exact⟨o,es,ep,k _ o (fun z=>(hf _ z).2.1 rfl) ho,r⟩
 ·refine(I.hok b u e).stay (fun c v hc q=>k c v ?_ q) (fun _ q=>q) fun _ _ q=>q
  rcases hc with z | z
  ·rw[z];exact nf b u e
  ·exact nf c _ z
end
def SqK(k:Bool)(K:PySem.W.Frag)(H:Hp)(a:Addr)(xs:List V):Prop:=if k then SqL K H a xs else SqT K H a xs
theorem oE{k:Bool}{K:Fg_}{H H':Hp}(e:Same H H'){a:Addr}{xs:List V}(h:SqK k K H a xs):SqK k K H' a xs:=by
 cases k
 ·exact bV e h
 ·exact cH e h
section
variable{X:Cx}{pins:List (Addr×Obj)}{σ:St}{H:Hp}{s:Shared}{k:Bool}{a:Addr}{xs ys:List V}
theorem sqI(I:Inv X pins σ H s)(h:SqK k X.K H a xs):∃ its:List Value,dH xs its/\sL k s.heap a its.toArray/\xs.length<=sizeLine:=by
 cases k
 ·obtain⟨its,rv,p,hz⟩:=I.tuple h
  exact⟨its,rv,p,hz⟩
 ·obtain⟨its,rv,p,hz⟩:=I.list h
  exact⟨its,rv,p.isList,hz⟩
theorem zDd(I:Inv X pins σ H s)(h:SqK k X.K H a xs)(h':SqK k X.K H a ys):xs=ys:=by
 cases k
 ·exact I.tuple_inj h h'
 ·exact I.list_inj h h'
theorem sL.lt{h:Heap}{l:Addr}{xs:Array Value}(x:sL k h l xs):l<h.objs.size:=by
 cases k<;>(obtain⟨o,e,_⟩:=x;exact Heap.lt_size e)
end
def Itz(K:PySem.W.Frag)(k1 k2:Bool)(a1 a2:Addr):It:=
  ⟨fun i H=>∃ xs ys x y,SqK k1 K H a1 xs/\SqK k2 K H a2 ys/\xs[i]?=some x/\ys[i]?=some y,
   fun i H v H'=>∃ p x y,v=.ref p/\H p=none/\H'=upd H p (.tup [x,y])/\(∀ xs,SqK k1 K H a1 xs->xs[i]?=some x)/\∀ ys,SqK k2 K H a2 ys->ys[i]?=some y,
   fun i H=>∃ xs ys,SqK k1 K H a1 xs/\SqK k2 K H a2 ys/\(xs.length<=i∨ys.length<=i)⟩
def zRk(k1 k2:Bool)(a1 a2 n:Addr)(i:Nat)(h:Heap):Prop:=wQ .none k1 k2 a1 a2 n i i h
theorem nN{h:Heap}{b:Addr}{o:Obj}{d:Data}(e:h.get? b=some o)(hd:o.data=d)(nd:∀ v,d≠.cell v):∃ o,h.get? b=some o/\∀ v,o.data≠.cell v:=⟨o,e,fun v z=>nd v (hd.symm.trans z)⟩
theorem zJm{P:Program}{w:World}{K:Fg_}{elts:List Expr}{x1:Nat}{tp:Pos}(k1 k2:Bool)(a1 a2 n:Addr)(l1:a1<n)(l2:a2<n):
  Turn P w K (.Tuple elts x1 tp) (Itz K k1 k2 a1 a2) [n+4,n+2,n+3,n,n+1] (n+4) (zRk k1 k2 a1 a2 n) where
 mem:=by simp
 obj:=fun i h st b hb=>by
  obtain⟨t1,t2,⟨a,b',t3⟩,t4,t5⟩:=st;obtain⟨o4,e4,_,d4⟩:=t4.get;obtain⟨o5,e5,_,d5⟩:=t5.get;simp only[Qc,Q8,or_false] at hb;rcases hb with rfl | rfl | rfl | rfl | rfl
  ·exact nN t1 rfl fun v z=>by cases z
  ·exact nN t2 rfl fun v z=>by cases z
  ·exact nN t3 rfl fun v z=>by cases z
  ·exact nN e4 d4 fun v z=>by cases z
  ·exact nN e5 d5 fun v z=>by cases z
 keep:=fun i h h' st k=>by
  obtain⟨t1,t2,⟨a,b',t3⟩,t4,t5⟩:=st;exact⟨k _ (by simp) _ t1,k _ (by simp) _ t2,⟨a,b',k _ (by simp) _ t3⟩,t4.go fun o e=>k _ (by simp) o e,t5.go fun o e=>k _ (by simp) o e⟩
 item:=by
  intro X hP hw hK hc i pins s σ H E I hf st hg;subst hP hw hK;obtain⟨xs,ys,x,y,q1,q2,hx,hy⟩:=hg;obtain⟨us,r1,s1,z1⟩:=sqI I q1;obtain⟨ws,r2,s2,z2⟩:=sqI I q2;obtain⟨u,hu,ru⟩:=r1.get hx;obtain⟨v,hv,rv⟩:=r2.get hy;have hu':us.toArray[i]?=some u:=by simpa using hu
  have hv':ws.toArray[i]?=some v:=by simpa using hv
  have st':=st;obtain⟨t1,t2,⟨a,b,t3⟩,t4,t5⟩:=st;refine zQu (I.ok.hd hc) l1 l2 st' s1 s2 (fun x' y' f1 f2 h' g' p' kz=>?_) (fun q=>?_)
  rotate_left
  ·rw[hu',hv'] at q;rcases q with q | q<;>cases q
  rw[hu'] at f1;cases f1
  rw[hv'] at f2;cases f2
  refine⟨_,rfl,wpAny_letOwnedTupleGo_zip (s:={ s with heap:=h' }) g'.1 fun h'' c1 c2=>?_⟩
  have zl:s.heap.objs.size≠n+4:=X8 (Heap.lt_size t1);have np:H s.heap.objs.size=none:=I.hok.fresh (Qb _)
  have I1:Inv X pins σ (upd H s.heap.objs.size (.tup [x,y])) { s with heap:=h'',toks:=s.toks }:=zHn (us:=[u,v]) I hf (fun b o hb e=>by
    simp only[Qc,Q8,or_false,not_or] at hb
    exact c2.extBut b o hb.1 (kz b o hb.1 hb.2.2.1 hb.2.2.2.1 hb.2.2.2.2 e)) (Qb _) ⟨_,c2.extBut _ _ zl p',rfl,_,rfl⟩ (.cons ru (.cons rv .nil)) (show 2<=sizeLine by decide)
  refine⟨.ref s.heap.objs.size,_,I1,rfl,⟨_,x,y,rfl,np,rfl,fun zs hz=>by rw[zDd I hz q1];exact hx,fun zs hz=>by rw[zDd I hz q2];exact hy⟩,g'.fld c1 c2.extBut,fun b hb=>?_⟩
  ·obtain⟨o,e,_⟩:∃ o,s.heap.get? b=some o/\True:=by
    obtain⟨o4,e4,_⟩:=t4.get;obtain⟨o5,e5,_⟩:=t5.get;simp only[Qc,Q8,or_false] at hb;rcases hb with rfl | rfl | rfl | rfl | rfl
    ·exact⟨_,t1,trivial⟩
    ·exact⟨_,t2,trivial⟩
    ·exact⟨_,t3,trivial⟩
    ·exact⟨_,e4,trivial⟩
    ·exact⟨_,e5,trivial⟩
   rw[aX (Qo (Heap.lt_size e))];exact(hf b hb).1
 done:=by
  intro X hP hw hK hc i pins s σ H E I hf st hg;subst hP hw hK;obtain⟨xs,ys,q1,q2,hl⟩:=hg;obtain⟨us,r1,s1,z1⟩:=sqI I q1;obtain⟨ws,r2,s2,z2⟩:=sqI I q2;have st':=st;obtain⟨t1,t2,⟨a,b,t3⟩,t4,t5⟩:=st;have e1:=r1.length;have e2:=r2.length;refine zQu (I.ok.hd hc) l1 l2 st' s1 s2 (fun x y f1 f2=>?_) fun _ h' b7=>⟨rfl,zHz (t':=s.toks) I hf fun b o hb e=>?_⟩
  ·have m1:=(Ws.mp f1).1
   have m2:=(Ws.mp f2).1;rw[Qh] at m1 m2;omega
  ·simp only[Qc,Q8,or_false,not_or] at hb
   exact b7 b o hb.1 hb.2.2.1 hb.2.2.2.1 hb.2.2.2.2 e
 self:=fun _ _ _ _ _ st h=>wpAny_pyIter_zip st.1 h
abbrev eO(n:Addr):Obj:={ cls:=.type "enumerate", data:=.fields #[.none,.bool false,.ref n,rawInt 0,.none,.none] }
theorem zGr(k:Bool)(l:Addr)(xs:Array Value):Meets (Builtin.«enumerate.__new__» ⟨[.type "enumerate", .ref l],[]⟩) (fun _ R s=>sL k s.heap l xs/\
  R (.ok (.ret (.ref (s.heap.push (zO k l)).objs.size))) { s with heap:=(s.heap.push (zO k l)).push (eO s.heap.objs.size) }):=
 .of_wp fun prog w A R s h=>by
  cases s with | mk hp g d tk os=>
  have d1:sL k (Shared.heap ⟨hp,g,d,tk,os⟩) l xs:=h.1;have fin:=h.2;have hsub:=sub_enumerate;obtain⟨ob,ho⟩:∃ ob,hp.get? l=some ob:=by cases k<;>(obtain⟨o,e,_⟩:=d1;exact⟨o,e⟩)
  clear h;wp_walk using AutoSeq1.wpAny_loadPart' ho
  refine wpAny_stack_any fun st=>wpAny_pure ?_
  split
  ·rename_i c _ _ _ _ _
   cases (c==Value.type "enumerate")<;>(wp_walk using AutoSeq1.wpAny_loadPart' ho,zJ d1;exact⟨_,rfl,fin⟩)
  ·wp_walk using AutoSeq1.wpAny_loadPart' ho,zJ d1
   exact⟨_,rfl,fin⟩
theorem zGA{prog:Program}{w:World}{A:Around}{E:Value->Shared->Prop}{s:Shared}{k:Bool}{l:Addr}{xs:Array Value}{Q:Value->Shared->Prop}(sq:sL k s.heap l xs)
  (h:∀ h2,IsEnum h2 (s.heap.objs.size+1) s.heap.objs.size 0 .none->zBu k h2 s.heap.objs.size l 0->(∀ c o,s.heap.get? c=some o->h2.get? c=some o)->Q (.ref (s.heap.objs.size+1)) { s with heap:=h2 }):
  wpAny (model prog w) A (call (.type "enumerate") [.ref l]) Q E s:=by
 refine callType_new F.called_enumerate (by decide) (F.typeCall_enumerate_1 _) (F.newCall_enumerate_1 _) (fun obj=>F.args_object_init_2 obj _) F.entry_enumerate_new (zGr k l xs) ⟨sq,?_⟩
 have m1:(s.heap.push (zO k l)).objs.size=s.heap.objs.size+1:=Heap.size_push ..;have r0:((s.heap.push (zO k l)).push (eO s.heap.objs.size)).get? s.heap.objs.size=some (zO k l):=Heap.get?_push_of_some _ (Heap.get?_push_size _ rfl);have r1:((s.heap.push (zO k l)).push (eO s.heap.objs.size)).get? (s.heap.push (zO k l)).objs.size=some (eO s.heap.objs.size):=Heap.get?_push_size _ rfl;show _/\_
 rw[m1] at r1 ⊢
 exact⟨⟨_,r1,rfl⟩,h _ r1 (.mk r0 rfl rfl) fun c o x=>Heap.get?_push_of_some _ (Heap.get?_push_of_some _ x)⟩
def Ite(K:PySem.W.Frag)(k:Bool)(a:Addr):It:=
  ⟨fun i H=>∃ xs x,SqK k K H a xs/\xs[i]?=some x,
   fun i H v H'=>∃ p x,v=.ref p/\H p=none/\H'=upd H p (.tup [.int i,x])/\∀ xs,SqK k K H a xs->xs[i]?=some x,
   fun i H=>∃ xs,SqK k K H a xs/\xs.length<=i⟩
def EnS(k:Bool)(a n:Addr)(i:Nat)(h:Heap):Prop:=(∃ old,IsEnum h (n+1) n i old)/\zBu k h n a i
theorem zFw{P:Program}{w:World}{K:Fg_}{elts:List Expr}{x1:Nat}{tp:Pos}(k:Bool)(a n:Addr)(l1:a<n):
  Turn P w K (.Tuple elts x1 tp) (Ite K k a) [n+1,n] (n+1) (EnS k a n) where
 mem:=by simp
 obj:=fun i h st b hb=>by
  obtain⟨⟨old,t1⟩,t2⟩:=st;obtain⟨o4,e4,_,d4⟩:=t2.get;simp only[Qc,Q8,or_false] at hb;rcases hb with rfl | rfl
  ·exact nN t1 rfl fun v z=>by cases z
  ·exact nN e4 d4 fun v z=>by cases z
 keep:=fun i h h' st k=>by
  obtain⟨⟨old,t1⟩,t2⟩:=st;exact⟨⟨old,k _ (by simp) _ t1⟩,t2.go fun o e=>k _ (by simp) o e⟩
 item:=by
  intro X hP hw hK hc i pins s σ H E I hf st hg;subst hP hw hK;obtain⟨xs,x,q1,hx⟩:=hg;obtain⟨us,r1,s1,z1⟩:=sqI I q1;obtain⟨u,hu,ru⟩:=r1.get hx;obtain⟨⟨old,t1⟩,t2⟩:=st;have hi:i<us.toArray.size:=by simpa using (Q2.mp hu).1
  have en:n+1∉[n,a]:=fun z=>by
   rcases Qc.mp z with z | z
   ·exact U3 n z
   ·exact X8 (Xg l1) (Q0.mp z)
  have D:=zOw (prog:=X.prog) (w:=X.w) (A:=X.A.in1) (k:=k) (I.ok.hd hc) n a (Qo l1) us.toArray;refine wpAny_pyNext_enum_itemD D t1 ⟨t2,s1⟩ hi (U3 n) en fun v h' tk b0 b1 b2 b3 _ b7=>⟨_,rfl,wpAny_letOwnedTupleGo_enum (s:={ s with heap:=h',toks:=tk+1 }) b1 fun h'' c1 c2=>?_⟩
  have hv:v=u:=by
   have:us.toArray[i]?=some u:=by simpa using hu
   rw[this] at b0;cases b0;rfl
  subst hv;have zl:s.heap.objs.size≠n+1:=X8 (Heap.lt_size t1);have np:H s.heap.objs.size=none:=I.hok.fresh (Qb _)
  have I1:Inv X pins σ (upd H s.heap.objs.size (.tup [.int i,x])) { s with heap:=h'',toks:=tk+1 }:=zHn (us:=[.int i tk,v]) I hf (fun b o hb e=>by
    simp only[Qc,Q8,or_false,not_or] at hb
    exact c2.extBut b o hb.1 (b7 b o hb.1 hb.2 e)) (Qb _) ⟨_,c2.extBut _ _ zl b3,rfl,_,rfl⟩ (.cons ⟨_,rfl⟩ (.cons ru .nil)) (show 2<=sizeLine by decide)
  refine⟨.ref s.heap.objs.size,_,I1,rfl,⟨_,x,rfl,np,rfl,fun zs hz=>by rw[zDd I hz q1];exact hx⟩,⟨⟨v,by simpa using c1⟩,b2.1.go fun o e=>c2.extBut _ o (Qo (Yi n)) e⟩,fun b hb=>?_⟩
  obtain⟨o,e,_⟩:∃ o,s.heap.get? b=some o/\True:=by
   obtain⟨o4,e4,_⟩:=t2.get;simp only[Qc,Q8,or_false] at hb;rcases hb with rfl | rfl
   ·exact⟨_,t1,trivial⟩
   ·exact⟨_,e4,trivial⟩
  rw[aX (Qo (Heap.lt_size e))];exact(hf b hb).1
 done:=by
  intro X hP hw hK hc i pins s σ H E I hf st hg;subst hP hw hK;obtain⟨xs,q1,hl⟩:=hg;obtain⟨us,r1,s1,z1⟩:=sqI I q1;obtain⟨⟨old,t1⟩,t2⟩:=st;have e1:=r1.length;have hT:s.TypeIs (.ref (n+1)) "enumerate" := ⟨_,t1,rfl⟩;unfold pyNext;refine wpAny_bind (wpAny_attempt (wpAny_callSpecial?_slot (name:=Str.ofString "__next__") hT F.slot_enumerate_next (wpAny_call_entry F.slot_enumerate_next hT F.entry_enumerate_next ?_ (F.args_enumerate_next_1 _))))
  show wpAny _ _ (field (.ref (n+1)) 2 >>= _) _ _ _
  refine wpAny_bind (wpAny_field t1 rfl (x:=.ref n) rfl ?_)
  refine wpAny_bind (zEh (I.ok.hd hc) t2 s1 (by simp;omega) fun h' x he' hx'=>?_)
  obtain⟨o,ho,hc⟩:=hx';refine wpAny_bind (wpAny_isInstance (T := "StopIteration") (b:=true) ⟨o,ho,hc⟩ isSubtype_stop ?_)
  refine wpAny_pure ⟨rfl,zHz (t':=s.toks) I hf fun b o hb e=>?_⟩
  simp only[Qc,Q8,or_false,not_or] at hb;exact he' b o hb.2 e
 self:=fun _ _ _ _ _ st h=>wpAny_pyIter_enum st.1.choose_spec h
section
unseal PEd PEf PTd PWd PAd PSd dJ POd PGd gH PId PSx jL PTs PCd PCf
variable{X:Cx}{G:Gx}{fs:Fv}{f:Ev}
def iZp(K:PySem.W.Frag)(ta:TA):TI:=fun σ H R=>ta σ H fun vs H1=>∃ k1 k2 a1 a2 xs ys,vs=[.ref a1,.ref a2]/\SqK k1 K H1 a1 xs/\SqK k2 K H1 a2 ys/\R (Itz K k1 k2 a1 a2) H1
theorem zMT{a b:Expr}{ta:TA}{p pos:Pos}{elts:List Expr}{x1:Nat}{tp:Pos}(hg:Gl X "zip")(hm:X.mg "zip" = none)(ha:PA X [a,b] ta)
  (hs:starEach [a,b] X.env=[(false,eval a X.env),(false,eval b X.env)]:=by rfl) (hs2:starEach [b] X.env=[(false,eval b X.env)]:=by rfl):PI X (.Tuple elts x1 tp) (.Call (.Name "zip" p) [a,b] [] pos) (iZp X.K ta):=by
 intro pins s σ H R I h;refine Call_ (oM I hg hm boot_zip (X9 (thn (ha pos pins s σ H _ I h) fun us s1 ⟨vs,H1,I1,r1,q1⟩=>?_) (by rw[hs,hs2]) (by rw[hs2];rfl)))
 obtain⟨k1,k2,a1,a2,xs,ys,rfl,h1,h2,q⟩:=q1
 cases r1 with
 | cons r rr=>
  cases rr with
  | cons r' rr=>
   cases rr;cases r;cases r'
   obtain⟨us,rv,p1,z1⟩:=sqI I1 h1;obtain⟨ws,rw_,p2,z2⟩:=sqI I1 h2;refine zJp p1 p2 fun h' b1 b6=>wpAny_pyIter_zip (s:={ s1 with heap:=h' }) b1.1 ?_
   refine⟨s1.heap.objs.size+4,_,_,_,H1,rfl,I1.kept (t':=s1.toks) b6,zJm k1 k2 a1 a2 s1.heap.objs.size p1.lt p2.lt,b1,fun b hb=>?_,q⟩
   have hb':s1.heap.objs.size<=b:=by
    simp only[Qc,Q8,or_false] at hb;rcases hb with rfl | rfl | rfl | rfl | rfl<;>omega
   exact I1.fpOk hb' (I1.hok.fresh hb')
theorem zBF:∀(xs ys:List D)(i:Nat)(d:D),(kZ xs ys)[i]?=some d->∃ a b,xs[i]?=some a/\ys[i]?=some b/\d=.tup [a,b]
 | a::r,b::q,0,d,h=>by cases h;exact⟨a,b,rfl,rfl,rfl⟩
 | a::r,b::q,i+1,d,h=>zBF r q i d h
 | [],_,i,d,h=>by cases i<;>cases h
 | a::r,[],i,d,h=>by cases i<;>cases h
theorem zBI:∀(xs ys:List D),(kZ xs ys).length=min xs.length ys.length
 | a::r,b::q=>by
  have:=zBI r q
  simp only[kZ,Ql,this];omega
 | [],_=>by simp[kZ]
 | a::r,[]=>by simp[kZ]
theorem zGk{K:Fg_}{Hi:Hp}{k1 k2:Bool}{a1 a2:Addr}{xs ys:List V}{ds es:List D}(h1:SqK k1 K Hi a1 xs)(h2:IsDs K Hi xs ds)(h3:SqK k2 K Hi a2 ys)(h4:IsDs K Hi ys es):
  vM K Hi (Itz K k1 k2 a1 a2) (kZ ds es):=fun Hi1 H1 s1 s2 i=>by
 have g1:=oE (s1.trans s2) h1;have g3:=oE (s1.trans s2) h3;refine⟨fun hl=>⟨xs,ys,g1,g3,?_⟩,fun d hd=>?_⟩
 ·rw[zBI] at hl
  have e1:=h2.length;have e2:=h4.length;omega
 ·obtain⟨a,b,ha,hb,rfl⟩:=zBF ds es i d hd
  obtain⟨v,hv,rv⟩:=h2.at ha;obtain⟨w,hw,rw_⟩:=h4.at hb;refine⟨⟨xs,ys,v,w,g1,g3,hv,hw⟩,fun x H2 y=>?_⟩
  obtain⟨p,x',y',rfl,hp,rfl,y1,y2⟩:=y;have e1:=y1 xs g1;have e2:=y2 ys g3;rw[hv] at e1;cases e1
  rw[hw] at e2;cases e2
  have hi:=s2.none hp;have sm:=cA hi (.tup [v,w]);exact⟨upd Hi1 p (.tup [v,w]),Ext.new s2 hp,.tup (.inl (.inl aS)) (.cons ((rv.mono s1).mono sm) (.cons ((rw_.mono s1).mono sm) .nil))⟩
theorem zQv{K:Fg_}{H:Hp}{v:V}{d:D}{ds:List D}(h:IsD K H v d)(e:zIh d=some ds):∃ k a xs,v=.ref a/\SqK k K H a xs/\IsDs K H xs ds:=by
 cases d with
 | lst es=>cases e;obtain⟨a,xs,rfl,h1,h2⟩:=h.lstI;exact⟨true,a,xs,rfl,h1,h2⟩
 | tup es=>cases e;obtain⟨a,xs,rfl,h1,h2⟩:=h.tupI;exact⟨false,a,xs,rfl,h1,h2⟩
 | _=>cases e
theorem zLf{a b:Expr}{p pos:Pos}{elts:List Expr}{x1:Nat}{tp:Pos}(hg:Gl X "zip")(hm:X.mg "zip" = none)(ha:PAd X G [a,b] fs)
  (hs:starEach [a,b] X.env=[(false,eval a X.env),(false,eval b X.env)]:=by rfl) (hs2:starEach [b] X.env=[(false,eval b X.env)]:=by rfl):
  PId X G (.Tuple elts x1 tp) (.Call (.Name "zip" p) [a,b] [] pos) (zMx fs):=PI.wk (zMT hg hm ha hs hs2) fun σ H Q q=>by
 obtain⟨ρ,Hi,R,ou⟩:=q;refine zIj R ou fun vs ds Hi1 H1 e1 R1 r1 o1=>?_
 split at o1
 ·rename_i x y
  obtain⟨v,w,rfl,h,h'⟩:=r1.two;split at o1
  ·rename_i ds es q1 q2
   obtain⟨k1,a1,xs,rfl,g1,g2⟩:=zQv h q1;obtain⟨k2,a2,ys,rfl,g3,g4⟩:=zQv h' q2;exact⟨k1,k2,a1,a2,xs,ys,rfl,oE R1.s g1,oE R1.s g3,o1.here R1.s _ (zGk g1 g2 g3 g4)⟩
  ·exact o1.elim
 ·exact o1.elim
def iEn(K:PySem.W.Frag)(ta:TA):TI:=fun σ H R=>ta σ H fun vs H1=>∃ k a xs,vs=[.ref a]/\SqK k K H1 a xs/\R (Ite K k a) H1
theorem zLH{a:Expr}{ta:TA}{p pos:Pos}{elts:List Expr}{x1:Nat}{tp:Pos}(hg:Gl X "enumerate")(hm:X.mg "enumerate" = none)(ha:PA X [a] ta)(hs:starEach [a] X.env=[(false,eval a X.env)]:=by rfl):
  PI X (.Tuple elts x1 tp) (.Call (.Name "enumerate" p) [a] [] pos) (iEn X.K ta):=by
 intro pins s σ H R I h;refine Call_ (oM I hg hm boot_enumerate (X9 (thn (ha pos pins s σ H _ I h) fun us s1 ⟨vs,H1,I1,r1,q1⟩=>?_) hs rfl))
 obtain⟨k,t,xs,rfl,hq,q⟩:=q1
 cases r1 with
 | cons r rr=>
  cases rr;cases r;obtain⟨its,rv,pt,hz⟩:=sqI I1 hq;refine zGA pt fun h' b1 b2 b6=>wpAny_pyIter_enum (s:={ s1 with heap:=h' }) b1 ?_
  refine⟨s1.heap.objs.size+1,_,_,_,H1,rfl,I1.kept (t':=s1.toks) b6,zFw k t s1.heap.objs.size pt.lt,⟨⟨_,b1⟩,b2⟩,fun b hb=>?_,q⟩
  have hb':s1.heap.objs.size<=b:=by
   simp only[Qc,Q8,or_false] at hb;rcases hb with rfl | rfl<;>omega
  exact I1.fpOk hb' (I1.hok.fresh hb')
theorem zBl:∀(xs:List D)(n i:Nat)(d:D),(jV n xs)[i]?=some d->∃ a,xs[i]?=some a/\d=.tup [.int ((n+i:Nat):Int),a]
 | a::r,n,0,d,h=>by cases h;exact⟨a,rfl,rfl⟩
 | a::r,n,i+1,d,h=>by
  obtain⟨b,h1,h2⟩:=zBl r (n+1) i d h;exact⟨b,h1,by rw[h2];congr 4;omega⟩
 | [],n,i,d,h=>by cases i<;>cases h
theorem zBq:∀(xs:List D)(n:Nat),(jV n xs).length=xs.length
 | a::r,n=>by simp only[jV,Ql,zBq r (n+1)]
 | [],n=>rfl
theorem wL{K:Fg_}{Hi:Hp}{k:Bool}{a:Addr}{xs:List V}{ds:List D}(h1:SqK k K Hi a xs)(h2:IsDs K Hi xs ds):vM K Hi (Ite K k a) (jV 0 ds):=fun Hi1 H1 s1 s2 i=>by
 have g1:=oE (s1.trans s2) h1;refine⟨fun hl=>⟨xs,g1,?_⟩,fun d hd=>?_⟩
 ·rw[zBq] at hl
  rw[h2.length];exact hl
 ·obtain⟨a,ha,rfl⟩:=zBl ds 0 i d hd
  obtain⟨v,hv,rv⟩:=h2.at ha;refine⟨⟨xs,v,g1,hv⟩,fun x H2 y=>?_⟩
  obtain⟨p,x',rfl,hp,rfl,y1⟩:=y;have e1:=y1 xs g1;rw[hv] at e1;cases e1
  have hi:=s2.none hp;rw[Q5];exact⟨upd Hi1 p (.tup [.int i,v]),Ext.new s2 hp,.tup (.inl (.inl aS)) (.cons (.int _) (.cons ((rv.mono s1).mono (cA hi _)) .nil))⟩
theorem zJD{a:Expr}{p pos:Pos}{elts:List Expr}{x1:Nat}{tp:Pos}(hg:Gl X "enumerate")(hm:X.mg "enumerate" = none)(ha:PEd X G a f)(hst:starEach [a] X.env=[(false,eval a X.env)]:=by rfl):
  PId X G (.Tuple elts x1 tp) (.Call (.Name "enumerate" p) [a] [] pos) (zGn f):=PI.wk (zLH hg hm (jK ha nH (by rw[hst];rfl)) hst) fun σ H Q q=>by
 obtain⟨ρ,Hi,R,ou⟩:=q;refine zDV R ou fun v d Hi1 H1 e1 R1 r1 o1=>?_
 cases d with
 | lst ds=>
  obtain⟨a,xs,rfl,h1,h2⟩:=r1.lstI;exact⟨true,a,xs,rfl,cH R1.s h1,o1.here R1.s _ (wL (k:=true) h1 h2)⟩
 | tup ds=>
  obtain⟨a,xs,rfl,h1,h2⟩:=r1.tupI;exact⟨false,a,xs,rfl,bV R1.s h1,o1.here R1.s _ (wL (k:=false) h1 h2)⟩
 | _=>exact o1.elim
end
end L3
namespace L3
open PySem PySem.Spec PyProof.Rows L2
unseal PEd PEf PTd PWd PAd PSd dJ POd PGd gH PId PSx jL PTs PCd PCf
structure BlkOk2 (X:Cx) (xs:List Str) (scope:Scope):Prop where
 kind:scope.kind=.function
 cell:∀ y∈scope.names,y.2≠.cell
 loc:∀ x∈xs,scope.names.lookup x=some .local
 names:∀ y∈scope.names,y.2=.local->scope.names.lookup y.1=some .local
 fre:∀ p∈scope.names,p.2=.free->X.env.kindOf p.1=some .cell∨X.env.kindOf p.1=some .free
 oth:∀ y∈X.N,scope.names.lookup y≠some .local
def zBR(X:Cx)(xs:List Str)(scope:Scope)(C:Addr)(s₂:Shared)(H₂:Hp)(fp:List Addr):Cx:=
  { prog:=X.prog,w:=X.w,K:=X.K,mg:=X.mg,base:=X.base,A:=X.A,N:=X.N++xs,s₀:=s₂,H₀:=H₂,env:=compEnvC scope (zCt X.env scope.names []) C X.env,outer:=X.stack,stack:=X.stack,
    ex:=fp,fn:=fun _=>false,calm:=X.calm,pn:=X.pn,xe:=fun _ _=>False }
section
variable{X:Cx}{pins:List (Addr×Obj)}{σ:St}{H:Hp}{s₂:Shared}{xs:List Str}{scope:Scope}{fp:List Addr}{D C:Addr}{h₁:Heap}
theorem BlkOk2.cl(B:BlkOk2 X xs scope)(I:Inv X pins σ H s₂):∀ p∈scope.names,p.2=.free->∃ c,X.env.cells.lookup p.1=some c:=fun p hp e=>I.ok.has p.1 (B.fre p hp e)
theorem zNn(I:Inv X pins σ H s₂)(B:BlkOk2 X xs scope)(hfp:∀ b∈fp,sM X pins H b)(hfl:∀ b∈fp,b<s₂.heap.objs.size)(hD:s₂.heap.objs.size<=D)(hC:s₂.heap.objs.size<=C)(hDC:D≠C)
  (old:∀ b o,s₂.heap.get? b=some o->h₁.get? b=some o) {n:Nat} (hacc:h₁.get? D=some { cls:=.type "list", data:=.seq ([]:List Value).toArray n }) {m:Str->Option Value} (hns:h₁.Ns C m) (t:Nat):
  Inv (zBR X xs scope C s₂ H fp) pins (σ++xs.map fun _=>none) (upd H D (.lst [])) { s₂ with heap:=h₁,toks:=t }:=by
 have sub:=tN scope.names [] (B.cl I) (fun y c e=>nomatch e)
 have old_lt:∀ {b:Addr} {o:Obj},s₂.heap.get? b=some o->b≠D/\b≠C:=fun e=>⟨Qo (Qn (Heap.lt_size e) hD),Qo (Qn (Heap.lt_size e) hC)⟩
 have free:∀ {b:Addr},b≠D->H b=none->upd H D (.lst []) b=none:=fun n e=>by rw[aX n];exact e
 refine⟨⟨I.ok.mod,B.kind,I.ok.glob,I.ok.blt,hC,fun y z c e1 e2=>I.ok.inj y z c (sub y c e1) (sub z c e2),fun y hy=>?_,fun y c e=>(nomatch e),I.ok.hd,I.ok.frames,.inl rfl,fun b hb=>⟨Qo (Qn (hfl b hb) hC),fun y c e=>(hfp b hb).2.2.2.2.1 y c (sub y c e)⟩,
  I.bs,Qp I.ok.bsz I.sz,fun b o e hb=>?_,fun b hb z=>?_,I.stack,I.stkFree⟩,rfl,I.bare,Un.laid old hD (I.hok.fresh hD),⟨m,hns,fun i y v e1 e2 e3=>?_⟩,fun y c e=>?_,free (Ne.symm hDC) (I.hok.fresh hC),fun y c e=>?_,fun p hp=>?_,I.hok.laid old hD ⟨Q7 _,[],n,.nil,hacc⟩,?_⟩
 ·have:∃ k,(k=NameKind.cell∨k=NameKind.free)/\((relabel scope X.env).names).lookup y=some k:=hy.elim (fun h=>⟨_,.inl rfl,h⟩) fun h=>⟨_,.inr rfl,h⟩
  obtain⟨k,hk,e⟩:=this
  have e':(y,NameKind.free)∈scope.names:=by
   rcases cE e with z | ⟨_,z⟩
   ·rcases hk with rfl | rfl
    ·exact absurd rfl (B.cell _ (bW z))
    ·exact bW z
   ·exact bW z
  exact uM scope.names [] y e'
 ·rcases (hfp b hb).2.2.2.1 with z | z
  ·exact I.ok.noex b o e z
  ·exact absurd (Qn (Heap.lt_size e) (Qp I.ok.bsz z)) (Vt _)
 ·rcases Qc.mp (I.stkSub b z) with w | w
  ·exact(hfp b hb).2.1 w
  ·exact(hfp b hb).2.2.1 w
 ·
  have hi:i<σ.length:=by
   by_cases hi:i<σ.length
   ·exact hi
   ·exfalso
    rw[Vy (by omega),Qr] at e2
    cases q:xs[i-σ.length]? with
    | none=>rw[q] at e2;cases e2
    | some z=>rw[q] at e2;cases e2
  rw[Vl hi] at e2;have e1':(X.N++xs)[i]?=some y:=e1;rw[Vl (by rw[<-I.len];exact hi)] at e1'
  cases q:X.N[i]? with
  | none=>rw[q] at e1';cases e1'
  | some z=>
   rw[q] at e1';have hy:z=y:=Vg e1';have hz:z∈X.N:=Qg q;subst hy
   have fr:(z,NameKind.free)∈scope.names:=by
    rcases e3 with h | h | h
    ·rcases cE h with h | ⟨h,_⟩
     ·exact absurd h (B.oth z hz)
     ·cases h
    ·rcases cE h with h | ⟨_,h⟩
     ·exact absurd rfl (B.cell _ (bW h))
     ·exact bW h
    ·rcases cE h with h | ⟨h,_⟩
     ·exact bW h
     ·cases h
   have kd:=B.fre _ fr rfl;obtain⟨m0,hn0,hl⟩:=I.loc;obtain⟨u,ru,lk⟩:=hl i z v q e2 (kd.elim (fun h=>.inr (.inl h)) fun h=>.inr (.inr h))
   refine⟨u,ru,.inr ⟨?_,?_⟩⟩
   ·rcases e3 with h | h | h
    ·rcases cE h with h | ⟨h,_⟩
     ·exact absurd h (B.oth z hz)
     ·cases h
    ·exact .inl h
    ·exact .inr h
   ·rcases lk with⟨k1,_⟩ | ⟨_,c,hc,hcell⟩
    ·rcases kd with kd | kd<;>(rw[kd] at k1;cases k1)
    ·obtain⟨c',hc'⟩:=uM (env:=X.env) scope.names [] z fr
     have:=sub z c' hc'
     rw[hc] at this;cases this;obtain⟨o,ho,hd⟩:=hcell;exact⟨c,hc',o,old _ _ ho,hd⟩
 ·obtain⟨v,o,ho,hd⟩:=I.cell y c (sub y c e)
  exact⟨v,o,old _ _ ho,hd⟩
 ·obtain⟨v,o,ho,hd⟩:=I.cell y c (sub y c e)
  exact free (old_lt ho).1 (I.freeC y c (sub y c e))
 ·obtain⟨e,n,ne,nf,d⟩:=I.pin p hp
  refine⟨old _ _ e,free (old_lt e).1 n,(old_lt e).2,fun z=>?_,d⟩
  rcases Qc.mp (I.stkSub _ z) with w | w
  ·exact ne w
  ·exact nf w
 ·show(σ++xs.map fun _=>none).length=(X.N++xs).length
  rw[Qi,Qi,Qd,I.len]
end
theorem zCV{f:Ev}{ρ:Rho}{d:D}{ds es:List D}(h:fK f ρ (d::ds)=.ok es):
  ∃ a b e es',d=.tup [a,b]/\f (ρ++[.val a,.val b])=.ok e/\fK f ρ ds=.ok es'/\es=e::es':=by
 unfold fK at h;split at h
 ·cases ‹_=[]›
 ·rename_i a b ds' q
  cases q
  cases hf:noErr (f (ρ++[.val a,.val b])) with
  | no=>rw[hf] at h;cases h
  | err c=>rw[hf] at h;cases h
  | ok e=>
   rw[hf] at h
   cases hr:fK f ρ ds with
   | no=>simp only[Res.bind,hr] at h;cases h
   | err c=>simp only[Res.bind,hr] at h;cases h
   | ok es'=>
    simp only[Res.bind,hr] at h;cases h;exact⟨a,b,e,es',rfl,yJ hf,rfl,rfl⟩
 ·cases h
theorem zAC{f:Ev}{ρ:Rho}{c:Str}:∀ {ds:List D},fK f ρ ds≠.err c
 | []=>fun h=>by cases h
 | d::ds=>fun h=>by
  unfold fK at h;split at h
  ·cases ‹_=[]›
  ·rename_i a b ds' q
   cases q
   cases hf:noErr (f (ρ++[.val a,.val b])) with
   | no=>rw[hf] at h;cases h
   | err c=>cases q:f (ρ++[.val a,.val b])<;>(rw[q] at hf;cases hf)
   | ok e=>
    rw[hf] at h
    cases hr:fK f ρ ds with
    | no=>simp only[Res.bind,hr] at h;cases h
    | err c'=>exact zAC hr
    | ok es'=>simp only[Res.bind,hr] at h;cases h
  ·cases h
section
variable{X:Cx}{G:Gx}{elt iter:Expr}{xa xb:Str}{pa pb tp pos:Pos}{x1:Nat}{scope:Scope}{it:Fv}{f:Ev}{k:Nat}
theorem zFe(hc:X.calm=true/\TB X.K X.mg G.Bi G.B)(hr:Room k X.A)(Bk:BlkOk2 X [xa,xb] scope)(hN:(X.N++[xa,xb]).Nodup)(hi:PId X G (.Tuple [.Name xa pa,.Name xb pb] x1 tp) iter it)
  (hb:∀(C:Addr)(s₂:Shared)(H₂:Hp)(fp:List Addr)(G':Gx),Good (zBR X [xa,xb] scope C s₂ H₂ fp) G' k->PEd (zBR X [xa,xb] scope C s₂ H₂ fp) G' elt f)
  (hs:∀ x,foldedSetIterable iter X.env x=pure x:=by intro _;rfl)
  {pins:List (Addr×Obj)} {s:Shared} {σ:St} {H Hi:Hp} {ρ:Rho} {use:Option (Value->Sem Unit)} {Q':Value->Shared->Prop} {Qa:Addr->Hp->Prop} {cpos:Pos} (I:Inv X pins σ H s) (R:kK X G Hi H σ ρ)
  (ou:Out G Hi H ((wO it f) ρ) fun ds Hi' H'=>∀ a,zJj X.K H Hi' H' a ds->Qa a H') (hend:zQy X pins σ use Q' Qa):
  wpAny (model X.prog X.w) X.A (comprehension (.ListComp elt [⟨.Tuple [.Name xa pa,.Name xb pb] x1 tp,iter,[],0⟩] scope pos) scope X.env cpos (newList []) false (eval iter X.env) use) Q' X.xe s:=by
 refine wpAny_comprehension_free (use:=use) rfl hs (zKi (Bk.cl I)) Bk.kind Bk.names ?_
 refine thn (hi pins s σ H (fun J H2=>∃ ds Hi2,Ext Hi H Hi2 H2/\vM X.K Hi2 J ds/\Out G Hi2 H2 (if ds.length<=16777215 then fK f ρ ds else .no) fun ds Hi' H'=>∀ a,zJj X.K H Hi' H' a ds->Qa a H') I
  ⟨ρ,Hi,R,(Out.bind ou).imp fun ds Hi2 H2 e2 o2 J gv=>⟨ds,Hi2,e2,gv,o2⟩⟩) fun v s1 h1=>thn h1 fun itv s2 h2=>?_
 obtain⟨itA,fp,tn,J,H2,rfl,I2,T,st2,f2,ds,Hi2,e2,gv,ou2⟩:=h2
 have hlen:ds.length<=16777215:=by
  by_cases hlen:ds.length<=16777215
  ·exact hlen
  ·rw[if_neg hlen] at ou2;exact ou2.elim
 rw[if_pos hlen] at ou2
 cases hes:fK f ρ ds with
 | no=>rw[hes] at ou2;exact ou2.elim
 | err c=>exact absurd hes zAC
 | ok es=>
  rw[hes] at ou2;have R2:kK X G Hi2 H2 σ ρ:=R.grow e2;refine wpAny_newObj_type (wpAny_newFunctionEnv Bk.cell (by intro y hy;simp at hy) (fun h₁ hns₁ hsb₁=>?_) Bk.kind)
  dsimp only at hns₁ hsb₁ ⊢
  generalize hH2:s2.heap.push { cls:=.type "list", dict:=none,data:=.seq ([]:List Value).toArray }=HP at hns₁ hsb₁ ⊢;have hC:HP.objs.size=s2.heap.objs.size+1:=by rw[<-hH2,Heap.size_push]
  have hDC:s2.heap.objs.size≠HP.objs.size:=by rw[hC];omega
  have ltC:∀ {b:Addr} {o:Obj},s2.heap.get? b=some o->b≠HP.objs.size:=fun e=>by rw[hC];exact Qo (Xg (Heap.lt_size e))
  have old:∀ b o,s2.heap.get? b=some o->h₁.get? b=some o:=fun b o e=>hsb₁.extBut b o (ltC e) (Heap.get?_push_of_some _ (hH2 ▸ Heap.get?_push_of_some _ e))
  have hacc:h₁.get? s2.heap.objs.size=some { cls:=.type "list", data:=.seq ([]:List Value).toArray 0 }:=hsb₁.extBut _ _ hDC (Heap.get?_push_of_some _ (hH2 ▸ Heap.get?_push_size _ rfl));have hfl:∀ b∈fp,b<s2.heap.objs.size:=fun b hb=>by obtain⟨o,e,_⟩:=T.obj _ _ st2 b hb;exact Heap.lt_size e
  have IE:=zNn (t:=s2.toks+([]:List (Str×Value)).length) I2 Bk f2 hfl (Qb _) (by rw[hC];omega) hDC old hacc hns₁
  have sub:=tN scope.names [] (Bk.cl I2) (fun y c e=>nomatch e)
  have H2D:H2 s2.heap.objs.size=none:=I2.hok.fresh (Qb _);have HD:H s2.heap.objs.size=none:=e2.h.none H2D;have Hi2D:Hi2 s2.heap.objs.size=none:=e2.s.none H2D;generalize hX:zBR X [xa,xb] scope HP.objs.size s2 H2 fp=Y at IE
  have GY:Good Y ⟨G.B,G.Bi,fun _ _=>False⟩ k:=by
   subst hX;exact⟨hc.1,hr,fun pins σ H s e s' _ h=>by obtain⟨_,_,_,_,_,c,_,z⟩:=h;exact z.elim,PassesOwn.never,hc.2⟩
  have hel:=(hX ▸ hb HP.objs.size s2 H2 fp ⟨G.B,G.Bi,fun _ _=>False⟩ (hX.symm ▸ GY):PEd Y ⟨G.B,G.Bi,fun _ _=>False⟩ elt f)
  have stat:∀ {H':Hp},(∀ b∈fp,H' b=none)->∀ b∈fp,sM Y pins H' b:=fun hn b hb=>by
   subst hX;refine⟨hn b hb,?_,fun z=>?_,.inl hb,fun y c e=>(f2 b hb).2.2.2.2.1 y c (sub y c e),(f2 b hb).2.2.2.2.2⟩
   ·show b≠HP.objs.size
    rw[hC];exact Qo (Xg (hfl b hb))
   ·rcases Qc.mp (I2.stkSub b z) with w | w
    ·exact(f2 b hb).2.1 w
    ·exact(f2 b hb).2.2.1 w
  have YN:Y.N.Nodup:=by subst hX;exact hN
  have Ya:Y.N[σ.length]?=some xa:=by
   subst hX;show(X.N++[xa,xb])[σ.length]?=some xa
   rw[Vy (by rw[I2.len];omega),I2.len,Yh];rfl
  have Yb:Y.N[σ.length+1]?=some xb:=by
   subst hX;show(X.N++[xa,xb])[σ.length+1]?=some xb
   rw[Vy (by rw[I2.len];omega),I2.len,Wu];rfl
  have Yla:Y.env.scope.names.lookup xa=some .local:=by subst hX;exact lookup_relabel_local (Bk.loc xa (by simp))
  have Ylb:Y.env.scope.names.lookup xb=some .local:=by subst hX;exact lookup_relabel_local (Bk.loc xb (by simp))
  have asg:PG Y (.Tuple [.Name xa pa,.Name xb pb] x1 tp) (L2.zBc Y.K 2 (L2.fH (L2.gName σ.length) (L2.fH (L2.gName (σ.length+1)) L2.zAx))):=
   zJI (by subst hX;exact hc.1) (yE (zDb YN Ya (.inl Yla) (.inr Yla)) (yE (zDb YN Yb (.inl Ylb) (.inr Ylb)) zFx))
  have Ye:Y.env=compEnvC scope (zCt X.env scope.names []) HP.objs.size X.env:=by subst hX;rfl
  have Yxe:∀ e s,¬ Y.xe e s:=by subst hX;exact fun _ _ h=>h
  have tn1:tn 0 h₁:=T.keep _ _ _ st2 fun b _ o e=>old b o e
  have loop:∀ s3:Shared,s3={ s2 with heap:=h₁,toks:=s2.toks+([]:List (Str×Value)).length }->
    codeAny (model X.prog X.w) X.A (.compLoop (.ListComp elt [⟨.Tuple [.Name xa pa,.Name xb pb] x1 tp,iter,[],0⟩] scope pos) 0 (.ref itA) (.ref s2.heap.objs.size) Y.env) (compPost (model X.prog X.w) X.A X.xe use Q' (.ref s2.heap.objs.size) HP.objs.size) s3:=by
   rintro s3 rfl
   subst hX
   have fr0:∀ b∈fp,upd H2 s2.heap.objs.size (.lst []) b=none:=fun b hb=>by
    rw[aX (Qo (hfl b hb))];exact(f2 b hb).1
   refine PyProof.Rows.LCp.codeAny_compLoop_pair (fun n s'=>∃ c:CW,n=ds.length-c.i/\CS (zBR X [xa,xb] scope HP.objs.size s2 H2 fp) pins σ tn fp Hi2 H2 s2.heap.objs.size 2 (fun i=>fK f ρ (ds.drop i)) es c s') ?_ ds.length
    ⟨⟨0,[none,none],_,Hi2,[],[],es⟩,rfl,⟨IE,rfl,tn1,fr0,(Ext.refl e2.s).trans (Ext.newF e2.s H2D),aS,Hi2D,.nil,Qb _,hes,rfl⟩⟩
   ·rintro n s3 ⟨⟨i,vv,H3,Hi3,ys,done,rest⟩,rfl,I3,wd3,st3,fr3,e3,hD3,hiD3,rd3,hl3,hr3,hes3⟩
    dsimp only at I3 wd3 st3 fr3 e3 hD3 hiD3 rd3 hl3 hr3 hes3 ⊢
    obtain⟨v,v',rfl⟩:∃ v v',vv=[v,v']:=by
     match vv,wd3 with
     | [v,v'],_=>exact⟨v,v',rfl⟩
    obtain⟨w1,w2⟩:=gv Hi3 H3 e3.i e3.s i;have lift:∀ {α:Type} {m:Sem α} {Q':α->Shared->Prop} {E:Value->Shared->Prop} {s':Shared},wpAny (model X.prog X.w) X.A m Q' (zBR X [xa,xb] scope HP.objs.size s2 H2 fp).xe s'->wpAny (model X.prog X.w) X.A m Q' E s':=fun h=>wpAny_mono h (fun _ _ z=>z) fun e s z=>(Yxe e s z).elim
    by_cases hlt:i<ds.length
    ·obtain⟨d,hd⟩:∃ d,ds[i]?=some d:=⟨_,Qk hlt⟩
     obtain⟨go,yl⟩:=w2 d hd
     have e4:ds.drop i=d::ds.drop (i+1):=by
      rw[Qk hlt] at hd;cases hd;exact U1 hlt
     rw[e4] at hr3;refine thn (T.item (zBR X [xa,xb] scope HP.objs.size s2 H2 fp) rfl rfl rfl hc.1 i pins s3 _ H3 _ I3 (stat fr3) st3 go) fun r s4 ⟨u,hru,h4⟩=>?_
     subst hru;refine thn h4 fun _ s5 h5=>?_
     obtain⟨xv,H5,I5,r5,y5,st5,fr5⟩:=h5;obtain⟨Hi5,e5,rd5⟩:=yl xv H5 y5;have I5':=I5.pinned (stat fr5) (T.obj _ _ st5);obtain⟨a,b,e,es',rfl,hf,hr4,hee⟩:=zCV hr3;obtain⟨pa',ps,rfl,hq,hps⟩:=rd5.tupI;obtain⟨va,vb,rfl,ra,rb⟩:=hps.two;refine lift (thn (asg _ s5 _ H5 _ u (fun σ' H'=>σ'=σ++[some va,some vb]/\H'=H5) I5' r5 ⟨pa',_,rfl,bV (e3.trans e5).s hq,rfl,va,_,rfl,vb,_,rfl,rfl,?_,rfl⟩) fun _ s6 h6=>?_)
     ·rw[U2 _ _ (Qb _),Yh,U2 _ _ (Nat.le_succ _),Nat.succ_sub (Qb _),Yh];rfl
     obtain⟨σ6,H6,I6,rfl,rfl⟩:=h6;have E5:Ext Hi2 H2 Hi5 H6:=e3.trans e5
     have R5:kK (zBR X [xa,xb] scope HP.objs.size s2 H2 fp) ⟨G.B,G.Bi,fun _ _=>False⟩ Hi5 H6 (σ++[some va,some vb]) (ρ++[.val a,.val b]):=by
      have:=Rel.snoc (Rel.snoc (R2.grow E5) ra) rb
      rw[Vp,Vp] at this;exact this
     obtain⟨hD5,hiD5⟩:=e5.out hD3 hiD3;have rd5':=rd3.mono e5.i
     have again:∀ {H8 Hi8:Hp} {ys':List V} {done' rest':List D} {s8:Shared},Inv (zBR X [xa,xb] scope HP.objs.size s2 H2 fp) (pins++tU fp s5.heap) (σ++[some va,some vb]) H8 s8->Ext Hi2 H2 Hi8 H8->H8 s2.heap.objs.size=some (.lst ys')->Hi8 s2.heap.objs.size=none->IsDs X.K Hi8 ys' done'->done'.length<=i+1->
       fK f ρ (ds.drop (i+1))=.ok rest'->es=done'++rest'->∃ m,m<ds.length-i/\∃ c:CW,m=ds.length-c.i/\CS (zBR X [xa,xb] scope HP.objs.size s2 H2 fp) pins σ tn fp Hi2 H2 s2.heap.objs.size 2 (fun i=>fK f ρ (ds.drop i)) es c s8:=fun {H8 Hi8 ys' done' rest' s8} I8 E8 a1 a2 a3 a4 a5 a6=>by
      refine⟨ds.length-(i+1),by omega,⟨i+1,[some va,some vb],H8,Hi8,ys',done',rest'⟩,rfl,⟨I8.unpinned,rfl,T.keep _ _ _ st5 fun b hb o e=>(I8.pin (b,o) (Qx _ (Qx _ (eU hb e)))).1,fun b hb=>?_,E8,a1,a2,a3,a4,a5,a6⟩⟩
      obtain⟨o,e,_⟩:=T.obj _ _ st5 b hb;exact(I8.pin (b,o) (Qx _ (Qx _ (eU hb e)))).2.1
     refine lift (thn (hel _ s6 _ H6 (fun w H'=>∃ Hi',Ext Hi5 H6 Hi' H'/\IsD X.K Hi' w e) I6 ⟨_,Hi5,R5,by rw[hf];exact fun Hi' H' ee w hw=>⟨Hi',ee,hw⟩⟩) fun u8 s8 h8=>?_)
     obtain⟨w8,H8,I8,r8,Hi8,e8,rw8⟩:=h8;obtain⟨hD8,hiD8⟩:=e8.out hD5 hiD5;have rdy:IsDs X.K Hi8 ys done:=rd5'.mono e8.i;refine lift (thn (pL (X:=(zBR X [xa,xb] scope HP.objs.size s2 H2 fp)) _ s8 _ H8 (.ref s2.heap.objs.size) [w8] (.ref s2.heap.objs.size) [u8] (fun _ H'=>H'=upd H8 s2.heap.objs.size (.lst (ys++[w8]))) I8 rfl (.cons r8 .nil) ⟨_,ys,w8,rfl,rfl,hD8,?_,rfl⟩) fun _ s9 h9=>?_)
     ·rw[rdy.length]
      exact V8 hl3 (Qn hlt (Qp hlen (by decide)))
     ·obtain⟨_,H9,I9,_,rfl⟩:=h9
      refine again I9 (Ext.rewrite (E5.trans e8) H2D hiD8 ⟨_,hD8⟩) aS hiD8 (rdy.snoc rw8) (by rw[Qi];exact Xe hl3) hr4 ?_
      rw[hes3,hee,Vp];rfl
    ·rw[Yt (by omega),fK] at hr3
     cases hr3;refine thn (T.done (zBR X [xa,xb] scope HP.objs.size s2 H2 fp) rfl rfl rfl hc.1 i pins s3 _ H3 _ I3 (stat fr3) st3 (w1 (by omega))) fun r s4 ⟨hrn,I4⟩=>?_
     subst hrn;obtain⟨m4,hn4,_⟩:=I4.loc;have fC:H3 HP.objs.size=none:=I4.free;have nC:∀ b u,H3 b=some u->b≠HP.objs.size:=fun b u e z=>by rw[z,fC] at e;cases e
     have U4:=I4.base;refine hend HP.objs.size s2.heap.objs.size m4 s4 H3 hn4 (fun h' hs'=>?_) (I2.fpOk (by rw[hC];omega) fC) ?_
     ·have kp:∀ b o,b≠HP.objs.size->s4.heap.get? b=some o->h'.get? b=some o:=fun b o hb e=>hs'.extBut b o hb e
      refine Inv.call' I2 (ch:=fp) I4.os ⟨fun b o e n hb hx=>kp b o (ltC e) (U4.keep b o e n hb hx),fun b o e n hb hx=>?_,U4.free,fun b o e hx=>?_,U4.tups,U4.frzs,U4.tbls⟩ (fun b u e=>?_) I4.bare (fun b hb=>⟨(f2 b hb).2.2.2.1,(f2 b hb).2.1,(f2 b hb).2.2.2.2.1,(f2 b hb).2.2.2.2.2⟩)
      ·obtain⟨sl,q⟩:=U4.slot b o e n hb hx
       exact⟨sl,kp b _ (ltC e) q⟩
      ·obtain⟨o',q⟩:=U4.there b o e hx
       exact⟨o',kp b _ (ltC e) q⟩
      ·refine(I4.hok b u e).stay (fun c v hc q=>kp c v ?_ q) (fun _ q=>q) fun _ _ q=>q
       rcases hc with z | z
       ·rw[z];exact nC b u e
       ·exact nC c _ z
     ·refine ou2 Hi3 H3 e3 _ ⟨HD,hiD3,ys,hD3,?_⟩
      rw[hes3,Q3];exact rd3
  rw[Ye] at loop;exact codeAny_compStart_list (loop _ rfl) (T.self _ 0 _ _ _ tn1 (loop _ rfl))
theorem zIR(hc:X.calm=true/\TB X.K X.mg G.Bi G.B)(hr:Room k X.A)(Bk:BlkOk2 X [xa,xb] scope)(hN:(X.N++[xa,xb]).Nodup)(hi:PId X G (.Tuple [.Name xa pa,.Name xb pb] x1 tp) iter it)
  (hb:∀(C:Addr)(s₂:Shared)(H₂:Hp)(fp:List Addr)(G':Gx),Good (zBR X [xa,xb] scope C s₂ H₂ fp) G' k->PEd (zBR X [xa,xb] scope C s₂ H₂ fp) G' elt f)
  (hs:∀ x,foldedSetIterable iter X.env x=pure x:=by intro _;rfl):PEf X G (.ListComp elt [⟨.Tuple [.Name xa pa,.Name xb pb] x1 tp,iter,[],0⟩] scope pos) (wO it f):=by
 intro pins s σ H Q I w;obtain⟨ρ,Hi,R,ou⟩:=w;rw[eval_ListComp];refine zFe hc hr Bk hN hi hb hs (use:=none) (Qa:=fun a H'=>Q (.ref a) H') I R ou fun C A m s4 H3 hn hI _ q=>?_
 exact⟨m,hn,fun h' hs'=>⟨.ref A,H3,hI h' hs',rfl,q⟩⟩
def zKB(sc:Scope)(N:List Str)(xs:List Str)(scope:Scope):Bool:=
 scope.names.all (fun y=>y.2 != .cell) && xs.all (fun x=>scope.names.lookup x==some .local) && scope.names.all (fun y=>y.2 != .local || scope.names.lookup y.1==some .local)
  && scope.names.all (fun p=>p.2 != .free || (sc.names.lookup p.1==some .cell || sc.names.lookup p.1==some .free)) && N.all (fun y=>scope.names.lookup y != some .local)
theorem zLe{sc:Scope}{N xs:List Str}(hk:scope.kind=.function)(hsc:X.env.scope=sc)(hN:X.N=N)(h:zKB sc N xs scope=true):BlkOk2 X xs scope:=by
 unfold zKB at h;simp only[Vj] at h;obtain⟨⟨⟨⟨h1,h2⟩,h3⟩,h4⟩,h5⟩:=h;subst hN hsc;refine⟨hk,fun y hy e=>?_,fun x hx=>?_,fun y hy e=>?_,fun p hp e=>?_,fun y hy e=>?_⟩
 ·have:=V9.mp h1 y hy
  rw[e] at this;cases this
 ·exact beq_iff_eq.mp (V9.mp h2 x hx)
 ·have:=V9.mp h3 y hy
  rw[e] at this;simpa using this
 ·have:=V9.mp h4 p hp
  rw[e] at this;have q:X.env.scope.names.lookup p.1=some .cell∨X.env.scope.names.lookup p.1=some .free:=by simpa using this
  exact q
 ·have:=V9.mp h5 y hy
  rw[e] at this;cases this
theorem zBM{sc:Scope}{N:List Str}(W:Good X G k)(hnd:(N++[xa,xb]).Nodup)(hk:scope.kind=.function)(hsc:X.env.scope=sc)(hN:X.N=N)(h:zKB sc N [xa,xb] scope=true)(hi:PId X G (.Tuple [.Name xa pa,.Name xb pb] x1 tp) iter it)
  (hb:∀(C:Addr)(s₂:Shared)(H₂:Hp)(fp:List Addr)(G':Gx),Good (zBR X [xa,xb] scope C s₂ H₂ fp) G' k->PEd (zBR X [xa,xb] scope C s₂ H₂ fp) G' elt f)
  (hs:∀ x,foldedSetIterable iter X.env x=pure x:=by intro _;rfl):PEf X G (.ListComp elt [⟨.Tuple [.Name xa pa,.Name xb pb] x1 tp,iter,[],0⟩] scope pos) (wO it f):=
 zIR ⟨W.calm,W.tb⟩ W.room (zLe hk hsc hN h) (hN ▸ hnd) hi hb hs
end
end L3
namespace L3
open PySem PySem.Spec PyProof.Rows L2
section
variable{prog:Program}{w:World}{A:Around}{E:Value->Shared->Prop}{s:Shared}
theorem zFD{t sl:Addr}{its:Array Value}{vl vu:Value}{lo hi:Option Int}{Q:Value->Shared->Prop}(a:IsTup s.heap t its)(b:s.heap.IsSliceOf sl vl vu .none)(pl:IsPart vl lo)(pu:IsPart vu hi)
  (c:HT.sIx its.size 0 lo=0/\HT.sIx its.size its.size hi=its.size) (q:Q (.ref t) s):wpAny (model prog w) A (getItem (.ref t) (.ref sl)) Q E s:=by
 obtain⟨os,e1,e2,_⟩:=id b;have ty:s.TypeIs (.ref sl) "slice" := ⟨os,e1,e2⟩;unfold getItem;try with_reducible refine wpAny_holding ?_
 first | refine wpAny_bind (wpAny_pure ?_) | skip
 refine wpAny_bind (wpAny_sequenceKey a.typeIs (by decide) (wpAny_bind (wpAny_callSpecial?_slot (name:=Str.ofString "__getitem__") a.typeIs Y1 (wpAny_call_entry Y1 a.typeIs entry_tuple_getitem ?_ (args_tuple_getitem _ _)))))
 refine show wpAny _ _ (Builtin.Tuple.tupleItemsOf (.ref t) >>= _) _ _ s from wpAny_bind (tupleItemsOf_ a (wpAny_bind (wpAny_typeOf ty ?_)))
 rw[if_pos (by decide)];refine wpAny_bind (HT.sliceApplied_gen b pl pu ?_)
 show wpAny _ _ (if (((HT.sIx its.size 0 lo:Nat):Int)==0 && (1:Int)==1 && (HT.sIx its.size its.size hi-HT.sIx its.size 0 lo)==its.size)=true then _ else _) _ _ s
 rw[c.1,c.2,if_pos (by simp)];refine wpAny_bind ?_
 unfold Builtin.Tuple.tupleIsExact
 first
  | refine wpAny_bind (wpAny_typeOf a.typeIs (wpAny_pure ?_))
  | refine wpAny_bind (wpAny_load a.choose_spec.1 (wpAny_pure ?_))
 rw[if_pos (by first | decide | rfl)];exact wpAny_bind (wpAny_rule (wpAny_pure ⟨_,rfl,wpAny_pure q⟩))
end
section
variable{X:Cx}{G:Gx}{fs:Fv}{f:Ev}
def zRi(K:PySem.W.Frag):V->Option Int->Option Int->Hp->VK->Prop:=fun x lo hi H Q=>∃ a xs,x=.ref a/\SqT K H a xs/\(HT.sIx xs.length 0 lo=0/\HT.sIx xs.length xs.length hi=xs.length)/\Q (.ref a) H
theorem zIV:SlR X (zRi X.K):=by
 intro pins s σ H x v vl vu lo hi sl Q I rx hs pl pu h;obtain⟨a,xs,rfl,hx,hw,q⟩:=h;cases rx;obtain⟨its,r,ht,hz⟩:=I.tuple hx;have hlen:its.toArray.size=xs.length:=by rw[Qh];exact r.length.symm
 exact⟨"tuple", _,PyProof.Rows.slot_tuple_getitem.lookup,ht.typeIs,zFD ht hs pl pu (by rw[hlen];exact hw) ⟨.ref a,H,I,rfl,q⟩⟩
unseal PEd PEf PTd PWd PAd PSd dJ POd PGd gH PId PSx jL PTs PCd PCf
theorem zGq{e:Expr}{pos:Pos}{lo hi:Option Expr}{l h:Ov}{p2:Pos}(he:PEd X G e f)(hl:POd X G lo l)(hu:POd X G hi h):PEd X G (.Subscript e (.Slice lo hi none p2) pos) (zPR f l h):=
 PE.wk (zDX (SlR.or zHw (SlR.or zNF zIV)) he hl hu) fun σ H Q q=>by
 obtain⟨ρ,Hi,R,ou⟩:=q;refine zDV R ou fun v d Hi1 H1 e1 R1 r1 o1=>?_
 refine zPn R1 o1 fun i Hi2 H2 e2 R2 o2=>?_
 refine zPn R2 o2 fun j Hi3 H3 e3 R3 o3=>?_
 have eh:=e1.h.trans (e2.h.trans e3.h);have ei:=e2.i.trans e3.i
 cases d with
 | lst ds=>
  obtain⟨a,xs,rfl,h1,h2⟩:=r1.lstI;refine .inl ⟨a,xs,rfl,cH (ei.trans R3.s) h1,fun p hp=>?_⟩
  exact o3 _ _ (Ext.new R3.s hp) (.ref p) (.lst (SqL.of aS) (((h2.cut i j).mono ei).mono (cA (R3.s.none hp) _)))
 | tup ds=>
  obtain⟨a,xs,rfl,h1,h2⟩:=r1.tupI;by_cases z:HT.sIx xs.length 0 i=0/\HT.sIx xs.length xs.length j=xs.length
  ·refine .inr (.inr ⟨a,xs,rfl,bV (ei.trans R3.s) h1,z,?_⟩)
   have hc:=h2.cut i j
   have ew:zIi xs i j=xs:=by
    unfold zIi;rw[z.1,z.2,List.drop_zero,U6,Xa]
   rw[ew] at hc;exact o3.here R3.s (.ref a) (.tup (bV ei h1) (hc.mono ei))
  ·refine .inr (.inl ⟨a,xs,rfl,bV (ei.trans R3.s) h1,z,fun p hp=>?_⟩)
   exact o3 _ _ (Ext.new R3.s hp) (.ref p) (.tup (SqT.of aS) (((h2.cut i j).mono ei).mono (cA (R3.s.none hp) _)))
 | _=>exact o3.elim
end
end L3
namespace L3
open PySem PySem.Spec PyProof.Rows L2
unseal PEd PEf PTd PWd PAd PSd dJ POd PGd gH PId PSx jL PTs PCd PCf
section
variable{X:Cx}{G:Gx}{f:Ev}{pos:Pos}
section
variable{o:Expr}{k:Nat}{b:Bool}{p1 p2 p3:Pos}
end
section
variable{i fo:Nat}{x y:Str}{ea eb ec ct o0 o1:Expr}{body rest:List Stmt}{a b:Fv}{cmp:Tv}{sr:Sv}{p1 p2 p3 p4 p5 p6 p7 p8 p9 p10 p11 p12 p13 p14 p15 p16:Pos}{k5 k0 k1:Nat}
end
section
variable{i j1 j2 j3:Nat}{x:Str}{tg ec c1 c2 c3 esl ev o:Expr}{b2 b3:List Stmt}{t1 t2 t3:Tv}{sl:Fv}{g:Ev}{p1 p2 p3 p4 p5 p6 p7 p8 p9:Pos}
end
end
end L3
namespace L3
open PySem PySem.Spec PyProof.Rows L2
def Iv(xs:Array Keyed)(i:Nat):Int:=match xs[i]? with
 | some p=>numOf p.2
 | none=>0
theorem zGv{xs ys:Array Keyed}{i j:Nat}(h:xs[i]?=ys[j]?):Iv xs i=Iv ys j:=by unfold Iv;rw[h]
theorem zOe{xs:Array Keyed}{a d:Nat}(ha:a<xs.size)(hd:d<=a)(k:Nat):Iv (bubble xs a d) k=if k=a-d then Iv xs a else if a-d<k/\k<=a then Iv xs (k-1) else Iv xs k:=by
 have e:=getElem?_bubble ha d hd k;by_cases c1:k=a-d
 ·rw[if_pos c1] at e ⊢;exact zGv e
 ·rw[if_neg c1] at e ⊢
  by_cases c2:a-d<k/\k<=a
  ·rw[if_pos c2] at e ⊢;exact zGv e
  ·rw[if_neg c2] at e ⊢;exact zGv e
theorem uF{xs:Array Keyed}{a b:Nat}(hb:b<=xs.size)(k:Nat):Iv (mirror xs a b ((b-a) / 2)) k=if a<=k/\k<b then Iv xs (a+b-1-k) else Iv xs k:=by
 have e:=getElem?_mirror_all (i:=a) hb k;by_cases c:a<=k/\k<b
 ·rw[if_pos c] at e ⊢;exact zGv e
 ·rw[if_neg c] at e ⊢;exact zGv e
structure Up (N:Nat) (xs:Array Keyed) (m:Nat):Prop where
 so:∀ i j,i<j->j<m->K xs i<K xs j∨K xs i=K xs j/\Iv xs i<Iv xs j
 lo:∀ i,i<m->Iv xs i<m
 hi:∀ i,m<=i->i<N->Iv xs i=i
theorem Up.le{N m:Nat}{xs:Array Keyed}(u:Up N xs m){i j:Nat}(h:i<=j)(hj:j<m):K xs i<=K xs j:=by
 by_cases c:i=j
 ·subst c;exact Yj _
 ·rcases u.so i j (by omega) hj with z | z
  ·exact Xm z
  ·exact Int.le_of_eq z.1
theorem Up.on{N m n:Nat}{xs:Array Keyed}(u:Up N xs m)(hn:n<=N)(hm:m<=n)(s:SortedTo xs n):Up N xs n where
 so i j l hj:=by
  by_cases c:j<m
  ·exact u.so i j l c
  ·have e:=u.hi j (by omega) (by omega)
   have z:=s i j (by omega) hj
   have t:Iv xs i<Iv xs j:=by
    by_cases c2:i<m
    ·have:=u.lo i c2;omega
    ·have:=u.hi i (by omega) (by omega);omega
   rcases Int.lt_or_eq_of_le z with z | z
   ·exact .inl z
   ·exact .inr ⟨z,t⟩
 lo i hi:=by
  by_cases c:i<m
  ·have:=u.lo i c;omega
  ·have:=u.hi i (by omega) (by omega);omega
 hi i h1 h2:=u.hi i (by omega) h2
structure Dw (N:Nat) (xs:Array Keyed) (b:Nat):Prop where
 so:∀ i j,i<j->j<b->K xs j<K xs i∨K xs j=K xs i/\Iv xs j<Iv xs i
 lo:∀ i,i<b->Iv xs i<b
 hi:∀ i,b<=i->i<N->Iv xs i=i
structure Dq (N:Nat) (xs:Array Keyed) (b x:Nat):Prop extends Dw N xs b where
 bx:b<x
 eq:∀ i,b<=i->i<x->K xs i=K xs (x-1)
 gt:∀ i,i<b->K xs (x-1)<K xs i
theorem Dq.turn{N:Nat}{xs ys:Array Keyed}{b x:Nat}(d:Dq N xs b x)(hx:x<=N)(hk:∀ i,K ys i=K xs i)(hv:∀ i,Iv ys i=if b<=i/\i<x then Iv xs (b+x-1-i) else Iv xs i):Dw N ys x where
 so i j l hj:=by
  rw[hk,hk,hv,hv];by_cases c:j<b
  ·rw[if_neg (by omega),if_neg (by omega)];exact d.so i j l c
  ·rw[d.eq j (by omega) hj,if_pos (by omega),d.hi _ (by omega) (by omega)]
   by_cases c2:i<b
   ·exact .inl (d.gt i c2)
   ·rw[d.eq i (by omega) (by omega),if_pos (by omega),d.hi _ (by omega) (by omega)]
    exact .inr ⟨rfl,by omega⟩
 lo i hi:=by
  rw[hv];split
  ·rw[d.hi _ (by omega) (by omega)];omega
  ·have:=d.lo i (by omega);have:=d.bx;omega
 hi i h1 h2:=by rw[hv,if_neg (by omega)];exact d.hi i (by have:=d.bx;omega) h2
theorem Dw.next{N:Nat}{xs:Array Keyed}{x:Nat}(d:Dw N xs x)(hx:x<N)(h1:0<x)(h:∀ i,i<x->K xs x<K xs i):Dq N xs x (x+1) where
 toDw:=d
 bx:=by omega
 eq i a b:=by rw[show i=x+1-1 by omega]
 gt i hi:=by rw[show x+1-1=x by omega];exact h i hi
section
variable{prog:Program}{w:World}{A:Around}{E:Value->Shared->Prop}{s:Shared}{a₀:Array Keyed}
theorem zFZ{st:SortSt}{n r:Nat}{Q:Option Nat->SortSt->Prop}(ik:IntKeys a₀)(hr:r<=a₀.size)(h1:1<=n)(hn:n<=r)(sb:SBase a₀ st)(d:Dw a₀.size (arrOf st) n)
  (h:∀ m st',SBase a₀ st'->1<=m->m<=r->Up a₀.size (arrOf st') m->Q (some m) st'):wpS (model prog w) A E s (tail3 n r) Q st:=by
 unfold tail3;have sz:n<=(arrOf st).size:=by rw[sb.size];omega
 refine wpS_bind (wpS_reverse ?_)
 have sb2:SBase a₀ (setArr st (mirror (arrOf st) 0 n ((n-0) / 2))):=sb.setArr (mirror_perm ..)
 have up:Up a₀.size (mirror (arrOf st) 0 n ((n-0) / 2)) n:=by
  refine⟨fun i j l hj=>?_,fun i hi=>?_,fun i p q=>?_⟩
  ·rw[K_mirror sz,K_mirror sz,uF sz,uF sz,if_pos (by omega),if_pos (by omega),if_pos (by omega),if_pos (by omega)]
   exact d.so _ _ (by omega) (by omega)
  ·rw[uF sz,if_pos (by omega)];exact d.lo _ (by omega)
  ·rw[uF sz,if_neg (by omega)];exact d.hi i p q
 exact wpS_bind (wpS_ascLoop ik hr h1 hn sb2 (fun i j l hj=>up.le l hj) fun m m1 m2 sm _=>wpS_pure (h m _ sb2 (by omega) m2 (up.on (by omega) m1 sm)))
theorem zMc{st:SortSt}{b n r:Nat}{Q:DescSt->SortSt->Prop}(ik:IntKeys a₀)(hr:r<=a₀.size)(hn:n<=r)(hb:b+1=n)(sb:SBase a₀ st)(d:Dq a₀.size (arrOf st) b n)
  (h:∀ m q st',SBase a₀ st'->m<=r->q<m->Dq a₀.size (arrOf st') (m-(q+1)) m->Q (none,m,q) st'):wpS (model prog w) A E s (descLoop n r) Q st:=by
 unfold descLoop;refine wpS_forRange (I:=fun x c st'=>∃ q,c=(none,x,q)/\SBase a₀ st'/\q<x/\Dq a₀.size (arrOf st') (x-(q+1)) x) ?step ?fin ⟨0,rfl,sb,by omega,by rw[show n-(0+1)=b by omega];exact d⟩
 case fin=>
  rintro c st' ⟨q,rfl,sb',hq,d'⟩
  rw[show max n r=r by omega] at hq d' ⊢
  exact h r q st' sb' (Qb _) hq d'
 case step=>
  rintro x c st' nx xr ⟨q,rfl,sb',hq,d'⟩
  dsimp only
  have sz:x<=(arrOf st').size:=by rw[sb'.size];omega
  refine wpS_bind (wpS_ltK sb' ik (show x<_ by omega) (show x-1<_ by omega) ?_)
  by_cases c1:K (arrOf st') x<K (arrOf st') (x-1)
  ·have all:∀ i,i<x->K (arrOf st') x<K (arrOf st') i:=fun i hi=>by
    by_cases c2:i<x-(q+1)
    ·exact Int.lt_trans c1 (d'.gt i c2)
    ·rw[d'.eq i (by omega) hi];exact c1
   rw[decide_eq_true c1];dsimp only
   rw[if_pos rfl];by_cases c3:q > 0
   ·rw[if_pos c3]
    have kk:=K_mirror_equal (i:=x-(q+1)) sz (fun k p1 p2=>d'.eq k p1 p2)
    refine wpS_bind (wpS_reverse (wpS_pure ⟨0,rfl,sb'.setArr (mirror_perm ..),by omega,?_⟩))
    have dw:Dw a₀.size (mirror (arrOf st') (x-(q+1)) x ((x-(x-(q+1))) / 2)) x:=d'.turn (by omega) kk (uF sz)
    exact dw.next (by omega) (by omega) fun i hi=>by rw[kk,kk];exact all i hi
   ·rw[if_neg c3]
    have q0:q=0:=by omega
    subst q0
    have dw:Dw a₀.size (arrOf st') x:=d'.turn (by omega) (fun _=>rfl) fun i=>by
     split
     ·rw[show x-(0+1)+x-1-i=i by omega]
     ·rfl
    exact wpS_pure ⟨0,rfl,sb',by omega,dw.next (by omega) (by omega) all⟩
  ·rw[decide_eq_false c1]
   dsimp only
   rw[if_neg (by decide)];refine wpS_bind (wpS_ltK sb' ik (show x-1<_ by omega) (show x<_ by omega) ?_)
   by_cases c4:K (arrOf st') (x-1)<K (arrOf st') x
   ·rw[decide_eq_true c4]
    dsimp only
    rw[if_pos rfl];exact wpS_pure (h x q st' sb' (by omega) hq d')
   ·rw[decide_eq_false c4]
    dsimp only
    rw[if_neg (by decide)];have ee:K (arrOf st') x=K (arrOf st') (x-1):=by omega
    refine wpS_pure ⟨q+1,rfl,sb',by omega,?_⟩
    rw[show x+1-(q+1+1)=x-(q+1) by omega];refine⟨d'.toDw,by omega,fun i p1 p2=>?_,fun i p1=>?_⟩
    ·rw[show x+1-1=x by omega]
     by_cases c5:i=x
     ·rw[c5]
     ·rw[ee];exact d'.eq i p1 (by omega)
    ·rw[show x+1-1=x by omega,ee];exact d'.gt i p1
theorem zGz{st:SortSt}{n r:Nat}{Q:Option Nat->SortSt->Prop}(ik:IntKeys a₀)(hr:r<=a₀.size)(hn:n+1<=r)(sb:SBase a₀ st)(d:Dq a₀.size (arrOf st) n (n+1))
  (h:∀ m st',SBase a₀ st'->1<=m->m<=r->Up a₀.size (arrOf st') m->Q (some m) st'):wpS (model prog w) A E s (descPart n r) Q st:=by
 unfold descPart;refine wpS_bind (wpS_lift (wpAny_rule ⟨rfl,?_⟩))
 refine wpS_bind (zMc ik hr hn rfl sb d fun m q st' sb' mr hq d'=>?_)
 dsimp only
 have sz:m<=(arrOf st').size:=by rw[sb'.size];omega
 by_cases c:q > 0
 ·rw[if_pos c]
  exact wpS_bind (wpS_reverse (zFZ ik hr (by omega) mr (sb'.setArr (mirror_perm ..)) (d'.turn (by omega) (K_mirror_equal sz fun k p1 p2=>d'.eq k p1 p2) (uF sz)) h))
 ·rw[if_neg c]
  have q0:q=0:=by omega
  subst q0;refine zFZ ik hr (by omega) mr sb' (d'.turn (by omega) (fun _=>rfl) fun i=>?_) h
  split
  ·rw[show m-(0+1)+m-1-i=i by omega]
  ·rfl
theorem zOp{st:SortSt}{r:Nat}{Q:Option Nat->SortSt->Prop}(ik:IntKeys a₀)(hr:r<=a₀.size)(h1:1<=r)(sb:SBase a₀ st)(h0:∀ i,i<a₀.size->Iv (arrOf st) i=i)
  (h:∀ m st',SBase a₀ st'->1<=m->m<=r->Up a₀.size (arrOf st') m->Q (some m) st'):wpS (model prog w) A E s (countRun' 0 r) Q st:=by
 have u1:Up a₀.size (arrOf st) 1:=⟨fun i j l hj=>by omega,fun i hi=>by have:=h0 i (by omega);omega,fun i _ z=>h0 i z⟩
 rw[countRun0_eq];refine wpS_bind (wpS_ascLoop ik hr (Qb 1) h1 sb (fun i j l hj=>u1.le l hj) fun n n1 n2 sn no=>?_)
 have un:=u1.on (show n<=_ by omega) n1 sn
 dsimp only
 by_cases c:n=r
 ·rw[if_pos (by simpa using c)]
  exact wpS_pure (h n st sb n1 n2 un)
 ·rw[if_neg (by simpa using c)]
  have fl:K (arrOf st) n<K (arrOf st) (n-1):=no.resolve_left c;by_cases c2:n > 1
  ·rw[if_pos c2]
   refine wpS_bind (wpS_ltK sb ik (show 0<_ by omega) (show n-1<_ by omega) ?_)
   by_cases c3:K (arrOf st) 0<K (arrOf st) (n-1)
   ·rw[decide_eq_true c3]
    dsimp only
    rw[if_pos rfl];exact wpS_pure (h n st sb n1 n2 un)
   ·rw[decide_eq_false c3]
    dsimp only
    rw[if_neg (by decide)];have sz:n<=(arrOf st).size:=by rw[sb.size];omega
    have al:∀ k,0<=k->k<n->K (arrOf st) k=K (arrOf st) (n-1):=fun k _ hk=>by
     have p1:=sn 0 k (by omega) hk
     have p2:=sn k (n-1) (by omega) (by omega)
     omega
    have kk:=K_mirror_equal (i:=0) sz al;have dq:Dq a₀.size (arrOf st) 0 n:=⟨⟨fun i j l hj=>by omega,fun i hi=>by omega,fun i _ z=>h0 i z⟩,by omega,fun i p1 p2=>al i p1 p2,fun i hi=>by omega⟩
    have dw:Dw a₀.size (mirror (arrOf st) 0 n ((n-0) / 2)) n:=dq.turn (by omega) kk (uF sz)
    refine wpS_bind (wpS_reverse (zGz ik hr (by omega) (sb.setArr (mirror_perm ..)) (dw.next (by omega) (by omega) fun i hi=>?_) h))
    rw[kk,kk,al i (by omega) hi];exact fl
  ·rw[if_neg c2]
   have n0:n=1:=by omega
   subst n0;have dw:Dw a₀.size (arrOf st) 1:=⟨fun i j l hj=>by omega,fun i hi=>by have:=h0 i (by omega);omega,fun i _ z=>h0 i z⟩
   refine zGz ik hr (by omega) sb (dw.next (by omega) (by omega) fun i hi=>?_) h
   rw[show i=1-1 by omega];exact fl
theorem zOd{st:SortSt}{n m:Nat}{Q:Bool->SortSt->Prop}(ik:IntKeys a₀)(hn:n<=a₀.size)(h1:1<=m)(hm:m<=n)(sb:SBase a₀ st)(u:Up a₀.size (arrOf st) m)
  (h:∀ st',SBase a₀ st'->Up a₀.size (arrOf st') n->Q true st'):wpS (model prog w) A E s (binarySort' 0 n m) Q st:=by
 rw[binarySort'_eq];simp only[Q5];refine wpS_bind (wpS_mono (wpS_forRange (I:=fun k c st'=>c=(none,())/\SBase a₀ st'/\Up a₀.size (arrOf st') (min k n)) (Q:=fun c st'=>c=(none,())/\SBase a₀ st'/\Up a₀.size (arrOf st') n) ?step ?fin ⟨rfl,sb,by rw[show min (max m 1) n=m by omega];exact u⟩) ?post)
 case post=>
  rintro c st' ⟨rfl,sb',u'⟩
  exact wpS_pure (h st' sb' u')
 case fin=>
  rintro c st' ⟨hc,sb',u'⟩
  rw[show min (max (max m 1) n) n=n by omega] at u';exact⟨hc,sb',u'⟩
 case step=>
  rintro k c st' mk kn ⟨rfl,sb',u'⟩
  rw[show min k n=k by omega] at u';have ka:k<a₀.size:=by omega
  refine wpS_bind (wpS_mono (wpS_forRange
   (I:=fun x c st2=>st2=st'/\∃ l r,c=(none,l,r)/\l<=r/\r<=k/\r-l<=k-x/\(∀ i,i<l->K (arrOf st') i<=K (arrOf st') k)/\∀ i,r<=i->i<k->K (arrOf st') k<K (arrOf st') i)
   (Q:=fun c st2=>st2=st'/\∃ l r,c=(none,l,r)/\l<=k/\(∀ i,i<l->K (arrOf st') i<=K (arrOf st') k)/\∀ i,l<=i->i<k->K (arrOf st') k<K (arrOf st') i) ?js ?jf ?ji) ?jp)
  case ji=>exact⟨rfl,0,k,rfl,by omega,by omega,by omega,fun i z=>by omega,fun i y z=>by omega⟩
  case jf=>
   rintro c st2 ⟨rfl,l,r,rfl,lr,rk,lx,f1,f2⟩
   have:l=r:=by omega
   subst this;exact⟨rfl,l,l,rfl,rk,f1,f2⟩
  case js=>
   rintro x c st2 _ xk ⟨rfl,l,r,rfl,lr,rk,lx,f1,f2⟩
   dsimp only
   by_cases c1:l ≥ r
   ·rw[if_pos c1]
    have:l=r:=by omega
    subst this;exact wpS_pure ⟨rfl,l,l,rfl,rk,f1,f2⟩
   ·rw[if_neg c1]
    refine wpS_bind (wpS_ltK sb' ik ka (show(l+r) / 2<_ by omega) ?_)
    by_cases c2:K (arrOf st2) k<K (arrOf st2) ((l+r) / 2)
    ·rw[decide_eq_true c2]
     dsimp only
     rw[if_pos rfl];exact wpS_pure ⟨rfl,l,(l+r) / 2,rfl,by omega,by omega,by omega,f1,fun i y z=>Int.lt_of_lt_of_le c2 (u'.le y z)⟩
    ·rw[decide_eq_false c2]
     dsimp only
     rw[if_neg (by decide)];exact wpS_pure ⟨rfl,(l+r) / 2+1,r,rfl,by omega,by omega,by omega,fun i y=>Xp (u'.le (show i<=(l+r) / 2 by omega) (by omega)) (Int.not_lt.mp c2),f2⟩
  case jp=>
   rintro c st2 ⟨rfl,l,r,rfl,lk,f1,f2⟩
   show wpS _ _ _ _ (do moveDown' k l;pure (ForInStep.yield (none,()))) _ _
   rw[moveDown'_eq];refine wpS_bind (wpS_modify (wpS_pure ⟨rfl,sb'.setArr (bubble_perm ..),?_⟩))
   rw[show min (k+1) n=k+1 by omega];have sz:k<(arrOf st2).size:=by rw[sb'.size];exact ka
   have ik2:=u'.hi k (Qb _) ka;show Up a₀.size (bubble (arrOf st2) k (k-l)) (k+1)
   have kb:=fun i=>K_bubble sz (show k-l<=k by omega) i
   have vb:=fun i=>zOe sz (show k-l<=k by omega) i
   rw[show k-(k-l)=l by omega] at kb vb;refine⟨fun i j ij jk=>?_,fun i z=>?_,fun i y z=>?_⟩
   ·rw[kb,kb,vb,vb]
    by_cases e1:i=l
    ·rw[if_pos e1,if_neg (show j≠l by omega),if_pos (show l<j/\j<=k by omega),if_pos e1]
     exact .inl (f2 _ (by omega) (by omega))
    ·by_cases e2:j=l
     ·rw[if_neg e1,if_neg (show ¬ (l<i/\i<=k) by omega),if_pos e2,if_neg e1,if_neg (show ¬ (l<i/\i<=k) by omega),if_pos e2]
      have t:=u'.lo i (by omega)
      rcases Int.lt_or_eq_of_le (f1 i (by omega)) with z | z
      ·exact .inl z
      ·exact .inr ⟨z,by omega⟩
     ·rw[if_neg e1,if_neg e2,if_neg e1,if_neg e2]
      by_cases g1:l<i/\i<=k
      ·rw[if_pos g1,if_pos g1,if_pos (show l<j/\j<=k by omega),if_pos (show l<j/\j<=k by omega)]
       exact u'.so _ _ (by omega) (by omega)
      ·rw[if_neg g1,if_neg g1]
       by_cases g2:l<j/\j<=k
       ·rw[if_pos g2,if_pos g2];exact u'.so _ _ (by omega) (by omega)
       ·rw[if_neg g2,if_neg g2];exact u'.so _ _ ij (by omega)
   ·rw[vb]
    split
    ·omega
    ·split
     ·have:=u'.lo (i-1) (by omega);omega
     ·have:=u'.lo i (by omega);omega
   ·rw[vb,if_neg (by omega),if_neg (by omega)];exact u'.hi i (by omega) z
theorem zKN{st:SortSt}{Q:Unit->SortSt->Prop}(ik:IntKeys a₀)(sb:SBase a₀ st)(h2:2<=a₀.size)(h64:a₀.size<64)(h0:∀ i,i<a₀.size->Iv (arrOf st) i=i)
  (h:∀ st',(arrOf st').Perm a₀->failedOf st'=none->Up a₀.size (arrOf st') a₀.size->Q () st'):wpS (model prog w) A E s sortRuns' Q st:=by
 rw[sortRuns'_eq];refine wpS_bind (wpS_get ?_)
 dsimp only
 have mr:minRun' a₀.size a₀.size 0=a₀.size:=by
  obtain⟨f,hf⟩:∃ f,a₀.size=f+1:=⟨a₀.size-1,by omega⟩
  have z:minRun' (f+1) a₀.size 0=a₀.size:=by rw[minRun'_succ,if_pos h64,Nat.add_zero]
  rw[<-hf] at z;exact z
 have fin:∀ st':SortSt,SBase a₀ st'->Up a₀.size (arrOf st') a₀.size->(fun st=>(arrOf st).Perm a₀/\failedOf st=none/\pendingOf st=#[(0,a₀.size,0)]/\Up a₀.size (arrOf st) a₀.size) (setPending st' ((pendingOf st').push (0,a₀.size,0))):=fun st' b u=>
  ⟨b.perm,b.failed,by show(pendingOf st').push _=_;rw[b.pend];rfl,u⟩
 simp only[sb.size,mr]
 refine wpS_bind (wpS_mono (wpS_forRange
  (I:=fun x c st'=>(x=0/\c=(none,0)/\st'=st)∨(1<=x/\c=(none,a₀.size)/\(arrOf st').Perm a₀/\failedOf st'=none/\pendingOf st'=#[(0,a₀.size,0)]/\Up a₀.size (arrOf st') a₀.size))
  (Q:=fun c st'=>c=(none,a₀.size)/\(arrOf st').Perm a₀/\failedOf st'=none/\pendingOf st'=#[(0,a₀.size,0)]/\Up a₀.size (arrOf st') a₀.size) ?step ?fin (.inl ⟨rfl,rfl,rfl⟩)) ?post)
 case fin=>
  rintro c st' (⟨z,_,_⟩ | ⟨_,r⟩)
  ·omega
  ·exact r
 case step=>
  rintro x c st' _ hx (⟨rfl,rfl,rfl⟩ | ⟨_,rfl,r⟩)
  ·dsimp only
   rw[if_neg (by omega)];simp only[U6,Yg,Q5];refine wpS_bind (zOp ik (Qb _) (by omega) sb h0 fun m st2 sb2 m1 m2 u2=>?_)
   dsimp only
   by_cases c:m<a₀.size
   ·rw[if_pos c]
    refine wpS_bind (wpS_lift (wpAny_rule ⟨rfl,?_⟩))
    refine wpS_bind (zOd ik (Qb _) m1 m2 sb2 u2 fun st3 sb3 u3=>?_)
    rw[Bool.not_true,if_neg X7];refine wpS_bind (wpS_get ?_)
    rw[show(pendingOf st3).back?=none by rw[sb3.pend];rfl];dsimp only
    exact wpS_bind (wpS_modify (wpS_pure (.inr ⟨by omega,rfl,fin st3 sb3 u3⟩)))
   ·rw[if_neg c]
    have mm:m=a₀.size:=by omega
    subst mm;refine wpS_bind (wpS_get ?_)
    rw[show(pendingOf st2).back?=none by rw[sb2.pend];rfl];dsimp only
    exact wpS_bind (wpS_modify (wpS_pure (.inr ⟨by omega,rfl,fin st2 sb2 u2⟩)))
  ·dsimp only
   rw[if_pos (Qb _)];exact wpS_pure ⟨rfl,r⟩
 case post=>
  rintro c st' ⟨rfl,p1,p2,p3,p4⟩
  dsimp only
  refine wpS_bind (wpS_mono (wpS_forRange (I:=fun _ c st2=>st2=st'/\c=(none,())) (Q:=fun c st2=>st2=st'/\c=(none,())) ?_ (fun _ _ z=>z) ⟨rfl,rfl⟩) ?_)
  ·rintro x c st2 _ _ ⟨rfl,rfl⟩
   refine wpS_bind (wpS_get ?_)
   rw[if_pos (by rw[p3];exact Qb 1)];exact wpS_pure ⟨rfl,rfl⟩
  ·rintro c st2 ⟨rfl,rfl⟩
   exact wpS_pure (h _ p1 p2 p4)
end
end L3
namespace L3
open PySem PySem.Spec PyProof.Rows L2
unseal PEd PEf PTd PWd PAd PSd dJ POd PGd gH PId PSx jL PTs PCd PCf
section
variable{prog:Program}{w:World}{A:Around}{E:Value->Shared->Prop}{s:Shared}
theorem zAa{r:Addr}{a b c:Int}{t u v:Tok}{n:Nat}{R:List Value->Shared->Prop}(hh:A.handled=none)(hr:IsRange s.heap r a b c t u v)(hsmall:Builtin.Range.small a b c=true)(hn:Builtin.Range.rangeSize a b c=n)(hlen:n<=2^24)
  (h:∀ h' tk acc,(∀ b o,s.heap.get? b=some o->h'.get? b=some o)->s.heap.objs.size<=h'.objs.size->ItemsOf (fun i v=>∃ t,v=.int (a+i*c) t) acc n->R acc.toList { s with heap:=h',toks:=tk }):
  wpAny (model prog w) A (collect (.ref r)) R E s:=by
 unfold collect;refine wpAny_bind (wpAny_runValue (codeAny_builtin entry_proto_collect' ?_))
 rw[Around.under_plainId PySem.F.plain_proto_collect _];show wpAny _ A.in1 (newList [] >>= fun l=>again (.builtin "list.__iadd__" ⟨[l,.ref r],[]⟩)) _ _ s
 refine wpAny_bind (wpAny_newObj_type ?_)
 refine wpAny_pure ⟨plainId_quiet Wv _,codeAny_builtin entry_list_iadd' ?_⟩
 rw[Around.under_plainId Wv _];have hS₁:(s.heap.push { cls:=.type "list", data:=.seq ([]:List Value).toArray }).get? s.heap.objs.size=some { cls:=.type "list", data:=.seq #[] }:=Heap.get?_push_size _ rfl;show wpAny _ A.in1 (Builtin.List.listExtendWith (.ref s.heap.objs.size) (.ref r) (.ref s.heap.objs.size)) _ _ _
 have key:=wpAny_extend_range (prog:=prog) (w:=w) (A:=A) (s:={ s with heap:=s.heap.push { cls:=.type "list", data:=.seq ([]:List Value).toArray } })
  (R:=fun(q:Result) (s':Shared)=>∃(h':Heap)(tk:Nat)(acc':Array Value)(c':Nat),q=.ok (.ret (.ref s.heap.objs.size))/\s'={ s with heap:=h',toks:=tk }/\
   (∀ b o,s.heap.get? b=some o->h'.get? b=some o)/\h'.get? s.heap.objs.size=some { cls:=.type "list", dict:=none,data:=.seq acc' c',slots:=#[] }/\ItemsOf (fun i v=>∃ t,v=.int (a+i*c) t) acc' n)
  hh (Heap.get?_push_of_some _ hr) hsmall hn hlen s.heap.objs.size (.ref s.heap.objs.size) 0 hS₁
  (fun h' tk acc' c' hk hS' hacc=>⟨h',tk,acc',c',rfl,rfl,fun b o e=>hk b o (Qo (Heap.lt_size e)) (Heap.get?_push_of_some _ e),hS',hacc⟩)
 refine wpAny_mono key (fun fin s' x=>?_) fun e s' x=>?_
 ·cases fin with
  | done f=>
   obtain⟨h',tk,acc',c',e,rfl,hk,hS',hacc⟩:=x;cases e;show wpAny _ A (load s.heap.objs.size >>= _) _ _ _
   refine wpAny_bind (wpAny_load hS' ?_)
   exact wpAny_pure (h h' tk acc' hk (Xv (Heap.lt_size hS')) hacc)
  | again c₁=>
   refine⟨x.1,codeAny_mono x.2 fun q s₂ y=>?_⟩
   obtain⟨h',tk,acc',c',rfl,rfl,hk,hS',hacc⟩:=y;show wpAny _ A (load s.heap.objs.size >>= _) _ _ _
   refine wpAny_bind (wpAny_load hS' ?_)
   exact wpAny_pure (h h' tk acc' hk (Xv (Heap.lt_size hS')) hacc)
 ·obtain⟨_,_,_,_,e',_⟩:=x
  cases e'
end
section
variable{X:Cx}{pins:List (Addr×Obj)}{σ:St}{H:Hp}{s:Shared}{A:Around}{E:Value->Shared->Prop}{a kS:Addr}{vs:List Value}{kz:List Int}{keys:Array Value}{e e1:Nat}{P:PySem.Fin->Shared->Prop}
theorem oG{h':Heap}{tk:Nat}(f:sM X pins H a)(I:Inv X pins σ H s)(sb:Heap.SameBut a s.heap h'):Inv X pins σ H { s with heap:=h',toks:=tk }:=by
 obtain⟨f0,f1,f2,f3,f4,f5⟩:=f;exact I.turned (fun b o hb e=>(sb.2 b hb).trans e) f0 f1 f3 f4 f5
def KsS(kz:List Int)(vs out:List Value):Prop:=∃ ps:List (Int×Value),ps.Perm (kz.zip vs)/\out=ps.map Prod.snd/\ps.Pairwise fun p q=>p.1<q.1∨p.1=q.1/\numOf p.2<numOf q.2
theorem zLG{xs:Array Keyed}{n:Nat}(hk:IntsAre keys.toList kz)(hp:xs.Perm (keys.zip vs.toArray))(up:Up n xs xs.size):KsS kz vs (xs.map (·.2)).toList:=by
 have hl:xs.toList.Perm (keys.toList.zip vs):=by
  have z:=Array.perm_iff_toList_perm.mp hp;rwa [Array.toList_zip,U7] at z
 refine⟨xs.toList.map fun p=>(numOf p.1,p.2),?_,?_,?_⟩
 ·have z:=hl.map (fun p=>(numOf p.1,p.2))
  rw[<-hk.nums,List.zip_map_left];exact z
 ·rw[Array.toList_map,Q4];rfl
 ·rw[U8,List.pairwise_iff_getElem]
  intro i j hi hj hij;rw[Xi] at hi hj;have z:=up.so i j hij hj;rw[K_eq hi,K_eq hj] at z;have iv:∀ k (h:k<xs.size),Iv xs k=numOf xs[k].2:=fun k h=>by unfold Iv;rw[getElem?_pos xs k h]
  rw[iv i hi,iv j hj] at z;exact z
theorem zJC(hsz:keys.size=vs.length)(hv:∀ (j:Nat) (v:Value),vs[j]?=some v->∃ t,v=.int j t)(i:Nat)(hi:i<(keys.zip vs.toArray).size):Iv (keys.zip vs.toArray) i=i:=by
 have h2:i<vs.length:=by rw[U9,hsz,Qh,Yg] at hi;exact hi
 obtain⟨t,ht⟩:=hv i _ (Qk h2);unfold Iv;rw[getElem?_pos _ i hi];show numOf ((keys.zip vs.toArray)[i]).2=_
 rw[Array.getElem_zip];show numOf (vs.toArray[i])=_
 rw[List.getElem_toArray,ht];rfl
theorem zGo{st:SortSt}(I:Inv X pins σ H s)(fa:sM X pins H a)(fk:sM X pins H kS)(hka:kS≠a)(nk:s.heap.get? kS=some (seqObj "list" keys e))(na:s.heap.get? a=some (seqObj "list" #[] e1))
  (hk:IntsAre keys.toList kz) (hlen:kz.length=vs.length) (h64:vs.length<64) (hp:(arrOf st).Perm (keys.zip vs.toArray)) {n:Nat} (hs:Up n (arrOf st) (arrOf st).size) (hfl:failedOf st=none)
  (h:∀ s' out c,Inv X pins σ H s'->s'.heap.get? a=some (seqObj "list" out c)->KsS kz vs out.toList->P (.done (.ret .none)) s'):
  wpAny (model X.prog X.w) A (ksk_tail a false e1 (.ref kS) st) P E s:=by
 have hsz:keys.size=vs.length:=by
  have h1:=hk.length;rw[Xi] at h1;omega
 have hsz2:(arrOf st).size=vs.length:=by rw[hp.size_eq,U9,hsz,Qh,Yg]
 have hout:((arrOf st).map (·.2)).size=vs.length:=by rw[Array.size_map];exact hsz2
 have s1:=Heap.SameBut.update s.heap kS (Obj.mapSeq fun _=>(#[]:Array Value))
 have na1:(s.heap.update kS (Obj.mapSeq fun _=>(#[]:Array Value))).get? a=some (seqObj "list" #[] e1):=(s1.2 a hka.symm).trans na
 have s2:=Heap.SameBut.update (s.heap.update kS (Obj.mapSeq fun _=>(#[]:Array Value))) a (Obj.mapSeq fun _=>(arrOf st).map (·.2))
 obtain⟨c2,hc2⟩:∃ c2,((s.heap.update kS (Obj.mapSeq fun _=>(#[]:Array Value))).update a (Obj.mapSeq fun _=>(arrOf st).map (·.2))).get? a=some (seqObj "list" ((arrOf st).map (·.2)) c2):=
  ⟨_,get?_update_seq na1 fun _=>(arrOf st).map (·.2)⟩
 unfold ksk_tail;try dsimp only
 refine wpAny_bind (listUpdate_at nk rfl ?_ (by rw[hsz,sizeLine_eq];omega) (Q7 _))
 refine wpAny_bind (wpAny_letGo ?_)
 refine wpAny_bind (seqEpoch_at na1 rfl ?_)
 refine wpAny_bind (listUpdate_at na1 rfl ?_ (Q7 _) (by simp only[Xf,if_false];exact Qp (X0 hout) (by rw[sizeLine_eq];omega)))
 rw[hfl];simp only[bne_self_eq_false,Xf,if_false];have I1:Inv X pins σ H { s with heap:=s.heap.update kS (Obj.mapSeq fun _=>(#[]:Array Value)) }:=oG fk (tk:=s.toks) I s1
 have I2:Inv X pins σ H { s with heap:=(s.heap.update kS (Obj.mapSeq fun _=>(#[]:Array Value))).update a (Obj.mapSeq fun _=>(arrOf st).map (·.2)) }:=(by have z:=oG (tk:=s.toks) fa I1 s2;exact z)
 exact wpAny_pure (h _ _ c2 I2 hc2 (zLG hk hp hs))
theorem zOv(I:Inv X pins σ H s)(fa:sM X pins H a)(fk:sM X pins H kS)(hka:kS≠a)(nk:s.heap.get? kS=some (seqObj "list" keys e))(na:s.heap.get? a=some (seqObj "list" #[] e1))
  (hk:IntsAre keys.toList kz) (hlen:kz.length=vs.length) (h64:vs.length<64)
  (hv:∀(j:Nat)(v:Value),vs[j]?=some v->∃ t,v=.int j t)
  (h:∀ s' out c,Inv X pins σ H s'->s'.heap.get? a=some (seqObj "list" out c)->KsS kz vs out.toList->P (.done (.ret .none)) s'):
  wpAny (model X.prog X.w) A (ksk_end a false vs.toArray e1 (.ref kS) keys) P E s:=by
 have hsz:keys.size=vs.length:=by
  have h1:=hk.length;rw[Xi] at h1;omega
 have hzs:(keys.zip vs.toArray).size=vs.length:=by rw[U9,hsz,Qh,Yg]
 unfold ksk_end;try dsimp only
 simp only[Xf,if_false];by_cases h2:vs.toArray.size<2
 ·rw[if_pos h2,if_pos h2]
  refine wpAny_bind (wpAny_pure ?_)
  rw[StateT.run_pure];refine wpAny_bind (wpAny_pure ?_)
  try dsimp only
  rw[Qh] at h2;refine zGo (st:=SortSt.mk' general' (keys.zip vs.toArray) #[] 7 none) (n:=0) I fa fk hka nk na hk hlen h64 (Array.Perm.refl _) ⟨fun i j l hj=>?_,fun i hi=>?_,fun i _ z=>by omega⟩ rfl h
  ·have hj2:j<(keys.zip vs.toArray).size:=hj
   rw[hzs] at hj2;omega
  ·have z:=zJC hsz hv i hi
   show Iv (keys.zip vs.toArray) i<_
   rw[z];exact_mod_cast hi
 ·rw[if_neg h2,if_neg h2]
  rw[Qh] at h2;rw[ksk_kind hk (by rw[hsz];omega)];refine wpAny_bind (wpAny_pure ?_)
  refine wpAny_bind (wpAny_mono (zKN (a₀:=keys.zip vs.toArray) (st:=SortSt.mk' oneType' (keys.zip vs.toArray) #[] 7 none)
   (Q:=fun _ st'=>(arrOf st').Perm (keys.zip vs.toArray)/\failedOf st'=none/\Up (keys.zip vs.toArray).size (arrOf st') (keys.zip vs.toArray).size)
   (ksk_intKeys hk) ⟨Array.Perm.refl _,rfl,rfl,rfl⟩ (by rw[hzs];omega) (by rw[hzs];exact h64) (zJC hsz hv) fun st' a1 a2 a3=>⟨a1,a2,a3⟩) ?_ fun _ _ e=>e)
  rintro⟨⟨⟩,st'⟩ s' ⟨rfl,hp,hf,hs⟩
  try dsimp only
  exact zGo (n:=(keys.zip vs.toArray).size) I fa fk hka nk na hk hlen h64 hp (by rw[hp.size_eq];exact hs) hf h
theorem zLT{f:Value}{e0:Nat}(I:Inv X pins σ H s)(fa:sM X pins H a)(fk:sM X pins H kS)(hka:kS≠a)(nk:s.heap.get? kS=some (seqObj "list" #[] e0))(na:s.heap.get? a=some (seqObj "list" #[] e1))
  (hlen:kz.length=vs.length) (h64:vs.length<64)
  (hv:∀(j:Nat)(v:Value),vs[j]?=some v->∃ t,v=.int j t)
  (turn:∀(i:Nat)(v:Value)(k:Int),vs[i]?=some v->kz[i]?=some k->∀(s':Shared)(pl:List (Addr×Obj)),Inv X (pins++pl) σ H s'->
   wpAny (model X.prog X.w) A (call f [v]) (fun u s''=>(∃ t,u=.int k t)/\Inv X (pins++pl) σ H s'') (fun _ _=>False) s')
  (h:∀ s' out c,Inv X pins σ H s'->s'.heap.get? a=some (seqObj "list" out c)->KsS kz vs out.toList->P (.done (.ret .none)) s'):
  wpAny (model X.prog X.w) A (ksk_rest a f false vs.toArray e1 (.ref kS)) P E s:=by
 unfold ksk_rest;refine wpAny_bind (wpAny_rule ?_)
 first
  | rw[List.forIn_toArray]
  | (rw[<-Array.forIn_toList];simp only[U7])
  | rw[<-Array.forIn_toList]
 refine wpAny_bind (ksk_fold (fun i s'=>∃ kA e,Inv X pins σ H s'/\s'.heap.get? kS=some (seqObj "list" kA e)/\s'.heap.get? a=some (seqObj "list" #[] e1)/\IntsAre kA.toList (kz.take i)) vs 0 s
  ⟨#[],e0,I,nk,na,by simpa using IntsAre.nil⟩ ?step ?done)
 case step=>
  rintro j x s' hx ⟨kA,e,I',nk',na',hk⟩
  simp only[Q5] at hk ⊢
  have hj:j<vs.length:=(Q2.mp hx).1;obtain⟨k,hkj⟩:∃ k,kz[j]?=some k:=⟨_,Qk (by omega)⟩
  have hz:kA.size<=vs.length:=by
   have h1:=hk.length;rw[Xi,Xd] at h1;omega
  have pin:∀ b∈[kS,a],∃ o,s'.heap.get? b=some o/\∀ v,o.data≠.cell v:=fun b hb=>by
   rcases Qc.mp hb with rfl | hb
   ·exact⟨_,nk',fun v z=>by have z':Data.seq _ _=Data.cell v:=z;cases z'⟩
   ·rw[Q0.mp hb];exact⟨_,na',fun v z=>by have z':Data.seq _ _=Data.cell v:=z;cases z'⟩
  have Ip:Inv X (pins++tU [kS,a] s'.heap) σ H s':=I'.pinned (fun b hb=>by
   rcases Qc.mp hb with rfl | hb
   ·exact fk
   ·rw[Q0.mp hb];exact fa) pin
  refine wpAny_bind (wpAny_attempt (wpAny_mono (turn j x k hx hkj s' _ Ip) (fun v s'' he=>?_) fun _ _ hF=>hF.elim))
  obtain⟨⟨t2,rfl⟩,I2p⟩:=he;try dsimp only
  have nk2:s''.heap.get? kS=some (seqObj "list" kA e):=(I2p.pin _ (Qx _ (Qx _ (eU (b:=kS) (by simp) nk')))).1
  have na2:s''.heap.get? a=some (seqObj "list" #[] e1):=(I2p.pin _ (Qx _ (Qx _ (eU (b:=a) (by simp) na')))).1
  have I2:Inv X pins σ H s'':=I2p.unpinned;have s1:=Heap.SameBut.update s''.heap kS (Obj.mapSeq (·.push (.int k t2)));obtain⟨c2,hc2⟩:∃ c2,(s''.heap.update kS (Obj.mapSeq (·.push (.int k t2)))).get? kS=some (seqObj "list" (kA.push (.int k t2)) c2):=⟨_,get?_update_seq nk2 (·.push (.int k t2))⟩;have ek:kz.take (j+1)=kz.take j++[k]:=by rw[List.take_add_one,hkj];simp
  have ea:(kA.push (Value.int k t2)).toList=kA.toList++[Value.int k t2]:=by simp
  refine wpAny_bind (listUpdate_at nk2 rfl ?_ (by rw[sizeLine_eq];omega) (Qp (X0 (Array.size_push ..)) (by rw[sizeLine_eq];omega)))
  exact wpAny_pure ⟨rfl,kA.push (.int k t2),c2,oG fk (tk:=s''.toks) I2 s1,hc2,(s1.2 a hka.symm).trans na2,by rw[ea,ek];exact ksk_snoc hk⟩
 case done=>
  rintro s' ⟨kA,e,I',nk',na',hk⟩
  have hk':IntsAre kA.toList kz:=by
   have e3:kz.take (0+vs.length)=kz:=Yu (by omega)
   rw[e3] at hk;exact hk
  try dsimp only
  refine wpAny_bind (listItems_at nk' rfl ?_)
  exact zOv I' fa fk hka nk' na' hk' hlen h64 hv h
def nY(v:Value):Nat:=(numOf v).toNat
theorem zKT{out:List Value}(hlen:kz.length=vs.length)(hv:∀ (j:Nat) (v:Value),vs[j]?=some v->∃ t,v=.int j t)(h:KsS kz vs out):iH kz (out.map nY)/\dH ((out.map nY).map fun i:Nat=>V.int (i:Int)) out:=by
 obtain⟨ps,hp,ho,hs⟩:=h
 have at':∀ p,p∈kz.zip vs->∃(j:Nat)(t:Tok),p.2=.int j t/\kz[j]?=some p.1:=fun p hm=>by
  obtain⟨j,hj,e⟩:=List.mem_iff_getElem.mp hm;rw[Wa] at hj;rw[List.getElem_zip] at e;obtain⟨t,ht⟩:=hv j (vs[j]'(by omega)) (Qk _)
  refine⟨j,t,by rw[<-e];exact ht,by rw[<-e];exact Qk _⟩
 have n1:∀(j:Nat)(t:Tok),nY (.int j t)=j:=fun j t=>by unfold nY;show(Int.toNat (j:Int))=j;rfl
 have hvs:vs.map nY=List.range kz.length:=by
  refine Yv fun j=>?_
  rw[Qr];by_cases hj:j<vs.length
  ·obtain⟨t,ht⟩:=hv j _ (Qk hj)
   rw[Qk hj,ht,Xo (by omega)];show some (nY _)=_
   rw[n1]
  ·rw[Qz (by omega),Qz (by rw[Qu];omega)];rfl
 subst ho;refine⟨⟨?_,?_,?_⟩,?_⟩
 ·have h1:((ps.map Prod.snd).map nY).Perm (((kz.zip vs).map Prod.snd).map nY):=(hp.map _).map _
  rw[List.map_snd_zip (by omega),hvs] at h1;exact h1
 ·rw[Q4,U8]
  refine Wb (fun {p q} hm hq hr=>?_) hs
  have hr':p.1<=q.1:=by rcases hr with z | z<;>omega
  obtain⟨i,t,e1,e2⟩:=at' p (hp.mem_iff.mp hm);obtain⟨j,u,e3,e4⟩:=at' q (hp.mem_iff.mp hq);show kz.getD (nY p.2) 0<=kz.getD (nY q.2) 0
  rw[e1,e3,n1,n1,Qq,Qq,e2,e4];exact hr'
 ·rw[Q4,U8]
  refine Wb (fun {p q} hm hq hr=>?_) hs
  obtain⟨i,t,e1,e2⟩:=at' p (hp.mem_iff.mp hm);obtain⟨j,u,e3,e4⟩:=at' q (hp.mem_iff.mp hq);show kz.getD (nY p.2) 0=kz.getD (nY q.2) 0->nY p.2<nY q.2
  rw[e1,e3] at hr ⊢
  rw[n1,n1,Qq,Qq,e2,e4];intro z;have z':p.1=q.1:=z;rcases hr with y | y
  ·omega
  ·have:((i:Nat):Int)<(j:Nat):=y.2
   omega
 ·have go:∀ l:List Value,(∀ v∈l,∃(j:Nat)(t:Tok),v=.int j t)->dH ((l.map nY).map fun i:Nat=>V.int (i:Int)) l:=by
   intro l
   induction l with
   | nil=>intro _;exact .nil
   | cons v r ih=>
    intro hl;obtain⟨j,t,rfl⟩:=hl v (.head _);exact .cons ⟨t,by rw[n1]⟩ (ih fun u hu=>hl u (.tail _ hu))
  refine go _ fun v hv'=>?_
  obtain⟨p,hm,rfl⟩:=Qv.mp hv';obtain⟨j,t,e1,_⟩:=at' p (hp.mem_iff.mp hm);exact⟨j,t,e1⟩
theorem zFq{r q:Addr}{n:Nat}{t u v:Tok}{Q:Value->Shared->Prop}(hc:X.calm=true)(I:Inv X pins σ H s)(hr:IsRange s.heap r 0 n 1 t u v)(h64:n<64)(hkz:kz.length=n)
  (turn:∀(j:Nat)(tk:Tok)(k:Int),kz[j]?=some k->∀(s':Shared)(pl:List (Addr×Obj)),Inv X (pins++pl) σ H s'->
   wpAny (model X.prog X.w) X.A.in1.in1 (call (.ref q) [.int j tk]) (fun u s''=>(∃ t,u=.int k t)/\Inv X (pins++pl) σ H s'') (fun _ _=>False) s')
  (h:∀ D s' out c π,Inv X pins σ H s'->sM X pins H D->s.heap.objs.size<=D->s'.heap.get? D=some (seqObj "list" out c)->iH kz π->dH (π.map fun i:Nat=>V.int (i:Int)) out.toList->Q (.ref D) s'):
  wpAny (model X.prog X.w) X.A (call (.builtin "sorted") [.ref r] [(Str.ofString "key", .ref q)]) Q E s:=by
 refine call_function_entry_kw kind_sorted plain_sorted entry_sorted (ksk_s1 _ _) ?_
 unfold Builtin.«sorted»
 refine wpAny_bind (m:=checkCount "sorted" 1 1 _) (wpAny_pure ?_)
 refine wpAny_bind (zAa (n:=n) (A:=X.A.in1) (I.ok.hd hc) hr (small_one (by omega) (by omega) (by omega) (by omega)) (by rw[rangeSize_one];split<;>omega) (by omega) fun h1 tk acc hk hsz hacc=>?_)
 have hl:acc.toList.length=n:=by rw[Xi];exact hacc.1
 refine wpAny_bind (wpAny_newList ?_ (by rw[hl,sizeLine_eq];omega))
 have I1:Inv X pins σ H { s with heap:=h1,toks:=tk }:=I.kept hk;have fa:sM X pins H h1.objs.size:=I1.fpOk (Qb _) (I1.hok.fresh (Qb _));have I2:Inv X pins σ H { s with heap:=h1.push (seqObj "list" acc.toList.toArray 0),toks:=tk }:=I1.kept (t':=tk) fun b o e=>Heap.get?_push_of_some _ e
 have hoL:(h1.push (seqObj "list" acc.toList.toArray 0)).get? h1.objs.size=some (seqObj "list" acc.toList.toArray 0):=Heap.get?_push_size _ rfl;show wpAny _ _ _ _ _ { s with heap:=h1.push (seqObj "list" acc.toList.toArray 0),toks:=tk }
 refine wpAny_bind (wpAny_holding (wpAny_call_entry_kw slot_list_sort ⟨_,hoL,rfl⟩ entry_list_sort ?body (ksk_l1 _ _)))
 case body=>
  show wpAny (model X.prog X.w) X.A.in1.in1 (Builtin.«list.sort» ⟨[.ref h1.objs.size],[(Str.ofString "key", .ref q)]⟩) _ _ _
  rw[ksk_t1];have s3:=Heap.SameBut.update (h1.push (seqObj "list" acc.toList.toArray 0)) h1.objs.size (Obj.mapSeq fun _=>(#[]:Array Value))
  obtain⟨e1,ho1⟩:∃ e1,((h1.push (seqObj "list" acc.toList.toArray 0)).update h1.objs.size (Obj.mapSeq fun _=>(#[]:Array Value))).get? h1.objs.size=some (seqObj "list" #[] e1):=⟨_,get?_update_seq hoL fun _=>#[]⟩
  have I3:Inv X pins σ H { s with heap:=(h1.push (seqObj "list" acc.toList.toArray 0)).update h1.objs.size (Obj.mapSeq fun _=>(#[]:Array Value)),toks:=tk }:=(by have z:=oG (tk:=tk) fa I2 s3;exact z)
  generalize hg3:(h1.push (seqObj "list" acc.toList.toArray 0)).update h1.objs.size (Obj.mapSeq fun _=>(#[]:Array Value))=h3 at s3 ho1 I3
  unfold ksk_tree;refine wpAny_bind (listItems_at hoL rfl ?_)
  refine wpAny_bind (listUpdate_at hoL rfl ?_ (by rw[Qh,sizeLine_eq];omega) (Q7 _))
  show wpAny _ _ _ _ _ { s with heap:=(h1.push (seqObj "list" acc.toList.toArray 0)).update h1.objs.size (Obj.mapSeq fun _=>(#[]:Array Value)),toks:=tk }
  rw[hg3];refine wpAny_bind (seqEpoch_at ho1 rfl ?_)
  refine wpAny_bind (wpAny_newTuple ?_ (by show acc.toList.toArray.toList.length<=_;rw[sizeLine_eq,U7];omega))
  refine wpAny_bind (wpAny_newList ?_ (Q7 _))
  refine wpAny_holding ?_
  have I4:Inv X pins σ H { s with heap:=h3.push (seqObj "tuple" acc.toList.toArray 0),toks:=tk }:=I3.kept (t':=tk) fun b o e=>Heap.get?_push_of_some _ e
  have fk:sM X pins H (h3.push (seqObj "tuple" acc.toList.toArray 0)).objs.size:=I4.fpOk (Qb _) (I4.hok.fresh (Qb _));have I5:Inv X pins σ H { s with heap:=(h3.push (seqObj "tuple" acc.toList.toArray 0)).push (seqObj "list" #[] 0),toks:=tk }:=I4.kept (t':=tk) fun b o e=>Heap.get?_push_of_some _ e
  have ho4:(h3.push (seqObj "tuple" acc.toList.toArray 0)).get? h1.objs.size=some (seqObj "list" #[] e1):=Heap.get?_push_of_some _ ho1
  have hvv:∀(j:Nat)(v:Value),acc.toList[j]?=some v->∃ t,v=.int j t:=fun j v' hj=>by
   obtain⟨tk',rfl⟩:=hacc.2 j v' (by rw[<-Us];exact hj)
   exact⟨tk',by congr 1;omega⟩
  refine zLT (vs:=acc.toList) (kz:=kz) (e0:=0) I5 fa fk (X8 (Heap.lt_size ho4)) (Heap.get?_push_size _ rfl) (Heap.get?_push_of_some _ ho4) (by rw[hkz,hl]) (by rw[hl];exact h64) hvv (fun i v' k hi hk' s' pl Ip=>?_) fun s' out c I' ho' ko=>?_
  ·obtain⟨tk',rfl⟩:=hacc.2 i v' (by rw[<-Us];exact hi)
   have e3:(0:Int)+(i:Int)*1=(i:Int):=by omega
   rw[e3];exact turn i tk' k hk' s' pl Ip
  ·obtain⟨hπ,hV⟩:=zKT (by rw[hkz,hl]) hvv ko
   exact⟨_,rfl,wpAny_pure ⟨_,rfl,h _ s' out c _ I' fa hsz ho' hπ hV⟩⟩
end
end L3
namespace L3
open PySem PySem.Spec PyProof.Rows L2 PySem.W
unseal PEd PEf PTd PWd PAd PSd dJ POd PGd gH PId PSx jL PTs PCd PCf
def zRm:CXT:=fun _ _ _ _ _ _=>False
def cxL(P:Program)(w:World)(K:PySem.W.Frag)(mg:Str->Option Value)(base:Heap)(N:List Str)(qual:Str)(scope:Scope)(f:Addr)(cd:Value)(cl:List (Str×Addr))(A:Around)(outer:List Env)(s:Shared)(H:Hp):Cx where
 prog:=P
 w:=w
 K:=K
 mg:=mg
 base:=base
 A:=A.deeper (envX qual scope s.heap.objs.size f cd cl)
 N:=N
 s₀:=s
 H₀:=H
 env:=envX qual scope s.heap.objs.size f cd cl
 outer:=outer
 stack:=envX qual scope s.heap.objs.size f cd cl::outer
 ex:=[]
 fn:=fun _=>false
 calm:=true
 pn:=[]
 xe:=fun _ _=>False
theorem zLC{P:Program}{w:World}{K:Fg_}{mg:Str->Option Value}{base:Heap}{N:List Str}{qual name:Str}{scope:Scope}{f c':Addr}{cl:List (Str×Addr)}{A:Around}{outer:List Env}{s:Shared}{H:Hp}{params:Arguments}{body:Expr}{pm ctv u:Value}{p:Str}{σ:St}{Q:VK}{E:XK}{t:TE}
  (hd:A.handled=none) (hdp:A.depth<recursionLimit) (e0:Env0 P w K mg base A outer s H) (ho:s.heap.get? f=some (kla_obj name qual params body scope cl pm c' ctv)) (hcd:s.heap.CodeRec (.ref c') qual)
  (hbind:bindArgs (kla_fn name qual params body scope cl pm (.ref c') ctv) ⟨[u],[]⟩=pure [(p,u)]) (hloc:scope.names.lookup p=some .local)
  (hco:scope.isCoroutine=false) (hgen:scope.isGenerator=false) (hk:scope.kind=.function) (hcell:∀ x∈scope.names,x.2≠.cell)
  (hfree:∀ x,scope.names.lookup x=some .free->∃ c,cl.lookup x=some c) (hinj:∀ x y c,cl.lookup x=some c->cl.lookup y=some c->x=y)
  (hcl:∀ x c,cl.lookup x=some c->(∃ v,s.heap.IsCell c v)/\H c=none) (hlen:σ.length=N.length)
  (hσ:∀(i:Nat)(x:Str)(v:V),N[i]?=some x->σ[i]?=some (some v)->(x=p/\cV v u)∨(scope.names.lookup x=some .free/\∃ c u',cl.lookup x=some c/\s.heap.IsCell c (some u')/\cV v u'))
  (hb:PE (cxL P w K mg base N qual scope f (.ref c') cl A outer s H) body t) (hq:t σ H Q):
  codeAny (model P w) A (.call (.ref f) ⟨[u],[]⟩) (CR zRm outer P w H s Q E) s:=by
 have lim:s.heap.NoLimit:=e0.mod.nolimit.keeps fun b o e=>(e0.bs b o e).1
 refine kla_callFunE hdp ho rfl hco hgen rfl hcd ?_
 rw[hbind];refine wpAny_pure (wpAny_newFunctionEnv hcell (fun y hy=>by rw[Q0.mp hy];exact hloc) (fun h₁ hns hsb=>⟨lim.fresh _ hsb,?_⟩) hk)
 have hk₁:∀ b o,s.heap.get? b=some o->h₁.get? b=some o:=fun b o e=>hsb.extBut b o (Qo (Heap.lt_size e)) (Heap.get?_push_of_some _ e)
 have noA:∀ b:Addr,b∉(cxL P w K mg base N qual scope f (.ref c') cl A outer s H).ex:=fun b z=>absurd (show b∈([]:List Addr) from z) (by simp)
 have I:Inv (cxL P w K mg base N qual scope f (.ref c') cl A outer s H) [] σ H { s with heap:=h₁,toks:=s.toks+1 }:=by
  refine⟨⟨e0.mod,hk,rfl,rfl,Qb _,hinj,fun y hy=>?_,fun y c z _=>?_,fun _=>hd,Around.frames_deeper e0.frames,.inr ⟨rfl,rfl⟩,fun b z=>absurd z (noA b),e0.bs,e0.bsz,fun b _ _=>noA b,fun b z=>absurd z (noA b),e0.funs,e0.frf⟩,
   rfl,e0.bare,Un.kept hk₁,⟨_,hns,fun i y v h1 h2 h3=>?_⟩,fun y c h=>?_,e0.hok.fresh (Qb _),fun y c h=>(hcl y c h).2,fun p hp=>absurd (show p∈([]:List (Addr×Obj)) from hp) (by simp),e0.hok.kept hk₁,hlen⟩
  ·have hy:scope.names.lookup y=some .cell∨scope.names.lookup y=some .free:=hy
   rcases hy with hy | hy
   ·exact absurd rfl (hcell _ (Xj hy))
   ·exact hfree y hy
  ·cases z
  ·rcases hσ i y v h1 h2 with⟨rfl,r⟩ | ⟨hf,c,u',h4,⟨o,h5,h6⟩,r⟩
   ·exact⟨u,r,.inl ⟨hloc,by simp[List.lookup]⟩⟩
   ·exact⟨u',r,.inr ⟨.inr hf,c,h4,o,hk₁ _ _ h5,h6⟩⟩
  ·obtain⟨⟨v,o,h5,h6⟩,_⟩:=hcl y c h
   exact⟨v,o,hk₁ _ _ h5,h6⟩
 refine kla_codeExpr (wpAny_mono (hb [] _ σ H Q I hq) (fun v s' z=>?_) fun e s' z=>False.elim z)
 obtain⟨x,H',J,r,q⟩:=z;exact⟨x,H',J.os,J.bare,J.base,J.hok,r,q⟩
theorem zJl{l:List Value}{a b:Int}{c:Value}(h:TriplesOk l):TriplesOk (l++[rawInt a,rawInt b,c]):=TriplesOk_snoc a b c l h
theorem zEw{pos q:Pos}{c x:Value}(l:List Value)(h:TriplesOk l)(e:codeAmong q (l++[rawInt pos.line,rawInt pos.col,c])=some x):codeAmong q l=some x∨x=c:=by
 fun_induction TriplesOk l with
 | case1=>
  simp only[Yr,codeAmong,rawInt] at e;split at e
  ·exact .inr (Vg e).symm
  ·cases e
 | case2 a t b u y rest ih=>
  simp only[Y9,codeAmong] at e ⊢
  split at e
  ·rename_i hc;rw[if_pos hc];exact .inl e
  ·rename_i hc;rw[if_neg hc];exact ih h e
 | case3 l h1 h2=>exact h.elim
def BMn(base:Heap)(mg:Str->Option Value):Prop:=∃ bm ob,mg "__builtins__" = some (.ref bm)/\bm≠builtinsNs/\base.get? bm=some ob/\ob.cls=.type "module" /\ ob.dict=some builtinsNs/\ob.data=.plain
section
variable{X:Cx}{pins:List (Addr×Obj)}{σ:St}{H:Hp}{s:Shared}{P c c':Addr}
theorem zIr{ps more:Array Value}{h':Heap}{tk:Nat}{oc:Obj}(I:Inv X pins σ H s)(hP:H P=some (.tbl ps))(hx:Heap.ExtBut P s.heap h')(hge:s.heap.objs.size<=c')(hc:h'.get? c'=some oc)(hP':h'.get? P=some { cls:=.none,data:=.fields (ps++more) }):
  Inv X pins σ (upd (upd H P (.tbl (ps++more))) c' (.frz oc (.own 0))) { s with heap:=h',toks:=tk }:=by
 have nP:∀ {b:Addr},H b=none->b≠P:=fun e z=>by rw[z,hP] at e;cases e
 have cF:H c'=none:=I.hok.fresh hge;have nc:∀ {b:Addr} {o:Obj},s.heap.get? b=some o->b≠c':=fun e=>Qo (Qn (Heap.lt_size e) hge)
 have hPc:P≠c':=aZ hP cF;have up:∀ {b:Addr},b≠P->b≠c'->upd (upd H P (.tbl (ps++more))) c' (.frz oc (.own 0)) b=H b:=fun h1 h2=>by rw[aX h2,aX h1]
 have upP:upd (upd H P (.tbl (ps++more))) c' (.frz oc (.own 0)) P=some (.tbl (ps++more)):=by rw[aX hPc,aS]
 have kd:∀ {b:Addr} {o:HO},H b=some o->(∀ qs,o≠.tbl qs)->upd (upd H P (.tbl (ps++more))) c' (.frz oc (.own 0)) b=some o:=fun {b o} e hn=>by
  rw[up (fun z=>by rw[z,hP] at e;exact hn ps (Vg e).symm) (aZ e cF)];exact e
 refine I.un ⟨fun b o e n _ _=>hx b o (nP n) e,fun b o e n _ _=>⟨o.slots,hx b o (nP n) e⟩,fun b o e n _=>by rw[up (nP n) (nc e)];exact n,fun b o e _=>?_,fun b xs e=>kd e fun qs z=>(by cases z),fun b o u e=>kd e fun qs z=>(by cases z),fun b qs e=>?_⟩ fun b u e=>?_
 ·by_cases hb:b=P
  ·subst hb;exact⟨_,hP'⟩
  ·exact⟨o,hx b o hb e⟩
 ·by_cases hb:b=P
  ·subst hb
   rw[hP] at e;cases e
   exact⟨more,upP⟩
  ·exact⟨#[],by rw[up hb (aZ e cF),e];simp⟩
 ·by_cases h2:b=c'
  ·subst h2
   rw[aS] at e;cases e
   exact⟨hc,oc,hc⟩
  ·by_cases h1:b=P
   ·subst h1
    rw[upP] at e;cases e
    exact hP'
   ·rw[up h1 h2] at e
    refine(I.hok b u e).stay (fun d v hd q=>hx d v (fun z=>?_) q) (fun d q=>kd q fun qs z=>(by cases z)) fun d xs q=>kd q fun qs z=>(by cases z)
    rcases hd with rfl | hd
    ·exact h1 z
    ·rw[z,hP] at hd;cases hd
theorem zHN{ps:Array Value}{oc:Obj}{pos:Pos}{vs:Array Value}{t:Tok}(hP:H P=some (.tbl ps))(cF:H c'=none)(hd:oc.data=.fields vs)(hv:vs[1]?=some (.str sB t)):
  Keep H (upd (upd H P (.tbl (ps++#[rawInt pos.line,rawInt pos.col,.ref c']))) c' (.frz oc (.own 0))):=by
 have hPc:P≠c':=aZ hP cF;have upP:upd (upd H P (.tbl (ps++#[rawInt pos.line,rawInt pos.col,.ref c']))) c' (.frz oc (.own 0)) P=some (.tbl (ps++#[rawInt pos.line,rawInt pos.col,.ref c'])):=by rw[aX hPc,aS]
 have kd:∀ {b:Addr} {o:HO},H b=some o->b≠P->upd (upd H P (.tbl (ps++#[rawInt pos.line,rawInt pos.col,.ref c']))) c' (.frz oc (.own 0)) b=some o:=fun {b o} e hn=>by
  rw[aX (aZ e cF),aX hn];exact e
 refine⟨fun b o e=>?_,fun Q T=>?_⟩
 ·by_cases hb:b=P
  ·subst hb
   rw[hP] at e;cases e
   exact .inr ⟨_,_,rfl,upP⟩
  ·exact .inl (kd e hb)
 ·obtain⟨qs,e,ht,k⟩:=T
  have old:∀(q:Pos)(cv:Value),codeAmong q qs.toList=some cv->∃ c oc' vs t u,cv=.ref c/\upd (upd H P (.tbl (ps++#[rawInt pos.line,rawInt pos.col,.ref c']))) c' (.frz oc (.own 0)) c=some (.frz oc' u)/\oc'.data=.fields vs/\vs[1]?=some (.str sB t):=fun q cv z=>by
   obtain⟨c,oc',vs',t',u,r1,r2,r3⟩:=k q cv z;exact⟨c,oc',vs',t',u,r1,kd r2 (fun w=>by rw[w,hP] at r2;cases r2),r3⟩
  by_cases hb:Q=P
  ·subst hb
   rw[hP] at e;cases e
   have el:(ps++#[rawInt pos.line,rawInt pos.col,.ref c']).toList=ps.toList++[rawInt pos.line,rawInt pos.col,.ref c']:=by simp
   refine⟨_,upP,by rw[el];exact zJl ht,fun q cv z=>?_⟩
   rw[el] at z;rcases zEw _ ht z with z | z
   ·exact old q cv z
   ·exact⟨c',oc,vs,t,_,z,aS,hd,hv⟩
  ·exact⟨qs,kd e hb,ht,old⟩
theorem zJu{params:Arguments}{body:Expr}{scope:Scope}{pos:Pos}{clos:List (Str×Addr)}{M:Model}{A:Around}{E:Value->Shared->Prop}{Q:Value->Shared->Prop}(I:Inv X pins σ H s)(tb:zAv P H)(hC:∀ h,X.K.In h->CodeHd h c P)(hcode:X.env.code=.ref c)(hq:X.env.qual ++ "<lambda>" = sB)(hB:BMn X.base X.mg)
  (hcl:closureFor scope X.env=pure clos) (hdef:defaultsOf params X.env=([],[]))
  (h:∀ f c' ctv oc vs t u H' s',Inv X pins σ H' s'->Keep H H'->(∀ b o,H b=some o->b≠P->H' b=some o)->sM X pins H' f->s.heap.objs.size<=f->s'.heap.get? f=some (kla_obj "<lambda>" sB params body scope clos ((X.mg "__name__").getD .none) c' ctv)->
   H' c'=some (.frz oc u)->oc.data=.fields vs->vs[1]?=some (.str sB t)->Q (.ref f) s'):
  wpAny M A (eval (.Lambda params body scope pos) X.env) Q E s:=by
 obtain⟨ps,hP,ht,hk⟩:=id tb;have hPo:s.heap.get? P=some (tabObj ps):=I.hok P _ hP;have hg:s.heap.Ns mainGlobals X.mg:=I.mod.glob.keeps I.bk
 have hgP:mainGlobals≠P:=fun z=>by
  obtain⟨o,es,ep,e,_⟩:=I.mod.glob;have:=(I.bs _ _ e).2
  rw[z,hP] at this;cases this
 have hb:s.heap.BuiltinsAt X.mg P:=by
  obtain⟨bm,ob,b1,b2,b3,b4,b5,b6⟩:=hB;refine⟨bm,ob,b1,b2,fun z=>?_,fun z=>?_,(I.bs _ _ b3).1,b4,b5,b6⟩
  ·obtain⟨o,es,ep,e,d,_⟩:=I.mod.glob
   rw[z,e] at b3;cases b3;rw[d] at b6;cases b6
  ·have:=(I.bs _ _ b3).2
   rw[z,hP] at this;cases this
 refine kla_eval hdef ?_
 rw[hq]
 cases hf:codeAmong pos ps.toList with
 | some cv=>
  obtain⟨c',oc,vs,t,u,rfl,r1,r2,r3⟩:=hk pos cv hf;refine kla_makeFunctionHit hcl I.ok.glob hg hcode (hC _ I.kIn) hPo ht hf hb fun ctv h' tk hkk hsz=>?_
  have I1:Inv X pins σ H { s with heap:=h',toks:=tk }:=I.kept hkk;have I2:Inv X pins σ H { s with heap:=h'.push (kla_obj "<lambda>" sB params body scope clos ((X.mg "__name__").getD .none) c' ctv),toks:=tk }:=I1.kept (t':=tk) fun b o e=>Heap.get?_push_of_some _ e
  exact h _ c' ctv oc vs t u H _ I2 (Keep.refl _) (fun b o e _=>e) (I1.fpOk (Qb _) (I1.hok.fresh (Qb _))) hsz (Heap.get?_push_size _ rfl) r1 r2 r3
 | none=>
  refine kla_makeFunction hcl I.ok.glob hg hcode (hC _ I.kIn) hPo ht hf hgP hb fun c' ctv h' tk hx hge hlt hrec htb=>?_
  obtain⟨c₂,oc,vs,t,e2,hoc,hd,hv⟩:=hrec;cases e2;have I1:=zIr (tk:=tk) I hP hx hge hoc htb;have I2:=I1.kept (t':=tk) (h':=h'.push (kla_obj "<lambda>" sB params body scope clos ((X.mg "__name__").getD .none) c' ctv)) fun b o e=>Heap.get?_push_of_some _ e
  have cF:H c'=none:=I.hok.fresh hge;exact h _ c' ctv oc vs t _ _ _ I2 (zHN hP cF hd hv) (fun b o e hb=>by rw[aX (aZ e cF),aX hb];exact e) (I1.fpOk (Qb _) (I1.hok.fresh (Qb _))) (Xv (V8 hge hlt)) (Heap.get?_push_size _ rfl) aS hd hv
end
theorem zBp{K:Fg_}{H:Hp}:∀ π:List Nat,IsDs K H (π.map fun i:Nat=>V.int (i:Int)) (lF π)
 | []=>.nil
 | n::ns=>.cons (.int n) (zBp ns)
def zCR(p:Pos):Arguments:={ posonlyargs:=[],args:=[{ arg := "spot", annotation:=none,pos:=p }],vararg:=none,kwonlyargs:=[],kw_defaults:=[],kwarg:=none,defaults:=[] }
def kF:Scope:={ kind:=.function,names:=[(PySem.Str.ofString "spot", .local),(PySem.Str.ofString "bottom", .free),(PySem.Str.ofString "some", .free)],isGenerator:=false,isCoroutine:=false,more:=[] }
section
variable{X:Cx}{p1 p2 p3 p4 p5 p6 p7 p8 p9 pa pb pc pd pe pf pg ph pi pj:Pos}
theorem zIq{b k:Int}{a:Addr}{xs:List V}{rows:List D}{d:D}{j:Nat}{Hi H:Hp}{Q:VK}{σ:St}(hN:X.N=(["spot","some","bottom"]:List Str))(hsc:X.env.scope=kF){pz:Pos}
  (hσ:σ=[some (.int j),some (.ref a),some (.int b)]) (hq:SqL X.K Hi a xs∨SqT X.K Hi a xs) (hs:IsDs X.K Hi xs rows) (sm:Same Hi H) (hd:rows[j]?=some d) (hk:zIg b d=.ok k) (q:Q (.int k) H):
  ∃ t,PE X (.BinOp (.Subscript (.Subscript (.Name "some" p1) (.Name "spot" p2) p3) (.Constant (.int 0) 0 p4) p5) .Mult
   (.BinOp (.Name "bottom" p6) .FloorDiv (.Subscript (.Subscript (.Name "some" p7) (.Name "spot" p8) p9) (.Constant (.int 1) 0 pa) pb) pc) pz) t/\t σ H Q:=by
 have v0:PE X (.Name "spot" p2) (zDg 0):=tG (by rw[hN];rfl) (by rw[hsc];exact .inl (by decide +kernel))
 have v0':PE X (.Name "spot" p8) (zDg 0):=tG (by rw[hN];rfl) (by rw[hsc];exact .inl (by decide +kernel))
 have v1:PE X (.Name "some" p1) (zDg 1):=tG (by rw[hN];rfl) (by rw[hsc];exact .inr (.inr (by decide +kernel)))
 have v1':PE X (.Name "some" p7) (zDg 1):=tG (by rw[hN];rfl) (by rw[hsc];exact .inr (.inr (by decide +kernel)))
 have v2:PE X (.Name "bottom" p6) (zDg 2):=tG (by rw[hN];rfl) (by rw[hsc];exact .inr (.inr (by decide +kernel)))
 refine⟨_,zBd cS (zEm iM (zEm iM v1 v0 (fun _ _=>rfl)) zGD (fun _ _=>rfl)) (zBd bS v2 (zEm iM (zEm iM v1' v0' (fun _ _=>rfl)) zGD (fun _ _=>rfl))),?_⟩
 obtain⟨t,c,rfl,h1,h2,rfl⟩:=zLr hk;obtain⟨v,hv,r⟩:=hs.at hd;obtain⟨ra,ys,rfl,h3,h4⟩:=r.tupI;obtain⟨u1,u2,rfl,r1,r2⟩:=h4.two;have e1:=r1.intI;have e2:=r2.intI;subst e1 e2;have S3:=bV sm h3;subst hσ
 have row:∀ Q':VK,Q' (.ref ra) H->(zPp X.K (.ref a) (.int j) H Q'∨zPg X.K (.ref a) (.int j) H Q'):=fun Q' q'=>by
  rcases hq with hq | hq
  ·exact .inl ⟨a,xs,j,.ref ra,rfl,rfl,cH sm hq,zBU hv,q'⟩
  ·exact .inr ⟨a,xs,j,.ref ra,rfl,rfl,bV sm hq,zBU hv,q'⟩
 refine⟨.ref a,rfl,.int j,rfl,row _ (.inr ⟨ra,_,0,.int t,rfl,rfl,S3,rfl,?_⟩)⟩
 refine⟨.int b,rfl,.ref a,rfl,.int j,rfl,row _ (.inr ⟨ra,_,1,.int c,rfl,rfl,S3,rfl,?_⟩)⟩
 exact⟨b,c,rfl,rfl,h1,t,b.fdiv c,rfl,rfl,h2,q⟩
theorem zMM{a:Expr}{ta:TA}{p pos:Pos}(hg:Gl X "range")(hm:X.mg "range" = none)(ha:PA X [a] ta)(hs:starEach [a] X.env=[(false,eval a X.env)]:=by rfl):
  PE X (.Call (.Name "range" p) [a] [] pos) (fun σ H Q=>ta σ H fun vs H1=>∃ n:Nat,vs=[.int n]/\∀ r,H1 r=none->Q (.ref r) (upd H1 r (.rng 0 n))):=by
 intro pins s σ H Q I h;refine wpAny_Call_Name_kw (oM I hg hm boot_range (X9 (thn (ha pos pins s σ H _ I h) fun us s1 ⟨vs,H1,I1,r1,q1⟩=>?_) hs rfl))
 obtain⟨n,e,q⟩:=q1;subst e;obtain⟨u,rfl,t,rfl⟩:=zCD r1;refine call_range_1 ⟨.ref s1.heap.objs.size,_,I1.laid (fun b o e=>Heap.get?_push_of_some _ e) (Qb _) ?_,rfl,q _ I1.fresh⟩
 exact⟨_,_,_,Heap.get?_push_size _ rfl⟩
structure RankCx (X:Cx) (P c:Addr):Prop where
 calm:X.calm=true
 dp:X.A.depth<recursionLimit
 n0:X.N[0]?=some ("some" : Str)
 n1:X.N[1]?=some ("bottom" : Str)
 k0:X.env.kindOf "some" = some .cell
 k1:X.env.kindOf "bottom" = some .cell
 code:X.env.code=.ref c
 hd:∀ h,X.K.In h->CodeHd h c P
 qual:X.env.qual ++ "<lambda>" = sB
 bm:BMn X.base X.mg
 clo:∃ cs cb,closureFor kF X.env=pure [(("some" : Str),cs),(("bottom" : Str),cb)]/\X.env.cells.lookup ("some" : Str)=some cs/\X.env.cells.lookup ("bottom" : Str)=some cb
 gS:Gl X "sorted"
 mS:X.mg "sorted" = none
 gR:Gl X "range"
 mR:X.mg "range" = none
 gL:Gl X "len"
 mL:X.mg "len" = none
def zNJ(X:Cx)(P:Addr):TE:=fun σ H Q=>∃ Hi a xs rows b kz,σ[0]?=some (some (.ref a))/\σ[1]?=some (some (.int b))/\(SqL X.K Hi a xs∨SqT X.K Hi a xs)/\IsDs X.K Hi xs rows/\Same Hi H/\nS b rows=.ok kz/\kz.length<64/\zAv P H/\Hi P=none/\
 ∀ π r Hi' H',iH kz π->Ext Hi H Hi' H'->zJj X.K H Hi' H' r (lF π)->Q (.ref r) H'
theorem zDi{pins:List (Addr×Obj)}{σ:St}{H:Hp}{s:Shared}{i:Nat}{x:Str}{v:V}{c:Addr}(I:Inv X pins σ H s)(hi:X.N[i]?=some x)(hv:σ[i]?=some (some v))(hk:X.env.kindOf x=some .cell)(hc:X.env.cells.lookup x=some c):∃ u,cV v u/\s.heap.IsCell c (some u):=by
 obtain⟨m,hn,hl⟩:=I.loc;obtain⟨u,r,l⟩:=hl i x v hi hv (.inr (.inl hk));refine⟨u,r,?_⟩
 rcases l with⟨z,_⟩ | ⟨_,c',z,q⟩
 ·rw[hk] at z;cases z
 ·rw[hc] at z;cases z;exact q
theorem zMt{P c:Addr}(R:RankCx X P c){pk pl pm pn:Pos}(hs1:starEach [.Name "some" p3] X.env=(false,eval (.Name "some" p3) X.env)::starEach [] X.env:=by rfl)
  (hs2:starEach [.Call (.Name "len" p2) [.Name "some" p3] [] p4] X.env=[(false,eval (.Call (.Name "len" p2) [.Name "some" p3] [] p4) X.env)]:=by rfl)
  (hs3:starEach [.Call (.Name "range" p1) [.Call (.Name "len" p2) [.Name "some" p3] [] p4] [] p5] X.env=(false,eval (.Call (.Name "range" p1) [.Call (.Name "len" p2) [.Name "some" p3] [] p4] [] p5) X.env)::starEach [] X.env:=by rfl):
  PE X (.Call (.Name "sorted" pk) [.Call (.Name "range" p1) [.Call (.Name "len" p2) [.Name "some" p3] [] p4] [] p5] [⟨some "key", .Lambda (zCR p6) (.BinOp (.Subscript (.Subscript (.Name "some" p7) (.Name "spot" p8) p9) (.Constant (.int 0) 0 pa) pb) .Mult
   (.BinOp (.Name "bottom" pc) .FloorDiv (.Subscript (.Subscript (.Name "some" pd) (.Name "spot" pe) pf) (.Constant (.int 1) 0 pg) ph) pi) pj) kF pl,pm⟩] pn) (zNJ X P):=by
 intro pins s σ H Q I h;obtain⟨Hi,a,xs,rows,b,kz,e0,e1,hq,hds,sm,hkz,h64,tb,hiP,q⟩:=h;obtain⟨hl1,hl2⟩:=yX hkz;have hlen:xs.length=kz.length:=by rw[hds.length,hl1]
 refine wpAny_Call_Name_kw (oM I R.gS R.mS boot_sorted ?_ (by decide) (by decide))
 have vS:PE X (.Name "some" p3) (zDg 0):=tG R.n0 (.inr (.inl R.k0));have pR:=zMM (p:=p1) (pos:=p5) R.gR R.mR (jK (zDy (p:=p2) (pos:=p4) aL R.gL R.mL boot_len (jK vS nH hs1) (by decide) (by decide) hs1) nH (by rw[hs2];rfl)) hs2
 refine callWith_kw (thn ((jK pR nH hs3) pn pins s σ H (fun vs H1=>∃ r,vs=[.ref r]/\H r=none/\H1=upd H r (.rng 0 kz.length)) I ?reads) fun us s1 ⟨vs,H1,I1,r1,q1⟩=>?_) (by rw[hs3];rfl) (by rw[hs3];rfl)
 case reads=>
  refine⟨.ref a,e0,a,xs,rfl,hq.imp (cH sm) (bV sm),xs.length,rfl,fun r hr=>⟨r,rfl,hr,by rw[hlen]⟩⟩
 obtain⟨r,rfl,hr,rfl⟩:=q1;obtain⟨u,rfl,ru⟩:=zCD r1;cases ru;obtain⟨cs,cb,hcl,hcs,hcb⟩:=R.clo;have x1:Ext Hi H Hi (upd H r (.rng 0 kz.length)):=Ext.newF sm hr;refine kws_cons (zJu I1 (x1.h.t P tb) R.hd R.code R.qual R.bm hcl rfl fun f c' ctv oc vs t u H3 s3 I3 hkeep hsame hf hfs hfo hc1 hc2 hc3=>kws_nil ?_)
 have x2:Ext Hi H Hi H3:=x1.trans ⟨Same.refl _,hkeep,fun b o e=>hsame b o (x1.s _ _ e) (fun z=>by rw[z,hiP] at e;cases e),fun b e z=>absurd e z⟩
 have hr3:H3 r=some (.rng 0 kz.length):=hkeep.at aS;obtain⟨t1,t2,t3,hrg⟩:=I3.hok r _ hr3
 have I3p:Inv X (pins++[(f,kla_obj "<lambda>" sB (zCR p6) _ kF [("some", cs),("bottom", cb)] ((X.mg "__name__").getD .none) c' ctv)]) σ H3 s3:=I3.pins_of fun p hp=>by
  rcases V6.mp hp with hp | hp
  ·exact I3.pin p (Qx _ hp)
  ·rw[Q0.mp hp]
   exact⟨hfo,hf.1,hf.2.1,hf.2.2.1,fun v z=>by have z':Data.func _=Data.cell v:=z;cases z'⟩
 refine zFq (kz:=kz) R.calm I3p hrg h64 rfl (fun j tk k hj s' pl Ip=>?_) fun D s' out c2 π I' fD hDs hD hπ hV=>?_
 ·obtain⟨d,hd,hk⟩:=hl2 j k hj
  have hfo':=(Ip.pin _ (Qx _ (Xw _ (Qx _ (Q0.mpr rfl))))).1;obtain⟨u0,r0,ce0⟩:=zDi Ip R.n0 e0 R.k0 hcs;obtain⟨u1,r1,ce1⟩:=zDi Ip R.n1 e1 R.k1 hcb
  have look:∀ {x:Str} {c:Addr},List.lookup x [(("some" : Str),cs),(("bottom" : Str),cb)]=some c->(x = "some" /\ c=cs)∨(x = "bottom" /\ c=cb):=fun {x c} z=>by
   have z':=Xj z;rcases Qc.mp z' with z' | z'
   ·cases z';exact .inl ⟨rfl,rfl⟩
   ·cases Q0.mp z';exact .inr ⟨rfl,rfl⟩
  have hne:cs≠cb:=fun z=>by
   have:=Ip.ok.inj _ _ _ hcs (z ▸ hcb)
   exact absurd this (by decide)
  have lam:∃ t,PE (cxL X.prog X.w X.K X.mg X.base ["spot","some","bottom"] sB kF f (.ref c') [("some", cs),("bottom", cb)] X.A.in1.in1 X.stack s' H3) _ t/\t [some (.int j),some (.ref a),some (.int b)] H3 (fun v H'=>v=.int k/\H'=H3):=
   zIq (p1:=p7) (p2:=p8) (p3:=p9) (p4:=pa) (p5:=pb) (p6:=pc) (p7:=pd) (p8:=pe) (p9:=pf) (pa:=pg) (pb:=ph) (pc:=pi) (pz:=pj) rfl rfl rfl hq hds x2.s hd hk ⟨rfl,rfl⟩
  obtain⟨tt,hb,hqq⟩:=lam;refine wpAny_call (codeAny_mono (zLC (E:=fun _ _ _=>False) (p := "spot") (Ip.ok.hd R.calm) R.dp Ip.env0.in1.in1 hfo' ⟨c',oc,vs,t,rfl,(Ip.hok c' _ hc1).1,hc2,hc3⟩ rfl (by decide +kernel) rfl rfl rfl (by decide +kernel) (fun x hx=>?_) (fun x y c z1 z2=>?_) (fun x c z=>?_) rfl (fun i x v z1 z2=>?_) hb hqq) fun res s'' hres=>?_)
  ·have hx':=Xj hx
   rcases Qc.mp hx' with z | hx'
   ·cases z
   ·rcases Qc.mp hx' with z | hx'
    ·cases z;exact⟨cb,rfl⟩
    ·cases Q0.mp hx';exact⟨cs,rfl⟩
  ·rcases look z1 with⟨rfl,rfl⟩ | ⟨rfl,rfl⟩<;>rcases look z2 with⟨rfl,w⟩ | ⟨rfl,w⟩
   ·rfl
   ·exact absurd w hne
   ·exact absurd w.symm hne
   ·rfl
  ·rcases look z with⟨rfl,rfl⟩ | ⟨rfl,rfl⟩
   ·exact⟨⟨_,ce0⟩,Ip.freeC _ _ hcs⟩
   ·exact⟨⟨_,ce1⟩,Ip.freeC _ _ hcb⟩
  ·match i,z1,z2 with
   | 0,z1,z2=>cases z1;cases z2;exact .inl ⟨rfl,tk,rfl⟩
   | 1,z1,z2=>cases z1;cases z2;exact .inr ⟨by decide +kernel,cs,u0,rfl,ce0,r0⟩
   | 2,z1,z2=>cases z1;cases z2;exact .inr ⟨by decide +kernel,cb,u1,rfl,ce1,r1⟩
   | i+3,z1,z2=>simp at z2
  ·cases res with
   | error ev=>exact False.elim hres
   | ok fl=>
    cases fl with
    | ret u=>
     obtain⟨v,H',J,rv,rfl,rfl⟩:=Ip.after hres;obtain⟨t',rfl⟩:=rv;exact⟨⟨t',rfl⟩,J⟩
    | next=>exact False.elim hres
    | brk=>exact False.elim hres
    | cont=>exact False.elim hres
 ·have I'':Inv X pins σ H3 s':=I'.unpinned
  obtain⟨f0,f1,f2,f3,f4,f5⟩:=fD;have h0:X.s₀.heap.get? D=none:=Heap.get?_none_of_le (Qp I3.sz hDs);have hl:=hV.length
  have okL:kY X.prog X.w (upd H3 D (.lst (π.map fun i:Nat=>V.int (i:Int)))) s'.heap D (.lst (π.map fun i:Nat=>V.int (i:Int))):=by
   refine⟨?_,out.toList,c2,hV,by rw[Array.toArray_toList];exact hD⟩
   rw[Qd,hπ.1.length_eq,Qu,sizeLine_eq];omega
  have I4:=I''.track f0 h0 f1 f4 (fun p hp=>f5 p (by
   rcases V6.mp hp with hp | hp
   ·exact Xw _ hp
   ·exact Qx _ (Xw _ hp))) okL
  refine⟨.ref D,_,I4,rfl,q π D Hi _ hπ (x2.trans (Ext.newF x2.s f0)) ⟨x2.h.none f0,x2.s.none f0,_,aS,zBp π⟩⟩
end
def spR(K:PySem.W.Frag)(mg:Str->Option Value)(kf:List D->Res (List Int)):Sp:=fun vs H Q _=>vs.length=1/\∃ Bi ds,TB K mg Bi H/\Same Bi H/\IsDs K Bi vs ds/\match kf ds with
 | .ok kz=>∀ π a Hi' H',iH kz π->Ext Bi H Hi' H'->zJj K H Hi' H' a (lF π)->Q (.ref a) H'
 | _=>False
structure CanR (P:Program) (w:World) (K:PySem.W.Frag) (mg:Str->Option Value) (base:Heap) (k:Nat) (kf:List D->Res (List Int)):Prop where
 ex:∃ f fd,FnOk P w K mg base (CX1 P w) k f fd ["some"] (spR K mg kf)/\zAe K fd ["some"] []/\PySem.W.keepIn K (.ref f)=true/\mg "ranked" = some (.ref f)
theorem CanR.mono{P:Program}{w:World}{K:Fg_}{mg:Str->Option Value}{base:Heap}{j k:Nat}{kf:List D->Res (List Int)}(c:CanR P w K mg base j kf)(h:j<=k):CanR P w K mg base k kf:=by
 obtain⟨f,fd,F,r⟩:=c.ex;exact⟨⟨f,fd,F.mono h,r⟩⟩
structure RankDef (st:Stmt):Prop where
 k0:(aF st).names.lookup ("some" : Str)=some .cell
 k1:(aF st).names.lookup ("bottom" : Str)=some .cell
 gS:(aF st).names.lookup ("sorted" : Str)=some .globalImplicit
 gR:(aF st).names.lookup ("range" : Str)=some .globalImplicit
 gL:(aF st).names.lookup ("len" : Str)=some .globalImplicit
 clo:∀ L f cdv,∃ cs cb,closureFor kF (envOfC "ranked" (aF st) L f cdv)=pure [(("some" : Str),cs),(("bottom" : Str),cb)]/\(envOfC "ranked" (aF st) L f cdv).cells.lookup ("some" : Str)=some cs/\(envOfC "ranked" (aF st) L f cdv).cells.lookup ("bottom" : Str)=some cb
section
variable{P:Program}{w:World}{K:Fg_}{mg:Str->Option Value}{base:Heap}{st s1 s2:Stmt}{f:Addr}{fd:FuncData}{k:Nat}{sa sb:Sv}{p1 p2 p3 p4 p5 p6 p7 p8 p9 pa pb pc pd pe pf pg ph pi pj pk pl pm pn po:Pos}
theorem zKw{T:Addr}(F:Fn K mg "ranked" st ["some"] f fd)(S:FnScope ["some","bottom","each"] ["some"] (aF st))(D:RankDef st)(hT:oX K mg T)(hB:BMn base mg)(mS:mg "sorted" = none)(mR:mg "range" = none)(mL:mg "len" = none)
  (hbody:eI st=[s1,s2,.Return (some (.Call (.Name "sorted" pk) [.Call (.Name "range" p1) [.Call (.Name "len" p2) [.Name "some" p3] [] p4] [] p5] [⟨some "key", .Lambda (zCR p6) (.BinOp (.Subscript (.Subscript (.Name "some" p7) (.Name "spot" p8) p9) (.Constant (.int 0) 0 pa) pb) .Mult
   (.BinOp (.Name "bottom" pc) .FloorDiv (.Subscript (.Subscript (.Name "some" pd) (.Name "spot" pe) pf) (.Constant (.int 1) 0 pg) ph) pi) pj) kF pl,pm⟩] pn)) po])
  (h:∀(cdv:Value)(A:Around)(outer:List Env)(s:Shared)(H:Hp)(E:XK)(G:Gx),Good (BX P w K mg base ["some","bottom","each"] "ranked" st f cdv A outer s H E) G k->zEI (BX P w K mg base ["some","bottom","each"] "ranked" st f cdv A outer s H E) G->
   PSd (BX P w K mg base ["some","bottom","each"] "ranked" st f cdv A outer s H E) G s1 sa/\PSd (BX P w K mg base ["some","bottom","each"] "ranked" st f cdv A outer s H E) G s2 sb):
  CanR P w K mg base (k+1) (yN sa sb):=by
 refine⟨f,fd,?_,F.bd,F.kp,F.mg⟩
 obtain⟨f',oc',od',fd',osl',c,t1,t2,t3,t4⟩:=id hT;have ef:f'=f:=by have:=t1.symm.trans F.mg;exact Value.ref.inj (Vg this)
 subst ef;obtain⟨oc,od,kV,doc,pm',an,cdv,ct,osl,rfl,lk,hcd⟩:=F.fn.ex
 have efd:cdv=.ref c:=by
  rw[lk] at t2;cases t2;exact t3
 subst efd;refine zNl lk hcd S (fun vs H Q E h=>h.1) fun A outer s H vs Q E hr hsp=>?_
 obtain⟨hl,Bi,ds,tb,sm,hd,hq⟩:=hsp;have hg:=zGY (P:=P) (w:=w) (K:=K) (mg:=mg) (base:=base) (N:=["some","bottom","each"]) (outer:=outer) (H:=H) (Bi:=Bi) (E:=E) hr tb;obtain⟨h1,h2⟩:=h (.ref c) A outer s H E _ hg zDm
 have RC:RankCx (BX P w K mg base ["some","bottom","each"] "ranked" st f' (.ref c) A outer s H E) T c:=
  ⟨rfl,hr.depth,rfl,rfl,D.k0,D.k1,rfl,t4,by show(("ranked" : Str) ++ ".<locals>.") ++ "<lambda>" = sB;decide +kernel,hB,D.clo _ _ _,D.gS,mS,D.gR,mR,D.gL,mL⟩
 have body:∀ G,PSs (BX P w K mg base ["some","bottom","each"] "ranked" st f' (.ref c) A outer s H E) [s1] (tS (BX P w K mg base ["some","bottom","each"] "ranked" st f' (.ref c) A outer s H E) G sa)->PS (BX P w K mg base ["some","bottom","each"] "ranked" st f' (.ref c) A outer s H E) s1 (tS (BX P w K mg base ["some","bottom","each"] "ranked" st f' (.ref c) A outer s H E) G sa)->PS (BX P w K mg base ["some","bottom","each"] "ranked" st f' (.ref c) A outer s H E) s2 (tS (BX P w K mg base ["some","bottom","each"] "ranked" st f' (.ref c) A outer s H E) G sb)->
   PSs (BX P w K mg base ["some","bottom","each"] "ranked" st f' (.ref c) A outer s H E) (eI st) (zPK (tS (BX P w K mg base ["some","bottom","each"] "ranked" st f' (.ref c) A outer s H E) G sa) (zPK (tS (BX P w K mg base ["some","bottom","each"] "ranked" st f' (.ref c) A outer s H E) G sb) (zQs (zNJ (BX P w K mg base ["some","bottom","each"] "ranked" st f' (.ref c) A outer s H E) T)))):=fun G _ h1 h2=>by
  rw[hbody];exact sQ h1 (sQ h2 (zCP (zDw (zMt RC))))
 refine⟨_,body _ (zCP h1) h1 h2,?_⟩
 cases ek:yN sa sb ds with
 | no=>rw[ek] at hq;exact hq.elim
 | err c=>rw[ek] at hq;exact hq.elim
 | ok kz=>
  rw[ek] at hq;unfold yN at ek;split at ek
  case isFalse=>cases ek
  split at ek
  case h_2=>cases ek
  rename_i ρ1 e1
  split at ek
  case h_2=>cases ek
  rename_i ρ2 e2
  refine⟨L3.start 3 ds,Bi,zAc (N:=["some","bottom","each"]) sm hd,?_⟩
  rw[e1];intro σ1 Hi1 H1 sm1 R1;refine⟨ρ1,Hi1,R1,?_⟩
  rw[e2];intro σ2 Hi2 H2 sm2 R2;unfold zDt at ek;split at ek
  case h_2=>cases ek
  rename_i rows b z0 z1
  split at ek
  case isFalse=>cases ek
  rename_i h64
  obtain⟨v,q0,r0⟩:=R2.slot 0 _ z0;obtain⟨v1,q1,r1⟩:=R2.slot 1 _ z1;obtain⟨a,xs,rfl,g1,g2⟩:=r0.lstI;have r1':=r1.intI;subst r1';obtain⟨tb2,n2⟩:=hg.tb.ext R2.ext T hT;exact⟨Hi2,a,xs,rows,b,kz,q0,q1,.inl g1,g2,R2.s,ek,by rw[(yX ek).1];exact h64,tb2,n2,fun π r Hi' H' hπ x nl=>hq π r Hi' H' hπ (R2.ext.trans x) ⟨R2.ext.h.none nl.1,nl.2⟩⟩
end
section
variable{X:Cx}{G:Gx}{e:Expr}{es:List Expr}{pos p:Pos}{fs:Fv}{k:Nat}{kf:List D->Res (List Int)}{tg:Expr}{body rest:List Stmt}{g:Gv}{sa sb:Sv}
def tIr(X:Cx)(G:Gx)(fs:Fv)(kf:List D->Res (List Int)):TI:=fun σ H R=>∃ ρ Hi,kK X G Hi H σ ρ/\Out G Hi H ((fs ρ).bind kf) fun kz Hi' H'=>∀ π J,iH kz π->vM X.K Hi' J (lF π)->R J H'
theorem zKY(W:Good X G k)(c:CanR X.prog X.w X.K X.mg X.base k kf)(hkf:∀ ds c,kf ds≠.err c)(hk1:∀ ds,kf ds≠.no->ds.length=1)(hg:Gl X "ranked")(ha:PAd X G [e] fs)(he:starEach [e] X.env=(false,eval e X.env)::starEach [] X.env:=by rfl):
  PI X tg (.Call (.Name "ranked" p) [e] [] pos) (tIr X G fs kf):=by
 obtain⟨f,fd,F,b,kp,hm⟩:=c.ex;refine PI.wk (zMh (zCr F W.room hg hm kp b .nil W.pass ha (by decide) he rfl)) fun σ H R q=>?_
 obtain⟨ρ,Hi,Rl,ou⟩:=q;refine zIj Rl ou fun vs ds Hi1 H1 e1 R1 r1 o1=>?_
 rw[Q3];have hno:kf ds≠.no:=fun z=>by rw[z] at o1;exact o1
 refine⟨by rw[r1.length];exact hk1 ds hno,Hi1,ds,W.tb.ext R1.ext,R1.s,r1,?_⟩
 cases z:kf ds with
 | no=>exact absurd z hno
 | err c=>exact absurd z (hkf ds c)
 | ok kz=>
  rw[z] at o1;intro π a Hi2 H2 hπ e2 n;obtain⟨n1,n2,xs,n3,n4⟩:=n;have x3:=e2.hold n1 n3 n2;refine⟨a,rfl,⟨xs,SqL.of n3⟩,o1 _ _ x3 π _ hπ (zBa (SqL.of aS) (n4.mono (cA n2 _)))⟩
theorem zLB(W:Good X G k)(c:CanR X.prog X.w X.K X.mg X.base k kf)(hkf:∀ ds c,kf ds≠.err c)(hk1:∀ ds,kf ds≠.no->ds.length=1)(hg:Gl X "ranked")(ha:PAd X G [e] fs)(hgt:PGd X G tg g)(hge:∀ d ρ c,g d ρ≠.err c)(hb:dJ X G body sa)(hr:dJ X G rest sb)
  (he:starEach [e] X.env=(false,eval e X.env)::starEach [] X.env:=by rfl) {pf:Pos} (hs:∀ x,foldedSetIterable (.Call (.Name "ranked" p) [e] [] pos) X.env x=pure x:=by intro _;rfl):
  dJ X G (.For tg (.Call (.Name "ranked" p) [e] [] pos) body [] pf::rest) (zIB fs kf g sa sb):=by
 refine PSs.wk (sQ (zJM W.own W.calm (zKY W c hkf hk1 hg ha he) hgt hb hs) hr) fun E σ H q=>?_
 obtain⟨ρ,Hi,R,h⟩:=q;refine⟨ρ,Hi,R,kI R h fun kz Hi1 H1 _ e1 h1 π J hπ gv=>?_⟩
 have hn:nV kz (fun π=>bB (fun ρ=>loop g sa (lF π) ρ) sb ρ)≠.no:=fun z=>by rw[z] at h1;exact h1
 rw[<-zFb hn hπ] at h1;exact zJQ hge (R.grow e1) (zMY (sa:=fun ρ=>loop g sa (lF π) ρ) h1) gv
end
def zNx(K:PySem.W.Frag)(mg:Str->Option Value):Sp:=fun vs H Q _=>∃(a:Addr)(ns:List Int)(Bi:Hp),vs=[.ref a]/\TB K mg Bi H/\Same Bi H/\SqL K Bi a (ns.map V.int)/\ns.length<=63/\(∃ m,m<=1048576/\∀ n∈ns,n.natAbs<2^m)/\∀ H',Q (.bl true) H'
theorem zLF{P:Program}{w:World}{K:Fg_}{mg:Str->Option Value}{base:Heap}{k:Nat}{m:Mir}{f:Addr}{fd:FuncData}(F:FnOk P w K mg base (CX1 P w) k f fd ["script"] (spM K mg 1 m))
  (h:∀ ns:List Int,ns.length<=63->(∃ m,m<=1048576/\∀ n∈ns,n.natAbs<2^m)->m [.lst (ns.map D.int)]=.ok (.v (.bl true))):FnOk P w K mg base (CX1 P w) k f fd ["script"] (zNx K mg):=by
 refine F.imp fun vs H Q E q=>?_
 obtain⟨a,ns,Bi,rfl,tb,sm,hS,hl,hbg,q⟩:=q;refine⟨rfl,Bi,[.lst (ns.map D.int)],tb,sm,.cons (.lst hS (zBx ns)) .nil,?_⟩
 rw[h ns hl hbg];intro v Hi' H' e r;rw[r.blI];exact q H'
theorem zMg{P:Program}{w:World}{K:Fg_}{mg:Str->Option Value}{base:Heap}{k:Nat}{m:Mir}{f:Addr}{fd:FuncData}(F:FnOk P w K mg base (CX1 P w) k f fd ["script"] (spM K mg 1 m))
  (h:∀ ns:List Int,ns.length<=63->m [.lst (ns.map D.int)]=.ok (.v (.bl true))):FnOk P w K mg base (CX1 P w) k f fd ["script"] (zNx K mg):=zLF F fun ns hl _=>h ns hl
theorem zJy{K:Fg_}{mg:Str->Option Value}{h:Heap}{T T':Addr}(X:K.In h)(a:oX K mg T)(b:oX K mg T'):T'=T:=by
 obtain⟨f,oc,od,fd,osl,c,a1,a2,a3,a4⟩:=a;obtain⟨f',oc',od',fd',osl',c',b1,b2,b3,b4⟩:=b;rw[a1] at b1;cases b1
 rw[a2] at b2;cases b2
 rw[a3] at b3;cases b3
 obtain⟨o,vs,_,_,_,_,_,_,_,e1,_,e3,e4,_⟩:=a4 h X;obtain⟨o',vs',_,_,_,_,_,_,_,f1,_,f3,f4,_⟩:=b4 h X;rw[e1] at f1;cases f1
 rw[e3] at f3;cases f3
 rw[e4] at f4;cases f4
 rfl
theorem zIb{P:Program}{w:World}{K:Fg_}{mg mb:Str->Option Value}{CX:CXT}{k:Nat}{fa a T:Addr}{fd:FuncData}{x:Str}{s₁:Shared}{vs:List Value}{ns:List Int}
  (KX:K.In s₁.heap) (hns:s₁.heap.Ns mainGlobals mg) (hb:s₁.heap.Ns builtinsNs mb) (hbb:∀ x:Str,x ≠ "__name__" -> mb x=bootBuiltins x) (hlim:s₁.heap.NoLimit) (hg:s₁.gens=#[]) (hbm:BMn s₁.heap mg) (hT:s₁.heap.get? T=some (tabObj #[])) (hKT:K.lookup T=none) (hP:oX K mg T)
  (ha:s₁.heap.get? a=some { cls:=.type "list", data:=.seq vs.toArray }) (hi:IntsAre vs ns) (hl:ns.length<=63) (hbg:∃ m,m<=1048576/\∀ n∈ns,n.natAbs<2^m) (hr:Room k callerA)
  (F:∀ base:Heap,K.In base->base.Ns mainGlobals mg->BMn base mg->FnOk P w K mg base CX k fa fd [x] (zNx K mg)) (hbind:∀(s:Shared)(u:Value),BindsTo s fd ⟨[u],[]⟩ [(x,u)])
  (hCX:∀ H e s',CX [] H s₁ (fun _ _ _=>False) e s'->False):
  codeAny (model P w) callerA (.call (.ref fa) ⟨[.ref a],[]⟩) (fun r s'=>r=.ok (.ret (.bool true))/\OldK s₁.heap s'.heap/\s'.os=s₁.os/\AllBare s'.gens) s₁:=by
 have rv:=zAB hi;have lenV:=hi.length;have haT:a≠T:=fun z=>by rw[z,hT] at ha;cases ha
 have core:∀ Bi:Hp,zRg Bi->SqL K Bi a (ns.map V.int)->HOk P w Bi s₁.heap->(∀ b,Bi b≠none->b=a)->(Bi a≠none->K.lookup a=none)->
   codeAny (model P w) callerA (.call (.ref fa) ⟨[.ref a],[]⟩) (fun r s'=>r=.ok (.ret (.bool true))/\OldK s₁.heap s'.heap/\s'.os=s₁.os/\AllBare s'.gens) s₁:=by
  intro Bi hO hS hokB hA hK
  have hBT:Bi T=none:=by
   cases q:Bi T with
   | none=>rfl
   | some u=>exact absurd (hA T (by rw[q];simp)).symm haT
  generalize hHdef:upd Bi T (.tbl #[])=H;have HT:H T=some (.tbl #[]):=by rw[<-hHdef,aS]
  have Hne:∀ {b},b≠T->H b=Bi b:=fun z=>by rw[<-hHdef,aX z]
  have sm:Same Bi H:=fun b o e=>by rw[Hne (aZ e hBT)];exact e
  have hok:HOk P w H s₁.heap:=fun b u e=>by
   by_cases hb:b=T
   ·subst hb;rw[HT] at e;cases e;exact hT
   ·rw[Hne hb] at e
    exact(hokB b u e).stay (fun c v _ q=>q) (fun c q=>sm _ _ q) fun c xs q=>sm _ _ q
  have only:∀ {b:Addr} {o:Obj},s₁.heap.get? b=some o->(∀ xs n,o.data≠.seq xs n)->(∀ vs,o.data≠.fields vs)->H b=none:=fun {b o} e d1 d2=>by
   by_cases hb:b=T
   ·subst hb;rw[hT] at e;cases e;exact absurd rfl (d2 #[])
   ·rw[Hne hb]
    cases q:Bi b with
    | none=>rfl
    | some u=>
     have e':b=a:=hA b (by rw[q];simp)
     subst e';rw[ha] at e;cases e
     exact absurd rfl (d1 _ _)
  have base_of:∀ {b:Addr} {o:Obj},s₁.heap.get? b=some o->H b=none->(zIe s₁.heap H).get? b=some o:=fun e n=>zIE e n
  have nsK:∀ {b:Addr} {m:Str->Option Value},s₁.heap.Ns b m->(zIe s₁.heap H).Ns b m:=fun {b m} ⟨o,es,ep,e,d,r⟩=>⟨o,es,ep,base_of e (only e (fun xs n z=>by rw[d] at z;cases z) (fun vs z=>by rw[d] at z;cases z)),d,r⟩
  have hKb:K.In (zIe s₁.heap H):=fun b o e=>base_of (KX b o e) (by
   by_cases hb:b=T
   ·subst hb;rw[hKT] at e;cases e
   ·rw[Hne hb]
    cases q:Bi b with
    | none=>rfl
    | some u=>
     have e':b=a:=hA b (by rw[q];simp)
     subst e'
     rw[hK (by rw[q];simp)] at e;cases e)
  have hBb:BMn (zIe s₁.heap H) mg:=by
   obtain⟨bm,ob,b1,b2,b3,b4,b5,b6⟩:=hbm;exact⟨bm,ob,b1,b2,base_of b3 (only b3 (fun xs n z=>by rw[b6] at z;cases z) (fun vs z=>by rw[b6] at z;cases z)),b4,b5,b6⟩
  have hM:Mod K mg (zIe s₁.heap H):=⟨hKb,nsK hns,⟨mb,nsK hb,hbb⟩,let ⟨mc,h1,h2⟩:=hlim;⟨mc,nsK h1,h2⟩⟩;have e0:Env0 P w K mg (zIe s₁.heap H) callerA [] s₁ H:=⟨rfl,hM,fun b o e=>zKz e,X0 (zHx _ _),trivial,fun b hb=>absurd (show b∈([]:List Addr) from hb) (by simp),hok,.of_eq hg⟩
  have htb:TB K mg Bi H:=fun T' h'=>by
   have e':=zJy KX hP h';subst e';exact⟨⟨#[],HT,trivial,fun pos cv z=>by cases z⟩,hBT⟩
  refine codeAny_mono ((F _ hKb (nsK hns) hBb).run callerA [] s₁ H ⟨[.ref a],[]⟩ [.ref a] [.ref a] (fun v _=>v=.bl true) (fun _ _ _=>False) hr e0 (hbind s₁ (.ref a)) (.cons rfl .nil) ⟨a,ns,Bi,rfl,htb,sm,hS,hl,hbg,fun _=>rfl⟩) fun r s' h=>?_
  cases r with
  | error e=>exact(hCX H e s' h).elim
  | ok fl=>
   cases fl with
   | next=>exact False.elim h
   | brk=>exact False.elim h
   | cont=>exact False.elim h
   | ret u=>
    obtain⟨v,H',os,bare,un,hok',r',q⟩:=h;have q':v=.bl true:=q;subst q';obtain rfl:u=Value.bool true:=r';refine⟨rfl,⟨fun b o e=>?_,fun b o e=>un.there b o e (by simp)⟩,os,bare⟩
    by_cases hbT:b=T
    ·subst hbT
     obtain⟨more,z⟩:=un.tbls b _ HT;have z2:s'.heap.get? b=some { cls:=.none,data:=.fields (#[]++more) }:=hok' b _ z;rw[hT] at e;cases e
     obtain⟨f,oc,od,fd',osl,c,a1,a2,a3,a4⟩:=hP;obtain⟨o,vs,_,_,_,_,_,_,_,e1,e2,e3,e4,_⟩:=a4 _ KX;exact .inr (.inl ⟨⟨c,o,vs,e1,e2,e3,e4⟩,rfl,#[],more,rfl,z2⟩)
    ·refine .inl ?_
     cases q:H b with
     | none=>exact un.keep b o e q (by intro z;exact absurd (show b∈([]:List Addr) from z) (by simp)) (by simp)
     | some u=>
      rw[Hne hbT] at q;rcases hO b with z | ⟨ob,xs,z⟩
      ·rw[q] at z;cases z
      ·have z2:=un.frzs b ob _ (by rw[Hne hbT];exact z)
       obtain⟨e1,_⟩:=hokB b _ z;obtain⟨e2,_⟩:=hok' b _ z2;rw[e] at e1;cases e1
       exact e2
 cases hk:K.lookup a with
 | some o=>
  have e:=KX a o hk;rw[ha] at e;cases e;refine core (fun _=>none) (fun _=>.inl rfl) (.inr ⟨_,vs.toArray,_,hk,rfl,rfl,rfl,by rw[Qh,lenV,sizeLine_eq];omega,by simpa using rv⟩) (fun b u z=>by have z':(none:Option HO)=some u:=z;cases z') (fun b z=>absurd rfl z) fun z=>absurd rfl z
 | none=>
  refine core (fun b=>if b=a then some (.frz { cls:=.type "list", data:=.seq vs.toArray } (.lst (ns.map V.int))) else none) (fun b=>?_) (.inl (.inr ⟨{ cls:=.type "list", data:=.seq vs.toArray },if_pos rfl⟩)) (fun b u z=>?_) (fun b z=>?_) fun _=>hk
  ·by_cases hb:b=a
   ·exact .inr ⟨_,_,if_pos hb⟩
   ·exact .inl (if_neg hb)
  ·by_cases hb:b=a
   ·have z':=(if_pos hb).symm.trans z
    cases z'
    subst hb;exact⟨ha,by rw[Qd,sizeLine_eq];omega,vs,_,rv,ha⟩
   ·have z':=(if_neg hb).symm.trans z
    cases z'
  ·by_cases hb:b=a
   ·exact hb
   ·exact absurd (if_neg hb) z
theorem zJY:∀ {ns:List Int} {n:Int},n∈ns->(WData.int n).weight<=WData.weightAll (ns.map WData.int)
 | a::r,n,h=>by
  rw[Qj,WData.weightAll];rcases Qc.mp h with rfl | h
  ·omega
  ·have:=zJY h
   omega
theorem zKZ{ns:List Int}(h:WData.layableAll [WData.list (ns.map WData.int)]=true):(∃ m,m<=1048576/\∀ n∈ns,n.natAbs<2^m):=by
 refine⟨1048576,Qb _,fun n hn=>?_⟩
 have w:WData.weightAll (ns.map WData.int)<=2^20:=by
  unfold WData.layableAll WData.layable at h;simp only[List.all_cons,List.all_nil,Ua,Vj,decide_eq_true_eq] at h;have:=h.2
  rw[WData.weight] at this;exact this
 have a:=zJY hn;rw[WData.weight] at a;by_cases z:n=0
 ·subst z
  exact Nat.two_pow_pos _
 ·rw[if_neg (by simpa using z)] at a
  exact Qn Nat.lt_log2_self (Vv (by decide) (by omega))
open PySem.Calls in
theorem zAY{l:OpenLaw}{n:Nat}{q:Program}{loose:List Str}{XP:(Str->Option Value)->Heap->Prop}{YP:World->Heap->Prop}{d:DefRec}
  (hn:l.most=some n) (hdf:d.params.defaults=[])
  (call:∀(w:World)(s₀ s₁:Shared)(mg mb:Str->Option Value)(fa:Addr)(o:Obj)(pm cd doc:Value)(a:Addr)(vs:List Value)(ns:List Int),(∃ m,m<=1048576/\∀ n∈ns,n.natAbs<2^m)->
   Ground q loose [] XP w s₀ mg mb s₁.heap->YP w s₁.heap->
   s₁.heap.get? fa=some o->o.data=.func (docDef d.name d.params d.body d.scope pm cd doc)->s₁.heap.CodeRec cd d.name->mg d.name=some (.ref fa)->
   s₁.heap.get? a=some { cls:=.type "list", data:=.seq vs.toArray }->IntsAre vs ns->ns.length<=n->s₁.gens=#[]->
   codeAny (model l.prog w) callerA (.call (.ref fa) ⟨[.ref a],[]⟩) (fun r s'=>r=.ok (.ret (.bool true))/\OldK s₁.heap s'.heap/\s'.os=s₁.os/\AllBare s'.gens) s₁):
  WalkO q loose XP YP l.row.toRowW d [] (fun f vs=>PySem.call f vs):=by
 intro w s₀ s₁ mg mb G Y fa o pm cd doc dV kV ho hd hcd hD hmg hg args vals as hpre hlay hrd hwl hlo;obtain rfl:dV=.none:=Dflts.none hD hdf;obtain rfl:kV=.none:=Dflts.noKw hD;obtain⟨a,vs,ns,rfl,rfl,hobj,hints,hlen⟩:=Att.script_of hn hpre hwl;refine enter_call (codeAny_mono (call w s₀ s₁ mg mb fa o pm cd doc a vs ns (zKZ hlay) G Y ho (fd_plain hd) hcd hmg hobj hints hlen hg) fun r s' hq=>?_)
 obtain⟨rfl,h2,h3,h4⟩:=hq;exact⟨.inl ⟨.bool true,.bool true,[],rfl,fun _=>rfl,.bool true,Att.post_true l _,fun _=>⟨List.Pairwise.nil,fun _ hm=>(nomatch hm)⟩⟩,h2,h3,h4⟩
theorem zPB{l:PySem.W.OpenLaw}{k:Nat}{q:Program}{loose:List Str}{XP:(Str->Option Value)->Heap->Prop}{YP:World->Heap->Prop}{d:DefRec}{K:Params->PySem.W.Frag}{T:Addr}(hn:l.most=some 63)(hdf:d.params.defaults=[])(hr:Room k callerA)
  (hY:∀(w:World)(h:Heap),YP w h->(K w.params).In h) (hT:∀(w:World)(h:Heap),YP w h->h.get? T=some (tabObj #[]))
  (F:∀(w:World)(mg:Str->Option Value)(fa:Addr)(h:Heap),(K w.params).In h->h.Ns mainGlobals mg->mg d.name=some (.ref fa)->
   (K w.params).lookup T=none/\oX (K w.params) mg T/\∃ fd:FuncData,(∀(s:Shared)(u:Value),BindsTo s fd ⟨[u],[]⟩ [("script", u)])/\∀ base:Heap,(K w.params).In base->base.Ns mainGlobals mg->BMn base mg->FnOk l.prog w (K w.params) mg base (CX1 l.prog w) k fa fd ["script"] (zNx (K w.params) mg)):
  PySem.W.WalkO q loose XP YP l.row.toRowW d [] (fun f vs=>PySem.call f vs):=by
 refine zAY hn hdf fun w s₀ s₁ mg mb fa o pm cd doc a vs ns hbg G Y ho hd hcd hmg hobj hints hlen hg=>?_
 have KX:=hY w _ Y;obtain⟨h1,h2,fd,hb,hF⟩:=F w mg fa _ KX G.T.g hmg
 exact zIb KX G.T.g G.T.b G.T.builtins G.T.nolimit hg G.T.bmain (hT w _ Y) h1 h2 hobj hints hlen hbg hr hF hb fun _ _ _ z=>by
  obtain⟨_,_,_,_,_,z⟩:=z;exact z
section
variable{X:Cx}{G:Gx}{pins:List (Addr×Obj)}{σ:St}{H Hi:Hp}{s:Shared}{ρ:Rho}{i k:Nat}{st:Stmt}{sa:Sv}
end
section
variable{X:Cx}{G:Gx}{e a:Expr}{f g:Ev}{pos:Pos}
end
section
variable{X:Cx}{G:Gx}{st:Stmt}{rest:List Stmt}{sa sb:Sv}{u:TS}
end
section
variable{P:Program}{w:World}{K:Fg_}{mg:Str->Option Value}{base:Heap}{N ps:List Str}{x:Str}{st:Stmt}{f:Addr}{fd:FuncData}{k i0 i1 i2:Nat}{sv:Sv}
end
section
variable{X:Cx}{G:Gx}{e:Expr}{es:List Expr}{pos p:Pos}{fs:Fv}{k j0 j1 j2:Nat}{kf:List D->Res Tri}{x:Str}{ps:List Str}{tg:Expr}
end
section
variable{X:Cx}{G:Gx}{fs:Fv}{f:Ev}
end
section
variable{prog:Program}{w:World}{A:Around}{E:Value->Shared->Prop}{s:Shared}
end
section
variable{X:Cx}{G:Gx}{f:Ev}
end
section
variable{X:Cx}{G:Gx}{it:Fv}{t:Tv}
end
section
variable{X:Cx}{G:Gx}
theorem bK{i:Int}{j pos}:PEd X G (.Constant (.int i) j pos) (eC (.int i)):=pG zGD fun _=>.int _
theorem aM(i:Nat){x:Str}{pos:Pos}(hN:X.N[i]?=some x:=by rfl)(hv:Vis X.env.scope x:=by first | exact Or.inl rfl | exact Or.inr (Or.inl rfl) | exact Or.inr (Or.inr rfl))(hd:(x==("__debug__" : Str))=false:=by decide)
  (hcd:(x==("__classdict__" : Str))=false:=by decide):PEd X G (.Name x pos) (aE i):=zNQ i (pv i hN hv hd hcd)
theorem fL(n:Nat){x:Str}{pos p2:Pos}{i:Int}{j p1}(hN:X.N[n]?=some x:=by rfl)(hv:Vis X.env.scope x:=by first | exact Or.inl rfl | exact Or.inr (Or.inl rfl) | exact Or.inr (Or.inr rfl))(hd:(x==("__debug__" : Str))=false:=by decide)
  (hcd:(x==("__classdict__" : Str))=false:=by decide):PEd X G (.Subscript (.Name x pos) (.Constant (.int i) j p1) p2) (eOp oIx (aE n) (eC (.int i))):=zCM iM zKx (aM n hN hv hd hcd) bK (fun _ _=>rfl)
end
section
variable{X:Cx}{G:Gx}{it:Fv}{t:Tv}
end
section
variable{X:Cx}{G:Gx}{a:Expr}{f:Ev}
theorem sV(h:PEd X G a f)(n:Nat){x:Str}{pos p2:Pos}(hN:X.N[n]?=some x:=by rfl)(hv:Vis X.env.scope x:=by first | exact Or.inl rfl | exact Or.inr (Or.inl rfl) | exact Or.inr (Or.inr rfl))(hd:(x==("__debug__" : Str))=false:=by decide)
  (hcd:(x==("__classdict__" : Str))=false:=by decide):PEd X G (.Subscript a (.Name x pos) p2) (eOp oIx f (aE n)):=zCM iM zKx h (aM n hN hv hd hcd) (fun _ _=>rfl)
theorem bH(n:Nat){x:Str}{pos:Pos}(hN:X.N[n]?=some x:=by rfl)(hv:Vis X.env.scope x:=by first | exact Or.inl rfl | exact Or.inr (Or.inl rfl) | exact Or.inr (Or.inr rfl))(hd:(x==("__debug__" : Str))=false:=by decide)
  (hcd:(x==("__classdict__" : Str))=false:=by decide):PAd X G [.Name x pos] (aB (aE n) aNil):=aA (aM n hN hv hd hcd) aK aH
theorem s_z(i:Nat){x:Str}{pos pos':Pos}(hN:X.N.Nodup)(he:PEd X G a f)(hi:X.N[i]?=some x:=by rfl)(hx:Loc X.env.scope x:=by first | exact Or.inl rfl | exact Or.inr rfl)(hs:swapsWith a (some (.Name x pos')) pos.line X.env=pure false:=by rfl)
  (hf:X.fn x=true∨X.env.scope.names.lookup x=some .local:=by first | exact .inl rfl | exact .inr rfl | assumption):PSd X G (.Assign [.Name x pos'] a pos) (cW i f):=zPC hN hi hx he hs hf
theorem g_z(i:Nat){x:Str}{pos:Pos}(hN:X.N.Nodup)(hi:X.N[i]?=some x:=by rfl)(hx:Loc X.env.scope x:=by first | exact Or.inl rfl | exact Or.inr rfl)(hf:X.fn x=true∨X.env.scope.names.lookup x=some .local:=by first | exact .inl rfl | exact .inr rfl | assumption):PGd X G (.Name x pos) (gName i):=zOy hN hi hx hf
theorem zET{s j p}:PAd X G [.Constant (.str s) j p] (aB (eC (.str s)) aNil):=aA (pG gN fun _=>.str _) aK cU
end
section
variable{P:Program}{w:World}{K:Fg_}{mg:Str->Option Value}{base:Heap}{k:Nat}{x:Str}{st:Stmt}{ps N:List Str}{f:Addr}{fd:FuncData}{b:Sv}
theorem eY(F:Fn K mg x st ps f fd)(S:FnScope N ps (aF st))
  (h:∀ {cdv:Value} {A:Around} {outer:List Env} {s:Shared} {H:Hp} {E:XK} {G:Gx},Good (BX P w K mg base N x st f cdv A outer s H E) G k->zEI (BX P w K mg base N x st f cdv A outer s H E) G->dJ (BX P w K mg base N x st f cdv A outer s H E) G (eI st) b):
  CanM P w K mg base (k+1) x ps (fn ps.length N.length b):=mG F S fun _ _ _ _ _ _ _ W R=>h W R
end
section
variable{X:Cx}{G:Gx}{e:Expr}{es:List Expr}{pos p:Pos}{fs:Fv}{k:Nat}{x:Str}{ps:List Str}{m:Mir}
end
section
variable{X:Cx}{G:Gx}{a c:Expr}{f:Ev}{pos:Pos}
end
section
variable{X:Cx}{G:Gx}{e:Expr}{pos p:Pos}{fs:Fv}{k:Nat}{kf:List D->Res (List Int)}
end
section
variable{X:Cx}{G:Gx}{e o k:Expr}{f fk:Ev}{pos tpos:Pos}
end
section
variable{X:Cx}{G:Gx}{e:Expr}{fs:Fv}
end
section
variable{X:Cx}
end
end L3
namespace L3
open PySem PySem.Spec PyProof.Rows L2
section
variable{prog:Program}{w:World}{A:Around}{E:Value->Shared->Prop}{s:Shared}
end
section
variable{prog:Program}{w:World}{A:Around}{E:Value->Shared->Prop}{s:Shared}
end
section
unseal PEd PEf PTd PWd PAd PSd dJ POd PGd gH PId PSx jL PTs PCd PCf
variable{X:Cx}{G:Gx}{fs:Fv}{f:Ev}
end
end L3
namespace L3
open PySem PySem.Spec PyProof.Rows L2 PySem.W
unseal PEd PEf PTd PWd PAd PSd dJ POd PGd gH PId PSx jL
section
variable{X:Cx}{G:Gx}{k:Nat}{fb fh:Sv}{body suite:List Stmt}{b₀:Stmt}{ce:Str}{np hpos pos:Pos}
theorem Good.nox(W:Good X G k):Good X.nox (G0 G) k:=⟨W.calm,W.room,fun _ _ _ _ _ _ _ h=>by
 obtain⟨_,_,_,_,_,_,_,h⟩:=h
 exact h.elim,PassesOwn.never,W.tb⟩
theorem zJO(W:Good X G k)(O:Own X)(hT:Cat X.K X.mg ce ce)(hg:Gl X ce)
  (hb:jL X G body fb) (hh:∀ ea,GoodH (mQ X ea)->dJ (mQ X ea) (G0 G) (b₀::suite) fh) (hd:(ce==("__debug__" : Str))=false:=by decide):
  PSd X G (.Try body [.ExceptHandler (some (.Name ce np)) none (b₀::suite) hpos] [] [] pos) (zFa ce fb fh):=by
 intro pins s σ H E I q;obtain⟨ρ,Hi,R,h⟩:=q;unfold zFa at h;have hno:fb ρ≠.no:=fun z=>by rw[z] at h;exact h
 refine wpAny_Try_except ?_
 refine wpAny_mono (hb pins s σ H E ρ Hi _ I R hno ?_ ?_) (fun f s1 q=>?_) fun _ _ z=>z
 ·cases z:fb ρ with
  | no=>exact absurd z hno
  | err c=>trivial
  | ok f=>rw[z] at h;exact h
 ·rintro c ev s' z ⟨s1,H1,ea,cls,Hi',H',rfl,I1,hc,F,e1,sm⟩
  rw[z] at h
  have h2:Fin X G Hi E (if (c==ce)=true then zMu (fh ρ) else .no):=by
   have e:(if (c==ce)=true then zMu (fh ρ) else .no)=(if (c==ce)=true then (match fh ρ with
    | .ok (.ret r)=>Res.ok (Fl.ret r)
    | _=>.no) else .no):=by congr 1
   rw[e];exact h
  clear h;by_cases htb:(c==ce)=true
  ·rw[if_pos htb] at h2
   have hcc:c=ce:=eq_of_beq htb;subst hcc;obtain⟨C,CE,m1,m2,T1,T2,T3⟩:=hT;rw[m1] at hc;cases hc;obtain⟨B,a0,hf,cov⟩:=F.fly;have hst:X.stack=X.env::X.outer:=O.stk;have hfr:X.A.frames=some (X.env::X.outer):=by rw[I1.ok.frames,hst]
   have hf1:=hf;rw[hst] at hf1;refine wpAny_looks_onW hfr O.fr hf1 fun h4 held4 up4=>?_
   refine wpAny_landsW held4 fun h5 fly5 up5=>?_
   have up5':=up4.trans up5;have fly5':Heap.FlyingW B X.stack ea (.ref C) a0 h5:=by rw[hst];exact fly5
   have I5:=Fly.stay I1 F hf cov fly5' up5' (t':=s'.toks);have tyAt:∀ {h6:Heap},Heap.FlyingW B X.stack ea (.ref C) a0 h6->zPm ea C h6:=fun z=>z.there
   refine wpAny_handleBy_cons (codeAny_handlers_test (tZ (X:=mQ X ea) (I5.clause ea) hg m2 ?_ hd)) (by intro q;cases q)
   refine zFP T2 T3 I5.kIn (tyAt fly5') ?_
   refine codeAny_handlers_suite ?_
   refine lands_againW fly5' fun h6 fly6 up6=>?_
   have I6:=Fly.stay I1 F hf cov fly6 (up5'.trans up6) (t':=s'.toks);have R7:=R.grow e1;have WH:GoodH (mQ X ea):=⟨W.u⟩
   have hfin:∃ r,fh ρ=.ok (.ret r)/\Fin X G Hi E (.ok (.ret r)):=by
    cases zz:fh ρ with
    | no=>rw[zz] at h2;exact h2.elim
    | err c'=>rw[zz] at h2;exact h2.elim
    | ok fl=>
     rw[zz] at h2
     cases fl with
     | nx ρ'=>exact h2.elim
     | brk ρ'=>exact h2.elim
     | ctn ρ'=>exact h2.elim
     | ret r=>exact⟨r,rfl,h2⟩
   obtain⟨r,zf,hend⟩:=hfin
   have hE:=hh ea WH pins _ σ _ { nx:=fun _ _=>False,rt:=E.rt } (I6.clause ea) ⟨ρ,Hi',R7,by
    rw[zf]
    cases r with
    | v d=>exact hend
    | f ds=>exact hend⟩
   refine wpAny_mono hE (fun fl s8 q=>?_) fun _ _ z=>False.elim z
   cases fl with
   | next=>obtain⟨_,_,_,q⟩:=q;exact q.elim
   | ret v=>
    obtain⟨v',σ2,H2,I9,r9,q⟩:=q;exact⟨v',σ2,H2,Inv.unclause I.ok I9,r9,q⟩
   | brk=>obtain⟨_,_,_,q⟩:=q;exact q.elim
   | cont=>obtain⟨_,_,_,q⟩:=q;exact q.elim
  ·rw[if_neg htb] at h2;exact h2.elim
 ·cases f with
  | next=>exact wpAny_execs_nil q
  | ret v=>exact q
  | brk=>exact q
  | cont=>exact q
end
end L3
namespace L3
open PySem PySem.Spec PyProof.Rows L2 PySem.W
unseal PEd PEf PTd PWd PAd PSd dJ POd PGd gH PId PSx jL PTs PCd PCf
section
variable{X:Cx}{G:Gx}{fa fb fm:Ev}{pos:Pos}
theorem zOA{i:Nat}{o o2 z0 ea eb em:Expr}{apos cpos apos2 cpos2 p1 p2 p3:Pos}(ho:PE X o (zDg i))(ho2:PE X o2 (zDg i))(hz:PEd X G z0 (eC (.int 0)))(ha:PEd X G ea fa)(hb:PEd X G eb fb)(hm:PEd X G em fm)
  (hbase:attributeBase o "append" X.env (eval o X.env)=eval o X.env:=by rfl)
  (hfew:((backTo cpos (starEach [.BinOp (.BinOp (.BinOp (.Call (.Attribute o2 "pop" apos2) [z0] [] cpos2) .Mult ea p1) .Add eb p2) .Mod em p3] X.env)).all (fun x=>!x.1) && (backToKw cpos (keywordEach [] X.env)).all (fun x=>x.1.isSome)
   && decide ([(.BinOp (.BinOp (.BinOp (.Call (.Attribute o2 "pop" apos2) [z0] [] cpos2) .Mult ea p1) .Add eb p2) .Mod em p3:Expr)].length+([]:List Keyword).length+(if ([]:List Keyword).isEmpty then 0 else 1)<30))=true:=by rfl)
  (hline:(apos.endLine==cpos.line)=true:=by rfl) (hs:starEach [.BinOp (.BinOp (.BinOp (.Call (.Attribute o2 "pop" apos2) [z0] [] cpos2) .Mult ea p1) .Add eb p2) .Mod em p3] X.env=(false,eval (.BinOp (.BinOp (.BinOp (.Call (.Attribute o2 "pop" apos2) [z0] [] cpos2) .Mult ea p1) .Add eb p2) .Mod em p3) X.env)::starEach [] X.env:=by rfl)
  (hbase2:attributeBase o2 "pop" X.env (eval o2 X.env)=eval o2 X.env:=by rfl)
  (hfew2:((backTo cpos2 (starEach [z0] X.env)).all (fun x=>!x.1) && (backToKw cpos2 (keywordEach [] X.env)).all (fun x=>x.1.isSome)
   && decide ([z0].length+([]:List Keyword).length+(if ([]:List Keyword).isEmpty then 0 else 1)<30))=true:=by rfl)
  (hline2:(apos2.endLine==cpos2.line)=true:=by rfl) (hs2:starEach [z0] X.env=(false,eval z0 X.env)::starEach [] X.env:=by rfl)
  (hsw:swapsWith (.Call (.Attribute o "append" apos) [.BinOp (.BinOp (.BinOp (.Call (.Attribute o2 "pop" apos2) [z0] [] cpos2) .Mult ea p1) .Add eb p2) .Mod em p3] [] cpos) none pos.line X.env=pure false:=by rfl):
  PSd X G (.Expr (.Call (.Attribute o "append" apos) [.BinOp (.BinOp (.BinOp (.Call (.Attribute o2 "pop" apos2) [z0] [] cpos2) .Mult ea p1) .Add eb p2) .Mod em p3] [] cpos) pos) (zEt i fa fb fm):=
 PS.wk (xT (zIS Y6 Wq Wr pL ho (jK (zBd bJ (zBd cI (zBd cS (zIS Y6 PySem.F.slot_list_pop PySem.F.type_list_pop zIw ho2 (jK hz nH hs2) hbase2 hfew2 hline2 hs2) ha) hb) hm) nH hs) hbase hfew hline hs) hsw) fun E σ H q=>by
 obtain⟨ρ,Hi,R,h⟩:=q;unfold zEt at h
 cases z:ρ[i]? with
 | none=>rw[z] at h;exact h.elim
 | some s=>
  rw[z] at h
  cases s with
  | own ds=>
   cases ds with
   | nil=>exact h.elim
   | cons y r=>
    obtain⟨a,xs,p,h1,h2,h3,h4⟩:=R.slot i _ z
    cases h4 with
    | cons hy hr=>
     rename_i v vs
     have hlen:i<ρ.length:=by
      by_cases hl:i<ρ.length
      ·exact hl
      ·rw[Qz (by omega)] at z;cases z
     have z':(ρ.set i (.own r))[i]?=some (.own r):=Vh hlen;refine⟨.ref a,p,.inl ⟨rfl,_,SqL.of h1⟩,?_⟩
     refine⟨.ref a,p,.inl ⟨rfl,_,SqL.of h1⟩,?_⟩
     refine⟨ρ,Hi,R,?_⟩
     intro Hi0 H0 e0 v0 r0;have hv0:=r0.intI;subst hv0;refine⟨a,v::vs,0,0,v,rfl,rfl,(e0.out h1 h2).1,by decide,by decide,?_,rfl,?_⟩
     ·unfold seqIndex?
      simp
     have R1:kK X G Hi0 (upd H0 a (.lst vs)) σ (ρ.set i (.own r)):=(R.grow e0).write z p (hr.mono e0.i);refine⟨ρ.set i (.own r),Hi0,R1,kI R1 (Fin.mono h e0.i) fun d1 Hi1 H1 _ e1 k1 w1 s1=>?_⟩
     have R2:=R1.grow e1
     cases zm:qA y d1 with
     | no=>rw[zm] at k1;exact k1.elim
     | err c=>exact absurd zm (jJ (X:=X).1 y d1 c)
     | ok u=>
      rw[zm,Res.ok_bind] at k1;refine jJ.2 Hi1 H1 v w1 y d1 u _ R2.s ((hy.mono e0.i).mono e1.i) s1 zm fun v2 Hi2 H2 e2 s2=>?_
      have R3:=R2.grow e2;refine⟨ρ.set i (.own r),Hi2,R3,kI R3 (Fin.mono k1 e2.i) fun d3 Hi3 H3 _ e3 k3 w3 s3=>?_⟩
      have R4:=R3.grow e3
      cases za:nZ u d3 with
      | no=>rw[za] at k3;exact k3.elim
      | err c=>exact absurd za (iK (X:=X).1 u d3 c)
      | ok w=>
       rw[za,Res.ok_bind] at k3;refine iK.2 Hi3 H3 v2 w3 u d3 w _ R4.s (s2.mono e3.i) s3 za fun v4 Hi4 H4 e4 s4=>?_
       have R5:=R4.grow e4;refine⟨ρ.set i (.own r),Hi4,R5,kI R5 (Fin.mono k3 e4.i) fun d5 Hi5 H5 _ e5 k5 w5 s5=>?_⟩
       have R6:=R5.grow e5
       cases zo:jZ w d5 with
       | no=>rw[zo] at k5;exact k5.elim
       | err c=>exact absurd zo (eD (X:=X).1 w d5 c)
       | ok v'=>
        rw[zo,Res.ok_bind] at k5;refine eD.2 Hi5 H5 v4 w5 w d5 v' _ R6.s (s4.mono e5.i) s5 zo fun v6 Hi6 H6 e6 s6=>?_
        have R7:=R6.grow e6;have k6:Fin X G Hi6 E (if r.length<16777216 then Res.ok (Fl.nx (ρ.set i (.own (r++[v'])))) else .no):=Fin.mono k5 e6.i;obtain⟨a',xs',p',g1,g2,g3,g4⟩:=R7.slot i _ z';rw[p] at p';cases p'
        by_cases hzz:r.length<16777216
        ·rw[if_pos hzz] at k6
         refine⟨a,xs',v6,rfl,rfl,g1,by rw[g4.length];exact hzz,?_⟩
         have R8:=R7.write z' p (g4.append (.cons s6 .nil));rw[List.set_set] at R8;exact k6 σ Hi6 _ (Same.refl _) R8
        ·rw[if_neg hzz] at k6;exact k6.elim
  | un=>exact h.elim
  | val d=>exact h.elim
  | exc c=>exact h.elim
  | tab T=>exact h.elim
end
end L3
namespace PySem.W.Fast
def tw7516007941252571700:=0
def tw14068051511254099666:=0
def tw2775207557712923574:=0
def tw2450740536475167523:=0
def tw13969295061911085272:=0
def tw5730152409729039835:=0
def tw10001799726919222899:=0
def tw16641869314553688197:=0
def tw6070636560601422175:=0
def tw18301302871859259072:=0
def tw4783571174804501740:=0
def tw7047272096510589122:=0
def tw3317765473974530504:=0
def tw2386519462878090072:=0
def tw15440556957221869346:=0
def tw4025707490533037819:=0
def tw149404545943539818:=0
def tw2586107337645604718:=0
def tw2973306035406112389:=0
def tw2692647207473318846:=0
def tw1679364050441576638:=0
def tw13192728710177055014:=0
def tw14606268333390534613:=0
def tw4148615314302471107:=0
def tw2661913913338731066:=0
def tw2029830550683444353:=0
def tw7277047307728123583:=0
def tw10632389465273982343:=0
def tw2997001754743413152:=0
def tw6617622235170125213:=0
def tw15528775681219314584:=0
def tw7304179637941015498:=0
def tw17765171979180018217:=0
def tw14050788739328190973:=0
def tw7373180607661606866:=0
def tw10534383979020757273:=0
def tw2081390280569137203:=0
def tw11911349550732366735:=0
def tw5919159433992867596:=0
def tw12875319386489503094:=0
def tw15491913902849367371:=0
def tw13616782515445617945:=0
def tw4233704127267710074:=0
def tw13650089004423197765:=0
def tw12307636905853791236:=0
def tw15346435302975448267:=0
def tw4021725034542787566:=0
def tw15874197663906582968:=0
def tw16071268598078623860:=0
def tw17398367816157256058:=0
def tw4470772125534715457:=0
def tw13724056955863791472:=0
def tw7850272494626782797:=0
def tw1007867382122214671:=0
def tw14844841274560665280:=0
def tw7303993208222163785:=0
def tw376539217056481416:=0
def tw7100281444468185283:=0
def tw8155916150782324599:=0
def tw16942654185924451051:=0
def tw17897661829852433813:=0
def tw8896167168206526251:=0
def tw11829696754968717058:=0
def tw13386474356497779959:=0
def tw6752000730231496408:=0
def tw1490069149519557116:=0
def tw7104583871410901831:=0
def tw4930144332042415979:=0
def tw15628706720589331970:=0
def tw8750956708173981481:=0
def tw14048712530177572221:=0
def tw7334041742366570626:=0
def tw16553444709017906559:=0
def tw7033467589554127717:=0
def tw3518807757023603510:=0
def tw4647415672085275720:=0
def tw14047914137399590363:=0
def tw14602830347856135266:=0
def tw5751654066468569183:=0
def tw2748632970471076664:=0
def tw1764212401947517696:=0
def tw6296721325177873232:=0
def tw7173996570417784681:=0
def tw13750538457627531734:=0
def tw15707484970673860017:=0
def tw16017033836698118603:=0
def tw15495943406576507846:=0
def tw18118568909304487723:=0
def tw8548063644535907912:=0
def tw5193967090101554122:=0
def tw3933178421025938265:=0
def tw4374296170568540542:=0
def tw7578140185127560635:=0
def tw1129288812851840892:=0
def tw10608617229629952668:=0
def tw9017119858530102647:=0
def tw15756149914971626909:=0
def tw7937599643425686542:=0
def tw768259085685222949:=0
def tw18103334967700825143:=0
def tw9245869481119912119:=0
def tw5912327112388094574:=0
def tw13037656664936823820:=0
def tw16744666343186118211:=0
def tw11506153732945102603:=0
def tw1361646139112516010:=0
def tw8850107861563058396:=0
def tw8715178160586039754:=0
def tw4611947539903350460:=0
def tw13302730595351064004:=0
def tw13174778977665251073:=0
def tw10316665840873486577:=0
def tw9644227788167641563:=0
def tw8740444006407920900:=0
def tw15469843515566568730:=0
def tw625113557341863660:=0
def tw12345244640327903980:=0
def tw5113562936073943154:=0
def tw2435544169992680584:=0
def tw1636431450634515152:=0
def tw10442362292055906199:=0
def tw2339367417678361208:=0
def tw16238664967238712650:=0
def tw10507545871873909203:=0
def tw606847196944832313:=0
def tw15055176150953742504:=0
def tw15964097503354195351:=0
def tw16151381837109662125:=0
def tw17948588310745847479:=0
def tw8391936269746974211:=0
def tw14139435169075816474:=0
def tw649896164778018941:=0
def tw10781000924573086952:=0
def tw4298485652367187612:=0
def tw17414468611883333446:=0
def tw1426816517903452407:=0
def tw7159981716475282003:=0
def tw15649840472227632809:=0
def tw13000897748223582313:=0
def tw6153255995835508307:=0
def tw7892894145678528445:=0
def tw292763130547648958:=0
def tw10590808485937190752:=0
def tw14907393953036824780:=0
def tw17389950983852193796:=0
def tw2065898289595945729:=0
def tw12178861342392817493:=0
def tw9486676480228086794:=0
def tw7245472521207077856:=0
def tw16915510376646100747:=0
def tw10327792859451421821:=0
def tw14951049366395512886:=0
def tw7179739127365088670:=0
def tw10109954112510752178:=0
def tw18396941509536914234:=0
def tw7943841110423987881:=0
def tw1545640682103393917:=0
def tw16384973733550638842:=0
def tw9405358457436398505:=0
def tw14691292110144405563:=0
def tw14961596757805294236:=0
def tw17433728742297559742:=0
def tw7503770187249830404:=0
def tw7350046331385401359:=0
def tw6712687101894454746:=0
def tw9095170478170821631:=0
def tw13939624317539895723:=0
def tw1191613860461030830:=0
def tw13705470281706702989:=0
def tw3859675046538706633:=0
def tw5171801025094065756:=0
def tw14114273716754150507:=0
def tw15834404034931718594:=0
def tw2603616143014517518:=0
def tw2203401543214208791:=0
def tw1074104896737536397:=0
def tw11760830661552232708:=0
def tw9610831162042961244:=0
def tw16664775504483123891:=0
def tw3276568260915939504:=0
def tw13607618124069584130:=0
def tw6565456911745002648:=0
def tw4798237581210265630:=0
def tw8036819672654883179:=0
def tw15229638669809707320:=0
def tw496356411600115706:=0
def tw9546271047031050852:=0
def tw7444202368767173997:=0
def tw17189804708023460627:=0
def tw10493169680533748934:=0
def tw10395275851526210233:=0
def tw5821781959094425989:=0
def tw6760168663553525128:=0
def tw15124905452943248750:=0
def tw6265935551101224233:=0
def tw4259012304863336623:=0
def tw17880528522892687364:=0
def tw8016842085862724080:=0
def tw8408855800826634300:=0
def tw4835228654125888639:=0
def tw1385977510820695586:=0
def tw1493730344943428060:=0
def tw18395227025728453874:=0
def tw11843426360969738650:=0
def tw1278983790202062235:=0
def tw5744966154469168040:=0
def tw18299579257590598376:=0
def tw12477475436131088986:=0
def tw2561107437722938966:=0
def tw65064554772004449:=0
def tw12052533877509200393:=0
def tw11955583789839210010:=0
def tw3164463884986782554:=0
def tw8459180089273446841:=0
def tw18037898167663843810:=0
def tw8659219958916107688:=0
def tw4147525426743798589:=0
def tw3403702504667493334:=0
def tw1236308645707077255:=0
def tw15560612058474918667:=0
def tw10235297599073584578:=0
def tw16524505407464047165:=0
def tw3809953067925124463:=0
def tw13385084812805111051:=0
def tw2104878715867134461:=0
def tw2743870294976350034:=0
def tw17939568887552487737:=0
def tw3825816630836354185:=0
def tw9911516956424756443:=0
def tw12885590171977491165:=0
def tw3313784149340224099:=0
def tw14876325848003910088:=0
def tw16654289254102888018:=0
def tw16368909805272896894:=0
def tw12867571093120488317:=0
def tw11727908389605559119:=0
def tw15551354754208432620:=0
def tw8917642330001416851:=0
def tw7798302252711777672:=0
def tw1286758146959614661:=0
def tw16604102645194589544:=0
def tw15674119403506380558:=0
def tw16689896582017119342:=0
def tw4277061479195242518:=0
def tw4026612481661932213:=0
def tw11410856103393969648:=0
def tw13986890590223089875:=0
def tw4238312330376878288:=0
def tw5018472773986982920:=0
def tw1389844456120529540:=0
def tw6707539062424130743:=0
def tw15240593781538129120:=0
def tw1223731733405973798:=0
def tw16258103301662848429:=0
def tw3303967417258786776:=0
def tw7798724873102236060:=0
def tw17172755371689270577:=0
def tw5828238190787348755:=0
def tw7471635365966162828:=0
def tw3569041377450353926:=0
def tw11103122929139960960:=0
def tw10320994092048478195:=0
def tw10169758324755546262:=0
def tw143218004089805876:=0
def tw2914753389944764291:=0
def tw8647941628373952627:=0
def tw13402879919555844554:=0
def tw11605427169882509340:=0
def tw17913322272524653791:=0
def tw8171950088374625163:=0
def tw15687505008837712572:=0
def tw15593784305460046112:=0
def tw18110716319820426803:=0
def tw9163688669506960338:=0
def tw15889924496900715861:=0
def tw2629541748713597587:=0
def tw3586116653544404678:=0
def tw16733131401747928767:=0
def tw14467628574547658072:=0
def tw5378337097391188299:=0
def tw16547535252287728659:=0
def tw7755807763488732490:=0
def tw8371031543486067917:=0
def tw17016040367421194868:=0
def tw12392490524209003660:=0
def tw12674630354586274794:=0
def tw16026569095612152807:=0
def tw5360295956464185185:=0
def tw8900624730255340038:=0
def tw907777782700159185:=0
def tw10832720192333753179:=0
def tw5775866569111459137:=0
def tw164023184639002601:=0
def tw16743842290178419968:=0
def tw7806319774762228273:=0
def tw18331522555191274749:=0
def tw2801243351229564061:=0
def tw12448799394120674431:=0
def tw1172316560908493463:=0
def tw341122264509880638:=0
def tw5583943829304505804:=0
def tw16310809058546142381:=0
def tw569235544875491491:=0
def tw7043426357221126433:=0
def tw171103415272478956:=0
def tw14904983670062050836:=0
def tw7671731895325135460:=0
def tw13070059602074217572:=0
def tw12127799154419269764:=0
def tw119234015530889334:=0
def tw6375865009220989812:=0
def tw411380717140995291:=0
def tw12886496833859442033:=0
def tw5849337153039155723:=0
def tw18133877603883082124:=0
def tw9653364764346126035:=0
def tw12402295767606992462:=0
def tw15602094805970064599:=0
def tw18212928084189649749:=0
def tw3526448259416639890:=0
def tw1078684168670117508:=0
def tw15537267807071988198:=0
def tw7940431781618547187:=0
def tw7709929537582413307:=0
def tw16072319759531961187:=0
def tw1321664944130963250:=0
def tw2390578069232715764:=0
def tw7345916834178868987:=0
def tw601793374205348069:=0
def tw1645205248407309845:=0
def tw7970232791141633986:=0
def tw1616465371891535818:=0
def tw18428741926069014191:=0
def tw3817406156071908400:=0
def tw17530168994338578931:=0
def tw3818344324102593119:=0
def tw13672574551673724802:=0
def tw4862605862803390369:=0
def tw12998701365072884984:=0
def tw17091356131712058228:=0
def tw17539090847296580685:=0
def tw10036702317346987681:=0
def tw1030713464926626085:=0
def tw5555666008812912982:=0
def tw5714299017153802198:=0
def tw5878959327371016691:=0
def tw9157525602247883779:=0
def tw4799745463222695524:=0
def tw24526480828952884:=0
def tw17641887976251848236:=0
def tw6445352552653136081:=0
def tw8423056730505932330:=0
def tw9191543275940197282:=0
def tw10871361708028901267:=0
def tw938833096858654563:=0
def tw9546044722737742781:=0
def tw13171361918314154886:=0
def tw2088434564194637131:=0
def tw3919108446561421643:=0
def tw1586252561506143520:=0
def tw15260962029760130701:=0
def tw13284667764624114610:=0
def tw15230916827778970151:=0
def tw11228791032277873594:=0
def tw5276877414757630993:=0
def tw7054832509402039963:=0
def tw4897697044012819597:=0
def tw3680165910294168451:=0
def tw2619088396246793078:=0
def tw14151501201743448866:=0
def tw188108638138055197:=0
def tw2686206891593804845:=0
def tw574376255277346593:=0
def tw12898699939930663589:=0
def tw11653221754017749202:=0
def tw1388191978603775686:=0
def tw4944736148041622908:=0
def tw2933930073130294999:=0
def tw3031892210479837002:=0
def tw6526479063008872997:=0
def tw15664336146955174887:=0
def tw4134253175222361642:=0
def tw1930113593260779081:=0
def tw4900849950774719894:=0
def tw5821206514423348146:=0
def tw15928263632429169354:=0
def tw13964108067974717465:=0
def tw15760754455723516258:=0
def tw17583483593883207250:=0
def tw533795816797353944:=0
def tw4470497019881917709:=0
def tw943544913460756470:=0
def tw10772577841310231790:=0
def tw17100035148441588622:=0
def tw2272110533815239281:=0
def tw17096982011782519206:=0
def tw13708649024471685571:=0
def tw3728896685009394151:=0
def tw15463900541471280790:=0
def tw5489569091033290170:=0
def tw3920428399190792075:=0
def tw11406484084966581535:=0
def tw8220351678343687924:=0
def tw10121968259889561117:=0
def tw4550169916056607624:=0
def tw3799425162128465912:=0
def tw1331686174771746452:=0
def tw307296812276669355:=0
def tw9112025491651172732:=0
def tw5727832125987040713:=0
def tw11950286569911759167:=0
def tw5533005141433518208:=0
def tw11993869041785407139:=0
def tw1913985351213822885:=0
def tw1509420413797096912:=0
def tw1889486445095911924:=0
def tw7403951240609912920:=0
def tw14425843352600073069:=0
def tw14530248196157488439:=0
def tw17575971625179920193:=0
def tw6779811882711680770:=0
def tw728586525860318899:=0
def tw9195871191833256794:=0
def tw1297215841293803894:=0
def tw17573853401395440099:=0
def tw7525278637920824183:=0
def tw3904156717198048047:=0
def tw17759356003368761207:=0
def tw12748820217836902051:=0
def tw206561945349545974:=0
def tw7989778347305290438:=0
def tw7163730122896662885:=0
def tw6427805052718527019:=0
def tw3167868292521411842:=0
def tw15056152663524658189:=0
def tw13740763234745449316:=0
def tw12409480704719153962:=0
def tw6469838562350008545:=0
def tw1953415948727261878:=0
def tw11867424803453339421:=0
def tw1854840943237686828:=0
def tw547950302401376253:=0
def tw7780385333191724534:=0
def tw2325533382551802301:=0
def tw10570417642051971110:=0
def tw13585250427964205108:=0
def tw5751952128127154669:=0
def tw14393194875580833332:=0
def tw4992380680495493792:=0
def tw12293107186204767358:=0
def tw17916359987945758400:=0
def tw13589232428030655250:=0
def tw1466957504142172861:=0
def tw6686917090120045449:=0
def tw10898535972974461422:=0
def tw14339449643388797247:=0
def tw16111228458307735036:=0
def tw14412918620700829493:=0
def tw16731750810382867142:=0
def tw15401699726905415284:=0
def tw4568502191380634679:=0
def tw13234058360326097015:=0
def tw15092711703302326403:=0
def tw10628923168852675586:=0
def tw6249333482539861931:=0
def tw7427200879398410377:=0
def tw15118691321136913259:=0
def tw9536547113453619201:=0
def tw15249662244545182198:=0
def tw900847185913095917:=0
def tw11977284064283336444:=0
def tw14680684410387943655:=0
def tw12452130262041105699:=0
def tw12955112396526370744:=0
def tw4513540941474343633:=0
def tw8108130786745339331:=0
def tw7399224015670761467:=0
def tw3056185532825522731:=0
def tw1863127687038726775:=0
def tw9805755552685423936:=0
def tw15522286187319648448:=0
def tw5738206807577785762:=0
def tw7038647092736113680:=0
def tw4662094623071175766:=0
def tw6806431073401721052:=0
def tw8347151670285014517:=0
def tw16385723381081043641:=0
def tw114519848288470646:=0
def tw14912769763505824840:=0
def tw5595740359595350596:=0
def tw13391002747903825080:=0
def tw17408253297996522137:=0
def tw2259841777066950795:=0
def tw435129277405450677:=0
def tw11973180379671652413:=0
def tw4091796501423976699:=0
def tw11975028855395003508:=0
def tw2954141156050189894:=0
def tw6869759469392437414:=0
def tw18232031495652117486:=0
def tw4666578600179515240:=0
def tw6296981370022129354:=0
def tw15672027110725013525:=0
def tw15542923685553319399:=0
def tw6892296649944326:=0
def tw11683853939031846546:=0
def tw9740646961917530763:=0
def tw9585098134479412028:=0
def tw14209629722932913469:=0
def tw17338604268360145093:=0
def tw16052292298369470207:=0
def tw2445090574662671893:=0
def tw3789895069027570539:=0
def tw4408536499035932947:=0
def tw7762393236670150329:=0
def tw8713445149510677351:=0
def tw5028953546538161512:=0
end PySem.W.Fast
namespace Lw
open L3 PySem
def tbT:List Str:=[]
def zRs:List (Str×List Str):=[]
def mJ:D:=(.tup [(.int 0),(.int 1)])
def bA:List (Str×Str):=[("row","back"),("back","row"),("even","lack"),("lack","even"),("part","part"),("half","half")]
def d_WEIGHTED:D:=(.tup [(.str "even"),(.str "lack")])
def d_HALF:D:=(.tup [(.int 1),(.int 2)])
def d_BOAT:D:=(.str "boat")
def d_MOST_BOATS:D:=(.int 12)
def d_DEEPEST:D:=(.int 8)
def d_CATCH:D:=(.str "catch")
def d_OVER:D:=(.str "over")
def d_PAIR:D:=(.str "pair")
abbrev pH:Sv:=(cW 1 (aE 2))
abbrev pT:Sv:=(bB (cW 0 (aE 1)) pH)
abbrev pB:Sv:=(bB (cW 2 (eOp jZ (aE 0) (aE 1))) pT)
abbrev pI:Sv:=(eX (aE 0))
abbrev oZ:Sv:=(bB (fE (dL (eOp oNe (aE 1) (eC (.int 0)))) pB) pI)
abbrev oR:Sv:=(bB (cW 1 (eB zMr (aB (aE 1) aNil))) oZ)
def dF:Mir:=fn 2 3 (bB (cW 0 (eB zMr (aB (aE 0) aNil))) oR)
def bU:Mir:=fn 1 1 (eX (qX (aB (aE 0) (aB (eC (.int 1)) aNil))))
def lT:Mir:=fn 2 2 (eX (eOp oLt (eOp qA (eOp oIx (aE 0) (eC (.int 0))) (eOp oIx (aE 1) (eC (.int 1)))) (eOp qA (eOp oIx (aE 1) (eC (.int 0))) (eOp oIx (aE 0) (eC (.int 1))))))
abbrev xA:Sv:=(cW 1 (eOp qA (aE 1) (eOp oIx (aE 2) (eC (.int 1)))))
abbrev zAS:Sv:=(cW 1 (eC (.int 1)))
abbrev uL:Sv:=(rX (uW (aE 0)) (gName 2) xA)
def mH:List D->Res (List Int):=yN zAS uL
def cP:Mir:=fn 1 1 (sIf (dL (eUn (qM bA) (aE 0))) (jO "BadWay" (aB (eC (.str "no such way")) aNil)) sNext)
abbrev qH:Sv:=(sIf (dL (eOp oLt (aE 1) (eC (.int 0)))) (jO "BadClaim" (aB (eC (.str "a claim is below nought")) aNil)) sNext)
abbrev qW:Sv:=(rX (uW (aE 0)) (gName 1) qH)
def dQ:Mir:=fn 1 2 (bB (sIf (dL (eOp oEq (eB jM (aB (aE 0) aNil)) (eC (.int 0)))) (jO "BadClaim" (aB (eC (.str "there is no claim")) aNil)) sNext) qW)
abbrev pF:Sv:=(sIf (zEX (dL (eOp oLt (aE 4) (eC (.int 1)))) (dL (eOp oGt (aE 4) (eOp zBy (eC (.int 10)) (eC (.int 6)))))) (jO "BadWeights" (aB (eC (.str "a weight is not from 1 to 10 ** 6")) aNil)) sNext)
abbrev fG:Sv:=(rX (uW (aE 1)) (gName 4) pF)
abbrev jA:Sv:=(bB (sIf (dL (eOp oNe (eB jM (aB (aE 1) aNil)) (aE 3))) (jO "BadWeights" (aB (eC (.str "more or fewer weights than are due")) aNil)) sNext) fG)
def aY:Mir:=fn 3 5 (bB (cW 3 (eIf (dL (eOp oIn (aE 0) (eC d_WEIGHTED))) (aE 2) (eC (.int 0)))) jA)
abbrev zII:Sv:=(eX (qX (aB (eC d_BOAT) (aB (aE 0) aNil))))
def zBG:Mir:=fn 1 1 (bB (sIf (zEX (dL (eOp oLt (aE 0) (eC (.int 0)))) (dL (eOp oGt (aE 0) (eOp zBy (eC (.int 10)) (eC (.int 9)))))) (jO "BadClaim" (aB (eC (.str "a boat's claim is not from 0 to 10 ** 9")) aNil)) sNext) zII)
def bZ:Mir:=fn 1 1 (eX (eOp oEq (eOp oIx (aE 0) (eC (.int 0))) (eC d_BOAT)))
def iT:Mir:=fn 1 1 (eX (eOp oIx (aE 0) (eC (.int 0))))
def cZ:Mir:=fn 1 1 (eX (eOp oIx (aE 0) (eC (.int 1))))
abbrev uG:Sv:=(eX (eC (.int 0)))
def dD:Mir:=fn 2 2 (bB (sIf (dL (eOp oLt (aE 1) (eB jM (aB (aE 0) aNil)))) (eX (eOp oIx (aE 0) (aE 1))) sNext) uG)
abbrev wC:Sv:=(cW 1 (aE 2))
abbrev vW:Sv:=(bB (cW 0 (aE 1)) wC)
abbrev vO:Sv:=(bB (cW 2 (eOp jZ (aE 0) (aE 1))) vW)
abbrev nA:Sv:=(eX (aE 0))
def gF:Mir:=fn 2 3 (bB (fE (dL (eOp oGt (aE 1) (eC (.int 0)))) vO) nA)
abbrev yK:Sv:=(eX (eOp oIx (aE 2) (eOp jZ (eOp nZ (aE 1) (eOp lY (eOp jZ (aE 0) (eC (.int 7))) (eC (.int 5)))) (eC (.int 4)))))
def hU:Mir:=fn 2 3 (bB (cW 2 (eF (nQ (aB (eOp jZ (eOp lY (aE 0) (eC (.int 7))) (eC (.int 13))) (aB (eOp jZ (eOp lY (aE 0) (eC (.int 7))) (eC (.int 4))) (aB (eOp jZ (eOp lY (aE 0) (eC (.int 7))) (eOp nZ (eOp zBy (eC (.int 10)) (eC (.int 9))) (eC (.int 1)))) (aB (eOp qA (eOp jZ (eOp lY (aE 0) (eC (.int 91))) (eC (.int 60))) (eOp zBy (eC (.int 10)) (eC (.int 6)))) aNil))))))) yK)
abbrev jG:Sv:=(sIf (tFrzB (dL (eOp oLt (eB jM (aB (aE 3) aNil)) (aE 2)))) (zGS 3 (aE 4)) (zEt 3 (eC (.int 10007)) (aE 4) (eOp zBy (eC (.int 10)) (eC (.int 45)))))
abbrev nG:Sv:=(gM 3)
abbrev vK:Sv:=(bB (rX (uW (eF (zLs (eF (nQ (aB (eC (.int 7)) aNil))) (eF (fSl (aE 0) (oS (aE 1)) oN))))) (gName 4) jG) nG)
def gG:Mir:=fn 3 5 (bB (zBQ 3 (nQ aNil)) vK)
abbrev zIU:Sv:=(eX (qX (aB (eOp lY (aE 0) (aE 2)) (aB (eOp lY (aE 1) (aE 2)) aNil))))
abbrev zJw:Sv:=(bB (sIf (dL (eOp oLt (aE 1) (eC (.int 0)))) (cW 2 (eUn zOE (aE 2))) sNext) zIU)
abbrev zJs:Sv:=(bB (cW 2 (aN dF (aB (aE 0) (aB (aE 1) aNil)))) zJw)
def iL:Mir:=fn 2 3 (bB (sIf (dL (eOp oEq (aE 1) (eC (.int 0)))) (jO "NoFraction" (aB (eC (.str "the bottom is nought")) aNil)) sNext) zJs)
def kL:Mir:=fn 2 2 (eX (eIf (dL (aN lT (aB (aE 0) (aB (aE 1) aNil)))) (aE 0) (aE 1)))
def bO:Mir:=fn 2 2 (eX (eOr (aN lT (aB (aE 0) (aB (eC mJ) aNil))) (aN lT (aB (aE 1) (aB (aE 0) aNil)))))
abbrev zEq:Sv:=(sJ (aN aY (aB (aE 0) (aB (aE 1) (aB (eB jM (aB (aE 2) aNil)) aNil)))))
abbrev zED:Sv:=(bB (sJ (aN dQ (aB (aE 2) aNil))) zEq)
def oC:Mir:=fn 3 3 (bB (sJ (aN cP (aB (aE 0) aNil))) zED)
def aV:Mir:=fn 1 1 (eX (eIf (dL (aN bZ (aB (aE 0) aNil))) (qX aNil) (eOp oIx (aE 0) (eC (.int 2)))))
abbrev zBN:Sv:=(eX (qX (aB (eOp lY (aE 0) (aE 2)) (aB (eOp lY (aE 1) (aE 2)) aNil))))
def dW:Mir:=fn 2 3 (bB (cW 2 (aN gF (aB (eB zMr (aB (aE 0) aNil)) (aB (aE 1) aNil)))) zBN)
def kR:Mir:=fn 2 2 (eX (aN iL (aB (eOp nZ (eOp qA (eOp oIx (aE 0) (eC (.int 0))) (eOp oIx (aE 1) (eC (.int 1)))) (eOp qA (eOp oIx (aE 1) (eC (.int 0))) (eOp oIx (aE 0) (eC (.int 1))))) (aB (eOp qA (eOp oIx (aE 0) (eC (.int 1))) (eOp oIx (aE 1) (eC (.int 1)))) aNil))))
def gY:Mir:=fn 2 2 (eX (aN iL (aB (eOp zBS (eOp qA (eOp oIx (aE 0) (eC (.int 0))) (eOp oIx (aE 1) (eC (.int 1)))) (eOp qA (eOp oIx (aE 1) (eC (.int 0))) (eOp oIx (aE 0) (eC (.int 1))))) (aB (eOp qA (eOp oIx (aE 0) (eC (.int 1))) (eOp oIx (aE 1) (eC (.int 1)))) aNil))))
def kG:Mir:=fn 2 2 (eX (aN iL (aB (eOp qA (eOp oIx (aE 0) (eC (.int 0))) (eOp oIx (aE 1) (eC (.int 0)))) (aB (eOp qA (eOp oIx (aE 0) (eC (.int 1))) (eOp oIx (aE 1) (eC (.int 1)))) aNil))))
def uH:Mir:=fn 2 2 (eX (aN iL (aB (eOp qA (eOp oIx (aE 0) (eC (.int 0))) (eOp oIx (aE 1) (eC (.int 1)))) (aB (eOp qA (eOp oIx (aE 0) (eC (.int 1))) (eOp oIx (aE 1) (eC (.int 0)))) aNil))))
def bM:Mir:=fn 2 2 (sIf (dL (aN bO (aB (aE 0) (aB (aE 1) aNil)))) (jO "Outside" (aB (eC (.str "below nought, or more than there can be")) aNil)) sNext)
def fU:Mir:=fn 2 2 (lJ (wO (zMx (aB (aE 1) (aB (aE 0) aNil))) (aN iL (aB (aE 2) (aB (aE 3) aNil)))))
abbrev zEA:Sv:=(cW 0 (eOp oIx (aE 3) (aE 2)))
abbrev zEC:Sv:=(bB (sIf (zEX (dL (eOp oLt (aE 2) (eC (.int 0)))) (dL (eOp oGe (aE 2) (eB jM (aB (aE 3) aNil))))) (jO "Outside" (aB (eC (.str "there is no such kid")) aNil)) sNext) zEA)
abbrev qT:Sv:=(bB (cW 3 (aN aV (aB (aE 0) aNil))) zEC)
abbrev zEo:Sv:=(eX (aE 0))
def oV:Mir:=fn 2 4 (bB (rX (uW (aE 1)) (gName 2) qT) zEo)
def bQ:Mir:=fn 2 2 (eX (aN dW (aB (eOp nZ (eOp qA (eOp oIx (aE 0) (eC (.int 0))) (eOp oIx (aE 1) (eC (.int 1)))) (eOp qA (eOp oIx (aE 1) (eC (.int 0))) (eOp oIx (aE 0) (eC (.int 1))))) (aB (eOp qA (eOp oIx (aE 0) (eC (.int 1))) (eOp oIx (aE 1) (eC (.int 1)))) aNil))))
abbrev xW:Sv:=(eX (aN dW (aB (eOp jZ (eOp lY (aE 1) (eC (.int 485))) (eOp nZ (eOp qA (aE 0) (aE 2)) (eC (.int 1)))) (aB (aE 2) aNil))))
abbrev zQ:Sv:=(bB (cW 2 (eOp oIx (eF (nQ (aB (eC (.int 1)) (aB (eC (.int 1)) (aB (eC (.int 2)) (aB (eC (.int 12)) (aB (eOp nZ (eC (.int 1)) (eOp jZ (eOp lY (aE 1) (eC (.int 5))) (eC (.int 97)))) aNil))))))) (eOp jZ (aE 1) (eC (.int 5))))) xW)
def cQ:Mir:=fn 2 3 (bB (cW 1 (eOp jZ (aE 1) (eOp zBy (eC (.int 10)) (eC (.int 40))))) zQ)
abbrev zHg:Sv:=(cW 1 (aN kR (aB (aE 1) (aB (aE 2) aNil))))
abbrev zAk:Sv:=(eX (aE 1))
abbrev zFK:Sv:=(bB (rX (uW (aE 0)) (gName 2) zHg) zAk)
def kM:Mir:=fn 1 3 (bB (cW 1 (eC mJ)) zFK)
abbrev zAb:Sv:=(cW 2 (aN gY (aB (aE 2) (aB (aE 5) aNil))))
abbrev xN:Sv:=(bB (zGS 3 (aE 5)) zAb)
abbrev oU:Sv:=(bB (cW 5 (aN kL (aB (aE 2) (aB (aN bU (aB (aE 4) aNil)) aNil)))) xN)
abbrev zF:Sv:=(gM 3)
abbrev zH:Sv:=(bB (rX (uW (aE 0)) (gName 4) oU) zF)
abbrev zE:Sv:=(bB (zBQ 3 (nQ aNil)) zH)
def fV:Mir:=fn 2 6 (bB (cW 2 (aE 1)) zE)
abbrev vT:Sv:=(zMQ 4 zBS (eOp oIx (aE 0) (aE 6)))
abbrev vC:Sv:=(bB (cW 3 (zDE (aN gY (aB (aE 3) (aB (eOp oIx (aE 5) (aE 6)) aNil))))) vT)
abbrev vV:Sv:=(bB (zEF 5 (aE 6) (aN kL (aB (aE 7) (aB (aN bU (aB (eOp oIx (aE 1) (aE 6)) aNil)) aNil)))) vC)
abbrev bX:Sv:=(bB (cW 7 (aN uH (aB (aN kG (aB (aE 3) (aB (aN bU (aB (eOp oIx (aE 0) (aE 6)) aNil)) aNil))) (aB (aN bU (aB (aE 4) aNil)) aNil)))) vV)
abbrev jI:Sv:=(gM 5)
abbrev nJ:Sv:=(zIB (aB (eF (eA fU (aB (aE 0) (aB (aE 1) aNil)))) aNil) mH (gName 6) bX jI)
abbrev vN:Sv:=(bB (zBQ 5 (zMy (nQ (aB (eC mJ) aNil)) (eB jM (aB (aE 1) aNil)))) nJ)
abbrev wE:Sv:=(bB (cW 4 (eB zCJ (aB (aE 0) aNil))) vN)
def dB:Mir:=fn 3 8 (bB (cW 3 (aE 2)) wE)
abbrev uY:Sv:=(lJ (sF (uW (aE 0)) qI (aN kG (aB (aE 3) (aB (aN bU (aB (aE 4) aNil)) aNil)))))
abbrev uX:Sv:=(bB (cW 3 (aN uH (aB (aE 1) (aB (aN bU (aB (aE 2) aNil)) aNil)))) uY)
abbrev vZ:Sv:=(bB (sIf (dL (eOp oEq (aE 2) (eC (.int 0)))) (lJ (zMy (nQ (aB (eC mJ) aNil)) (eB jM (aB (aE 0) aNil)))) sNext) uX)
def eM:Mir:=fn 2 4 (bB (cW 2 (eB zCJ (aB (aE 0) aNil))) vZ)
abbrev zCn:Sv:=(cW 1 (aN bQ (aB (aE 1) (aB (aE 2) aNil))))
abbrev uV:Sv:=(eX (aE 1))
abbrev zCT:Sv:=(bB (rX (uW (aE 0)) (gName 2) zCn) uV)
def lZ:Mir:=fn 1 3 (bB (cW 1 (qX (aB (eC (.int 0)) (aB (eC (.int 1)) aNil)))) zCT)
abbrev vJ:Sv:=(lJ (sF (uW (eF (eA dB (aB (aE 2) (aB (aE 0) (aB (aN kR (aB (aE 1) (aB (aE 1) aNil))) aNil)))))) qI (aN kG (aB (aE 3) (aB (eC d_HALF) aNil)))))
def eV:Mir:=fn 2 3 (bB (cW 2 (eF (zMy (nQ (aB (eC (.int 1)) aNil)) (eB jM (aB (aE 0) aNil))))) vJ)
abbrev oF(r:Mir):Sv:=(lJ (wO (zMx (aB (aE 2) (aB (aE 5) aNil))) (aN gY (aB (aN bU (aB (aE 6) aNil)) (aB (aE 7) aNil)))))
abbrev oJ(r:Mir):Sv:=(bB (cW 5 (eF (eA r (aB (eUn (zAj bA) (aE 0)) (aB (aE 1) (aB (aE 2) (aB (aN gY (aB (aE 4) (aB (aE 3) aNil))) aNil))))))) (oF r))
abbrev qC(r:Mir):Sv:=(bB (sIf (zEK (dL (eOp oEq (aE 0) (eC (.str "half")))) (zLZ (dL (aN lT (aB (aE 4) (aB (aN kR (aB (aE 3) (aB (aE 3) aNil))) aNil)))))) (lJ (eA eV (aB (aE 2) (aB (aE 3) aNil)))) sNext) (oJ r))
abbrev rE(r:Mir):Sv:=(bB (sIf (dL (eOp oEq (aE 0) (eC (.str "part")))) (lJ (eA eM (aB (aE 2) (aB (aE 3) aNil)))) sNext) (qC r))
abbrev qN(r:Mir):Sv:=(bB (sIf (dL (eOp oEq (aE 0) (eC (.str "even")))) (lJ (eA dB (aB (aE 1) (aB (aE 2) (aB (aE 3) aNil))))) sNext) (rE r))
abbrev qR(r:Mir):Sv:=(bB (sIf (dL (eOp oEq (aE 0) (eC (.str "row")))) (lJ (eA fV (aB (aE 2) (aB (aE 3) aNil)))) sNext) (qN r))
def aR(r:Mir):Mir:=fn 4 6 (bB (cW 4 (aN bU (aB (eB zCJ (aB (aE 2) aNil)) aNil))) (qR r))
def aO:Nat->Mir
 | 0=>fn 4 6 sNo
 | n+1=>aR (aO n)
abbrev zFW:Sv:=(lJ (eA (aO 2) (aB (aE 0) (aB (aE 1) (aB (aE 2) (aB (aE 3) aNil))))))
abbrev zFS:Sv:=(bB (sJ (aN bM (aB (aE 3) (aB (aN bU (aB (eB zCJ (aB (aE 2) aNil)) aNil)) aNil)))) zFW)
def jH:Mir:=fn 4 4 (bB (sJ (aN oC (aB (aE 0) (aB (aE 1) (aB (aE 2) aNil))))) zFS)
abbrev vQ(r:Mir):Sv:=(cW 1 (eF (zLs (aE 1) (aN r (aB (aE 2) aNil)))))
abbrev vF(r:Mir):Sv:=(eX (aE 1))
abbrev vX(r:Mir):Sv:=(bB (rX (uW (eOp oIx (aE 0) (eC (.int 2)))) (gName 2) (vQ r)) (vF r))
abbrev vD(r:Mir):Sv:=(bB (cW 1 (eF (nQ aNil))) (vX r))
def iW(r:Mir):Mir:=fn 1 3 (bB (sIf (dL (eOp oEq (eOp oIx (aE 0) (eC (.int 0))) (eC (.str "boat")))) (eX (eF (nQ (aB (eOp oIx (aE 0) (eC (.int 1))) aNil)))) sNext) (vD r))
def cY:Nat->Mir
 | 0=>fn 1 3 sNo
 | n+1=>iW (cY n)
abbrev oK(r:Mir):Sv:=(zGS 2 (qX (aB (eC (.str "pair")) (aB (aE 1) (aB (aE 3) (aB (aE 4) aNil))))))
abbrev kO(r:Mir):Sv:=(rX (zFf (aB (eOp nZ (aE 3) (eC (.int 1))) (aB (eB jM (aB (eOp oIx (aE 0) (eC (.int 2))) aNil)) aNil))) (gName 4) (oK r))
abbrev yD(r:Mir):Sv:=(zBQ 2 (zOa (zLs (aE 2) (eF (eA r (aB (eOp oIx (eOp oIx (aE 0) (eC (.int 2))) (aE 5)) (aB (eOp nZ (aE 1) (qX (aB (aE 5) aNil))) aNil)))))))
abbrev pC(r:Mir):Sv:=(gM 2)
abbrev oT(r:Mir):Sv:=(bB (rX (zB (aB (eB jM (aB (eOp oIx (aE 0) (eC (.int 2))) aNil)) aNil)) (gName 5) (yD r)) (pC r))
abbrev xM(r:Mir):Sv:=(bB (rX (zB (aB (eB jM (aB (eOp oIx (aE 0) (eC (.int 2))) aNil)) aNil)) (gName 3) (kO r)) (oT r))
abbrev xD(r:Mir):Sv:=(bB (zBQ 2 (nQ aNil)) (xM r))
def iC(r:Mir):Mir:=fn 2 6 (bB (sIf (dL (eOp oEq (eOp oIx (aE 0) (eC (.int 0))) (eC (.str "boat")))) (lJ (nQ aNil)) sNext) (xD r))
def bN:Nat->Mir
 | 0=>fn 2 6 sNo
 | n+1=>iC (bN n)
abbrev xK(r:Mir):Sv:=(zMw 1 (eA r (aB (aE 2) aNil)))
abbrev xI(r:Mir):Sv:=(gM 1)
abbrev yA(r:Mir):Sv:=(bB (rX (uW (aN aV (aB (aE 0) aNil))) (gName 2) (xK r)) (xI r))
abbrev zV(r:Mir):Sv:=(bB (zBQ 1 (nQ aNil)) (yA r))
def kN(r:Mir):Mir:=fn 1 3 (bB (sIf (dL (aN bZ (aB (aE 0) aNil))) (lJ (nQ (aB (eOp oIx (aE 0) (eC (.int 1))) aNil))) sNext) (zV r))
def bF:Nat->Mir
 | 0=>fn 1 3 sNo
 | n+1=>kN (bF n)
def oP(r:Mir):Mir:=fn 1 1 (eX (eOp nZ (eC (.int 1)) (eOp (fun x y=>zCO [x,y]) (eF (sF (uW (aN aV (aB (aE 0) aNil))) qI (aN r (aB (aE 1) aNil)))) (eC (.int 0)))))
def iJ:Nat->Mir
 | 0=>fn 1 1 sNo
 | n+1=>oP (iJ n)
abbrev zJv:Sv:=(eX (aE 3))
abbrev zIK:Sv:=(bB (sIf (zEX (dL (eOp oEq (eB jM (aB (aE 2) aNil)) (eC (.int 0)))) (zEX (dL (eOp oGt (eB jM (aB (eF (eA (bF 10) (aB (aE 3) aNil))) aNil)) (eC d_MOST_BOATS))) (dL (eOp oGt (aN (iJ 10) (aB (aE 3) aNil)) (eC d_DEEPEST))))) (jO "TooMany" (aB (eC (.str "no kid, or too many boats, or too deep")) aNil)) sNext) zJv)
abbrev zIW:Sv:=(bB (cW 3 (qX (aB (aE 0) (aB (eB zKo (aB (aE 1) aNil)) (aB (eB zKo (aB (aE 2) aNil)) aNil))))) zIK)
abbrev zIP:Sv:=(bB (sJ (aN aY (aB (aE 0) (aB (aE 1) (aB (eB jM (aB (aE 2) aNil)) aNil))))) zIW)
def zBB:Mir:=fn 3 4 (bB (sJ (aN cP (aB (aE 0) aNil))) zIP)
def cK:Mir:=fn 1 1 (eX (eB zCJ (aB (eF (eA (bF 10) (aB (aE 0) aNil))) aNil)))
abbrev zEk:Sv:=(cW 3 (aE 5))
abbrev zEO:Sv:=(bB (zGS 2 (zPR (aE 1) (oS (aE 3)) (oS (aE 5)))) zEk)
abbrev wZ:Sv:=(bB (cW 5 (eOp nZ (aE 3) (eB jM (aB (eF (eA (bF 10) (aB (aE 4) aNil))) aNil)))) zEO)
abbrev zER:Sv:=(gM 2)
abbrev zEP:Sv:=(bB (rX (uW (aN aV (aB (aE 0) aNil))) (gName 4) wZ) zER)
abbrev zEH:Sv:=(bB (cW 3 (eC (.int 0))) zEP)
def fZ:Mir:=fn 2 6 (bB (zBQ 2 (nQ aNil)) zEH)
def bY:Mir:=fn 2 2 (sIf (dL (eOp oNe (eB jM (aB (aE 1) aNil)) (eB jM (aB (eF (eA (bF 10) (aB (aE 0) aNil))) aNil)))) (jO "Unlike" (aB (eC (.str "not as many amounts as boats")) aNil)) sNext)
abbrev zCd:Sv:=(eX (aN bO (aB (eOp oIx (aE 1) (aE 2)) (aB (aN bU (aB (eOp oIx (eF (eA (bF 10) (aB (aE 0) aNil))) (aE 2)) aNil)) aNil))))
def pO:Mir:=fn 3 3 (bB (sIf (zEX (dL (eOp oLt (aE 2) (eC (.int 0)))) (dL (eOp oGe (aE 2) (eB jM (aB (aE 1) aNil))))) (eX (eC (.bl false))) sNext) zCd)
def eR:Mir:=fn 1 1 (lJ (sF (uW (aN aV (aB (aE 0) aNil))) qI (aN cK (aB (aE 1) aNil))))
abbrev vH:Sv:=(cW 0 (eOp oIx (aN aV (aB (aE 0) aNil)) (aE 3)))
abbrev jF:Sv:=(bB (cW 1 (eOp oIx (eF (eA fZ (aB (aE 0) (aB (aE 1) aNil)))) (aE 3))) vH)
abbrev vA:Sv:=(eX (aE 1))
def gB:Mir:=fn 3 4 (bB (rX (uW (aE 2)) (gName 3) jF) vA)
abbrev zX:Sv:=(eX (eOp oNe (aE 9) (aE 5)))
abbrev gD:Sv:=(bB (zFa "Outside" (zNb 9 jH (aB (aN iT (aB (aE 0) aNil)) (aB (aE 8) (aB (aE 7) (aB (aN kR (aB (eOp oIx (aE 5) (eC (.int 0))) (aB (eOp oIx (aE 5) (eC (.int 1))) aNil))) aNil))))) (eX (eC (.bl true)))) zX)
abbrev gE:Sv:=(bB (sIf (dL (eOp oGt (eB jM (aB (aE 8) aNil)) (eC (.int 0)))) (cW 8 (eF (nQ (aB (eOp oIx (aE 8) (aE 2)) (aB (eOp oIx (aE 8) (aE 3)) aNil))))) sNext) gD)
abbrev rT:Sv:=(bB (cW 8 (aN cZ (aB (aE 0) aNil))) gE)
abbrev rW:Sv:=(bB (cW 7 (eF (nQ (aB (aN cK (aB (eOp oIx (aE 6) (aE 2)) aNil)) (aB (aN cK (aB (eOp oIx (aE 6) (aE 3)) aNil)) aNil))))) rT)
abbrev rN:Sv:=(bB (cW 6 (aN aV (aB (aE 0) aNil))) rW)
abbrev rK:Sv:=(bB (cW 5 (eF (nQ (aB (aN kM (aB (eOp oIx (aE 4) (aE 2)) aNil)) (aB (aN kM (aB (eOp oIx (aE 4) (aE 3)) aNil)) aNil))))) rN)
def fO:Mir:=fn 4 10 (bB (cW 4 (eF (eA fZ (aB (aE 0) (aB (aE 1) aNil))))) rK)
abbrev zAt:Sv:=(cW 5 (eOp lY (aE 5) (eC (.int 3))))
abbrev zBE:Sv:=(bB (zGS 3 (eOp nZ (eC (.int 1)) (eOp jZ (aE 5) (aE 4)))) zAt)
abbrev zAh:Sv:=(rX (uW (aE 1)) (gName 6) zBE)
abbrev zAV:Sv:=(bB (cW 5 (eOp lY (aE 0) (eC (.int 24)))) zAh)
abbrev lB:Sv:=(sFrzAt 3 (eX (aN zBB (aB (aE 2) (aB (aE 3) (aB (aE 1) aNil))))))
abbrev rQ:Sv:=(bB (sIf (dL (eOp oIn (aE 2) (qX (aB (eC (.str "even")) (aB (eC (.str "lack")) aNil))))) (bB (cW 4 (eOp oIx (eF (nQ (aB (eC (.int 3)) (aB (eC (.int 3)) (aB (eC (.int 3)) (aB (eOp zBy (eC (.int 10)) (eC (.int 6))) aNil)))))) (eOp jZ (eOp lY (aE 0) (eC (.int 6))) (eC (.int 4))))) zAV) sNext) lB)
abbrev rJ:Sv:=(bB (zBQ 3 (nQ aNil)) rQ)
def fN:Mir:=fn 2 7 (bB (cW 2 (eOp oIx (eF (nQ (aB (eC (.str "even")) (aB (eC (.str "row")) (aB (eC (.str "lack")) (aB (eC (.str "half")) (aB (eC (.str "part")) (aB (eC (.str "back")) aNil)))))))) (eOp jZ (aE 0) (eC (.int 6))))) rJ)
abbrev zAM:Sv:=(eX (aN fO (aB (aE 6) (aB (aN gB (aB (aE 0) (aB (aE 1) (aB (aE 3) aNil)))) (aB (aE 4) (aB (aE 5) aNil))))))
abbrev zCQ:Sv:=(bB (sIf (zEX (dL (eOp oLt (aE 4) (eC (.int 0)))) (zEX (dL (eOp oGe (aE 4) (aE 5))) (dL (eOp oGe (aE 5) (eB jM (aB (aN aV (aB (aE 6) aNil)) aNil)))))) (eX (eC (.bl false))) sNext) zAM)
abbrev zCG:Sv:=(bB (zFa "Outside" (zNb 6 oV (aB (aE 0) (aB (aE 3) aNil))) (eX (eC (.bl false)))) zCQ)
abbrev zCy:Sv:=(bB (cW 5 (eOp oIx (aE 2) (eC (.int 3)))) zCG)
abbrev zCo:Sv:=(bB (cW 4 (eOp oIx (aE 2) (eC (.int 2)))) zCy)
def jU:Mir:=fn 3 7 (bB (cW 3 (eOp oIx (aE 2) (eC (.int 1)))) zCo)
abbrev lM:Sv:=(sIf (dL (aN fO (aB (aE 0) (aB (aE 1) (aB (aE 4) (aB (aE 5) aNil)))))) (eX (qX (aB (eC d_PAIR) (aB (aE 2) (aB (aE 4) (aB (aE 5) aNil)))))) sNext)
abbrev eT:Sv:=(rX (zFf (aB (eOp nZ (aE 4) (eC (.int 1))) (aB (aE 3) aNil))) (gName 5) lM)
abbrev rV:Sv:=(eX (eC .non))
abbrev zAu:Sv:=(bB (rX (zB (aB (aE 3) aNil)) (gName 4) eT) rV)
def eN:Mir:=fn 3 6 (bB (cW 3 (eB jM (aB (aN aV (aB (aE 0) aNil)) aNil))) zAu)
abbrev uR:Sv:=(zBQ 2 (zOa (zLs (eF (fSl (aE 2) oN (oS (eUn zOE (aE 8))))) (eF (nQ (aB (aN fN (aB (eOp lY (aE 7) (eC (.int 12))) (aB (eF (fSl (aE 2) (oS (eUn zOE (aE 8))) oN)) aNil))) aNil))))))
abbrev tW:Sv:=(bB (cW 8 (zDE (eOp nZ (eC (.int 1)) (eOp jZ (eOp lY (aE 7) (eC (.int 3))) (eB zMF (aB (eC (.int 4)) (aB (eB jM (aB (aE 2) aNil)) aNil))))))) uR)
abbrev tV:Sv:=(sIf (zEK (dL (eOp oEq (eOp jZ (aE 7) (eC (.int 3))) (eC (.int 1)))) (dL (eOp oLt (aE 3) (eC (.int 5))))) (bB (cW 3 (eOp nZ (aE 3) (eC (.int 1)))) tW) sNext)
abbrev tL:Sv:=(bB (cW 7 (eOp jZ (aN dD (aB (aE 0) (aB (eOp nZ (eC (.int 7)) (aE 5)) aNil))) (eOp zBy (eC (.int 10)) (eC (.int 30))))) tV)
abbrev vU:Sv:=(bB (zGS 2 (aN zBG (aB (aN hU (aB (aE 6) (aB (eOp jZ (eOp lY (aE 1) (eC (.int 6))) (eC (.int 3))) aNil))) aNil))) tL)
abbrev jD:Sv:=(bB (cW 6 (eOp jZ (aN dD (aB (aE 0) (aB (eOp nZ (eC (.int 1)) (aE 5)) aNil))) (eOp zBy (eC (.int 10)) (eC (.int 30))))) vU)
abbrev tY:Sv:=(eX (eOp oIx (aE 2) (eC (.int 0))))
abbrev lK:Sv:=(sFrzAt 2 (bB (sIf (zEX (dL (eOp oGt (eB jM (aB (aE 2) aNil)) (eC (.int 1)))) (dL (eOp oGt (eOp jZ (eOp lY (aE 1) (eC (.int 18))) (eC (.int 4))) (eC (.int 0))))) (eX (aN fN (aB (eOp lY (aE 1) (eC (.int 72))) (aB (aE 2) aNil)))) sNext) tY))
abbrev fY:Sv:=(bB (rX (zB (aB (aE 4) aNil)) (gName 5) jD) lK)
abbrev nD:Sv:=(bB (sIf (dL (eOp oEq (eOp jZ (eOp lY (aE 1) (eC (.int 90))) (eC (.int 8))) (eC (.int 1)))) (cW 4 (eOp nZ (aE 4) (eC (.int 6)))) sNext) fY)
abbrev nI:Sv:=(bB (cW 4 (eOp nZ (eC (.int 1)) (eOp jZ (aE 1) (eC (.int 6))))) nD)
abbrev mY:Sv:=(bB (cW 3 (eC (.int 0))) nI)
abbrev mZ:Sv:=(bB (zBQ 2 (nQ aNil)) mY)
def gC:Mir:=fn 1 9 (bB (cW 1 (eOp jZ (aN dD (aB (aE 0) (aB (eC (.int 0)) aNil))) (eOp zBy (eC (.int 10)) (eC (.int 30))))) mZ)
abbrev rO(r:Mir):Sv:=(zMw 3 (eA r (aB (aE 4) (aB (aE 5) aNil))))
abbrev zBh(r:Mir):Sv:=(gM 3)
abbrev zBw(r:Mir):Sv:=(bB (rX (zMx (aB (aN aV (aB (aE 0) aNil)) (aB (aE 2) aNil))) (zBc (fH (gName 4) (fH (gName 5) zAx))) (rO r)) (zBh r))
abbrev zAA(r:Mir):Sv:=(bB (zBQ 3 (nQ aNil)) (zBw r))
abbrev zAU(r:Mir):Sv:=(bB (cW 2 (eF (eA jH (aB (aN iT (aB (aE 0) aNil)) (aB (aN cZ (aB (aE 0) aNil)) (aB (eF (eA eR (aB (aE 0) aNil))) (aB (aE 1) aNil))))))) (zAA r))
def gX(r:Mir):Mir:=fn 2 6 (bB (sIf (dL (aN bZ (aB (aE 0) aNil))) (lJ (nQ (aB (aE 1) aNil))) sNext) (zAU r))
def eP:Nat->Mir
 | 0=>fn 2 6 sNo
 | n+1=>gX (eP n)
abbrev zEW:Sv:=(lJ (eA (eP 10) (aB (aE 0) (aB (aE 1) aNil))))
def kH:Mir:=fn 2 2 (bB (sJ (aN bM (aB (aE 1) (aB (aN bU (aB (aN cK (aB (aE 0) aNil)) aNil)) aNil)))) zEW)
abbrev vP(r:Mir):Sv:=(sIf (dL (zEU (aE 3))) (eX (aE 3)) sNext)
abbrev eE(r:Mir):Sv:=(bB (cW 3 (aN r (aB (aE 6) (aB (eOp oIx (aE 4) (aE 5)) (aB (eOp nZ (aE 2) (qX (aB (aE 5) aNil))) aNil))))) (vP r))
abbrev hJ(r:Mir):Sv:=(eX (eC .non))
abbrev wB(r:Mir):Sv:=(bB (rX (zGn (aN aV (aB (aE 0) aNil))) (zBc (fH (gName 5) (fH (gName 6) zAx))) (eE r)) (hJ r))
abbrev vB(r:Mir):Sv:=(bB (cW 4 (eF (eA fZ (aB (aE 0) (aB (aE 1) aNil))))) (wB r))
abbrev vE(r:Mir):Sv:=(bB (sIf (dL (zEU (aE 3))) (eX (aE 3)) sNext) (vB r))
abbrev vY(r:Mir):Sv:=(bB (cW 3 (aN eN (aB (aE 0) (aB (aE 1) (aB (aE 2) aNil))))) (vE r))
def bE(r:Mir):Mir:=fn 3 7 (bB (sIf (dL (aN bZ (aB (aE 0) aNil))) (eX (eC .non)) sNext) (vY r))
def aQ:Nat->Mir
 | 0=>fn 3 7 sNo
 | n+1=>bE (aQ n)
abbrev jC:Sv:=(sIf (dL (aN bO (aB (eOp oIx (aE 1) (aE 2)) (aB (aN bU (aB (aE 3) aNil)) aNil)))) (eX (qX (aB (eC d_OVER) (aB (aE 2) aNil)))) sNext)
abbrev wA:Sv:=(eX (qX (aB (eC d_CATCH) (aB (aN kM (aB (aE 1) aNil)) aNil))))
abbrev wD:Sv:=(bB (sIf (dL (zEU (aE 4))) (eX (aE 4)) sNext) wA)
abbrev fX:Sv:=(bB (cW 4 (aN (aQ 10) (aB (aE 0) (aB (aE 1) (aB (qX aNil) aNil))))) wD)
abbrev wF:Sv:=(bB (rX (zGn (eF (eA (bF 10) (aB (aE 0) aNil)))) (zBc (fH (gName 2) (fH (gName 3) zAx))) jC) fX)
def cO:Mir:=fn 2 5 (bB (sJ (aN bY (aB (aE 0) (aB (aE 1) aNil)))) wF)
abbrev zAZ:Sv:=(eX (eOp oEq (eF (eA kH (aB (aE 0) (aB (aE 2) aNil)))) (eF (zAp (aB (aE 1) aNil)))))
def fT:Mir:=fn 3 3 (bB (sIf (dL (aN bO (aB (aE 2) (aB (aN bU (aB (aN cK (aB (aE 0) aNil)) aNil)) aNil)))) (eX (eC (.bl false))) sNext) zAZ)
abbrev kW:Sv:=(zEF 3 (aE 6) (zDE (aN bQ (aB (eOp oIx (aE 3) (aE 6)) (aB (qX (aB (eOp zBS (eC (.int 0)) (eOp oIx (aE 7) (eC (.int 0)))) (aB (eOp oIx (aE 7) (eC (.int 1))) aNil))) aNil)))))
abbrev sH:Sv:=(gM 3)
abbrev dG:Sv:=(bB (sIf (dL (eOp oEq (aE 4) (eC (.int 7)))) (zEF 3 (aE 5) (zDE (aN bQ (aB (eOp oIx (aE 3) (aE 5)) (aB (qX (aB (eOp qA (eOp oIx (aE 2) (aE 5)) (eOp oIx (eF (nQ (aB (eC (.int 1)) (aB (eOp zBS (eC (.int 0)) (eC (.int 1))) aNil)))) (eOp jZ (eOp lY (aE 1) (eC (.int 19))) (eC (.int 2))))) (aB (eC (.int 1)) aNil))) aNil))))) sNext) sH)
abbrev cJ:Sv:=(bB (sIf (dL (eOp oEq (aE 4) (eC (.int 6)))) (zEF 3 (aE 5) (aN cQ (aB (eOp oIx (aE 2) (aE 5)) (aB (eOp lY (aE 1) (eC (.int 17))) aNil)))) sNext) dG)
abbrev dM:Sv:=(bB (sIf (dL (eOp oGt (aE 4) (eC (.int 3)))) (bB (zEF 3 (aE 5) (zDE (aN bQ (aB (eOp oIx (aE 3) (aE 5)) (aB (aE 7) aNil))))) kW) sNext) cJ)
abbrev lQ:Sv:=(bB (cW 7 (aN dW (aB (eOp nZ (eC (.int 1)) (eOp jZ (eOp lY (aE 1) (eC (.int 11))) (eC (.int 3)))) (aB (eOp nZ (eC (.int 1)) (eOp jZ (eOp lY (aE 1) (eC (.int 13))) (eC (.int 5)))) aNil)))) dM)
abbrev lL:Sv:=(bB (cW 6 (eOp jZ (eOp lY (aE 1) (eC (.int 336))) (eB jM (aB (aE 2) aNil)))) lQ)
abbrev lH:Sv:=(bB (cW 5 (eOp jZ (eOp lY (aE 1) (eC (.int 56))) (eB jM (aB (aE 2) aNil)))) lL)
abbrev lE:Sv:=(bB (cW 4 (eOp jZ (aE 1) (eC (.int 8)))) lH)
abbrev lW:Sv:=(bB (zBQ 3 (eA kH (aB (aE 0) (aB (aN cQ (aB (eB zCJ (aB (aE 2) aNil)) (aB (eOp lY (aE 1) (eC (.int 8))) aNil))) aNil)))) lE)
abbrev mD:Sv:=(bB (cW 2 (aN (cY 10) (aB (aE 0) aNil))) lW)
def eZ:Mir:=fn 2 8 (bB (cW 1 (eOp jZ (aE 1) (eOp zBy (eC (.int 10)) (eC (.int 45))))) mD)
abbrev zHZ:Sv:=(eX (aN jU (aB (aE 0) (aB (aE 1) (aB (aE 2) aNil)))))
abbrev zHm:Sv:=(bB (sIf (dL (eOp oEq (eOp oIx (aE 2) (eC (.int 0))) (eC d_OVER))) (eX (aN pO (aB (aE 0) (aB (aE 1) (aB (eOp oIx (aE 2) (eC (.int 1))) aNil))))) sNext) zHZ)
abbrev zHi:Sv:=(bB (sIf (dL (eOp oEq (eOp oIx (aE 2) (eC (.int 0))) (eC d_CATCH))) (eX (aN fT (aB (aE 0) (aB (aE 1) (aB (eOp oIx (aE 2) (eC (.int 1))) aNil))))) sNext) zHm)
def dY:Mir:=fn 3 3 (bB (sJ (aN bY (aB (aE 0) (aB (aE 1) aNil)))) zHi)
abbrev zIx:Sv:=(sIf (dL (eOp tO (aN cO (aB (aE 1) (aB (eF (zAp (aB (aE 4) aNil))) aNil))) (aE 6))) (eX (eC (.bl false))) sNext)
abbrev zLb:Sv:=(sFrzAt 6 (bB (sIf (zEX (dL (eOp oEq (aE 6) (eF (nQ aNil)))) (zEK (dL (eOp oIn (aE 5) (aE 6))) (dL (eOp oGt (eB jM (aB (aE 6) aNil)) (eC (.int 1)))))) (eX (eC (.bl false))) sNext) zIx))
abbrev zKy:Sv:=(bB (sIf (dL (aN dY (aB (aE 1) (aB (eF (zAp (aB (aE 4) aNil))) (aB (aE 5) aNil))))) (zGS 6 (aE 5)) sNext) zLb)
abbrev zM:Sv:=(bB (zBQ 6 (sF (uW (aE 2)) (dL (aN dY (aB (aE 1) (aB (eF (zAp (aB (aE 4) aNil))) (aB (aE 7) aNil))))) (aE 7))) zKy)
abbrev zHs:Sv:=(bB (cW 5 (qX (aB (eC (.str "catch")) (aB (aN lZ (aB (aE 4) aNil)) aNil)))) zM)
abbrev zP:Sv:=(bB (cW 4 (eF (eA eZ (aB (aE 1) (aB (aE 3) aNil))))) zHs)
abbrev zDp:Sv:=(eX (eC (.bl true)))
abbrev zGH:Sv:=(bB (rX (uW (eF (eA gG (aB (aE 0) (aB (eC (.int 13)) (aB (eC (.int 8)) aNil)))))) (gName 3) zP) zDp)
abbrev zFU:Sv:=(bB (cW 2 (eF (zLs (eF (sF (zB (aB (eB jM (aB (aN (cY 10) (aB (aE 1) aNil)) aNil)) aNil)) qI (qX (aB (eC (.str "over")) (aB (aE 7) aNil))))) (eF (eA (bN 10) (aB (aE 1) (aB (qX aNil) aNil))))))) zGH)
def zLO:Mir:=fn 1 7 (bB (cW 1 (aN gC (aB (aE 0) aNil))) zFU)
end Lw
namespace Lw
open L3 PySem Fr Fq Ln
theorem c_NOUGHT:mJ=dq 0:=rfl
local macro_rules | `(tactic| symm)=>do
 let ids:Array (Lean.TSyntax `term):=(("c_NOUGHT d_WEIGHTED d_HALF d_BOAT d_MOST_BOATS d_DEEPEST d_CATCH d_OVER d_PAIR fn_at eSlQ_at slQF slQE_at slQG_l slQG_t enumF_t iZip_at sTryN_at tryN_ok retO_r iEnum_at enumF_l fComp2_at chO_s oEq_s oNe_s oTabNot_s L3.start sSeq_at seqF_nx seqF_ret sSet_at setF sOwn_at ownF sRet_at retF sRetF_at retFF sRetOwn_at retS sRetN sIf_at ifF_t ifF_f sNext sNo sDrop_at dropF dropG eVar_at varS eC eOp_at opF eUn eCall_at callF rtF eB eTup_at tupF aCons_at consF consG aNil tVal_at blF tNotB_at notF tAndB_at tandF_t tandF_f tOrB_at torF_t torF_f eAnd_at andF_t andF_f eOr_at orF_t orF_f eIf_at eifF_t eifF_f eF_at efF fLst_at fLstF fCall_at fcallF rtFF fList_at fListF_l fListF_t fComp_at fRep_at repF fCat_at catF catG eFrz_at frzF fFrz_at fFrzF oN oS_at oSF fSl_at fSlF fSlG fSlH eNotN_at notNF isNon sApp_at appS appF sExt_at extS extF sAug_at augS augF xSet_at xsetF setG sUnp_at unpF nxF bSum_l bSum_t gTup_at gtF_t gCons_at gNil_at gName sFor_at forF iSeq_at seqD_l seqD_t iRng1_at iRng2_at sFrz sFrzAt frzAt tFrzB okb erb Rt.d fin oAdd_i oSub_i oMul_i oDiv_i oMod_i oPow_i oEq_i oNe_i oLt_i oLe_i oGt_i oGe_i oIx_tc dp_mk ty_dp len_dp ix_dp0 ix_dp1 dep_dp noL_dp oEq_dp oNe_dp noLs_dps oNeg_i oNot_b bAbs_i bLen_t bLen_l bMin_i bTup_t bTup_l eIsT_at isTF isT ty_i ty_t ty_l ty_b ty_s ty_n ofO_some atD sRaise_at raiseF Sl.frz noErr dep depS noL noLs Qj Vq Y9 Yr Q3 List.replicate Ql Yf List.getElem?_cons_zero List.getElem?_cons_succ List.set_cons_zero List.set_cons_succ Nat.reduceAdd Nat.reduceSub Nat.reduceLeDiff Nat.reduceEqDiff Q5 Yh Nat.max_self Q7 if_true ite_true ite_false if_false Xf Bool.not_true Bool.not_false reduceIte ite_self Int.toNat_zero Int.reduceToNat Int.reduceLE Int.reduceLT Yj decide_true decide_false Bool.or_true Bool.or_false Bool.true_or Bool.false_or Ua Bool.true_and Bool.and_false Bool.false_and String.reduceBEq String.reduceEq beq_self_eq_true ix_dq0 ix_dq1 ty_dq dep_dq noL_dq len_dq eq_dq oEq_dq oNe_dq Qd okDiv_lit okMul_litr okMul_litl okp9 okp30 okp40 p10 fdiv_pos fmod_pos Int.reduceEq Int.reduceNeg p10ne p10ne2 p10pos2 Int.reduceMul Int.reduceAdd Int.reduceSub Int.reduceDiv Int.reduceMod eqD Nat.reduceLT Nat.reducePow ne_eq not_true_eq_false not_false_eq_true".splitOn " ").map fun s=>⟨Lean.mkIdent s.toName⟩).toArray
 `(tactic| simp only[$[$ids:term],*])
theorem sC(t b:Int):dF [.int t,.int b]=.ok (.v (.int (Int.gcd t b:Int))):=by
 unfold dF;symm
 refine zKb (fun ρ=>∃(x y:Int)(r:Sl),ρ=[.val (.int x),.val (.int y),r]/\0<=x/\0<=y/\Int.gcd x y=Int.gcd t b) (fun ρ=>(slI 1 ρ).toNat)
  (fun r=>(r.bind (zAQ (eX (aE 0)))).bind fin=.ok (.v (.int (Int.gcd t b:Int)))) ⟨_,_,_,rfl,by omega,by omega,by simp[Int.gcd]⟩ ?_
 rintro ρ ⟨x,y,r,rfl,hx,hy,hg⟩
 by_cases h:y=0
 ·subst h
  refine .inl ⟨rfl,?_⟩
  have e:x=(Int.gcd t b:Int):=by
   rw[Int.gcd_zero_right] at hg;omega
  rw[<-e];rfl
 ·refine .inr ⟨?_,[.val (.int y),.val (.int (x.fmod y)),.val (.int (x.fmod y))],?_,⟨y,x.fmod y,_,rfl,hy,?_,?_⟩,?_⟩
  ·symm
   rw[decide_eq_false h];rfl
  ·symm
   rw[oMod_i h];symm
  ·rw[zCW _ hy];exact Qy _ h
  ·rw[zCW _ hy];exact(Fq.zDW hx (by omega)).trans hg
  ·have:=Q9 x (show 0<y by omega)
   rw[zCW _ hy];show(x % y).toNat<y.toNat
   omega
theorem zOr{t b:Int}(hb:b≠0):(dv t b).natAbs<=b.natAbs:=Nat.le_of_dvd (by omega) (Int.natAbs_dvd_natAbs.mpr (zDO t b))
theorem zAO{t b:Int}{n:Nat}(hb:b≠0)(hn:b.natAbs<2^n)(h:n<=8999):iL [.int t,.int b]=.ok (.v (dq (Rat.divInt t b))):=by
 have hd:lA (dv t b)=true:=sN (zMH hb) (V8 (zOr hb) hn) h;have e0:decide (b=0)=false:=decide_eq_false hb;unfold iL;symm;rw[e0];symm;rw[sC];symm;by_cases c:b<0
 ·have e:-(Int.gcd t b:Int)=dv t b:=by unfold dv;rw[if_pos c]
  rw[decide_eq_true c];symm;rw[e,oDiv_i hd];symm;rw[oDiv_i hd];symm;rw[zAI hb,zBm hb];rfl
 ·have e:(Int.gcd t b:Int)=dv t b:=by unfold dv;rw[if_neg c]
  rw[decide_eq_false c];symm;rw[e,oDiv_i hd];symm;rw[oDiv_i hd];symm;rw[zAI hb,zBm hb];rfl
theorem zPX(t:Int):iL [.int t,.int 0]=.err "NoFraction" := by
 unfold iL;symm
theorem wJ{p q:Rat}{m n:Nat}(hp:Sz m p)(hq:Sz n q)(h:m+n<=8999):kR [dq p,dq q]=.ok (.v (dq (p+q))):=by
 unfold kR;symm;rw[oMul_i (cC hp.1 hq.d (by omega))];symm;rw[oMul_i (cC hq.1 hp.d (by omega))];symm;rw[oMul_i (cC hp.d hq.d (by omega))];symm;rw[zAO (Xn (fI p) (fI q)) (fJ hp.d hq.d) h,zFR];symm
theorem mC{p q:Rat}{m n:Nat}(hp:Sz m p)(hq:Sz n q)(h:m+n<=8999):gY [dq p,dq q]=.ok (.v (dq (p-q))):=by
 unfold gY;symm;rw[oMul_i (cC hp.1 hq.d (by omega))];symm;rw[oMul_i (cC hq.1 hp.d (by omega))];symm;rw[oMul_i (cC hp.d hq.d (by omega))];symm;rw[zAO (Xn (fI p) (fI q)) (fJ hp.d hq.d) h,zJB];symm
theorem zCK{p q:Rat}{m n:Nat}(hp:Sz m p)(hq:Sz n q)(h:m+n<=8999):kG [dq p,dq q]=.ok (.v (dq (p*q))):=by
 unfold kG;symm;rw[oMul_i (cC hp.1 hq.1 (by omega))];symm;rw[oMul_i (cC hp.d hq.d (by omega))];symm;rw[zAO (Xn (fI p) (fI q)) (fJ hp.d hq.d) h,zJA];symm
theorem zKg{p q:Rat}{m n:Nat}(hp:Sz m p)(hq:Sz n q)(h0:q≠0)(h:m+n<=8999):uH [dq p,dq q]=.ok (.v (dq (p / q))):=by
 unfold uH;symm;rw[oMul_i (cC hp.1 hq.d (by omega))];symm;rw[oMul_i (cC hp.d hq.1 (by omega))];symm;rw[zAO (Xn (fI p) (zJU.mpr h0)) (fJ hp.d hq.1) h,zGF];symm
theorem uP{p q:Rat}{m n:Nat}(hp:Sz m p)(hq:Sz n q)(h:m+n<=99999):lT [dq p,dq q]=.ok (.v (.bl (decide (p<q)))):=by
 unfold lT;symm;rw[oMul_i (cC hp.1 hq.d (by omega))];symm;rw[oMul_i (cC hq.1 hp.d (by omega))];symm;simp only[lt_iff]
def mn(a b:Rat):Rat:=if a<b then a else b
def ps0(x:Rat):Rat:=if x<0 then 0 else x
def iI:List Int->Int->Rat->List Rat
 | [],_,_=>[]
 | c::r,a,q=>mn (ps0 (q-(a:Rat))) (c:Rat)::iI r (a+c) q
theorem zAg:∀(cs:List Int)(a:Int)(q:Rat),(iI cs a q).length=cs.length
 | [],_,_=>rfl
 | c::r,a,q=>by simp only[iI,Ql,zAg r]
theorem zLN{q:Rat}{a c:Int}(h:0<=c):ps0 (q-(a:Rat))-mn (ps0 (q-(a:Rat))) (c:Rat)=ps0 (q-((a+c:Int):Rat)):=by
 have h':(0:Rat)<=(c:Rat):=by exact_mod_cast h
 rw[Q6];unfold ps0 mn;grind
theorem dA{n:Nat}{k:Int}(h:k.natAbs<2^n)(h0:0<n):Sz n (k:Rat):=by
 refine⟨h,?_⟩
 show 1<2^n
 exact Nat.one_lt_two_pow (by omega)
theorem zNt{n:Nat}{q:Rat}(h:Sz n q)(h0:0<n):Sz n (ps0 q):=by
 unfold ps0;split
 ·exact dA (k:=0) (Nat.two_pow_pos n) h0
 ·exact h
theorem zLp{n:Nat}{p q:Rat}(h:Sz n p)(h':Sz n q):Sz n (mn p q):=by
 unfold mn;split
 ·exact h
 ·exact h'
theorem cB(k:Int):bU [.int k]=.ok (.v (dq (k:Rat))):=by
 unfold bU;symm;rw[zNd]
theorem zDA{p q:Rat}{m n:Nat}(hp:Sz m p)(hq:Sz n q)(h:m+n<=99999):kL [dq p,dq q]=.ok (.v (dq (mn p q))):=by
 unfold kL;symm;rw[uP hp hq h];symm;unfold mn;by_cases c:p<q
 ·rw[decide_eq_true c,if_pos c]
  symm
 ·rw[decide_eq_false c,if_neg c]
  symm
structure Cl (cs:List Int):Prop where
 nn:∀ c∈cs,0<=c
 up:∀ c∈cs,c<10^30
 lo:1<=cs.length
 hi:cs.length<=12
theorem zJS:∀ {cs:List Int},(∀ c∈cs,0<=c)->(∀ c∈cs,c<10^30)->0<=cs.sum/\cs.sum<=cs.length*10^30
 | [],_,_=>by decide
 | c::r,h,h'=>by
  have ih:=zJS (fun x hx=>h x (Qe _ hx)) fun x hx=>h' x (Qe _ hx)
  have a:=h c Qf;have b:=h' c Qf;rw[Qm,Ql];refine⟨by omega,?_⟩
  have:((r.length+1:Nat):Int)*10^30=(r.length:Int)*10^30+10^30:=by rw[Xq,X1];rfl
  omega
theorem Cl.sum{cs:List Int}(h:Cl cs):0<=cs.sum/\cs.sum<2^104:=by
 have a:=zJS h.nn h.up;have b:=h.hi;refine⟨a.1,?_⟩
 omega
structure Haul (m:Nat) (q:Rat) (W:Int):Prop where
 nn:0<=q
 up:q<=(W:Rat)
 sz:Sz m q
theorem zDv{d:D}{q:Rat}{m:Nat}(hm:m<=3000)(hq:Sz m q):∀(cs:List Int)(a:Int)(acc:List D)(s t:Sl),(∀ c∈cs,0<=c)->(∀ c∈cs,c<10^30)->0<=a->a+cs.length*10^30<2^110->acc.length+cs.length<=100->
  ∃ l' s' t',loop (gName 4) oU (cs.map D.int) [.val d,.val (dq q),.val (dq (ps0 (q-(a:Rat)))),.own acc,s,t]=.ok (.nx [.val d,.val (dq q),l',.own (acc++(iI cs a q).map dq),s',t'])
 | [],a,acc,s,t,_,_,_,_,_=>⟨.val (dq (ps0 (q-(a:Rat)))),s,t,by rw[Vq,loop];simp[iI]⟩
 | c::r,a,acc,s,t,h1,h2,h3,h4,h5=>by
  have c0:=h1 c Qf;have c1:=h2 c Qf;rw[Ql] at h4 h5;have e4:((r.length+1:Nat):Int)*10^30=(r.length:Int)*10^30+10^30:=by rw[Xq,X1];rfl
  have r0:0<=(r.length:Int)*10^30:=Ub (by omega) (by decide)
  have zl:Sz (m+111) (ps0 (q-(a:Rat))):=zNt (hq.sub (dA (n:=110) (by omega) (by decide))) (by omega)
  have zc:Sz (m+111) (c:Rat):=Sz.mono (m:=110) (dA (by omega) (by decide)) (by omega)
  obtain⟨l',s',t',e⟩:=zDv hm hq r (a+c) (acc++[dq (mn (ps0 (q-(a:Rat))) (c:Rat))]) (.val (.int c)) (.val (dq (mn (ps0 (q-(a:Rat))) (c:Rat)))) (fun x hx=>h1 x (Qe _ hx)) (fun x hx=>h2 x (Qe _ hx)) (by omega) (by omega) (by rw[Qi,Xl];omega)
  refine⟨l',s',t',?_⟩
  rw[Qj,fB (ρ1:=[.val d,.val (dq q),.val (dq (ps0 (q-(a:Rat)))),.own acc,.val (.int c),t]) rfl,e]
  ·rw[iI,Qj,Vp];rfl
  ·symm
   rw[cB];symm;rw[zDA zl zc (by omega)];symm;rw[if_pos (by omega)];symm;rw[mC zl (zLp zl zc) (by omega)];symm;rw[zLN c0]
theorem zCZ{d:D}{cs:List Int}{q:Rat}(hd:d=.lst (cs.map D.int)∨d=.tup (cs.map D.int)){m:Nat}(hm:m<=3000)(hc:Cl cs)(hq:Sz m q)(h0:0<=q):fV [d,dq q]=.ok (.f ((iI cs 0 q).map dq)):=by
 have sq:zJq d=.ok (cs.map D.int):=by rcases hd with rfl | rfl<;>rfl
 have:=hc.hi
 obtain⟨l',s',t',e⟩:=zDv (d:=d) hm hq cs 0 [] .un .un hc.nn hc.up (by decide) (by omega) (by rw[Yf];omega)
 have z:ps0 (q-((0:Int):Rat))=q:=by
  unfold ps0;rw[show((0:Int):Rat)=0 from rfl];grind
 rw[z] at e;unfold fV;symm;rw[sq];symm;rw[e];rfl
def yH(cs:List Int)(q:Rat):List Rat:=cs.map fun c=>Rat.divInt (c*q.num) (max 1 cs.sum*q.den)
theorem zHV{q:Rat}{c W:Int}(h:0<W):q / (W:Rat)*(c:Rat)=Rat.divInt (c*q.num) (W*q.den):=by
 have hW:(W:Rat)≠0:=by
  intro z;have:W=0:=by exact_mod_cast z
  omega
 rw[<-zGF q (W:Rat)];show Rat.divInt (q.num*((1:Nat):Int)) (q.den*W)*(c:Rat)=_
 rw[show((1:Nat):Int)=1 from rfl,Vx,<-V7 (c:Rat),Ux];show Rat.divInt (q.num*c) (q.den*W*((1:Nat):Int))=_
 rw[show((1:Nat):Int)=1 from rfl,Vx,X2 q.num,X2 (q.den:Int)]
theorem mT:∀ {cs:List Int},(∀ c∈cs,0<=c)->cs.sum=0->∀ c∈cs,c=0
 | [],_,_,c,h=>by cases h
 | d::r,h,e,c,hc=>by
  rw[Qm] at e;have h0:=h d Qf
  have hr:0<=r.sum:=by
   have:∀ l:List Int,(∀ c∈l,0<=c)->0<=l.sum:=by
    intro l
    induction l with
    | nil=>intro _;decide
    | cons a l ih=>intro hl;rw[Qm];have:=hl a Qf;have:=ih fun x hx=>hl x (Qe _ hx);omega
   exact this r fun x hx=>h x (Qe _ hx)
  rcases Qc.mp hc with rfl | hc
  ·omega
  ·exact mT (fun x hx=>h x (Qe _ hx)) (by omega) c hc
theorem zBL{d:D}{cs:List Int}{q:Rat}(hd:d=.lst (cs.map D.int)∨d=.tup (cs.map D.int)){m:Nat}(hm:m<=3000)(hc:Cl cs)(hq:Sz m q):eM [d,dq q]=.ok (.f ((yH cs q).map dq)):=by
 have sm:=hc.sum;have hi:=hc.hi;have sq:zJq d=.ok (cs.map D.int):=by rcases hd with rfl | rfl<;>rfl
 have su:zCJ [d]=.ok (.int cs.sum):=by rcases hd with rfl | rfl;exact bSum_l;exact bSum_t
 have ln:jM [d]=.ok (.int cs.length):=by rcases hd with rfl | rfl<;>(symm)
 unfold eM;symm;rw[su];symm;by_cases c0:cs.sum=0
 ·rw[decide_eq_true c0]
  symm;rw[ln];symm;rw[zFv (by omega)];symm
  have e:(yH cs q).map dq=List.replicate cs.length (dq 0):=by
   unfold yH;rw[Q4,<-List.map_const'];refine V3 fun c h=>?_
   have c0:=mT hc.nn c0 c h;subst c0;show dq (Rat.divInt (0*q.num) _)=dq 0
   rw[Int.zero_mul,Rat.zero_divInt]
  rw[e]
 ·rw[decide_eq_false c0]
  symm;have W0:0<cs.sum:=by omega
  have zW:Sz 110 (cs.sum:Rat):=dA (by omega) (by decide)
  have nW:(cs.sum:Rat)≠0:=by
   intro z;have:cs.sum=0:=by exact_mod_cast z
   omega
  rw[cB];symm;rw[zKg hq zW nW (by omega)];symm;rw[sq];symm
  rw[sU (u:=D.int) (g:=fun c=>dq (Rat.divInt (c*q.num) (max 1 cs.sum*q.den))) (by omega) (fun c h=>by
   have c0:=hc.nn c h;have c1:=hc.up c h;symm;rw[cB];symm;rw[zCK (hq.div zW nW) (dA (n:=110) (k:=c) (by omega) (by decide)) (by omega)];symm
   rw[zHV W0,Int.max_eq_right (by omega)])]
  symm;unfold yH;rw[Q4];rfl
def nK(f:Nat->Rat)(l:List Nat):Rat:=(l.map f).sum
theorem bP(f:Nat->Rat)(i:Nat)(l:List Nat):nK f (i::l)=f i+nK f l:=by unfold nK;rw[Qj,Qm]
theorem oB(f:Nat->Rat):nK f []=0:=rfl
theorem zCN{f g:Nat->Rat}:∀ {l:List Nat},(∀ i∈l,f i<=g i)->nK f l<=nK g l
 | [],_=>Vk
 | i::l,h=>by
  rw[bP,bP];have a:=h i Qf;have b:=zCN fun j hj=>h j (Qe _ hj)
  grind
theorem zI{f g:Nat->Rat}:∀ {l:List Nat},(∀ i∈l,f i<=g i)->nK f l=nK g l->∀ i∈l,f i=g i
 | [],_,_,i,hi=>by cases hi
 | j::l,h,e,i,hi=>by
  rw[bP,bP] at e;have a:=h j Qf;have hb:∀ i∈l,f i<=g i:=fun k hk=>h k (Qe _ hk)
  have b:=zCN hb;rcases Qc.mp hi with rfl | hi
  ·grind
  ·exact zI hb (by grind) i hi
theorem zAi{f:Nat->Rat}{l m:List Nat}(h:l.Perm m):nK f l=nK f m:=by
 induction h with
 | nil=>rfl
 | cons x _ ih=>rw[bP,bP,ih]
 | swap x y l=>rw[bP,bP,bP,bP];grind
 | trans _ _ h1 h2=>rw[h1,h2]
theorem jT{w:Nat->Rat}{t:Rat}:∀ {l:List Nat},nK (fun i=>w i*t) l=t*nK w l
 | []=>by rw[oB,oB];grind
 | i::l=>by rw[bP,bP,jT];grind
theorem wH{f g:Nat->Rat}{l:List Nat}(h:∀ i∈l,f i=g i):nK f l=nK g l:=by unfold nK;rw[V3 h]
theorem zIH{w:Nat->Rat}:∀ {l:List Nat},(∀ i∈l,0<w i)->0<=nK w l
 | [],_=>Vk
 | i::l,h=>by
  rw[bP];have a:=h i Qf;have b:=zIH fun j hj=>h j (Qe _ hj)
  grind
def dI(c w:Nat->Rat)(t:Rat)(i:Nat):Rat:=mn (w i*t) (c i)
theorem zQb{a b c d:Rat}(h:a<=c)(h':b<=d):mn a b<=mn c d:=by unfold mn;grind
theorem oY{c w:Nat->Rat}{t u:Rat}{i:Nat}(hw:0<w i)(h:t<=u):dI c w t i<=dI c w u i:=
 zQb (Yy h (Xh hw)) Vk
theorem xS{c w:Nat->Rat}{t u:Rat}{l:List Nat}(hw:∀ i∈l,0<w i)(h:nK (dI c w t) l=nK (dI c w u) l):∀ i∈l,dI c w t i=dI c w u i:=by
 rcases Uc (a:=t) (b:=u) with g | g
 ·exact zI (fun i hi=>oY (hw i hi) g) h
 ·exact fun i hi=>(zI (fun i hi=>oY (hw i hi) g) h.symm i hi).symm
theorem zGZ{L W w c:Rat}(hW:0<W)(h:L*w / W<c):mn (L*w / W) c=mn (w*(L / W)) c/\mn (w*(L / W)) c=w*(L / W):=by
 have e:L*w / W=w*(L / W):=by grind
 rw[e] at h ⊢
 exact⟨rfl,if_pos h⟩
theorem zFr{r W w c:Rat}(hW:W≠0)(h:w*r<=c):mn (r*W*w / W) c=w*r:=by
 have e:r*W*w / W=w*r:=by grind
 rw[e];unfold mn;grind
theorem zGl{ci wi cj wj r:Rat}(h1:0<wi)(h2:0<wj)(h:ci*wj<=cj*wi)(hr:wi*r<=ci):wj*r<=cj:=by
 have a:wi*r*wj<=ci*wj:=X3 hr (Xh h2)
 have b:wj*r*wi<=cj*wi:=by
  have:wj*r*wi=wi*r*wj:=by grind
  rw[this];exact Ud a h
 exact Yk b h1
theorem zEG{L W w c b:Rat}(hw:0<w)(h:¬ L*w / W<c)(hW:0<W)(hb:b*W<=L):∃ b',b<=b'/\c<=w*b'/\b' * (W-w)<=L-c:=by
 have h1:c*W<=L*w:=by
  have h':=Vd.mp h;have:=X3 h' (Xh hW)
  rwa [Xr (by grind)] at this
 have e1:w*(c / w)=c:=by grind
 have e2:c / w*(W-w)=c*W / w-c:=by grind
 have e3:c*W / w<=L:=by
  have a:c*W / w*w<=L*w:=by rw[Xr (by grind)];exact h1
  exact Yk a hw
 rcases Uc (a:=b) (b:=c / w) with g | g
 ·exact⟨c / w,g,by rw[e1];exact Vk,by rw[e2];grind⟩
 ·refine⟨b,Vk,?_,?_⟩
  ·have:=Yy g (Xh hw)
   rwa [e1] at this
  ·have:=Yy g (Xh hw)
   rw[e1] at this;grind
structure Wt (ws cs:List Int):Prop where
 len:ws.length=cs.length
 lo:∀ w∈ws,1<=w
 up:∀ w∈ws,w<=10^6
def cR(cs:List Int)(i:Nat):Rat:=((cs.getD i 0:Int):Rat)
def pU:List (Nat×Rat)->List D->List D
 | [],am=>am
 | p::r,am=>pU r (am.set p.1 (dq p.2))
def wS(ws:List Int)(π:List Nat):Int:=(π.map fun i=>ws.getD i 0).sum
theorem qO(ws:List Int)(i:Nat)(π:List Nat):wS ws (i::π)=ws.getD i 0+wS ws π:=by unfold wS;rw[Qj,Qm]
theorem aU{l:List Int}{i:Nat}(h:i<l.length):l[i]?=some (l.getD i 0):=by rw[Qq,Qk h];rfl
theorem zNg{i:Nat}{k e:Ev}{ρ:Rho}{ds:List D}{d:D}{j:Nat}(h1:e ρ=.ok d)(h2:ρ[i]?=some (.own ds))(h3:k ρ=.ok (.int (j:Int)))(h4:j<ds.length):zEF i k e ρ=.ok (.nx (ρ.set i (.own (ds.set j d)))):=by
 unfold zEF;rw[h1];show(match ρ[i]? with | some (.own ds)=>_ | _=>_)=_
 rw[h2];show(k ρ).bind _=_
 rw[h3];exact if_pos ⟨Va j,by omega⟩
theorem zNj{ds:List D}{d:D}{i:Nat}(h:i<ds.length):oIx (.lst (ds.set i d)) (.int (i:Int))=.ok d:=by
 have e:=nE (f:=id) (l:=ds.set i d) (i:=(i:Int)) (a:=d) (Va i) (show(ds.set i d)[i]?=some d from Vh h)
 rwa [List.map_id] at e
theorem Wt.at{ws cs:List Int}(h:Wt ws cs){i:Nat}(hi:i<cs.length):1<=ws.getD i 0/\ws.getD i 0<=10^6:=by
 have:=aU (l:=ws) (i:=i) (by rw[h.len];exact hi)
 exact⟨h.lo _ (Qg this),h.up _ (Qg this)⟩
theorem Wt.sum{ws cs:List Int}(h:Wt ws cs):∀ {π:List Nat},(∀ i∈π,i<cs.length)->(π.length:Int)<=wS ws π/\wS ws π<=π.length*10^6
 | [],_=>⟨Yj _,Yj _⟩
 | i::π,hi=>by
  have a:=h.at (hi i Qf);have b:=h.sum fun j hj=>hi j (Qe _ hj)
  rw[qO,Ql];omega
def Sq(d:D)(l:List Int):Prop:=d=.lst (l.map D.int)∨d=.tup (l.map D.int)
theorem Sq.ix{d:D}{l:List Int}(h:Sq d l){i:Nat}(hi:i<l.length):oIx d (.int (i:Int))=.ok (.int (l.getD i 0)):=by
 rcases h with rfl | rfl
 ·exact nE (Va i) (aU hi)
 ·exact rD (Va i) (aU hi)
theorem Sq.sum{d:D}{l:List Int}(h:Sq d l):zCJ [d]=.ok (.int l.sum):=by
 rcases h with rfl | rfl
 ·exact bSum_l
 ·exact bSum_t
theorem Sq.len{d:D}{l:List Int}(h:Sq d l):jM [d]=.ok (.int l.length):=by
 rcases h with rfl | rfl
 ·rw[bLen_l,Qd]
 ·rw[bLen_t,Qd]
theorem Sq.seq{d:D}{l:List Int}(h:Sq d l):zJq d=.ok (l.map D.int):=by
 rcases h with rfl | rfl<;>rfl
theorem Sq.seqo{d:D}{l:List Int}(h:Sq d l):zIh d=some (l.map D.int):=by
 rcases h with rfl | rfl<;>rfl
theorem zIc{ws cs:List Int}{wd cd:D}(sw:Sq wd ws)(sc:Sq cd cs){qv s7:Sl}{L:Rat}{W:Int}{i:Nat}{am:List D}(hW:Wt ws cs)(hc:∀ c∈cs,0<=c/\c<10^30){m:Nat}(hm:m<=3000)(hL:Sz (m+250) L)(W0:0<W)(W1:W<=12*10^6)(hi:i<cs.length)(ha:am.length=cs.length){a:Rat}(ea:mn (L*cR ws i / (W:Rat)) (cR cs i)=a):
  bX [.val wd,.val cd,qv,.val (dq L),.val (.int W),.own am,.val (.int (i:Nat)),s7]=
   .ok (.nx [.val wd,.val cd,qv,.val (dq (L-a)),.val (.int (W-ws.getD i 0)),.own (am.set i (dq a)),.val (.int (i:Nat)),.val (dq (L*cR ws i / (W:Rat)))]):=by
 have hiw:i<ws.length:=by rw[hW.len];exact hi
 obtain⟨w1,w2⟩:=hW.at hi;obtain⟨c1,c2⟩:=hc _ (Qg (aU hi));have zW:Sz 24 (W:Rat):=dA (by omega) (by decide)
 have zw:Sz 20 (cR ws i):=dA (by omega) (by decide)
 have zc:Sz (m+294) (cR cs i):=Sz.mono (m:=100) (dA (by omega) (by decide)) (by omega)
 have nW:(W:Rat)≠0:=by
  intro z;have:W=0:=by exact_mod_cast z
  omega
 have fw:bU [.int (ws.getD i 0)]=.ok (.v (dq (cR ws i))):=cB _;have fc:bU [.int (cs.getD i 0)]=.ok (.v (dq (cR cs i))):=cB _;have zx:Sz (m+294) (L*cR ws i / (W:Rat)):=((hL.mul zw).div zW nW).mono (by omega)
 symm;rw[sw.ix hiw];symm;rw[fw];symm;rw[zCK hL zw (by omega)];symm;rw[cB];symm;rw[zKg (hL.mul zw) zW nW (by omega)];symm
 rw[zNg (j:=i) (d:=dq a) (ds:=am) (by
  symm;rw[sc.ix hi];symm;rw[fc];symm;rw[zDA zx zc (by omega),ea]
  symm) rfl rfl (by omega)]
 symm;rw[zNj (by omega)];symm;rw[mC hL (ea ▸ zLp zx zc) (by omega)];symm;rw[sw.ix hiw];symm
theorem qP(ws:List Int):∀ π:List Nat,nK (cR ws) π=(wS ws π:Rat)
 | []=>rfl
 | i::π=>by rw[bP,qP ws π,qO,Q6];rfl
theorem zAm{ws cs:List Int}{wd cd:D}(sw:Sq wd ws)(sc:Sq cd cs){qv:Sl}{r:Rat}{m:Nat}(hm:m<=3000)(hW:Wt ws cs)(hc:∀ c∈cs,0<=c/\c<10^30)(hr:Sz (m+150) r):∀(π:List Nat)(am:List D)(s6 s7:Sl),(∀ i∈π,i<cs.length)->(∀ i∈π,cR ws i*r<=cR cs i)->π.length<=12->am.length=cs.length->
  ∃ l' W' s' t',loop (gName 6) bX (lF π) [.val wd,.val cd,qv,.val (dq (r*(wS ws π:Rat))),.val (.int (wS ws π)),.own am,s6,s7]=
   .ok (.nx [.val wd,.val cd,qv,l',W',.own (pU (π.map fun i=>(i,cR ws i*r)) am),s',t'])
 | [],am,s6,s7,_,_,_,_=>⟨_,_,_,_,rfl⟩
 | i::π,am,s6,s7,h1,h2,h4,h5=>by
  have hi:=h1 i Qf;obtain⟨W1,W2⟩:=hW.sum h1;rw[Ql] at h4 W1 W2;have zW:Sz 24 (wS ws (i::π):Rat):=dA (by omega) (by decide)
  have nW:(wS ws (i::π):Rat)≠0:=by
   intro z;have:wS ws (i::π)=0:=by exact_mod_cast z
   omega
  have e1:wS ws (i::π)-ws.getD i 0=wS ws π:=by rw[qO];omega
  have e2:r*(wS ws (i::π):Rat)-cR ws i*r=r*(wS ws π:Rat):=by
   rw[qO,Q6];show r*(cR ws i+(wS ws π:Rat))-cR ws i*r=_
   grind
  have tn:=zIc sw sc (qv:=qv) (s7:=s7) (W:=wS ws (i::π)) (am:=am) hW hc hm ((hr.mul zW).mono (by omega)) (by omega) (by omega) hi h5 (zFr nW (h2 i Qf))
  rw[e1,e2] at tn;obtain⟨l',W',s',t',e⟩:=zAm sw sc hm hW hc hr π (am.set i (dq (cR ws i*r))) _ _ (fun j hj=>h1 j (Qe _ hj)) (fun j hj=>h2 j (Qe _ hj)) (by omega) (by rw[Vb];exact h5)
  refine⟨l',W',s',t',?_⟩
  show loop _ _ (.int (i:Nat)::lF π) _=_
  rw[fB rfl tn,e];rfl
theorem zBf{ws cs:List Int}{wd cd:D}(sw:Sq wd ws)(sc:Sq cd cs){qv:Sl}{q:Rat}{m:Nat}(hm:m<=3000)(hW:Wt ws cs)(hc:∀ c∈cs,0<=c/\c<10^30)(hq:Sz m q):∀(π:List Nat)(k:Int)(b:Rat)(am:List D)(s6 s7:Sl),(∀ i∈π,i<cs.length)->π.Pairwise (fun i j=>cR cs i*cR ws j<=cR cs j*cR ws i)->π.length<=12->am.length=cs.length->
  0<=k->k+π.length*10^30<2^110->0<=q-(k:Rat)->q-(k:Rat)<=nK (cR cs) π->b*(wS ws π:Rat)<=q-(k:Rat)->
  ∃ t,b<=t/\nK (dI (cR cs) (cR ws) t) π=q-(k:Rat)/\(∀ i∈π,Sz (m+155) (dI (cR cs) (cR ws) t i))/\∃ l' W' s' t',loop (gName 6) bX (lF π) [.val wd,.val cd,qv,.val (dq (q-(k:Rat))),.val (.int (wS ws π)),.own am,s6,s7]=
   .ok (.nx [.val wd,.val cd,qv,l',W',.own (pU (π.map fun i=>(i,dI (cR cs) (cR ws) t i)) am),s',t'])
 | [],k,b,am,s6,s7,_,_,_,_,_,_,h6,h7,_=>⟨b,Vk,by rw[oB] at h7 ⊢;grind,fun i h=>by(cases h),_,_,_,_,rfl⟩
 | i::π,k,b,am,s6,s7,h1,h2,h3,h4,h5,h5',h6,h7,h8=>by
  have hi:=h1 i Qf;have h1':∀ j∈π,j<cs.length:=fun j hj=>h1 j (Qe _ hj)
  obtain⟨W1,W2⟩:=hW.sum h1;obtain⟨V1,V2⟩:=hW.sum h1';obtain⟨w1,w2⟩:=hW.at hi;obtain⟨c1,c2⟩:=hc _ (Qg (aU hi));obtain⟨p1,p2⟩:=List.pairwise_cons.mp h2;rw[Ql] at h3 h5' W1 W2;have ek:((π.length+1:Nat):Int)*10^30=(π.length:Int)*10^30+10^30:=by rw[Xq,X1];rfl
  have k0:0<=(π.length:Int)*10^30:=Ub (by omega) (by decide)
  have zW:Sz 24 (wS ws (i::π):Rat):=dA (by omega) (by decide)
  have zk:Sz 110 (k:Rat):=dA (by omega) (by decide)
  have zL:Sz (m+111) (q-(k:Rat)):=(hq.sub zk).mono (by omega)
  have pW:(0:Rat)<(wS ws (i::π):Rat):=by exact_mod_cast (show 0<wS ws (i::π) by omega)
  have nW:(wS ws (i::π):Rat)≠0:=fun z=>by rw[z] at pW;exact absurd pW (by decide)
  have pw:∀ j,j<cs.length->0<cR ws j:=fun j hj=>by
   have:=(hW.at hj).1
   unfold cR;exact_mod_cast (show 0<ws.getD j 0 by omega)
  have e1:wS ws (i::π)-ws.getD i 0=wS ws π:=by rw[qO];omega
  have eW:(wS ws (i::π):Rat)=cR ws i+(wS ws π:Rat):=by rw[qO,Q6];rfl
  have pV:(0:Rat)<=(wS ws π:Rat):=by exact_mod_cast (show 0<=wS ws π by omega)
  generalize hL:q-(k:Rat)=L at h6 h7 h8 zL ⊢
  have loop1:∀ {a:Rat} {l' W' s' t':Sl} {am':List D},mn (L*cR ws i / (wS ws (i::π):Rat)) (cR cs i)=a->loop (gName 6) bX (lF π) [.val wd,.val cd,qv,.val (dq (L-a)),.val (.int (wS ws π)),.own (am.set i (dq a)),.val (.int (i:Nat)),.val (dq (L*cR ws i / (wS ws (i::π):Rat)))]=.ok (.nx [.val wd,.val cd,qv,l',W',.own am',s',t'])->
    loop (gName 6) bX (lF (i::π)) [.val wd,.val cd,qv,.val (dq L),.val (.int (wS ws (i::π))),.own am,s6,s7]=.ok (.nx [.val wd,.val cd,qv,l',W',.own am',s',t']):=fun {a l' W' s' t' am'} ea e=>by
   have tn:=zIc sw sc (qv:=qv) (s7:=s7) (W:=wS ws (i::π)) (am:=am) hW hc hm (zL.mono (by omega)) (by omega) (by omega) hi h4 ea
   rw[e1] at tn;show loop _ _ (.int (i:Nat)::lF π) _=_
   rw[fB rfl tn];exact e
  by_cases hx:L*cR ws i / (wS ws (i::π):Rat)<cR cs i
  ·obtain⟨x1,x2⟩:=zGZ pW hx
   generalize hr:L / (wS ws (i::π):Rat)=r at x1 x2;have zr:Sz (m+135) r:=hr ▸ (zL.div zW nW).mono (by omega)
   have eL:L=r*(wS ws (i::π):Rat):=by rw[<-hr,Xr nW]
   have wr:cR ws i*r<=cR cs i:=by
    have e:L*cR ws i / (wS ws (i::π):Rat)=cR ws i*r:=by rw[<-hr];grind
    rw[e] at hx;exact Xh hx
   have later:∀ j∈π,cR ws j*r<=cR cs j:=fun j hj=>zGl (pw i hi) (pw j (h1' j hj)) (p1 j hj) wr
   have gj:∀ j∈i::π,dI (cR cs) (cR ws) r j=cR ws j*r:=fun j hj=>by
    have:cR ws j*r<=cR cs j:=by
     rcases Qc.mp hj with rfl | hj
     ·exact wr
     ·exact later j hj
    unfold dI mn;grind
   have e2:L-cR ws i*r=r*(wS ws π:Rat):=by rw[eL,eW];grind
   obtain⟨l',W',s',t',e⟩:=zAm sw sc (qv:=qv) hm hW hc (zr.mono (by omega)) π (am.set i (dq (cR ws i*r))) (.val (.int (i:Nat))) (.val (dq (L*cR ws i / (wS ws (i::π):Rat)))) h1' later (by omega) (by rw[Vb];exact h4)
   refine⟨r,Yk (by rw[<-eL];exact h8) pW,?_,fun j hj=>?_,l',W',s',t',loop1 (a:=cR ws i*r) (x1.trans x2) ?_⟩
   ·rw[wH gj,jT,qP,<-eL]
   ·rw[gj j hj]
    have v:=hW.at (h1 j hj);exact(Sz.mul (m:=20) (n:=m+135) (dA (by omega) (by decide)) zr).mono (by omega)
   ·rw[e2,e,Qj,pU,gj i Qf]
    rw[V3 (g:=fun j=>(j,dI (cR cs) (cR ws) r j)) fun j hj=>by rw[gj j (Qe _ hj)]]
  ·have ea:mn (L*cR ws i / (wS ws (i::π):Rat)) (cR cs i)=cR cs i:=if_neg hx
   obtain⟨b',g1,g2,g3⟩:=zEG (pw i hi) hx pW h8;have ek2:q-((k+cs.getD i 0:Int):Rat)=L-cR cs i:=by rw[Q6,<-hL];show q-((k:Rat)+cR cs i)=_;grind
   have c0:0<=cR cs i:=by unfold cR;exact_mod_cast c1
   have cL:cR cs i<=L:=by
    have y:=X3 (Vd.mp hx) (Xh pW);rw[Xr nW] at y;have y2:L*cR ws i<=L*(wS ws (i::π):Rat):=Yy (by rw[eW];grind) h6
    exact Yk (Ud y y2) pW
   rw[bP] at h7
   have g3':b' * (wS ws π:Rat)<=L-cR cs i:=by
    rw[eW] at g3;have:cR ws i+(wS ws π:Rat)-cR ws i=(wS ws π:Rat):=by grind
    rw[this] at g3;exact g3
   obtain⟨t,t1,t2,tz,l',W',s',t',e⟩:=zBf sw sc (qv:=qv) hm hW hc hq π (k+cs.getD i 0) b' (am.set i (dq (cR cs i))) (.val (.int (i:Nat))) (.val (dq (L*cR ws i / (wS ws (i::π):Rat)))) h1' p2 (by omega) (by rw[Vb];exact h4) (by omega) (by omega) (by rw[ek2];grind) (by rw[ek2];grind) (by rw[ek2];exact g3')
   have gi:dI (cR cs) (cR ws) t i=cR cs i:=by
    have:=Yy t1 (Xh (pw i hi))
    unfold dI mn;grind
   rw[ek2] at e t2;refine⟨t,Ud g1 t1,?_,fun j hj=>?_,l',W',s',t',loop1 ea ?_⟩
   ·rw[bP,gi,t2];grind
   ·rcases Qc.mp hj with rfl | hj
    ·rw[gi];exact Sz.mono (m:=100) (dA (by omega) (by decide)) (by omega)
    ·exact tz j hj
   ·rw[e,Qj,pU,gi]
theorem xC{g:Nat->Rat}:∀(π:List Nat)(am:List D)(j:Nat),(pU (π.map fun i=>(i,g i)) am)[j]?=if j∈π then (if j<am.length then some (dq (g j)) else none) else am[j]?
 | [],am,j=>by simp[pU]
 | i::π,am,j=>by
  rw[Qj,pU,xC π,Vb];by_cases h1:j∈π
  ·rw[if_pos h1,if_pos (Qe _ h1)]
  ·rw[if_neg h1]
   by_cases h2:j=i
   ·subst h2
    rw[if_pos Qf];by_cases h3:j<am.length
    ·rw[if_pos h3];exact Vh h3
    ·rw[if_neg h3,Qz (by rw[Vb];omega)]
   ·rw[if_neg (by simp[h1,h2]),Vi (fun z=>h2 z.symm)]
theorem zFi{g:Nat->Rat}{π:List Nat}{n:Nat}(h:π.Perm (List.range n)):pU (π.map fun i=>(i,g i)) (List.replicate n (dq 0))=((List.range n).map g).map dq:=by
 refine Yv fun j=>?_
 rw[xC,Qr,Qr,Xy];by_cases hj:j<n
 ·rw[if_pos (h.mem_iff.mpr (Qt.mpr hj)),if_pos hj,Xo hj];rfl
 ·rw[if_neg (fun z=>hj (Qt.mp (h.mem_iff.mp z))),Qz (by rw[Xy];omega),Qz (by rw[Qu];omega)];rfl
theorem zHh(kz:List Int):∃ π,iH kz π:=⟨_,zHy kz⟩
theorem zKL{fs:Fv}{kf:List D->Res (List Int)}{g:Gv}{b r:Sv}{ρ:Rho}{kz:List Int}{x:Res Fl}(h1:(fs ρ).bind kf=.ok kz)(h:∀ π,iH kz π->bB (fun ρ=>loop g b (lF π) ρ) r ρ=x):zIB fs kf g b r ρ=x:=by
 obtain⟨π,hπ⟩:=zHh kz;unfold zIB;rw[h1];exact zEL hπ h
def wW:List Rat->Int
 | []=>1
 | x::r=>x.den*wW r
def zKm(B:Int)(x:Rat):Int:=x.num*B.fdiv x.den
theorem zEc:∀ {l:List Rat} {x:Rat},x∈l->(x.den:Int) ∣ wW l
 | y::r,x,h=>by
  rcases Qc.mp h with rfl | h
  ·exact⟨wW r,rfl⟩
  ·exact Int.dvd_trans (zEc h) ⟨y.den,X2 _ _⟩
theorem zDR:∀ l:List Rat,0<wW l
 | []=>by decide
 | x::r=>Xc (dZ x) (zDR r)
theorem zNe{l:List Rat}{x:Rat}(h:x∈l):((zKm (wW l) x:Int):Rat)=x*(wW l:Rat):=by
 obtain⟨k,hk⟩:=zEc h;have d0:=dZ x;unfold zKm;rw[fdiv_pos _ d0,hk,Int.mul_ediv_cancel_left _ (by omega),Vw,Vw]
 have e:x*((x.den:Int):Rat)=(x.num:Rat):=by
  have h1:=V7 x;rw[X4] at h1
  have h2:((x.den:Int):Rat)≠0:=fun z=>by
   have:(x.den:Int)=0:=by exact_mod_cast z
   omega
  rw[<-Xr (a:=(x.num:Rat)) h2,h1]
 rw[<-e];grind
theorem zBr{a:Sl}:∀(l:List Rat)(B:Int)(s:Sl)(m:Nat),(∀ x∈l,(x.den:Int)<=10^6)->B.natAbs<2^m->m+20*l.length<=1000->
  ∃ s',loop (gName 2) xA (l.map dq) [a,.val (.int B),s]=.ok (.nx [a,.val (.int (B*wW l)),s'])/\(B*wW l).natAbs<2^(m+20*l.length)
 | [],B,s,m,_,h2,_=>⟨s,by rw[Vq,loop,wW,Vx],by rw[wW,Vx];exact h2⟩
 | x::r,B,s,m,h1,h2,h3=>by
  have d1:=h1 x Qf;have d0:=dZ x;rw[Ql] at h3;have hx:((x.den:Int)).natAbs<2^20:=by omega
  obtain⟨s',e,hb⟩:=zBr r (B*x.den) (.val (dq x)) (m+20) (fun y hy=>h1 y (Qe _ hy)) (fJ h2 hx) (by omega)
  have ed:B*wW (x::r)=B*x.den*wW r:=by rw[wW,Xs]
  refine⟨s',?_,by rw[ed,Ql,show m+20*(r.length+1)=m+20+20*r.length by omega];exact hb⟩
  rw[ed,<-e,Qj];refine fB (ρ1:=[a,.val (.int B),.val (dq x)]) rfl ?_
  symm;rw[oMul_i (cC (m:=m) (n:=20) h2 hx (by omega))];symm
theorem zDk{B:Int}(hB:B.natAbs<2^1000):∀ {l:List Rat},(∀ x∈l,(x.den:Int)<=10^6/\Sz 500 x)->nS B (l.map dq)=.ok (l.map (zKm B))
 | [],_=>rfl
 | x::r,h=>by
  obtain⟨d1,z⟩:=h x Qf;have d0:=dZ x;have e1:lA (x.den:Int)=true:=sN (m:=20) (by omega) (by omega) (by decide)
  have e2:iP x.num (B.fdiv x.den)=true:=by
   rw[fdiv_pos _ d0];refine cC (m:=500) (n:=1000) z.1 (V8 ?_ hB) (by decide)
   exact Int.natAbs_ediv_le_natAbs _ _
  have k1:zIg B (dq x)=.ok (zKm B x):=by
   show(if (lA (x.den:Int) && iP x.num (B.fdiv x.den))=true then Res.ok _ else .no)=_
   rw[e1,e2];rfl
  rw[Qj,nS,k1];show((nS B (r.map dq)).bind fun ks=>Res.ok (zKm B x::ks))=_
  rw[zDk hB fun y hy=>h y (Qe _ hy)];rfl
theorem zEE{l:List Rat}(h:∀ x∈l,(x.den:Int)<=10^6/\Sz 500 x)(hl:l.length<=12):mH [.lst (l.map dq)]=.ok (l.map (zKm (wW l))):=by
 obtain⟨s',e,hb⟩:=zBr (a:=.val (.lst (l.map dq))) l 1 .un 1 (fun x hx=>(h x hx).1) (by decide) (by omega)
 rw[Uw] at e hb;have r1:zAS (start 3 [.lst (l.map dq)])=.ok (.nx [.val (.lst (l.map dq)),.val (.int 1),.un]):=rfl
 have r2:uL [.val (.lst (l.map dq)),.val (.int 1),.un]=.ok (.nx [.val (.lst (l.map dq)),.val (.int (wW l)),s']):=by
  symm;exact e
 unfold mH yN;rw[if_pos (show [D.lst (l.map dq)].length=1 from rfl),r1];show(match uL [.val (.lst (l.map dq)),.val (.int 1),.un] with | .ok (.nx ρ')=>zDt ρ' | _=>.no)=_
 rw[r2];show(if (l.map dq).length<64 then nS (wW l) (l.map dq) else .no)=_
 rw[if_pos (by rw[Qd];omega)];exact zDk (Qn hb (Vv (by decide) (by omega))) h
def lvs(ws cs:List Int):List Rat:=(cs.zip ws).map fun p=>Rat.divInt p.1 p.2
theorem zHd{ws cs:List Int}(h:ws.length=cs.length):(lvs ws cs).length=cs.length:=by unfold lvs;rw[Qd,Wa,h,Yg]
theorem zOY{ws cs:List Int}{i:Nat}(h:ws.length=cs.length)(hi:i<cs.length):(lvs ws cs)[i]?=some (cR cs i / cR ws i):=by
 unfold lvs;rw[Qr]
 have:(cs.zip ws)[i]?=some (cs.getD i 0,ws.getD i 0):=by
  rw[Ww];exact⟨aU hi,aU (by omega)⟩
 rw[this];show some (Rat.divInt _ _)=_
 rw[X4];rfl
theorem zDG{t b:Int}(hb:0<b):((Rat.divInt t b).den:Int)<=b:=by
 have e:=zBm (t:=t) (b:=b) (by omega)
 have d0:0<=dv t b:=by unfold dv;rw[if_neg (by omega)];exact Va _
 rw[<-e,zLI _ d0];exact Int.ediv_le_self _ (by omega)
theorem zOK{ws cs:List Int}(hW:Wt ws cs)(hc:∀ c∈cs,0<=c/\c<10^30):∀ x∈lvs ws cs,(x.den:Int)<=10^6/\Sz 500 x:=fun x hx=>by
 obtain⟨p,hp,rfl⟩:=Qv.mp hx;obtain⟨h1,h2⟩:=Yc hp;have c:=hc _ h1;have w1:=hW.lo _ h2;have w2:=hW.up _ h2;have d:=zDG (t:=p.1) (b:=p.2) (by omega)
 exact⟨by omega,Sz.of (by omega) (by omega) (by omega)⟩
theorem zCL{ws cs:List Int}{wd cd:D}(sw:Sq wd ws)(sc:Sq cd cs)(hW:Wt ws cs)(hl:cs.length<=12):fU [wd,cd]=.ok (.f ((lvs ws cs).map dq)):=by
 have hw:=hW.len;unfold fU;symm;rw[uK sc.seqo sw.seqo];symm
 rw[oW (u:=D.int) (v:=D.int) (g:=fun c w=>dq (Rat.divInt c w)) (by omega) (fun p hp=>by
  have h2:=(Yc hp).2;have w1:=hW.lo _ h2;have w2:=hW.up _ h2;symm;rw[zAO (n:=20) (by omega) (by omega) (by decide)]
  symm)]
 symm;unfold lvs;rw[Q4];rfl
theorem zK(ws:List Int):∀ n,n<=ws.length->wS ws (List.range n)=(ws.take n).sum
 | 0,_=>rfl
 | n+1,h=>by
  have e:wS ws (List.range n++[n])=wS ws (List.range n)+ws.getD n 0:=by unfold wS;rw[Qw,V4];simp
  rw[Xb,e,zK ws n (by omega),Yd,V4,aU (show n<ws.length by omega)];simp
theorem zGt{ws:List Int}{π:List Nat}(h:π.Perm (List.range ws.length)):wS ws π=ws.sum:=by
 have e:=qP ws π;rw[zAi h,qP,zK ws _ (Qb _),Xa] at e;have:=Rat.intCast_inj.mp e
 omega
theorem zNi{a b:Sv}{ρ ρ':Rho}(h:a ρ=.ok (.nx ρ')):bB a b ρ=b ρ':=by unfold bB;rw[h];rfl
def evs(ws cs:List Int)(t:Rat):List Rat:=(List.range cs.length).map (dI (cR cs) (cR ws) t)
theorem rS{ws cs:List Int}{wd cd:D}(sw:Sq wd ws)(sc:Sq cd cs){q:Rat}{m:Nat}(hmm:m<=3000)(hW:Wt ws cs)(hc:Cl cs)(hq:Sz m q)(h0:0<=q)(h1:q<=(cs.sum:Rat)):∃ t,0<=t/\dB [wd,cd,dq q]=.ok (.f ((evs ws cs t).map dq))/\(evs ws cs t).sum=q/\∀ i,i<cs.length->Sz (m+155) (dI (cR cs) (cR ws) t i):=by
 have hcc:∀ c∈cs,0<=c/\c<10^30:=fun c h=>⟨hc.nn c h,hc.up c h⟩
 have hi:=hc.hi;have hw:=hW.len;have hkr:=zEE (zOK hW hcc) (by rw[zHd hw];exact hi)
 generalize hkz:(lvs ws cs).map (zKm (wW (lvs ws cs)))=kz at hkr;have lz:kz.length=cs.length:=by rw[<-hkz,Qd,zHd hw]
 have pw:∀ j,j<cs.length->0<cR ws j:=fun j hj=>by
  have:=(hW.at hj).1
  unfold cR;exact_mod_cast (show 0<ws.getD j 0 by omega)
 have one:∀ π,iH kz π->∃ t,0<=t/\nK (dI (cR cs) (cR ws) t) (List.range cs.length)=q/\(∀ i,i<cs.length->Sz (m+155) (dI (cR cs) (cR ws) t i))/\bB (fun ρ=>loop (gName 6) bX (lF π) ρ) jI [.val wd,.val cd,.val (dq q),.val (dq q),.val (.int ws.sum),.own (List.replicate cs.length (dq 0)),.un,.un]=.ok (.ret (.f ((evs ws cs t).map dq))):=by
  intro π hπ;obtain⟨hp,ho,_⟩:=hπ;rw[lz] at hp;have hm:∀ i∈π,i<cs.length:=fun i h=>Qt.mp (hp.mem_iff.mp h)
  have hl:π.length=cs.length:=by rw[hp.length_eq,Qu]
  have B0:=zDR (lvs ws cs);have B0':(0:Rat)<(wW (lvs ws cs):Rat):=by exact_mod_cast B0
  have kat:∀ i,i<cs.length->((kz.getD i 0:Int):Rat)=cR cs i / cR ws i*(wW (lvs ws cs):Rat):=fun i h=>by
   have e:=zOY hw h;have e2:kz.getD i 0=zKm (wW (lvs ws cs)) (cR cs i / cR ws i):=by rw[<-hkz,Qq,Qr,e];rfl
   rw[e2];exact zNe (Qg e)
  have ord:π.Pairwise (fun i j=>cR cs i*cR ws j<=cR cs j*cR ws i):=by
   refine Wb (fun {i j} h1 h2 h3=>?_) ho
   have h4:((kz.getD i 0:Int):Rat)<=((kz.getD j 0:Int):Rat):=Vm.mpr h3;rw[kat i (hm i h1),kat j (hm j h2)] at h4;have h5:=Yk h4 B0';have wi:=pw i (hm i h1);have wj:=pw j (hm j h2);have h6:=X3 h5 (Xh (Rat.mul_pos wi wj));have e1:cR cs i / cR ws i*(cR ws i*cR ws j)=cR cs i*cR ws j:=by grind
   have e2:cR cs j / cR ws j*(cR ws i*cR ws j)=cR cs j*cR ws i:=by grind
   rwa [e1,e2] at h6
  have hW':wS ws π=ws.sum:=zGt (by rw[hw];exact hp)
  have hC':nK (cR cs) π=(cs.sum:Rat):=by rw[qP,zGt hp]
  have z0:q-((0:Int):Rat)=q:=by rw[show((0:Int):Rat)=0 from rfl];grind
  obtain⟨t,t1,t2,tz,l',W',s',t',e⟩:=zBf sw sc (qv:=.val (dq q)) hmm hW hcc hq π 0 0 (List.replicate cs.length (dq 0)) .un .un hm ord (by omega) (by rw[Xy]) (by decide) (by rw[hl];omega) (by rw[z0];exact h0) (by rw[z0,hC'];exact h1) (by rw[z0];grind)
  rw[z0,hW'] at e;rw[z0] at t2;refine⟨t,t1,by rw[<-zAi hp];exact t2,fun i h=>tz i (hp.mem_iff.mpr (Qt.mpr h)),?_⟩
  refine(zNi (a:=fun ρ=>loop (gName 6) bX (lF π) ρ) e).trans ?_
  rw[zFi hp];rfl
 obtain⟨π0,hπ0⟩:=zHh kz;obtain⟨t,t1,t2,tz,e0⟩:=one π0 hπ0;have pw':∀ i∈List.range cs.length,0<cR ws i:=fun i h=>pw i (Qt.mp h)
 refine⟨t,t1,?_,t2,tz⟩
 unfold dB;symm;rw[sw.sum];symm;rw[sc.len];symm;rw[zFv (by omega)];symm
 have hfs:Res.bind ((aB (eF (eA fU (aB (aE 0) (aB (aE 1) aNil)))) aNil) [.val wd,.val cd,.val (dq q),.val (dq q),.val (.int ws.sum),.own (List.replicate cs.length (dq 0)),.un,.un]) mH=.ok kz:=by
  symm;rw[zCL sw sc hW hi];symm;exact hkr
 have hall:∀ π,iH kz π->bB (fun ρ=>loop (gName 6) bX (lF π) ρ) jI [.val wd,.val cd,.val (dq q),.val (dq q),.val (.int ws.sum),.own (List.replicate cs.length (dq 0)),.un,.un]=.ok (.ret (.f ((evs ws cs t).map dq))):=fun π hπ=>by
  obtain⟨u,_,u2,_,eu⟩:=one π hπ;rw[eu];unfold evs;rw[V3 (xS pw' (u2.trans t2.symm))]
 unfold nJ;rw[zKL hfs hall];rfl
def ones(cs:List Int):List Int:=List.replicate cs.length 1
theorem nM(cs:List Int):Wt (ones cs) cs:=⟨Xy,fun w h=>by rw[(List.mem_replicate.mp h).2];decide,fun w h=>by rw[(List.mem_replicate.mp h).2];decide⟩
def hf:Rat:=Rat.divInt 1 2
theorem zAL:hf=1 / 2:=by unfold hf;rw[X4];rfl
theorem zPN:d_HALF=dq hf:=zMC (b:=2) (by decide)
theorem zLD:Sz 2 hf:=Sz.of (by decide) (by decide) (by decide)
theorem dbl(q:Rat):q+q=q*((2:Int):Rat):=by rw[show((2:Int):Rat)=2 from rfl];grind
theorem zFy{q:Rat}{n:Nat}(h:Sz n q):Sz (n+2) (q+q):=by rw[dbl];exact h.mul (dA (by decide) (by decide))
def hvs(cs:List Int)(t:Rat):List Rat:=(List.range cs.length).map fun i=>dI (cR cs) (cR (ones cs)) t i*hf
structure Lvl (M:Nat) (ws cs:List Int) (q t:Rat):Prop where
 nn:0<=t
 sum:(evs ws cs t).sum=q
 sz:∀ i,i<cs.length->Sz M (dI (cR cs) (cR ws) t i)
theorem zBP{cs:List Int}{cd:D}(sc:Sq cd cs){q:Rat}{m:Nat}(hm:m<=2990)(hc:Cl cs)(hq:Sz m q)(h0:0<=q)(h1:q+q<=(cs.sum:Rat)):∃ t,Lvl (m+157) (ones cs) cs (q+q) t/\eV [cd,dq q]=.ok (.f ((hvs cs t).map dq)):=by
 have hi:=hc.hi;obtain⟨t,t1,e,t2,tz⟩:=rS (wd:=.lst ((ones cs).map D.int)) (.inl rfl) sc (m:=m+2) (by omega) (nM cs) hc (zFy hq) (by grind) h1
 refine⟨t,⟨t1,t2,fun i h=>(tz i h).mono (by omega)⟩,?_⟩
 have eo:(ones cs).map D.int=List.replicate cs.length (.int 1):=by unfold ones;rw[List.map_replicate]
 rw[eo] at e;have hh:=zPN;unfold d_HALF at hh;unfold eV;symm;rw[sc.len];symm;rw[zFv (by omega)];symm;rw[wJ hq hq (by omega)];symm;rw[e];symm;rw[show(evs (ones cs) cs t).map dq=(List.range cs.length).map (fun i=>dq (dI (cR cs) (cR (ones cs)) t i)) by unfold evs;rw[Q4];rfl]
 rw[sU (u:=fun i=>dq (dI (cR cs) (cR (ones cs)) t i)) (g:=fun i=>dq (dI (cR cs) (cR (ones cs)) t i*hf)) (by rw[Qu];omega) (fun i h=>by
  have hil:=Qt.mp h;symm;rw[hh,zCK (tz i hil) zLD (by omega)]
  symm)]
 symm;unfold hvs;rw[Q4];rfl
theorem Lvl.mono{M M':Nat}{ws cs:List Int}{q t:Rat}(h:Lvl M ws cs q t)(l:M<=M'):Lvl M' ws cs q t:=⟨h.nn,h.sum,fun i hi=>(h.sz i hi).mono l⟩
theorem zBV{w v:Str}(h:bA.lookup w=some v):cP [.str w]=.ok (.v .non):=by
 unfold cP;symm;rw[h];rfl
theorem uI{cs:List Int}{cd:D}(sc:Sq cd cs)(hc:Cl cs):dQ [cd]=.ok (.v .non):=by
 have lo:=hc.lo;unfold dQ;symm;rw[sc.len];symm;rw[decide_eq_false (by omega)];symm;rw[sc.seq];symm;refine zBZ (Q:=fun r=>r=(.ok (.v .non):Res Rt)) (fun ρ=>∃ a,ρ=[.val cd,a]) ⟨_,rfl⟩ ?_ ?_
 ·rintro e ρ he ⟨a,rfl⟩
  obtain⟨c,h,rfl⟩:=Qv.mp he;have:=hc.nn c h
  refine⟨_,?_,.val (.int c),rfl⟩
  symm;rw[decide_eq_false (by omega)];symm
 ·rintro ρ ⟨a,rfl⟩
  rfl
theorem kX{q:Rat}{W:Int}{m:Nat}(hm:m<=3000)(h:Haul m q W)(hW:W.natAbs<2^110):bM [dq q,dq (W:Rat)]=.ok (.v .non):=by
 have z0:Sz 1 (0:Rat):=⟨by decide,by decide⟩
 have zW:Sz 110 (W:Rat):=dA hW (by decide)
 have n1:¬ q<0:=Vd.mpr h.nn;have n2:¬ (W:Rat)<q:=Vd.mpr h.up
 have io:bO [dq q,dq (W:Rat)]=.ok (.v (.bl false)):=by
  unfold bO;symm;rw[uP h.sz z0 (by omega),decide_eq_false n1];symm;rw[uP zW h.sz (by omega),decide_eq_false n2];symm
 unfold bM;symm;rw[io];symm
theorem lD{α β:Type}(l:List α)(f:Nat->β)(d:α):l.zip ((List.range l.length).map f)=(List.range l.length).map fun i=>(l.getD i d,f i):=by
 refine Yv fun i=>?_
 rw[Qr];by_cases h:i<l.length
 ·rw[Xo h]
  refine Ww.mpr ⟨?_,by rw[Qr,Xo h];rfl⟩
  show l[i]?=some (l.getD i d)
  rw[Qq,Qk h];rfl
 ·rw[Qz (by rw[Wa];omega),Qz (by rw[Qu];omega)];rfl
theorem jB{w:Str}{d:D}{n:Int}(hd:d=.lst []∨d=.tup [])(hw:oIn (.str w) d_WEIGHTED=.ok (.bl false)):aY [.str w,d,.int n]=.ok (.v .non):=by
 have sq:zJq d=.ok []:=by rcases hd with rfl | rfl<;>rfl
 have ln:jM [d]=.ok (.int 0):=by rcases hd with rfl | rfl<;>rfl
 unfold d_WEIGHTED at hw;unfold aY;symm;rw[hw];symm;rw[ln];symm;rw[sq];rfl
theorem zRa:qY 10 6=true:=by decide
theorem oI{w:Str}{ws cs:List Int}{wd:D}(sw:Sq wd ws)(hW:Wt ws cs)(hw:oIn (.str w) d_WEIGHTED=.ok (.bl true)):aY [.str w,wd,.int cs.length]=.ok (.v .non):=by
 have hl:=hW.len;unfold d_WEIGHTED at hw;unfold aY;symm;rw[hw];symm;rw[sw.len];symm;rw[hl,decide_eq_true rfl];symm;rw[sw.seq];symm;refine zBZ (Q:=fun r=>r=(.ok (.v .non):Res Rt)) (fun ρ=>∃ a,ρ=[.val (.str w),.val wd,.val (.int cs.length),.val (.int cs.length),a]) ⟨_,rfl⟩ ?_ ?_
 ·rintro e ρ he ⟨a,rfl⟩
  obtain⟨c,h,rfl⟩:=Qv.mp he;have h1:=hW.lo c h;have h2:=hW.up c h;refine⟨_,?_,.val (.int c),rfl⟩
  symm;rw[decide_eq_false (by omega)];symm;rw[oPow_i zRa];symm;rw[decide_eq_false (by omega)];symm
 ·rintro ρ ⟨a,rfl⟩
  rfl
theorem zQK:(Str.ofString "even" == Str.ofString "row")=false:=by decide
theorem zRn:(Str.ofString "lack" == Str.ofString "row")=false:=by decide
theorem zQO:(Str.ofString "lack" == Str.ofString "even")=false:=by decide
theorem zQH:(Str.ofString "lack" == Str.ofString "part")=false:=by decide
theorem zQL:(Str.ofString "lack" == Str.ofString "half")=false:=by decide
theorem zJi:(bA.lookup (Str.ofString "even"))=some (Str.ofString "lack"):=by decide
theorem zDY:(bA.lookup (Str.ofString "lack"))=some (Str.ofString "even"):=by decide
theorem zJV{n:Nat}{ws cs:List Int}{wd cd:D}(sw:Sq wd ws)(sc:Sq cd cs){q:Rat}{m:Nat}(hm:m<=3000)(hW:Wt ws cs)(hc:Cl cs)(hq:Sz m q)(h0:0<=q)(h1:q<=(cs.sum:Rat)):∃ t,Lvl (m+155) ws cs q t/\aO (n+1) [.str (Str.ofString "even"),wd,cd,dq q]=.ok (.f ((evs ws cs t).map dq)):=by
 obtain⟨t,t1,e,t2,tz⟩:=rS sw sc hm hW hc hq h0 h1;refine⟨t,⟨t1,t2,tz⟩,?_⟩
 show aR (aO n) _=_
 unfold aR;symm;rw[sc.sum];symm;rw[cB];symm;rw[zQK];symm;rw[e];symm
def lks(ws cs:List Int)(t:Rat):List Rat:=(cs.zip (evs ws cs t)).map fun p=>(p.1:Rat)-p.2
theorem zMI(ws cs:List Int)(t:Rat):lks ws cs t=(List.range cs.length).map fun i=>cR cs i-dI (cR cs) (cR ws) t i:=by
 unfold lks evs;rw[lD cs _ 0,Q4];rfl
theorem zOP{n:Nat}{ws cs:List Int}{wd cd:D}(sw:Sq wd ws)(sc:Sq cd cs){q:Rat}{m:Nat}(hm:m<=2890)(hW:Wt ws cs)(hc:Cl cs)(hq:Haul m q cs.sum):∃ t,Lvl (m+261) ws cs ((cs.sum:Rat)-q) t/\aO (n+2) [.str (Str.ofString "lack"),wd,cd,dq q]=.ok (.f ((lks ws cs t).map dq)):=by
 have sm:=hc.sum;have hi:=hc.hi;have zW:Sz 105 (cs.sum:Rat):=dA (by omega) (by decide)
 have zT:Sz (m+106) ((cs.sum:Rat)-q):=(zW.sub hq.sz).mono (by omega)
 have u:=hq.up;have u':=hq.nn;obtain⟨t,tl,e⟩:=zJV sw sc (n:=n) (m:=m+106) (by omega) hW hc zT (by grind) (by grind)
 refine⟨t,tl,?_⟩
 show aR (aO (n+1)) _=_
 unfold aR;symm;rw[sc.sum];symm;rw[cB];symm;rw[zRn];symm;rw[zQO];symm;rw[zQH];symm;rw[zQL];symm;rw[show zAj bA (.str (Str.ofString "lack"))=.ok (.str (Str.ofString "even")) by show zOJ (bA.lookup (Str.ofString "lack"))=_;rw[zDY];rfl];symm;rw[mC zW hq.sz (by omega)];symm;rw[e];symm;rw[uK sc.seqo rfl];symm
 rw[oW (u:=D.int) (v:=dq) (g:=fun c l=>dq ((c:Rat)-l)) (by omega) (fun p hp=>by
  have hp':=hp;unfold evs at hp';rw[lD cs _ 0] at hp';obtain⟨i,hir,rfl⟩:=Qv.mp hp';have hil:=Qt.mp hir;have c1:=hc.nn _ (Qg (aU hil));have c2:=hc.up _ (Qg (aU hil));symm;rw[cB];symm;rw[mC (m:=100) (n:=m+261) (dA (by omega) (by decide)) (tl.sz i hil) (by omega)]
  symm)]
 symm;unfold lks;rw[Q4];rfl
theorem zQt:(Str.ofString "half" == Str.ofString "row")=false:=by decide
theorem zQl:(Str.ofString "half" == Str.ofString "even")=false:=by decide
theorem zQq:(Str.ofString "half" == Str.ofString "part")=false:=by decide
theorem zEj:(bA.lookup (Str.ofString "half"))=some (Str.ofString "half"):=by decide
theorem zGI{n:Nat}{e:D}{cs:List Int}{cd:D}(sc:Sq cd cs){q:Rat}{m:Nat}(hm:m<=2990)(hc:Cl cs)(hq:Sz m q)(h0:0<=q)(h1:q+q<=(cs.sum:Rat)):∃ t,Lvl (m+157) (ones cs) cs (q+q) t/\aO (n+1) [.str (Str.ofString "half"),e,cd,dq q]=.ok (.f ((hvs cs t).map dq)):=by
 have sm:=hc.sum;have zW:Sz 105 (cs.sum:Rat):=dA (by omega) (by decide)
 obtain⟨t,tl,ee⟩:=zBP sc hm hc hq h0 h1;refine⟨t,tl,?_⟩
 show aR (aO n) _=_
 unfold aR;symm;rw[sc.sum];symm;rw[cB];symm;rw[zQt];symm;rw[zQl];symm;rw[zQq];symm;rw[wJ hq hq (by omega)];symm;rw[uP zW (zFy hq) (by omega),decide_eq_false (Vd.mpr h1)];symm;rw[ee];symm
def lhs(cs:List Int)(t:Rat):List Rat:=(List.range cs.length).map fun i=>cR cs i-dI (cR cs) (cR (ones cs)) t i*hf
theorem zMe{n:Nat}{e:D}{cs:List Int}{cd:D}(sc:Sq cd cs){q:Rat}{m:Nat}(hm:m<=2880)(hc:Cl cs)(hq:Haul m q cs.sum)(h1:(cs.sum:Rat)<q+q):∃ t,Lvl (m+263) (ones cs) cs (((cs.sum:Rat)-q)+((cs.sum:Rat)-q)) t/\aO (n+2) [.str (Str.ofString "half"),e,cd,dq q]=.ok (.f ((lhs cs t).map dq)):=by
 have sm:=hc.sum;have hi:=hc.hi;have zW:Sz 105 (cs.sum:Rat):=dA (by omega) (by decide)
 have zT:Sz (m+106) ((cs.sum:Rat)-q):=(zW.sub hq.sz).mono (by omega)
 have u:=hq.up;obtain⟨t,tl,ee⟩:=zGI sc (n:=n) (e:=e) (m:=m+106) (by omega) hc zT (by grind) (by grind)
 refine⟨t,tl,?_⟩
 show aR (aO (n+1)) _=_
 unfold aR;symm;rw[sc.sum];symm;rw[cB];symm;rw[zQt];symm;rw[zQl];symm;rw[zQq];symm;rw[wJ hq.sz hq.sz (by omega)];symm;rw[uP zW (zFy hq.sz) (by omega),decide_eq_true h1];symm;rw[show zAj bA (.str (Str.ofString "half"))=.ok (.str (Str.ofString "half")) by show zOJ (bA.lookup (Str.ofString "half"))=_;rw[zEj];rfl];symm;rw[mC zW hq.sz (by omega)];symm;rw[ee];symm;rw[uK sc.seqo rfl];symm
 rw[oW (u:=D.int) (v:=dq) (g:=fun c l=>dq ((c:Rat)-l)) (by omega) (fun p hp=>by
  have hp':=hp;unfold hvs at hp';rw[lD cs _ 0] at hp';obtain⟨i,hir,rfl⟩:=Qv.mp hp';have hil:=Qt.mp hir;have c1:=hc.nn _ (Qg (aU hil));have c2:=hc.up _ (Qg (aU hil));symm;rw[cB];symm;rw[mC (m:=100) (n:=m+263+2) (dA (by omega) (by decide)) ((tl.sz i hil).mul zLD) (by omega)]
  symm)]
 symm;unfold hvs lhs;rw[lD cs _ 0,Q4,Q4];rfl
theorem zRl:(Str.ofString "back" == Str.ofString "row")=false:=by decide
theorem zQN:(Str.ofString "back" == Str.ofString "even")=false:=by decide
theorem zQD:(Str.ofString "back" == Str.ofString "part")=false:=by decide
theorem zRb:(Str.ofString "back" == Str.ofString "half")=false:=by decide
theorem zQC:(Str.ofString "part" == Str.ofString "row")=false:=by decide
theorem zQV:(Str.ofString "part" == Str.ofString "even")=false:=by decide
theorem zKU:(bA.lookup (Str.ofString "row"))=some (Str.ofString "back"):=by decide
theorem zEa:(bA.lookup (Str.ofString "back"))=some (Str.ofString "row"):=by decide
theorem zIQ:(bA.lookup (Str.ofString "part"))=some (Str.ofString "part"):=by decide
theorem zOz{n:Nat}{d e:D}{cs:List Int}{q:Rat}(hd:d=.lst (cs.map D.int)∨d=.tup (cs.map D.int)){m:Nat}(hm:m<=3000)(hc:Cl cs)(hq:Sz m q)(h0:0<=q):aO (n+1) [.str (Str.ofString "row"),e,d,dq q]=.ok (.f ((iI cs 0 q).map dq)):=by
 have su:zCJ [d]=.ok (.int cs.sum):=by rcases hd with rfl | rfl;exact bSum_l;exact bSum_t
 show aR (aO n) _=_
 unfold aR;symm;rw[su];symm;rw[cB];symm;rw[zCZ hd hm hc hq h0];symm
theorem zOq{n:Nat}{d e:D}{cs:List Int}{q:Rat}(hd:d=.lst (cs.map D.int)∨d=.tup (cs.map D.int)){m:Nat}(hm:m<=3000)(hc:Cl cs)(hq:Sz m q):aO (n+1) [.str (Str.ofString "part"),e,d,dq q]=.ok (.f ((yH cs q).map dq)):=by
 have su:zCJ [d]=.ok (.int cs.sum):=by rcases hd with rfl | rfl;exact bSum_l;exact bSum_t
 show aR (aO n) _=_
 unfold aR;symm;rw[su];symm;rw[cB];symm;rw[zQC];symm;rw[zQV];symm;rw[zBL hd hm hc hq];symm
theorem zKe(f g:Nat->Rat):∀ n:Nat,((List.range n).map fun i=>f i-g i).sum=((List.range n).map f).sum-((List.range n).map g).sum
 | 0=>by simp only[Wc,Vq,Vn];grind
 | n+1=>by
  rw[Xb,Qw,Qw,Qw,V4,V4,V4,zKe f g n];simp only[Qj,Vq,Qm,Vn];grind
theorem zGd(cs:List Int):((List.range cs.length).map (cR cs)).sum=(cs.sum:Rat):=by
 have e:=qP cs (List.range cs.length);rw[zK cs _ (Qb _),Xa] at e;exact e
theorem qZ{ws cs:List Int}{t:Rat}(hW:Wt ws cs)(hc:Cl cs)(h0:0<=t){i:Nat}(hi:i<cs.length):0<=dI (cR cs) (cR ws) t i/\dI (cR cs) (cR ws) t i<=cR cs i:=by
 have w:=(hW.at hi).1;have c:=hc.nn _ (Qg (aU hi));have w':(0:Rat)<=cR ws i:=by unfold cR;exact_mod_cast (show 0<=ws.getD i 0 by omega)
 have c':(0:Rat)<=cR cs i:=by unfold cR;exact_mod_cast c
 have:=Rat.mul_nonneg w' h0
 unfold dI mn;grind
theorem zJJ(x:Rat):(x.num:Rat)=x*((x.den:Int):Rat):=by
 have d0:=dZ x
 have nd:((x.den:Int):Rat)≠0:=fun z=>by
  have:(x.den:Int)=0:=by exact_mod_cast z
  omega
 have h1:=V7 x;rw[X4] at h1;rw[<-Xr (a:=(x.num:Rat)) nd,h1]
theorem zGR{l:List Rat}{n:Nat}(h:l.length=n):l=(List.range n).map fun i=>l.getD i 0:=by
 refine Yv fun i=>?_
 rw[Qr];by_cases hi:i<n
 ·rw[Xo hi,Qk (by omega)]
  show _=some (l.getD i 0)
  rw[Qq,Qk (by omega)];rfl
 ·rw[Qz (by omega),Qz (by rw[Qu];omega)];rfl
def wN(cs:List Int)(q:Rat)(i:Nat):Rat:=(iI cs 0 q).getD i 0
theorem zHP:∀(cs:List Int)(a:Int)(q:Rat)(i:Nat),(∀ c∈cs,0<=c)->i<cs.length->0<=(iI cs a q).getD i 0/\(iI cs a q).getD i 0<=cR cs i
 | c::r,a,q,0,h,_=>by
  have c0:(0:Rat)<=(c:Rat):=by exact_mod_cast h c Qf
  show 0<=mn (ps0 (q-(a:Rat))) (c:Rat)/\mn (ps0 (q-(a:Rat))) (c:Rat)<=(c:Rat)
  unfold mn ps0;grind
 | c::r,a,q,i+1,h,hi=>zHP r (a+c) q i (fun x hx=>h x (Qe _ hx)) (by rw[Ql] at hi;omega)
theorem uN:∀(cs:List Int)(a:Int){q q':Rat}(i:Nat),q<=q'->(iI cs a q).getD i 0<=(iI cs a q').getD i 0
 | [],_,_,_,_,_=>Vk
 | c::r,a,q,q',0,h=>by
  show mn (ps0 (q-(a:Rat))) (c:Rat)<=mn (ps0 (q' - (a:Rat))) (c:Rat)
  unfold mn ps0;grind
 | c::r,a,q,q',i+1,h=>uN r (a+c) i h
theorem zDN:∀(cs:List Int)(a:Int)(q:Rat),(∀ c∈cs,0<=c)->0<=cs.sum/\(iI cs a q).sum=mn (ps0 (q-(a:Rat))) (cs.sum:Rat)
 | [],a,q,_=>⟨Yj _,by show(0:Rat)=mn (ps0 _) ((0:Int):Rat);rw[show((0:Int):Rat)=0 from rfl];unfold mn ps0;grind⟩
 | c::r,a,q,h=>by
  have c0:=h c Qf;obtain⟨s0,e⟩:=zDN r (a+c) q fun x hx=>h x (Qe _ hx)
  have c0':(0:Rat)<=(c:Rat):=by exact_mod_cast c0
  have s0':(0:Rat)<=(r.sum:Rat):=by exact_mod_cast s0
  rw[Qm];refine⟨by omega,?_⟩
  rw[iI,Qm,e,Q6,Q6];unfold mn ps0;grind
theorem zHT{q:Rat}{m:Nat}(hq:Sz m q):∀(cs:List Int)(a:Int),(∀ c∈cs,0<=c)->(∀ c∈cs,c<10^30)->0<=a->a+cs.length*10^30<2^110->∀ x∈iI cs a q,Sz (m+111) x
 | [],_,_,_,_,_,x,hx=>by cases hx
 | c::r,a,h1,h2,h3,h4,x,hx=>by
  have c0:=h1 c Qf;have c1:=h2 c Qf;rw[Ql] at h4;have e4:((r.length+1:Nat):Int)*10^30=(r.length:Int)*10^30+10^30:=by rw[Xq,X1];rfl
  have r0:0<=(r.length:Int)*10^30:=Ub (by omega) (by decide)
  rw[iI] at hx;rcases Qc.mp hx with rfl | hx
  ·exact zLp (zNt (hq.sub (dA (n:=110) (by omega) (by decide))) (by omega)) (Sz.mono (m:=100) (dA (by omega) (by decide)) (by omega))
  ·exact zHT hq r (a+c) (fun x hx=>h1 x (Qe _ hx)) (fun x hx=>h2 x (Qe _ hx)) (by omega) (by omega) x hx
theorem zCw{cs:List Int}{q:Rat}{m:Nat}(hc:Cl cs)(hq:Sz m q)(h0:0<=q)(h1:q<=(cs.sum:Rat)):(iI cs 0 q=(List.range cs.length).map (wN cs q))/\(iI cs 0 q).sum=q/\∀ x∈iI cs 0 q,Sz (m+111) x:=by
 have hi:=hc.hi;refine⟨zGR (zAg _ _ _),?_,zHT hq cs 0 hc.nn hc.up (by decide) (by omega)⟩
 rw[(zDN cs 0 q hc.nn).2,show((0:Int):Rat)=0 from rfl];unfold mn ps0;grind
theorem zNa{n:Nat}{e:D}{cs:List Int}{cd:D}(sc:Sq cd cs){q:Rat}{m:Nat}(hm:m<=2890)(hc:Cl cs)(hq:Haul m q cs.sum):aO (n+2) [.str (Str.ofString "back"),e,cd,dq q]=.ok (.f (((List.range cs.length).map fun i=>cR cs i-wN cs ((cs.sum:Rat)-q) i).map dq)):=by
 have sm:=hc.sum;have hi:=hc.hi;have zW:Sz 105 (cs.sum:Rat):=dA (by omega) (by decide)
 have zT:Sz (m+106) ((cs.sum:Rat)-q):=(zW.sub hq.sz).mono (by omega)
 have u:=hq.up;have u':=hq.nn;obtain⟨r1,r2,r3⟩:=zCw hc zT (by grind) (by grind)
 have ee:=zOz (n:=n) (e:=e) sc (m:=m+106) (by omega) hc zT (by grind)
 show aR (aO (n+1)) _=_
 unfold aR;symm;rw[sc.sum];symm;rw[cB];symm;rw[zRl];symm;rw[zQN];symm;rw[zQD];symm;rw[zRb];symm;rw[show zAj bA (.str (Str.ofString "back"))=.ok (.str (Str.ofString "row")) by show zOJ (bA.lookup (Str.ofString "back"))=_;rw[zEa];rfl];symm;rw[mC zW hq.sz (by omega)];symm;rw[ee];symm;rw[uK sc.seqo rfl];symm
 rw[oW (u:=D.int) (v:=dq) (g:=fun c l=>dq ((c:Rat)-l)) (by omega) (fun p hp=>by
  obtain⟨p1,p2⟩:=Yc hp;have c1:=hc.nn _ p1;have c2:=hc.up _ p1;symm;rw[cB];symm;rw[mC (m:=100) (n:=m+106+111) (dA (by omega) (by decide)) (r3 _ p2) (by omega)]
  symm)]
 symm;rw[r1,lD cs _ 0,Q4,Q4];rfl
def sA(cs:List Int)(q:Rat)(i:Nat):Rat:=(yH cs q).getD i 0
theorem zEf{cs:List Int}{q:Rat}{i:Nat}(hi:i<cs.length):sA cs q i=Rat.divInt (cs.getD i 0*q.num) (max 1 cs.sum*q.den):=by
 unfold sA yH;rw[Qq,Qr,aU hi];rfl
theorem iD{cs:List Int}{q:Rat}(hc:Cl cs){i:Nat}(hi:i<cs.length):sA cs q i*(cs.sum:Rat)=q*cR cs i/\(cs.sum=0->sA cs q i=0):=by
 have sm:=hc.sum;have e:=zEf (q:=q) hi;by_cases z:cs.sum=0
 ·have c0:=mT hc.nn z _ (Qg (aU hi))
  have p0:sA cs q i=0:=by rw[e,c0,Int.zero_mul,Rat.zero_divInt]
  refine⟨?_,fun _=>p0⟩
  rw[p0];unfold cR;rw[c0,show((0:Int):Rat)=0 from rfl];grind
 ·have W0:0<cs.sum:=by omega
  have nW:(cs.sum:Rat)≠0:=fun y=>by
   have:cs.sum=0:=by exact_mod_cast y
   omega
  refine⟨?_,fun y=>absurd y z⟩
  rw[e,Int.max_eq_right (by omega),<-zHV W0];show q / (cs.sum:Rat)*cR cs i*(cs.sum:Rat)=_
  grind
theorem zFE{cs:List Int}{q:Rat}{m:Nat}(hc:Cl cs)(hq:Sz m q){i:Nat}(hi:i<cs.length):Sz (m+370) (sA cs q i):=by
 have sm:=hc.sum;have c1:=hc.nn _ (Qg (aU hi));have c2:=hc.up _ (Qg (aU hi));rw[zEf hi];have d0:=dZ q;have p:=Xc (show 0<max 1 cs.sum by omega) d0
 exact Sz.of (by omega) (Qn (fJ (m:=100) (n:=m) (by omega) hq.1) (Vv (by decide) (by omega))) (Qn (fJ (m:=110) (n:=m) (by omega) hq.d) (Vv (by decide) (by omega)))
inductive Wy where
 | row | back | even | lack | part | half
def Wy.s:Wy->Str
 | .row=>Str.ofString "row"
 | .back=>Str.ofString "back"
 | .even=>Str.ofString "even"
 | .lack=>Str.ofString "lack"
 | .part=>Str.ofString "part"
 | .half=>Str.ofString "half"
def Wy.due(w:Wy)(ws cs:List Int):Prop:=match w with
 | .even=>Wt ws cs
 | .lack=>Wt ws cs
 | _=>ws=[]
def Al(M:Nat)(ws cs:List Int)(q:Rat)(f:Nat->Rat):Wy->Prop
 | .row=>∀ i,i<cs.length->f i=wN cs q i
 | .back=>∀ i,i<cs.length->f i=cR cs i-wN cs ((cs.sum:Rat)-q) i
 | .even=>∃ t,Lvl M ws cs q t/\∀ i,i<cs.length->f i=dI (cR cs) (cR ws) t i
 | .lack=>∃ t,Lvl M ws cs ((cs.sum:Rat)-q) t/\∀ i,i<cs.length->f i=cR cs i-dI (cR cs) (cR ws) t i
 | .part=>∀ i,i<cs.length->f i=sA cs q i
 | .half=>∃ t,(q+q<=(cs.sum:Rat)/\Lvl M (ones cs) cs (q+q) t/\∀ i,i<cs.length->f i=dI (cR cs) (cR (ones cs)) t i*hf)∨((cs.sum:Rat)<q+q/\Lvl M (ones cs) cs (((cs.sum:Rat)-q)+((cs.sum:Rat)-q)) t/\∀ i,i<cs.length->f i=cR cs i-dI (cR cs) (cR (ones cs)) t i*hf)
theorem uB{w:Wy}{ws cs:List Int}{wd cd:D}(sw:Sq wd ws)(sc:Sq cd cs){q:Rat}{m:Nat}(hm:m<=2880)(hw:w.due ws cs)(hc:Cl cs)(hq:Haul m q cs.sum):∃ f,aO 2 [.str w.s,wd,cd,dq q]=.ok (.f (((List.range cs.length).map f).map dq))/\Al (m+263) ws cs q f w:=by
 have z:=hq.sz
 cases w with
 | row=>exact⟨wN cs q,by rw[<-(zCw hc z hq.nn hq.up).1];exact zOz sc (by omega) hc z hq.nn,fun i _=>rfl⟩
 | back=>exact⟨_,zNa sc (by omega) hc hq,fun i _=>rfl⟩
 | even=>
  obtain⟨t,tl,e⟩:=zJV sw sc (n:=1) (by omega) hw hc z hq.nn hq.up
  exact⟨_,e,t,tl.mono (by omega),fun i _=>rfl⟩
 | lack=>
  obtain⟨t,tl,e⟩:=zOP sw sc (n:=0) (by omega) hw hc hq
  rw[zMI] at e;exact⟨_,e,t,tl.mono (by omega),fun i _=>rfl⟩
 | part=>
  refine⟨sA cs q,?_,fun i _=>rfl⟩
  have e:yH cs q=(List.range cs.length).map (sA cs q):=zGR (by unfold yH;rw[Qd])
  rw[<-e];exact zOq sc (by omega) hc z
 | half=>
  by_cases h:(cs.sum:Rat)<q+q
  ·obtain⟨t,tl,e⟩:=zMe sc (n:=0) (e:=wd) (by omega) hc hq h
   exact⟨_,e,t,.inr ⟨h,tl,fun i _=>rfl⟩⟩
  ·obtain⟨t,tl,e⟩:=zGI sc (n:=1) (e:=wd) (by omega) hc z hq.nn (Vd.mp h)
   exact⟨_,e,t,.inl ⟨Vd.mp h,tl.mono (by omega),fun i _=>rfl⟩⟩
theorem zKH(w:Wy):∃ v,bA.lookup w.s=some v:=by
 cases w
 ·exact⟨_,zKU⟩
 ·exact⟨_,zEa⟩
 ·exact⟨_,zJi⟩
 ·exact⟨_,zDY⟩
 ·exact⟨_,zIQ⟩
 ·exact⟨_,zEj⟩
theorem zDZ{w:Wy}{ws cs:List Int}{wd cd:D}(sw:Sq wd ws)(sc:Sq cd cs)(hw:w.due ws cs)(hc:Cl cs):oC [.str w.s,wd,cd]=.ok (.v .non):=by
 have rw':aY [.str w.s,wd,.int cs.length]=.ok (.v .non):=by
  cases w with
  | even=>exact oI sw hw rfl
  | lack=>exact oI sw hw rfl
  | row=>have e:ws=[]:=hw;rw[e] at sw;exact jB sw rfl
  | back=>have e:ws=[]:=hw;rw[e] at sw;exact jB sw rfl
  | part=>have e:ws=[]:=hw;rw[e] at sw;exact jB sw rfl
  | half=>have e:ws=[]:=hw;rw[e] at sw;exact jB sw rfl
 obtain⟨v,hv⟩:=zKH w;unfold oC;symm;rw[zBV hv];symm;rw[uI sc hc];symm;rw[sc.len];symm;rw[rw'];symm
theorem zGX{w:Wy}{ws cs:List Int}{wd cd:D}(sw:Sq wd ws)(sc:Sq cd cs){q:Rat}{m:Nat}(hm:m<=2880)(hw:w.due ws cs)(hc:Cl cs)(hq:Haul m q cs.sum):∃ f,jH [.str w.s,wd,cd,dq q]=.ok (.f (((List.range cs.length).map f).map dq))/\Al (m+263) ws cs q f w:=by
 obtain⟨f,rd,al⟩:=uB sw sc hm hw hc hq;have sm:=hc.sum;refine⟨f,?_,al⟩
 unfold jH;symm;rw[zDZ sw sc hw hc];symm;rw[sc.sum];symm;rw[cB];symm;rw[kX (by omega) hq (by omega)];symm;rw[rd];symm
structure Dl (M:Nat) (cs:List Int) (q:Rat) (f:Nat->Rat):Prop where
 bd:∀ i,i<cs.length->0<=f i/\f i<=cR cs i/\Sz M (f i)
 sum:((List.range cs.length).map f).sum=q
theorem zAd{f g:Nat->Rat}{n:Nat}(h:∀ i,i<n->f i=g i):((List.range n).map f).sum=((List.range n).map g).sum:=by rw[V3 fun i hi=>h i (Qt.mp hi)]
theorem Dl.congr{M:Nat}{cs:List Int}{q:Rat}{f g:Nat->Rat}(d:Dl M cs q g)(h:∀ i,i<cs.length->f i=g i):Dl M cs q f:=⟨fun i hi=>by rw[h i hi];exact d.bd i hi,by rw[zAd h];exact d.sum⟩
theorem Dl.mono{M M':Nat}{cs:List Int}{q:Rat}{f:Nat->Rat}(d:Dl M cs q f)(h:M<=M'):Dl M' cs q f:=⟨fun i hi=>⟨(d.bd i hi).1,(d.bd i hi).2.1,(d.bd i hi).2.2.mono h⟩,d.sum⟩
theorem zNK{cs:List Int}(hc:Cl cs){i:Nat}(hi:i<cs.length):0<=cR cs i/\Sz 100 (cR cs i):=by
 have c1:=hc.nn _ (Qg (aU hi));have c2:=hc.up _ (Qg (aU hi));exact⟨by unfold cR;exact_mod_cast c1,dA (by omega) (by decide)⟩
theorem Dl.dual{M:Nat}{cs:List Int}{q q':Rat}{g:Nat->Rat}(hc:Cl cs)(d:Dl M cs q' g)(h:q'=(cs.sum:Rat)-q):Dl (100+M+1) cs q (fun i=>cR cs i-g i):=by
 refine⟨fun i hi=>?_,?_⟩
 ·obtain⟨b1,b2,b3⟩:=d.bd i hi
  exact⟨by grind,by grind,(zNK hc hi).2.sub b3⟩
 ·rw[zKe,zGd,d.sum]
  grind
theorem zKj{m:Nat}{cs:List Int}{q:Rat}(hc:Cl cs)(hq:Sz m q)(h0:0<=q)(h1:q<=(cs.sum:Rat)):Dl (m+111) cs q (wN cs q):=by
 obtain⟨e,s,z⟩:=zCw hc hq h0 h1;refine⟨fun i hi=>?_,by rw[<-e];exact s⟩
 obtain⟨b1,b2⟩:=zHP cs 0 q i hc.nn hi;exact⟨b1,b2,z _ (by rw[e];exact Qv.mpr ⟨i,Qt.mpr hi,rfl⟩)⟩
theorem zKd{M:Nat}{ws cs:List Int}{q t:Rat}(hW:Wt ws cs)(hc:Cl cs)(tl:Lvl M ws cs q t):Dl M cs q (dI (cR cs) (cR ws) t):=
 ⟨fun i hi=>⟨(qZ hW hc tl.nn hi).1,(qZ hW hc tl.nn hi).2,tl.sz i hi⟩,tl.sum⟩
theorem zGs{M:Nat}{cs:List Int}{q t:Rat}(hc:Cl cs)(tl:Lvl M (ones cs) cs (q+q) t):Dl (M+2) cs q (fun i=>dI (cR cs) (cR (ones cs)) t i*hf):=by
 refine⟨fun i h=>?_,?_⟩
 ·obtain⟨b1,b2⟩:=qZ (nM cs) hc tl.nn h
  exact⟨by rw[zAL];grind,by rw[zAL];grind,(tl.sz i h).mul zLD⟩
 ·have e:=tl.sum
  have e2:=jT (w:=dI (cR cs) (cR (ones cs)) t) (t:=hf) (l:=List.range cs.length);unfold evs at e;unfold nK at e2;rw[e2,e,zAL];grind
theorem sZ{a b s:Rat}(hs:s≠0)(h:a*s=b*s):a=b:=by
 have e1:a*s / s=a:=by grind
 have e2:b*s / s=b:=by grind
 rw[<-e1,<-e2,h]
theorem zHb{a b s:Rat}(hs:0<s)(h:a*s<=b*s):a<=b:=Yk h hs
theorem zLz{m:Nat}{cs:List Int}{q:Rat}(hc:Cl cs)(hq:Sz m q)(h0:0<=q)(h1:q<=(cs.sum:Rat)):Dl (m+370) cs q (sA cs q):=by
 have sm:=hc.sum;have cn:∀ i,i<cs.length->0<=cR cs i:=fun i hi=>(zNK hc hi).1
 have sc:nK (fun i=>sA cs q i*(cs.sum:Rat)) (List.range cs.length)=q*(cs.sum:Rat):=by
  rw[wH (g:=fun i=>cR cs i*q) fun i hi=>by rw[(iD hc (Qt.mp hi)).1];grind];rw[jT,show nK (cR cs) (List.range cs.length)=(cs.sum:Rat) from zGd cs]
 rw[jT] at sc;by_cases z:cs.sum=0
 ·have p0:∀ i,i<cs.length->sA cs q i=cR cs i:=fun i hi=>by
   have c0:=mT hc.nn z _ (Qg (aU hi));rw[(iD hc hi).2 z];unfold cR;rw[c0];rfl
  refine⟨fun i hi=>⟨by rw[p0 i hi];exact cn i hi,by rw[p0 i hi];exact Vk,zFE hc hq hi⟩,?_⟩
  rw[zAd p0,zGd];have:(cs.sum:Rat)=0:=by rw[z];rfl
  grind
 ·have W:(0:Rat)<(cs.sum:Rat):=by exact_mod_cast (show 0<cs.sum by omega)
  refine⟨fun i hi=>?_,?_⟩
  ·have e:=(iD (q:=q) hc hi).1
   have c0:=cn i hi;refine⟨zHb W (by rw[e];have:=Rat.mul_nonneg h0 c0;grind),zHb W ?_,zFE hc hq hi⟩
   rw[e];have:=X3 h1 c0
   grind
  ·exact sZ (s:=(cs.sum:Rat)) (by grind) (by rw[Rat.mul_comm];exact sc)
theorem zKW{m:Nat}{w:Wy}{ws cs:List Int}{q:Rat}{f:Nat->Rat}(hw:w.due ws cs)(hc:Cl cs)(hq:Haul m q cs.sum)(al:Al (m+263) ws cs q f w):Dl (m+370) cs q f:=by
 have sm:=hc.sum;have zW:Sz 105 (cs.sum:Rat):=dA (by omega) (by decide)
 have z:=hq.sz;have z':Sz (m+106) ((cs.sum:Rat)-q):=(zW.sub hq.sz).mono (by omega)
 have n:=hq.nn;have u:=hq.up
 cases w with
 | row=>exact((zKj hc z n u).mono (by omega)).congr al
 | back=>exact((Dl.dual hc (zKj hc z' (by grind) (by grind)) rfl).mono (by omega)).congr al
 | even=>
  obtain⟨t,tl,e⟩:=al;exact((zKd hw hc tl).mono (by omega)).congr e
 | lack=>
  obtain⟨t,tl,e⟩:=al;exact((Dl.dual hc (zKd hw hc tl) rfl).mono (by omega)).congr e
 | part=>exact(zLz hc z n u).congr al
 | half=>
  obtain⟨t,⟨c,tl,e⟩ | ⟨c,tl,e⟩⟩:=al
  ·exact((zGs hc tl).mono (by omega)).congr e
  ·exact((Dl.dual hc (zGs hc tl) rfl).mono (by omega)).congr e
theorem xX:∀(cs:List Int)(a:Int)(q:Rat)(i:Nat),i<cs.length->(iI cs a q).getD i 0=mn (ps0 (q-((a+(cs.take i).sum:Int):Rat))) (cR cs i)
 | c::r,a,q,0,_=>by simp[iI,cR]
 | c::r,a,q,i+1,h=>by
  have ih:=xX r (a+c) q i (by simpa using h)
  rw[Ue,Qm,<-Int.add_assoc];show(iI r (a+c) q).getD i 0=_
  rw[ih];rfl
def Dn(B:Int)(x:Rat):Prop:=∃ k:Int,x*(B:Rat)=(k:Rat)
theorem Dn.add{B:Int}{x y:Rat}(hx:Dn B x)(hy:Dn B y):Dn B (x+y):=by
 obtain⟨a,ha⟩:=hx;obtain⟨b,hb⟩:=hy;exact⟨a+b,by rw[Q6,<-ha,<-hb];grind⟩
theorem Dn.sub{B:Int}{x y:Rat}(hx:Dn B x)(hy:Dn B y):Dn B (x-y):=by
 obtain⟨a,ha⟩:=hx;obtain⟨b,hb⟩:=hy;exact⟨a-b,by rw[Rat.intCast_sub,<-ha,<-hb];grind⟩
theorem Dn.int(B c:Int):Dn B (c:Rat):=⟨c*B,by rw[Vw]⟩
theorem Dn.zero(B:Int):Dn B 0:=Dn.int B 0
theorem Dn.mul{B:Int}{x:Rat}(h:Dn B x)(E:Int):Dn (B*E) x:=by
 obtain⟨a,ha⟩:=h;exact⟨a*E,by rw[Vw,Vw,<-ha];grind⟩
theorem Dn.mn{B:Int}{x y:Rat}(hx:Dn B x)(hy:Dn B y):Dn B (Lw.mn x y):=by
 unfold Lw.mn;split
 ·exact hx
 ·exact hy
theorem Dn.ps{B:Int}{x:Rat}(hx:Dn B x):Dn B (ps0 x):=by
 unfold ps0;split
 ·exact Dn.zero B
 ·exact hx
theorem Dn.den(x:Rat):Dn (x.den:Int) x:=⟨x.num,(zJJ x).symm⟩
theorem Dn.le{B:Int}{x:Rat}(h:Dn B x)(hB:0<B):(x.den:Int)<=B:=by
 obtain⟨a,ha⟩:=h
 have nB:(B:Rat)≠0:=fun z=>by
  have:B=0:=by exact_mod_cast z
  omega
 have e:x=Rat.divInt a B:=by
  rw[X4,<-ha];grind
 rw[e];exact zDG hB
theorem Dn.sz{B c:Int}{x:Rat}{a b:Nat}(h:Dn B x)(hB:0<B)(hb:B<2^b)(h0:0<=x)(h1:x<=(c:Rat))(hc:c<2^a):Sz (a+b) x:=by
 have le:=h.le hB;have d0:=dZ x;have n0:0<=x.num:=Rat.num_nonneg.mpr h0
 have c0:0<=c:=by
  have:((0:Int):Rat)<=(c:Rat):=Ud (by rw[show((0:Int):Rat)=0 from rfl];exact h0) h1
  exact Vm.mp this
 have n1:x.num<=c*x.den:=by
  have:((x.num:Int):Rat)<=((c*x.den:Int):Rat):=by
   rw[Vw,zJJ];exact X3 h1 (by have z:(0:Int)<=x.den:=(by omega);exact_mod_cast z)
  exact Vm.mp this
 have hb':(x.den:Int).natAbs<2^b:=by
  have:((2:Nat)^b:Nat)=((2:Int)^b):=by rw[Int.natCast_pow];rfl
  omega
 have ha':c.natAbs<2^a:=by
  have:((2:Nat)^a:Nat)=((2:Int)^a):=by rw[Int.natCast_pow];rfl
  omega
 have m:=fJ ha' hb';refine⟨by omega,?_⟩
 have:2^b<=2^(a+b):=Vv (by decide) (by omega)
 omega
theorem zAl{c w:Nat->Rat}{ci wi:Nat->Int}{t:Rat}(hc:∀ i,c i=(ci i:Rat))(hw:∀ i,w i=(wi i:Rat)):∀ l:List Nat,(∀ i∈l,1<=wi i/\wi i<=10^6)->∃ F W:Int,nK (dI c w t) l=(W:Rat)*t+(F:Rat)/\0<=W/\W<=l.length*10^6/\(W=0->∀ i∈l,dI c w t i=c i)
 | [],_=>⟨0,0,by rw[oB,show((0:Int):Rat)=0 from rfl];grind,by decide,by decide,fun _ i h=>by cases h⟩
 | i::l,h=>by
  obtain⟨F,W,e,w0,w1,f⟩:=zAl (t:=t) hc hw l fun j hj=>h j (Qe _ hj)
  have hi:=h i Qf;have ek:((l.length+1:Nat):Int)*10^6=(l.length:Int)*10^6+10^6:=by rw[Xq,X1];rfl
  rw[bP,Ql];by_cases z:w i*t<c i
  ·have g:dI c w t i=w i*t:=if_pos z
   refine⟨F,W+wi i,?_,by omega,by omega,fun z=>by omega⟩
   rw[g,e,Q6,hw];grind
  ·have g:dI c w t i=c i:=if_neg z
   refine⟨F+ci i,W,?_,w0,by omega,fun z j hj=>?_⟩
   ·rw[g,e,Q6,hc]
    grind
   ·rcases Qc.mp hj with rfl | hj
    ·exact g
    ·exact f z j hj
theorem zEe{M:Nat}{ws cs:List Int}{q t:Rat}{B:Int}(hW:Wt ws cs)(hl:cs.length<=12)(tl:Lvl M ws cs q t)(hq:Dn B q):∃ E:Int,0<E/\E<=12*10^6/\∀ i,i<cs.length->Dn (B*E) (dI (cR cs) (cR ws) t i):=by
 obtain⟨F,W,e,w0,w1,f⟩:=zAl (c:=cR cs) (w:=cR ws) (ci:=fun i=>cs.getD i 0) (wi:=fun i=>ws.getD i 0) (t:=t) (fun _=>rfl) (fun _=>rfl) (List.range cs.length) fun i hi=>hW.at (Qt.mp hi)
 have s:nK (dI (cR cs) (cR ws) t) (List.range cs.length)=q:=tl.sum;rw[Qu] at w1;by_cases z:W=0
 ·refine⟨1,by decide,by decide,fun i hi=>?_⟩
  rw[f z i (Qt.mpr hi)];exact Dn.int _ _
 ·refine⟨W,by omega,by omega,fun i hi=>?_⟩
  unfold dI;refine Dn.mn ?_ (Dn.int _ _)
  obtain⟨k,hk⟩:=hq.sub (Dn.int B F);refine⟨ws.getD i 0*k,?_⟩
  rw[Vw,Vw,<-hk,<-s,e];show cR ws i*t*_=cR ws i*_
  grind
theorem zOu{B:Int}{x:Rat}(h:Dn B x):Dn (B*2) (x*hf):=by
 obtain⟨k,hk⟩:=h;refine⟨k,?_⟩
 rw[<-hk,Vw,zAL,show((2:Int):Rat)=2 from rfl];grind
theorem zKl{cs:List Int}{q:Rat}{B:Int}(h:Dn B q){i:Nat}(hi:i<cs.length):Dn B (wN cs q i):=by
 unfold wN;rw[xX cs 0 q i hi];exact Dn.mn (Dn.ps (h.sub (Dn.int _ _))) (Dn.int _ _)
theorem zNk{M:Nat}{w:Wy}{ws cs:List Int}{q:Rat}{f:Nat->Rat}{B:Int}(hw:w.due ws cs)(hc:Cl cs)(hS:cs.sum<2^34)(al:Al M ws cs q f w)(hq:Dn B q):∃ E:Int,0<E/\E<2^34/\∀ i,i<cs.length->Dn (B*E) (f i):=by
 have hi:=hc.hi;have sm:=hc.sum;have hq':Dn B ((cs.sum:Rat)-q):=(Dn.int B cs.sum).sub hq
 cases w with
 | row=>exact⟨1,by decide,by decide,fun i hi=>by rw[al i hi,Vx];exact zKl hq hi⟩
 | back=>exact⟨1,by decide,by decide,fun i hi=>by rw[al i hi,Vx];exact(Dn.int _ _).sub (zKl hq' hi)⟩
 | even=>
  obtain⟨t,tl,e⟩:=al;obtain⟨E,e0,e1,e2⟩:=zEe hw hi tl hq;exact⟨E,e0,by omega,fun i hi=>by rw[e i hi];exact e2 i hi⟩
 | lack=>
  obtain⟨t,tl,e⟩:=al;obtain⟨E,e0,e1,e2⟩:=zEe hw hi tl hq';exact⟨E,e0,by omega,fun i hi=>by rw[e i hi];exact(Dn.int _ _).sub (e2 i hi)⟩
 | part=>
  by_cases z:cs.sum=0
  ·exact⟨1,by decide,by decide,fun i hi=>by rw[al i hi,(iD hc hi).2 z];exact Dn.zero _⟩
  ·refine⟨cs.sum,by omega,hS,fun i hi=>?_⟩
   have p:=(iD (q:=q) hc hi).1;rw[<-al i hi] at p;obtain⟨k,hk⟩:=hq;refine⟨k*cs.getD i 0,?_⟩
   rw[Vw,Vw,<-hk];show f i*((B:Rat)*(cs.sum:Rat))=q*(B:Rat)*cR cs i
   generalize (cs.sum:Rat)=S at *;generalize cR cs i=x at *;generalize f i=y at *;grind
 | half=>
  obtain⟨t,⟨c,tl,e⟩ | ⟨c,tl,e⟩⟩:=al
  ·obtain⟨E,e0,e1,e2⟩:=zEe (nM cs) hi tl (hq.add hq)
   exact⟨E*2,by omega,by omega,fun i hi=>by rw[e i hi,<-Xs];exact zOu (e2 i hi)⟩
  ·obtain⟨E,e0,e1,e2⟩:=zEe (nM cs) hi tl (hq'.add hq')
   exact⟨E*2,by omega,by omega,fun i hi=>by rw[e i hi,<-Xs];exact(Dn.int _ _).sub (zOu (e2 i hi))⟩
theorem Al.mono{M M':Nat}{w:Wy}{ws cs:List Int}{q:Rat}{f:Nat->Rat}(h:Al M ws cs q f w)(l:M<=M'):Al M' ws cs q f w:=by
 cases w with
 | row=>exact h
 | back=>exact h
 | part=>exact h
 | even=>obtain⟨t,tl,e⟩:=h;exact⟨t,tl.mono l,e⟩
 | lack=>obtain⟨t,tl,e⟩:=h;exact⟨t,tl.mono l,e⟩
 | half=>
  obtain⟨t,⟨c,tl,e⟩ | ⟨c,tl,e⟩⟩:=h
  ·exact⟨t,.inl ⟨c,tl.mono l,e⟩⟩
  ·exact⟨t,.inr ⟨c,tl.mono l,e⟩⟩
theorem zMS(q:Rat):Sz (q.num.natAbs+q.den) q:=⟨Qn Wx (Vv (by decide) (by omega)),Qn Wx (Vv (by decide) (by omega))⟩
theorem zKF{M:Nat}{w:Wy}{ws cs:List Int}{q:Rat}{f:Nat->Rat}(hw:w.due ws cs)(hc:Cl cs)(q0:0<=q)(q1:q<=(cs.sum:Rat))(al:Al M ws cs q f w):(∀ i,i<cs.length->0<=f i/\f i<=cR cs i)/\((List.range cs.length).map f).sum=q:=by
 have d:=zKW (m:=q.num.natAbs+q.den+M) hw hc ⟨q0,q1,(zMS q).mono (by omega)⟩ (al.mono (by omega))
 exact⟨fun i hi=>⟨(d.bd i hi).1,(d.bd i hi).2.1⟩,d.sum⟩
theorem zZ{M M':Nat}{ws cs:List Int}{q q' t t':Rat}(hW:Wt ws cs)(a:Lvl M ws cs q t)(b:Lvl M' ws cs q' t')(h:q=q'){i:Nat}(hi:i<cs.length):dI (cR cs) (cR ws) t i=dI (cR cs) (cR ws) t' i:=by
 have pw:∀ j∈List.range cs.length,0<cR ws j:=fun j hj=>by
  have:=(hW.at (Qt.mp hj)).1
  unfold cR;exact_mod_cast (show 0<ws.getD j 0 by omega)
 exact xS (c:=cR cs) (w:=cR ws) pw (by show(evs ws cs t).sum=(evs ws cs t').sum;rw[a.sum,b.sum,h]) i (Qt.mpr hi)
theorem zJN{M M':Nat}{w:Wy}{ws cs:List Int}{q:Rat}{f g:Nat->Rat}(hw:w.due ws cs)(a:Al M ws cs q f w)(b:Al M' ws cs q g w){i:Nat}(hi:i<cs.length):f i=g i:=by
 cases w with
 | row=>rw[a i hi,b i hi]
 | back=>rw[a i hi,b i hi]
 | part=>rw[a i hi,b i hi]
 | even=>
  obtain⟨t,tl,e⟩:=a;obtain⟨t',tl',e'⟩:=b;rw[e i hi,e' i hi,zZ hw tl tl' rfl hi]
 | lack=>
  obtain⟨t,tl,e⟩:=a;obtain⟨t',tl',e'⟩:=b;rw[e i hi,e' i hi,zZ hw tl tl' rfl hi]
 | half=>
  have W:=nM cs;obtain⟨t,⟨c,tl,e⟩ | ⟨c,tl,e⟩⟩:=a
  ·obtain⟨t',⟨c',tl',e'⟩ | ⟨c',tl',e'⟩⟩:=b
   ·rw[e i hi,e' i hi,zZ W tl tl' rfl hi]
   ·exact absurd c' (Vd.mpr c)
  ·obtain⟨t',⟨c',tl',e'⟩ | ⟨c',tl',e'⟩⟩:=b
   ·exact absurd c (Vd.mpr c')
   ·rw[e i hi,e' i hi,zZ W tl tl' rfl hi]
theorem zHM:∀ {cs:List Int} {i j:Nat},(∀ c∈cs,0<=c)->i<j->j<=cs.length->(cs.take i).sum+cs.getD i 0<=(cs.take j).sum/\0<=(cs.take i).sum
 | [],i,j,_,h,h'=>by simp at h';omega
 | c::r,i,0,_,h,_=>by omega
 | c::r,0,j+1,hn,_,_=>by
  have hr:∀ l:List Int,(∀ c∈l,0<=c)->0<=l.sum:=by
   intro l
   induction l with
   | nil=>intro _;decide
   | cons a l ih=>intro hl;rw[Qm];have:=hl a Qf;have:=ih fun x hx=>hl x (Qe _ hx);omega
  have:=hr (r.take j) fun x hx=>hn x (Qe _ (Uf hx))
  rw[Ue,Qm];simp
  omega
 | c::r,i+1,j+1,hn,h,h'=>by
  have ih:=zHM (cs:=r) (i:=i) (j:=j) (fun x hx=>hn x (Qe _ hx)) (by omega) (by simpa using h')
  have:=hn c Qf
  rw[Ue,Qm,Ue,Qm];show c+_+r.getD i 0<=_/\_
  omega
theorem zDs{cs:List Int}{q:Rat}(hn:∀ c∈cs,0<=c){i j:Nat}(h:i<j)(hj:j<cs.length):wN cs q j=0∨wN cs q i=cR cs i:=by
 unfold wN;rw[xX cs 0 q j hj,xX cs 0 q i (by omega)];have tu:=(zHM hn h (Xv hj)).1
 have c0:(0:Rat)<=cR cs j:=by
  unfold cR;exact_mod_cast hn _ (Qg (aU hj))
 have tu':((0+(cs.take i).sum:Int):Rat)+cR cs i<=((0+(cs.take j).sum:Int):Rat):=by
  unfold cR;rw[<-Q6];exact_mod_cast (show 0+(cs.take i).sum+cs.getD i 0<=0+(cs.take j).sum by omega)
 generalize ((0+(cs.take i).sum:Int):Rat)=A at *;generalize ((0+(cs.take j).sum:Int):Rat)=B at *;generalize cR cs i=x at *;generalize cR cs j=y at *;unfold mn ps0;by_cases z:q<=B
 ·left;grind
 ·right;grind
theorem zGf{a b:Int}{x y:Rat}(h0:0<=x)(h1:x<=(a:Rat))(h2:0<=y)(h3:y<=(b:Rat))(h:y=0∨x=(a:Rat)):wN [a,b] (x+y) 0=x/\wN [a,b] (x+y) 1=y:=by
 have e0:wN [a,b] (x+y) 0=mn (ps0 (x+y-((0:Int):Rat))) (a:Rat):=rfl;have e1:wN [a,b] (x+y) 1=mn (ps0 (x+y-((0+a:Int):Rat))) (b:Rat):=rfl;rw[e0,e1,Int.zero_add,show((0:Int):Rat)=0 from rfl];unfold mn ps0;generalize (a:Rat)=A at *;generalize (b:Rat)=B at *;rcases h with h | h<;>subst h<;>grind
theorem tQ{M:Nat}{ws cs:List Int}{i j:Nat}{t t':Rat}(hi:0<cR ws i)(hj:0<cR ws j)(h:Lvl M [ws.getD i 0,ws.getD j 0] [cs.getD i 0,cs.getD j 0] (dI (cR cs) (cR ws) t i+dI (cR cs) (cR ws) t j) t'):
  dI (cR [cs.getD i 0,cs.getD j 0]) (cR [ws.getD i 0,ws.getD j 0]) t' 0=dI (cR cs) (cR ws) t i/\dI (cR [cs.getD i 0,cs.getD j 0]) (cR [ws.getD i 0,ws.getD j 0]) t' 1=dI (cR cs) (cR ws) t j:=by
 have s:=h.sum
 have k:=xS (c:=cR [cs.getD i 0,cs.getD j 0]) (w:=cR [ws.getD i 0,ws.getD j 0]) (t:=t') (u:=t) (l:=[0,1]) (by
  intro k hk;rcases Qc.mp hk with rfl | hk
  ·exact hi
  ·rw[Q0.mp hk];exact hj) (by
  have e1:nK (dI (cR [cs.getD i 0,cs.getD j 0]) (cR [ws.getD i 0,ws.getD j 0]) t') [0,1]=(evs [ws.getD i 0,ws.getD j 0] [cs.getD i 0,cs.getD j 0] t').sum:=rfl;rw[e1,s,bP,bP,oB,Xt]
  rfl)
 exact⟨k 0 Qf,k 1 (Qe _ Qf)⟩
theorem zGN(a b:Int):(([a,b]:List Int).sum:Rat)=(a:Rat)+(b:Rat):=by
 rw[Qm,Qm,Vn,Int.add_zero,Q6]
def w2(ws:List Int)(i j:Nat):List Int:=if ws=[] then [] else [ws.getD i 0,ws.getD j 0]
theorem zPb(x:Rat):x*hf+x*hf=x:=by rw[zAL];grind
theorem zKc{M M' N:Nat}{w:Wy}{ws cs:List Int}{q:Rat}{f g:Nat->Rat}(hw:w.due ws cs)(hc:Cl cs)(a:Al M ws cs q f w)(d:Dl N cs q f){i j:Nat}(hij:i<j)(hj:j<cs.length)
  (b:Al M' (w2 ws i j) [cs.getD i 0,cs.getD j 0] (f i+f j) g w):g 0=f i/\g 1=f j:=by
 have hi:i<cs.length:=by omega
 have bi:=d.bd i hi;have bj:=d.bd j hj;have ci:cR cs i=((cs.getD i 0:Int):Rat):=rfl;have cj:cR cs j=((cs.getD j 0:Int):Rat):=rfl;have z0:(0:Nat) < [cs.getD i 0,cs.getD j 0].length:=Nat.zero_lt_succ _;have z1:(1:Nat) < [cs.getD i 0,cs.getD j 0].length:=Yi _;have k0:cR [cs.getD i 0,cs.getD j 0] 0=cR cs i:=rfl;have k1:cR [cs.getD i 0,cs.getD j 0] 1=cR cs j:=rfl;have sm:=zGN (cs.getD i 0) (cs.getD j 0);rw[<-ci,<-cj] at sm
 have wpos:Wt ws cs->0<cR ws i/\0<cR ws j/\w2 ws i j=[ws.getD i 0,ws.getD j 0]:=fun hW=>by
  have a1:=(hW.at hi).1;have a2:=(hW.at hj).1;refine⟨by unfold cR;exact_mod_cast (show 0<ws.getD i 0 by omega),by unfold cR;exact_mod_cast (show 0<ws.getD j 0 by omega),?_⟩
  unfold w2;rw[if_neg];intro e;have:=hW.len
  rw[e] at this;simp at this
  omega
 cases w with
 | row=>
  rw[b 0 z0,b 1 z1];exact zGf bi.1 bi.2.1 bj.1 bj.2.1 (by rw[a j hj,a i hi];exact zDs hc.nn hij hj)
 | back=>
  have ai:=a i hi;have aj:=a j hj;have b0:=b 0 z0;have b1:=b 1 z1;rw[sm,k0] at b0;rw[sm,k1] at b1;have key:=zGf (a:=cs.getD i 0) (b:=cs.getD j 0) (x:=wN cs ((cs.sum:Rat)-q) i) (y:=wN cs ((cs.sum:Rat)-q) j) (by grind) (by rw[<-ci];grind) (by grind) (by rw[<-cj];grind) (zDs hc.nn hij hj)
  rw[show cR cs i+cR cs j-(f i+f j)=wN cs ((cs.sum:Rat)-q) i+wN cs ((cs.sum:Rat)-q) j by rw[ai,aj];grind] at b0 b1;rw[key.1] at b0;rw[key.2] at b1;exact⟨by rw[b0,ai],by rw[b1,aj]⟩
 | even=>
  obtain⟨p1,p2,p3⟩:=wpos hw;obtain⟨t,tl,e⟩:=a;obtain⟨t',tl',e'⟩:=b;rw[p3] at tl' e';rw[e i hi,e j hj] at tl' ⊢
  obtain⟨r0,r1⟩:=tQ p1 p2 tl';exact⟨by rw[e' 0 z0,r0],by rw[e' 1 z1,r1]⟩
 | lack=>
  obtain⟨p1,p2,p3⟩:=wpos hw;obtain⟨t,tl,e⟩:=a;obtain⟨t',tl',e'⟩:=b;rw[p3] at tl' e';rw[sm,e i hi,e j hj,show cR cs i+cR cs j-(cR cs i-dI (cR cs) (cR ws) t i+(cR cs j-dI (cR cs) (cR ws) t j))=dI (cR cs) (cR ws) t i+dI (cR cs) (cR ws) t j by grind] at tl';obtain⟨r0,r1⟩:=tQ p1 p2 tl';exact⟨by rw[e' 0 z0,r0,e i hi];rfl,by rw[e' 1 z1,r1,e j hj];rfl⟩
 | part=>
  have ai:=a i hi;have aj:=a j hj;have b0:=b 0 z0;have b1:=b 1 z1
  have c2:Cl [cs.getD i 0,cs.getD j 0]:=⟨fun c h=>by
   rcases Qc.mp h with rfl | h
   ·exact hc.nn _ (Qg (aU hi))
   ·rw[Q0.mp h];exact hc.nn _ (Qg (aU hj)),fun c h=>by
   rcases Qc.mp h with rfl | h
   ·exact hc.up _ (Qg (aU hi))
   ·rw[Q0.mp h];exact hc.up _ (Qg (aU hj)),Xe (Q7 _),by show 2<=12;decide⟩
  have P0:=iD (q:=f i+f j) c2 z0;have P1:=iD (q:=f i+f j) c2 z1;have Pi:=iD (q:=q) hc hi;have Pj:=iD (q:=q) hc hj;rw[<-b0,sm,k0] at P0;rw[<-b1,sm,k1] at P1;rw[<-ai] at Pi;rw[<-aj] at Pj;have ni:(0:Rat)<=cR cs i:=by have:=bi.1;have:=bi.2.1;grind
  have nj:(0:Rat)<=cR cs j:=by have:=bj.1;have:=bj.2.1;grind
  by_cases z:cR cs i+cR cs j=0
  ·have y0:cR cs i=0:=by grind
   have y1:cR cs j=0:=by grind
   have zi:[cs.getD i 0,cs.getD j 0].sum=0:=by
    have:(([cs.getD i 0,cs.getD j 0].sum:Int):Rat)=((0:Int):Rat):=by rw[sm,z];rfl
    exact_mod_cast this
   have q0:=P0.2 zi;have q1:=P1.2 zi;have:=bi.1;have:=bi.2.1;have:=bj.1;have:=bj.2.1
   exact⟨by grind,by grind⟩
  ·by_cases zs:cs.sum=0
   ·have e1:=mT hc.nn zs _ (Qg (aU hi))
    have e2:=mT hc.nn zs _ (Qg (aU hj));refine absurd ?_ z
    rw[ci,cj,e1,e2,show((0:Int):Rat)=0 from rfl,Xt]
   ·have S0:(cs.sum:Rat)≠0:=by
     intro e;have e':(cs.sum:Rat)=((0:Int):Rat):=e;exact zs (by exact_mod_cast e')
    have p0:=P0.1;have p1:=P1.1;have pi:=Pi.1;have pj:=Pj.1;generalize (cs.sum:Rat)=S at *;refine⟨sZ (s:=cR cs i+cR cs j) z (sZ (s:=S) S0 ?_),sZ (s:=cR cs i+cR cs j) z (sZ (s:=S) S0 ?_)⟩
    ·rw[p0];grind
    ·rw[p1];grind
 | half=>
  have W:=nM cs
  have u1:(0:Rat)<cR (ones cs) i:=by
   have:=(W.at hi).1
   unfold cR;exact_mod_cast (show 0<(ones cs).getD i 0 by omega)
  have u2:(0:Rat)<cR (ones cs) j:=by
   have:=(W.at hj).1
   unfold cR;exact_mod_cast (show 0<(ones cs).getD j 0 by omega)
  have o2:ones [cs.getD i 0,cs.getD j 0]=[(ones cs).getD i 0,(ones cs).getD j 0]:=by
   unfold ones;simp[List.getD,hi,hj]
  have G:∀ {t:Rat} {k:Nat},0<=t->k<cs.length->0<=dI (cR cs) (cR (ones cs)) t k/\dI (cR cs) (cR (ones cs)) t k<=cR cs k:=fun h0 hk=>qZ W hc h0 hk
  obtain⟨t,ha⟩:=a;obtain⟨t',hb⟩:=b;rw[sm,o2] at hb;have h2:=zPb;rcases ha with⟨h1,tl,e⟩ | ⟨h1,tl,e⟩
  ·have gi:=G tl.nn hi
   have gj:=G tl.nn hj;have xi:=h2 (dI (cR cs) (cR (ones cs)) t i);have xj:=h2 (dI (cR cs) (cR (ones cs)) t j);rcases hb with⟨h3,tl',e'⟩ | ⟨h3,tl',e'⟩
   ·have s2:f i+f j+(f i+f j)=dI (cR cs) (cR (ones cs)) t i+dI (cR cs) (cR (ones cs)) t j:=by rw[e i hi,e j hj];grind
    rw[s2] at tl';obtain⟨r0,r1⟩:=tQ u1 u2 tl';exact⟨by rw[e' 0 z0,r0,e i hi],by rw[e' 1 z1,r1,e j hj]⟩
   ·exfalso
    rw[e i hi,e j hj] at h3;grind
  ·have gi:=G tl.nn hi
   have gj:=G tl.nn hj;have xi:=h2 (dI (cR cs) (cR (ones cs)) t i);have xj:=h2 (dI (cR cs) (cR (ones cs)) t j);rcases hb with⟨h3,tl',e'⟩ | ⟨h3,tl',e'⟩
   ·have fi:=e i hi
    have fj:=e j hj
    have full:dI (cR cs) (cR (ones cs)) t i=cR cs i/\dI (cR cs) (cR (ones cs)) t j=cR cs j:=by
     rw[fi,fj] at h3;exact⟨by grind,by grind⟩
    have s2:f i+f j+(f i+f j)=dI (cR cs) (cR (ones cs)) t i+dI (cR cs) (cR (ones cs)) t j:=by rw[fi,fj];grind
    rw[s2] at tl';obtain⟨r0,r1⟩:=tQ u1 u2 tl';exact⟨by rw[e' 0 z0,r0,fi];grind,by rw[e' 1 z1,r1,fj];grind⟩
   ·have s2:cR cs i+cR cs j-(f i+f j)+(cR cs i+cR cs j-(f i+f j))=dI (cR cs) (cR (ones cs)) t i+dI (cR cs) (cR (ones cs)) t j:=by rw[e i hi,e j hj];grind
    rw[s2] at tl';obtain⟨r0,r1⟩:=tQ u1 u2 tl';exact⟨by rw[e' 0 z0,r0,e i hi];rfl,by rw[e' 1 z1,r1,e j hj];rfl⟩
def wys:List Str:=["row","back","even","lack","part","half"]
def wOK(w:Str)(ws:List Int)(m:Nat):Prop:=(w = "even" ∨ w = "lack")/\ws.length=m/\(∀ x∈ws,1<=x/\x<=10^6)∨¬ (w = "even" ∨ w = "lack")/\ws=[]
def IsC:Nat->D->Prop
 | 0,_=>False
 | n+1,d=>(∃ c:Int,d=.tup [.str "boat", .int c])∨∃(w:Str)(ws:List Int)(ks:List D),d=.tup [.str w,.tup (ws.map D.int),.tup ks]/\(w == "boat")=false/\0<ks.length/\ks.length<=100/\ws.length<=100/\(w∈wys/\wOK w ws ks.length)/\∀ k∈ks,IsC n k
def clm:Nat->D->List Int
 | 0,_=>[]
 | n+1,d=>match d with
  | .tup [_,.int c]=>[c]
  | .tup [_,_,.tup ks]=>ks.flatMap (clm n)
  | _=>[]
def dpt:Nat->D->Int
 | 0,_=>0
 | n+1,d=>match d with
  | .tup [_,_,.tup ks]=>1+mx0 (ks.map (dpt n))
  | _=>1
theorem jP{c:Int}:bZ [.tup [.str "boat", .int c]]=.ok (.v (.bl true)):=by
 unfold bZ;symm
theorem fS{w:Str}{a b:D}(h:(w == "boat")=false):bZ [.tup [.str w,a,b]]=.ok (.v (.bl false)):=by
 unfold bZ;symm;rw[h]
theorem zFg{c:Int}:aV [.tup [.str "boat", .int c]]=.ok (.v (.tup [])):=by
 unfold aV;symm;rw[jP];symm
theorem cM{w:Str}{a b:D}(h:(w == "boat")=false):aV [.tup [.str w,a,b]]=.ok (.v b):=by
 unfold aV;symm;rw[fS h];symm
theorem zJK{ks:List D}{n i:Nat}:((ks.take i).flatMap (clm n)).length<=(ks.flatMap (clm n)).length:=by
 conv=>rhs;rw[<-Ym i ks,Vr,Qi]
 exact Nat.le_add_right _ _
theorem zJb{ks:List D}{n:Nat}{k:D}(h:k∈ks):(clm n k).length<=(ks.flatMap (clm n)).length:=by
 obtain⟨a,b,rfl⟩:=List.append_of_mem h;rw[Vr,Vo,Qi,Qi];omega
theorem iF:∀(n:Nat)(d:D),IsC n d->(clm n d).length<=1000->bF n [d]=.ok (.f ((clm n d).map D.int))
 | 0,d,h,_=>h.elim
 | n+1,d,h,hl=>by
  show kN (bF n) [d]=_
  unfold kN;symm;rcases h with⟨c,rfl⟩ | ⟨w,ws,ks,rfl,hw,k0,k1,w1,hy,hk⟩
  ·rw[jP]
   symm;rfl
  ·rw[fS hw]
   symm;rw[cM hw];symm;refine hZ (Q:=fun r=>r.bind fin=.ok (.f ((ks.flatMap (clm n)).map D.int))) (fun i ρ=>∃ a,ρ=[.val (.tup [.str w,.tup (ws.map D.int),.tup ks]),.own (((ks.take i).flatMap (clm n)).map D.int),a]) ⟨_,rfl⟩ ?_ ?_
   ·rintro i e ρ he ⟨a,rfl⟩
    have hm:=Qg he;have hl':(ks.flatMap (clm n)).length<=1000:=hl;have l1:=zJb (n:=n) hm;have l2:=zJK (ks:=ks) (n:=n) (i:=i);symm;rw[iF n e (hk e hm) (by omega)];symm;rw[if_pos (by omega)];refine⟨_,rfl,.val e,?_⟩
    rw[wR he,Vr,Qw];simp[List.flatMap]
   ·rintro ρ' ⟨a,rfl⟩
    symm;rw[Xa]
theorem lG:∀(n:Nat)(d:D),IsC n d->(clm n d).length<=1000->cY n [d]=.ok (.v (.lst ((clm n d).map D.int)))
 | 0,d,h,_=>h.elim
 | n+1,d,h,hl=>by
  show iW (cY n) [d]=_
  unfold iW;symm;rcases h with⟨c,rfl⟩ | ⟨w,ws,ks,rfl,hw,k0,k1,w1,hy,hk⟩
  ·symm
   rfl
  ·symm
   rw[hw];symm;refine hZ (Q:=fun r=>r.bind fin=.ok (.v (.lst ((ks.flatMap (clm n)).map D.int)))) (fun i ρ=>∃ a,ρ=[.val (.tup [.str w,.tup (ws.map D.int),.tup ks]),.val (.lst (((ks.take i).flatMap (clm n)).map D.int)),a]) ⟨_,rfl⟩ ?_ ?_
   ·rintro i e ρ he ⟨a,rfl⟩
    have hm:=Qg he;have hl':(ks.flatMap (clm n)).length<=1000:=hl;have l1:=zJb (n:=n) hm;have l2:=zJK (ks:=ks) (n:=n) (i:=i);symm;rw[lG n e (hk e hm) (by omega)];symm;rw[if_pos (by omega)];symm;refine⟨_,rfl,.val e,?_⟩
    rw[wR he,Vr,Qw];simp[List.flatMap]
   ·rintro ρ' ⟨a,rfl⟩
    symm;rw[Xa]
theorem zBC:∀(n:Nat)(d:D),IsC n d->iJ n [d]=.ok (.v (.int (dpt n d)))
 | 0,d,h=>h.elim
 | n+1,d,h=>by
  show oP (iJ n) [d]=_
  unfold oP;symm;rcases h with⟨c,rfl⟩ | ⟨w,ws,ks,rfl,hw,k0,k1,w1,hy,hk⟩
  ·rw[zFg]
   symm;rfl
  ·rw[cM hw]
   symm
   have e:=sU (u:=fun k=>k) (g:=fun k=>.int (dpt n k)) (l:=ks) (f:=aN (iJ n) (aB (aE 1) aNil)) (ρ:=[.val (.tup [.str w,.tup (ws.map D.int),.tup ks])]) (by omega) (fun k hm=>by
    symm;rw[zBC n k (hk k hm)]
    symm)
   rw[Yn] at e;rw[e];symm;rw[zFt];symm;rfl
def dOK:Nat->D->Prop
 | 0,_=>False
 | n+1,d=>(∃ i,d=.int i)∨(∃ x,d=.str x)∨∃ ds,d=.tup ds/\ds.length<=1000/\∀ e∈ds,dOK n e
theorem zIt:∀ {n m:Nat} {d:D},dOK n d->n<=m->dOK m d
 | 0,_,_,h,_=>h.elim
 | n+1,0,_,_,l=>absurd l (by omega)
 | n+1,m+1,d,h,l=>by
  rcases h with h | h | ⟨ds,rfl,hl,he⟩
  ·exact .inl h
  ·exact .inr (.inl h)
  ·exact .inr (.inr ⟨ds,rfl,hl,fun e h=>zIt (he e h) (by omega)⟩)
theorem zFL:∀(n:Nat)(d:D),IsC n d->dOK (2*n+1) d
 | 0,d,h=>h.elim
 | n+1,d,h=>by
  rcases h with⟨c,rfl⟩ | ⟨w,ws,ks,rfl,hw,k0,k1,w1,hy,hk⟩
  ·refine .inr (.inr ⟨_,rfl,by simp,fun e he=>?_⟩)
   rcases Qc.mp he with rfl | he
   ·exact .inr (.inl ⟨_,rfl⟩)
   ·rw[Q0.mp he];exact .inl ⟨_,rfl⟩
  ·refine .inr (.inr ⟨_,rfl,by simp,fun e he=>?_⟩)
   rcases Qc.mp he with rfl | he
   ·exact .inr (.inl ⟨_,rfl⟩)
   ·rcases Qc.mp he with rfl | he
    ·refine .inr (.inr ⟨_,rfl,by rw[Qd];omega,fun x hx=>?_⟩)
     obtain⟨i,_,rfl⟩:=Qv.mp hx;exact .inl ⟨_,rfl⟩
    ·rw[Q0.mp he]
     exact .inr (.inr ⟨_,rfl,by omega,fun x hx=>zFL n x (hk x hx)⟩)
theorem zCz:∀(n:Nat)(d:D),dOK n d->noL d=true
 | 0,d,h=>h.elim
 | n+1,d,h=>by
  rcases h with⟨i,rfl⟩ | ⟨x,rfl⟩ | ⟨ds,rfl,hl,he⟩
  ·simp[noL]
  ·simp[noL]
  ·rw[noL]
   clear hl
   induction ds with
   | nil=>rfl
   | cons a r ih=>rw[noLs,zCz n a (he a Qf),ih fun e h=>he e (Qe _ h)];rfl
theorem fW:∀ {n m:Nat} {d:D},IsC n d->n<=m->IsC m d
 | 0,_,_,h,_=>h.elim
 | n+1,0,_,_,l=>absurd l (by omega)
 | n+1,m+1,d,h,l=>by
  rcases h with h | ⟨w,ws,ks,rfl,hw,k0,k1,w1,hy,hk⟩
  ·exact .inl h
  ·exact .inr ⟨w,ws,ks,rfl,hw,k0,k1,w1,hy,fun k h=>fW (hk k h) (by omega)⟩
theorem dU:∀ {n m:Nat} {d:D},IsC n d->n<=m->clm m d=clm n d
 | 0,_,_,h,_=>h.elim
 | n+1,0,_,_,l=>absurd l (by omega)
 | n+1,m+1,d,h,l=>by
  rcases h with⟨c,rfl⟩ | ⟨w,ws,ks,rfl,hw,k0,k1,w1,hy,hk⟩
  ·rfl
  ·show ks.flatMap (clm m)=ks.flatMap (clm n)
   rw[Ug,Ug];congr 1
   exact V3 fun k h=>dU (hk k h) (by omega)
theorem zDq:∀ {n m:Nat} {d:D},IsC n d->n<=m->dpt m d=dpt n d
 | 0,_,_,h,_=>h.elim
 | n+1,0,_,_,l=>absurd l (by omega)
 | n+1,m+1,d,h,l=>by
  rcases h with⟨c,rfl⟩ | ⟨w,ws,ks,rfl,hw,k0,k1,w1,hy,hk⟩
  ·rfl
  ·show 1+mx0 (ks.map (dpt m))=1+mx0 (ks.map (dpt n))
   rw[V3 fun k h=>zDq (hk k h) (by omega)]
theorem zOS:∀ {l:List Int} {b:Int},0<=b->(∀ x∈l,x<=b)->mx0 l<=b
 | [],b,h,_=>h
 | a::r,b,_,h=>by
  have key:∀(r:List Int)(a:Int),a<=b->(∀ x∈r,x<=b)->yL a r<=b:=by
   intro r
   induction r with
   | nil=>intro a ha _;exact ha
   | cons c r ih=>
    intro a ha hr;rw[yL];refine ih _ ?_ fun x hx=>hr x (Qe _ hx)
    split
    ·exact hr c Qf
    ·exact ha
  exact key r a (h a Qf) fun x hx=>h x (Qe _ hx)
theorem zOW:∀ {l:List Int} {x:Int},x∈l->x<=mx0 l
 | [],_,h=>by cases h
 | a::r,x,h=>by
  have key:∀(r:List Int)(a:Int),a<=yL a r/\∀ x∈r,x<=yL a r:=by
   intro r
   induction r with
   | nil=>intro a;exact⟨Yj _,fun x h=>by cases h⟩
   | cons c r ih=>
    intro a;rw[yL];have h1:=ih (if c > a then c else a);refine⟨Xp ?_ h1.1,fun x hx=>?_⟩
    ·split<;>omega
    ·rcases Qc.mp hx with rfl | hx
     ·refine Xp ?_ h1.1;split<;>omega
     ·exact h1.2 x hx
  rcases Qc.mp h with rfl | h
  ·exact(key r x).1
  ·exact(key r a).2 x h
theorem zGT:∀ {n:Nat} {d:D},IsC n d->1<=dpt n d/\dpt n d<=n
 | 0,_,h=>h.elim
 | n+1,d,h=>by
  rcases h with⟨c,rfl⟩ | ⟨w,ws,ks,rfl,hw,k0,k1,w1,hy,hk⟩
  ·exact⟨by show(1:Int)<=1;omega,by show(1:Int)<=_;omega⟩
  ·have h1:mx0 (ks.map (dpt n))<=n:=zOS (by omega) fun x hx=>by
    obtain⟨k,hk',rfl⟩:=Qv.mp hx;exact(zGT (hk k hk')).2
   have h2:0<=mx0 (ks.map (dpt n)):=by
    cases ks with
    | nil=>cases k0
    | cons k r=>exact Xp (by have:=(zGT (hk k Qf)).1;omega) (zOW (x:=dpt n k) (by simp))
   exact⟨by show 1<=1+mx0 (ks.map (dpt n));omega,by show 1+mx0 (ks.map (dpt n))<=((n+1:Nat):Int);omega⟩
theorem zHr{w:Str}(h:w∈wys):(bA.lookup w).isSome=true/\(w == "boat")=false:=by
 simp only[wys,Qc,Q8,or_false] at h;rcases h with rfl | rfl | rfl | rfl | rfl | rfl<;>decide
theorem zAr{w:Str}(h:w∈wys):cP [.str w]=.ok (.v .non):=by
 unfold cP;symm;rw[(zHr h).1];symm
theorem zNC{w:Str}:oIn (.str w) (.tup [.str "even", .str "lack"])=.ok (.bl (decide (w = "even" ∨ w = "lack"))):=by
 show(if depS [D.str "even", D.str "lack"]<=50 then Res.ok (D.bl (((Str.ofString "even")==w) || (((Str.ofString "lack")==w) || false))) else .no)=_
 rw[if_pos (by decide),Bool.or_false];congr 2
 by_cases h1:w = "even"
 ·subst h1;decide
 ·by_cases h2:w = "lack"
  ·subst h2;decide
  ·rw[decide_eq_false (fun h=>h.elim h1 h2),beq_eq_false_iff_ne.mpr (Ne.symm h1),beq_eq_false_iff_ne.mpr (Ne.symm h2)];rfl
theorem rZ{w:Str}{ws:List Int}{m:Nat}{d:D}(hd:d=.lst (ws.map D.int)∨d=.tup (ws.map D.int))(h:wOK w ws m):aY [.str w,d,.int m]=.ok (.v .non):=by
 have sq:zJq d=.ok (ws.map D.int):=by rcases hd with rfl | rfl<;>rfl
 have ln:jM [d]=.ok (.int (ws.length:Int)):=by rcases hd with rfl | rfl<;>simp[bLen_l,bLen_t]
 have fine:∀ x∈ws,1<=x/\x<=10^6:=by
  rcases h with⟨_,_,h⟩ | ⟨_,rfl⟩
  ·exact h
  ·intro x hx;cases hx
 have rest:∀ a:Sl,(fG [.val (.str w),.val d,.val (.int m),a,.un]).bind fin=.ok (.v .non):=by
  intro a;symm;rw[sq];symm;refine zBZ (Q:=fun r:Res Rt=>r=.ok (.v .non)) (fun ρ=>∃ b,ρ=[.val (.str w),.val d,.val (.int m),a,b]) ⟨_,rfl⟩ ?_ ?_
  ·rintro e ρ he ⟨b,rfl⟩
   obtain⟨x,hx,rfl⟩:=Qv.mp he;have hf:=fine x hx;symm;rw[decide_eq_false (by omega)];symm;rw[oPow_i (by decide)];symm;rw[decide_eq_false (by omega)];symm;exact⟨_,rfl,_,rfl⟩
  ·rintro ρ' ⟨b,rfl⟩
   rfl
 unfold aY;symm;rw[zNC];unfold jA;generalize (fG:Sv)=K at rest ⊢;rcases h with⟨hw,hl,_⟩ | ⟨hw,rfl⟩
 ·rw[decide_eq_true hw]
  symm;rw[ln];symm;rw[hl];symm;exact rest _
 ·rw[decide_eq_false hw]
  symm;rw[ln];symm;rw[show decide (((0:Nat):Int)=0)=true from rfl];symm;exact rest _
theorem zML{c:Int}(h0:0<=c)(h1:c<=10^9):zBG [.int c]=.ok (.v (.tup [.str "boat", .int c])):=by
 unfold zBG;symm;rw[decide_eq_false (by omega)];symm;rw[decide_eq_false (by omega)];symm
theorem zMD{w:Str}{ws:List Int}{ks:List D}{n:Nat}{wd:D}(hd:wd=.lst (ws.map D.int)∨wd=.tup (ws.map D.int))(hw:w∈wys)(hs:wOK w ws ks.length)(l1:ws.length<=100)(k0:0<ks.length)(k1:ks.length<=100)(hn:n<=7)(hk:∀ k∈ks,IsC n k)(hc:(ks.flatMap (clm n)).length<=12):
  zBB [.str w,wd,.lst ks]=.ok (.v (.tup [.str w,.tup (ws.map D.int),.tup ks]))/\IsC (n+1) (.tup [.str w,.tup (ws.map D.int),.tup ks]):=by
 have bt:zKo [wd]=.ok (.tup (ws.map D.int)):=by rcases hd with rfl | rfl<;>rfl
 have ic:IsC (n+1) (.tup [.str w,.tup (ws.map D.int),.tup ks]):=.inr ⟨w,ws,ks,rfl,(zHr hw).2,k0,k1,l1,⟨hw,hs⟩,hk⟩;have ic':=fW ic (show n+1<=10 by omega)
 have ec:=dU ic (show n+1<=10 by omega)
 have lc:(clm 10 (.tup [.str w,.tup (ws.map D.int),.tup ks])).length<=12:=by rw[ec];exact hc
 have dd:dpt 10 (.tup [.str w,.tup (ws.map D.int),.tup ks])<=8:=by
  rw[zDq ic (show n+1<=10 by omega)];have:=(zGT ic).2
  omega
 refine⟨?_,ic⟩
 unfold zBB;symm;rw[zAr hw];symm;rw[rZ hd hs];symm;rw[bt];symm;rw[decide_eq_false (by omega)];symm;rw[iF 10 _ ic' (by omega)];symm;rw[decide_eq_false (by omega)];symm;rw[zBC 10 _ ic'];symm;rw[decide_eq_false (by omega)];symm
structure Pl (L:List (D×Int)) (boats:Int):Prop where
 each:∀ p∈L,1<=p.2/\p.2<=7/\IsC p.2.toNat p.1
 few:((L.flatMap fun p=>clm 7 p.1).length:Int)<=boats
 most:boats<=12
 rng:∀ c∈(L.flatMap fun p=>clm 7 p.1),0<=c/\c<=10^9
theorem xE:∀ {l:List D},(∀ d∈l,noL d=true)->noLs l=true
 | [],_=>rfl
 | a::r,h=>by rw[noLs,h a Qf,xE fun d hd=>h d (Qe _ hd)];rfl
theorem Pl.noL{L:List (D×Int)}{b:Int}(h:Pl L b):∀ d∈L.map Prod.fst,noL d=true:=fun d hd=>by
 obtain⟨p,hp,rfl⟩:=Qv.mp hd;exact zCz _ _ (zFL _ _ (h.each p hp).2.2)
theorem zJE:∀ {n:Nat} {d:D},dOK n d->dep d<=n
 | 0,_,h=>h.elim
 | n+1,d,h=>by
  rcases h with⟨i,rfl⟩ | ⟨x,rfl⟩ | ⟨ds,rfl,hl,he⟩
  ·simp[dep]
  ·simp[dep]
  ·rw[dep]
   clear hl
   have:depS ds<=n:=by
    induction ds with
    | nil=>simp[depS]
    | cons a r ih=>
     rw[depS];exact Nat.max_le.mpr ⟨zJE (he a Qf),ih fun e h=>he e (Qe _ h)⟩
   omega
theorem zKX{n:Nat}:∀ {ds:List D},(∀ d∈ds,dOK n d)->depS ds<=n
 | [],_=>by simp[depS]
 | a::r,h=>by rw[depS];exact Nat.max_le.mpr ⟨zJE (h a Qf),zKX fun e he=>h e (Qe _ he)⟩
theorem zES{w:Str}(h:w∈wys):∃ v:Wy,v.s=w:=by
 unfold wys at h;rcases Qc.mp h with rfl | h
 ·exact⟨.row,rfl⟩
 rcases Qc.mp h with rfl | h
 ·exact⟨.back,rfl⟩
 rcases Qc.mp h with rfl | h
 ·exact⟨.even,rfl⟩
 rcases Qc.mp h with rfl | h
 ·exact⟨.lack,rfl⟩
 rcases Qc.mp h with rfl | h
 ·exact⟨.part,rfl⟩
 ·rw[Q0.mp h];exact⟨.half,rfl⟩
theorem zAN{v:Wy}{ws cs:List Int}(h:wOK v.s ws cs.length):v.due ws cs:=by
 have k:¬ (v.s = "even" ∨ v.s = "lack")->ws=[]:=fun hn=>by
  rcases h with⟨a,_⟩ | ⟨_,b⟩
  ·exact absurd a hn
  ·exact b
 have k2:(v.s = "even" ∨ v.s = "lack")->Wt ws cs:=fun hy=>by
  rcases h with⟨_,b,c⟩ | ⟨a,_⟩
  ·exact⟨b,fun x hx=>(c x hx).1,fun x hx=>(c x hx).2⟩
  ·exact absurd hy a
 cases v with
 | even=>exact k2 (.inl rfl)
 | lack=>exact k2 (.inr rfl)
 | row=>exact k (by decide)
 | back=>exact k (by decide)
 | part=>exact k (by decide)
 | half=>exact k (by decide)
def Gc(n:Nat)(d:D):Prop:=IsC n d/\(clm n d).length<=12/\∀ c∈clm n d,0<=c/\c<=10^9
theorem zJX:∀ {l:List Int},(∀ c∈l,0<=c/\c<=10^9)->0<=l.sum/\l.sum<=l.length*10^9
 | [],_=>by decide
 | c::r,h=>by
  have ih:=zJX fun x hx=>h x (Qe _ hx)
  have a:=h c Qf;rw[Qm,Ql];have:((r.length+1:Nat):Int)*10^9=(r.length:Int)*10^9+10^9:=by rw[Xq,X1];rfl
  omega
theorem Gc.sum{n:Nat}{d:D}(h:Gc n d):0<=(clm n d).sum/\(clm n d).sum<=12*10^9:=by
 have:=zJX h.2.2
 have:=h.2.1
 omega
theorem wK{n:Nat}:∀ ks:List D,(ks.map fun k=>(clm n k).sum).sum=(ks.flatMap (clm n)).sum
 | []=>rfl
 | k::r=>by rw[Qj,Qm,wK r,Vo,V4]
theorem zCU:∀ {n:Nat} {d:D},IsC n d->1<=(clm n d).length
 | 0,_,h=>h.elim
 | n+1,d,h=>by
  rcases h with⟨c,rfl⟩ | ⟨w,ws,ks,rfl,hw,k0,k1,w1,hy,hk⟩
  ·exact Qb 1
  ·cases ks with
   | nil=>simp at k0
   | cons k r=>
    have:=zCU (hk k Qf)
    show 1<=((k::r).flatMap (clm n)).length
    rw[Vo,Qi];omega
theorem lV{n:Nat}:∀ {ks:List D},(∀ k∈ks,IsC n k)->ks.length<=(ks.flatMap (clm n)).length
 | [],_=>Q7 _
 | k::r,h=>by
  have a:=zCU (h k Qf);have b:=lV fun x hx=>h x (Qe _ hx)
  rw[Ql,Vo,Qi];omega
theorem zNX{n:Nat}{ks:List D}{k:D}(hk:k∈ks){c:Int}(hc:c∈clm n k):c∈ks.flatMap (clm n):=Yo.mpr ⟨k,hk,hc⟩
theorem Gc.kid{n:Nat}{w:D}{a ks:List D}(h:Gc (n+1) (.tup [w,.tup a,.tup ks]))(hi:∀ k∈ks,IsC n k){k:D}(hk:k∈ks):Gc n k:=
 ⟨hi k hk,Qp (zJb hk) h.2.1,fun c hc=>h.2.2 c (zNX hk hc)⟩
def kcl(n:Nat)(ks:List D):List Int:=ks.map fun k=>(clm n k).sum
theorem dR(n:Nat)(ks:List D):(kcl n ks).length=ks.length:=Qd ..
theorem Gc.cl{n:Nat}{w:D}{a ks:List D}(h:Gc (n+1) (.tup [w,.tup a,.tup ks]))(hi:∀ k∈ks,IsC n k)(h0:0<ks.length):Cl (kcl n ks):=by
 have b:∀ c∈kcl n ks,0<=c/\c<=12*10^9:=fun c hc=>by
  obtain⟨k,hk,rfl⟩:=Qv.mp hc;exact(h.kid hi hk).sum
 have l:(ks.flatMap (clm n)).length<=12:=h.2.1;have:=lV hi
 exact⟨fun c hc=>(b c hc).1,fun c hc=>by have:=(b c hc).2;omega,by rw[dR];omega,by rw[dR];omega⟩
def ShL(P:D->Rat->List Rat->Prop):List D->(Nat->Rat)->Nat->List Rat->Prop
 | [],_,_,xs=>xs=[]
 | k::ks,f,i,xs=>∃ a b,xs=a++b/\P k (f i) a/\ShL P ks f (i+1) b
def Sh:Nat->D->Rat->List Rat->Prop
 | 0,_,_,_=>False
 | n+1,d,q,xs=>(∃ c:Int,d=.tup [.str "boat", .int c]/\xs=[q])∨∃(v:Wy)(ws:List Int)(ks:List D)(f:Nat->Rat),d=.tup [.str v.s,.tup (ws.map D.int),.tup ks]/\v.due ws (kcl n ks)/\Al 3000 ws (kcl n ks) q f v/\ShL (Sh n) ks f 0 xs
theorem zHS{P:D->Rat->List Rat->Prop}{n:Nat}{f:Nat->Rat}:∀ {ks:List D} {i:Nat} {xs:List Rat},(∀ k∈ks,∀ q xs,P k q xs->xs.length=(clm n k).length)->ShL P ks f i xs->xs.length=(ks.flatMap (clm n)).length
 | [],i,xs,_,h=>by rw[show xs=[] from h];rfl
 | k::r,i,xs,hp,h=>by
  obtain⟨a,b,rfl,ha,hb⟩:=h;rw[Qi,hp k Qf _ _ ha,zHS (fun x hx=>hp x (Qe _ hx)) hb,Vo,Qi]
theorem zAf:∀ {n:Nat} {d:D} {q:Rat} {xs:List Rat},Sh n d q xs->xs.length=(clm n d).length
 | 0,_,_,_,h=>h.elim
 | n+1,d,q,xs,h=>by
  rcases h with⟨c,rfl,rfl⟩ | ⟨v,ws,ks,f,rfl,hd,al,hs⟩
  ·rfl
  ·exact zHS (fun k _ q xs h=>zAf h) hs
theorem yU{a:D}{l:List D}:iT [.tup (a::l)]=.ok (.v a):=by
 unfold iT;symm
theorem rL{a b:D}{l:List D}:cZ [.tup (a::b::l)]=.ok (.v b):=by
 unfold cZ;symm
theorem gW{n:Nat}{d:D}(h:IsC n d)(hn:n<=10)(hl:(clm n d).length<=1000):cK [d]=.ok (.v (.int (clm n d).sum)):=by
 have e:=dU h hn;unfold cK;symm;rw[iF 10 d (fW h hn) (by rw[e];exact hl)];symm;rw[e]
theorem zBD{n:Nat}{w:Str}{a:D}{ks:List D}(hw:(w == "boat")=false)(hi:∀ k∈ks,IsC n k)(hn:n<=10)(hl:(ks.flatMap (clm n)).length<=1000):eR [.tup [.str w,a,.tup ks]]=.ok (.f ((kcl n ks).map D.int)):=by
 unfold eR;symm;rw[cM hw];symm
 rw[zHR (h:=fun k=>D.int (clm n k).sum) (by have:=lV hi;omega) (fun k hk=>by
  symm;rw[gW (hi k hk) hn (Qp (zJb hk) hl)]
  symm)]
 symm;unfold kcl;rw[Q4];rfl
theorem fA(v:Wy):(v.s == "boat")=false:=by cases v<;>decide
theorem zNG(cs:List Int):Sq (.lst (cs.map D.int)) cs:=.inl rfl
theorem wX:∀(n N m:Nat)(d:D)(q:Rat),Gc n d->n<=N->n<=9->0<=q->q<=((clm n d).sum:Rat)->(q.den:Int)<2^m->m+34*n<=2000->∃ xs,eP N [d,dq q]=.ok (.f (xs.map dq))/\Sh n d q xs
 | 0,_,_,_,_,h,_,_,_,_,_,_=>h.1.elim
 | n+1,0,_,_,_,_,hN,_,_,_,_,_=>by omega
 | n+1,N+1,m,d,q,g,hN,hn,q0,q1,qd,hm=>by
  rcases g.1 with⟨c,rfl⟩ | ⟨w,ws,ks,rfl,hw,k0,k1,w1,hy,hk⟩
  ·refine⟨[q],?_,.inl ⟨c,rfl,rfl⟩⟩
   show gX (eP N) _=_
   unfold gX;symm;rw[jP];symm
  ·obtain⟨v,rfl⟩:=zES hy.1
   have cl:=g.cl hk k0;have l12:(ks.flatMap (clm n)).length<=12:=g.2.1;have hs:(kcl n ks).sum=(clm (n+1) (.tup [.str v.s,.tup (ws.map D.int),.tup ks])).sum:=wK ks;have gs:=g.sum;have due:v.due ws (kcl n ks):=zAN (by rw[dR];exact hy.2)
   have sq:Sz (34+m) q:=(Dn.den q).sz (dZ q) qd q0 q1 (by omega)
   have hl:Haul (34+m) q (kcl n ks).sum:=⟨q0,by rw[hs];exact q1,sq⟩
   obtain⟨f,ef,af⟩:=zGX (wd:=.tup (ws.map D.int)) (.inr rfl) (zNG (kcl n ks)) (by omega) due cl hl
   have df:=zKW due cl hl af;have hS:(kcl n ks).sum<2^34:=by rw[hs];omega
   obtain⟨E,e0,e1,e2⟩:=zNk due cl hS af (Dn.den q)
   have dk:∀ i,i<ks.length->((f i).den:Int)<2^(m+34):=fun i hi=>by
    have a:=(e2 i (by rw[dR];exact hi)).le (Xc (dZ q) e0)
    have b:(q.den:Int)*E<2^m*2^34:=Int.mul_lt_mul qd (Xm e1) e0 (Xm (Ys (by decide)))
    rw[Wd];omega
   have loopOk:∀(js:List D)(i:Nat)(acc:List Rat)(s t:Sl),(∀ k∈js,k∈ks)->i+js.length=ks.length->ks.drop i=js->acc.length+(js.flatMap (clm n)).length<=12->∃ xs s' t',ShL (Sh n) js f i xs/\
     loop (zBc (fH (gName 4) (fH (gName 5) zAx))) (rO (eP N)) (kZ js ((List.range' i js.length).map fun j=>dq (f j))) [.val (.tup [.str v.s,.tup (ws.map D.int),.tup ks]),.val (dq q),.val (.lst (((List.range (kcl n ks).length).map f).map dq)),.own (acc.map dq),s,t]=
      .ok (.nx [.val (.tup [.str v.s,.tup (ws.map D.int),.tup ks]),.val (dq q),.val (.lst (((List.range (kcl n ks).length).map f).map dq)),.own ((acc++xs).map dq),s',t']):=by
    intro js
    induction js with
    | nil=>intro i acc s t _ _ _ _;exact⟨[],s,t,rfl,by rw[Q3];rfl⟩
    | cons k r ih=>
     intro i acc s t hm' hl' hd' ha;have hik:i<ks.length:=by rw[Ql] at hl';omega
     have ik:k∈ks:=hm' k Qf;have gk:=g.kid hk ik;have fk:=df.bd i (by rw[dR];exact hik)
     have ck:cR (kcl n ks) i=((clm n k).sum:Rat):=by
      unfold cR kcl
      have:ks[i]?=some k:=by
       have:=List.getElem?_drop (xs:=ks) (i:=i) (j:=0)
       rw[hd'] at this;simpa using this.symm
      rw[Qq,Qr,this];rfl
     obtain⟨xs,ex,sx⟩:=wX n N (m+34) k (f i) gk (by omega) (by omega) fk.1 (by rw[<-ck];exact fk.2.1) (dk i hik) (by omega)
     have lx:=zAf sx;rw[Vo,Qi] at ha;obtain⟨ys,s',t',sy,ey⟩:=ih (i+1) (acc++xs) (.val k) (.val (dq (f i))) (fun x hx=>hm' x (Qe _ hx)) (by rw[Ql] at hl';omega) (by rw[<-List.drop_drop,hd'];rfl) (by rw[Qi];omega)
     refine⟨xs++ys,s',t',⟨xs,ys,rfl,sx,sy⟩,?_⟩
     rw[Ql,List.range'_succ,Qj,show kZ (k::r) (dq (f i)::(List.range' (i+1) r.length).map fun j=>dq (f j))=.tup [k,dq (f i)]::kZ r ((List.range' (i+1) r.length).map fun j=>dq (f j)) from rfl]
     rw[fB (ρ1:=[.val (.tup [.str v.s,.tup (ws.map D.int),.tup ks]),.val (dq q),.val (.lst (((List.range (kcl n ks).length).map f).map dq)),.own (acc.map dq),.val k,.val (dq (f i))]) (ρ2:=[.val (.tup [.str v.s,.tup (ws.map D.int),.tup ks]),.val (dq q),.val (.lst (((List.range (kcl n ks).length).map f).map dq)),.own ((acc++xs).map dq),.val k,.val (dq (f i))]) (by symm) (by
      symm;rw[ex];symm
      rw[if_pos (by omega),Qw]),ey,Vp]
   obtain⟨xs,s',t',sx,ex⟩:=loopOk ks 0 [] .un .un (fun k h=>h) (by omega) rfl (by rw[Yf];omega)
   refine⟨xs,?_,.inr ⟨v,ws,ks,f,rfl,due,af.mono (by omega),sx⟩⟩
   show gX (eP N) _=_
   unfold gX;symm;rw[fS hw];symm;rw[yU];symm;rw[rL];symm;rw[zBD hw hk (by omega) (by omega)];symm;rw[ef];symm;rw[cM hw];symm;rw[uK rfl rfl,show((List.range (kcl n ks).length).map f).map dq=(List.range' 0 ks.length).map fun j=>dq (f j) by rw[Q4,dR,We];rfl];symm;rw[show((List.range (kcl n ks).length).map f).map dq=(List.range' 0 ks.length).map fun j=>dq (f j) by rw[Q4,dR,We];rfl] at ex;rw[Vq] at ex;rw[ex];rfl
theorem zDI{n m:Nat}{d:D}{q:Rat}(g:Gc n d)(hn:n<=9)(q0:0<=q)(q1:q<=((clm n d).sum:Rat))(qd:(q.den:Int)<2^m)(hm:m+34*n<=2000):∃ xs,kH [d,dq q]=.ok (.f (xs.map dq))/\Sh n d q xs:=by
 have gs:=g.sum;obtain⟨xs,ex,sx⟩:=wX n 10 m d q g (by omega) hn q0 q1 qd hm
 refine⟨xs,?_,sx⟩
 have sq:Sz (34+m) q:=(Dn.den q).sz (dZ q) qd q0 q1 (by omega)
 unfold kH;symm;rw[gW g.1 (by omega) (by have:=g.2.1;omega)];symm;rw[cB];symm;rw[kX (by omega) ⟨q0,q1,sq⟩ (by omega)];symm;rw[ex];symm
def A2{α β:Type}(R:α->β->Prop):List α->List β->Prop
 | [],[]=>True
 | a::l,b::k=>R a b/\A2 R l k
 | _,_=>False
theorem A2.app{α β:Type}{R:α->β->Prop}:∀ {l l':List α} {k k':List β},A2 R l k->A2 R l' k'->A2 R (l++l') (k++k')
 | [],_,[],_,_,h=>h
 | _::l,_,_::k,_,h,h'=>⟨h.1,A2.app h.2 h'⟩
theorem A2.len{α β:Type}{R:α->β->Prop}:∀ {l:List α} {k:List β},A2 R l k->l.length=k.length
 | [],[],_=>rfl
 | _::l,_::k,h=>by rw[Ql,Ql,A2.len h.2]
theorem A2.at{α β:Type}{R:α->β->Prop}{a:α}{b:β}:∀ {l:List α} {k:List β} {i:Nat},A2 R l k->i<l.length->R (l.getD i a) (k.getD i b)
 | _::l,_::k,0,h,_=>h.1
 | _::l,_::k,i+1,h,hi=>A2.at (i:=i) h.2 (by simpa using hi)
theorem A2.mem{α β:Type}{R:α->β->Prop}:∀ {l:List α} {k:List β} {x:α},A2 R l k->x∈l->∃ y∈k,R x y
 | a::l,b::k,x,h,hx=>by
  rcases Qc.mp hx with rfl | hx
  ·exact⟨b,Qf,h.1⟩
  ·obtain⟨y,hy,r⟩:=A2.mem h.2 hx
   exact⟨y,Qe _ hy,r⟩
def Bc(x:Rat)(c:Int):Prop:=0<=x/\x<=(c:Rat)
theorem dO(l k:List Rat):(l++k).sum=l.sum+k.sum:=by
 induction l with
 | nil=>rw[Yr,Vn,Rat.zero_add]
 | cons a l ih=>rw[Y9,Qm,Qm,ih];grind
theorem zJZ{P:D->Rat->List Rat->Prop}{n:Nat}{f:Nat->Rat}:∀ {ks:List D} {i:Nat} {xs:List Rat},(∀ k∈ks,∀ q xs,P k q xs->0<=q->q<=((clm n k).sum:Rat)->A2 Bc xs (clm n k)/\xs.sum=q)->(∀ j k,ks[j]?=some k->0<=f (i+j)/\f (i+j)<=((clm n k).sum:Rat))->ShL P ks f i xs->A2 Bc xs (ks.flatMap (clm n))/\xs.sum=((List.range' i ks.length).map f).sum
 | [],i,xs,_,_,h=>by rw[show xs=[] from h];exact⟨trivial,rfl⟩
 | k::r,i,xs,hp,hf,h=>by
  obtain⟨a,b,rfl,ha,hb⟩:=h;have f0:=hf 0 k rfl;obtain⟨a1,a2⟩:=hp k Qf _ _ ha f0.1 f0.2
  obtain⟨b1,b2⟩:=zJZ (fun x hx=>hp x (Qe _ hx)) (fun j k' hj=>by
   have:=hf (j+1) k' (by simpa using hj)
   rw[show i+1+j=i+(j+1) by omega];exact this) hb
  refine⟨by rw[Vo];exact a1.app b1,?_⟩
  rw[dO,a2,b2,Ql,List.range'_succ,Qj,Qm]
theorem zD{n:Nat}{ks:List D}{j:Nat}{k:D}(h:ks[j]?=some k):j<(kcl n ks).length/\cR (kcl n ks) j=((clm n k).sum:Rat):=by
 refine⟨by rw[dR];exact(Q2.mp h).1,?_⟩
 unfold cR kcl;rw[Qq,Qr,h];rfl
theorem zGp:∀ {n:Nat} {d:D} {q:Rat} {xs:List Rat},Gc n d->Sh n d q xs->0<=q->q<=((clm n d).sum:Rat)->A2 Bc xs (clm n d)/\xs.sum=q
 | 0,_,_,_,g,_,_,_=>g.1.elim
 | n+1,d,q,xs,g,h,q0,q1=>by
  rcases h with⟨c,rfl,rfl⟩ | ⟨v,ws,ks,f,rfl,hd,al,hs⟩
  ·refine⟨⟨⟨q0,?_⟩,trivial⟩,by rw[Qm,Vn,Xt]⟩
   have e:((clm (n+1) (.tup [.str "boat", .int c])).sum:Int)=c:=by show([c]:List Int).sum=c;simp
   rw[e] at q1;exact q1
  ·rcases g.1 with⟨c,e⟩ | ⟨w,ws',ks',e,hw,k0,k1,w1,hy,hk⟩
   ·simp at e
   ·simp only[D.tup.injEq,Xu,and_true] at e
    obtain⟨e1,e2,rfl⟩:=e;have cl:=g.cl hk k0;have e:(kcl n ks).sum=(clm (n+1) (.tup [.str v.s,.tup (ws.map D.int),.tup ks])).sum:=wK ks;obtain⟨b,s⟩:=zKF hd cl q0 (by rw[e];exact q1) al
    obtain⟨r1,r2⟩:=zJZ (P:=Sh n) (n:=n) (f:=f) (i:=0) (fun k hk' q xs h0 h1 h2=>zGp (g.kid hk hk') h0 h1 h2) (fun j k hj=>by
     obtain⟨j1,j2⟩:=zD (n:=n) hj;rw[Q5,<-j2]
     exact b j j1) hs
    refine⟨r1,?_⟩
    rw[r2,<-We,<-dR n ks];exact s
def kn:Nat->D->Nat
 | 0,_=>0
 | n+1,d=>match d with
  | .tup [_,_,.tup ks]=>1+(ks.map (kn n)).sum
  | _=>0
theorem zPa{n:Nat}:∀ {ks:List D},(∀ k∈ks,kn n k<=(n-1)*(clm n k).length)->(ks.map (kn n)).sum<=(n-1)*(ks.flatMap (clm n)).length
 | [],_=>Q7 _
 | k::r,h=>by
  have a:=h k Qf;have b:=zPa fun x hx=>h x (Qe _ hx)
  rw[Qj,Qm,Vo,Qi,Wf];omega
theorem zPO:∀ {n:Nat} {d:D},IsC n d->kn n d<=(n-1)*(clm n d).length
 | 0,_,h=>h.elim
 | n+1,d,h=>by
  rcases h with⟨c,rfl⟩ | ⟨w,ws,ks,rfl,hw,k0,k1,w1,hy,hk⟩
  ·exact Q7 _
  ·have a:=zPa fun k h=>zPO (hk k h)
   have b:=lV hk;show 1+(ks.map (kn n)).sum<=(n+1-1)*(ks.flatMap (clm n)).length
   rw[U5]
   cases n with
   | zero=>obtain⟨k,r,rfl⟩:=List.exists_cons_of_length_pos k0;exact(hk k Qf).elim
   | succ n=>
    rw[U5] at a;rw[Nat.add_mul,Nat.one_mul];omega
theorem qV{a b:Int}{m n:Nat}(a0:0<a)(b0:0<b)(ha:a<=2^m)(hb:b<=2^n):a*b<=2^(m+n):=by
 rw[Wd];exact Int.mul_le_mul ha hb (by omega) (Xm (Ys (by decide)))
theorem zJR{P:D->Rat->List Rat->Prop}{n:Nat}{f:Nat->Rat}{B:Int}:∀ {ks:List D} {i:Nat} {xs:List Rat},(∀ k∈ks,∀ q xs B,P k q xs->0<=q->q<=((clm n k).sum:Rat)->Dn B q->∃ E:Int,0<E/\E<=2^(34*kn n k)/\∀ x∈xs,Dn (B*E) x)->(∀ j k,ks[j]?=some k->Dn B (f (i+j))/\0<=f (i+j)/\f (i+j)<=((clm n k).sum:Rat))->ShL P ks f i xs->∃ E:Int,0<E/\E<=2^(34*(ks.map (kn n)).sum)/\∀ x∈xs,Dn (B*E) x
 | [],i,xs,_,_,h=>⟨1,by decide,by show(1:Int)<=2^(34*0);decide,fun x hx=>by rw[show xs=[] from h] at hx;cases hx⟩
 | k::r,i,xs,hp,hf,h=>by
  obtain⟨a,b,rfl,ha,hb⟩:=h;have f0:=hf 0 k rfl;obtain⟨E,e0,e1,e2⟩:=hp k Qf _ _ B ha f0.2.1 f0.2.2 f0.1
  obtain⟨E',e0',e1',e2'⟩:=zJR (B:=B) (fun x hx=>hp x (Qe _ hx)) (fun j k' hj=>by
   have:=hf (j+1) k' (by simpa using hj)
   rw[show i+1+j=i+(j+1) by omega];exact this) hb
  refine⟨E*E',Xc e0 e0',?_,fun x hx=>?_⟩
  ·rw[Qj,Qm,Wf]
   exact qV e0 e0' e1 e1'
  ·rcases V6.mp hx with hx | hx
   ·rw[<-Xs];exact(e2 x hx).mul E'
   ·rw[X2 E,<-Xs];exact(e2' x hx).mul E
theorem zMR:∀ {n:Nat} {d:D} {q:Rat} {xs:List Rat} {B:Int},Gc n d->Sh n d q xs->0<=q->q<=((clm n d).sum:Rat)->Dn B q->∃ E:Int,0<E/\E<=2^(34*kn n d)/\∀ x∈xs,Dn (B*E) x
 | 0,_,_,_,_,g,_,_,_,_=>g.1.elim
 | n+1,d,q,xs,B,g,h,q0,q1,hB=>by
  rcases h with⟨c,rfl,rfl⟩ | ⟨v,ws,ks,f,rfl,hd,al,hs⟩
  ·exact⟨1,by decide,by show(1:Int)<=2^(34*0);decide,fun x hx=>by rw[Q0.mp hx,Vx];exact hB⟩
  ·rcases g.1 with⟨c,e⟩ | ⟨w,ws',ks',e,hw,k0,k1,w1,hy,hk⟩
   ·simp at e
   ·simp only[D.tup.injEq,Xu,and_true] at e
    obtain⟨e1,e2,rfl⟩:=e;have cl:=g.cl hk k0;have gs:=g.sum;have e:(kcl n ks).sum=(clm (n+1) (.tup [.str v.s,.tup (ws.map D.int),.tup ks])).sum:=wK ks;obtain⟨b,s⟩:=zKF hd cl q0 (by rw[e];exact q1) al
    obtain⟨E,e0,e1,e2⟩:=zNk hd cl (by rw[e];omega) al hB
    obtain⟨E',e0',e1',e2'⟩:=zJR (P:=Sh n) (n:=n) (f:=f) (i:=0) (B:=B*E) (fun k hk' q xs B h0 h1 h2 h3=>zMR (g.kid hk hk') h0 h1 h2 h3) (fun j k hj=>by
     obtain⟨j1,j2⟩:=zD (n:=n) hj;rw[Q5,<-j2]
     exact⟨e2 j j1,b j j1⟩) hs
    refine⟨E*E',Xc e0 e0',?_,fun x hx=>by rw[<-Xs];exact e2' x hx⟩
    show E*E'<=2^(34*(1+(ks.map (kn n)).sum))
    rw[Wf];exact qV e0 e0' (Xm e1) e1'
theorem sT{M M':Nat}{ws cs:List Int}{q q' t t':Rat}(hW:Wt ws cs)(a:Lvl M ws cs q t)(b:Lvl M' ws cs q' t')(h:q<=q'){i:Nat}(hi:i<cs.length):dI (cR cs) (cR ws) t i<=dI (cR cs) (cR ws) t' i:=by
 have pw:∀ j∈List.range cs.length,0<cR ws j:=fun j hj=>by
  have:=(hW.at (Qt.mp hj)).1
  unfold cR;exact_mod_cast (show 0<ws.getD j 0 by omega)
 rcases Uc (a:=t) (b:=t') with g | g
 ·exact oY (pw i (Qt.mpr hi)) g
 ·have le:∀ j∈List.range cs.length,dI (cR cs) (cR ws) t' j<=dI (cR cs) (cR ws) t j:=fun j hj=>oY (pw j hj) g
  have s1:nK (dI (cR cs) (cR ws) t') (List.range cs.length)=q':=b.sum;have s2:nK (dI (cR cs) (cR ws) t) (List.range cs.length)=q:=a.sum;have s3:=zCN le;rw[zI le (by rw[s1,s2];rw[s1,s2] at s3;grind) i (Qt.mpr hi)];exact Vk
theorem uE{M M':Nat}{w:Wy}{ws cs:List Int}{q q':Rat}{f g:Nat->Rat}(hw:w.due ws cs)(hc:Cl cs)(a:Al M ws cs q f w)(b:Al M' ws cs q' g w)(h:q<=q'){i:Nat}(hi:i<cs.length):f i<=g i:=by
 have sm:=hc.sum
 cases w with
 | row=>rw[a i hi,b i hi];exact uN cs 0 i h
 | back=>
  rw[a i hi,b i hi];have:=uN cs 0 (q:=(cs.sum:Rat)-q') (q':=(cs.sum:Rat)-q) i (by grind)
  unfold wN;grind
 | even=>
  obtain⟨t,tl,e⟩:=a;obtain⟨t',tl',e'⟩:=b;rw[e i hi,e' i hi];exact sT hw tl tl' h hi
 | lack=>
  obtain⟨t,tl,e⟩:=a;obtain⟨t',tl',e'⟩:=b;rw[e i hi,e' i hi];have:=sT hw tl' tl (by grind) hi
  grind
 | part=>
  rw[a i hi,b i hi];have c0:0<=cR cs i:=by unfold cR;exact_mod_cast hc.nn _ (Qg (aU hi))
  obtain⟨p1,p2⟩:=iD (q:=q) hc hi;obtain⟨r1,r2⟩:=iD (q:=q') hc hi;by_cases z:cs.sum=0
  ·rw[p2 z,r2 z];exact Vk
  ·have W:(0:Rat)<(cs.sum:Rat):=by exact_mod_cast (show 0<cs.sum by omega)
   exact zHb W (by rw[p1,r1];exact X3 h c0)
 | half=>
  have ow:=nM cs;obtain⟨t,⟨c,tl,e⟩ | ⟨c,tl,e⟩⟩:=a
  ·have b1:=(qZ ow hc tl.nn hi).2
   obtain⟨t',⟨c',tl',e'⟩ | ⟨c',tl',e'⟩⟩:=b
   ·have:=sT ow tl tl' (by grind) hi
    rw[e i hi,e' i hi,zAL];grind
   ·have b2:=(qZ ow hc tl'.nn hi).2
    rw[e i hi,e' i hi,zAL];grind
  ·obtain⟨t',⟨c',tl',e'⟩ | ⟨c',tl',e'⟩⟩:=b
   ·exfalso;grind
   ·have:=sT ow tl' tl (by grind) hi
    rw[e i hi,e' i hi,zAL];grind
theorem zDr:∀ {l k:List Int},l.map D.int=k.map D.int->l=k
 | [],[],_=>rfl
 | [],_::_,h=>by cases h
 | _::_,[],h=>by cases h
 | a::l,b::k,h=>by
  rw[Qj,Qj,Xu,D.int.injEq] at h;rw[h.1,zDr h.2]
theorem A2.refl{α:Type}{R:α->α->Prop}(h:∀ a,R a a):∀ l:List α,A2 R l l
 | []=>trivial
 | a::l=>⟨h a,A2.refl h l⟩
theorem zDu{P:D->Rat->List Rat->Prop}{f g:Nat->Rat}:∀ {ks:List D} {i:Nat} {xs ys:List Rat},(∀ k∈ks,∀ q q' xs ys,P k q xs->P k q' ys->q<=q'->A2 (·<=·) xs ys)->(∀ j,j<ks.length->f (i+j)<=g (i+j))->ShL P ks f i xs->ShL P ks g i ys->A2 (·<=·) xs ys
 | [],i,xs,ys,_,_,h,h'=>by rw[show xs=[] from h,show ys=[] from h'];trivial
 | k::r,i,xs,ys,hp,hf,h,h'=>by
  obtain⟨a,b,rfl,ha,hb⟩:=h;obtain⟨a',b',rfl,ha',hb'⟩:=h'
  exact(hp k Qf _ _ _ _ ha ha' (hf 0 (by simp))).app (zDu (fun x hx=>hp x (Qe _ hx)) (fun j hj=>by
   have:=hf (j+1) (by simpa using hj)
   rw[show i+1+j=i+(j+1) by omega];exact this) hb hb')
theorem zBY:∀ {n:Nat} {d:D} {q q':Rat} {xs ys:List Rat},Gc n d->Sh n d q xs->Sh n d q' ys->q<=q'->A2 (·<=·) xs ys
 | 0,_,_,_,_,_,g,_,_,_=>g.1.elim
 | n+1,d,q,q',xs,ys,g,h,h',le=>by
  rcases h with⟨c,rfl,rfl⟩ | ⟨v,ws,ks,f,rfl,hd,al,hs⟩
  ·rcases h' with⟨c',e',rfl⟩ | ⟨v',ws',ks',f',e',hd',al',hs'⟩
   ·exact⟨le,trivial⟩
   ·simp at e'
  ·rcases g.1 with⟨c,e⟩ | ⟨w,ws',ks',e,hw,k0,k1,w1,hy,hk⟩
   ·simp at e
   simp only[D.tup.injEq,Xu,and_true] at e;obtain⟨e1,e2,rfl⟩:=e;have cl:=g.cl hk k0;rcases h' with⟨c',e',rfl⟩ | ⟨v',ws2,ks',f',e',hd',al',hs'⟩
   ·simp at e'
   simp only[D.tup.injEq,Xu,and_true,D.str.injEq] at e';obtain⟨e3,e4,rfl⟩:=e';have ev:v=v':=by cases v<;>cases v'<;>first | rfl | exact absurd e3 (by decide)
   subst ev;have ew:ws=ws2:=zDr e4;subst ew;exact zDu (fun k hk' q q' xs ys h1 h2 h3=>zBY (g.kid hk hk') h1 h2 h3) (fun j hj=>by rw[Q5];exact uE hd cl al al' le (by rw[dR];exact hj)) hs hs'
theorem zNE:∀ {xs ys:List Rat},A2 (·<=·) xs ys->A2 (·<=·) ys xs->xs=ys
 | [],[],_,_=>rfl
 | x::l,y::k,h,h'=>by
  have a:=h.1;have b:=h'.1;rw[zNE h.2 h'.2,show x=y by grind]
theorem zOi{n:Nat}{d:D}{q:Rat}{xs ys:List Rat}(g:Gc n d)(h:Sh n d q xs)(h':Sh n d q ys):xs=ys:=zNE (zBY g h h' Vk) (zBY g h' h Vk)
theorem zEb{α:Type}{u:α->D}{t:Tv}{f:Ev}{ρ:Rho}{p:α->Bool}:∀ {l:List α},(∀ a∈l,t (ρ++[.val (u a)])=.ok (p a)/\f (ρ++[.val (u a)])=.ok (u a))->fM t f ρ (l.map u)=.ok ((l.filter p).map u)
 | [],_=>rfl
 | a::l,h=>by
  have ⟨h1,h2⟩:=h a Qf;have ih:=zEb (u:=u) (t:=t) (f:=f) (ρ:=ρ) (p:=p) fun x hx=>h x (Qe _ hx)
  rw[Qj,fM,h1]
  cases z:p a with
  | true=>rw[List.filter_cons_of_pos z];simp only[noErr,Res.bind,if_true,h2,ih];rfl
  | false=>rw[List.filter_cons_of_neg (by rw[z];decide)];simp only[noErr,Res.bind,ih];rfl
theorem zHJ{α:Type}{u:α->D}{t:Tv}{f:Ev}{ρ:Rho}{p:α->Bool}{l:List α}(hl:l.length<=16777215)(h:∀ a∈l,t (ρ++[.val (u a)])=.ok (p a)/\f (ρ++[.val (u a)])=.ok (u a)):zR t f ρ (l.map u)=.ok ((l.filter p).map u):=by
 unfold zR;rw[if_pos (by rw[Qd];exact hl),zEb h]
theorem pS{x l:Rat}{m n:Nat}(hx:Sz m x)(hl:Sz n l)(h:m+n<=99990):bO [dq x,dq l]=.ok (.v (.bl (decide (x<0) || decide (l<x)))):=by
 unfold bO;symm;rw[uP (n:=1) hx ⟨by decide,by decide⟩ (by omega)];symm;by_cases c:x<0
 ·rw[decide_eq_true c]
  symm
 ·rw[decide_eq_false c]
  symm;rw[uP hl hx (by omega)];symm
theorem zGC{x l:Rat}{m n:Nat}(hx:Sz m x)(hl:Sz n l)(h:m+n<=99990)(hb:x<0∨l<x):bM [dq x,dq l]=.err "Outside" := by
 unfold bM;symm;rw[pS hx hl h,show(decide (x<0) || decide (l<x))=true by rcases hb with h | h<;>simp[h]];symm
theorem kJ(ns:List Int)(k:Int)(h:0<=k):dD [.lst (ns.map D.int),.int k]=.ok (.v (.int (ns.getD k.toNat 0))):=by
 unfold dD;symm;by_cases c:k<(ns.length:Int)
 ·rw[decide_eq_true c]
  symm;have hk:k.toNat<ns.length:=by omega
  rw[nE h (Qk hk),Qq,Qk hk];rfl
 ·rw[decide_eq_false c]
  symm;rw[Qq,Qz (by omega)];rfl
theorem sR:∀ {ds:List D} {n i:Nat} {d:D},(jV n ds)[i]?=some d->∃ a,ds[i]?=some a/\d=.tup [.int ((n+i:Nat):Int),a]
 | a::r,n,0,d,h=>by cases h;exact⟨a,rfl,rfl⟩
 | a::r,n,i+1,d,h=>by
  obtain⟨b,h1,h2⟩:=sR (ds:=r) (n:=n+1) (i:=i) h;exact⟨b,h1,by rw[h2];congr 4;omega⟩
 | [],n,i,d,h=>by cases i<;>cases h
theorem pJ:∀(ds:List D)(n:Nat),(jV n ds).length=ds.length
 | a::r,n=>by simp only[jV,Ql,pJ r (n+1)]
 | [],n=>rfl
def mkA(kd:Bool)(l:List Rat):D:=if kd then .lst (l.map dq) else .tup (l.map dq)
theorem zLu(kd:Bool)(l:List Rat):jM [mkA kd l]=.ok (.int (l.length:Int)):=by
 cases kd
 ·show jM [.tup (l.map dq)]=_
  rw[bLen_t,Qd]
 ·show jM [.lst (l.map dq)]=_
  rw[bLen_l,Qd]
theorem zFF{kd:Bool}{l:List Rat}{i:Nat}(h:i<l.length):oIx (mkA kd l) (.int (i:Int))=.ok (dq (l.getD i 0)):=by
 have e:l[(i:Int).toNat]?=some (l.getD i 0):=by rw[Vc,Qq,Qk h];rfl
 cases kd
 ·exact rD (Va i) e
 ·exact nE (Va i) e
theorem zLm(kd:Bool)(l:List Rat):zJq (mkA kd l)=.ok (l.map dq):=by cases kd<;>rfl
def sS(m:D->Nat):List D->List Rat->List (List Rat)
 | [],_=>[]
 | k::r,xs=>xs.take (m k)::sS m r (xs.drop (m k))
theorem iZ{m:D->Nat}:∀(ks:List D)(xs:List Rat),(sS m ks xs).length=ks.length
 | [],_=>rfl
 | k::r,xs=>by rw[sS,Ql,iZ r,Ql]
theorem zA{m:D->Nat}:∀ {ks:List D} {xs ys:List Rat} {x:Rat},ys∈sS m ks xs->x∈ys->x∈xs
 | [],xs,ys,x,h,_=>by cases h
 | k::r,xs,ys,x,h,hx=>by
  rw[sS] at h;rcases Qc.mp h with rfl | h
  ·exact Uf hx
  ·exact Wg (zA h hx)
theorem zKt{m:D->Nat}:∀ {ks:List D} {xs:List Rat} {i:Nat} {k:D},(ks.map m).sum<=xs.length->ks[i]?=some k->((sS m ks xs).getD i []).length=m k
 | c::r,xs,0,k,hl,h=>by
  cases h;rw[Qj,Qm] at hl;show(xs.take (m c)).length=m c
  rw[Xd];omega
 | c::r,xs,i+1,k,hl,h=>by
  rw[Qj,Qm] at hl;exact zKt (ks:=r) (xs:=xs.drop (m c)) (by rw[Vu];omega) (by simpa using h)
theorem zNM{kd:Bool}{xs:List Rat}{a b:Nat}:zMv (mkA kd xs) (some (a:Int)) (some ((a+b:Nat):Int))=.ok (mkA kd ((xs.drop a).take b)):=by
 have e:eG (xs.map dq) (some (a:Int)) (some ((a+b:Nat):Int))=((xs.drop a).take b).map dq:=by
  rw[zHa (by omega) (by omega),<-List.map_drop,<-List.map_take,Vc,Vc,Wu]
 cases kd
 ·show zMv (.tup (xs.map dq)) _ _=.ok (.tup _)
  rw[slQG_t,e]
 ·show zMv (.lst (xs.map dq)) _ _=.ok (.lst _)
  rw[slQG_l,e]
theorem zDU{n:Nat}{d:D}{kd:Bool}{xs:List Rat}(hn:n<=8):∀(ks:List D)(st:Nat)(acc:List D)(a b:Sl),(∀ k∈ks,IsC n k)->(ks.flatMap (clm n)).length<=12->acc.length+ks.length<=1000->
  ∃ s' a' b',loop (gName 4) wZ ks [.val d,.val (mkA kd xs),.own acc,.val (.int (st:Int)),a,b]=.ok (.nx [.val d,.val (mkA kd xs),.own (acc++(sS (fun k=>(clm n k).length) ks (xs.drop st)).map (mkA kd)),s',a',b'])
 | [],st,acc,a,b,_,_,_=>⟨.val (.int (st:Int)),a,b,by rw[loop];simp[sS]⟩
 | k::r,st,acc,a,b,h,hl,hz=>by
  rw[Vo,Qi] at hl;rw[Ql] at hz;have ick:=h k Qf;have cl:=iF 10 k (fW ick (by omega)) (by rw[dU ick (show n<=10 by omega)];omega)
  rw[dU ick (show n<=10 by omega)] at cl;obtain⟨s',a',b',e⟩:=zDU (d:=d) (kd:=kd) (xs:=xs) hn r (st+(clm n k).length) (acc++[mkA kd ((xs.drop st).take (clm n k).length)]) (.val k) (.val (.int ((st+(clm n k).length:Nat):Int))) (fun x hx=>h x (Qe _ hx)) (by omega) (by rw[Qi,Xl];omega)
  refine⟨s',a',b',?_⟩
  rw[fB (ρ1:=[.val d,.val (mkA kd xs),.own acc,.val (.int (st:Int)),.val k,b]) (ρ2:=[.val d,.val (mkA kd xs),.own (acc++[mkA kd ((xs.drop st).take (clm n k).length)]),.val (.int ((st+(clm n k).length:Nat):Int)),.val k,.val (.int ((st+(clm n k).length:Nat):Int))]) rfl,e]
  ·rw[sS,Qj,Vp,List.drop_drop];rfl
  ·symm
   rw[cl];symm;rw[<-Xq,zNM];symm;rw[if_pos (by omega)];symm
theorem pD{n:Nat}{w:Str}{x:D}{ks:List D}{kd:Bool}{xs:List Rat}(hw:(w == "boat")=false)(hn:n<=8)(hk:∀ k∈ks,IsC n k)(hl:(ks.flatMap (clm n)).length<=12):
  fZ [.tup [.str w,x,.tup ks],mkA kd xs]=.ok (.f ((sS (fun k=>(clm n k).length) ks xs).map (mkA kd))):=by
 have kl:=lV hk;obtain⟨s',a',b',e⟩:=zDU (d:=.tup [.str w,x,.tup ks]) (kd:=kd) (xs:=xs) hn ks 0 [] .un .un hk hl (by rw[Yf];omega)
 unfold fZ;symm;rw[cM hw];symm;rw[show(0:Int)=((0:Nat):Int) from rfl,e];rfl
theorem zCY{kd:Bool}{ps:List (List Rat)}{i:Nat}(h:i<ps.length):oIx (.lst (ps.map (mkA kd))) (.int (i:Int))=.ok (mkA kd (ps.getD i [])):=
 nE (Va i) (by rw[Vc,Qq,Qk h];rfl)
theorem zIu{kd:Bool}{xs:List Rat}{m n:Nat}(hp:∀ j,Sz m (xs.take j).sum)(hx:∀ x∈xs,Sz n x)(h:m+n<=8999):kM [mkA kd xs]=.ok (.v (dq xs.sum)):=by
 unfold kM;symm;rw[zLm];symm;rw[show dq 0=dq ((xs.take 0).sum) from rfl];refine hZ (Q:=fun r=>r.bind fin=.ok (.v (dq xs.sum))) (k:=zAQ zAk) (fun i ρ=>∃ a,ρ=[.val (mkA kd xs),.val (dq ((xs.take i).sum)),a]) ⟨_,rfl⟩ ?_ ?_
 ·rintro i d ρ hd ⟨a,rfl⟩
  have hi:i<xs.length:=by have:=(Q2.mp hd).1;rwa [Qd] at this
  rw[Qr,Qk hi] at hd;cases hd;refine⟨[.val (mkA kd xs),.val (dq ((xs.take (i+1)).sum)),.val (dq xs[i])],?_,_,rfl⟩
  have e:(xs.take (i+1)).sum=(xs.take i).sum+xs[i]:=by
   rw[Yd,Qk hi];show(xs.take i++[xs[i]]).sum=_
   rw[dO,Qm,Vn,Xt]
  symm;rw[wJ (hp i) (hx _ (Vs hi)) h,e];symm
 ·rintro ρ ⟨a,rfl⟩
  rw[Qd,Xa];rfl
theorem Dn.szA{B c:Int}{x:Rat}{a b:Nat}(h:Dn B x)(hB:0<B)(hb:B<2^b)(h0:-(c:Rat)<=x)(h1:x<=(c:Rat))(hc:c<2^a):Sz (a+b) x:=by
 by_cases z:0<=x
 ·exact h.sz hB hb z h1 hc
 ·have hn:Dn B (-x):=by
   obtain⟨k,e⟩:=h;exact⟨-k,by rw[Rat.neg_mul,e,Rat.intCast_neg]⟩
  have s:=hn.sz hB hb (by grind) (by grind) hc (c:=c)
  have e1:(-x).num=-x.num:=rfl;have e2:(-x).den=x.den:=rfl;refine⟨?_,?_⟩
  ·have:=s.1;rw[e1,Int.natAbs_neg] at this;exact this
  ·have:=s.2;rw[e2] at this;exact this
structure Am (b:Nat) (xs:List Rat):Prop where
 len:xs.length<=12
 dn:∃ B:Int,0<B/\B<2^b/\∀ x∈xs,Dn B x
 bd:∀ x∈xs,-(2^36:Int)<=x/\x<=(2^36:Int)
theorem Am.sub{b:Nat}{xs ys:List Rat}(h:Am b xs)(hl:ys.length<=12)(hs:∀ y∈ys,y∈xs):Am b ys:=by
 obtain⟨B,b0,b1,b2⟩:=h.dn;exact⟨hl,⟨B,b0,b1,fun x hx=>b2 x (hs x hx)⟩,fun x hx=>h.bd x (hs x hx)⟩
theorem zCA{B:Int}:∀ {xs:List Rat},(∀ x∈xs,Dn B x)->Dn B xs.sum
 | [],_=>Dn.zero B
 | x::r,h=>by rw[Qm];exact(h x Qf).add (zCA fun y hy=>h y (Qe _ hy))
theorem zGB{c:Int}:∀ {xs:List Rat},(∀ x∈xs,-(c:Rat)<=x/\x<=(c:Rat))->-(((xs.length*c:Int):Rat))<=xs.sum/\xs.sum<=((xs.length*c:Int):Rat)
 | [],_=>by
  have e:((([]:List Rat).length*c:Int):Rat)=0:=by rw[Yf];simp
  rw[e,Vn];constructor<;>grind
 | x::r,h=>by
  have a:=h x Qf;have b:=zGB fun y hy=>h y (Qe _ hy)
  have e:(((x::r).length*c:Int):Rat)=((r.length*c:Int):Rat)+(c:Rat):=by
   rw[Ql,Int.natCast_succ,X1,Uw,Q6]
  rw[e,Qm];constructor<;>grind
theorem Am.sum{b:Nat}{xs:List Rat}(h:Am b xs):Sz (41+b) xs.sum/\-(2^40:Int)<=xs.sum/\xs.sum<=(2^40:Int)/\∀ B,(∀ x∈xs,Dn B x)->Dn B xs.sum:=by
 obtain⟨B,b0,b1,b2⟩:=h.dn;have s:=zGB (c:=2^36) h.bd;have l:=h.len;have e:((xs.length*2^36:Int):Rat)<=((2^40:Int):Rat):=Vm.mpr (by omega)
 have u:-(2^40:Int)<=xs.sum:=by grind
 have v:xs.sum<=(2^40:Int):=by grind
 exact⟨(zCA b2).szA b0 b1 (c:=2^40) u v (by decide),u,v,fun B h=>zCA h⟩
theorem Am.each{b:Nat}{xs:List Rat}(h:Am b xs){x:Rat}(hx:x∈xs):Sz (37+b) x:=by
 obtain⟨B,b0,b1,b2⟩:=h.dn;exact(b2 x hx).szA b0 b1 (c:=2^36) (h.bd x hx).1 (h.bd x hx).2 (by decide)
theorem Am.take{b:Nat}{xs:List Rat}(h:Am b xs)(j:Nat):Am b (xs.take j):=h.sub (by rw[Xd];have:=h.len;omega) fun y hy=>Uf hy
theorem Am.tot{b:Nat}{kd:Bool}{xs:List Rat}(h:Am b xs)(hb:b<=4000):kM [mkA kd xs]=.ok (.v (dq xs.sum)):=zIu (m:=41+b) (n:=37+b) (fun j=>(h.take j).sum.1) (fun _ hx=>h.each hx) (by omega)
theorem zDh{w:Wy}{ws cs:List Int}{wd cd:D}(sw:Sq wd ws)(sc:Sq cd cs){q:Rat}{m:Nat}(hm:m<=5000)(hw:w.due ws cs)(hc:Cl cs)(zq:Sz m q)(hb:q<0∨(cs.sum:Rat)<q):jH [.str w.s,wd,cd,dq q]=.err "Outside" := by
 have sm:=hc.sum;unfold jH;symm;rw[zDZ sw sc hw hc];symm;rw[sc.sum];symm;rw[cB];symm;rw[zGC zq (n:=120) ⟨by show cs.sum.natAbs<2^120;omega,by show 1<2^120;decide⟩ (by omega) hb];symm
theorem zJF(a b:Rat):eqD (dq a) (dq b)=decide (a=b):=eq_dq a b
theorem zOc{a b c d:Rat}:oNe (.lst [dq a,dq b]) (.lst [dq c,dq d])=.ok (.bl (!(decide (a=c) && decide (b=d)))):=by
 unfold oNe;rw[if_pos (by simp only[dep,depS,dep_dq];decide)];show Res.ok (D.bl (!(eqD (dq a) (dq c) && (eqD (dq b) (dq d) && wP [] []))))=_
 rw[zJF,zJF];show Res.ok (D.bl (!(decide (a=c) && (decide (b=d) && true))))=_
 rw[Ua]
def two(ws:List Int)(i j:Nat):List Int:=if ws=[] then [] else [ws.getD i 0,ws.getD j 0]
def pcs(n:Nat)(ks:List D)(xs:List Rat):List (List Rat):=sS (fun k=>(clm n k).length) ks xs
def Rt2(v:Wy)(ws:List Int)(cs:List Int)(i j:Nat)(a b:Rat):Prop:=0<=a+b/\a+b<=cR cs i+cR cs j/\∃(M:Nat)(f:Nat->Rat),Al M (two ws i j) [cs.getD i 0,cs.getD j 0] (a+b) f v/\f 0=a/\f 1=b
theorem zGK{v:Wy}{ws cs:List Int}{i j:Nat}(h:v.due ws cs)(hi:i<cs.length)(hj:j<cs.length):v.due (two ws i j) [cs.getD i 0,cs.getD j 0]:=by
 have wt:Wt ws cs->Wt (two ws i j) [cs.getD i 0,cs.getD j 0]:=fun w=>by
  have ne:ws≠[]:=fun z=>by have:=w.len;rw[z] at this;simp at this;omega
  unfold two;rw[if_neg ne];have li:i<ws.length:=by rw[w.len];exact hi
  have lj:j<ws.length:=by rw[w.len];exact hj
  refine⟨rfl,fun x hx=>?_,fun x hx=>?_⟩
  ·simp only[Qc,Q8,or_false] at hx
   rcases hx with rfl | rfl
   ·exact w.lo _ (Qg (aU li))
   ·exact w.lo _ (Qg (aU lj))
  ·simp only[Qc,Q8,or_false] at hx
   rcases hx with rfl | rfl
   ·exact w.up _ (Qg (aU li))
   ·exact w.up _ (Qg (aU lj))
 have nl:ws=[]->two ws i j=[]:=fun z=>if_pos z
 cases v with
 | even=>exact wt h
 | lack=>exact wt h
 | row=>exact nl h
 | back=>exact nl h
 | part=>exact nl h
 | half=>exact nl h
def Al2(v:Wy)(ws:List Int)(cs:List Int)(i j:Nat)(a b:Rat)(r:Bool):Prop:=0<=a+b->a+b<=cR cs i+cR cs j->(∀(M:Nat)(g:Nat->Rat),Al M (two ws i j) [cs.getD i 0,cs.getD j 0] (a+b) g v->g 0=a/\g 1=b)->r=false
theorem zCm{n:Nat}{kd:Bool}{v:Wy}{ws:List Int}{ks:List D}{xs:List Rat}{i j b:Nat}(g:Gc (n+1) (.tup [.str v.s,.tup (ws.map D.int),.tup ks]))(hn:n<=8)(hk:∀ k∈ks,IsC n k)(k0:0<ks.length)(due:v.due ws (kcl n ks))(am:Am b xs)(hb:b<=1200)(hi:i<ks.length)(hj:j<ks.length):
  ∃ r:Bool,fO [.tup [.str v.s,.tup (ws.map D.int),.tup ks],mkA kd xs,.int (i:Int),.int (j:Int)]=.ok (.v (.bl r))/\(r=false ↔ Rt2 v ws (kcl n ks) i j ((pcs n ks xs).getD i []).sum ((pcs n ks xs).getD j []).sum)/\Al2 v ws (kcl n ks) i j ((pcs n ks xs).getD i []).sum ((pcs n ks xs).getD j []).sum r:=by
 have l12:(ks.flatMap (clm n)).length<=12:=g.2.1;have gs:=g.sum;have cl:=g.cl hk k0;have wb:=fA v;have pl:(pcs n ks xs).length=ks.length:=iZ ks xs
 have amp:∀ l,l<ks.length->Am b ((pcs n ks xs).getD l []):=fun l hl=>by
  have m:(pcs n ks xs).getD l []∈pcs n ks xs:=by
   rw[Qq,Qk (by omega)];exact Vs _
  refine am.sub ?_ fun y hy=>zA m hy
  have:∀(ks:List D)(xs:List Rat)(ys:List Rat),ys∈sS (fun k=>(clm n k).length) ks xs->ys.length<=xs.length:=by
   intro ks
   induction ks with
   | nil=>intro xs ys h;cases h
   | cons k r ih=>
    intro xs ys h;rw[sS] at h;rcases Qc.mp h with rfl | h
    ·rw[Xd];omega
    ·have:=ih _ _ h;rw[Vu] at this;omega
  have:=this _ _ _ m
  have:=am.len
  omega
 have ai:=amp i hi;have aj:=amp j hj;have kl:(kcl n ks).length=ks.length:=dR n ks
 have at':∀ l:Nat,l<ks.length->∃ k,ks[l]?=some k/\oIx (.tup ks) (.int (l:Int))=.ok k/\k∈ks/\(kcl n ks).getD l 0=(clm n k).sum:=fun l hl=>by
  have e:ks[l]?=some ks[l]:=Qk hl;refine⟨ks[l],e,?_,Vs hl,?_⟩
  ·have:=rD (f:=fun d:D=>d) (l:=ks) (i:=(l:Int)) (a:=ks[l]) (Va l) (by rw[Vc];exact e)
   rwa [Yn] at this
  ·unfold kcl
   rw[Qq,Qr,e];rfl
 obtain⟨ki,_,xi,mi,ci⟩:=at' i hi;obtain⟨kj,_,xj,mj,cj⟩:=at' j hj;have cdi:0<=(kcl n ks).getD i 0/\(kcl n ks).getD i 0<=12*10^9:=by rw[ci];exact(g.kid hk mi).sum
 have cdj:0<=(kcl n ks).getD j 0/\(kcl n ks).getD j 0<=12*10^9:=by rw[cj];exact(g.kid hk mj).sum
 have eci:=gW (hk ki mi) (by omega) (by have:=(g.kid hk mi).2.1;omega)
 have ecj:=gW (hk kj mj) (by omega) (by have:=(g.kid hk mj).2.1;omega)
 rw[<-ci] at eci;rw[<-cj] at ecj;have d2:=zGK due (by rw[kl];exact hi) (by rw[kl];exact hj)
 have c2:Cl [(kcl n ks).getD i 0,(kcl n ks).getD j 0]:=⟨fun c hc=>by
   simp only[Qc,Q8,or_false] at hc;rcases hc with rfl | rfl<;>omega,fun c hc=>by
   simp only[Qc,Q8,or_false] at hc;rcases hc with rfl | rfl<;>omega,by show 1<=2;decide,by show 2<=12;decide⟩
 have s2:([(kcl n ks).getD i 0,(kcl n ks).getD j 0]:List Int).sum=(kcl n ks).getD i 0+(kcl n ks).getD j 0:=by simp
 have sc:Sq (.lst [.int ((kcl n ks).getD i 0),.int ((kcl n ks).getD j 0)]) [(kcl n ks).getD i 0,(kcl n ks).getD j 0]:=.inl rfl
 obtain⟨wd,sw,ew⟩:∃ wd:D,Sq wd (two ws i j)/\∀(a4 a5 a6 a7 a9:Sl),gE [.val (.tup [.str v.s,.tup (ws.map D.int),.tup ks]),.val (mkA kd xs),.val (.int (i:Int)),.val (.int (j:Int)),a4,a5,a6,a7,.val (.tup (ws.map D.int)),a9]=gD [.val (.tup [.str v.s,.tup (ws.map D.int),.tup ks]),.val (mkA kd xs),.val (.int (i:Int)),.val (.int (j:Int)),a4,a5,a6,a7,.val wd,a9]:=by
  by_cases z:ws=[]
  ·refine⟨.tup [],.inr (by unfold two;rw[if_pos z];rfl),fun a4 a5 a6 a7 a9=>?_⟩
   subst z;unfold gE;generalize hK:(gD:Sv)=K;symm;rw[show decide ((0:Int)<((0:Nat):Int))=false from rfl];symm
  ·have w0:0<ws.length:=List.length_pos_iff.mpr z
   have wl:ws.length=ks.length:=by
    have wt:Wt ws (kcl n ks)->ws.length=ks.length:=fun w=>by rw[w.len,kl]
    cases v with
    | even=>exact wt due
    | lack=>exact wt due
    | row=>exact absurd due z
    | back=>exact absurd due z
    | part=>exact absurd due z
    | half=>exact absurd due z
   refine⟨.lst [.int (ws.getD i 0),.int (ws.getD j 0)],.inl (by unfold two;rw[if_neg z];rfl),fun a4 a5 a6 a7 a9=>?_⟩
   have iw:∀ l:Nat,l<ks.length->oIx (.tup (ws.map D.int)) (.int (l:Int))=.ok (.int (ws.getD l 0)):=fun l hl=>rD (Va l) (aU (by omega))
   unfold gE;generalize hK:(gD:Sv)=K;symm;rw[decide_eq_true (by omega)];symm;rw[iw i hi];symm;rw[iw j hj];symm
 have zi:=ai.sum;have zj:=aj.sum;generalize hA:((pcs n ks xs).getD i []).sum=A at zi;generalize hB:((pcs n ks xs).getD j []).sum=B' at zj;have zq:Sz (2*b+83) (A+B'):=(zi.1.add zj.1).mono (by omega)
 have ti:=ai.tot (kd:=kd) (by omega)
 have tj:=aj.tot (kd:=kd) (by omega)
 rw[hA] at ti;rw[hB] at tj
 have fin8:∃ r:Bool,(gD [.val (.tup [.str v.s,.tup (ws.map D.int),.tup ks]),.val (mkA kd xs),.val (.int (i:Int)),.val (.int (j:Int)),.val (.lst ((pcs n ks xs).map (mkA kd))),.val (.lst [dq A,dq B']),.val (.tup ks),.val (.lst [.int ((kcl n ks).getD i 0),.int ((kcl n ks).getD j 0)]),.val wd,.un]).bind fin=.ok (.v (.bl r))/\(r=false ↔ Rt2 v ws (kcl n ks) i j A B')/\Al2 v ws (kcl n ks) i j A B' r:=by
  by_cases rg:0<=A+B'/\A+B'<=cR (kcl n ks) i+cR (kcl n ks) j
  ·have hq:Haul (2*b+83) (A+B') ([(kcl n ks).getD i 0,(kcl n ks).getD j 0]:List Int).sum:=⟨rg.1,by rw[s2,Q6];exact rg.2,zq⟩
   obtain⟨f,ef,al⟩:=zGX sw sc (by omega) d2 c2 hq
   refine⟨!(decide (f 0=A) && decide (f 1=B')),?_,?_,fun _ _ h=>by obtain⟨h1,h2⟩:=h _ f al;rw[h1,h2];simp⟩
   ·symm
    rw[yU];symm;rw[show oIx (.lst [dq A,dq B']) (.int 0)=.ok (dq A) from rfl];symm;rw[show oIx (.lst [dq A,dq B']) (.int 1)=.ok (dq B') from rfl];symm;rw[wJ zi.1 zj.1 (by omega)];symm;rw[ef];symm;rw[show((List.range 2).map f).map dq=[dq (f 0),dq (f 1)] from rfl,zOc];rfl
   ·constructor
    ·intro h
     have h':(decide (f 0=A) && decide (f 1=B'))=true:=by
      cases hh:(decide (f 0=A) && decide (f 1=B')) with
      | true=>rfl
      | false=>rw[hh] at h;cases h
     rw[Vj,decide_eq_true_iff,decide_eq_true_iff] at h';exact⟨rg.1,rg.2,_,f,al,h'.1,h'.2⟩
    ·rintro⟨_,_,M,f',al',e0,e1⟩
     have o0:=zJN d2 al al' (i:=0) (by show 0<2;decide)
     have o1:=zJN d2 al al' (i:=1) (by show 1<2;decide)
     rw[o0,e0,o1,e1];simp
  ·refine⟨true,?_,?_,fun h1 h2 _=>absurd ⟨h1,h2⟩ rg⟩
   ·have hbad:A+B' < 0∨((([(kcl n ks).getD i 0,(kcl n ks).getD j 0]:List Int).sum:Int):Rat)<A+B':=by
     rw[s2,Q6];by_cases q:0<=A+B'
     ·exact .inr (Vf.mp fun z=>rg ⟨q,z⟩)
     ·exact .inl (Vf.mp q)
    symm;rw[yU];symm;rw[show oIx (.lst [dq A,dq B']) (.int 0)=.ok (dq A) from rfl];symm;rw[show oIx (.lst [dq A,dq B']) (.int 1)=.ok (dq B') from rfl];symm;rw[wJ zi.1 zj.1 (by omega)];symm;rw[zDh sw sc (by omega) d2 c2 zq hbad];symm;rw[zIv];symm
   ·constructor
    ·intro h;cases h
    ·rintro⟨r1,r2,_⟩;exact absurd ⟨r1,r2⟩ rg
 obtain⟨r,e8,hr⟩:=fin8;refine⟨r,?_,hr⟩
 unfold fO rK rN rW rT;generalize hK:(gE:Sv)=K at ew ⊢;symm;rw[pD wb hn hk l12];symm;rw[zCY (by rw[iZ];exact hi)];symm;rw[show sS (fun k=>(clm n k).length) ks xs=pcs n ks xs from rfl,ti];symm;rw[zCY (by rw[pl];exact hj)];symm;rw[tj];symm;rw[cM wb];symm;rw[xi];symm;rw[eci];symm;rw[xj];symm;rw[ecj];symm;rw[rL];symm;rw[ew];exact e8
theorem tJ{g:Gv}{b:Sv}{ds:List D}{ρ:Rho}(P:Nat->Rho->Prop)(R:Nat->Rt->Prop)(h0:P 0 ρ)
  (st:∀ i d ρ,ds[i]?=some d->P i ρ->(∃ ρ1 ρ2,g d ρ=.ok ρ1/\b ρ1=.ok (.nx ρ2)/\P (i+1) ρ2)∨∃ ρ1 r,g d ρ=.ok ρ1/\b ρ1=.ok (.ret r)/\R i r):
  (∃ ρ',loop g b ds ρ=.ok (.nx ρ')/\P ds.length ρ')∨∃ i r,i<ds.length/\loop g b ds ρ=.ok (.ret r)/\R i r:=by
 suffices h:∀(ds:List D)(j:Nat)(ρ:Rho),P j ρ->(∀ i d ρ,ds[i]?=some d->P (j+i) ρ->(∃ ρ1 ρ2,g d ρ=.ok ρ1/\b ρ1=.ok (.nx ρ2)/\P (j+i+1) ρ2)∨∃ ρ1 r,g d ρ=.ok ρ1/\b ρ1=.ok (.ret r)/\R (j+i) r)->(∃ ρ',loop g b ds ρ=.ok (.nx ρ')/\P (j+ds.length) ρ')∨∃ i r,i<ds.length/\loop g b ds ρ=.ok (.ret r)/\R (j+i) r by
  have:=h ds 0 ρ h0 (fun i d ρ hd hp=>by rw[Q5] at hp ⊢;exact st i d ρ hd hp)
  rw[Q5] at this;rcases this with h | ⟨i,r,h1,h2,h3⟩
  ·exact .inl h
  ·exact .inr ⟨i,r,h1,h2,by rw[Q5] at h3;exact h3⟩
 intro ds
 induction ds with
 | nil=>intro j ρ hp _;exact .inl ⟨ρ,rfl,hp⟩
 | cons d ds ih=>
  intro j ρ hp st;rcases st 0 d ρ rfl hp with⟨ρ1,ρ2,e1,e2,hp2⟩ | ⟨ρ1,r,e1,e2,hr⟩
  ·rw[fB e1 e2]
   rcases ih (j+1) ρ2 hp2 (fun i d' ρ' hd hp=>by
    have:=st (i+1) d' ρ' (by simpa using hd) (by rw[show j+(i+1)=j+1+i by omega];exact hp)
    rw[show j+(i+1)=j+1+i by omega] at this
    exact this) with⟨ρ',h1,h2⟩ | ⟨i,r,h1,h2,h3⟩
   ·exact .inl ⟨ρ',h1,by rw[Ql,show j+(ds.length+1)=j+1+ds.length by omega];exact h2⟩
   ·exact .inr ⟨i+1,r,by rw[Ql];omega,h2,by rw[show j+(i+1)=j+1+i by omega];exact h3⟩
  ·exact .inr ⟨0,r,Yw _,zHp e1 e2,hr⟩
def sK(n:Nat)(ks:List D)(xs:List Rat)(l:Nat):Rat:=((pcs n ks xs).getD l []).sum
def Rt3(n:Nat)(v:Wy)(ws:List Int)(ks:List D)(xs:List Rat)(i j:Nat):Prop:=Rt2 v ws (kcl n ks) i j (sK n ks xs i) (sK n ks xs j)
def dX(P:List D)(i j:Nat):D:=.tup [.str "pair", .tup P,.int (i:Int),.int (j:Int)]
theorem wT{n:Nat}{kd:Bool}{v:Wy}{ws:List Int}{ks P:List D}{xs:List Rat}{b:Nat}(g:Gc (n+1) (.tup [.str v.s,.tup (ws.map D.int),.tup ks]))(hn:n<=8)(hk:∀ k∈ks,IsC n k)(k0:0<ks.length)(due:v.due ws (kcl n ks))(am:Am b xs)(hb:b<=1200):
  (eN [.tup [.str v.s,.tup (ws.map D.int),.tup ks],mkA kd xs,.tup P]=.ok (.v .non)/\∀ i j,i<j->j<ks.length->Rt3 n v ws ks xs i j)∨
  ∃ i j,i<j/\j<ks.length/\eN [.tup [.str v.s,.tup (ws.map D.int),.tup ks],mkA kd xs,.tup P]=.ok (.v (dX P i j))/\¬ Rt3 n v ws ks xs i j/\∀ i' j',i' < j'->j' < ks.length->(i' < i∨i'=i/\j' < j)->Rt3 n v ws ks xs i' j':=by
 have kl:=lV hk;have l12:(ks.flatMap (clm n)).length<=12:=g.2.1;generalize hd:D.tup [.str v.s,.tup (ws.map D.int),.tup ks]=d at g ⊢;have wr:=fun(i j:Nat) (hi:i<ks.length) (hj:j<ks.length)=>zCm (kd:=kd) (i:=i) (j:=j) (by rw[hd];exact g) hn hk k0 due am hb hi hj
 rw[hd] at wr
 have head:∀ r:Res Fl,(eN [d,mkA kd xs,.tup P]=((loop (gName 4) eT (rng 0 ks.length 1) [.val d,.val (mkA kd xs),.val (.tup P),.val (.int (ks.length:Int)),.un,.un]).bind (zAQ rV)).bind fin):=fun _=>by
  rw[<-hd];unfold eN;symm;rw[cM (fA v)];symm;rw[uU (by omega) (by omega),Vc];symm
 have inner:∀(i:Nat)(a5:Sl),i<ks.length->(∃ a5',eT [.val d,.val (mkA kd xs),.val (.tup P),.val (.int (ks.length:Int)),.val (.int (i:Int)),a5]=.ok (.nx [.val d,.val (mkA kd xs),.val (.tup P),.val (.int (ks.length:Int)),.val (.int (i:Int)),a5'])/\∀ j,i<j->j<ks.length->Rt3 n v ws ks xs i j)∨
   ∃ j,i<j/\j<ks.length/\eT [.val d,.val (mkA kd xs),.val (.tup P),.val (.int (ks.length:Int)),.val (.int (i:Int)),a5]=.ok (.ret (.v (dX P i j)))/\¬ Rt3 n v ws ks xs i j/\∀ j',i<j'->j' < j->Rt3 n v ws ks xs i j':=by
  intro i a5 hi
  have e:eT [.val d,.val (mkA kd xs),.val (.tup P),.val (.int (ks.length:Int)),.val (.int (i:Int)),a5]=loop (gName 5) lM (rng ((i:Int)+1) ((ks.length:Int)-((i:Int)+1)).toNat 1) [.val d,.val (mkA kd xs),.val (.tup P),.val (.int (ks.length:Int)),.val (.int (i:Int)),a5]:=by
   symm;rw[zHA (by omega) (by omega) (by omega) (by omega)];symm
  rw[e];have ll:(rng ((i:Int)+1) ((ks.length:Int)-((i:Int)+1)).toNat 1).length=ks.length-(i+1):=by unfold rng;rw[Qd,Qu];omega
  rcases tJ (g:=gName 5) (b:=lM) (ds:=rng ((i:Int)+1) ((ks.length:Int)-((i:Int)+1)).toNat 1) (ρ:=[.val d,.val (mkA kd xs),.val (.tup P),.val (.int (ks.length:Int)),.val (.int (i:Int)),a5])
   (fun l ρ=>∃ a5',ρ=[.val d,.val (mkA kd xs),.val (.tup P),.val (.int (ks.length:Int)),.val (.int (i:Int)),a5']/\∀ j,i<j->j<i+1+l->Rt3 n v ws ks xs i j)
   (fun l r=>r=.v (dX P i (i+1+l))/\¬ Rt3 n v ws ks xs i (i+1+l)/\∀ j',i<j'->j' < i+1+l->Rt3 n v ws ks xs i j') ⟨_,rfl,fun j h1 h2=>absurd h1 (by omega)⟩ (by
   rintro l e ρ he ⟨a5',rfl,hp⟩
   obtain⟨hl,rfl⟩:=wG he;have lj:i+1+l<ks.length:=by omega
   obtain⟨r,er,hr,_⟩:=wr i (i+1+l) hi lj;rw[show((i:Int)+1)+(l:Int)*1=((i+1+l:Nat):Int) by omega]
   cases r with
   | false=>
    refine .inl ⟨[.val d,.val (mkA kd xs),.val (.tup P),.val (.int (ks.length:Int)),.val (.int (i:Int)),.val (.int ((i+1+l:Nat):Int))],[.val d,.val (mkA kd xs),.val (.tup P),.val (.int (ks.length:Int)),.val (.int (i:Int)),.val (.int ((i+1+l:Nat):Int))],rfl,?_,_,rfl,fun j h1 h2=>?_⟩
    rotate_left
    ·rcases X5 (show j<=i+1+l by omega) with z | z
     ·exact hp j h1 z
     ·rw[z];exact hr.mp rfl
    ·symm
     rw[er];symm
   | true=>
    refine .inr ⟨[.val d,.val (mkA kd xs),.val (.tup P),.val (.int (ks.length:Int)),.val (.int (i:Int)),.val (.int ((i+1+l:Nat):Int))],_,rfl,?_,rfl,fun z=>(by have:=hr.mpr z;cases this),hp⟩
    symm;rw[er];symm
    rfl) with⟨ρ',e',a5',rfl,hp⟩ | ⟨l,r,hl,e',rfl,h1,h2⟩
  ·exact .inl ⟨a5',e',fun j h1 h2=>hp j h1 (by rw[ll];omega)⟩
  ·rw[ll] at hl
   exact .inr ⟨i+1+l,by omega,by omega,e',h1,h2⟩
 rw[head .no];have ll:(rng 0 ks.length 1).length=ks.length:=by unfold rng;rw[Qd,Qu]
 rcases tJ (g:=gName 4) (b:=eT) (ds:=rng 0 ks.length 1) (ρ:=[.val d,.val (mkA kd xs),.val (.tup P),.val (.int (ks.length:Int)),.un,.un])
  (fun l ρ=>∃ a4 a5,ρ=[.val d,.val (mkA kd xs),.val (.tup P),.val (.int (ks.length:Int)),a4,a5]/\∀ i j,i<j->j<ks.length->i<l->Rt3 n v ws ks xs i j)
  (fun l r=>∃ j,l<j/\j<ks.length/\r=.v (dX P l j)/\¬ Rt3 n v ws ks xs l j/\(∀ j',l<j'->j' < j->Rt3 n v ws ks xs l j')/\∀ i j,i<j->j<ks.length->i<l->Rt3 n v ws ks xs i j) ⟨_,_,rfl,fun i j _ _ h=>absurd h (Yp _)⟩ (by
  rintro l e ρ he ⟨a4,a5,rfl,hp⟩
  obtain⟨hl,rfl⟩:=wG he;rw[show(0:Int)+(l:Int)*1=(l:Int) by omega];rcases inner l a5 hl with⟨a5',e1,h1⟩ | ⟨j,j1,j2,e1,h1,h2⟩
  ·refine .inl ⟨_,_,rfl,e1,_,_,rfl,fun i j hij hj hi=>?_⟩
   rcases X5 (show i<=l by omega) with z | z
   ·exact hp i j hij hj z
   ·subst z;exact h1 j hij hj
  ·exact .inr ⟨_,_,rfl,e1,j,j1,j2,rfl,h1,h2,hp⟩) with⟨ρ',e',a4,a5,rfl,hp⟩ | ⟨l,r,hl,e',j,j1,j2,rfl,h1,h2,h3⟩
 ·rw[e']
  refine .inl ⟨rfl,fun i j hij hj=>hp i j hij hj (by rw[ll];omega)⟩
 ·rw[e']
  refine .inr ⟨l,j,j1,j2,rfl,h1,fun i' j' a b c=>?_⟩
  rcases c with c | ⟨rfl,c⟩
  ·exact h3 i' j' a b c
  ·exact h2 j' a c
def AR:Nat->D->List Rat->Prop
 | 0,_,_=>True
 | n+1,d,xs=>∀(v:Wy)(ws:List Int)(ks:List D),d=.tup [.str v.s,.tup (ws.map D.int),.tup ks]->(∀ i j,i<j->j<ks.length->Rt3 n v ws ks xs i j)/\∀ l k,ks[l]?=some k->AR n k ((pcs n ks xs).getD l [])
theorem Am.pc{b n:Nat}{ks:List D}{xs:List Rat}(am:Am b xs)(l:Nat):Am b ((pcs n ks xs).getD l []):=by
 have hl:∀(ks:List D)(xs:List Rat)(ys:List Rat),ys∈sS (fun k=>(clm n k).length) ks xs->ys.length<=xs.length:=by
  intro ks
  induction ks with
  | nil=>intro xs ys h;cases h
  | cons k r ih=>
   intro xs ys h;rw[sS] at h;rcases Qc.mp h with rfl | h
   ·rw[Xd];omega
   ·have:=ih _ _ h;rw[Vu] at this;omega
 by_cases c:l<(pcs n ks xs).length
 ·have m:(pcs n ks xs).getD l []∈pcs n ks xs:=by
   rw[Qq,Qk c];exact Vs _
  refine am.sub ?_ fun y hy=>zA m hy
  have:=hl _ _ _ m
  have:=am.len
  omega
 ·rw[Qq,Qz (by omega)]
  exact am.sub (by show 0<=12;decide) fun y hy=>by cases hy
theorem zJL{v v':Wy}(h:v.s=v'.s):v=v':=by cases v<;>cases v'<;>first | rfl | exact absurd h (by decide)
theorem tR:∀ {a b:List Int},a.map D.int=b.map D.int->a=b
 | [],[],_=>rfl
 | x::a,y::b,h=>by
  rw[Qj,Qj] at h;injection h with h1 h2
  injection h1 with h1
  rw[h1,tR h2]
theorem lN{n:Nat}{v:Wy}{ws:List Int}{ks:List D}{xs:List Rat}:AR (n+1) (.tup [.str v.s,.tup (ws.map D.int),.tup ks]) xs ↔ (∀ i j,i<j->j<ks.length->Rt3 n v ws ks xs i j)/\∀ l k,ks[l]?=some k->AR n k ((pcs n ks xs).getD l []):=by
 constructor
 ·intro h;exact h v ws ks rfl
 ·intro h v' ws' ks' e
  simp only[D.tup.injEq,Xu,and_true,D.str.injEq] at e;obtain⟨e1,e2,rfl⟩:=e;have:=zJL e1
  have:=tR e2
  subst_vars
  exact h
theorem zAG{kd:Bool}{b:Nat}(hb:b<=1200):∀(n N:Nat)(d:D)(xs:List Rat)(P:List Int),Gc n d->n<=N->n<=9->Am b xs->P.length+n<=1000->
  (aQ N [d,mkA kd xs,.tup (P.map D.int)]=.ok (.v .non)/\AR n d xs)∨∃(Q:List Int)(i j:Nat),aQ N [d,mkA kd xs,.tup (P.map D.int)]=.ok (.v (dX (Q.map D.int) i j))/\¬ AR n d xs
 | 0,_,_,_,_,g,_,_,_,_=>g.1.elim
 | n+1,0,_,_,_,_,h,_,_,_=>absurd h (by omega)
 | n+1,N+1,d,xs,P,g,hN,h9,am,hP=>by
  rcases g.1 with⟨c,rfl⟩ | ⟨w,ws,ks,rfl,hw,k0,k1,w1,hy,hk⟩
  ·refine .inl ⟨?_,fun v ws ks e=>by simp at e⟩
   show bE (aQ N) _=_
   unfold bE;symm;rw[jP];symm
  ·obtain⟨v,rfl⟩:=zES hy.1
   have due:v.due ws (kcl n ks):=zAN (by rw[dR];exact hy.2)
   have l12:(ks.flatMap (clm n)).length<=12:=g.2.1;have kl:=lV hk;have pl:(pcs n ks xs).length=ks.length:=iZ ks xs;show(bE (aQ N) _=_/\_)∨∃(Q:List Int)(i j:Nat),bE (aQ N) _=_/\_
   rcases wT (kd:=kd) (P:=P.map D.int) g (by omega) hk k0 due am hb with⟨eo,ho⟩ | ⟨i,j,ij,jk,eo,no,_⟩
   ·have gk0:=fun k (mk:k∈ks)=>g.kid (n:=n) hk mk
    generalize hd:D.tup [.str v.s,.tup (ws.map D.int),.tup ks]=d at *
    have lp:=tJ (g:=zBc (fH (gName 5) (fH (gName 6) zAx))) (b:=eE (aQ N)) (ds:=jV 0 ks) (ρ:=[.val d,.val (mkA kd xs),.val (.tup (P.map D.int)),.val .non,.val (.lst ((pcs n ks xs).map (mkA kd))),.un,.un])
     (fun l ρ=>∃ a3 a5 a6,ρ=[.val d,.val (mkA kd xs),.val (.tup (P.map D.int)),a3,.val (.lst ((pcs n ks xs).map (mkA kd))),a5,a6]/\∀ l' k,l' < l->ks[l']?=some k->AR n k ((pcs n ks xs).getD l' []))
     (fun l r=>∃(Q:List Int)(i j:Nat)(k:D),r=.v (dX (Q.map D.int) i j)/\ks[l]?=some k/\¬ AR n k ((pcs n ks xs).getD l [])) ⟨_,_,_,rfl,fun l' k h=>absurd h (Yp _)⟩ (by
     rintro l e ρ he ⟨a3,a5,a6,rfl,hp⟩
     obtain⟨k,hk',rfl⟩:=sR he;have hl:l<ks.length:=(Q2.mp hk').1;have mk:k∈ks:=Qg hk';rw[Q5]
     have ap:nZ (.tup (P.map D.int)) (.tup [.int (l:Int)])=.ok (.tup ((P++[(l:Int)]).map D.int)):=by
      rw[Qw];exact if_pos (by rw[Qd];show P.length+1<=16777216;omega)
     have gk:=gk0 k mk;rcases zAG hb n N k ((pcs n ks xs).getD l []) (P++[(l:Int)]) gk (by omega) (by omega) (am.pc l) (by rw[Qi,Xl];omega) with⟨er,ar⟩ | ⟨Q,i,j,er,nr⟩
     ·refine .inl ⟨[.val d,.val (mkA kd xs),.val (.tup (P.map D.int)),a3,.val (.lst ((pcs n ks xs).map (mkA kd))),.val (.int (l:Int)),.val k],[.val d,.val (mkA kd xs),.val (.tup (P.map D.int)),.val .non,.val (.lst ((pcs n ks xs).map (mkA kd))),.val (.int (l:Int)),.val k],?_,?_,_,_,_,rfl,fun l' k' h1 h2=>?_⟩
      ·symm
      ·symm
       rw[zCY (by omega)];symm;rw[ap];symm;rw[er];symm
      ·rcases X5 (show l'<=l by omega) with z | z
       ·exact hp l' k' z h2
       ·subst z;rw[hk'] at h2;cases h2;exact ar
     ·refine .inr ⟨[.val d,.val (mkA kd xs),.val (.tup (P.map D.int)),a3,.val (.lst ((pcs n ks xs).map (mkA kd))),.val (.int (l:Int)),.val k],_,?_,?_,Q,i,j,k,rfl,hk',nr⟩
      ·symm
      ·symm
       rw[zCY (by omega)];symm;rw[ap];symm;rw[er];symm;unfold dX
       symm)
    have head:bE (aQ N) [d,mkA kd xs,.tup (P.map D.int)]=((loop (zBc (fH (gName 5) (fH (gName 6) zAx))) (eE (aQ N)) (jV 0 ks) [.val d,.val (mkA kd xs),.val (.tup (P.map D.int)),.val .non,.val (.lst ((pcs n ks xs).map (mkA kd))),.un,.un]).bind (zAQ (hJ (aQ N)))).bind fin:=by
     unfold bE;symm;rw[<-hd,fS (fA v),hd];symm;rw[eo];symm;rw[<-hd,pD (fA v) (by omega) hk l12,hd];symm;rw[<-hd,cM (fA v),hd];symm;rfl
    rw[head];rcases lp with⟨ρ',e',a3,a5,a6,rfl,hp⟩ | ⟨l,r,hl,e',Q,i,j,k,rfl,hk',nr⟩
    ·rw[e']
     refine .inl ⟨rfl,?_⟩
     rw[<-hd,lN];refine⟨ho,fun l k h=>hp l k ?_ h⟩
     rw[pJ];exact(Q2.mp h).1
    ·rw[e']
     refine .inr ⟨Q,i,j,rfl,fun z=>nr ?_⟩
     rw[<-hd,lN] at z;exact z.2 l k hk'
   ·refine .inr ⟨P,i,j,?_,fun z=>no ((lN.mp z).1 i j ij jk)⟩
    unfold bE;symm;rw[fS (fA v)];symm;rw[eo];symm;unfold dX;symm
theorem qJ{n:Nat}{d:D}(g:Gc n d)(hn:n<=10):bF 10 [d]=.ok (.f ((clm n d).map D.int)):=by
 have:=iF 10 d (fW g.1 hn) (by rw[dU g.1 hn];have:=g.2.1;omega)
 rwa [dU g.1 hn] at this
theorem zDB{n:Nat}{d:D}{kd:Bool}{xs:List Rat}(g:Gc n d)(hn:n<=10):bY [d,mkA kd xs]=if xs.length=(clm n d).length then .ok (.v .non) else .err "Unlike" := by
 unfold bY;symm;rw[zLu];symm;rw[qJ g hn];symm;by_cases c:xs.length=(clm n d).length
 ·rw[if_pos c,c]
  symm
 ·rw[if_neg c,decide_eq_false (by omega)]
  symm
def Wi(cs:List Int)(xs:List Rat):Prop:=∀ i,i<cs.length->0<=xs.getD i 0/\xs.getD i 0<=cR cs i
theorem zFc{n b:Nat}{d:D}{kd:Bool}{xs:List Rat}{q:Rat}{m:Nat}(g:Gc n d)(hn:n<=9)(zq:Sz m q)(hm:m+34*n<=2000)(hl:xs.length<=100000):
  ∃ r:Bool,fT [d,mkA kd xs,dq q]=.ok (.v (.bl r))/\(r=true ↔ 0<=q/\q<=((clm n d).sum:Rat)/\Sh n d q xs):=by
 have gs:=g.sum;have io:=pS zq (n:=34) (l:=(((clm n d).sum:Int):Rat)) ⟨by show((clm n d).sum).natAbs<2^34;omega,by show 1<2^34;decide⟩ (by omega)
 by_cases c:0<=q/\q<=((clm n d).sum:Rat)
 ·obtain⟨ys,ey,sy⟩:=zDI (m:=m) g hn c.1 c.2 (by have:=zq.2;exact_mod_cast this) hm
  have el:zEg [mkA kd xs]=.ok (xs.map dq):=by cases kd<;>rfl
  have ee:∃ r:Bool,oEq (.lst (ys.map dq)) (.lst (xs.map dq))=.ok (.bl r)/\(r=true ↔ ys=xs):=by
   refine⟨decide (ys=xs),?_,by rw[decide_eq_true_iff]⟩
   have:∀ a b:List Rat,wP (a.map dq) (b.map dq)=decide (a=b):=by
    intro a
    induction a with
    | nil=>intro b;cases b with
     | nil=>simp[wP]
     | cons y b=>simp[wP]
    | cons x a ih=>intro b;cases b with
     | nil=>simp[wP]
     | cons y b=>
      rw[Qj,Qj,wP,ih,eq_dq];by_cases h1:x=y<;>by_cases h2:a=b<;>simp[h1,h2]
   have dp:dep (.lst (ys.map dq))<=50:=by
    have:∀ l:List Rat,depS (l.map dq)<=10:=by
     intro l
     induction l with
     | nil=>simp[depS]
     | cons x l ih=>rw[Qj,depS,dep_dq];omega
    have:=this ys
    rw[dep];omega
   unfold oEq;rw[if_pos dp];show Res.ok (D.bl (wP (ys.map dq) (xs.map dq)))=_
   rw[this]
  obtain⟨r,er,hr⟩:=ee;refine⟨r,?_,?_⟩
  ·unfold fT
   symm;rw[gW g.1 (by omega) (by have:=g.2.1;omega)];symm;rw[cB];symm;rw[io,decide_eq_false (Vd.mpr c.1),decide_eq_false (Vd.mpr c.2)];symm;rw[ey];symm;rw[el];symm;rw[er];symm
  ·rw[hr]
   constructor
   ·rintro rfl;exact⟨c.1,c.2,sy⟩
   ·rintro⟨_,_,sx⟩
    exact zOi g sy sx
 ·refine⟨false,?_,⟨fun h=>(by cases h),fun h=>absurd ⟨h.1,h.2.1⟩ c⟩⟩
  have bad:(decide (q<0) || decide (((clm n d).sum:Rat)<q))=true:=by
   rw[Vz,decide_eq_true_iff,decide_eq_true_iff];by_cases z:0<=q
   ·exact .inr (Vf.mp fun y=>c ⟨z,y⟩)
   ·exact .inl (Vf.mp z)
  unfold fT;symm;rw[gW g.1 (by omega) (by have:=g.2.1;omega)];symm;rw[cB];symm;rw[io,bad];symm
def Clm(cs:List Int):Prop:=∀ c∈cs,0<=c/\c<=10^9
theorem zGy{n:Nat}{ks:List D}(h:∀ k∈ks,IsC n k):ks.length<=(ks.flatMap (clm n)).length:=lV h
theorem zEz{ds:List D}{m:Nat}(h0:0<m)(h:m<=ds.length):eG ds none (some (-(m:Int)))=ds.take (ds.length-m):=by
 unfold eG cut;simp only[show ¬ (0<=-(m:Int)) by omega,if_false,List.drop_zero,U6];rw[show((ds.length:Int)+-(m:Int)).toNat=ds.length-m by omega]
theorem zEn{ds:List D}{m:Nat}(h0:0<m)(h:m<=ds.length):eG ds (some (-(m:Int))) none=ds.drop (ds.length-m):=by
 unfold eG cut;simp only[show ¬ (0<=-(m:Int)) by omega,if_false];rw[show((ds.length:Int)+-(m:Int)).toNat=ds.length-m by omega,Yu (by rw[Vu];omega)]
theorem zLw{x m:Int}(h:0<m)(hm:m<=10^9+1):0<=x % m/\x % m<=10^9:=by
 have a:=Qy x (Wh h);have b:=Q9 x h;omega
theorem zCc{cell kind:Int}(h:0<=cell)(hk:0<=kind):∃ c:Int,hU [.int cell,.int kind]=.ok (.v (.int c))/\0<=c/\c<=10^9:=by
 have d0:0<=cell / 91 % 60*10^6/\cell / 91 % 60*10^6<=10^9:=by
  have a:=Qy (cell / 91) (show(60:Int)≠0 by decide)
  have b:=Q9 (cell / 91) (show(0:Int)<60 by decide)
  omega
 have i0:0<=(kind+cell % 7 / 5) % 4:=Qy _ (by decide)
 have i1:(kind+cell % 7 / 5) % 4<4:=Q9 _ (by decide)
 have hi:((kind+cell % 7 / 5) % 4).toNat < [cell / 7 % 13,cell / 7 % 4,cell / 7 % (10^9+1),cell / 91 % 60*10^6].length:=(Int.toNat_lt i0).mpr i1
 have all:∀ x∈[cell / 7 % 13,cell / 7 % 4,cell / 7 % (10^9+1),cell / 91 % 60*10^6],0<=x/\x<=10^9:=fun x hx=>by
  simp only[Qc,Q8,or_false] at hx;rcases hx with rfl | rfl | rfl | rfl
  ·exact zLw (by decide) (by decide)
  ·exact zLw (by decide) (by decide)
  ·exact zLw (by decide) (by decide)
  ·exact d0
 have ix:=nE (f:=D.int) i0 (Qk hi);have bd:=all _ (Vs hi);generalize ([cell / 7 % 13,cell / 7 % 4,cell / 7 % (10^9+1),cell / 91 % 60*10^6])[((kind+cell % 7 / 5) % 4).toNat]=c at ix bd;unfold hU;symm;rw[oMod_i (by decide),fmod_pos _ (by decide)];symm;rw[oPow_i (by decide)];symm;rw[oMul_i (okMul_litr (by decide) (by decide))];symm;refine⟨c,?_,bd⟩
 rw[show oIx (.lst [.int (cell / 7 % 13),.int (cell / 7 % 4),.int (cell / 7 % (10^9+1)),.int (cell / 91 % 60*10^6)]) (.int ((kind+cell % 7 / 5) % 4))=.ok (.int c) from ix];symm
def zPf:List Str:=[Str.ofString "even", Str.ofString "row", Str.ofString "lack", Str.ofString "half", Str.ofString "part", Str.ofString "back"]
theorem zOV{k:Int}(h0:0<=k)(h1:k<6):∃ w∈wys,oIx (.lst [.str "even", .str "row", .str "lack", .str "half", .str "part", .str "back"]) (.int k)=.ok (.str w):=by
 have hk:k.toNat<zPf.length:=(Int.toNat_lt h0).mpr h1;have all:∀ x∈zPf,x∈wys:=by decide
 exact⟨zPf[k.toNat],all _ (Vs hk),nE (f:=D.str) (l:=zPf) h0 (Qk hk)⟩
theorem fm8{n:Nat}{ks:List D}(hk:∀ k∈ks,IsC n k)(hn:n<=8):ks.flatMap (clm 8)=ks.flatMap (clm n):=by
 rw[Ug,V3 fun p hp=>dU (hk p hp) hn,<-Ug]
theorem zCq:∀ {n m:Nat} {d:D},IsC n d->n<=m->kn m d=kn n d
 | 0,_,_,h,_=>h.elim
 | n+1,0,_,_,l=>absurd l (by omega)
 | n+1,m+1,d,h,l=>by
  rcases h with⟨c,rfl⟩ | ⟨w,ws,ks,rfl,hw,k0,k1,w1,hy,hk⟩
  ·rfl
  ·show 1+(ks.map (kn m)).sum=1+(ks.map (kn n)).sum
   rw[V3 fun k hk'=>zCq (hk k hk') (by omega)]
theorem zKs{n:Nat}{ks:List D}(hk:∀ k∈ks,IsC n k)(hn:n<=7):(ks.map (kn 7)).sum=(ks.map (kn 8)).sum:=by
 rw[V3 fun k hk'=>(show kn 7 k=kn 8 k by rw[zCq (hk k hk') hn,zCq (hk k hk') (show n<=8 by omega)])]
theorem zKV{w a:D}{ks:List D}:kn 8 (.tup [w,a,.tup ks])=1+(ks.map (kn 7)).sum:=rfl
theorem zLv{c:Int}:kn 8 (.tup [.str "boat", .int c])=0:=rfl
theorem wV{cell:Int}{ks:List D}{n:Nat}(h0:0<=cell)(k0:0<ks.length)(hn:n<=7)(hk:∀ k∈ks,IsC n k)(hc:(ks.flatMap (clm 8)).length<=12):
  ∃ d,fN [.int cell,.lst ks]=.ok (.v d)/\IsC (n+1) d/\clm 8 d=ks.flatMap (clm 8)/\kn 8 d<=1+(ks.map (kn 8)).sum:=by
 rw[fm8 hk (by omega)] at hc ⊢
 have kl:=zGy hk;obtain⟨w,hw,ew⟩:=zOV (k:=cell % 6) (Qy _ (by decide)) (Q9 _ (by decide))
 have fin':∀(ws:List Int)(a4 a5 a6:Sl),wOK w ws ks.length->ws.length<=100->∃ d,(lB [.val (.int cell),.val (.lst ks),.val (.str w),.own (ws.map D.int),a4,a5,a6]).bind fin=.ok (.v d)/\IsC (n+1) d/\clm 8 d=ks.flatMap (clm n)/\kn 8 d<=1+(ks.map (kn 8)).sum:=by
  intro ws a4 a5 a6 hs hl;obtain⟨e,ic⟩:=zMD (wd:=.lst (ws.map D.int)) (.inl rfl) hw hs hl k0 (by omega) hn hk hc
  refine⟨_,?_,ic,?_,?_⟩
  rotate_left
  ·rw[dU ic (by omega)];rfl
  ·rw[zKV,zKs hk hn]
   exact Qb _
  ·symm
   rw[e];symm
 unfold fN rJ rQ;generalize hK:(lB:Sv)=K at fin';symm;rw[ew];symm;rw[zNC];by_cases iw:w = "even" ∨ w = "lack"
 ·rw[decide_eq_true iw]
  symm;have q0:0<=cell / 6 % 4:=Qy _ (by decide)
  have q1:cell / 6 % 4<4:=Q9 _ (by decide)
  rw[oPow_i (by decide)];symm
  obtain⟨most,em,m0,m1⟩:∃ most:Int,oIx (.lst [.int 3,.int 3,.int 3,.int (10^6)]) (.int (cell / 6 % 4))=.ok (.int most)/\1<=most/\most<=10^6:=by
   generalize cell / 6 % 4=k at q0 q1;rcases (show k=0∨k=1∨k=2∨k=3 by omega) with rfl | rfl | rfl | rfl<;>exact⟨_,rfl,by decide,by decide⟩
  rw[em];symm
  refine hZ (Q:=fun r=>∃ d,r.bind fin=.ok (.v d)/\IsC (n+1) d/\clm 8 d=ks.flatMap (clm n)/\kn 8 d<=1+(ks.map (kn 8)).sum) (k:=zAQ K)
   (fun i ρ=>∃(ws:List Int)(rest:Int)(a:Sl),ρ=[.val (.int cell),.val (.lst ks),.val (.str w),.own (ws.map D.int),.val (.int most),.val (.int rest),a]/\ws.length=i/\(∀ x∈ws,1<=x/\x<=10^6)/\0<=rest) ⟨[],cell / 24,.un,rfl,rfl,(fun x h=>by cases h),Uh h0 (by decide)⟩ ?_ ?_
  ·rintro i d ρ hd ⟨ws,rest,a,rfl,hl,hx,r0⟩
   have hi:=(Q2.mp hd).1;have b0:=Qy rest (show most≠0 by omega)
   have b1:=Q9 rest (show 0<most by omega)
   refine⟨_,?_,ws++[1+rest % most],rest / 3,.val d,rfl,by rw[Qi,hl];rfl,fun x hx'=>?_,Uh r0 (by decide)⟩
   ·symm
    rw[oMod_i (show most≠0 by omega),fmod_pos _ (show 0<most by omega)];symm;rw[if_pos (by omega)];symm;rw[Qw];rfl
   ·rcases V6.mp hx' with h | h
    ·exact hx x h
    ·rw[Q0.mp h];omega
  ·rintro ρ ⟨ws,rest,a,rfl,hl,hx,r0⟩
   exact fin' ws _ _ _ (.inl ⟨iw,hl,hx⟩) (by omega)
 ·rw[decide_eq_false iw]
  symm;exact fin' [] _ _ _ (.inr ⟨iw,rfl⟩) (by decide)
theorem zMm{q:Nat}{c:Int}(h:0<=c/\c<=10^9):IsC (q+1) (.tup [.str "boat", .int c])/\Clm (clm 8 (.tup [.str "boat", .int c])):=⟨.inl ⟨c,rfl⟩,fun x hx=>by rw[Q0.mp (show x∈[c] from hx)];exact h⟩
def zEv(L:List D)(q i:Nat):Prop:=(q<=5/\(L.map (kn 8)).sum<=q)/\(∀ d∈L,IsC (q+1) d/\Clm (clm 8 d))/\(L.flatMap (clm 8)).length=i
theorem zEv.len{L:List D}{q i:Nat}(h:zEv L q i):L.length<=i:=by
 have:=zGy (n:=q+1) (fun d hd=>(h.2.1 d hd).1)
 rw[<-fm8 (fun d hd=>(h.2.1 d hd).1) (by have:=h.1;omega),h.2.2] at this;exact this
theorem zEv.boat{L:List D}{q i:Nat}{c:Int}(h:zEv L q i)(hc:0<=c/\c<=10^9):zEv (L++[.tup [.str "boat", .int c]]) q (i+1):=by
 refine⟨⟨h.1.1,by rw[Qw,V4,Qj,Vq,Qm,Vn,zLv];exact h.1.2⟩,fun d hd=>?_,?_⟩
 ·rcases V6.mp hd with hd | hd
  ·exact h.2.1 d hd
  ·rw[Q0.mp hd];exact zMm hc
 ·rw[Vr,Qi,h.2.2];rfl
theorem zEv.noL{L:List D}{q i:Nat}(h:zEv L q i):∀ d∈L,noL d=true:=fun d hd=>zCz _ _ (zFL _ _ (h.2.1 d hd).1)
theorem zEv.knot{L:List D}{q i m:Nat}{d:D}(h:zEv L q i)(hq:q<5)(hd:IsC (q+2) d)(hc:clm 8 d=(L.drop m).flatMap (clm 8))(hkn:kn 8 d<=1+((L.drop m).map (kn 8)).sum):zEv (L.take m++[d]) (q+1) i:=by
 refine⟨⟨by omega,by
  have e:=h.1.2;rw[<-Ym m L,Qw,V4] at e;rw[Qw,V4,Qj,Vq,Qm,Vn]
  omega⟩,fun e he=>?_,?_⟩
 ·rcases V6.mp he with he | he
  ·have:=h.2.1 e (Uf he)
   exact⟨fW this.1 (by omega),this.2⟩
  ·rw[Q0.mp he]
   refine⟨hd,fun c hx=>?_⟩
   rw[hc] at hx;obtain⟨k,hk,hx⟩:=Yo.mp hx;exact(h.2.1 k (Wg hk)).2 c hx
 ·have e:=h.2.2
  rw[<-Ym m L,Vr,Qi] at e;rw[Vr,Qi,show [d].flatMap (clm 8)=clm 8 d by simp[List.flatMap],hc];exact e
theorem zIN{n:Nat}(h:0<n):(0:Int)<min 4 (n:Int):=by omega
theorem zLP{n:Nat}{x:Int}(mp:(0:Int)<min 4 (n:Int)):∃ m:Nat,1+x % min 4 (n:Int)=(m:Int)/\0<m/\m<=n:=by
 have a:=Qy x (Wh mp);have b:=Q9 x mp;exact⟨(1+x % min 4 (n:Int)).toNat,by omega,by omega,by omega⟩
theorem zBH(ns:List Int):∃ d:D,gC [.lst (ns.map D.int)]=.ok (.v d)/\IsC 8 d/\Clm (clm 8 d)/\(clm 8 d).length<=12/\kn 8 d<=6:=by
 have h0:0<=ns.getD 0 0 % 10^30:=Qy _ (by decide)
 have turn:∀(head boats:Int)(L:List D)(q i:Nat)(a6 a7 a8:Sl),0<=head->i<12->zEv L q i->∃(L':List D)(q':Nat)(b6 b7 b8:Sl),zEv L' q' (i+1)/\
   jD [.val (.lst (ns.map D.int)),.val (.int head),.own L,.val (.int (q:Int)),.val (.int boats),.val (.int (i:Int)),a6,a7,a8]=.ok (.nx [.val (.lst (ns.map D.int)),.val (.int head),.own L',.val (.int (q':Int)),.val (.int boats),.val (.int (i:Int)),b6,b7,b8]):=by
  intro head boats L q i a6 a7 a8 hh hi pl;have c0:0<=ns.getD (1+(i:Int)).toNat 0 % 10^30:=Qy _ (by decide)
  have t0:0<=ns.getD (7+(i:Int)).toNat 0 % 10^30:=Qy _ (by decide)
  obtain⟨c,ec,c1⟩:=zCc (cell:=ns.getD (1+(i:Int)).toNat 0 % 10^30) (kind:=head / 6 % 3) c0 (Qy _ (by decide))
  have pb:=pl.boat c1;have ll:=pl.len;have lb:=pb.len;have ln:(L++[D.tup [.str "boat", .int c]]).length=L.length+1:=by rw[Qi];rfl
  symm;rw[kJ ns (1+(i:Int)) (Int.add_nonneg (by decide) (Va _))];symm;rw[ec];symm;rw[zML c1.1 c1.2];symm;rw[if_pos (V8 ll (Nat.lt_trans hi (by decide)))];symm;rw[kJ ns (7+(i:Int)) (Int.add_nonneg (by decide) (Va _))];symm;generalize ns.getD (7+(i:Int)).toNat 0 % 10^30=tn at t0;generalize hL:L++[D.tup [.str "boat", .int c]]=L1 at pb lb ln;by_cases z1:tn % 3=1
  ·rw[decide_eq_true z1]
   symm;by_cases z2:(q:Int)<5
   ·rw[decide_eq_true z2]
    symm;have mp:=zIN (n:=L1.length) (by rw[ln];exact Yw _)
    rw[oMod_i (Wh mp),fmod_pos _ mp];symm;obtain⟨m,em,k0,k1⟩:=zLP (x:=tn / 3) mp;rw[em];have q4:q<5:=Int.ofNat_lt.mp z2
    obtain⟨d,ed,icd,ecd,kcd⟩:=wV (cell:=tn / 12) (ks:=L1.drop (L1.length-m)) (n:=q+1) (Uh t0 (by decide)) (by rw[Vu,Nat.sub_sub_self k1];exact k0) (Qp (Nat.succ_le_of_lt q4) (show 5<=7 by decide)) (fun k hk=>(pb.2.1 k (Wg hk)).1) (by
     have e:=pb.2.2;rw[<-Ym (L1.length-m) L1,Vr,Qi] at e
     exact Qp (Nat.le_add_left _ _) (Qp (X0 e) hi))
    have pk:=pb.knot q4 icd ecd kcd;have nl:noLs (L1.take (L1.length-m)++[d])=true:=xE pk.noL;rw[zEz k0 k1,zEn k0 k1,ed];symm;rw[if_pos (Qp (by rw[Xd];exact Nat.min_le_right _ _) (Qp lb (Qp hi (show 12<=16777215 by decide))))];symm;rw[nl];symm;exact⟨_,q+1,_,_,_,pk,rfl⟩
   ·rw[decide_eq_false z2]
    symm;exact⟨L1,q,_,_,_,pb,rfl⟩
  ·rw[decide_eq_false z1]
   symm;exact⟨L1,q,_,_,_,pb,rfl⟩
 have rest:∀(head:Int)(b:Nat),0<=head->0<b->b<=12->∃ d:D,(fY [.val (.lst (ns.map D.int)),.val (.int head),.own [],.val (.int 0),.val (.int (b:Int)),.un,.un,.un,.un]).bind fin=.ok (.v d)/\IsC 8 d/\Clm (clm 8 d)/\(clm 8 d).length<=12/\kn 8 d<=6:=by
  intro head b hh b0 b1;unfold fY;generalize hK:(jD:Sv)=K at turn;symm;rw[uU (Xp (by decide) (Va b)) (Wj (Int.ofNat_le.mpr b1) (by decide))];symm
  refine hZ (Q:=fun r=>∃ d:D,r.bind fin=.ok (.v d)/\IsC 8 d/\Clm (clm 8 d)/\(clm 8 d).length<=12/\kn 8 d<=6) (k:=zAQ lK)
   (fun i ρ=>∃(L:List D)(q:Nat)(a5 a6 a7 a8:Sl),ρ=[.val (.lst (ns.map D.int)),.val (.int head),.own L,.val (.int (q:Int)),.val (.int (b:Int)),a5,a6,a7,a8]/\zEv L q i) ⟨[],0,_,_,_,_,rfl,⟨Q7 _,Qb _⟩,(fun d hd=>by cases hd),rfl⟩ ?_ ?_
  ·rintro i d ρ hd ⟨L,q,a5,a6,a7,a8,rfl,pl⟩
   obtain⟨hi,rfl⟩:=wG hd;rw[show(0+(i:Int)*1)=(i:Int) by rw[Int.zero_add,Vx]];obtain⟨L',q',b6,b7,b8,pl',e⟩:=turn head b L q i a6 a7 a8 hh (by rw[Vc] at hi;exact Qn hi b1) pl
   exact⟨_,e,L',q',_,_,_,_,rfl,pl'⟩
  ·rintro ρ ⟨L,q,a5,a6,a7,a8,rfl,pl⟩
   rw[zOj,Vc] at pl;have q5:=pl.1.1;have q6:=pl.1.2;have lf:=pl.2.2
   have cs:Clm (L.flatMap (clm 8)):=fun c hc=>by
    obtain⟨k,hk,hx⟩:=Yo.mp hc;exact(pl.2.1 k hk).2 c hx
   have L0:0<L.length:=by
    cases L with
    | nil=>simp at lf;omega
    | cons a r=>exact Yw _
   obtain⟨d,ed,icd,ecd,kcd⟩:=wV (cell:=head / 72) (ks:=L) (n:=q+1) (Uh hh (by decide)) L0 (Qp (Xe q5) (by decide)) (fun k hk=>(pl.2.1 k hk).1) (Qp (X0 lf) b1)
   have isk:∃ d:D,((fN [.int (head / 72),.lst L]).bind rtF).bind retF=.ok (.ret (.v d))/\IsC 8 d/\Clm (clm 8 d)/\(clm 8 d).length<=12/\kn 8 d<=6:=⟨d,by rw[ed];rfl,fW icd (Qp (Xe (Xe q5)) (by decide)),by rw[ecd];exact cs,by rw[ecd];exact Qp (X0 lf) b1,by omega⟩
   obtain⟨d',ed',r'⟩:=isk;symm;by_cases z1:(1:Int)<(L.length:Int)
   ·rw[decide_eq_true z1]
    symm;rw[ed'];symm;exact⟨d',rfl,r'⟩
   ·rw[decide_eq_false z1]
    symm;by_cases z2:(0:Int)<head / 18 % 4
    ·rw[decide_eq_true z2]
     symm;rw[ed'];symm;exact⟨d',rfl,r'⟩
    ·rw[decide_eq_false z2]
     symm
     match L,L0,z1,pl,lf with
     | [p],_,_,pl,lf=>
      rw[show oIx (.lst [p]) (.int 0)=.ok p from rfl];symm;have h:=pl.2.1 p Qf;refine⟨p,rfl,fW h.1 (Qp (Xe q5) (by decide)),h.2,?_,?_⟩
      ·simp[List.flatMap] at lf
       omega
      ·have e:([p].map (kn 8)).sum=kn 8 p:=by simp
       have:=pl.1.2
       omega
     | p::p'::r,_,z1,_,_=>exact absurd (by simp only[Ql];omega) z1
 unfold gC mZ mY nI nD;generalize hK:(fY:Sv)=K at rest;symm;rw[kJ ns 0 (by decide)];symm;generalize ns.getD 0 0 % 10^30=head at h0;have e0:0<=head % 6:=Qy _ (by decide)
 have e1:head % 6<6:=Q9 _ (by decide)
 obtain⟨b,eb⟩:∃ b:Nat,1+head % 6=(b:Int):=⟨(1+head % 6).toNat,by omega⟩
 rw[eb];by_cases z:head / 90 % 8=1
 ·rw[decide_eq_true z]
  symm;have:=rest head (b+6) h0 (by omega) (by omega)
  rw[Xq] at this;exact this
 ·rw[decide_eq_false z]
  symm;exact rest head b h0 (by omega) (by omega)
theorem zHO(x:Res Fl):x.bind (fun r=>.ok r)=x:=by cases x<;>rfl
theorem zAX{t b:Int}(ht:0<=t)(hb:0<b):gF [.int t,.int b]=.ok (.v (.int (Int.gcd t b:Int))):=by
 unfold gF;symm
 refine zKb (fun ρ=>∃(x y:Int)(r:Sl),ρ=[.val (.int x),.val (.int y),r]/\0<=x/\0<=y/\Int.gcd x y=Int.gcd t b) (fun ρ=>(slI 1 ρ).toNat)
  (fun r=>(r.bind (zAQ nA)).bind fin=.ok (.v (.int (Int.gcd t b:Int)))) ⟨_,_,_,rfl,ht,by omega,rfl⟩ ?_
 rintro ρ ⟨x,y,r,rfl,hx,hy,hg⟩
 by_cases c:y=0
 ·subst c
  refine .inl ⟨rfl,?_⟩
  have e2:x=(Int.gcd t b:Int):=by
   rw[Int.gcd_zero_right] at hg;omega
  symm;rw[<-e2]
 ·have hp:0<y:=by omega
  refine .inr ⟨?_,[.val (.int y),.val (.int (x % y)),.val (.int (x % y))],?_,⟨y,x % y,_,rfl,hy,Qy _ c,(zDW hx hp).trans hg⟩,?_⟩
  ·symm
   rw[decide_eq_true hp]
  ·symm
   rw[oMod_i c,fmod_pos _ hp];symm
  ·have:=Q9 x hp
   show(x % y).toNat<y.toNat
   omega
theorem rC{t b:Int}{n:Nat}(hb:0<b)(hn:b.natAbs<2^n)(h:n<=8999):dW [.int t,.int b]=.ok (.v (dq (Rat.divInt t b))):=by
 have hb0:b≠0:=by omega
 have hd:lA (dv t b)=true:=sN (zMH hb0) (V8 (zOr hb0) hn) h;have e:(Int.gcd t b:Int)=dv t b:=by unfold dv;rw[if_neg (by omega)]
 have e2:Int.gcd (t.natAbs:Int) b=Int.gcd t b:=by simp[Int.gcd]
 unfold dW;symm;rw[zAX (by omega) hb,e2,e];symm;rw[oDiv_i hd];symm;rw[oDiv_i hd];symm;rw[zAI hb0,zBm hb0];rfl
theorem mK{p q:Rat}{m n:Nat}(hp:Sz m p)(hq:Sz n q)(h:m+n<=8999):bQ [dq p,dq q]=.ok (.v (dq (p+q))):=by
 have pp:=dZ p;have pq:=dZ q;unfold bQ;symm;rw[oMul_i (cC hp.1 hq.d (by omega))];symm;rw[oMul_i (cC hq.1 hp.d (by omega))];symm;rw[oMul_i (cC hp.d hq.d (by omega))];symm;rw[rC (n:=m+n) (Xc pp pq) (by rw[Int.natAbs_mul,Nat.pow_add];exact Nat.mul_lt_mul'' hp.d hq.d) h,zFR];symm
theorem zKq(f:Nat->Rat):∀ n:Nat,∃ N,∀ i,i<n->Sz N (f i)
 | 0=>⟨0,fun i h=>absurd h (Yp _)⟩
 | n+1=>by
  obtain⟨N,h⟩:=zKq f n;refine⟨N+((f n).num.natAbs+(f n).den),fun i hi=>?_⟩
  rcases X5 (show i<=n by omega) with z | z
  ·exact(h i z).mono (by omega)
  ·subst z;exact(zMS (f i)).mono (by omega)
theorem zGE{P:D->Rat->List Rat->Prop}{m:D->Nat}{f:Nat->Rat}:∀ {ks:List D} {i:Nat} {xs:List Rat} {l:Nat} {k:D},(∀ k∈ks,∀ q xs,P k q xs->xs.length=m k)->ShL P ks f i xs->ks[l]?=some k->P k (f (i+l)) ((sS m ks xs).getD l [])
 | c::r,i,xs,l,k,hp,h,hl=>by
  obtain⟨a,b,rfl,ha,hb⟩:=h;have la:=hp c Qf _ _ ha;rw[sS]
  cases l with
  | zero=>
   cases hl;show P c (f (i+0)) ((a++b).take (m c))
   rw[<-la,List.take_left,Nat.add_zero];exact ha
  | succ l=>
   show P k (f (i+(l+1))) ((sS m r ((a++b).drop (m c))).getD l [])
   rw[<-la,List.drop_left,show i+(l+1)=i+1+l by omega];exact zGE (fun x hx=>hp x (Qe _ hx)) hb (by simpa using hl)
theorem zDS{b:Nat}(hb:b<=1200):∀ {n:Nat} {d:D} {q:Rat} {xs:List Rat},n<=9->Gc n d->Sh n d q xs->0<=q->q<=((clm n d).sum:Rat)->Am b xs->AR n d xs
 | 0,_,_,_,_,g,_,_,_,_=>g.1.elim
 | n+1,d,q,xs,h9,g,h,q0,q1,am=>by
  rcases h with⟨c,rfl,rfl⟩ | ⟨v,ws,ks,f,rfl,hd,al,hs⟩
  ·intro v ws ks e;simp at e
  ·rcases g.1 with⟨c,e⟩ | ⟨w,ws',ks',e,hw,k0,k1,w1,hy,hk⟩
   ·simp at e
   simp only[D.tup.injEq,Xu,and_true] at e;obtain⟨e1,e2,rfl⟩:=e;have cl:=g.cl hk k0;have es:(kcl n ks).sum=(clm (n+1) (.tup [.str v.s,.tup (ws.map D.int),.tup ks])).sum:=wK ks;obtain⟨bd,sm⟩:=zKF hd cl q0 (by rw[es];exact q1) al
   have kl:(kcl n ks).length=ks.length:=dR n ks
   have cut:∀ l k,ks[l]?=some k->Sh n k (f l) ((pcs n ks xs).getD l []):=fun l k hl=>by
    have:=zGE (P:=Sh n) (m:=fun k=>(clm n k).length) (fun k _ q xs h=>zAf h) hs hl
    rw[Q5] at this;exact this
   have fb:∀ l k,ks[l]?=some k->0<=f l/\f l<=((clm n k).sum:Rat):=fun l k hl=>by
    obtain⟨j1,j2⟩:=zD (n:=n) hl;rw[<-j2];exact bd l j1
   have sk:∀ l k,ks[l]?=some k->sK n ks xs l=f l:=fun l k hl=>(zGp (g.kid hk (Qg hl)) (cut l k hl) (fb l k hl).1 (fb l k hl).2).2
   obtain⟨N,hN⟩:=zKq f (kcl n ks).length;have dl:Dl N (kcl n ks) q f:=⟨fun i hi=>⟨(bd i hi).1,(bd i hi).2,hN i hi⟩,sm⟩
   rw[lN];refine⟨fun i j hij hj=>?_,fun l k hl=>zDS hb (by omega) (g.kid hk (Qg hl)) (cut l k hl) (fb l k hl).1 (fb l k hl).2 (am.pc l)⟩
   have hi:i<ks.length:=by omega
   obtain⟨r,_,hr,h2⟩:=zCm (kd:=true) (i:=i) (j:=j) g (by omega) hk k0 hd am hb hi hj
   have si:=sk i _ (Qk hi);have sj:=sk j _ (Qk hj);have bi:=bd i (by omega)
   have bj:=bd j (by omega)
   refine hr.mp (h2 ?_ ?_ ?_)
   ·show 0<=sK n ks xs i+sK n ks xs j
    rw[si,sj];grind
   ·show sK n ks xs i+sK n ks xs j<=_
    rw[si,sj];grind
   ·intro M g' al'
    have al'':Al M (w2 ws i j) [(kcl n ks).getD i 0,(kcl n ks).getD j 0] (sK n ks xs i+sK n ks xs j) g' v:=al';rw[si,sj] at al'';have:=zKc hd cl al dl hij (by omega) al''
    show g' 0=sK n ks xs i/\g' 1=sK n ks xs j
    rw[si,sj];exact this
theorem zIA{d:D}{q:Rat}{xs:List Rat}(g:Gc 8 d)(hkn:kn 8 d<=6)(h:Sh 8 d q xs)(q0:0<=q)(q1:q<=((clm 8 d).sum:Rat))(qd:(q.den:Int)<=2^20):Am 225 xs:=by
 obtain⟨bd,sm⟩:=zGp g h q0 q1;obtain⟨E,e0,e1,e2⟩:=zMR g h q0 q1 (Dn.den q);have l12:=g.2.1;refine⟨by rw[zAf h];exact l12,⟨(q.den:Int)*E,Xc (dZ q) e0,?_,e2⟩,fun x hx=>?_⟩
 ·have a:E<=2^204:=Xp e1 (by
   rw[show(2:Int)^204=2^(34*kn 8 d)*2^(204-34*kn 8 d) by rw[<-Wd];congr 1;omega];have u:(0:Int)<2^(34*kn 8 d):=Ys (by decide)
   have v:(0:Int)<2^(204-34*kn 8 d):=Ys (by decide)
   have w:=Int.mul_le_mul_of_nonneg_left (show(1:Int)<=2^(204-34*kn 8 d) by omega) (Xm u)
   rw[Vx] at w
   exact w)
  exact Wj (qV (dZ q) e0 qd a) (by decide)
 ·obtain⟨y,hy,w⟩:=bd.mem hx
  have:=g.2.2 y hy
  have u:(y:Rat)<=((2^36:Int):Rat):=Vm.mpr (by omega)
  have z:((0:Int):Rat)<=((2^36:Int):Rat):=Vm.mpr (by decide)
  have z0:((0:Int):Rat)=0:=rfl;exact⟨by have:=w.1;grind,by have:=w.2;grind⟩
theorem dvm(t:Int){b:Int}(hb:0<b):Rat.divInt t b*(b:Rat)=(t:Rat):=by
 have bp:(0:Rat)<(b:Rat):=by exact_mod_cast hb
 rw[X4,Xr (Rat.ne_of_gt bp)]
theorem tK{S c:Int}(h0:0<=S)(h1:S<=12*10^9):∃ q:Rat,cQ [.int S,.int c]=.ok (.v (dq q))/\0<=q/\q<=(S:Rat)/\∃ b:Int,1<=b/\b<=97/\Dn b q:=by
 unfold cQ;symm;have c0:=Qy c (show(10:Int)^40≠0 by decide)
 generalize c % 10^40=cell at c0;have k0:=Qy cell (show(5:Int)≠0 by decide)
 have k1:=Q9 cell (show(0:Int)<5 by decide)
 have e0:=Qy (cell / 5) (show(97:Int)≠0 by decide)
 have e1:=Q9 (cell / 5) (show(0:Int)<97 by decide)
 obtain⟨b,eb,b1,b2⟩:∃ b:Int,oIx (.lst [.int 1,.int 1,.int 2,.int 12,.int (1+cell / 5 % 97)]) (.int (cell % 5))=.ok (.int b)/\1<=b/\b<=97:=by
  generalize cell % 5=k at k0 k1;rcases (show k=0∨k=1∨k=2∨k=3∨k=4 by omega) with rfl | rfl | rfl | rfl | rfl
  ·exact⟨_,rfl,by omega,by omega⟩
  ·exact⟨_,rfl,by omega,by omega⟩
  ·exact⟨_,rfl,by omega,by omega⟩
  ·exact⟨_,rfl,by omega,by omega⟩
  ·exact⟨_,rfl,by omega,by omega⟩
 rw[eb];symm;have sb:0<=S*b:=Ub h0 (by omega)
 have om:iP S b=true:=cC (m:=40) (n:=10) (by omega) (by omega) (by decide)
 rw[oMul_i om];symm;rw[oMod_i (show S*b+1≠0 by omega),fmod_pos _ (show 0<S*b+1 by omega)];symm;have t0:=Qy (cell / 485) (show S*b+1≠0 by omega)
 have t1:=Q9 (cell / 485) (show 0<S*b+1 by omega)
 generalize cell / 485 % (S*b+1)=t at t0 t1;rw[rC (n:=10) (by omega) (by omega) (by decide)];symm;have bp:(0:Rat)<(b:Rat):=by exact_mod_cast (show 0<b by omega)
 have e:Rat.divInt t b*(b:Rat)=(t:Rat):=by
  rw[X4,Xr (Rat.ne_of_gt bp)]
 refine⟨_,rfl,?_,?_,b,b1,b2,t,e⟩
 ·refine Vd.mp fun z=>?_
  have:=Ui bp |>.mpr z
  rw[e,Rat.zero_mul] at this;have t0':(0:Rat)<=(t:Rat):=by exact_mod_cast t0
  grind
 ·refine Vd.mp fun z=>?_
  have:=Ui bp |>.mpr z
  rw[e,<-Vw] at this;have:=Rat.intCast_lt_intCast.mp this
  omega
structure Aw (B K:Int) (n:Nat) (xs:List Rat):Prop where
 len:xs.length=n
 all:∀ x∈xs,Dn B x/\-(K:Rat)<=x/\x<=(K:Rat)
theorem Aw.set{B K:Int}{n i:Nat}{xs:List Rat}{y:Rat}(h:Aw B K n xs)(d:Dn B y)(l:-(K:Rat)<=y)(u:y<=(K:Rat)):Aw B K n (xs.set i y):=
 ⟨by rw[Vb];exact h.len,fun x hx=>by
  rcases List.mem_or_eq_of_mem_set hx with hx | rfl
  ·exact h.all x hx
  ·exact⟨d,l,u⟩⟩
theorem Aw.up{B K K':Int}{n:Nat}{xs:List Rat}(h:Aw B K n xs)(hk:K<=K'):Aw B K' n xs:=
 ⟨h.len,fun x hx=>by
  have a:=h.all x hx;have:(K:Rat)<=(K':Rat):=Vm.mpr hk
  exact⟨a.1,by have:=a.2.1;grind,by have:=a.2.2;grind⟩⟩
theorem Aw.at{B K:Int}{n i:Nat}{xs:List Rat}(h:Aw B K n xs)(hi:i<n):Dn B (xs.getD i 0)/\-(K:Rat)<=xs.getD i 0/\xs.getD i 0<=(K:Rat):=by
 have l:i<xs.length:=by rw[h.len];exact hi
 exact h.all _ (by rw[Qq,Qk l];exact Vs l)
theorem zIp{i j:Nat}{k e:Ev}{ρ:Rho}{xs:List Rat}{y:Rat}(h1:e ρ=.ok (dq y))(h2:ρ[i]?=some (.own (xs.map dq)))(h3:k ρ=.ok (.int (j:Int)))(h4:j<xs.length):zEF i k e ρ=.ok (.nx (ρ.set i (.own ((xs.set j y).map dq)))):=by
 rw[zNg h1 h2 h3 (by rw[Qd];exact h4),List.map_set]
theorem zNH(q:Rat):D.tup [.int (0-q.num),.int (q.den:Int)]=dq (-q):=by
 rw[Int.zero_sub];rfl
abbrev RA(d:D)(cell:Int)(cs:List Int)(xs:List Rat)(way:Int)(i j:Nat)(s:Rat):Rho:=[.val d,.val (.int cell),.val (.lst (cs.map D.int)),.own (xs.map dq),.val (.int way),.val (.int (i:Int)),.val (.int (j:Int)),.val (dq s)]
theorem zDM{xs:List Rat}{i:Nat}(h:i<xs.length):oIx (.lst (xs.map dq)) (.int (i:Int))=.ok (dq (xs.getD i 0)):=zFF (kd:=true) h
theorem zOf{d:D}{cell way:Int}{cs:List Int}{xs:List Rat}{i j:Nat}{s:Rat}{B:Int}(hB:0<B)(hb:B<2^260)(h:Aw B (10^9+6) cs.length xs)(hi:i<cs.length)(hc:∀ c∈cs,0<=c/\c<=10^9):
  ∃ ys,(dG (RA d cell cs xs way i j s)).bind fin=.ok (.f (ys.map dq))/\Aw B (2^36) cs.length ys:=by
 by_cases w:way=7
 ·have a:=h.at hi
  have c:=hc _ (Qg (aU hi));have ix:oIx (.lst (xs.map dq)) (.int (i:Int))=.ok (dq (xs.getD i 0)):=zDM (by rw[h.len];exact hi)
  have ic:oIx (.lst (cs.map D.int)) (.int (i:Int))=.ok (.int (cs.getD i 0)):=nE (Va i) (aU hi);have m0:=Qy (cell / 19) (show(2:Int)≠0 by decide)
  have m1:=Q9 (cell / 19) (show(0:Int)<2 by decide)
  obtain⟨t,et,ht⟩:∃ t:Int,oIx (.lst [.int 1,.int (0-1)]) (.int (cell / 19 % 2))=.ok (.int t)/\(t=1∨t=-1):=by
   rcases (show cell / 19 % 2=0∨cell / 19 % 2=1 by omega) with z | z
   ·rw[z];exact⟨1,rfl,.inl rfl⟩
   ·rw[z];exact⟨-1,rfl,.inr rfl⟩
  obtain⟨u,hu⟩:∃ u,u=cs.getD i 0*t:=⟨_,rfl⟩;have tb:-(10^9)<=u/\u<=10^9:=by rw[hu];rcases ht with rfl | rfl<;>omega
  have zx:=(a.1).szA hB hb (c:=10^9+6) a.2.1 a.2.2 (a:=34) (by decide)
  have zt:Sz 40 (u:Rat):=⟨by show u.natAbs<2^40;omega,by show 1<2^40;decide⟩
  have pp:=mK zx zt (by decide)
  have e:(zDE (aN bQ (aB (eOp oIx (aE 3) (aE 5)) (aB (qX (aB (eOp qA (eOp oIx (aE 2) (aE 5)) (eOp oIx (eF (nQ (aB (eC (.int 1)) (aB (eOp zBS (eC (.int 0)) (eC (.int 1))) aNil)))) (eOp jZ (eOp lY (aE 1) (eC (.int 19))) (eC (.int 2))))) (aB (eC (.int 1)) aNil))) aNil)))) (RA d cell cs xs way i j s)=.ok (dq (xs.getD i 0+(u:Rat))):=by
   symm;rw[ix];symm;rw[ic];symm;rw[show oIx (.lst [.int 1,.int (-1)]) (.int (cell / 19 % 2))=.ok (.int t) from et];symm;rw[oMul_i (cC (m:=40) (n:=2) (by omega) (by omega) (by decide)),<-hu];symm;rw[show bQ [dq (xs.getD i 0),.tup [.int u,.int 1]]=.ok (.v (dq (xs.getD i 0+(u:Rat)))) from pp];symm
  have p:=zIp (i:=3) (j:=i) (k:=aE 5) (xs:=xs) e rfl rfl (by rw[h.len];exact hi)
  have r1:-(((10^9:Int)):Rat)<=(u:Rat):=by rw[<-Rat.intCast_neg];exact Vm.mpr tb.1
  have r2:(u:Rat)<=((10^9:Int):Rat):=Vm.mpr tb.2;have k1:(((10^9+6:Int)):Rat)+((10^9:Int):Rat)<=((2^36:Int):Rat):=by rw[<-Q6];exact Vm.mpr (by decide)
  refine⟨xs.set i (xs.getD i 0+(u:Rat)),?_,(h.up (by decide)).set (a.1.add (Dn.int B _)) (by have:=a.2.1;grind) (by have:=a.2.2;grind)⟩
  unfold dG;generalize hK:zEF 3 (aE 5) (zDE (aN bQ (aB (eOp oIx (aE 3) (aE 5)) (aB (qX (aB (eOp qA (eOp oIx (aE 2) (aE 5)) (eOp oIx (eF (nQ (aB (eC (.int 1)) (aB (eOp zBS (eC (.int 0)) (eC (.int 1))) aNil)))) (eOp jZ (eOp lY (aE 1) (eC (.int 19))) (eC (.int 2))))) (aB (eC (.int 1)) aNil))) aNil))))=F at p;symm;rw[decide_eq_true w];symm;rw[p];symm
 ·refine⟨xs,?_,h.up (by decide)⟩
  symm;rw[decide_eq_false w];symm
theorem zOT{d:D}{cell way:Int}{cs:List Int}{xs:List Rat}{i j:Nat}{s:Rat}{B:Int}(hB:0<B)(hb:B<2^260)(h:Aw B (10^9+6) cs.length xs)(hi:i<cs.length)(hc:∀ c∈cs,0<=c/\c<=10^9)(q:Rat)(eq:cQ [.int (cs.getD i 0),.int (cell / 17)]=.ok (.v (dq q)))(q0:0<=q)(q1:q<=(cs.getD i 0:Rat))(dq':Dn B q):
  ∃ ys,(cJ (RA d cell cs xs way i j s)).bind fin=.ok (.f (ys.map dq))/\Aw B (2^36) cs.length ys:=by
 have c:=hc _ (Qg (aU hi));have ic:oIx (.lst (cs.map D.int)) (.int (i:Int))=.ok (.int (cs.getD i 0)):=nE (Va i) (aU hi);by_cases w:way=6
 ·have e:(aN cQ (aB (eOp oIx (aE 2) (aE 5)) (aB (eOp lY (aE 1) (eC (.int 17))) aNil))) (RA d cell cs xs way i j s)=.ok (dq q):=by
   symm;rw[ic];symm;rw[eq];symm
  have p:=zIp (i:=3) (j:=i) (k:=aE 5) (xs:=xs) e rfl rfl (by rw[h.len];exact hi)
  have k1:((cs.getD i 0:Int):Rat)<=((10^9+6:Int):Rat):=Vm.mpr (by omega)
  have h':=h.set (i:=i) dq' (by have:((0:Int):Rat)<=((10^9+6:Int):Rat):=Vm.mpr (by decide);have z0:((0:Int):Rat)=0:=rfl;grind) (by grind)
  obtain⟨ys,ey,hy⟩:=zOf (d:=d) (cell:=cell) (way:=way) (j:=j) (s:=s) hB hb h' hi hc;refine⟨ys,?_,hy⟩
  rw[<-ey];unfold cJ;generalize hK:zEF 3 (aE 5) (aN cQ (aB (eOp oIx (aE 2) (aE 5)) (aB (eOp lY (aE 1) (eC (.int 17))) aNil)))=F at p;generalize hL:(dG:Sv)=L;symm;rw[decide_eq_true w];symm;rw[p];symm
 ·obtain⟨ys,ey,hy⟩:=zOf (d:=d) (cell:=cell) (way:=way) (j:=j) (s:=s) hB hb h hi hc
  refine⟨ys,?_,hy⟩
  rw[<-ey];unfold cJ;generalize hL:(dG:Sv)=L;symm;rw[decide_eq_false w];symm
theorem zRd{d:D}{cell way:Int}{cs:List Int}{xs:List Rat}{i j:Nat}{s:Rat}{B:Int}(hB:0<B)(hb:B<2^260)(h:Aw B (10^9) cs.length xs)(hi:i<cs.length)(hj:j<cs.length)(hc:∀ c∈cs,0<=c/\c<=10^9)(s0:0<=s)(s1:s<=3)(zs:Sz 5 s)(ds:Dn B s)(q:Rat)(eq:cQ [.int (cs.getD i 0),.int (cell / 17)]=.ok (.v (dq q)))(q0:0<=q)(q1:q<=(cs.getD i 0:Rat))(dq':Dn B q):
  ∃ ys,(dM (RA d cell cs xs way i j s)).bind fin=.ok (.f (ys.map dq))/\Aw B (2^36) cs.length ys:=by
 have e3:((3:Int):Rat)=3:=rfl;have ka:((10^9:Int):Rat)+3=((10^9+3:Int):Rat):=by rw[Q6,e3]
 have kb:((10^9+3:Int):Rat)+3=((10^9+6:Int):Rat):=by rw[<-e3,<-Q6];rfl
 by_cases w:3<way
 ·have li:i<xs.length:=by rw[h.len];exact hi
  have a:=h.at hi;have zx:=(a.1).szA hB hb (c:=10^9) a.2.1 a.2.2 (a:=34) (by decide)
  have pp:=mK zx zs (by decide)
  have ix:=zDM li
  have e:(zDE (aN bQ (aB (eOp oIx (aE 3) (aE 5)) (aB (aE 7) aNil)))) (RA d cell cs xs way i j s)=.ok (dq (xs.getD i 0+s)):=by
   symm;rw[ix];symm;rw[pp];symm
  have p:=zIp (i:=3) (j:=i) (k:=aE 5) (xs:=xs) e rfl rfl li;have h1:Aw B (10^9+3) cs.length (xs.set i (xs.getD i 0+s)):=(h.up (by decide)).set (a.1.add ds) (by have:=a.2.1;grind) (by have:=a.2.2;grind)
  generalize xs.set i (xs.getD i 0+s)=ys at p h1;have lj:j<ys.length:=by rw[h1.len];exact hj
  have b:=h1.at hj;have zy:=(b.1).szA hB hb (c:=10^9+3) b.2.1 b.2.2 (a:=34) (by decide)
  have zn:Sz 5 (-s):=⟨by show(-s.num).natAbs<2^5;rw[Int.natAbs_neg];exact zs.1,zs.2⟩
  have pq:=mK zy zn (by decide)
  have iy:=zDM lj
  have e2:(zDE (aN bQ (aB (eOp oIx (aE 3) (aE 6)) (aB (qX (aB (eOp zBS (eC (.int 0)) (eOp oIx (aE 7) (eC (.int 0)))) (aB (eOp oIx (aE 7) (eC (.int 1))) aNil))) aNil)))) (RA d cell cs ys way i j s)=.ok (dq (ys.getD j 0+-s)):=by
   symm;rw[iy];symm;rw[zNH,pq];symm
  have p2:=zIp (i:=3) (j:=j) (k:=aE 6) (xs:=ys) e2 rfl rfl lj
  have dn:Dn B (-s):=by
   have:=(Dn.zero B).sub ds
   rwa [show(0:Rat)-s=-s by grind] at this
  have h2:Aw B (10^9+6) cs.length (ys.set j (ys.getD j 0+-s)):=(h1.up (by decide)).set (b.1.add dn) (by have:=b.2.1;grind) (by have:=b.2.2;grind)
  obtain⟨zs',ez,hz⟩:=zOT (d:=d) (cell:=cell) (way:=way) (j:=j) (s:=s) hB hb h2 hi hc q eq q0 q1 dq';refine⟨zs',?_,hz⟩
  rw[<-ez];unfold dM kW;generalize hF:zEF 3 (aE 5) (zDE (aN bQ (aB (eOp oIx (aE 3) (aE 5)) (aB (aE 7) aNil))))=F at p;generalize hE:zEF 3 (aE 6) (zDE (aN bQ (aB (eOp oIx (aE 3) (aE 6)) (aB (qX (aB (eOp zBS (eC (.int 0)) (eOp oIx (aE 7) (eC (.int 0)))) (aB (eOp oIx (aE 7) (eC (.int 1))) aNil))) aNil))))=E at p2;generalize hL:(cJ:Sv)=L;symm;rw[decide_eq_true w];symm;rw[p];symm;rw[show E [.val d,.val (.int cell),.val (.lst (cs.map D.int)),.own (ys.map dq),.val (.int way),.val (.int (i:Int)),.val (.int (j:Int)),.val (dq s)]=_ from p2];symm
 ·obtain⟨zs',ez,hz⟩:=zOT (d:=d) (cell:=cell) (way:=way) (j:=j) (s:=s) hB hb (h.up (by decide)) hi hc q eq q0 q1 dq'
  refine⟨zs',?_,hz⟩
  rw[<-ez];unfold dM;generalize hL:(cJ:Sv)=L;symm;rw[decide_eq_false w];symm
theorem zGh{d:D}(g:Gc 8 d)(hkn:kn 8 d<=6)(cell:Int):∃ xs:List Rat,eZ [d,.int cell]=.ok (.f (xs.map dq))/\Am 260 xs/\xs.length=(clm 8 d).length:=by
 have gs:=g.sum;have l12:=g.2.1;have one:=zCU g.1;have hc:=g.2.2;have lc:=lG 10 d (fW g.1 (by decide)) (by rw[dU g.1 (by decide)];omega)
 rw[dU g.1 (show 8<=10 by decide)] at lc;unfold eZ mD lW lE lH lL lQ;generalize hL:(dM:Sv)=L;symm;rw[oPow_i (by decide)];symm;generalize cell % 10^45=c;rw[lc];symm;obtain⟨q,eq,q0,q1,b,b1,b2,db⟩:=tK (S:=(clm 8 d).sum) (c:=c / 8) gs.1 gs.2;rw[eq];symm;have qd:(q.den:Int)<=2^20:=Xp (db.le (by omega)) (by omega)
 obtain⟨xs,ex,sx⟩:=zDI (m:=21) g (by decide) q0 q1 (Wj qd (by decide)) (by decide)
 have am:=zIA g hkn sx q0 q1 qd;obtain⟨bd,_⟩:=zGp g sx q0 q1;have ln:=zAf sx;rw[ex];symm;have L0:((clm 8 d).length:Int)≠0:=by omega
 have Lp:0<((clm 8 d).length:Int):=by omega
 rw[oMod_i L0,fmod_pos _ Lp];symm;rw[oMod_i L0,fmod_pos _ Lp];symm;have i0:=Qy (c / 56) L0;have i1:=Q9 (c / 56) Lp;have j0:=Qy (c / 336) L0;have j1:=Q9 (c / 336) Lp;obtain⟨i,ei⟩:=Y3 i0;obtain⟨j,ej⟩:=Y3 j0;rw[ei] at i1 ⊢
 rw[ej] at j1 ⊢
 have t0:=Qy (c / 11) (show(3:Int)≠0 by decide)
 have t1:=Q9 (c / 11) (show(0:Int)<3 by decide)
 have u0:=Qy (c / 13) (show(5:Int)≠0 by decide)
 have u1:=Q9 (c / 13) (show(0:Int)<5 by decide)
 generalize ht:1+c / 11 % 3=t;generalize hu:1+c / 13 % 5=u;rw[rC (n:=4) (by omega) (by omega) (by decide)];symm;have du:Rat.divInt t u*(u:Rat)=(t:Rat):=dvm t (by omega)
 have up:(0:Rat)<(u:Rat):=by exact_mod_cast (show 0<u by omega)
 have s0:0<=Rat.divInt t u:=Vd.mp fun z=>by
  have:=Ui up |>.mpr z
  rw[du,Rat.zero_mul] at this;have:(0:Rat)<=(t:Rat):=by exact_mod_cast (show 0<=t by omega)
  grind
 have s1:Rat.divInt t u<=3:=Vd.mp fun z=>by
  have:=Ui up |>.mpr z
  rw[du] at this;have e1:(t:Rat)<=3:=by exact_mod_cast (show t<=3 by omega)
  have e2:(1:Rat)<=(u:Rat):=by exact_mod_cast (show 1<=u by omega)
  grind
 have dsu:Dn u (Rat.divInt t u):=⟨t,du⟩
 have zs:Sz 5 (Rat.divInt t u):=by
  have:=dsu.sz (by omega) (a:=2) (b:=3) (by omega) s0 (c:=3) s1 (by decide)
  exact this
 obtain⟨q',eq',q0',q1',b',b1',b2',db'⟩:=tK (S:=(clm 8 d).getD i 0) (c:=c / 17) (hc _ (Qg (aU (show i<(clm 8 d).length by omega)))).1 (by have:=(hc _ (Qg (aU (show i<(clm 8 d).length by omega)))).2;omega)
 obtain⟨B,B0,B1,B2⟩:=am.dn
 have aw:Aw (B*(u*b')) (10^9) (clm 8 d).length xs:=⟨ln,fun x hx=>by
  obtain⟨y,hy,w⟩:=bd.mem hx;have:=hc y hy
  have k1:((y:Int):Rat)<=((10^9:Int):Rat):=Vm.mpr this.2;have k2:((0:Int):Rat)<=((10^9:Int):Rat):=Vm.mpr (by decide)
  have z0:((0:Int):Rat)=0:=rfl
  exact⟨(B2 x hx).mul _,by have:=w.1;grind,by have:=w.2;grind⟩⟩
 have ub:0<u*b':=Xc (by omega) (by omega)
 have ub2:u*b' < 2^10:=by
  have:=Int.mul_le_mul (show u<=5 by omega) b2' (by omega) (by omega)
  omega
 have BB:B*(u*b')<2^260:=by
  have:=Int.mul_lt_mul B1 (Xm ub2) ub (by decide)
  exact Int.lt_trans this (by decide)
 obtain⟨ys,ey,hy⟩:=zRd (d:=d) (cell:=c) (way:=c % 8) (j:=j) (s:=Rat.divInt t u) (Xc B0 ub) BB aw (show i<_ by omega) (show j<_ by omega) hc s0 s1 zs (by rw[X2 u b',<-Xs,X2];exact dsu.mul _) q' eq' q0' q1' (by rw[<-Xs,X2];exact db'.mul _)
 rw[hL] at ey;refine⟨ys,ey,⟨by rw[hy.len];exact l12,⟨_,Xc B0 ub,BB,fun x hx=>(hy.all x hx).1⟩,fun x hx=>(hy.all x hx).2⟩,hy.len⟩
theorem zFs{b:Nat}{xs:List Rat}(am:Am b xs)(hb:b<=4000):lZ [.lst (xs.map dq)]=.ok (.v (dq xs.sum)):=by
 unfold lZ;symm;rw[show D.tup [.int 0,.int 1]=dq ((xs.take 0).sum) from rfl];refine hZ (Q:=fun r=>r.bind fin=.ok (.v (dq xs.sum))) (k:=zAQ uV) (fun i ρ=>∃ a,ρ=[.val (.lst (xs.map dq)),.val (dq ((xs.take i).sum)),a]) ⟨_,rfl⟩ ?_ ?_
 ·rintro i d ρ hd ⟨a,rfl⟩
  have hi:i<xs.length:=by have:=(Q2.mp hd).1;rwa [Qd] at this
  rw[Qr,Qk hi] at hd;cases hd;refine⟨[.val (.lst (xs.map dq)),.val (dq ((xs.take (i+1)).sum)),.val (dq xs[i])],?_,_,rfl⟩
  have e:(xs.take (i+1)).sum=(xs.take i).sum+xs[i]:=by
   rw[Yd,Qk hi];show(xs.take i++[xs[i]]).sum=_
   rw[dO,Qm,Vn,Xt]
  symm;rw[mK (am.take i).sum.1 (am.each (Vs hi)) (by omega),e];symm
 ·rintro ρ ⟨a,rfl⟩
  rw[Qd,Xa];rfl
theorem zGx(n:Nat)(ks:List D)(xs:List Rat):pcs n ks xs=(List.range ks.length).map fun l=>(pcs n ks xs).getD l []:=by
 have hl:(pcs n ks xs).length=ks.length:=iZ ks xs;refine List.ext_getElem (by rw[Qd,Qu,hl]) fun i h1 h2=>?_
 rw[List.getElem_map,List.getElem_range,Qq,Qk h1];rfl
theorem zGP{x f:Nat->Rat}:∀ {n:Nat},(∀ i,i<n->x i<=f i)->((List.range n).map x).sum=((List.range n).map f).sum->∀ i,i<n->x i=f i
 | 0,_,_,i,h=>absurd h (Yp _)
 | n+1,hl,hs,i,hi=>by
  rw[Xb,Qw,Qw,dO,dO] at hs;simp only[Qj,Vq,Qm,Vn,Xt] at hs
  have le:∀ m,m<=n->((List.range m).map x).sum<=((List.range m).map f).sum:=by
   intro m
   induction m with
   | zero=>intro _;exact Vk
   | succ m ih=>
    intro hm;rw[Xb,Qw,Qw,dO,dO];simp only[Qj,Vq,Qm,Vn,Xt];have:=ih (by omega)
    have:=hl m (by omega)
    grind
  have a:=le n (Qb _);have b:=hl n (Yi n);have e1:x n=f n:=by grind
  have e2:((List.range n).map x).sum=((List.range n).map f).sum:=by grind
  rcases X5 (show i<=n by omega) with z | z
  ·exact zGP (fun j hj=>hl j (by omega)) e2 i z
  ·rw[z];exact e1
theorem zPq{v:Wy}{ws cs:List Int}(due:v.due ws cs)(hc:Cl cs){x f:Nat->Rat}{q:Rat}{M:Nat}(hx:∀ i,i<cs.length->0<=x i/\x i<=cR cs i)(pr:∀ i j,i<j->j<cs.length->Rt2 v ws cs i j (x i) (x j))(hq:((List.range cs.length).map x).sum=q)(al:Al M ws cs q f v)(dl:Dl 1400 cs q f):∀ i,i<cs.length->x i=f i:=by
 have two':∀ a b,a<b->b<cs.length->¬ (f a<x a/\x b<f b)/\¬ (x a<f a/\f b<x b):=fun a b hab hb=>by
  have ha:a<cs.length:=by omega
  obtain⟨s0,s1,M1,g,al1,g0,g1⟩:=pr a b hab hb;have fa:=dl.bd a ha;have fb:=dl.bd b hb;have d2:=zGK due (i:=a) (j:=b) ha hb;have na:=hc.nn _ (Qg (aU ha));have nb:=hc.nn _ (Qg (aU hb));have ua:=hc.up _ (Qg (aU ha));have ub:=hc.up _ (Qg (aU hb))
  have c2:Cl [cs.getD a 0,cs.getD b 0]:=⟨fun c h=>by
    simp only[Qc,Q8,or_false] at h;rcases h with rfl | rfl<;>assumption,fun c h=>by
    simp only[Qc,Q8,or_false] at h;rcases h with rfl | rfl<;>assumption,by show 1<=2;decide,by show 2<=12;decide⟩
  have sm:=zGN (cs.getD a 0) (cs.getD b 0);have ca:cR cs a=((cs.getD a 0:Int):Rat):=rfl;have cb:cR cs b=((cs.getD b 0:Int):Rat):=rfl;obtain⟨g',_,al2⟩:=uB (w:=v) (ws:=two ws a b) (cs:=[cs.getD a 0,cs.getD b 0]) (wd:=.lst ((two ws a b).map D.int)) (cd:=.lst ([cs.getD a 0,cs.getD b 0].map D.int)) (.inl rfl) (.inl rfl) (q:=f a+f b) (m:=2801) (by decide) d2 c2 ⟨by have:=fa.1;have:=fb.1;grind,by rw[sm,<-ca,<-cb];have:=fa.2.1;have:=fb.2.1;grind,fa.2.2.add fb.2.2⟩
  have al2':Al (2801+263) (w2 ws a b) [cs.getD a 0,cs.getD b 0] (f a+f b) g' v:=al2;obtain⟨h0,h1⟩:=zKc due hc al dl hab hb al2';have z0:(0:Nat) < [cs.getD a 0,cs.getD b 0].length:=Nat.zero_lt_succ _;have z1:(1:Nat) < [cs.getD a 0,cs.getD b 0].length:=Yi _;rcases Uc (a:=x a+x b) (b:=f a+f b) with o | o
  ·have m0:=uE d2 c2 al1 al2 o z0
   have m1:=uE d2 c2 al1 al2 o z1;rw[g0,h0] at m0;rw[g1,h1] at m1;exact⟨fun z=>absurd m0 (Vf.mpr z.1),fun z=>absurd m1 (Vf.mpr z.2)⟩
  ·have m0:=uE d2 c2 al2 al1 o z0
   have m1:=uE d2 c2 al2 al1 o z1;rw[g0,h0] at m0;rw[g1,h1] at m1;exact⟨fun z=>absurd m1 (Vf.mpr z.2),fun z=>absurd m0 (Vf.mpr z.1)⟩
 have sf:=dl.sum;by_cases up:∀ i,i<cs.length->x i<=f i
 ·exact zGP up (by rw[hq,sf])
 ·by_cases dn:∀ i,i<cs.length->f i<=x i
  ·intro i hi
   exact(zGP dn (by rw[hq,sf]) i hi).symm
  ·exfalso
   obtain⟨a,ha⟩:=Wz.mp up;obtain⟨ha,na⟩:=Classical.not_imp.mp ha;obtain⟨b,hb⟩:=Wz.mp dn;obtain⟨hb,nb⟩:=Classical.not_imp.mp hb;have pa:=Vf.mp na;have pb:=Vf.mp nb;rcases Nat.lt_trichotomy a b with z | z | z
   ·exact(two' a b z hb).1 ⟨pa,pb⟩
   ·subst z;exact absurd pa (by grind)
   ·exact(two' b a z ha).2 ⟨pb,pa⟩
theorem zJP{R:Rat->Int->Prop}:∀ {xs:List Rat} {c1 c2:List Int},A2 R xs (c1++c2)->A2 R (xs.take c1.length) c1/\A2 R (xs.drop c1.length) c2
 | xs,[],c2,h=>⟨trivial,h⟩
 | x::xs,c::c1,c2,h=>by
  have:=zJP (xs:=xs) (c1:=c1) (c2:=c2) h.2
  exact⟨⟨h.1,this.1⟩,this.2⟩
theorem zOQ{R:Rat->Int->Prop}:∀ {xs:List Rat} {cs:List Int},xs.length=cs.length->(∀ i,i<cs.length->R (xs.getD i 0) (cs.getD i 0))->A2 R xs cs
 | [],[],_,_=>trivial
 | x::xs,c::cs,hl,h=>⟨h 0 (Yw _),zOQ (by simpa using hl) fun i hi=>h (i+1) (by rw[Ql];omega)⟩
theorem zJk:∀ {xs:List Rat} {cs:List Int},A2 Bc xs cs->0<=xs.sum/\xs.sum<=((cs.sum:Int):Rat)
 | [],[],_=>⟨Vk,Vk⟩
 | x::xs,c::cs,h=>by
  have:=zJk h.2
  have:=h.1
  rw[Qm,Qm,Q6];unfold Bc at this;constructor<;>grind
theorem zNz{n:Nat}:∀ {ks:List D} {xs:List Rat},A2 Bc xs (ks.flatMap (clm n))->(∀ l k,ks[l]?=some k->A2 Bc ((sS (fun k=>(clm n k).length) ks xs).getD l []) (clm n k))/\xs.sum=((sS (fun k=>(clm n k).length) ks xs).map List.sum).sum
 | [],xs,h=>by
  have:xs=[]:=by
   cases xs with
   | nil=>rfl
   | cons a r=>exact h.elim
  subst this;exact⟨fun l k hl=>(by cases l<;>cases hl),rfl⟩
 | k::r,xs,h=>by
  rw[Vo] at h;obtain⟨h1,h2⟩:=zJP h;obtain⟨i1,i2⟩:=zNz h2;refine⟨fun l k' hl=>?_,?_⟩
  ·cases l with
   | zero=>cases hl;exact h1
   | succ l=>exact i1 l k' (by simpa using hl)
  ·rw[sS,Qj,Qm,<-i2,<-dO,Ym]
theorem zJH{P:D->Rat->List Rat->Prop}{m:D->Nat}{f:Nat->Rat}:∀ {ks:List D} {i:Nat} {xs:List Rat},xs.length=(ks.map m).sum->(∀ l k,ks[l]?=some k->P k (f (i+l)) ((sS m ks xs).getD l []))->ShL P ks f i xs
 | [],i,xs,hl,_=>by
  show xs=[]
  exact List.length_eq_zero_iff.mp hl
 | k::r,i,xs,hl,h=>by
  rw[Qj,Qm] at hl;refine⟨xs.take (m k),xs.drop (m k),(Ym _ _).symm,h 0 k rfl,zJH (m:=m) (by rw[Vu];omega) fun l k' hl'=>?_⟩
  have:=h (l+1) k' (by simpa using hl')
  rw[show i+(l+1)=i+1+l by omega] at this;exact this
theorem zHj{b:Nat}(hb:b<=300):∀ {n:Nat} {d:D} {xs:List Rat},n<=9->Gc n d->AR n d xs->A2 Bc xs (clm n d)->Am b xs->Sh n d xs.sum xs
 | 0,_,_,_,g,_,_,_=>g.1.elim
 | n+1,d,xs,h9,g,ar,bd,am=>by
  rcases g.1 with⟨c,rfl⟩ | ⟨w,ws,ks,rfl,hw,k0,k1,w1,hy,hk⟩
  ·refine .inl ⟨c,rfl,?_⟩
   have ec:clm (n+1) (.tup [.str "boat", .int c])=[c]:=rfl;rw[ec] at bd
   match xs,bd with
   | [x],_=>rw[Qm,Vn,Xt]
  ·obtain⟨v,rfl⟩:=zES hy.1
   have due:v.due ws (kcl n ks):=zAN (by rw[dR];exact hy.2)
   have cl:=g.cl hk k0;obtain⟨a1,a2⟩:=lN.mp ar;have ec:clm (n+1) (.tup [.str v.s,.tup (ws.map D.int),.tup ks])=ks.flatMap (clm n):=rfl;have es:(kcl n ks).sum=(clm (n+1) (.tup [.str v.s,.tup (ws.map D.int),.tup ks])).sum:=wK ks;have bs:=zJk bd;rw[<-es] at bs;rw[ec] at bd;obtain⟨p1,p2⟩:=zNz bd;have kl:(kcl n ks).length=ks.length:=dR n ks;have pl:(pcs n ks xs).length=ks.length:=iZ ks xs
   have sx:xs.sum=((List.range (kcl n ks).length).map (sK n ks xs)).sum:=by
    rw[p2,kl];have:=zGx n ks xs
    show((pcs n ks xs).map List.sum).sum=_
    rw[this,Q4];rfl
   have zq:=am.sum.1;have gs:=g.sum;have hq:Haul (41+b) xs.sum (kcl n ks).sum:=⟨bs.1,bs.2,zq⟩;obtain⟨f,_,al⟩:=uB (w:=v) (ws:=ws) (cs:=kcl n ks) (wd:=.lst (ws.map D.int)) (cd:=.lst ((kcl n ks).map D.int)) (.inl rfl) (.inl rfl) (by omega) due cl hq
   have dl:=(zKW due cl hq al).mono (show 41+b+370<=1400 by omega)
   have kb:∀ l k,ks[l]?=some k->0<=sK n ks xs l/\sK n ks xs l<=((clm n k).sum:Rat):=fun l k hl=>zJk (p1 l k hl)
   have cv:=zPq due cl (x:=sK n ks xs) (f:=f) (q:=xs.sum) (fun i hi=>by
    have hi':i<ks.length:=by omega
    have e:ks[i]?=some ks[i]:=Qk hi';have:=kb i _ e
    rw[(zD (n:=n) e).2]
    exact this) (fun i j hij hj=>a1 i j hij (by omega)) sx.symm al dl
   refine .inr ⟨v,ws,ks,f,rfl,due,al.mono (by omega),zJH (m:=fun k=>(clm n k).length) ?_ fun l k hl=>?_⟩
   ·have:=bd.len
    rw[this,Uj]
   ·have hl':l<ks.length:=(Q2.mp hl).1
    rw[Q5,<-cv l (by omega)];exact zHj hb (by omega) (g.kid hk (Qg hl)) (a2 l k hl) (p1 l k hl) (am.pc l)
theorem zMX{a0 a1 a2:Sl}{y c:Int}{r:List Int}(hr:r.length<=100):∃ z:Int,zEt 3 (eC (.int 10007)) (aE 4) (eOp zBy (eC (.int 10)) (eC (.int 45))) [a0,a1,a2,.own ((y::r).map D.int),.val (.int c)]=.ok (.nx [a0,a1,a2,.own ((r++[z]).map D.int),.val (.int c)]):=by
 refine⟨(y*10007+c) % 10^45,?_⟩
 unfold zEt;symm;rw[oPow_i (by decide)];symm;rw[if_pos (by omega),Qw];rfl
theorem zIY{ns:List Int}(hl:ns.length<=63){m:Int}(m1:1<=m)(m2:m<=50):∃ cs:List Int,gG [.lst (ns.map D.int),.int 13,.int m]=.ok (.f (cs.map D.int)):=by
 unfold gG;symm;rw[zEY (by decide),<-List.map_drop];symm;rw[if_pos (by rw[Vu];omega)];symm;refine hZ (Q:=fun r=>∃ cs:List Int,r.bind fin=.ok (.f (cs.map D.int))) (k:=zAQ nG) (fun i ρ=>∃(cs:List Int)(a4:Sl),ρ=[.val (.lst (ns.map D.int)),.val (.int 13),.val (.int m),.own (cs.map D.int),a4]/\cs.length<=50) ⟨[],_,rfl,by decide⟩ ?_ ?_
 ·rintro i e ρ he ⟨cs,a4,rfl,hc⟩
  obtain⟨c,rfl⟩:∃ c:Int,e=.int c:=by
   have he':=Qg he;rcases Qc.mp he' with rfl | he'
   ·exact⟨_,rfl⟩
   ·obtain⟨c,_,rfl⟩:=Qv.mp he'
    exact⟨c,rfl⟩
  by_cases z:(cs.length:Int)<m
  ·refine⟨[.val (.lst (ns.map D.int)),.val (.int 13),.val (.int m),.own ((cs++[c]).map D.int),.val (.int c)],?_,_,_,rfl,by rw[Qi,Xl];omega⟩
   symm;rw[decide_eq_true z];symm;rw[if_pos (by omega),Qw];rfl
  ·match cs,hc,z with
   | [],_,z=>exact absurd (show((0:Nat):Int)<m by omega) z
   | y::r,hc,z=>
    rw[Ql] at hc;obtain⟨w,ew⟩:=zMX (a0:=.val (.lst (ns.map D.int))) (a1:=.val (.int 13)) (a2:=.val (.int m)) (y:=y) (c:=c) (r:=r) (by omega)
    refine⟨[.val (.lst (ns.map D.int)),.val (.int 13),.val (.int m),.own ((r++[w]).map D.int),.val (.int c)],?_,_,_,rfl,by rw[Qi,Xl];omega⟩
    show jG [.val (.lst (ns.map D.int)),.val (.int 13),.val (.int m),.own ((y::r).map D.int),.val (.int c)]=_
    rw[<-ew];unfold jG;generalize hK:zEt 3 (eC (.int 10007)) (aE 4) (eOp zBy (eC (.int 10)) (eC (.int 45)))=K;generalize hL:y::r=l at z;symm;rw[decide_eq_false z];symm
 ·rintro ρ ⟨cs,a4,rfl,_⟩
  exact⟨cs,rfl⟩
def prs(m:Nat):List (Nat×Nat):=(List.range m).flatMap fun i=>(List.range (m-(i+1))).map fun j=>(i,i+1+j)
abbrev Pp:=List Int×Nat×Nat
def toD(t:Pp):D:=dX (t.1.map D.int) t.2.1 t.2.2
def plk(f:D->List Int->List Pp)(ks:List D)(P:List Int)(m:Nat):List Pp:=(List.range m).flatMap fun l=>f (ks.getD l .non) (P++[(l:Int)])
def pl:Nat->D->List Int->List Pp
 | 0,_,_=>[]
 | n+1,d,P=>match d with
  | .tup [_,_,.tup ks]=>(prs ks.length).map (fun p=>(P,p.1,p.2))++plk (pl n) ks P ks.length
  | _=>[]
theorem zCF{n:Nat}{c:Int}{P:List Int}:pl (n+1) (.tup [.str "boat", .int c]) P=[]:=rfl
theorem tH{n:Nat}{w a:D}{ks:List D}{P:List Int}:pl (n+1) (.tup [w,a,.tup ks]) P=(prs ks.length).map (fun p=>(P,p.1,p.2))++plk (pl n) ks P ks.length:=rfl
theorem zFY{m i j:Nat}:(i,j)∈prs m ↔ i<j/\j<m:=by
 unfold prs;rw[Yo];constructor
 ·rintro⟨a,ha,h⟩
  obtain⟨b,hb,e⟩:=Qv.mp h;injection e with e1 e2
  have:=Qt.mp ha
  have:=Qt.mp hb
  omega
 ·rintro⟨h1,h2⟩
  exact⟨i,Qt.mpr (by omega),Qv.mpr ⟨j-(i+1),Qt.mpr (by omega),by congr 1;omega⟩⟩
theorem zKO(m:Nat):(prs m).length<=m*m:=by
 unfold prs;rw[Uj]
 have:∀ l:List Nat,(l.map fun i=>((List.range (m-(i+1))).map fun j=>(i,i+1+j)).length).sum<=l.length*m:=by
  intro l
  induction l with
  | nil=>simp
  | cons a l ih=>
   rw[Qj,Qm,Ql,Qd,Qu,Nat.succ_mul];omega
 have:=this (List.range m)
 rw[Qu] at this;exact this
theorem zQm{n:Nat}{w a:D}{ks:List D}:kn (n+1) (.tup [w,a,.tup ks])=1+(ks.map (kn n)).sum:=rfl
theorem zHU{f:D->List Int->List Pp}{g:D->Nat}{P:List Int}{ks:List D}(h:∀ k∈ks,∀ P,(f k P).length<=144*g k):∀ m,m<=ks.length->(plk f ks P m).length<=144*((ks.take m).map g).sum
 | 0,_=>Q7 _
 | m+1,hm=>by
  have ih:=zHU (P:=P) h m (by omega)
  have e:ks[m]?=some ks[m]:=Qk (by omega)
  have hk:=h ks[m] (Vs _) (P++[(m:Int)]);unfold plk at ih ⊢
  rw[Xb,Vr,Qi,Yd,e,Qw,V4];simp only[Vo,Yz,Q3,Option.toList,Qj,Vq,Qm,Vn];rw[show ks.getD m .non=ks[m] by rw[Qq,e];rfl];omega
theorem zGb:∀ {n:Nat} {d:D} {P:List Int},Gc n d->(pl n d P).length<=144*kn n d
 | 0,_,_,g=>g.1.elim
 | n+1,d,P,g=>by
  rcases g.1 with⟨c,rfl⟩ | ⟨w,ws,ks,rfl,hw,k0,k1,w1,hy,hk⟩
  ·rw[zCF];exact Q7 _
  ·have l12:(ks.flatMap (clm n)).length<=12:=g.2.1
   have kl:=lV hk;have a:=zKO ks.length;have b:=zHU (f:=pl n) (g:=kn n) (P:=P) (ks:=ks) (fun k hk' P=>zGb (g.kid hk hk')) ks.length (Qb _)
   have c:ks.length*ks.length<=144:=by
    have:=Nat.mul_le_mul (show ks.length<=12 by omega) (show ks.length<=12 by omega)
    omega
   rw[tH,zQm,Qi,Qd];rw[Xa] at b;omega
theorem zKD(t:Pp):noL (toD t)=true:=by
 unfold toD dX;rw[noL];have:noLs (t.1.map D.int)=true:=xE fun d hd=>by obtain⟨x,_,rfl⟩:=Qv.mp hd;rfl
 simp only[noLs,noL,this,Bool.and_self,Ua]
theorem zIy(l:List Pp):noLs (l.map toD)=true:=xE fun d hd=>by obtain⟨t,_,rfl⟩:=Qv.mp hd;exact zKD t
theorem zEr{n N:Nat}{d:D}{ks:List D}(rec:∀ (d:D) (P:List Int),Gc n d->kn n d<=100->P.length+n<=1000->bN N [d,.tup (P.map D.int)]=.ok (.f ((pl n d P).map toD)))(gk0:∀ k∈ks,Gc n k)(i2:oIx d (.int 2)=.ok (.tup ks))(P:List Int)(hP:P.length+(n+1)<=1000)(h9:n+1<=9)(sk:(ks.map (kn n)).sum<=99)(kl:ks.length<=12)(tt:(prs ks.length).length+(plk (pl n) ks P ks.length).length<=14400)(plm:∀ m,m<=ks.length->(plk (pl n) ks P m).length<=(plk (pl n) ks P ks.length).length)(a3 a4:Sl):
  (oT (bN N) [.val d,.val (.tup (P.map D.int)),.own (((prs ks.length).map (fun p=>((P,p.1,p.2):Pp))++plk (pl n) ks P 0).map toD),a3,a4,.un]).bind fin=.ok (.f (((prs ks.length).map (fun p=>((P,p.1,p.2):Pp))++plk (pl n) ks P ks.length).map toD)):=by
 have lr:(rng 0 ks.length 1).length=ks.length:=by unfold rng;rw[Qd,Qu]
 symm;rw[i2];symm;rw[uU (by omega) (by omega),Vc];symm
 refine hZ (Q:=fun r=>r.bind fin=.ok (.f (((prs ks.length).map (fun p=>((P,p.1,p.2):Pp))++plk (pl n) ks P ks.length).map toD))) (k:=zAQ (pC (bN N)))
  (fun l ρ=>∃ a3 a4 a5,l<=ks.length/\ρ=[.val d,.val (.tup (P.map D.int)),.own (((prs ks.length).map (fun p=>((P,p.1,p.2):Pp))++plk (pl n) ks P l).map toD),a3,a4,a5]) ⟨a3,a4,.un,Q7 _,rfl⟩ ?_ ?_
 ·rintro l e ρ he ⟨a3,a4,a5,hl',rfl⟩
  obtain⟨hl,rfl⟩:=wG he;rw[show(0:Int)+(l:Int)*1=(l:Int) by omega];have ek:ks[l]?=some ks[l]:=Qk hl
  have ik:oIx (.tup ks) (.int (l:Int))=.ok ks[l]:=by
   have:=rD (f:=fun d:D=>d) (l:=ks) (i:=(l:Int)) (a:=ks[l]) (Va l) (by rw[Vc];exact ek)
   rwa [Yn] at this
  have ap:nZ (.tup (P.map D.int)) (.tup [.int (l:Int)])=.ok (.tup ((P++[(l:Int)]).map D.int)):=by
   rw[Qw];exact if_pos (by rw[Qd];show P.length+1<=16777216;omega)
  have mk:=Vs hl
  have knk:kn n ks[l]<=100:=by
   have:∀(l:List D)(k:D),k∈l->kn n k<=(l.map (kn n)).sum:=by
    intro l k hk
    induction l with
    | nil=>cases hk
    | cons a r ih=>
     rw[Qj,Qm];rcases Qc.mp hk with rfl | h
     ·omega
     ·have:=ih h;omega
   have:=this ks _ mk
   omega
  have rc:=rec ks[l] (P++[(l:Int)]) (gk0 _ mk) knk (by rw[Qi,Xl];omega)
  have e1:plk (pl n) ks P (l+1)=plk (pl n) ks P l++pl n ks[l] (P++[(l:Int)]):=by
   unfold plk;rw[Xb,Vr];simp only[Vo,Yz,Q3];rw[show ks.getD l .non=ks[l] by rw[Qq,ek];rfl]
  have pm:=plm (l+1) (by omega)
  rw[e1,Qi] at pm;refine⟨[.val d,.val (.tup (P.map D.int)),.own (((prs ks.length).map (fun p=>((P,p.1,p.2):Pp))++plk (pl n) ks P (l+1)).map toD),a3,a4,.val (.int (l:Int))],?_,_,_,_,by omega,rfl⟩
  symm;rw[i2];symm;rw[ik];symm;rw[ap];symm;rw[rc];symm;rw[if_pos (by simp only[Qi,Qd];omega)];symm;rw[<-Qw,Vp,<-e1,if_pos (zIy _)];symm
 ·rintro ρ ⟨a3,a4,a5,_,rfl⟩
  rw[lr];rfl
theorem zHq{n N:Nat}{d:D}{ks:List D}(i2:oIx d (.int 2)=.ok (.tup ks))(P:List Int)(kl:ks.length<=12)(lp:(prs ks.length).length<=14400)(prm:∀ m,m<=ks.length->((List.range m).flatMap fun i=>(List.range (ks.length-(i+1))).map fun j=>(i,i+1+j)).length<=(prs ks.length).length)(x3 x4:Sl):
  ∃ a3 a4,loop (gName 3) (kO (bN N)) (rng 0 ks.length 1) [.val d,.val (.tup (P.map D.int)),.own [],x3,x4,.un]=.ok (.nx [.val d,.val (.tup (P.map D.int)),.own (((prs ks.length).map (fun p=>((P,p.1,p.2):Pp))++plk (pl n) ks P 0).map toD),a3,a4,.un]):=by
 have hX:((List.range ks.length).flatMap fun i=>(List.range (ks.length-(i+1))).map fun j=>(i,i+1+j)).map (fun p:Nat×Nat=>toD (P,p.1,p.2))=((prs ks.length).map (fun p=>((P,p.1,p.2):Pp))++plk (pl n) ks P 0).map toD:=by
  unfold plk prs;rw[Wc,Yz,Q3,Q4];rfl
 rw[<-hX];have lr:(rng 0 ks.length 1).length=ks.length:=by unfold rng;rw[Qd,Qu]
 rw[<-zHO (loop (gName 3) (kO (bN N)) _ _)]
 refine hZ (Q:=fun r=>∃ a3 a4,r=.ok (.nx [.val d,.val (.tup (P.map D.int)),.own (((List.range ks.length).flatMap fun i=>(List.range (ks.length-(i+1))).map fun j=>(i,i+1+j)).map (fun p:Nat×Nat=>toD (P,p.1,p.2))),a3,a4,.un])) (k:=fun r=>.ok r)
  (fun i ρ=>∃ a3 a4,ρ=[.val d,.val (.tup (P.map D.int)),.own ((((List.range i).flatMap fun i=>(List.range (ks.length-(i+1))).map fun j=>(i,i+1+j)).map (fun p=>toD (P,p.1,p.2)))),a3,a4,.un]) ⟨_,_,rfl⟩ ?_ ?_
 ·rintro i e ρ he ⟨a3,a4,rfl⟩
  obtain⟨hi,rfl⟩:=wG he;rw[show(0:Int)+(i:Int)*1=(i:Int) by omega];symm;rw[i2];symm;rw[zHA (by omega) (by omega) (by omega) (by omega)];symm;rw[<-zHO (loop (gName 4) (oK (bN N)) _ _)];have ll:(rng ((i:Int)+1) ((ks.length:Int)-((i:Int)+1)).toNat 1).length=ks.length-(i+1):=by unfold rng;rw[Qd,Qu];omega
  have pm:=prm (i+1) (by omega)
  rw[Xb,Vr,Qi] at pm;simp only[Vo,Yz,Q3,Qd,Qu] at pm
  refine hZ (Q:=fun r=>∃ ρ2,r=.ok (.nx ρ2)/\∃ a3 a4,ρ2=[.val d,.val (.tup (P.map D.int)),.own ((((List.range (i+1)).flatMap fun i=>(List.range (ks.length-(i+1))).map fun j=>(i,i+1+j)).map (fun p=>toD (P,p.1,p.2)))),a3,a4,.un]) (k:=fun r=>.ok r)
   (fun j ρ=>∃ a4,j<=ks.length-(i+1)/\ρ=[.val d,.val (.tup (P.map D.int)),.own ((((List.range i).flatMap fun i=>(List.range (ks.length-(i+1))).map fun j=>(i,i+1+j)).map (fun p=>toD (P,p.1,p.2)))++(List.range j).map fun j=>toD (P,i,i+1+j)),.val (.int (i:Int)),a4,.un]) ⟨_,Q7 _,by rw[Wc,Vq,Q3]⟩ ?_ ?_
  ·rintro j e ρ he ⟨a4,hj',rfl⟩
   obtain⟨hj,rfl⟩:=wG he;rw[show((i:Int)+1)+(j:Int)*1=((i+1+j:Nat):Int) by omega];refine⟨[.val d,.val (.tup (P.map D.int)),.own ((((List.range i).flatMap fun i=>(List.range (ks.length-(i+1))).map fun j=>(i,i+1+j)).map (fun p=>toD (P,p.1,p.2)))++(List.range (j+1)).map fun j=>toD (P,i,i+1+j)),.val (.int (i:Int)),.val (.int ((i+1+j:Nat):Int)),.un],?_,_,by omega,rfl⟩
   symm;rw[if_pos (by rw[Qi,Qd,Qd,Qu];omega)];rw[Xb (n:=j),Qw,Vp];rfl
  ·rintro ρ ⟨a4,_,rfl⟩
   refine⟨_,rfl,.val (.int (i:Int)),a4,?_⟩
   have ee:((List.range (i+1)).flatMap fun i=>(List.range (ks.length-(i+1))).map fun j=>(i,i+1+j)).map (fun p:Nat×Nat=>toD (P,p.1,p.2))=(((List.range i).flatMap fun i=>(List.range (ks.length-(i+1))).map fun j=>(i,i+1+j)).map (fun p:Nat×Nat=>toD (P,p.1,p.2)))++(List.range (ks.length-(i+1))).map fun j=>toD (P,i,i+1+j):=by
    rw[Xb,Vr,Qw];simp only[Vo,Yz,Q3,Q4];rfl
   rw[ll,ee]
 ·rintro ρ ⟨a3,a4,rfl⟩
  exact⟨a3,a4,by rw[lr]⟩
theorem zOG(k:Sv)(ρ:Rho):(Res.ok (Fl.nx ρ)).bind (zAQ k)=k ρ:=rfl
theorem zHE{n N:Nat}(rec:∀ (d:D) (P:List Int),Gc n d->kn n d<=100->P.length+n<=1000->bN N [d,.tup (P.map D.int)]=.ok (.f ((pl n d P).map toD)))(d:D)(P:List Int)(g:Gc (n+1) d)(h9:n+1<=9)(hkn:kn (n+1) d<=100)(hP:P.length+(n+1)<=1000):bN (N+1) [d,.tup (P.map D.int)]=.ok (.f ((pl (n+1) d P).map toD)):=by
  show iC (bN N) _=_
  rcases g.1 with⟨c,rfl⟩ | ⟨w,ws,ks,rfl,hw,k0,k1,w1,hy,hk⟩
  ·unfold iC
   symm;rw[zCF];rfl
  ·have l12:(ks.flatMap (clm n)).length<=12:=g.2.1
   have kl:=lV hk;have tot:=zGb (P:=P) g;have gk0:=fun k (mk:k∈ks)=>g.kid (n:=n) hk mk
   have sk:(ks.map (kn n)).sum<=99:=by rw[zQm] at hkn;omega
   rw[tH] at tot ⊢
   rw[Qi,Qd] at tot;have tt:(prs ks.length).length+(plk (pl n) ks P ks.length).length<=14400:=Qp tot (by omega)
   have plm:∀ m,m<=ks.length->(plk (pl n) ks P m).length<=(plk (pl n) ks P ks.length).length:=fun m hm=>by
    unfold plk;rw[Uj,Uj]
    have:(List.range ks.length)=List.range m++(List.range (ks.length-m)).map (m+·):=by
     have:=List.range_add (n:=m) (m:=ks.length-m)
     rw[show m+(ks.length-m)=ks.length by omega] at this;exact this
    rw[this,Qw,V4];omega
   generalize hd:D.tup [.str w,.tup (ws.map D.int),.tup ks]=d at *;have i2:oIx d (.int 2)=.ok (.tup ks):=by rw[<-hd];rfl
   have i0:oIx d (.int 0)=.ok (.str w):=by rw[<-hd];rfl
   have prm:∀ m,m<=ks.length->((List.range m).flatMap fun i=>(List.range (ks.length-(i+1))).map fun j=>(i,i+1+j)).length<=(prs ks.length).length:=fun m hm=>by
    unfold prs
    have:(List.range ks.length)=List.range m++(List.range (ks.length-m)).map (m+·):=by
     have:=List.range_add (n:=m) (m:=ks.length-m)
     rw[show m+(ks.length-m)=ks.length by omega] at this;exact this
    conv=>rhs;rw[this]
    rw[Vr,Qi];omega
   unfold iC;symm;rw[i0];symm;rw[hw];symm;rw[i2];symm;rw[uU (by omega) (by omega),Vc];symm;obtain⟨a3,a4,e⟩:=zHq (n:=n) (N:=N) i2 P (by omega) (by omega) prm .un .un
   rw[e,zOG];exact zEr rec gk0 i2 P hP h9 sk (by omega) tt plm a3 a4
theorem zHD:∀(n N:Nat)(d:D)(P:List Int),Gc n d->n<=N->n<=9->kn n d<=100->P.length+n<=1000->bN N [d,.tup (P.map D.int)]=.ok (.f ((pl n d P).map toD))
 | 0,_,_,_,g,_,_,_,_=>g.1.elim
 | n+1,0,_,_,_,h,_,_,_=>absurd h (by omega)
 | n+1,N+1,d,P,g,hN,h9,hkn,hP=>zHE (fun d P g k p=>zHD n N d P g (by omega) (by omega) k p) d P g h9 hkn hP
inductive Rch:Nat->D->List Rat->List Int->Nat->D->List Rat->Prop
 | here {n:Nat} {d:D} {xs:List Rat}:Rch n d xs [] n d xs
 | step {n m l:Nat} {v:Wy} {ws:List Int} {ks:List D} {k e:D} {xs ys:List Rat} {Q:List Int}:ks[l]?=some k->Rch n k ((pcs n ks xs).getD l []) Q m e ys->Rch (n+1) (.tup [.str v.s,.tup (ws.map D.int),.tup ks]) xs ((l:Int)::Q) m e ys
theorem yM{n:Nat}{v:Wy}{ws:List Int}{ks:List D}(g:Gc (n+1) (.tup [.str v.s,.tup (ws.map D.int),.tup ks])):(∀ k∈ks,IsC n k)/\0<ks.length/\v.due ws (kcl n ks):=by
 rcases g.1 with⟨c,e⟩ | ⟨w',ws',ks',e,hw,k0,k1,w1,hy,hk⟩
 ·simp at e
 ·simp only[D.tup.injEq,Xu,and_true,D.str.injEq] at e
  obtain⟨e1,e2,rfl⟩:=e;have:=tR e2
  subst this;subst e1;obtain⟨v',e3⟩:=zES hy.1;have:=zJL e3
  subst this;exact⟨hk,k0,zAN (by rw[dR];exact hy.2)⟩
theorem Rch.gc{n m:Nat}{d e:D}{xs ys:List Rat}{Q:List Int}(h:Rch n d xs Q m e ys):Gc n d->Gc m e/\m<=n:=by
 induction h with
 | here=>intro g;exact⟨g,Qb _⟩
 | step hk _ ih=>
  intro g;obtain⟨a,b⟩:=ih (g.kid (yM g).1 (Qg hk));exact⟨a,by omega⟩
theorem Rch.am{b n m:Nat}{d e:D}{xs ys:List Rat}{Q:List Int}(h:Rch n d xs Q m e ys):Am b xs->Am b ys:=by
 induction h with
 | here=>exact id
 | step _ _ ih=>intro am;exact ih (am.pc _)
theorem Rch.len{n m:Nat}{d e:D}{xs ys:List Rat}{Q:List Int}(h:Rch n d xs Q m e ys):Q.length+m=n:=by
 induction h with
 | here=>exact Q5 _
 | step _ _ ih=>rw[Ql];omega
theorem zJG{ks:List D}{k:D}{l:Nat}(h:ks[l]?=some k):oIx (.tup ks) (.int (l:Int))=.ok k:=by
 have:=rD (f:=fun d:D=>d) (l:=ks) (i:=(l:Int)) (a:=k) (Va l) (by rw[Vc];exact h)
 rwa [Yn] at this
theorem zJo{n m:Nat}{d e:D}{xs ys:List Rat}{Q:List Int}(h:Rch n d xs Q m e ys):Gc n d->∀(a1 a2 a3:Sl),∃ b2 b3,loop (gName 2) qT (Q.map D.int) [.val d,a1,a2,a3]=.ok (.nx [.val e,a1,b2,b3]):=by
 induction h with
 | here=>intro _ a1 a2 a3;exact⟨a2,a3,rfl⟩
 | @step n m l v ws ks k e xs ys Q hk _ ih=>
  intro g a1 a2 a3;have gk:=yM g;obtain⟨b2,b3,eb⟩:=ih (g.kid gk.1 (Qg hk)) a1 (.val (.int (l:Int))) (.val (.tup ks));have hl:l<ks.length:=(Q2.mp hk).1;have ix:=zJG hk;refine⟨b2,b3,?_⟩
  rw[Qj,fB (ρ1:=[.val (.tup [.str v.s,.tup (ws.map D.int),.tup ks]),a1,.val (.int (l:Int)),a3]) rfl (ρ2:=[.val k,a1,.val (.int (l:Int)),.val (.tup ks)]) ?_,eb];symm;rw[cM (fA v)];symm;rw[decide_eq_false (show ¬ (l:Int)<0 by omega)];symm;rw[decide_eq_false (show ¬ (ks.length:Int)<=(l:Int) by omega)];symm;rw[ix];symm
theorem zIk{n m:Nat}{d e:D}{xs ys:List Rat}{Q:List Int}(h:Rch n d xs Q m e ys)(g:Gc n d):oV [d,.tup (Q.map D.int)]=.ok (.v e):=by
 obtain⟨b2,b3,eb⟩:=zJo h g (.val (.tup (Q.map D.int))) .un .un;unfold oV;generalize hK:(qT:Sv)=K at eb ⊢;symm;rw[eb];rfl
theorem zLW{kd:Bool}{n m:Nat}{d e:D}{xs ys:List Rat}{Q:List Int}(h:Rch n d xs Q m e ys):Gc n d->n<=9->∀(a2 a3:Sl),∃ b3,loop (gName 3) jF (Q.map D.int) [.val d,.val (mkA kd xs),a2,a3]=.ok (.nx [.val e,.val (mkA kd ys),a2,b3]):=by
 induction h with
 | here=>intro _ _ a2 a3;exact⟨a3,rfl⟩
 | @step n m l v ws ks k e xs ys Q hk _ ih=>
  intro g h9 a2 a3;have gk:=yM g;have l12:(ks.flatMap (clm n)).length<=12:=g.2.1;obtain⟨b3,eb⟩:=ih (g.kid gk.1 (Qg hk)) (by omega) a2 (.val (.int (l:Int)))
  have hl:l<ks.length:=(Q2.mp hk).1;have pl:(pcs n ks xs).length=ks.length:=iZ ks xs;have ix:=zJG hk;refine⟨b3,?_⟩
  rw[Qj,fB (ρ1:=[.val (.tup [.str v.s,.tup (ws.map D.int),.tup ks]),.val (mkA kd xs),a2,.val (.int (l:Int))]) rfl (ρ2:=[.val k,.val (mkA kd ((pcs n ks xs).getD l [])),a2,.val (.int (l:Int))]) ?_,eb];symm;rw[pD (fA v) (by omega) gk.1 l12];symm;rw[show sS (fun k=>(clm n k).length) ks xs=pcs n ks xs from rfl,zCY (by omega)];symm;rw[cM (fA v)];symm;rw[ix];symm
theorem zAE{kd:Bool}{n m:Nat}{d e:D}{xs ys:List Rat}{Q:List Int}(h:Rch n d xs Q m e ys)(g:Gc n d)(h9:n<=9):gB [d,mkA kd xs,.tup (Q.map D.int)]=.ok (.v (mkA kd ys)):=by
 obtain⟨b3,eb⟩:=zLW (kd:=kd) h g h9 (.val (.tup (Q.map D.int))) .un;unfold gB;generalize hK:(jF:Sv)=K at eb ⊢;symm;rw[eb];rfl
abbrev kt(v:Wy)(ws:List Int)(ks:List D):D:=.tup [.str v.s,.tup (ws.map D.int),.tup ks]
theorem zAT{kd:Bool}{n m i j b:Nat}{v:Wy}{ws:List Int}{ks:List D}{d:D}{xs ys:List Rat}{Q:List Int}(h:Rch n d xs Q (m+1) (kt v ws ks) ys)(g:Gc n d)(h9:n<=9)(am:Am b xs)(hb:b<=1200)(ij:i<j)(jk:j<ks.length):
  ∃ r:Bool,jU [d,mkA kd xs,dX (Q.map D.int) i j]=.ok (.v (.bl r))/\(r=true ↔ ¬ Rt3 m v ws ks ys i j):=by
 have fk:=zIk h g;have fa:=zAE (kd:=kd) h g h9;obtain⟨ge,hm⟩:=h.gc g;obtain⟨hk,k0,due⟩:=yM ge;obtain⟨r,er,hr,_⟩:=zCm (kd:=kd) (i:=i) (j:=j) ge (by omega) hk k0 due (h.am am) hb (by omega) jk
 refine⟨r,?_,?_⟩
 ·unfold jU dX
  symm;rw[fk];symm;rw[decide_eq_false (show ¬ (i:Int)<0 by omega)];symm;rw[decide_eq_false (show ¬ (j:Int)<=(i:Int) by omega)];symm;rw[cM (fA v)];symm;rw[decide_eq_false (show ¬ (ks.length:Int)<=(j:Int) by omega)];symm;rw[fa];symm;rw[er];symm
 ·constructor
  ·intro h z
   have:=hr.mpr z
   rw[h] at this;cases this
  ·intro z
   cases r with
   | true=>rfl
   | false=>exact absurd (hr.mp rfl) z
def Bad(n:Nat)(d:D)(xs:List Rat)(Q:List Int)(i j:Nat):Prop:=∃(m:Nat)(v:Wy)(ws:List Int)(ks:List D)(ys:List Rat),Rch n d xs Q (m+1) (kt v ws ks) ys/\i<j/\j<ks.length/\¬ Rt3 m v ws ks ys i j
theorem zKp:∀ {n:Nat} {d:D} {P:List Int} {t:Pp} (xs:List Rat),Gc n d->t∈pl n d P->∃(Q:List Int)(m:Nat)(v:Wy)(ws:List Int)(ks:List D)(ys:List Rat),Rch n d xs Q (m+1) (kt v ws ks) ys/\t.1=P++Q/\t.2.1<t.2.2/\t.2.2<ks.length
 | 0,_,_,_,_,g,_=>g.1.elim
 | n+1,d,P,t,xs,g,h=>by
  rcases g.1 with⟨c,rfl⟩ | ⟨w,ws,ks,rfl,hw,k0,k1,w1,hy,hk⟩
  ·rw[zCF] at h;cases h
  ·obtain⟨v,rfl⟩:=zES hy.1
   rw[tH] at h;rcases V6.mp h with h | h
   ·obtain⟨⟨i,j⟩,hp,rfl⟩:=Qv.mp h
    have:=zFY.mp hp
    exact⟨[],n,v,ws,ks,xs,.here,(Q3 _).symm,this.1,this.2⟩
   ·obtain⟨l,hl,ht⟩:=Yo.mp h
    have hl:=Qt.mp hl;have e:ks[l]?=some ks[l]:=Qk hl;rw[show ks.getD l .non=ks[l] by rw[Qq,e];rfl] at ht;obtain⟨Q,m,v',ws',ks',ys,r,e1,h1,h2⟩:=zKp ((pcs n ks xs).getD l []) (g.kid hk (Vs hl)) ht;exact⟨(l:Int)::Q,m,v',ws',ks',ys,.step e r,by rw[e1,Vp];rfl,h1,h2⟩
theorem zQf{n m':Nat}{d e:D}{xs ys:List Rat}{Q:List Int}(h:Rch n d xs Q m' e ys):∀ {m:Nat} {v:Wy} {ws:List Int} {ks:List D} {i j:Nat} (P:List Int),m'=m+1->e=kt v ws ks->i<j->j<ks.length->(P++Q,i,j)∈pl n d P:=by
 induction h with
 | here=>
  intro m v ws ks i j P em ee ij jk;subst em;subst ee;rw[Q3];show _∈pl (m+1) (.tup [.str v.s,.tup (ws.map D.int),.tup ks]) P
  rw[tH];exact Xw _ (Qv.mpr ⟨(i,j),zFY.mpr ⟨ij,jk⟩,rfl⟩)
 | @step n m0 l v0 ws0 ks0 k e xs ys Q hk _ ih=>
  intro m v ws ks i j P em ee ij jk;have hl:l<ks0.length:=(Q2.mp hk).1;have:=ih (P++[(l:Int)]) em ee ij jk
  rw[tH];refine Qx _ (Yo.mpr ⟨l,Qt.mpr hl,?_⟩)
  rw[show ks0.getD l .non=k by rw[Qq,hk];rfl];rw[Vp] at this;exact this
theorem zNL{n m':Nat}{d e:D}{xs ys:List Rat}{Q:List Int}(h:Rch n d xs Q m' e ys):∀ {m:Nat} {v:Wy} {ws:List Int} {ks:List D} {i j:Nat},AR n d xs->m'=m+1->e=kt v ws ks->i<j->j<ks.length->Rt3 m v ws ks ys i j:=by
 induction h with
 | here=>
  intro m v ws ks i j ar em ee ij jk;subst em;subst ee;exact(lN.mp ar).1 i j ij jk
 | step hk _ ih=>
  intro m v ws ks i j ar em ee ij jk;exact ih ((lN.mp ar).2 _ _ hk) em ee ij jk
theorem Bad.not{n:Nat}{d:D}{xs:List Rat}{Q:List Int}{i j:Nat}(h:Bad n d xs Q i j):¬ AR n d xs:=fun ar=>by
 obtain⟨m,v,ws,ks,ys,r,ij,jk,no⟩:=h;exact no (zNL r ar rfl rfl ij jk)
theorem Bad.mem{n:Nat}{d:D}{xs:List Rat}{Q:List Int}{i j:Nat}(h:Bad n d xs Q i j):(Q,i,j)∈pl n d []:=by
 obtain⟨m,v,ws,ks,ys,r,ij,jk,no⟩:=h;exact zQf r [] rfl rfl ij jk
theorem oQ{kd:Bool}{b:Nat}(hb:b<=1200):∀(n N:Nat)(d:D)(xs:List Rat)(P:List Int),Gc n d->n<=N->n<=9->Am b xs->P.length+n<=1000->
  (aQ N [d,mkA kd xs,.tup (P.map D.int)]=.ok (.v .non)/\AR n d xs)∨∃(Q:List Int)(i j:Nat),aQ N [d,mkA kd xs,.tup (P.map D.int)]=.ok (.v (dX ((P++Q).map D.int) i j))/\Bad n d xs Q i j
 | 0,_,_,_,_,g,_,_,_,_=>g.1.elim
 | n+1,0,_,_,_,_,h,_,_,_=>absurd h (by omega)
 | n+1,N+1,d,xs,P,g,hN,h9,am,hP=>by
  rcases g.1 with⟨c,rfl⟩ | ⟨w,ws,ks,rfl,hw,k0,k1,w1,hy,hk⟩
  ·refine .inl ⟨?_,fun v ws ks e=>by simp at e⟩
   show bE (aQ N) _=_
   unfold bE;symm;rw[jP];symm
  ·obtain⟨v,rfl⟩:=zES hy.1
   have due:v.due ws (kcl n ks):=zAN (by rw[dR];exact hy.2)
   have l12:(ks.flatMap (clm n)).length<=12:=g.2.1;have kl:=lV hk;have pl:(pcs n ks xs).length=ks.length:=iZ ks xs;show(bE (aQ N) _=_/\_)∨∃(Q:List Int)(i j:Nat),bE (aQ N) _=_/\_
   rcases wT (kd:=kd) (P:=P.map D.int) g (by omega) hk k0 due am hb with⟨eo,ho⟩ | ⟨i,j,ij,jk,eo,no,_⟩
   ·have gk0:=fun k (mk:k∈ks)=>g.kid (n:=n) hk mk
    generalize hd:D.tup [.str v.s,.tup (ws.map D.int),.tup ks]=d at *
    have lp:=tJ (g:=zBc (fH (gName 5) (fH (gName 6) zAx))) (b:=eE (aQ N)) (ds:=jV 0 ks) (ρ:=[.val d,.val (mkA kd xs),.val (.tup (P.map D.int)),.val .non,.val (.lst ((pcs n ks xs).map (mkA kd))),.un,.un])
     (fun l ρ=>∃ a3 a5 a6,ρ=[.val d,.val (mkA kd xs),.val (.tup (P.map D.int)),a3,.val (.lst ((pcs n ks xs).map (mkA kd))),a5,a6]/\∀ l' k,l' < l->ks[l']?=some k->AR n k ((pcs n ks xs).getD l' []))
     (fun l r=>∃(Q:List Int)(i j:Nat)(k:D),r=.v (dX ((P++[(l:Int)]++Q).map D.int) i j)/\ks[l]?=some k/\Bad n k ((pcs n ks xs).getD l []) Q i j) ⟨_,_,_,rfl,fun l' k h=>absurd h (Yp _)⟩ (by
     rintro l e ρ he ⟨a3,a5,a6,rfl,hp⟩
     obtain⟨k,hk',rfl⟩:=sR he;have hl:l<ks.length:=(Q2.mp hk').1;have mk:k∈ks:=Qg hk';rw[Q5]
     have ap:nZ (.tup (P.map D.int)) (.tup [.int (l:Int)])=.ok (.tup ((P++[(l:Int)]).map D.int)):=by
      rw[Qw];exact if_pos (by rw[Qd];show P.length+1<=16777216;omega)
     have gk:=gk0 k mk;rcases oQ hb n N k ((pcs n ks xs).getD l []) (P++[(l:Int)]) gk (by omega) (by omega) (am.pc l) (by rw[Qi,Xl];omega) with⟨er,ar⟩ | ⟨Q,i,j,er,nr⟩
     ·refine .inl ⟨[.val d,.val (mkA kd xs),.val (.tup (P.map D.int)),a3,.val (.lst ((pcs n ks xs).map (mkA kd))),.val (.int (l:Int)),.val k],[.val d,.val (mkA kd xs),.val (.tup (P.map D.int)),.val .non,.val (.lst ((pcs n ks xs).map (mkA kd))),.val (.int (l:Int)),.val k],?_,?_,_,_,_,rfl,fun l' k' h1 h2=>?_⟩
      ·symm
      ·symm
       rw[zCY (by omega)];symm;rw[ap];symm;rw[er];symm
      ·rcases X5 (show l'<=l by omega) with z | z
       ·exact hp l' k' z h2
       ·subst z;rw[hk'] at h2;cases h2;exact ar
     ·refine .inr ⟨[.val d,.val (mkA kd xs),.val (.tup (P.map D.int)),a3,.val (.lst ((pcs n ks xs).map (mkA kd))),.val (.int (l:Int)),.val k],_,?_,?_,Q,i,j,k,rfl,hk',nr⟩
      ·symm
      ·symm
       rw[zCY (by omega)];symm;rw[ap];symm;rw[er];symm;unfold dX
       symm)
    have head:bE (aQ N) [d,mkA kd xs,.tup (P.map D.int)]=((loop (zBc (fH (gName 5) (fH (gName 6) zAx))) (eE (aQ N)) (jV 0 ks) [.val d,.val (mkA kd xs),.val (.tup (P.map D.int)),.val .non,.val (.lst ((pcs n ks xs).map (mkA kd))),.un,.un]).bind (zAQ (hJ (aQ N)))).bind fin:=by
     unfold bE;symm;rw[<-hd,fS (fA v),hd];symm;rw[eo];symm;rw[<-hd,pD (fA v) (by omega) hk l12,hd];symm;rw[<-hd,cM (fA v),hd];symm;rfl
    rw[head];rcases lp with⟨ρ',e',a3,a5,a6,rfl,hp⟩ | ⟨l,r,hl,e',Q,i,j,k,rfl,hk',nr⟩
    ·rw[e']
     refine .inl ⟨rfl,?_⟩
     rw[<-hd,lN];refine⟨ho,fun l k h=>hp l k ?_ h⟩
     rw[pJ];exact(Q2.mp h).1
    ·rw[e']
     refine .inr ⟨(l:Int)::Q,i,j,by rw[Vp];rfl,?_⟩
     obtain⟨m,v',ws',ks',ys,r,ij,jk,no⟩:=nr;rw[<-hd];exact⟨m,v',ws',ks',ys,.step hk' r,ij,jk,no⟩
   ·refine .inr ⟨[],i,j,?_,n,v,ws,ks,xs,.here,ij,jk,no⟩
    rw[Q3];unfold bE;symm;rw[fS (fA v)];symm;rw[eo];symm;unfold dX;symm
theorem zIC{n b:Nat}{d:D}{kd:Bool}{xs:List Rat}(g:Gc n d)(hn:n<=9)(am:Am b xs)(hb:b<=1200)(hl:xs.length=(clm n d).length):
  (∃ k:Nat,cO [d,mkA kd xs]=.ok (.v (.tup [.str "over", .int (k:Int)]))/\k<(clm n d).length/\¬ (0<=xs.getD k 0/\xs.getD k 0<=cR (clm n d) k)/\∀ i,i<k->0<=xs.getD i 0/\xs.getD i 0<=cR (clm n d) i)∨
  (∃(Q:List Int)(i j:Nat),cO [d,mkA kd xs]=.ok (.v (dX (Q.map D.int) i j))/\Bad n d xs Q i j/\Wi (clm n d) xs)∨(cO [d,mkA kd xs]=.ok (.v (.tup [.str "catch", dq xs.sum]))/\AR n d xs/\Wi (clm n d) xs):=by
 have l12:=g.2.1
 have head:cO [d,mkA kd xs]=((loop (zBc (fH (gName 2) (fH (gName 3) zAx))) jC (jV 0 ((clm n d).map D.int)) [.val d,.val (mkA kd xs),.un,.un,.un]).bind (zAQ fX)).bind fin:=by
  unfold cO;symm;rw[zDB g (by omega),if_pos hl];symm;rw[qJ g (by omega)];symm
 rw[head]
 rcases tJ (g:=zBc (fH (gName 2) (fH (gName 3) zAx))) (b:=jC) (ds:=jV 0 ((clm n d).map D.int)) (ρ:=[.val d,.val (mkA kd xs),.un,.un,.un])
  (fun l ρ=>∃ a2 a3,ρ=[.val d,.val (mkA kd xs),a2,a3,.un]/\∀ i,i<l->0<=xs.getD i 0/\xs.getD i 0<=cR (clm n d) i)
  (fun l r=>r=.v (.tup [.str "over", .int (l:Int)])/\¬ (0<=xs.getD l 0/\xs.getD l 0<=cR (clm n d) l)/\∀ i,i<l->0<=xs.getD i 0/\xs.getD i 0<=cR (clm n d) i) ⟨_,_,rfl,fun i h=>absurd h (Yp _)⟩ (by
  rintro l e ρ he ⟨a2,a3,rfl,hp⟩
  obtain⟨a,ha,rfl⟩:=sR he;have hl':l<(clm n d).length:=by have:=(Q2.mp ha).1;rwa [Qd] at this
  rw[Qr,aU hl'] at ha;cases ha;have cb:=g.2.2 _ (Qg (aU hl'));rw[Q5]
  have mx:xs.getD l 0∈xs:=by
   have h:l<xs.length:=by omega
   rw[Qq,Qk h];exact Vs h
  have zx:=am.each mx;have io:=pS zx (n:=34) (l:=(((clm n d).getD l 0:Int):Rat)) ⟨by show((clm n d).getD l 0).natAbs<2^34;omega,by show 1<2^34;decide⟩ (by omega)
  by_cases c:0<=xs.getD l 0/\xs.getD l 0<=cR (clm n d) l
  ·refine .inl ⟨[.val d,.val (mkA kd xs),.val (.int (l:Int)),.val (.int ((clm n d).getD l 0)),.un],[.val d,.val (mkA kd xs),.val (.int (l:Int)),.val (.int ((clm n d).getD l 0)),.un],?_,?_,_,_,rfl,fun i hi=>?_⟩
   ·symm
   ·symm
    rw[zFF (by omega)];symm;rw[cB];symm;rw[io,decide_eq_false (Vd.mpr c.1),decide_eq_false (show ¬ (((clm n d).getD l 0:Int):Rat)<xs.getD l 0 from Vd.mpr c.2)];symm
   ·rcases X5 (show i<=l by omega) with z | z
    ·exact hp i z
    ·rw[z];exact c
  ·refine .inr ⟨[.val d,.val (mkA kd xs),.val (.int (l:Int)),.val (.int ((clm n d).getD l 0)),.un],_,?_,?_,rfl,c,hp⟩
   ·symm
   ·have bad:(decide (xs.getD l 0<0) || decide ((((clm n d).getD l 0:Int):Rat)<xs.getD l 0))=true:=by
     rw[Vz,decide_eq_true_iff,decide_eq_true_iff];by_cases q:0<=xs.getD l 0
     ·exact .inr (Vf.mp fun z=>c ⟨q,z⟩)
     ·exact .inl (Vf.mp q)
    symm;rw[zFF (by omega)];symm;rw[cB];symm;rw[io,bad]
    symm) with⟨ρ',e',a2,a3,rfl,hp⟩ | ⟨l,r,hll,e',rfl,h1,h2⟩
 ·rw[e']
  rw[pJ,Qd] at hp;have wi:Wi (clm n d) xs:=hp;refine .inr ?_
  rcases oQ (kd:=kd) hb n 10 d xs [] g (by omega) hn am (by show 0+n<=1000;omega) with⟨ef,ar⟩ | ⟨Q,i,j,ef,nr⟩
  ·have ef:aQ 10 [d,mkA kd xs,.tup []]=.ok (.v .non):=ef
   refine .inr ⟨?_,ar,wi⟩
   show(fX _).bind fin=_
   symm;rw[ef];symm;rw[am.tot (by omega)];symm
  ·have ef:aQ 10 [d,mkA kd xs,.tup []]=.ok (.v (dX (Q.map D.int) i j)):=ef
   refine .inl ⟨Q,i,j,?_,nr,wi⟩
   show(fX _).bind fin=_
   symm;rw[ef];unfold dX;symm
 ·rw[e']
  rw[pJ,Qd] at hll;exact .inl ⟨l,rfl,hll,h1,h2⟩
theorem fu8{d:D}{xs:List Rat}(g:Gc 8 d)(lx:xs.length=(clm 8 d).length):bY [d,.lst (xs.map dq)]=.ok (.v .non):=by
 have:=zDB (kd:=true) (xs:=xs) g (by decide)
 rw[if_pos lx] at this;exact this
theorem qU{d:D}{xs:List Rat}{k:Nat}(g:Gc 8 d)(am:Am 260 xs)(lx:xs.length=(clm 8 d).length)(hk:k<(clm 8 d).length):∃ r:Bool,dY [d,.lst (xs.map dq),.tup [.str "over", .int (k:Int)]]=.ok (.v (.bl r))/\(r=true ↔ ¬ (0<=xs.getD k 0/\xs.getD k 0<=cR (clm 8 d) k)):=by
 have cb:=g.2.2 _ (Qg (aU hk));have hx:k<xs.length:=by omega
 have mx:xs.getD k 0∈xs:=by
  rw[Qq,Qk hx];exact Vs hx
 have io:=pS (am.each mx) (n:=34) (l:=(((clm 8 d).getD k 0:Int):Rat)) ⟨by show((clm 8 d).getD k 0).natAbs<2^34;omega,by show 1<2^34;decide⟩ (by decide)
 have fu:=fu8 g lx;refine⟨decide (xs.getD k 0<0) || decide ((((clm 8 d).getD k 0:Int):Rat)<xs.getD k 0),?_,?_⟩
 ·have ix:oIx (.lst (xs.map dq)) (.int (k:Int))=.ok (dq (xs.getD k 0)):=zDM hx
  have ick:oIx (.lst ((clm 8 d).map D.int)) (.int (k:Int))=.ok (.int ((clm 8 d).getD k 0)):=nE (Va k) (aU hk);unfold dY;symm;rw[fu];symm;rw[show(Str.ofString "over" == Str.ofString "catch")=false from rfl];symm;unfold pO;symm;rw[decide_eq_false (show ¬ (k:Int)<0 by omega)];symm;rw[decide_eq_false (show ¬ (xs.length:Int)<=(k:Int) by omega)];symm;rw[ix];symm;rw[qJ g (by decide)];symm;rw[ick];symm;rw[cB];symm;rw[io];symm
 ·have ce:cR (clm 8 d) k=(((clm 8 d).getD k 0:Int):Rat):=rfl
  rw[Vz,decide_eq_true_iff,decide_eq_true_iff,ce];constructor
  ·rintro (h | h) z
   ·exact absurd z.1 (Vf.mpr h)
   ·exact absurd z.2 (Vf.mpr h)
  ·intro z
   by_cases q:0<=xs.getD k 0
   ·exact .inr (Vf.mp fun y=>z ⟨q,y⟩)
   ·exact .inl (Vf.mp q)
theorem qL{d:D}{xs:List Rat}{t:Pp}(g:Gc 8 d)(am:Am 260 xs)(lx:xs.length=(clm 8 d).length)(ht:t∈pl 8 d []):∃ r:Bool,dY [d,.lst (xs.map dq),toD t]=.ok (.v (.bl r))/\(r=true ↔ Bad 8 d xs t.1 t.2.1 t.2.2):=by
 obtain⟨Q,m,v,ws,ks,ys,r,e1,ij,jk⟩:=zKp xs g ht;rw[Yr] at e1;subst e1;obtain⟨b,eb,hb⟩:=zAT (kd:=true) r g (by decide) am (by decide) ij jk
 have fu:=fu8 g lx;refine⟨b,?_,?_⟩
 ·have eb':jU [d,.lst (xs.map dq),toD t]=.ok (.v (.bl b)):=eb
  have i0:oIx (toD t) (.int 0)=.ok (.str "pair"):=rfl;generalize toD t=p at eb' i0 ⊢;unfold dY;symm;rw[fu];symm;rw[i0];symm;rw[show(Str.ofString "pair" == Str.ofString "catch")=false from rfl];symm;rw[i0];symm;rw[show(Str.ofString "pair" == Str.ofString "over")=false from rfl];symm;rw[eb'];symm
 ·constructor
  ·intro h;exact⟨m,v,ws,ks,ys,r,ij,jk,hb.mp h⟩
  ·rintro⟨m',v',ws',ks',ys',r',ij',jk',no⟩
   obtain⟨b',eb',hb'⟩:=zAT (kd:=true) r' g (by decide) am (by decide) ij' jk'
   rw[eb] at eb';injection eb' with e2
   injection e2 with e2
   injection e2 with e2
   rw[e2];exact hb'.mpr no
theorem zCf{d:D}{xs:List Rat}(g:Gc 8 d)(am:Am 260 xs)(lx:xs.length=(clm 8 d).length):∃ r:Bool,dY [d,.lst (xs.map dq),.tup [.str "catch", dq xs.sum]]=.ok (.v (.bl r))/\(r=true ↔ 0<=xs.sum/\xs.sum<=((clm 8 d).sum:Rat)/\Sh 8 d xs.sum xs):=by
 obtain⟨r,er,hr⟩:=zFc (kd:=true) (xs:=xs) (b:=1) (q:=xs.sum) g (by decide) am.sum.1 (by decide) (by have:=g.2.1;omega)
 refine⟨r,?_,hr⟩
 have fu:=fu8 g lx;have er':fT [d,.lst (xs.map dq),dq xs.sum]=.ok (.v (.bl r)):=er;generalize dq xs.sum=q at er' ⊢;unfold dY;symm;rw[fu];symm;rw[er'];symm
def agn(d:D):List D:=((List.range (clm 8 d).length).map fun k:Nat=>D.tup [.str "over", .int (k:Int)])++(pl 8 d []).map toD
theorem oD{d t:D}(h:t∈agn d):(∃ k:Nat,k<(clm 8 d).length/\t=.tup [.str "over", .int (k:Int)])∨∃ p:Pp,p∈pl 8 d []/\t=toD p:=by
 rcases V6.mp h with h | h
 ·obtain⟨k,hk,rfl⟩:=Qv.mp h
  exact .inl ⟨k,Qt.mp hk,rfl⟩
 ·obtain⟨p,hp,rfl⟩:=Qv.mp h
  exact .inr ⟨p,hp,rfl⟩
theorem zKE{d t:D}(h:t∈agn d):dep t<=3:=by
 have h1:∀ l:List Int,depS (l.map D.int)<=1:=by
  intro l
  induction l with
  | nil=>simp[depS]
  | cons x l ih=>rw[Qj,depS,show dep (D.int x)=0 from rfl];omega
 rcases oD h with⟨k,_,rfl⟩ | ⟨p,_,rfl⟩
 ·simp[dep,depS]
 ·have:=h1 p.1
  unfold toD dX;simp only[dep,depS];omega
theorem zKA{ds:List D}{m:Nat}(h:∀ d∈ds,dep d<=m):depS ds<=m:=by
 induction ds with
 | nil=>exact Q7 _
 | cons a r ih=>
  rw[depS];have:=h a (Qf ..)
  have:=ih fun d hd=>h d (Qe _ hd)
  omega
theorem zOO{d t:D}{q:Rat}(h:t∈agn d):eqD t (.tup [.str "catch", dq q])=false:=by
 rcases oD h with⟨k,_,rfl⟩ | ⟨p,_,rfl⟩
 ·simp only[eqD,wP]
  rw[show(Str.ofString "over" == Str.ofString "catch")=false from rfl];rfl
 ·unfold toD dX
  simp only[eqD,wP];rw[show(Str.ofString "pair" == Str.ofString "catch")=false from rfl];rfl
theorem zPV{cs:List Int}{xs:List Rat}(hl:xs.length=cs.length)(w:Wi cs xs):A2 Bc xs cs:=zOQ hl fun i hi=>w i hi
abbrev R48(ns:List Int)(d:D)(a3 a4 a5 a6:Sl):Rho:=[.val (.lst (ns.map D.int)),.val d,.val (.lst (agn d)),a3,a4,a5,a6]
open Classical in
theorem zLd{ns:List Int}{d:D}(g:Gc 8 d)(hkn:kn 8 d<=6)(hag:(agn d).length<=16777215)(c:Int)(a4 a5 a6:Sl):∃ b4 b5 b6,zP (R48 ns d (.val (.int c)) a4 a5 a6)=.ok (.nx (R48 ns d (.val (.int c)) b4 b5 b6)):=by
 obtain⟨xs,ex,am,lx⟩:=zGh g hkn c;have zq:=am.sum.1
 have sh:∀ t∈agn d,∃ r:Bool,dY [d,.lst (xs.map dq),t]=.ok (.v (.bl r)):=fun t ht=>by
  rcases oD ht with⟨k,hk,rfl⟩ | ⟨p,hp,rfl⟩
  ·obtain⟨r,er,_⟩:=qU g am lx hk;exact⟨r,er⟩
  ·obtain⟨r,er,_⟩:=qL g am lx hp;exact⟨r,er⟩
 generalize hp:(fun t:D=>decide (dY [d,.lst (xs.map dq),t]=.ok (.v (.bl true))))=p
 have pt:∀ t,p t=true ↔ dY [d,.lst (xs.map dq),t]=.ok (.v (.bl true)):=fun t=>by rw[<-hp];exact decide_eq_true_iff
 have cm:∀ a6':Sl,zR (dL (aN dY (aB (aE 1) (aB (eF (zAp (aB (aE 4) aNil))) (aB (aE 7) aNil))))) (aE 7) [.val (.lst (ns.map D.int)),.val d,.val (.lst (agn d)),.val (.int c),.val (.lst (xs.map dq)),.val (.tup [.str "catch", dq xs.sum]),a6'] (agn d)=.ok ((agn d).filter p):=fun a6'=>by
  have:=zHJ (u:=fun t:D=>t) (t:=dL (aN dY (aB (aE 1) (aB (eF (zAp (aB (aE 4) aNil))) (aB (aE 7) aNil))))) (f:=aE 7) (ρ:=[.val (.lst (ns.map D.int)),.val d,.val (.lst (agn d)),.val (.int c),.val (.lst (xs.map dq)),.val (.tup [.str "catch", dq xs.sum]),a6']) (p:=p) (l:=agn d) hag (fun t ht=>⟨?_,rfl⟩)
  ·rwa [Yn,Yn] at this
  ·obtain⟨r,er⟩:=sh t ht
   have e:p t=r:=by
    cases hr:r with
    | true=>rw[hr] at er;exact(pt t).mpr er
    | false=>
     cases hpt:p t with
     | false=>rfl
     | true=>
      have:=(pt t).mp hpt
      rw[er,hr] at this;cases this
   rw[e];symm;rw[er];symm
 have dps:∀ l:List D,(∀ t∈l,t∈agn d)->depS l<=3:=fun l h=>zKA fun t ht=>zKE (h t ht)
 have sub:∀ t∈(agn d).filter p,t∈agn d:=fun t ht=>(Yq.mp ht).1
 obtain⟨rc,ec,hc⟩:=zCf g am lx;refine⟨.val (.lst (xs.map dq)),.val (.tup [.str "catch", dq xs.sum]),.val (.lst (if rc then (agn d).filter p++[.tup [.str "catch", dq xs.sum]] else (agn d).filter p)),?_⟩
 have fo:=zIC (kd:=true) g (by decide) am (by decide) lx
 have fin:∀ told,cO [d,.lst (xs.map dq)]=.ok (.v told)->((rc=false/\told∈(agn d).filter p)∨(rc=true/\(agn d).filter p=[]/\told=.tup [.str "catch", dq xs.sum]))->zM [.val (.lst (ns.map D.int)),.val d,.val (.lst (agn d)),.val (.int c),.val (.lst (xs.map dq)),.val (.tup [.str "catch", dq xs.sum]),a6]=.ok (.nx (R48 ns d (.val (.int c)) (.val (.lst (xs.map dq))) (.val (.tup [.str "catch", dq xs.sum])) (.val (.lst (if rc then (agn d).filter p++[.tup [.str "catch", dq xs.sum]] else (agn d).filter p))))):=by
  intro told et cs;have cm':=cm a6;generalize hm:D.tup [.str "catch", dq xs.sum]=much at *;rcases cs with⟨rfl,mt⟩ | ⟨rfl,nil,tm⟩
  ·obtain⟨y,r,hf⟩:∃ y r,(agn d).filter p=y::r:=by
    cases hf:(agn d).filter p with
    | nil=>rw[hf] at mt;cases mt
    | cons y r=>exact⟨y,r,rfl⟩
   have dl:=dps _ sub
   have o1:oEq (.lst ((agn d).filter p)) (.lst [])=.ok (.bl false):=by
    unfold oEq;rw[if_pos (by rw[dep];omega),hf];rfl
   have o2:oIn much (.lst ((agn d).filter p))=.ok (.bl false):=by
    rw[zON (by omega)];congr 2
    rw[List.any_eq_false];intro t ht;rw[<-hm,zOO (sub t ht)];decide
   have o3:tO told (.lst ((agn d).filter p))=.ok (.bl false):=by
    show(if depS ((agn d).filter p)<=50 then _ else _)=_
    have an:((agn d).filter p).any (fun e=>eqD e told)=true:=List.any_eq_true.mpr ⟨told,mt,mM _⟩
    rw[if_pos (by omega),an];rfl
   generalize (agn d).filter p=l at *;symm;rw[cm'];symm;rw[ec];symm;rw[o1];symm;rw[o2];symm;rw[et];symm;rw[o3];symm
  ·rw[tm] at et
   have dm:dep much<=5:=by rw[<-hm];simp only[dep,depS,dep_dq];omega
   have o1:oEq (.lst [much]) (.lst [])=.ok (.bl false):=by
    unfold oEq;rw[if_pos (by simp only[dep,depS];omega)];rfl
   have o2:oIn much (.lst [much])=.ok (.bl true):=by
    rw[zON (by simp only[depS];omega),Y4,mM];rfl
   have o3:tO much (.lst [much])=.ok (.bl false):=by
    show(if depS [much]<=50 then _ else _)=_
    rw[if_pos (by simp only[depS];omega),Y4,mM];rfl
   rw[nil] at cm' ⊢
   symm;rw[cm'];symm;rw[ec];symm;rw[o1];symm;rw[o2];symm;rw[show decide ((1:Int)<((1:Nat):Int))=false from rfl];symm;rw[et];symm;rw[o3];symm
 have e6:zP (R48 ns d (.val (.int c)) a4 a5 a6)=zM [.val (.lst (ns.map D.int)),.val d,.val (.lst (agn d)),.val (.int c),.val (.lst (xs.map dq)),.val (.tup [.str "catch", dq xs.sum]),a6]:=by
  unfold zP zHs;generalize hK:(zM:Sv)=K;symm;rw[ex];symm;rw[zFs am (by decide)];symm
 rw[e6]
 have nsh:¬ Wi (clm 8 d) xs->rc=false:=fun W=>by
  cases hr:rc with
  | false=>rfl
  | true=>
   obtain⟨q0,q1,s⟩:=hc.mp hr;exact absurd (fun i hi=>(zGp g s q0 q1).1.at (by omega)) W
 rcases fo with⟨k,e,hk,n,_⟩ | ⟨Q,i,j,e,bad,wi⟩ | ⟨e,ar,wi⟩
 ·refine fin _ e (.inl ⟨nsh fun w=>n (w k hk),Yq.mpr ⟨Xw _ (Qv.mpr ⟨k,Qt.mpr hk,rfl⟩),(pt _).mpr ?_⟩⟩)
  obtain⟨r,er,hr⟩:=qU g am lx hk;rw[er,hr.mpr n]
 ·have rf:rc=false:=by
   cases hr:rc with
   | false=>rfl
   | true=>
    obtain⟨q0,q1,s⟩:=hc.mp hr;exact absurd (zDS (b:=260) (by decide) (by decide) g s q0 q1 am) bad.not
  refine fin _ e (.inl ⟨rf,Yq.mpr ⟨Qx _ (Qv.mpr ⟨(Q,i,j),bad.mem,rfl⟩),(pt _).mpr ?_⟩⟩)
  obtain⟨r,er,hr⟩:=qL g am lx bad.mem;have er':dY [d,.lst (xs.map dq),dX (Q.map D.int) i j]=.ok (.v (.bl r)):=er;rw[er',hr.mpr bad]
 ·have a2:=zPV lx wi
  have bs:=zJk a2;have rt:rc=true:=hc.mpr ⟨bs.1,bs.2,zHj (b:=260) (by decide) (by decide) g ar a2 am⟩
  refine fin _ e (.inr ⟨rt,List.filter_eq_nil_iff.mpr fun t ht hpt=>?_,rfl⟩)
  have h:=(pt t).mp hpt;rcases oD ht with⟨k,hk,rfl⟩ | ⟨p',hp',rfl⟩
  ·obtain⟨r,er,hr⟩:=qU g am lx hk
   rw[er] at h;injection h with h
   injection h with h
   injection h with h
   exact(hr.mp h) (wi k hk)
  ·obtain⟨r,er,hr⟩:=qL g am lx hp'
   rw[er] at h;injection h with h
   injection h with h
   injection h with h
   exact(hr.mp h).not ar
theorem law_true:∀ ns:List Int,ns.length<=63->zLO [.lst (ns.map D.int)]=.ok (.v (.bl true)):=by
 intro ns hl;obtain⟨d,ed,ic,hc,h12,hkn⟩:=zBH ns;have g:Gc 8 d:=⟨ic,h12,hc⟩;have lc:=lG 10 d (fW ic (by decide)) (by rw[dU ic (by decide)];omega)
 rw[dU ic (show 8<=10 by decide)] at lc;obtain⟨fs,ef⟩:=zIY hl (m:=8) (by decide) (by decide)
 have fp:=zHD 8 10 d [] g (by decide) (by decide) (by omega) (by decide)
 have fp':bN 10 [d,.tup []]=.ok (.f ((pl 8 d []).map toD)):=fp;have ln:=zGb (P:=[]) g
 have cm:zR qI (qX (aB (eC (.str "over")) (aB (aE 7) aNil))) [.val (.lst (ns.map D.int)),.val d,.un,.un,.un,.un,.un] (rng 0 (clm 8 d).length 1)=.ok ((List.range (clm 8 d).length).map fun k:Nat=>D.tup [.str "over", .int (k:Int)]):=by
  have er:rng 0 (clm 8 d).length 1=(List.range (clm 8 d).length).map fun i:Nat=>D.int (i:Int):=by unfold rng;exact V3 fun i _=>by rw[show(0:Int)+(i:Int)*1=(i:Int) by omega]
  rw[er];exact sU (u:=fun i:Nat=>D.int (i:Int)) (by rw[Qu];omega) (fun k _=>rfl)
 have la:(agn d).length<=1000:=by
  unfold agn;rw[Qi,Qd,Qd,Qu];omega
 have cat:(((List.range (clm 8 d).length).map fun k:Nat=>D.tup [.str "over", .int (k:Int)])++(pl 8 d []).map toD)=agn d:=rfl
 unfold zLO zFU;generalize hK:(zGH:Sv)=K;symm;rw[ed];symm;rw[lc];symm;rw[uU (by omega) (by omega),Vc];symm;rw[cm];symm;rw[fp'];symm;rw[if_pos (by simp only[Qd,Qu];unfold agn at la;rw[Qi,Qd,Qd,Qu] at la;omega)];symm;rw[cat,<-hK];symm;rw[ef];symm;refine hZ (Q:=fun r=>r.bind fin=.ok (.v (.bl true))) (k:=zAQ zDp) (fun i ρ=>∃ a3 a4 a5 a6:Sl,ρ=R48 ns d a3 a4 a5 a6) ⟨_,_,_,_,rfl⟩ ?_ ?_
 ·rintro i e ρ he ⟨a3,a4,a5,a6,rfl⟩
  obtain⟨c,_,rfl⟩:=Qv.mp (Qg he);obtain⟨b4,b5,b6,eb⟩:=zLd (ns:=ns) g hkn (by omega) c a4 a5 a6
  exact⟨R48 ns d (.val (.int c)) b4 b5 b6,eb,_,_,_,_,rfl⟩
 ·rintro ρ ⟨a3,a4,a5,a6,rfl⟩
  rfl
end Lw
namespace Lw
open PySem PySem.Spec PyProof.Rows L2 L3
local macro_rules | `(tactic| walk_at "b")=>`(tactic| (intro _ _ _ _ _ _ us hl; first | (obtain ⟨_,e⟩:=L3.ln1 hl;subst e;rfl) | (obtain ⟨_,_,e⟩:=L3.ln2 hl;subst e;rfl) | (obtain ⟨_,_,_,e⟩:=L3.ln3 hl;subst e;rfl) | (obtain ⟨_,_,_,_,e⟩:=L3.ln4 hl;subst e;rfl)))
theorem _root_.L3.CanM.mo{P:Program}{w:World}{K:Fg_}{mg:Str->Option Value}{base:Heap}{j k:Nat}{x:Str}{ps:List Str}{m:Mir}(c:CanM P w K mg base j x ps m)(h:j<=k:=by decide):CanM P w K mg base k x ps m:=c.mono h
local macro_rules | `(tactic| walk_at "s")=>`(tactic| exact⟨rfl,rfl,rfl,by decide +kernel,rfl,by decide +kernel,by decide +kernel⟩)
def top(i:Nat):Stmt:=PySem.Challenge.pw_catchhall_k48_whole_never_both.main.body.getD i (.Pass ⟨0,0,0,0⟩)
abbrev gJ:Stmt:=top 11
theorem cG:FnScope ["one","two","rest"] ["one","two"] (aF gJ):=by walk_at "s"
abbrev zIa:Stmt:=top 12
theorem zCa:FnScope ["top","bottom","divisor"] ["top","bottom"] (aF zIa):=by walk_at "s"
abbrev zDe:Stmt:=top 13
theorem zIT:FnScope ["number"] ["number"] (aF zDe):=by walk_at "s"
abbrev zHe:Stmt:=top 14
theorem zMj:FnScope ["one","two"] ["one","two"] (aF zHe):=by walk_at "s"
abbrev zBW:Stmt:=top 15
theorem zIF:FnScope ["one","two"] ["one","two"] (aF zBW):=by walk_at "s"
abbrev zCj:Stmt:=top 16
theorem zIz:FnScope ["one","two"] ["one","two"] (aF zCj):=by walk_at "s"
abbrev zGO:Stmt:=top 17
theorem zKP:FnScope ["one","two"] ["one","two"] (aF zGO):=by walk_at "s"
abbrev zGW:Stmt:=top 18
theorem zMa:FnScope ["one","two"] ["one","two"] (aF zGW):=by walk_at "s"
abbrev yZ:Stmt:=top 19
theorem zHv:FnScope ["one","two"] ["one","two"] (aF yZ):=by walk_at "s"
abbrev lX:Stmt:=top 20
theorem xV:FnScope ["amount","most"] ["amount","most"] (aF lX):=by walk_at "s"
abbrev gK:Stmt:=top 21
theorem rG:FnScope ["amount","most"] ["amount","most"] (aF gK):=by walk_at "s"
abbrev zCu:Stmt:=top 22
theorem sO:FnScope ["some","so_far","each"] ["some"] (aF zCu):=by walk_at "s"
abbrev gU:Stmt:=top 23
theorem pQ:FnScope ["some","bottom","each"] ["some"] (aF gU):=by walk_at "s"
abbrev xZ:Stmt:=top 28
theorem zFH:FnScope ["way","weights","claims"] ["way","weights","claims"] (aF xZ):=by walk_at "s"
abbrev lI:Stmt:=top 29
theorem yI:FnScope ["way"] ["way"] (aF lI):=by walk_at "s"
abbrev iA:Stmt:=top 30
theorem kT:FnScope ["claims","claim"] ["claims"] (aF iA):=by walk_at "s"
abbrev gI:Stmt:=top 31
theorem fQ:FnScope ["way","weights","many","due","weight"] ["way","weights","many"] (aF gI):=by walk_at "s"
abbrev zCp:Stmt:=top 32
theorem zJt:FnScope ["way","weights","claims","catch"] ["way","weights","claims","catch"] (aF zCp):=by walk_at "s"
abbrev dP:Stmt:=top 33
theorem eH:FnScope ["way","weights","claims","catch","most","lacking"] ["way","weights","claims","catch"] (aF dP):=by walk_at "s"
abbrev nO:Stmt:=top 34
theorem eS:FnScope ["claims","catch","left","amounts","claim","amount"] ["claims","catch"] (aF nO):=by walk_at "s"
abbrev lU:Stmt:=top 35
theorem cN:FnScope ["weights","claims","catch","left","weight","amounts","spot","by_weight"] ["weights","claims","catch"] (aF lU):=by walk_at "s"
abbrev kB:Stmt:=top 36
theorem zBK:FnScope ["weights","claims"] ["weights","claims"] (aF kB):=by walk_at "s"
abbrev iS:Stmt:=top 37
theorem gT:FnScope ["claims","catch","most","part"] ["claims","catch"] (aF iS):=by walk_at "s"
abbrev iX:Stmt:=top 38
theorem kE:FnScope ["claims","catch","ones"] ["claims","catch"] (aF iX):=by walk_at "s"
abbrev zGU:Stmt:=top 43
theorem zLn:FnScope ["claim"] ["claim"] (aF zGU):=by walk_at "s"
abbrev zGg:Stmt:=top 44
theorem zFJ:FnScope ["way","weights","kids","custom"] ["way","weights","kids"] (aF zGg):=by walk_at "s"
abbrev tT:Stmt:=top 45
theorem zEy:FnScope ["custom"] ["custom"] (aF tT):=by walk_at "s"
abbrev yO:Stmt:=top 46
theorem zHk:FnScope ["custom"] ["custom"] (aF yO):=by walk_at "s"
abbrev lC:Stmt:=top 47
theorem xH:FnScope ["custom"] ["custom"] (aF lC):=by walk_at "s"
abbrev uQ:Stmt:=top 48
theorem zEp:FnScope ["custom"] ["custom"] (aF uQ):=by walk_at "s"
abbrev jX:Stmt:=top 49
theorem iY:FnScope ["custom","claims","kid"] ["custom"] (aF jX):=by walk_at "s"
abbrev qQ:Stmt:=top 50
theorem zCC:FnScope ["custom"] ["custom"] (aF qQ):=by walk_at "s"
abbrev iR:Stmt:=top 51
theorem oH:FnScope ["custom"] ["custom"] (aF iR):=by walk_at "s"
abbrev mB:Stmt:=top 52
theorem qK:FnScope ["custom"] ["custom"] (aF mB):=by walk_at "s"
abbrev xF:Stmt:=top 53
theorem pN:FnScope ["custom","path","spot","kids"] ["custom","path"] (aF xF):=by walk_at "s"
abbrev xQ:Stmt:=top 54
theorem jS:FnScope ["custom","some","pieces","start","kid","end"] ["custom","some"] (aF xQ):=by walk_at "s"
abbrev yR:Stmt:=top 55
theorem zFO:FnScope ["custom","catch"] ["custom","catch"] (aF yR):=by walk_at "s"
abbrev mO:Stmt:=top 56
theorem fP:FnScope ["custom","catch","amounts","told","kid","amount"] ["custom","catch"] (aF mO):=by walk_at "s"
abbrev lS:Stmt:=top 61
theorem gP:FnScope ["custom","amounts","number","claim","pair"] ["custom","amounts"] (aF lS):=by walk_at "s"
abbrev zCi:Stmt:=top 62
theorem zJe:FnScope ["custom","amounts","paper"] ["custom","amounts","paper"] (aF zCi):=by walk_at "s"
abbrev gZ:Stmt:=top 63
theorem sG:FnScope ["custom","amounts"] ["custom","amounts"] (aF gZ):=by walk_at "s"
abbrev qB:Stmt:=top 64
theorem zCs:FnScope ["custom","amounts","catch"] ["custom","amounts","catch"] (aF qB):=by walk_at "s"
abbrev uT:Stmt:=top 65
theorem zEl:FnScope ["custom","amounts","number"] ["custom","amounts","number"] (aF uT):=by walk_at "s"
abbrev tP:Stmt:=top 66
theorem jQ:FnScope ["custom","amounts","paper","path","one","other","there"] ["custom","amounts","paper"] (aF tP):=by walk_at "s"
abbrev mF:Stmt:=top 67
theorem gQ:FnScope ["custom","amounts","path","spot"] ["custom","amounts","path"] (aF mF):=by walk_at "s"
abbrev iU:Stmt:=top 68
theorem dC:FnScope ["custom","amounts","path","pair","pieces","spot","kid"] ["custom","amounts","path"] (aF iU):=by walk_at "s"
abbrev qG:Stmt:=top 69
theorem kD:FnScope ["custom","amounts","path","many","one","other"] ["custom","amounts","path"] (aF qG):=by walk_at "s"
abbrev qS:Stmt:=top 70
theorem dN:FnScope ["custom","amounts","one","other","pieces","own","kids","claims","weights","right"] ["custom","amounts","one","other"] (aF qS):=by walk_at "s"
abbrev kQ:Stmt:=top 72
theorem vI:FnScope ["script","k"] ["script","k"] (aF kQ):=by walk_at "s"
abbrev lP:Stmt:=top 73
theorem gO:FnScope ["one","two","rest"] ["one","two"] (aF lP):=by walk_at "s"
abbrev rF:Stmt:=top 74
theorem uD:FnScope ["top","bottom","shared"] ["top","bottom"] (aF rF):=by walk_at "s"
abbrev pX:Stmt:=top 75
theorem zCh:FnScope ["one","two"] ["one","two"] (aF pX):=by walk_at "s"
abbrev uO:Stmt:=top 76
theorem mW:FnScope ["some","much","one"] ["some"] (aF uO):=by walk_at "s"
abbrev nT:Stmt:=top 78
theorem rM:FnScope ["cell","kind","some"] ["cell","kind"] (aF nT):=by walk_at "s"
abbrev rA:Stmt:=top 79
theorem eK:FnScope ["cell","kids","way","weights","most","rest","kid"] ["cell","kids"] (aF rA):=by walk_at "s"
abbrev lO:Stmt:=top 80
theorem bL:FnScope ["script","head","pile","knots","boats","k","cell","turn","many"] ["script"] (aF lO):=by walk_at "s"
abbrev iQ:Stmt:=top 81
theorem fF:FnScope ["custom","claims","kid"] ["custom"] (aF iQ):=by walk_at "s"
abbrev nU:Stmt:=top 82
theorem mE:FnScope ["claim","cell","bottom"] ["claim","cell"] (aF nU):=by walk_at "s"
abbrev kC:Stmt:=top 83
theorem cD:FnScope ["custom","cell","claims","amounts","way","one","other","step"] ["custom","cell"] (aF kC):=by walk_at "s"
abbrev kP:Stmt:=top 84
theorem dS:FnScope ["custom","path","papers","one","other","k"] ["custom","path"] (aF kP):=by walk_at "s"
abbrev lR:Stmt:=top 85
theorem jW:FnScope ["script","start","many","cells","cell"] ["script","start","many"] (aF lR):=by walk_at "s"
abbrev rH:Stmt:=top 86
theorem pK:FnScope ["script","custom","against","cell","amounts","much","shown"] ["script"] (aF rH):=by walk_at "s"
structure Bt (mg:Str->Option Value):Prop where
 abs:mg "abs" = none
 sorted:mg "sorted" = none
 range:mg "range" = none
 len:mg "len" = none
 sum:mg "sum" = none
 zip:mg "zip" = none
 tuple:mg "tuple" = none
 max:mg "max" = none
 enumerate:mg "enumerate" = none
 list:mg "list" = none
 min:mg "min" = none
structure Kt (K:PySem.W.Frag):Prop where
structure Ct (K:PySem.W.Frag) (mg:Str->Option Value):Prop where
 BOAT:∃ v u,mg "BOAT" = some u/\cV v u/\IsD K (fun _=>none) v d_BOAT
 CATCH:∃ v u,mg "CATCH" = some u/\cV v u/\IsD K (fun _=>none) v d_CATCH
 DEEPEST:∃ v u,mg "DEEPEST" = some u/\cV v u/\IsD K (fun _=>none) v d_DEEPEST
 HALF:∃ v u,mg "HALF" = some u/\cV v u/\IsD K (fun _=>none) v d_HALF
 MOST_BOATS:∃ v u,mg "MOST_BOATS" = some u/\cV v u/\IsD K (fun _=>none) v d_MOST_BOATS
 NOUGHT:∃ v u,mg "NOUGHT" = some u/\cV v u/\IsD K (fun _=>none) v mJ
 OVER:∃ v u,mg "OVER" = some u/\cV v u/\IsD K (fun _=>none) v d_OVER
 PAIR:∃ v u,mg "PAIR" = some u/\cV v u/\IsD K (fun _=>none) v d_PAIR
 WEIGHTED:∃ v u,mg "WEIGHTED" = some u/\cV v u/\IsD K (fun _=>none) v d_WEIGHTED
 CONTRARY:∃ a,IsTab K mg "CONTRARY" bA a
structure Rt (K:PySem.W.Frag) (mg:Str->Option Value):Prop where
 BadClaim:∃ C,Err K mg "BadClaim" C
 BadWay:∃ C,Err K mg "BadWay" C
 BadWeights:∃ C,Err K mg "BadWeights" C
 NoFraction:∃ C,Err K mg "NoFraction" C
 Outside:∃ C,Err K mg "Outside" C
 TooMany:∃ C,Err K mg "TooMany" C
 Unlike:∃ C,Err K mg "Unlike" C
structure Et (K:PySem.W.Frag) (mg:Str->Option Value):Prop where
 co_Outside:Cat K mg "Outside" "Outside"
theorem zPH{K:Fg_}{h:Heap}{mg:Str->Option Value}{t0 t1 t2 t3 t4 t5 t6 t7 t8 t9 t10 t11:Tok}{pHALF0:Addr}{o_pHALF0:Option Addr}{n_pHALF0:Nat}{s_pHALF0:Array (Option Value)}{pNOUGHT1:Addr}{o_pNOUGHT1:Option Addr}{n_pNOUGHT1:Nat}{s_pNOUGHT1:Array (Option Value)}{pWEIGHTED2:Addr}{o_pWEIGHTED2:Option Addr}{n_pWEIGHTED2:Nat}{s_pWEIGHTED2:Array (Option Value)}{a_CONTRARY:Addr}(X:K.In h)(G:h.Ns mainGlobals mg)(n_BOAT:PySem.W.nsIn K mainGlobals "BOAT" = some (some (.str "boat" t0)))(n_CATCH:PySem.W.nsIn K mainGlobals "CATCH" = some (some (.str "catch" t1)))(n_DEEPEST:PySem.W.nsIn K mainGlobals "DEEPEST" = some (some (.int (8) t2)))(n_HALF:PySem.W.nsIn K mainGlobals "HALF" = some (some (.ref pHALF0)))(pHALF0_l:K.lookup pHALF0=some ⟨.type "tuple", o_pHALF0,.seq #[.int (1) t3,.int (2) t4] n_pHALF0,s_pHALF0⟩)(n_MOST_BOATS:PySem.W.nsIn K mainGlobals "MOST_BOATS" = some (some (.int (12) t5)))(n_NOUGHT:PySem.W.nsIn K mainGlobals "NOUGHT" = some (some (.ref pNOUGHT1)))(pNOUGHT1_l:K.lookup pNOUGHT1=some ⟨.type "tuple", o_pNOUGHT1,.seq #[.int (0) t6,.int (1) t7] n_pNOUGHT1,s_pNOUGHT1⟩)(n_OVER:PySem.W.nsIn K mainGlobals "OVER" = some (some (.str "over" t8)))(n_PAIR:PySem.W.nsIn K mainGlobals "PAIR" = some (some (.str "pair" t9)))(n_WEIGHTED:PySem.W.nsIn K mainGlobals "WEIGHTED" = some (some (.ref pWEIGHTED2)))(pWEIGHTED2_l:K.lookup pWEIGHTED2=some ⟨.type "tuple", o_pWEIGHTED2,.seq #[.str "even" t10,.str "lack" t11] n_pWEIGHTED2,s_pWEIGHTED2⟩)(n_CONTRARY:PySem.W.nsIn K mainGlobals "CONTRARY" = some (some (.ref a_CONTRARY)))(bA:PyProof.Rows.KTD.tabLook (PyProof.Rows.KTD.datLooks fun a=>K.lookup a) (fun a=>K.lookup a) a_CONTRARY (zID Lw.bA)=true):Ct K mg:=⟨⟨.str "boat", _,Ve X G n_BOAT,⟨_,rfl⟩,(.str _)⟩,⟨.str "catch", _,Ve X G n_CATCH,⟨_,rfl⟩,(.str _)⟩,⟨.int (8),_,Ve X G n_DEEPEST,⟨_,rfl⟩,(.int _)⟩,⟨.ref pHALF0,_,Ve X G n_HALF,rfl,(.tup (.inr ⟨_,_,_,pHALF0_l,rfl,rfl,Wk rfl,(.cons (show cV (.int (1)) _ from ⟨_,rfl⟩) (.cons (show cV (.int (2)) _ from ⟨_,rfl⟩) .nil))⟩) (.cons (.int _) (.cons (.int _) .nil)))⟩,⟨.int (12),_,Ve X G n_MOST_BOATS,⟨_,rfl⟩,(.int _)⟩,⟨.ref pNOUGHT1,_,Ve X G n_NOUGHT,rfl,(.tup (.inr ⟨_,_,_,pNOUGHT1_l,rfl,rfl,Wk rfl,(.cons (show cV (.int (0)) _ from ⟨_,rfl⟩) (.cons (show cV (.int (1)) _ from ⟨_,rfl⟩) .nil))⟩) (.cons (.int _) (.cons (.int _) .nil)))⟩,⟨.str "over", _,Ve X G n_OVER,⟨_,rfl⟩,(.str _)⟩,⟨.str "pair", _,Ve X G n_PAIR,⟨_,rfl⟩,(.str _)⟩,⟨.ref pWEIGHTED2,_,Ve X G n_WEIGHTED,rfl,(.tup (.inr ⟨_,_,_,pWEIGHTED2_l,rfl,rfl,Wk rfl,(.cons (show cV (.str "even") _ from ⟨_,rfl⟩) (.cons (show cV (.str "lack") _ from ⟨_,rfl⟩) .nil))⟩) (.cons (.str _) (.cons (.str _) .nil)))⟩,⟨a_CONTRARY,Ve X G n_CONTRARY,fun h X=>PyProof.Rows.KTD.text_of_look X bA⟩⟩
theorem zPE{K:Fg_}{h:Heap}{mg:Str->Option Value}{C_BadClaim:Addr}{C_BadWay:Addr}{C_BadWeights:Addr}{C_NoFraction:Addr}{C_Outside:Addr}{C_TooMany:Addr}{C_Unlike:Addr}(X:K.In h)(G:h.Ns mainGlobals mg)(n_BadClaim:PySem.W.nsIn K mainGlobals "BadClaim" = some (some (.ref C_BadClaim)))(x_BadClaim:PySem.W.excIn K C_BadClaim [.type "ValueError", .type "Exception", .type "BaseException", .type "object"] "ValueError.__new__" = true)(n_BadWay:PySem.W.nsIn K mainGlobals "BadWay" = some (some (.ref C_BadWay)))(x_BadWay:PySem.W.excIn K C_BadWay [.type "ValueError", .type "Exception", .type "BaseException", .type "object"] "ValueError.__new__" = true)(n_BadWeights:PySem.W.nsIn K mainGlobals "BadWeights" = some (some (.ref C_BadWeights)))(x_BadWeights:PySem.W.excIn K C_BadWeights [.type "ValueError", .type "Exception", .type "BaseException", .type "object"] "ValueError.__new__" = true)(n_NoFraction:PySem.W.nsIn K mainGlobals "NoFraction" = some (some (.ref C_NoFraction)))(x_NoFraction:PySem.W.excIn K C_NoFraction [.type "ValueError", .type "Exception", .type "BaseException", .type "object"] "ValueError.__new__" = true)(n_Outside:PySem.W.nsIn K mainGlobals "Outside" = some (some (.ref C_Outside)))(x_Outside:PySem.W.excIn K C_Outside [.type "ValueError", .type "Exception", .type "BaseException", .type "object"] "ValueError.__new__" = true)(n_TooMany:PySem.W.nsIn K mainGlobals "TooMany" = some (some (.ref C_TooMany)))(x_TooMany:PySem.W.excIn K C_TooMany [.type "ValueError", .type "Exception", .type "BaseException", .type "object"] "ValueError.__new__" = true)(n_Unlike:PySem.W.nsIn K mainGlobals "Unlike" = some (some (.ref C_Unlike)))(x_Unlike:PySem.W.excIn K C_Unlike [.type "ValueError", .type "Exception", .type "BaseException", .type "object"] "ValueError.__new__" = true):Rt K mg:=⟨uS X G n_BadClaim x_BadClaim X6,uS X G n_BadWay x_BadWay X6,uS X G n_BadWeights x_BadWeights X6,uS X G n_NoFraction x_NoFraction X6,uS X G n_Outside x_Outside X6,uS X G n_TooMany x_TooMany X6,uS X G n_Unlike x_Unlike X6⟩
theorem zQg{K:Fg_}{h:Heap}{mg:Str->Option Value}{C_Outside:Addr}(X:K.In h)(G:h.Ns mainGlobals mg)
  (n_Outside:PySem.W.nsIn K mainGlobals "Outside" = some (some (.ref C_Outside)))
  (g5:PySem.W.specialIn K (.builtin "object.__class__") "__get__" = some (some (.builtin "getset_descriptor.__get__")))
  (g6:PySem.W.takesIn K (.builtin "object.__class__")=some true)
  (e1_Outside:PySem.W.hasDictIn K C_Outside=true)
  (e2_Outside:PySem.W.findIn K (.ref C_Outside) "__getattribute__" = some (some (.builtin "BaseException.__getattribute__")))
  (e3_Outside:PySem.W.findIn K (.ref C_Outside) "__getattr__" = some none)
  (e4_Outside:PySem.W.findIn K (.ref C_Outside) "__class__" = some (some (.builtin "object.__class__")))
  (e7_Outside:PySem.W.mroIn K C_Outside (.type "object")=some true)
  (e8_Outside:PySem.W.mroIn K C_Outside (.type "BaseException")=some true)
  (cx_Outside:PySem.W.typeIn K (.ref C_Outside)=some (.type "type"))
  (eo_Outside:PySem.W.mroIn K C_Outside (.ref C_Outside)=some true):Et K mg:=by
 refine⟨⟨C_Outside,C_Outside,Ve X G n_Outside,Ve X G n_Outside,(zMZ e1_Outside e2_Outside e3_Outside e4_Outside g5 g6 e7_Outside e8_Outside),zMK cx_Outside e1_Outside e8_Outside,eo_Outside⟩⟩
section
variable(P:Program)(w:World){K:Fg_}{mg:Str->Option Value}(base:Heap)(k:Nat){f:Addr}{fd:FuncData}
theorem zFl:RankDef gU:=⟨rfl,rfl,rfl,rfl,rfl,fun _ _ _=>⟨_,_,rfl,rfl,rfl⟩⟩
section
variable(B:Bt mg)(KT:Kt K)(C:Ct K mg)(R:Rt K mg)(ET:Et K mg)
include B KT C R ET
theorem qF(F:Fn K mg "common_divisor" gJ ["one","two"] f fd):CanM P w K mg base (k+1) "common_divisor" ["one","two"] dF:=
  eY F cG fun W WR=>(aD (s_z 0 cG.nd (aT zU zFu rfl B.abs boot_abs (bH 0)))
 (aD (s_z 1 cG.nd (aT zU zFu rfl B.abs boot_abs (bH 1)))
 (aD (zHl W.own (tst (neA W.u) zPj (aM 1) bK (bC _)) (aD (s_z 2 cG.nd (aP bJ eD (aM 0) (aM 1)))
 (aD (s_z 0 cG.nd (aM 1))
 (aI (s_z 1 cG.nd (aM 2))))))
 (aI (bR (aM 0))))))
theorem zIL(F:Fn K mg "whole" zDe ["number"] f fd):CanM P w K mg base (k+1) "whole" ["number"] bU:=
 eY F zIT fun W WR=>(aI (bR (eQ (aA (aM 0) (aA bK aK cU) aH))))
theorem zLA(F:Fn K mg "less" zGW ["one","two"] f fd):CanM P w K mg base (k+1) "less" ["one","two"] lT:=
 eY F zMa fun W WR=>(aI (bR (zDx uA zGJ (aP cS jJ (fL 0) (fL 1)) (aP cS jJ (fL 1) (fL 0)) (bC _))))
theorem zHH(F:Fn K mg "ranked" gU ["some"] f fd){T:Addr}(hT:oX K mg T)(hB:BMn base mg):CanR P w K mg base (k+1) mH:=
 zKw F pQ zFl hT hB B.sorted B.range B.len rfl fun cdv A outer s H E G W WR=>⟨(s_z 1 pQ.nd bK),(iN W.own W.calm (jY (aM 0)) (g_z 2 pQ.nd) bG (aI (s_z 1 pQ.nd (aP cS jJ (aM 1) (fL 2)))))⟩
theorem yC(F:Fn K mg "refuse_way" lI ["way"] f fd):CanM P w K mg base (k+1) "refuse_way" ["way"] cP:=
 eY F yI fun W WR=>(aI (iO (zIl C.CONTRARY.choose_spec rfl (aM 0) (by with_unfolding_all rfl)) (aI (iB W WR R.BadWay rfl zET)) bI))
theorem sI(F:Fn K mg "refuse_claims" iA ["claims"] f fd):CanM P w K mg base (k+1) "refuse_claims" ["claims"] dQ:=
  eY F kT fun W WR=>(aD (iO (tst (eqA W.u) yY (aT aL cT rfl B.len Qs (bH 0)) bK (bC _)) (aI (iB W WR R.BadClaim rfl zET)) bI)
 (aI (iN W.own W.calm (jY (aM 0)) (g_z 1 kT.nd) bG (aI (iO (tst uA zGJ (aM 1) bK (bC _)) (aI (iB W WR R.BadClaim rfl zET)) bI)))))
theorem qE(F:Fn K mg "refuse_weights" gI ["way","weights","many"] f fd):CanM P w K mg base (k+1) "refuse_weights" ["way","weights","many"] aY:=
  eY F fQ fun W WR=>(aD (s_z 3 fQ.nd (zLt (tst (inA W.u) zPG (aM 0) (eJ rfl C.WEIGHTED) (by with_unfolding_all rfl)) (aM 2) bK))
 (aD (iO (tst (neA W.u) zPj (aT aL cT rfl B.len Qs (bH 1)) (aM 3) (bC _)) (aI (iB W WR R.BadWeights rfl zET)) bI)
 (aI (iN W.own W.calm (jY (aM 1)) (g_z 4 fQ.nd) bG (aI (iO (PWd.pt (zId (tst uA zGJ (aM 4) bK (bC _)) (zAW (tst uZ zIf (aM 4) (aP iE uC bK bK) (bC _))))) (aI (iB W WR R.BadWeights rfl zET)) bI))))))
theorem zLk(F:Fn K mg "boat" zGU ["claim"] f fd):CanM P w K mg base (k+1) "boat" ["claim"] zBG:=
  eY F zLn fun W WR=>(aD (iO (PWd.pt (zId (tst uA zGJ (aM 0) bK (bC _)) (zAW (tst uZ zIf (aM 0) (aP iE uC bK bK) (bC _))))) (aI (iB W WR R.BadClaim rfl zET)) bI)
 (aI (bR (eQ (aA (eJ rfl C.BOAT) (bH 0) aH)))))
theorem zEx(F:Fn K mg "is_boat" tT ["custom"] f fd):CanM P w K mg base (k+1) "is_boat" ["custom"] bZ:=
 eY F zEy fun W WR=>(aI (bR (zDx (eqA W.u) yY (fL 0) (eJ rfl C.BOAT) (bC _))))
theorem zHQ(F:Fn K mg "way_of" yO ["custom"] f fd):CanM P w K mg base (k+1) "way_of" ["custom"] iT:=
 eY F zHk fun W WR=>(aI (bR (fL 0)))
theorem xU(F:Fn K mg "weights_of" lC ["custom"] f fd):CanM P w K mg base (k+1) "weights_of" ["custom"] cZ:=
 eY F xH fun W WR=>(aI (bR (fL 0)))
theorem vR(F:Fn K mg "_law_cell_at" kQ ["script","k"] f fd):CanM P w K mg base (k+1) "_law_cell_at" ["script","k"] dD:=
  eY F vI fun W WR=>(aD (iO (tst uA zGJ (aM 1) (aT aL cT rfl B.len Qs (bH 0)) (bC _)) (aI (bR (sV (aM 0) 1))) bI)
 (aI (bR bK)))
theorem yP(F:Fn K mg "_law_shared" lP ["one","two"] f fd):CanM P w K mg base (k+1) "_law_shared" ["one","two"] gF:=
  eY F gO fun W WR=>(aD (zHl W.own (tst uZ zIf (aM 1) bK (bC _)) (aD (s_z 2 gO.nd (aP bJ eD (aM 0) (aM 1)))
 (aD (s_z 0 gO.nd (aM 1))
 (aI (s_z 1 gO.nd (aM 2))))))
 (aI (bR (aM 0))))
theorem zBz(F:Fn K mg "_law_claim" nT ["cell","kind"] f fd):CanM P w K mg base (k+1) "_law_claim" ["cell","kind"] hU:=
  eY F rM fun W WR=>(aD (s_z 2 rM.nd (PEf.d (cX (aA (aP bJ eD (aP bS fR (aM 0) bK) bK) (aA (aP bJ eD (aP bS fR (aM 0) bK) bK) (aA (aP bJ eD (aP bS fR (aM 0) bK) (aP cI iK (aP iE uC bK bK) bK)) (aA (aP cS jJ (aP bJ eD (aP bS fR (aM 0) bK) bK) (aP iE uC bK bK)) aK aW) aW) aW) aW))))
 (aI (bR (zCM iM zKx (aM 2) (aP bJ eD (aP cI iK (aM 1) (aP bS fR (aP bJ eD (aM 0) bK) bK)) bK) (fun _ _=>rfl)))))
theorem xJ(F:Fn K mg "_law_folded" lR ["script","start","many"] f fd):CanM P w K mg base (k+1) "_law_folded" ["script","start","many"] gG:=
  eY F jW fun W WR=>(aD (sE (i:=3) jW.nd rfl (Or.inl rfl) (cX aK))
 (aD (iN W.own W.calm (jY (PEf.d (zBi (PEf.d (cX (aA bK aK cU))) (PEf.d (zC (aM 0) (tM (aM 1)) zCv))))) (g_z 4 jW.nd) bG (aI (iO (PTd.frz (tst uA zGJ (aT aL cT rfl B.len Qs (bH 3)) (aM 2) (bC _))) (aI (zCk (i:=3) (pv 3) (aM 4))) (aI (zOA (i:=3) (pv 3) (pv 3) bK bK (aM 4) (aP iE uC bK bK))))))
 (aI (iV 3 (pv 3)))))
theorem zMb(F:Fn K mg "made" zIa ["top","bottom"] f fd)(W4:CanM P w K mg base k "common_divisor" ["one","two"] dF):CanM P w K mg base (k+1) "made" ["top","bottom"] iL:=
  eY F zCa fun W WR=>(aD (iO (tst (eqA W.u) yY (aM 1) bK (bC _)) (aI (iB W WR R.NoFraction rfl zET)) bI)
 (aD (s_z 2 zCa.nd (aG W W4 rfl (aA (aM 0) (bH 1) aH)))
 (aD (iO (tst uA zGJ (aM 1) bK (bC _)) (aI (s_z 2 zCa.nd (zFz (aM 2)))) bI)
 (aI (bR (eQ (aA (aP bS fR (aM 0) (aM 2)) (aA (aP bS fR (aM 1) (aM 2)) aK aW) aW)))))))
theorem zFo(F:Fn K mg "lesser" yZ ["one","two"] f fd)(Qbm:CanM P w K mg base k "less" ["one","two"] lT):CanM P w K mg base (k+1) "lesser" ["one","two"] kL:=
 eY F zHv fun W WR=>(aI (bR (zLt (zFk (aG W Qbm rfl (aA (aM 0) (bH 1) aH))) (aM 0) (aM 1))))
theorem yV(F:Fn K mg "is_outside" lX ["amount","most"] f fd)(Qbm:CanM P w K mg base k "less" ["one","two"] lT):CanM P w K mg base (k+1) "is_outside" ["amount","most"] bO:=
 eY F xV fun W WR=>(aI (bR (zPr (aG W Qbm rfl (aA (aM 0) (aA (eJ rfl C.NOUGHT) aK aH) aH)) (zPd (aG W Qbm rfl (aA (aM 1) (bH 0) aH))))))
theorem zHf(F:Fn K mg "looked" xZ ["way","weights","claims"] f fd)(Qak:CanM P w K mg base k "refuse_way" ["way"] cP)(W8:CanM P w K mg base k "refuse_claims" ["claims"] dQ)(W5:CanM P w K mg base k "refuse_weights" ["way","weights","many"] aY):CanM P w K mg base (k+1) "looked" ["way","weights","claims"] oC:=
  eY F zFH fun W WR=>(aD (nF (aG W Qak rfl (bH 0)))
 (aD (nF (aG W W8 rfl (bH 2)))
 (aI (nF (aG W W5 rfl (aA (aM 0) (aA (aM 1) (aA (aT aL cT rfl B.len Qs (bH 2)) aK aJ) aH) aH))))))
theorem zFh(F:Fn K mg "kids_of" uQ ["custom"] f fd)(Qa8:CanM P w K mg base k "is_boat" ["custom"] bZ):CanM P w K mg base (k+1) "kids_of" ["custom"] aV:=
 eY F zEp fun W WR=>(aI (bR (zLt (zFk (aG W Qa8 rfl (bH 0))) (eQ aK) (fL 0))))
theorem zDf(F:Fn K mg "_law_frac" rF ["top","bottom"] f fd)(Qai:CanM P w K mg base k "_law_shared" ["one","two"] gF):CanM P w K mg base (k+1) "_law_frac" ["top","bottom"] dW:=
  eY F uD fun W WR=>(aD (s_z 2 uD.nd (aG W Qai rfl (aA (aT zU zFu rfl B.abs boot_abs (bH 0)) (bH 1) aJ)))
 (aI (bR (eQ (aA (aP bS fR (aM 0) (aM 2)) (aA (aP bS fR (aM 1) (aM 2)) aK aW) aW)))))
theorem zLo(F:Fn K mg "plus" zHe ["one","two"] f fd)(Qbo:CanM P w K mg base k "made" ["top","bottom"] iL):CanM P w K mg base (k+1) "plus" ["one","two"] kR:=
 eY F zMj fun W WR=>(aI (bR (aG W Qbo rfl (aA (aP cI iK (aP cS jJ (fL 0) (fL 1)) (aP cS jJ (fL 1) (fL 0))) (aA (aP cS jJ (fL 0) (fL 1)) aK aW) aW))))
theorem zIn(F:Fn K mg "minus" zBW ["one","two"] f fd)(Qbo:CanM P w K mg base k "made" ["top","bottom"] iL):CanM P w K mg base (k+1) "minus" ["one","two"] gY:=
 eY F zIF fun W WR=>(aI (bR (aG W Qbo rfl (aA (aP zHB zMd (aP cS jJ (fL 0) (fL 1)) (aP cS jJ (fL 1) (fL 0))) (aA (aP cS jJ (fL 0) (fL 1)) aK aW) aW))))
theorem zIM(F:Fn K mg "times" zCj ["one","two"] f fd)(Qbo:CanM P w K mg base k "made" ["top","bottom"] iL):CanM P w K mg base (k+1) "times" ["one","two"] kG:=
 eY F zIz fun W WR=>(aI (bR (aG W Qbo rfl (aA (aP cS jJ (fL 0) (fL 1)) (aA (aP cS jJ (fL 0) (fL 1)) aK aW) aW))))
theorem zKS(F:Fn K mg "over" zGO ["one","two"] f fd)(Qbo:CanM P w K mg base k "made" ["top","bottom"] iL):CanM P w K mg base (k+1) "over" ["one","two"] uH:=
 eY F zKP fun W WR=>(aI (bR (aG W Qbo rfl (aA (aP cS jJ (fL 0) (fL 1)) (aA (aP cS jJ (fL 0) (fL 1)) aK aW) aW))))
theorem qD(F:Fn K mg "refuse_outside" gK ["amount","most"] f fd)(Qag:CanM P w K mg base k "is_outside" ["amount","most"] bO):CanM P w K mg base (k+1) "refuse_outside" ["amount","most"] bM:=
 eY F rG fun W WR=>(aI (iO (zFk (aG W Qag rfl (aA (aM 0) (bH 1) aH))) (aI (iB W WR R.Outside rfl zET)) bI))
theorem zAq(F:Fn K mg "levels_of" kB ["weights","claims"] f fd)(Qbo:CanM P w K mg base k "made" ["top","bottom"] iL):CanM P w K mg base (k+1) "levels_of" ["weights","claims"] fU:=
 eY F zBK fun W WR=>(aI (hG (zBM (N:=["weights","claims"]) W (by decide +kernel) rfl (sc:=aF kB) rfl rfl (by decide +kernel) (zLf rfl B.zip (aA (aM 1) (bH 0) aH)) (fun C2 s2 H2 fp2 G W=>(aG W Qbo rfl (aA (aM 2) (bH 3) aH))))))
theorem zFN(F:Fn K mg "kid_at" xF ["custom","path"] f fd)(Qa5:CanM P w K mg base k "kids_of" ["custom"] aV):CanM P w K mg base (k+1) "kid_at" ["custom","path"] oV:=
  eY F pN fun W WR=>(aD (iN W.own W.calm (jY (aM 1)) (g_z 2 pN.nd) bG (aD (s_z 3 pN.nd (aG W Qa5 rfl (bH 0)))
 (aD (iO (PWd.pt (zId (tst uA zGJ (aM 2) bK (bC _)) (zAW (tst zJc zPi (aM 2) (aT aL cT rfl B.len Qs (bH 3)) (bC _))))) (aI (iB W WR R.Outside rfl zET)) bI)
 (aI (s_z 0 pN.nd (sV (aM 3) 2))))))
 (aI (bR (aM 0))))
theorem zCb(F:Fn K mg "_law_plus" pX ["one","two"] f fd)(Qav:CanM P w K mg base k "_law_frac" ["top","bottom"] dW):CanM P w K mg base (k+1) "_law_plus" ["one","two"] bQ:=
 eY F zCh fun W WR=>(aI (bR (aG W Qav rfl (aA (aP cI iK (aP cS jJ (fL 0) (fL 1)) (aP cS jJ (fL 1) (fL 0))) (aA (aP cS jJ (fL 0) (fL 1)) aK aW) aW))))
theorem zBs(F:Fn K mg "_law_catch" nU ["claim","cell"] f fd)(Qav:CanM P w K mg base k "_law_frac" ["top","bottom"] dW):CanM P w K mg base (k+1) "_law_catch" ["claim","cell"] cQ:=
  eY F mE fun W WR=>(aD (s_z 1 mE.nd (aP bJ eD (aM 1) (aP iE uC bK bK)))
 (aD (s_z 2 mE.nd (zCM iM zKx (PEf.d (cX (aA bK (aA bK (aA bK (aA bK (aA (aP cI iK bK (aP bJ eD (aP bS fR (aM 1) bK) bK)) aK aW) cU) cU) cU) cU))) (aP bJ eD (aM 1) bK) (fun _ _=>rfl)))
 (aI (bR (aG W Qav rfl (aA (aP bJ eD (aP bS fR (aM 1) bK) (aP cI iK (aP cS jJ (aM 0) (aM 2)) bK)) (bH 2) aW))))))
theorem zIm(F:Fn K mg "total" zCu ["some"] f fd)(Qbr:CanM P w K mg base k "plus" ["one","two"] kR):CanM P w K mg base (k+1) "total" ["some"] kM:=
  eY F sO fun W WR=>(aD (s_z 1 sO.nd (eJ rfl C.NOUGHT))
 (aD (iN W.own W.calm (jY (aM 0)) (g_z 2 sO.nd) bG (aI (s_z 1 sO.nd (aG W Qbr rfl (aA (aM 1) (bH 2) aH)))))
 (aI (bR (aM 1)))))
theorem zAH(F:Fn K mg "row_dealt" nO ["claims","catch"] f fd)(Qbc:CanM P w K mg base k "lesser" ["one","two"] kL)(Qbj:CanM P w K mg base k "minus" ["one","two"] gY)(Qbi:CanM P w K mg base k "whole" ["number"] bU):CanM P w K mg base (k+1) "row_dealt" ["claims","catch"] fV:=
  eY F eS fun W WR=>(aD (s_z 2 eS.nd (aM 1))
 (aD (sE (i:=3) eS.nd rfl (Or.inl rfl) (cX aK))
 (aD (iN W.own W.calm (jY (aM 0)) (g_z 4 eS.nd) bG (aD (s_z 5 eS.nd (aG W Qbc rfl (aA (aM 2) (aA (aG W Qbi rfl (bH 4)) aK aJ) aH)))
 (aD (zCk (i:=3) (pv 3) (aM 5))
 (aI (s_z 2 eS.nd (aG W Qbj rfl (aA (aM 2) (bH 5) aH)))))))
 (aI (iV 3 (pv 3))))))
theorem yF(F:Fn K mg "even_dealt" lU ["weights","claims","catch"] f fd)(Qbf:CanR P w K mg base k mH)(Qat:CanM P w K mg base k "levels_of" ["weights","claims"] fU)(Qbn:CanM P w K mg base k "over" ["one","two"] uH)(Qbc:CanM P w K mg base k "lesser" ["one","two"] kL)(Qbj:CanM P w K mg base k "minus" ["one","two"] gY)(Qbg:CanM P w K mg base k "times" ["one","two"] kG)(Qbi:CanM P w K mg base k "whole" ["number"] bU):CanM P w K mg base (k+1) "even_dealt" ["weights","claims","catch"] dB:=
  eY F cN fun W WR=>(aD (s_z 3 cN.nd (aM 2))
 (aD (s_z 4 cN.nd (aT (mV W.calm) wU rfl B.sum jR (bH 0)))
 (aD (sE (i:=5) cN.nd rfl (Or.inl rfl) (zHu (cX (aA (eJ rfl C.NOUGHT) aK aH)) (aT aL cT rfl B.len Qs (bH 1))))
 (zLB W Qbf zPt zMU rfl (aA (PEf.d (bT W Qat rfl (aA (aM 0) (bH 1) aH))) aK aJ) (g_z 6 cN.nd) bG (aD (s_z 7 cN.nd (aG W Qbn rfl (aA (aG W Qbg rfl (aA (aM 3) (aA (aG W Qbi rfl (aA (sV (aM 0) 6) aK bD)) aK aJ) aH)) (aA (aG W Qbi rfl (bH 4)) aK aJ) aJ)))
 (aD (zGM (i:=5) (pv 5) (aM 6) (aG W Qbc rfl (aA (aM 7) (aA (aG W Qbi rfl (aA (sV (aM 1) 6) aK bD)) aK aJ) aH)))
 (aD (s_z 3 cN.nd (PEd.frz (aG W Qbj rfl (aA (aM 3) (aA (sV (aM 5) 6) aK bD) aH))))
 (aI (zPJ (i:=4) cN.nd rfl (Or.inl rfl) (sV (aM 0) 6) zNS zKC zJg))))) (aI (iV 5 (pv 5)))))))
theorem zY(F:Fn K mg "part_dealt" iS ["claims","catch"] f fd)(Qbn:CanM P w K mg base k "over" ["one","two"] uH)(Qbi:CanM P w K mg base k "whole" ["number"] bU)(Qbg:CanM P w K mg base k "times" ["one","two"] kG):CanM P w K mg base (k+1) "part_dealt" ["claims","catch"] eM:=
  eY F gT fun W WR=>(aD (s_z 2 gT.nd (aT (mV W.calm) wU rfl B.sum jR (bH 0)))
 (aD (iO (tst (eqA W.u) yY (aM 2) bK (bC _)) (aI (hG (zHu (cX (aA (eJ rfl C.NOUGHT) aK aH)) (aT aL cT rfl B.len Qs (bH 0))))) bI)
 (aD (s_z 3 gT.nd (aG W Qbn rfl (aA (aM 1) (aA (aG W Qbi rfl (bH 2)) aK aJ) aH)))
 (aI (hG (pA W gT.nd rfl (sc:=aF iS) rfl rfl (by decide +kernel) (jY (aM 0)) (fun C2 s2 H2 fp2 G W=>⟨zBe,(aG W Qbg rfl (aA (aM 3) (aA (aG W Qbi rfl (bH 4)) aK aJ) aH))⟩)))))))
theorem zEZ(F:Fn K mg "_law_sum" uO ["some"] f fd)(Qaw:CanM P w K mg base k "_law_plus" ["one","two"] bQ):CanM P w K mg base (k+1) "_law_sum" ["some"] lZ:=
  eY F mW fun W WR=>(aD (s_z 1 mW.nd (eQ (aA bK (aA bK aK cU) cU)))
 (aD (iN W.own W.calm (jY (aM 0)) (g_z 2 mW.nd) bG (aI (s_z 1 mW.nd (aG W Qaw rfl (aA (aM 1) (bH 2) aH)))))
 (aI (bR (aM 1)))))
theorem zG(F:Fn K mg "half_dealt" iX ["claims","catch"] f fd)(Qbg:CanM P w K mg base k "times" ["one","two"] kG)(Qae:CanM P w K mg base k "even_dealt" ["weights","claims","catch"] dB)(Qbr:CanM P w K mg base k "plus" ["one","two"] kR):CanM P w K mg base (k+1) "half_dealt" ["claims","catch"] eV:=
  eY F kE fun W WR=>(aD (s_z 2 kE.nd (PEf.d (zHu (cX (aA bK aK cU)) (aT aL cT rfl B.len Qs (bH 0)))))
 (aI (hG (pA W kE.nd rfl (sc:=aF iX) rfl rfl (by decide +kernel) (jY (PEf.d (bT W Qae rfl (aA (aM 2) (aA (aM 0) (aA (aG W Qbr rfl (aA (aM 1) (bH 1) aH)) aK aJ) aH) aH)))) (fun C2 s2 H2 fp2 G W=>⟨zBe,(aG W Qbg rfl (aA (aM 3) (aA (eJ rfl C.HALF) aK aH) aH))⟩)))))
theorem rY{r:Mir}(F:Fn K mg "rightly_dealt" dP ["way","weights","claims","catch"] f fd)(Qbi:CanM P w K mg base k "whole" ["number"] bU)(Qas:CanM P w K mg base k "row_dealt" ["claims","catch"] fV)(Qae:CanM P w K mg base k "even_dealt" ["weights","claims","catch"] dB)(Qah:CanM P w K mg base k "part_dealt" ["claims","catch"] eM)(Qaj:CanM P w K mg base k "half_dealt" ["claims","catch"] eV)(Qbj:CanM P w K mg base k "minus" ["one","two"] gY)(Qbm:CanM P w K mg base k "less" ["one","two"] lT)(Qbr:CanM P w K mg base k "plus" ["one","two"] kR)(W7:CanM P w K mg base k "rightly_dealt" ["way","weights","claims","catch"] r):CanM P w K mg base (k+1) "rightly_dealt" ["way","weights","claims","catch"] (aR r):=
  eY F eH fun W WR=>(aD (s_z 4 eH.nd (aG W Qbi rfl (aA (aT (mV W.calm) wU rfl B.sum jR (bH 2)) aK aJ)))
 (aD (iO (tst (eqA W.u) yY (aM 0) (pG gN fun _=>.str _) (bC _)) (aI (hG (bT W Qas rfl (aA (aM 2) (bH 3) aH)))) bI)
 (aD (iO (tst (eqA W.u) yY (aM 0) (pG gN fun _=>.str _) (bC _)) (aI (hG (bT W Qae rfl (aA (aM 1) (aA (aM 2) (bH 3) aH) aH)))) bI)
 (aD (iO (tst (eqA W.u) yY (aM 0) (pG gN fun _=>.str _) (bC _)) (aI (hG (bT W Qah rfl (aA (aM 2) (bH 3) aH)))) bI)
 (aD (iO (PWd.pt (zKQ (tst (eqA W.u) yY (aM 0) (pG gN fun _=>.str _) (bC _)) (zFX (zQF (zFk (aG W Qbm rfl (aA (aM 4) (aA (aG W Qbr rfl (aA (aM 3) (bH 3) aH)) aK aJ) aH))))))) (aI (hG (bT W Qaj rfl (aA (aM 2) (bH 3) aH)))) bI)
 (aD (s_z 5 eH.nd (PEf.d (bT W W7 rfl (aA (zOX C.CONTRARY.choose_spec rfl (aM 0) (fun _ _=>rfl)) (aA (aM 1) (aA (aM 2) (aA (aG W Qbj rfl (aA (aM 4) (bH 3) aH)) aK aJ) aH) aH) bD))))
 (aI (hG (zBM (N:=["way","weights","claims","catch","most","lacking"]) W (by decide +kernel) rfl (sc:=aF dP) rfl rfl (by decide +kernel) (zLf rfl B.zip (aA (aM 2) (bH 5) aH)) (fun C2 s2 H2 fp2 G W=>(aG W Qbj rfl (aA (aG W Qbi rfl (bH 6)) (bH 7) aJ))))))))))))
theorem kU(F:Fn K mg "rightly_dealt" dP ["way","weights","claims","catch"] f fd)(Qbi:CanM P w K mg base k "whole" ["number"] bU)(Qas:CanM P w K mg base k "row_dealt" ["claims","catch"] fV)(Qae:CanM P w K mg base k "even_dealt" ["weights","claims","catch"] dB)(Qah:CanM P w K mg base k "part_dealt" ["claims","catch"] eM)(Qaj:CanM P w K mg base k "half_dealt" ["claims","catch"] eV)(Qbj:CanM P w K mg base k "minus" ["one","two"] gY)(Qbm:CanM P w K mg base k "less" ["one","two"] lT)(Qbr:CanM P w K mg base k "plus" ["one","two"] kR):∀ n:Nat,CanM P w K mg base (k+1+n) "rightly_dealt" ["way","weights","claims","catch"] (aO n)
 | 0=>mG F eH fun cdv A outer s H E G W WR=>zCE
 | n+1=>rY _ _ _ (k+1+n) B KT C R ET F (Qbi:=Qbi.mono (by omega)) (Qas:=Qas.mono (by omega)) (Qae:=Qae.mono (by omega)) (Qah:=Qah.mono (by omega)) (Qaj:=Qaj.mono (by omega)) (Qbj:=Qbj.mono (by omega)) (Qbm:=Qbm.mono (by omega)) (Qbr:=Qbr.mono (by omega)) (W7:=kU F (Qbi:=Qbi) (Qas:=Qas) (Qae:=Qae) (Qah:=Qah) (Qaj:=Qaj) (Qbj:=Qbj) (Qbm:=Qbm) (Qbr:=Qbr) n)
theorem zIo(F:Fn K mg "dealt" zCp ["way","weights","claims","catch"] f fd)(Qba:CanM P w K mg base k "looked" ["way","weights","claims"] oC)(W3:CanM P w K mg base k "refuse_outside" ["amount","most"] bM)(W7:CanM P w K mg base k "rightly_dealt" ["way","weights","claims","catch"] (aO 2))(Qbi:CanM P w K mg base k "whole" ["number"] bU):CanM P w K mg base (k+1) "dealt" ["way","weights","claims","catch"] jH:=
  eY F zJt fun W WR=>(aD (nF (aG W Qba rfl (aA (aM 0) (aA (aM 1) (bH 2) aH) aH)))
 (aD (nF (aG W W3 rfl (aA (aM 3) (aA (aG W Qbi rfl (aA (aT (mV W.calm) wU rfl B.sum jR (bH 2)) aK aJ)) aK aJ) aH)))
 (aI (hG (bT W W7 rfl (aA (aM 0) (aA (aM 1) (aA (aM 2) (bH 3) aH) aH) aH))))))
theorem yG{r:Mir}(F:Fn K mg "_law_claims" iQ ["custom"] f fd)(Qan:CanM P w K mg base k "_law_claims" ["custom"] r):CanM P w K mg base (k+1) "_law_claims" ["custom"] (iW r):=
  eY F fF fun W WR=>(aD (iO (tst (eqA W.u) yY (fL 0) (pG gN fun _=>.str _) (bC _)) (aI (bR (PEf.d (cX (aA (fL 0) aK bD))))) bI)
 (aD (s_z 1 fF.nd (PEf.d (cX aK)))
 (aD (iN W.own W.calm (jY (fL 0)) (g_z 2 fF.nd) bG (aI (s_z 1 fF.nd (PEf.d (zBi (aM 1) (aG W Qan rfl (bH 2)))))))
 (aI (bR (aM 1))))))
theorem oO(F:Fn K mg "_law_claims" iQ ["custom"] f fd)  : ∀ n:Nat,CanM P w K mg base (k+1+n) "_law_claims" ["custom"] (cY n)
 | 0=>mG F fF fun cdv A outer s H E G W WR=>zCE
 | n+1=>yG _ _ _ (k+1+n) B KT C R ET F  (Qan:=oO F  n)
theorem zAK{r:Mir}(F:Fn K mg "_law_paths" kP ["custom","path"] f fd)(Qap:CanM P w K mg base k "_law_paths" ["custom","path"] r):CanM P w K mg base (k+1) "_law_paths" ["custom","path"] (iC r):=
  eY F dS fun W WR=>(aD (iO (tst (eqA W.u) yY (fL 0) (pG gN fun _=>.str _) (bC _)) (aI (hG (cX aK))) bI)
 (aD (sE (i:=2) dS.nd rfl (Or.inl rfl) (cX aK))
 (aD (iN W.own W.calm (zAz rfl B.range (aA (aT aL cT rfl B.len Qs (aA (fL 0) aK bD)) aK aJ)) (g_z 3 dS.nd) bG (aI (iN W.own W.calm (zKa rfl B.range (aA (aP cI iK (aM 3) bK) (aA (aT aL cT rfl B.len Qs (aA (fL 0) aK bD)) aK aJ) aW)) (g_z 4 dS.nd) bG (aI (zCk (i:=2) (pv 2) (eQ (aA (pG gN fun _=>.str _) (aA (aM 1) (aA (aM 3) (bH 4) aH) aH) cU)))))))
 (aD (iN W.own W.calm (zAz rfl B.range (aA (aT aL cT rfl B.len Qs (aA (fL 0) aK bD)) aK aJ)) (g_z 5 dS.nd) bG (aI (sE (i:=2) dS.nd rfl (Or.inl rfl) (PEf.frz (zBi (aM 2) (PEf.d (bT W Qap rfl (aA (sV (fL 0) 5) (aA (aP cI iK (aM 1) (eQ (bH 5))) aK aW) bD))))))))
 (aI (iV 2 (pv 2)))))))
theorem rR(F:Fn K mg "_law_paths" kP ["custom","path"] f fd)  : ∀ n:Nat,CanM P w K mg base (k+1+n) "_law_paths" ["custom","path"] (bN n)
 | 0=>mG F dS fun cdv A outer s H E G W WR=>zCE
 | n+1=>zAK _ _ _ (k+1+n) B KT C R ET F  (Qap:=rR F  n)
theorem zBJ{r:Mir}(F:Fn K mg "claims_of" jX ["custom"] f fd)(Qa8:CanM P w K mg base k "is_boat" ["custom"] bZ)(Qa5:CanM P w K mg base k "kids_of" ["custom"] aV)(Qau:CanM P w K mg base k "claims_of" ["custom"] r):CanM P w K mg base (k+1) "claims_of" ["custom"] (kN r):=
  eY F iY fun W WR=>(aD (iO (zFk (aG W Qa8 rfl (bH 0))) (aI (hG (cX (aA (fL 0) aK bD)))) bI)
 (aD (sE (i:=1) iY.nd rfl (Or.inl rfl) (cX aK))
 (aD (iN W.own W.calm (jY (aG W Qa5 rfl (bH 0))) (g_z 2 iY.nd) bG (aI (zNA (i:=1) (pv 1) (bT W Qau rfl (bH 2)))))
 (aI (iV 1 (pv 1))))))
theorem rP(F:Fn K mg "claims_of" jX ["custom"] f fd)(Qa8:CanM P w K mg base k "is_boat" ["custom"] bZ)(Qa5:CanM P w K mg base k "kids_of" ["custom"] aV):∀ n:Nat,CanM P w K mg base (k+1+n) "claims_of" ["custom"] (bF n)
 | 0=>mG F iY fun cdv A outer s H E G W WR=>zCE
 | n+1=>zBJ _ _ _ (k+1+n) B KT C R ET F (Qa8:=Qa8.mono (by omega)) (Qa5:=Qa5.mono (by omega)) (Qau:=rP F (Qa8:=Qa8) (Qa5:=Qa5) n)
theorem zEB{r:Mir}(F:Fn K mg "deep_of" mB ["custom"] f fd)(Qa5:CanM P w K mg base k "kids_of" ["custom"] aV)(Qa4:CanM P w K mg base k "deep_of" ["custom"] r):CanM P w K mg base (k+1) "deep_of" ["custom"] (oP r):=
 eY F qK fun W WR=>(aI (bR (aP cI iK bK (zLg W.calm rfl B.max (PEf.d (pA W qK.nd rfl (sc:=aF mB) rfl rfl (by decide +kernel) (jY (aG W Qa5 rfl (bH 0))) (fun C2 s2 H2 fp2 G W=>⟨zBe,(aG W Qa4 rfl (bH 1))⟩))) bK))))
theorem wI(F:Fn K mg "deep_of" mB ["custom"] f fd)(Qa5:CanM P w K mg base k "kids_of" ["custom"] aV):∀ n:Nat,CanM P w K mg base (k+1+n) "deep_of" ["custom"] (iJ n)
 | 0=>mG F qK fun cdv A outer s H E G W WR=>zCE
 | n+1=>zEB _ _ _ (k+1+n) B KT C R ET F (Qa5:=Qa5.mono (by omega)) (Qa4:=wI F (Qa5:=Qa5) n)
theorem zKJ(F:Fn K mg "knot" zGg ["way","weights","kids"] f fd)(Qak:CanM P w K mg base k "refuse_way" ["way"] cP)(W5:CanM P w K mg base k "refuse_weights" ["way","weights","many"] aY)(Qa4:CanM P w K mg base k "deep_of" ["custom"] (iJ 10))(Qau:CanM P w K mg base k "claims_of" ["custom"] (bF 10)):CanM P w K mg base (k+1) "knot" ["way","weights","kids"] zBB:=
  eY F zFJ fun W WR=>(aD (nF (aG W Qak rfl (bH 0)))
 (aD (nF (aG W W5 rfl (aA (aM 0) (aA (aM 1) (aA (aT aL cT rfl B.len Qs (bH 2)) aK aJ) aH) aH)))
 (aD (s_z 3 zFJ.nd (eQ (aA (aM 0) (aA (zAw oA zKk rfl B.tuple boot_tuple (bH 1)) (aA (zAw oA zKk rfl B.tuple boot_tuple (bH 2)) aK aJ) aJ) aH)))
 (aD (iO (PWd.pt (zId (tst (eqA W.u) yY (aT aL cT rfl B.len Qs (bH 2)) bK (bC _)) (zId (tst uZ zIf (aT aL cT rfl B.len Qs (aA (PEf.d (bT W Qau rfl (bH 3))) aK aJ)) (eJ rfl C.MOST_BOATS) (bC _)) (zAW (tst uZ zIf (aG W Qa4 rfl (bH 3)) (eJ rfl C.DEEPEST) (bC _)))))) (aI (iB W WR R.TooMany rfl zET)) bI)
 (aI (bR (aM 3)))))))
theorem zBT(F:Fn K mg "claim_of" qQ ["custom"] f fd)(Qau:CanM P w K mg base k "claims_of" ["custom"] (bF 10)):CanM P w K mg base (k+1) "claim_of" ["custom"] cK:=
 eY F zCC fun W WR=>(aI (bR (aT (mV W.calm) wU rfl B.sum jR (aA (PEf.d (bT W Qau rfl (bH 0))) aK aJ))))
theorem zHF(F:Fn K mg "by_kid" xQ ["custom","some"] f fd)(Qa5:CanM P w K mg base k "kids_of" ["custom"] aV)(Qau:CanM P w K mg base k "claims_of" ["custom"] (bF 10)):CanM P w K mg base (k+1) "by_kid" ["custom","some"] fZ:=
  eY F jS fun W WR=>(aD (sE (i:=2) jS.nd rfl (Or.inl rfl) (cX aK))
 (aD (s_z 3 jS.nd bK)
 (aD (iN W.own W.calm (jY (aG W Qa5 rfl (bH 0))) (g_z 4 jS.nd) bG (aD (s_z 5 jS.nd (aP cI iK (aM 3) (aT aL cT rfl B.len Qs (aA (PEf.d (bT W Qau rfl (bH 4))) aK aJ))))
 (aD (zCk (i:=2) (pv 2) (zGq (aM 1) (tM (aM 3)) (tM (aM 5))))
 (aI (s_z 3 jS.nd (aM 5))))))
 (aI (iV 2 (pv 2))))))
theorem sD(F:Fn K mg "refuse_unlike" gZ ["custom","amounts"] f fd)(Qau:CanM P w K mg base k "claims_of" ["custom"] (bF 10)):CanM P w K mg base (k+1) "refuse_unlike" ["custom","amounts"] bY:=
 eY F sG fun W WR=>(aI (iO (tst (neA W.u) zPj (aT aL cT rfl B.len Qs (bH 1)) (aT aL cT rfl B.len Qs (aA (PEf.d (bT W Qau rfl (bH 0))) aK aJ)) (bC _)) (aI (iB W WR R.Unlike rfl zET)) bI))
theorem zEM(F:Fn K mg "is_over" uT ["custom","amounts","number"] f fd)(Qag:CanM P w K mg base k "is_outside" ["amount","most"] bO)(Qbi:CanM P w K mg base k "whole" ["number"] bU)(Qau:CanM P w K mg base k "claims_of" ["custom"] (bF 10)):CanM P w K mg base (k+1) "is_over" ["custom","amounts","number"] pO:=
  eY F zEl fun W WR=>(aD (iO (PWd.pt (zId (tst uA zGJ (aM 2) bK (bC _)) (zAW (tst zJc zPi (aM 2) (aT aL cT rfl B.len Qs (bH 1)) (bC _))))) (aI (bR (pG zBO fun _=>.bl _))) bI)
 (aI (bR (aG W Qag rfl (aA (sV (aM 1) 2) (aA (aG W Qbi rfl (aA (sV (PEf.d (bT W Qau rfl (bH 0))) 2) aK bD)) aK aJ) bD)))))
theorem zS(F:Fn K mg "kid_claims" iR ["custom"] f fd)(Qa1:CanM P w K mg base k "claim_of" ["custom"] cK)(Qa5:CanM P w K mg base k "kids_of" ["custom"] aV):CanM P w K mg base (k+1) "kid_claims" ["custom"] eR:=
 eY F oH fun W WR=>(aI (hG (pA W oH.nd rfl (sc:=aF iR) rfl rfl (by decide +kernel) (jY (aG W Qa5 rfl (bH 0))) (fun C2 s2 H2 fp2 G W=>⟨zBe,(aG W Qa1 rfl (bH 1))⟩))))
theorem zN(F:Fn K mg "amounts_at" mF ["custom","amounts","path"] f fd)(Qbe:CanM P w K mg base k "by_kid" ["custom","some"] fZ)(Qa5:CanM P w K mg base k "kids_of" ["custom"] aV):CanM P w K mg base (k+1) "amounts_at" ["custom","amounts","path"] gB:=
  eY F gQ fun W WR=>(aD (iN W.own W.calm (jY (aM 2)) (g_z 3 gQ.nd) bG (aD (s_z 1 gQ.nd (sV (PEf.d (bT W Qbe rfl (aA (aM 0) (bH 1) aH))) 3))
 (aI (s_z 0 gQ.nd (sV (aG W Qa5 rfl (bH 0)) 3)))))
 (aI (bR (aM 1))))
theorem zCI(F:Fn K mg "is_wrong" qS ["custom","amounts","one","other"] f fd)(Qbe:CanM P w K mg base k "by_kid" ["custom","some"] fZ)(Qa5:CanM P w K mg base k "kids_of" ["custom"] aV)(Qac:CanM P w K mg base k "weights_of" ["custom"] cZ)(Qbl:CanM P w K mg base k "total" ["some"] kM)(Qa1:CanM P w K mg base k "claim_of" ["custom"] cK)(Qbk:CanM P w K mg base k "dealt" ["way","weights","claims","catch"] jH)(Qa9:CanM P w K mg base k "way_of" ["custom"] iT)(Qbr:CanM P w K mg base k "plus" ["one","two"] kR):CanM P w K mg base (k+1) "is_wrong" ["custom","amounts","one","other"] fO:=
  eY F dN fun W WR=>(aD (s_z 4 dN.nd (PEf.d (bT W Qbe rfl (aA (aM 0) (bH 1) aH))))
 (aD (s_z 5 dN.nd (PEf.d (cX (aA (aG W Qbl rfl (aA (sV (aM 4) 2) aK bD)) (aA (aG W Qbl rfl (aA (sV (aM 4) 3) aK bD)) aK aJ) aJ))))
 (aD (s_z 6 dN.nd (aG W Qa5 rfl (bH 0)))
 (aD (s_z 7 dN.nd (PEf.d (cX (aA (aG W Qa1 rfl (aA (sV (aM 6) 2) aK bD)) (aA (aG W Qa1 rfl (aA (sV (aM 6) 3) aK bD)) aK aJ) aJ))))
 (aD (s_z 8 dN.nd (aG W Qac rfl (bH 0)))
 (aD (iO (tst uZ zIf (aT aL cT rfl B.len Qs (bH 8)) bK (bC _)) (aI (s_z 8 dN.nd (PEf.d (cX (aA (sV (aM 8) 2) (aA (sV (aM 8) 3) aK bD) bD))))) bI)
 (aD (zJO W zDQ ET.co_Outside rfl (zOt (zNW (i:=9) dN.nd rfl (Or.inl rfl) W Qbk rfl (have W:=W.nox;(aA (aG W Qa9 rfl (bH 0)) (aA (aM 8) (aA (aM 7) (aA (aG W Qbr rfl (aA (fL 5) (aA (fL 5) aK bD) bD)) aK aJ) aH) aH) aJ)))) (fun ea W=>(aI (bR (pG zBO fun _=>.bl _)))))
 (aI (bR (zDx (neA W.u) zPj (aM 9) (aM 5) (bC _)))))))))))
theorem zCH(F:Fn K mg "_law_knot" rA ["cell","kids"] f fd)(Qbp:CanM P w K mg base k "knot" ["way","weights","kids"] zBB):CanM P w K mg base (k+1) "_law_knot" ["cell","kids"] fN:=
  eY F eK fun W WR=>(aD (s_z 2 eK.nd (zCM iM zKx (PEf.d (cX (aA (pG gN fun _=>.str _) (aA (pG gN fun _=>.str _) (aA (pG gN fun _=>.str _) (aA (pG gN fun _=>.str _) (aA (pG gN fun _=>.str _) zET cU) cU) cU) cU) cU))) (aP bJ eD (aM 0) bK) (fun _ _=>rfl)))
 (aD (sE (i:=3) eK.nd rfl (Or.inl rfl) (cX aK))
 (aD (iO (tst (inA W.u) zPG (aM 2) (eQ (aA (pG gN fun _=>.str _) zET cU)) (by with_unfolding_all rfl)) (aD (s_z 4 eK.nd (zCM iM zKx (PEf.d (cX (aA bK (aA bK (aA bK (aA (aP iE uC bK bK) aK aW) cU) cU) cU))) (aP bJ eD (aP bS fR (aM 0) bK) bK) (fun _ _=>rfl)))
 (aD (s_z 5 eK.nd (aP bS fR (aM 0) bK))
 (aI (iN W.own W.calm (jY (aM 1)) (g_z 6 eK.nd) bG (aD (zCk (i:=3) (pv 3) (aP cI iK bK (aP bJ eD (aM 5) (aM 4))))
 (aI (s_z 5 eK.nd (aP bS fR (aM 5) bK)))))))) bI)
 (dJ.frzAt 3 (aI (bR (aG W Qbp rfl (aA (aM 2) (aA (aM 3) (bH 1) aH) aH))))))))
theorem zFj(F:Fn K mg "is_pair" tP ["custom","amounts","paper"] f fd)(Qax:CanM P w K mg base k "is_wrong" ["custom","amounts","one","other"] fO)(Qbb:CanM P w K mg base k "kid_at" ["custom","path"] oV)(Qal:CanM P w K mg base k "amounts_at" ["custom","amounts","path"] gB)(Qa5:CanM P w K mg base k "kids_of" ["custom"] aV):CanM P w K mg base (k+1) "is_pair" ["custom","amounts","paper"] jU:=
  eY F jQ fun W WR=>(aD (s_z 3 jQ.nd (fL 2))
 (aD (s_z 4 jQ.nd (fL 2))
 (aD (s_z 5 jQ.nd (fL 2))
 (aD (zJO W zDQ ET.co_Outside rfl (zOt (zNW (i:=6) jQ.nd rfl (Or.inl rfl) W Qbb rfl (aA (aM 0) (bH 3) aH))) (fun ea W=>(aI (bR (pG zBO fun _=>.bl _)))))
 (aD (iO (PWd.pt (zId (tst uA zGJ (aM 4) bK (bC _)) (zId (tst zJc zPi (aM 4) (aM 5) (bC _)) (zAW (tst zJc zPi (aM 5) (aT aL cT rfl B.len Qs (aA (aG W Qa5 rfl (bH 6)) aK aJ)) (bC _)))))) (aI (bR (pG zBO fun _=>.bl _))) bI)
 (aI (bR (aG W Qax rfl (aA (aM 6) (aA (aG W Qal rfl (aA (aM 0) (aA (aM 1) (bH 3) aH) aH)) (aA (aM 4) (bH 5) aH) aJ) aH)))))))))
theorem zBX(F:Fn K mg "own_pair" qG ["custom","amounts","path"] f fd)(Qa5:CanM P w K mg base k "kids_of" ["custom"] aV)(Qax:CanM P w K mg base k "is_wrong" ["custom","amounts","one","other"] fO):CanM P w K mg base (k+1) "own_pair" ["custom","amounts","path"] eN:=
  eY F kD fun W WR=>(aD (s_z 3 kD.nd (aT aL cT rfl B.len Qs (aA (aG W Qa5 rfl (bH 0)) aK aJ)))
 (aD (iN W.own W.calm (zAz rfl B.range (bH 3)) (g_z 4 kD.nd) bG (aI (iN W.own W.calm (zKa rfl B.range (aA (aP cI iK (aM 4) bK) (bH 3) aW)) (g_z 5 kD.nd) bG (aI (iO (zFk (aG W Qax rfl (aA (aM 0) (aA (aM 1) (aA (aM 4) (bH 5) aH) aH) aH))) (aI (bR (eQ (aA (eJ rfl C.PAIR) (aA (aM 2) (aA (aM 4) (bH 5) aH) aH) aH)))) bI)))))
 (aI (bR (pG wM fun _=>.non)))))
theorem yW(F:Fn K mg "_law_custom" lO ["script"] f fd)(W9:CanM P w K mg base k "_law_cell_at" ["script","k"] dD)(Qa0:CanM P w K mg base k "_law_knot" ["cell","kids"] fN)(Qbq:CanM P w K mg base k "boat" ["claim"] zBG)(Qaq:CanM P w K mg base k "_law_claim" ["cell","kind"] hU):CanM P w K mg base (k+1) "_law_custom" ["script"] gC:=
  eY F bL fun W WR=>(aD (s_z 1 bL.nd (aP bJ eD (aG W W9 rfl (aA (aM 0) (aA bK aK cU) aH)) (aP iE uC bK bK)))
 (aD (sE (i:=2) bL.nd rfl (Or.inl rfl) (cX aK))
 (aD (s_z 3 bL.nd bK)
 (aD (s_z 4 bL.nd (aP cI iK bK (aP bJ eD (aM 1) bK)))
 (aD (iO (tst (eqA W.u) yY (aP bJ eD (aP bS fR (aM 1) bK) bK) bK (bC _)) (aI (s_z 4 bL.nd (aP cI iK (aM 4) bK))) bI)
 (aD (iN W.own W.calm (zAz rfl B.range (bH 4)) (g_z 5 bL.nd) bG (aD (s_z 6 bL.nd (aP bJ eD (aG W W9 rfl (aA (aM 0) (aA (aP cI iK bK (aM 5)) aK aW) aH)) (aP iE uC bK bK)))
 (aD (zCk (i:=2) (pv 2) (aG W Qbq rfl (aA (aG W Qaq rfl (aA (aM 6) (aA (aP bJ eD (aP bS fR (aM 1) bK) bK) aK aW) aH)) aK aJ)))
 (aD (s_z 7 bL.nd (aP bJ eD (aG W W9 rfl (aA (aM 0) (aA (aP cI iK bK (aM 5)) aK aW) aH)) (aP iE uC bK bK)))
 (aI (iO (PWd.pt (zKQ (tst (eqA W.u) yY (aP bJ eD (aM 7) bK) bK (bC _)) (zFX (tst uA zGJ (aM 3) bK (bC _))))) (aD (s_z 3 bL.nd (aP cI iK (aM 3) bK))
 (aD (s_z 8 bL.nd (PEd.frz (aP cI iK bK (aP bJ eD (aP bS fR (aM 7) bK) (aT (zGi W.calm) zPc rfl B.min boot_min (aA bK (aA (aT aL cT rfl B.len Qs (bH 2)) aK aJ) cU))))))
 (aI (sE (i:=2) bL.nd rfl (Or.inl rfl) (PEf.frz (zBi (PEf.d (zC (aM 2) zCv (tM (zFz (aM 8))))) (PEf.d (cX (aA (aG W Qa0 rfl (aA (aP bS fR (aM 7) bK) (aA (PEf.d (zC (aM 2) (tM (zFz (aM 8))) zCv)) aK bD) aW)) aK aJ))))))))) bI))))))
 (dJ.frzAt 2 (aD (iO (PWd.pt (zId (tst uZ zIf (aT aL cT rfl B.len Qs (bH 2)) bK (bC _)) (zAW (tst uZ zIf (aP bJ eD (aP bS fR (aM 1) bK) bK) bK (bC _))))) (aI (bR (aG W Qa0 rfl (aA (aP bS fR (aM 1) bK) (bH 2) aW)))) bI)
 (aI (bR (fL 2)))))))))))
theorem zCX{r:Mir}(F:Fn K mg "dealt_on" mO ["custom","catch"] f fd)(Qa8:CanM P w K mg base k "is_boat" ["custom"] bZ)(Qbk:CanM P w K mg base k "dealt" ["way","weights","claims","catch"] jH)(Qa9:CanM P w K mg base k "way_of" ["custom"] iT)(Qac:CanM P w K mg base k "weights_of" ["custom"] cZ)(Qam:CanM P w K mg base k "kid_claims" ["custom"] eR)(Qa5:CanM P w K mg base k "kids_of" ["custom"] aV)(Qay:CanM P w K mg base k "dealt_on" ["custom","catch"] r):CanM P w K mg base (k+1) "dealt_on" ["custom","catch"] (gX r):=
  eY F fP fun W WR=>(aD (iO (zFk (aG W Qa8 rfl (bH 0))) (aI (hG (cX (bH 1)))) bI)
 (aD (s_z 2 fP.nd (PEf.d (bT W Qbk rfl (aA (aG W Qa9 rfl (bH 0)) (aA (aG W Qac rfl (bH 0)) (aA (PEf.d (bT W Qam rfl (bH 0))) (bH 1) aJ) aJ) aJ))))
 (aD (sE (i:=3) fP.nd rfl (Or.inl rfl) (cX aK))
 (aD (iN W.own W.calm (zLf rfl B.zip (aA (aG W Qa5 rfl (bH 0)) (bH 2) aJ)) (zMs W.calm (pY (g_z 4 fP.nd) (pY (g_z 5 fP.nd) zGG)) (rB (rB zGV))) (zCg (mP bG (mP bG zCx))) (aI (zNA (i:=3) (pv 3) (bT W Qay rfl (aA (aM 4) (bH 5) aH)))))
 (aI (iV 3 (pv 3)))))))
theorem uJ(F:Fn K mg "dealt_on" mO ["custom","catch"] f fd)(Qa8:CanM P w K mg base k "is_boat" ["custom"] bZ)(Qbk:CanM P w K mg base k "dealt" ["way","weights","claims","catch"] jH)(Qa9:CanM P w K mg base k "way_of" ["custom"] iT)(Qac:CanM P w K mg base k "weights_of" ["custom"] cZ)(Qam:CanM P w K mg base k "kid_claims" ["custom"] eR)(Qa5:CanM P w K mg base k "kids_of" ["custom"] aV):∀ n:Nat,CanM P w K mg base (k+1+n) "dealt_on" ["custom","catch"] (eP n)
 | 0=>mG F fP fun cdv A outer s H E G W WR=>zCE
 | n+1=>zCX _ _ _ (k+1+n) B KT C R ET F (Qa8:=Qa8.mono (by omega)) (Qbk:=Qbk.mono (by omega)) (Qa9:=Qa9.mono (by omega)) (Qac:=Qac.mono (by omega)) (Qam:=Qam.mono (by omega)) (Qa5:=Qa5.mono (by omega)) (Qay:=uJ F (Qa8:=Qa8) (Qbk:=Qbk) (Qa9:=Qa9) (Qac:=Qac) (Qam:=Qam) (Qa5:=Qa5) n)
theorem zFm(F:Fn K mg "shares" yR ["custom","catch"] f fd)(W3:CanM P w K mg base k "refuse_outside" ["amount","most"] bM)(Qay:CanM P w K mg base k "dealt_on" ["custom","catch"] (eP 10))(Qbi:CanM P w K mg base k "whole" ["number"] bU)(Qa1:CanM P w K mg base k "claim_of" ["custom"] cK):CanM P w K mg base (k+1) "shares" ["custom","catch"] kH:=
  eY F zFO fun W WR=>(aD (nF (aG W W3 rfl (aA (aM 1) (aA (aG W Qbi rfl (aA (aG W Qa1 rfl (bH 0)) aK aJ)) aK aJ) aH)))
 (aI (hG (bT W Qay rfl (aA (aM 0) (bH 1) aH)))))
theorem xR{r:Mir}(F:Fn K mg "first_pair" iU ["custom","amounts","path"] f fd)(Qa8:CanM P w K mg base k "is_boat" ["custom"] bZ)(Qa2:CanM P w K mg base k "own_pair" ["custom","amounts","path"] eN)(Qbe:CanM P w K mg base k "by_kid" ["custom","some"] fZ)(Qa5:CanM P w K mg base k "kids_of" ["custom"] aV)(Qab:CanM P w K mg base k "first_pair" ["custom","amounts","path"] r):CanM P w K mg base (k+1) "first_pair" ["custom","amounts","path"] (bE r):=
  eY F dC fun W WR=>(aD (iO (zFk (aG W Qa8 rfl (bH 0))) (aI (bR (pG wM fun _=>.non))) bI)
 (aD (s_z 3 dC.nd (aG W Qa2 rfl (aA (aM 0) (aA (aM 1) (bH 2) aH) aH)))
 (aD (iO (xL (aM 3) wM (bC _)) (aI (bR (aM 3))) bI)
 (aD (s_z 4 dC.nd (PEf.d (bT W Qbe rfl (aA (aM 0) (bH 1) aH))))
 (aD (iN W.own W.calm (zJD rfl B.enumerate (aG W Qa5 rfl (bH 0))) (zMs W.calm (pY (g_z 5 dC.nd) (pY (g_z 6 dC.nd) zGG)) (rB (rB zGV))) (zCg (mP bG (mP bG zCx))) (aD (s_z 3 dC.nd (aG W Qab rfl (aA (aM 6) (aA (sV (aM 4) 5) (aA (aP cI iK (aM 2) (eQ (bH 5))) aK aW) bD) aH)))
 (aI (iO (xL (aM 3) wM (bC _)) (aI (bR (aM 3))) bI))))
 (aI (bR (pG wM fun _=>.non))))))))
theorem pM(F:Fn K mg "first_pair" iU ["custom","amounts","path"] f fd)(Qa8:CanM P w K mg base k "is_boat" ["custom"] bZ)(Qa2:CanM P w K mg base k "own_pair" ["custom","amounts","path"] eN)(Qbe:CanM P w K mg base k "by_kid" ["custom","some"] fZ)(Qa5:CanM P w K mg base k "kids_of" ["custom"] aV):∀ n:Nat,CanM P w K mg base (k+1+n) "first_pair" ["custom","amounts","path"] (aQ n)
 | 0=>mG F dC fun cdv A outer s H E G W WR=>zCE
 | n+1=>xR _ _ _ (k+1+n) B KT C R ET F (Qa8:=Qa8.mono (by omega)) (Qa2:=Qa2.mono (by omega)) (Qbe:=Qbe.mono (by omega)) (Qa5:=Qa5.mono (by omega)) (Qab:=pM F (Qa8:=Qa8) (Qa2:=Qa2) (Qbe:=Qbe) (Qa5:=Qa5) n)
theorem yS(F:Fn K mg "found_back" lS ["custom","amounts"] f fd)(W6:CanM P w K mg base k "refuse_unlike" ["custom","amounts"] bY)(Qab:CanM P w K mg base k "first_pair" ["custom","amounts","path"] (aQ 10))(Qau:CanM P w K mg base k "claims_of" ["custom"] (bF 10))(Qag:CanM P w K mg base k "is_outside" ["amount","most"] bO)(Qbl:CanM P w K mg base k "total" ["some"] kM)(Qbi:CanM P w K mg base k "whole" ["number"] bU):CanM P w K mg base (k+1) "found_back" ["custom","amounts"] cO:=
  eY F gP fun W WR=>(aD (nF (aG W W6 rfl (aA (aM 0) (bH 1) aH)))
 (aD (iN W.own W.calm (zJD rfl B.enumerate (PEf.d (bT W Qau rfl (bH 0)))) (zMs W.calm (pY (g_z 2 gP.nd) (pY (g_z 3 gP.nd) zGG)) (rB (rB zGV))) (zCg (mP bG (mP bG zCx))) (aI (iO (zFk (aG W Qag rfl (aA (sV (aM 1) 2) (aA (aG W Qbi rfl (bH 3)) aK aJ) bD))) (aI (bR (eQ (aA (eJ rfl C.OVER) (bH 2) aH)))) bI)))
 (aD (s_z 4 gP.nd (aG W Qab rfl (aA (aM 0) (aA (aM 1) (aA (eQ aK) aK sP) aH) aH)))
 (aD (iO (xL (aM 4) wM (bC _)) (aI (bR (aM 4))) bI)
 (aI (bR (eQ (aA (eJ rfl C.CATCH) (aA (aG W Qbl rfl (bH 1)) aK aJ) aH))))))))
theorem zCB(F:Fn K mg "is_catch" qB ["custom","amounts","catch"] f fd)(Qag:CanM P w K mg base k "is_outside" ["amount","most"] bO)(Qbi:CanM P w K mg base k "whole" ["number"] bU)(Qbd:CanM P w K mg base k "shares" ["custom","catch"] kH)(Qa1:CanM P w K mg base k "claim_of" ["custom"] cK):CanM P w K mg base (k+1) "is_catch" ["custom","amounts","catch"] fT:=
  eY F zCs fun W WR=>(aD (iO (zFk (aG W Qag rfl (aA (aM 2) (aA (aG W Qbi rfl (aA (aG W Qa1 rfl (bH 0)) aK aJ)) aK aJ) aH))) (aI (bR (pG zBO fun _=>.bl _))) bI)
 (aI (bR (zDx (eqA W.u) yY (PEf.d (bT W Qbd rfl (aA (aM 0) (bH 2) aH))) (PEf.d (xO rfl B.list boot_list (bH 1))) (bC _)))))
theorem vG(F:Fn K mg "_law_amounts" kC ["custom","cell"] f fd)(Qan:CanM P w K mg base k "_law_claims" ["custom"] (cY 10))(Qbd:CanM P w K mg base k "shares" ["custom","catch"] kH)(Qav:CanM P w K mg base k "_law_frac" ["top","bottom"] dW)(Qar:CanM P w K mg base k "_law_catch" ["claim","cell"] cQ)(Qaw:CanM P w K mg base k "_law_plus" ["one","two"] bQ):CanM P w K mg base (k+1) "_law_amounts" ["custom","cell"] eZ:=
  eY F cD fun W WR=>(aD (s_z 1 cD.nd (aP bJ eD (aM 1) (aP iE uC bK bK)))
 (aD (s_z 2 cD.nd (aG W Qan rfl (bH 0)))
 (aD (sE (i:=3) cD.nd rfl (Or.inl rfl) (bT W Qbd rfl (aA (aM 0) (aA (aG W Qar rfl (aA (aT (mV W.calm) wU rfl B.sum jR (bH 2)) (aA (aP bS fR (aM 1) bK) aK aW) aJ)) aK aJ) aH)))
 (aD (s_z 4 cD.nd (aP bJ eD (aM 1) bK))
 (aD (s_z 5 cD.nd (aP bJ eD (aP bS fR (aM 1) bK) (aT aL cT rfl B.len Qs (bH 2))))
 (aD (s_z 6 cD.nd (aP bJ eD (aP bS fR (aM 1) bK) (aT aL cT rfl B.len Qs (bH 2))))
 (aD (s_z 7 cD.nd (aG W Qav rfl (aA (aP cI iK bK (aP bJ eD (aP bS fR (aM 1) bK) bK)) (aA (aP cI iK bK (aP bJ eD (aP bS fR (aM 1) bK) bK)) aK aW) aW)))
 (aD (iO (tst uZ zIf (aM 4) bK (bC _)) (aD (zGM (i:=3) (pv 3) (aM 5) (PEd.frz (aG W Qaw rfl (aA (sV (aM 3) 5) (bH 7) bD))))
 (aI (zGM (i:=3) (pv 3) (aM 6) (PEd.frz (aG W Qaw rfl (aA (sV (aM 3) 6) (aA (eQ (aA (aP zHB zMd bK (fL 7)) (aA (fL 7) aK bD) aW)) aK sP) bD)))))) bI)
 (aD (iO (tst (eqA W.u) yY (aM 4) bK (bC _)) (aI (zGM (i:=3) (pv 3) (aM 5) (aG W Qar rfl (aA (sV (aM 2) 5) (aA (aP bS fR (aM 1) bK) aK aW) bD)))) bI)
 (aD (iO (tst (eqA W.u) yY (aM 4) bK (bC _)) (aI (zGM (i:=3) (pv 3) (aM 5) (PEd.frz (aG W Qaw rfl (aA (sV (aM 3) 5) (aA (eQ (aA (aP cS jJ (sV (aM 2) 5) (zCM iM zKx (PEf.d (cX (aA bK (aA (aP zHB zMd bK bK) aK aW) cU))) (aP bJ eD (aP bS fR (aM 1) bK) bK) (fun _ _=>rfl))) (aA bK aK cU) aW)) aK sP) bD))))) bI)
 (aI (iV 3 (pv 3)))))))))))))
theorem zIX(F:Fn K mg "shows" zCi ["custom","amounts","paper"] f fd)(W6:CanM P w K mg base k "refuse_unlike" ["custom","amounts"] bY)(Qa6:CanM P w K mg base k "is_pair" ["custom","amounts","paper"] jU)(Qaz:CanM P w K mg base k "is_catch" ["custom","amounts","catch"] fT)(Qa3:CanM P w K mg base k "is_over" ["custom","amounts","number"] pO):CanM P w K mg base (k+1) "shows" ["custom","amounts","paper"] dY:=
  eY F zJe fun W WR=>(aD (nF (aG W W6 rfl (aA (aM 0) (bH 1) aH)))
 (aD (iO (tst (eqA W.u) yY (fL 2) (eJ rfl C.CATCH) (bC _)) (aI (bR (aG W Qaz rfl (aA (aM 0) (aA (aM 1) (aA (fL 2) aK bD) aH) aH)))) bI)
 (aD (iO (tst (eqA W.u) yY (fL 2) (eJ rfl C.OVER) (bC _)) (aI (bR (aG W Qa3 rfl (aA (aM 0) (aA (aM 1) (aA (fL 2) aK bD) aH) aH)))) bI)
 (aI (bR (aG W Qa6 rfl (aA (aM 0) (aA (aM 1) (bH 2) aH) aH)))))))
theorem zNh(F:Fn K mg "law" rH ["script"] f fd)(Qad:CanM P w K mg base k "_law_custom" ["script"] gC)(Qao:CanM P w K mg base k "_law_folded" ["script","start","many"] gG)(Qap:CanM P w K mg base k "_law_paths" ["custom","path"] (bN 10))(Qaa:CanM P w K mg base k "_law_amounts" ["custom","cell"] eZ)(Qbh:CanM P w K mg base k "shows" ["custom","amounts","paper"] dY)(Qa7:CanM P w K mg base k "_law_sum" ["some"] lZ)(Qaf:CanM P w K mg base k "found_back" ["custom","amounts"] cO)(Qan:CanM P w K mg base k "_law_claims" ["custom"] (cY 10)):FnOk P w K mg base (CX1 P w) (k+1) f fd ["script"] (spM K mg 1 zLO):=
  zOh F pK fun cdv A outer s H E G W WR=>(aD (s_z 1 pK.nd (aG W Qad rfl (bH 0)))
 (aD (s_z 2 pK.nd (PEf.d (zBi (PEf.d (pA W pK.nd rfl (sc:=aF rH) rfl rfl (by decide +kernel) (zAz rfl B.range (aA (aT aL cT rfl B.len Qs (aA (aG W Qan rfl (bH 1)) aK aJ)) aK aJ)) (fun C2 s2 H2 fp2 G W=>⟨zBe,(eQ (aA (pG gN fun _=>.str _) (bH 7) cU))⟩))) (PEf.d (bT W Qap rfl (aA (aM 1) (aA (eQ aK) aK sP) aH))))))
 (aD (iN W.own W.calm (jY (PEf.d (bT W Qao rfl (aA (aM 0) (aA bK (aA bK aK cU) cU) aH)))) (g_z 3 pK.nd) bG (aD (s_z 4 pK.nd (PEf.d (bT W Qaa rfl (aA (aM 1) (bH 3) aH))))
 (aD (s_z 5 pK.nd (eQ (aA (pG gN fun _=>.str _) (aA (aG W Qa7 rfl (bH 4)) aK aJ) cU)))
 (aD (zOb (i:=6) pK.nd rfl (Or.inl rfl) (zJh W pK.nd rfl (sc:=aF rH) rfl rfl (by decide +kernel) (jY (aM 2)) (fun C2 s2 H2 fp2 G W=>⟨(zOm (zFk (aG W Qbh rfl (aA (aM 1) (aA (PEf.d (xO rfl B.list boot_list (bH 4))) (bH 7) aJ) aH)))),(aM 7)⟩)) rfl)
 (aD (iO (zFk (aG W Qbh rfl (aA (aM 1) (aA (PEf.d (xO rfl B.list boot_list (bH 4))) (bH 5) aJ) aH))) (aI (zCk (i:=6) (pv 6) (aM 5))) bI)
 (dJ.frzAt 6 (aD (iO (PWd.pt (zId (tst (eqA W.u) yY (aM 6) (PEf.d (cX aK)) (bC _)) (zAW (PWd.pt (zKQ (tst (inA W.u) zPG (aM 5) (aM 6) (by with_unfolding_all rfl)) (zFX (tst uZ zIf (aT aL cT rfl B.len Qs (bH 6)) bK (bC _)))))))) (aI (bR (pG zBO fun _=>.bl _))) bI)
 (aI (iO (tst (zNq W.u) zLM (aG W Qaf rfl (aA (aM 1) (aA (PEf.d (xO rfl B.list boot_list (bH 4))) aK aJ) aH)) (aM 6) (by with_unfolding_all rfl)) (aI (bR (pG zBO fun _=>.bl _))) bI)))))))))
 (aI (bR (pG zBO fun _=>.bl _))))))
end
end
def FnK(K:PySem.W.Frag)(x:Str)(st:Stmt):Prop:=∃ f oc od sl kV dc pm an cd ct,PySem.W.nsIn K mainGlobals x=some (some (.ref f))/\K.lookup f=some ⟨oc,od,.func (PySem.W.fnOf x x (jE st) (eI st) (aF st) .none kV dc pm an cd ct),sl⟩/\PySem.W.codeIn K cd x=true/\PySem.W.keepIn K (.ref f)=true
theorem fk{K:Fg_}{h:Heap}{mg:Str->Option Value}{x:Str}{st:Stmt}(X:K.In h)(G:h.Ns mainGlobals mg)(d:FnK K x st)(ps:List Str)(hb:∀ (kV doc pm:Value) (an:Option Addr) (cdv ct:Value) (us:List Value),us.length=ps.length->bindArgs (PySem.W.fnOf x x (jE st) (eI st) (aF st) .none kV doc pm an cdv ct) ⟨us,[]⟩=pure (ps.zip us)):∃ f fd,Fn K mg x st ps f fd:=by
 obtain⟨f,oc,od,sl,kV,dc,pm,an,cd,ct,a,l,c,k⟩:=d;exact⟨f,_,xB (st:=st) l c k,(xB (st:=st) l c k).binds (ps:=ps) hb,k,Ve X G a⟩
theorem fkm{K:Fg_}{x:Str}{st:Stmt}{f:Addr}{oc:Value}{od an:Option Addr}{sl:Array (Option Value)}{kV dc pm cd ct:Value}(a:PySem.W.nsIn K mainGlobals x=some (some (.ref f)))(l:K.lookup f=some ⟨oc,od,.func (PySem.W.fnOf x x (jE st) (eI st) (aF st) .none kV dc pm an cd ct),sl⟩)(c:PySem.W.codeIn K cd x=true)(k:PySem.W.keepIn K (.ref f)=true):FnK K x st:=⟨f,oc,od,sl,kV,dc,pm,an,cd,ct,a,l,c,k⟩
theorem zNP{l:PySem.W.OpenLaw}{w:World}{K:Fg_}{h:Heap}{mg:Str->Option Value}{fa f12 f61:Addr}(X:K.In h)(G:h.Ns mainGlobals mg)(hfa:mg "law" = some (.ref fa))
  {od12 an12:Option Addr} {sl12:Array (Option Value)} {oc12 kV12 dc12 pm12 ct12:Value}
  {od61 an61:Option Addr} {sl61:Array (Option Value)} {oc61 kV61 dc61 pm61 cd61 ct61:Value}
  (d0:FnK K "common_divisor" gJ)
  (d1:FnK K "made" zIa)
  (d2:FnK K "whole" zDe)
  (d3:FnK K "plus" zHe)
  (d4:FnK K "minus" zBW)
  (d5:FnK K "times" zCj)
  (d6:FnK K "over" zGO)
  (d7:FnK K "less" zGW)
  (d8:FnK K "lesser" yZ)
  (d9:FnK K "is_outside" lX)
  (d10:FnK K "refuse_outside" gK)
  (d11:FnK K "total" zCu)
  {cR T:Addr}
  (a12:PySem.W.nsIn K mainGlobals "ranked" = some (some (.ref f12))) (l12:K.lookup f12=some ⟨oc12,od12,.func (PySem.W.fnOf "ranked" "ranked" (jE gU) (eI gU) (aF gU) .none kV12 dc12 pm12 an12 (.ref cR) ct12),sl12⟩) (c12:PySem.W.codeIn K (.ref cR) "ranked" = true) (k12:PySem.W.keepIn K (.ref f12)=true)
  (tq:PySem.W.codeHdIn K cR T=true) (tn:K.lookup T=none)
  (d13:FnK K "looked" xZ)
  (d14:FnK K "refuse_way" lI)
  (d15:FnK K "refuse_claims" iA)
  (d16:FnK K "refuse_weights" gI)
  (d17:FnK K "dealt" zCp)
  (d18:FnK K "rightly_dealt" dP)
  (d19:FnK K "row_dealt" nO)
  (d20:FnK K "even_dealt" lU)
  (d21:FnK K "levels_of" kB)
  (d22:FnK K "part_dealt" iS)
  (d23:FnK K "half_dealt" iX)
  (d24:FnK K "boat" zGU)
  (d25:FnK K "knot" zGg)
  (d26:FnK K "is_boat" tT)
  (d27:FnK K "way_of" yO)
  (d28:FnK K "weights_of" lC)
  (d29:FnK K "kids_of" uQ)
  (d30:FnK K "claims_of" jX)
  (d31:FnK K "claim_of" qQ)
  (d32:FnK K "kid_claims" iR)
  (d33:FnK K "deep_of" mB)
  (d34:FnK K "kid_at" xF)
  (d35:FnK K "by_kid" xQ)
  (d36:FnK K "shares" yR)
  (d37:FnK K "dealt_on" mO)
  (d38:FnK K "found_back" lS)
  (d39:FnK K "shows" zCi)
  (d40:FnK K "refuse_unlike" gZ)
  (d41:FnK K "is_catch" qB)
  (d42:FnK K "is_over" uT)
  (d43:FnK K "is_pair" tP)
  (d44:FnK K "amounts_at" mF)
  (d45:FnK K "first_pair" iU)
  (d46:FnK K "own_pair" qG)
  (d47:FnK K "is_wrong" qS)
  (d48:FnK K "_law_cell_at" kQ)
  (d49:FnK K "_law_shared" lP)
  (d50:FnK K "_law_frac" rF)
  (d51:FnK K "_law_plus" pX)
  (d52:FnK K "_law_sum" uO)
  (d53:FnK K "_law_claim" nT)
  (d54:FnK K "_law_knot" rA)
  (d55:FnK K "_law_custom" lO)
  (d56:FnK K "_law_claims" iQ)
  (d57:FnK K "_law_catch" nU)
  (d58:FnK K "_law_amounts" kC)
  (d59:FnK K "_law_paths" kP)
  (d60:FnK K "_law_folded" lR)
  (a61:PySem.W.nsIn K mainGlobals "law" = some (some (.ref f61))) (l61:K.lookup f61=some ⟨oc61,od61,.func (PySem.W.fnOf "law" "law" (jE rH) (eI rH) (aF rH) .none kV61 dc61 pm61 an61 cd61 ct61),sl61⟩) (c61:PySem.W.codeIn K cd61 "law" = true) (k61:PySem.W.keepIn K (.ref f61)=true)
  (z_abs:PySem.W.nsIn K mainGlobals "abs" = some none)
  (z_sorted:PySem.W.nsIn K mainGlobals "sorted" = some none)
  (z_range:PySem.W.nsIn K mainGlobals "range" = some none)
  (z_len:PySem.W.nsIn K mainGlobals "len" = some none)
  (z_sum:PySem.W.nsIn K mainGlobals "sum" = some none)
  (z_zip:PySem.W.nsIn K mainGlobals "zip" = some none)
  (z_tuple:PySem.W.nsIn K mainGlobals "tuple" = some none)
  (z_max:PySem.W.nsIn K mainGlobals "max" = some none)
  (z_enumerate:PySem.W.nsIn K mainGlobals "enumerate" = some none)
  (z_list:PySem.W.nsIn K mainGlobals "list" = some none)
  (z_min:PySem.W.nsIn K mainGlobals "min" = some none)
  (KT:Kt K) (CC:∀(h:Heap)(mg:Str->Option Value),K.In h->h.Ns mainGlobals mg->Ct K mg) (RR:∀(h:Heap)(mg:Str->Option Value),K.In h->h.Ns mainGlobals mg->Rt K mg) (EE:∀(h:Heap)(mg:Str->Option Value),K.In h->h.Ns mainGlobals mg->Et K mg)
  : K.lookup T=none/\oX K mg T/\∃ fd:FuncData,(∀(s:Shared)(v:Value),BindsTo s fd ⟨[v],[]⟩ [("script", v)])/\∀ base:Heap,K.In base->base.Ns mainGlobals mg->BMn base mg->FnOk l.prog w K mg base (CX1 l.prog w) 30 fa fd ["script"] (zNx K mg):=by
 have e:=hfa.symm.trans (Ve X G a61);cases e;have B:Bt mg:=⟨V5 X G z_abs,V5 X G z_sorted,V5 X G z_range,V5 X G z_len,V5 X G z_sum,V5 X G z_zip,V5 X G z_tuple,V5 X G z_max,V5 X G z_enumerate,V5 X G z_list,V5 X G z_min⟩;have C:Ct K mg:=CC h mg X G;have R:Rt K mg:=RR h mg X G;have ET:Et K mg:=EE h mg X G;have hT:oX K mg T:=⟨f12,_,_,_,_,cR,Ve X G a12,l12,rfl,fun h X=>PySem.W.codeHd_of_K X tq⟩
 refine⟨tn,hT,?_⟩
 refine⟨PySem.W.fnOf "law" "law" (jE rH) (eI rH) (aF rH) .none kV61 dc61 pm61 an61 cd61 ct61,fun s v=>.of_eq rfl,fun base _ _ hB=>?_⟩
 obtain⟨_,_,F0⟩:=fk X G d0 ["one","two"] (by walk_at "b")
 have W4:=qF l.prog w base 0 B KT C R ET F0;obtain⟨_,_,F2⟩:=fk X G d2 ["number"] (by walk_at "b")
 have Qbi:=zIL l.prog w base 0 B KT C R ET F2;obtain⟨_,_,F7⟩:=fk X G d7 ["one","two"] (by walk_at "b")
 have Qbm:=zLA l.prog w base 0 B KT C R ET F7;have F12:Fn K mg "ranked" gU ["some"] _ _:=⟨xB (st:=gU) l12 c12 k12,(xB (st:=gU) l12 c12 k12).binds (ps:=["some"]) (by walk_at "b"),k12,Ve X G a12⟩
 have Qbf:=zHH l.prog w base 0 B KT C R ET F12 hT hB;obtain⟨_,_,F14⟩:=fk X G d14 ["way"] (by walk_at "b")
 have Qak:=yC l.prog w base 0 B KT C R ET F14;obtain⟨_,_,F15⟩:=fk X G d15 ["claims"] (by walk_at "b")
 have W8:=sI l.prog w base 0 B KT C R ET F15;obtain⟨_,_,F16⟩:=fk X G d16 ["way","weights","many"] (by walk_at "b")
 have W5:=qE l.prog w base 0 B KT C R ET F16;obtain⟨_,_,F24⟩:=fk X G d24 ["claim"] (by walk_at "b")
 have Qbq:=zLk l.prog w base 0 B KT C R ET F24;obtain⟨_,_,F26⟩:=fk X G d26 ["custom"] (by walk_at "b")
 have Qa8:=zEx l.prog w base 0 B KT C R ET F26;obtain⟨_,_,F27⟩:=fk X G d27 ["custom"] (by walk_at "b")
 have Qa9:=zHQ l.prog w base 0 B KT C R ET F27;obtain⟨_,_,F28⟩:=fk X G d28 ["custom"] (by walk_at "b")
 have Qac:=xU l.prog w base 0 B KT C R ET F28;obtain⟨_,_,F48⟩:=fk X G d48 ["script","k"] (by walk_at "b")
 have W9:=vR l.prog w base 0 B KT C R ET F48;obtain⟨_,_,F49⟩:=fk X G d49 ["one","two"] (by walk_at "b")
 have Qai:=yP l.prog w base 0 B KT C R ET F49;obtain⟨_,_,F53⟩:=fk X G d53 ["cell","kind"] (by walk_at "b")
 have Qaq:=zBz l.prog w base 0 B KT C R ET F53;obtain⟨_,_,F60⟩:=fk X G d60 ["script","start","many"] (by walk_at "b")
 have Qao:=xJ l.prog w base 0 B KT C R ET F60;obtain⟨_,_,F1⟩:=fk X G d1 ["top","bottom"] (by walk_at "b")
 have Qbo:=zMb l.prog w base 1 B KT C R ET F1 (W4:=W4.mo);obtain⟨_,_,F8⟩:=fk X G d8 ["one","two"] (by walk_at "b")
 have Qbc:=zFo l.prog w base 1 B KT C R ET F8 (Qbm:=Qbm.mo);obtain⟨_,_,F9⟩:=fk X G d9 ["amount","most"] (by walk_at "b")
 have Qag:=yV l.prog w base 1 B KT C R ET F9 (Qbm:=Qbm.mo);obtain⟨_,_,F13⟩:=fk X G d13 ["way","weights","claims"] (by walk_at "b")
 have Qba:=zHf l.prog w base 1 B KT C R ET F13 (Qak:=Qak.mo) (W8:=W8.mo) (W5:=W5.mo);obtain⟨_,_,F29⟩:=fk X G d29 ["custom"] (by walk_at "b")
 have Qa5:=zFh l.prog w base 1 B KT C R ET F29 (Qa8:=Qa8.mo);obtain⟨_,_,F50⟩:=fk X G d50 ["top","bottom"] (by walk_at "b")
 have Qav:=zDf l.prog w base 1 B KT C R ET F50 (Qai:=Qai.mo);obtain⟨_,_,F3⟩:=fk X G d3 ["one","two"] (by walk_at "b")
 have Qbr:=zLo l.prog w base 2 B KT C R ET F3 (Qbo:=Qbo.mo);obtain⟨_,_,F4⟩:=fk X G d4 ["one","two"] (by walk_at "b")
 have Qbj:=zIn l.prog w base 2 B KT C R ET F4 (Qbo:=Qbo.mo);obtain⟨_,_,F5⟩:=fk X G d5 ["one","two"] (by walk_at "b")
 have Qbg:=zIM l.prog w base 2 B KT C R ET F5 (Qbo:=Qbo.mo);obtain⟨_,_,F6⟩:=fk X G d6 ["one","two"] (by walk_at "b")
 have Qbn:=zKS l.prog w base 2 B KT C R ET F6 (Qbo:=Qbo.mo);obtain⟨_,_,F10⟩:=fk X G d10 ["amount","most"] (by walk_at "b")
 have W3:=qD l.prog w base 2 B KT C R ET F10 (Qag:=Qag.mo);obtain⟨_,_,F21⟩:=fk X G d21 ["weights","claims"] (by walk_at "b")
 have Qat:=zAq l.prog w base 2 B KT C R ET F21 (Qbo:=Qbo.mo);obtain⟨_,_,F34⟩:=fk X G d34 ["custom","path"] (by walk_at "b")
 have Qbb:=zFN l.prog w base 2 B KT C R ET F34 (Qa5:=Qa5.mo);obtain⟨_,_,F51⟩:=fk X G d51 ["one","two"] (by walk_at "b")
 have Qaw:=zCb l.prog w base 2 B KT C R ET F51 (Qav:=Qav.mo);obtain⟨_,_,F57⟩:=fk X G d57 ["claim","cell"] (by walk_at "b")
 have Qar:=zBs l.prog w base 2 B KT C R ET F57 (Qav:=Qav.mo);obtain⟨_,_,F11⟩:=fk X G d11 ["some"] (by walk_at "b")
 have Qbl:=zIm l.prog w base 3 B KT C R ET F11 (Qbr:=Qbr.mo);obtain⟨_,_,F19⟩:=fk X G d19 ["claims","catch"] (by walk_at "b")
 have Qas:=zAH l.prog w base 3 B KT C R ET F19 (Qbc:=Qbc.mo) (Qbj:=Qbj.mo) (Qbi:=Qbi.mo);obtain⟨_,_,F20⟩:=fk X G d20 ["weights","claims","catch"] (by walk_at "b")
 have Qae:=yF l.prog w base 3 B KT C R ET F20 (Qbf:=Qbf.mono (by decide)) (Qat:=Qat.mo) (Qbn:=Qbn.mo) (Qbc:=Qbc.mo) (Qbj:=Qbj.mo) (Qbg:=Qbg.mo) (Qbi:=Qbi.mo)
 obtain⟨_,_,F22⟩:=fk X G d22 ["claims","catch"] (by walk_at "b")
 have Qah:=zY l.prog w base 3 B KT C R ET F22 (Qbn:=Qbn.mo) (Qbi:=Qbi.mo) (Qbg:=Qbg.mo);obtain⟨_,_,F52⟩:=fk X G d52 ["some"] (by walk_at "b")
 have Qa7:=zEZ l.prog w base 3 B KT C R ET F52 (Qaw:=Qaw.mo);obtain⟨_,_,F23⟩:=fk X G d23 ["claims","catch"] (by walk_at "b")
 have Qaj:=zG l.prog w base 4 B KT C R ET F23 (Qbg:=Qbg.mo) (Qae:=Qae.mo) (Qbr:=Qbr.mo);obtain⟨_,_,F18⟩:=fk X G d18 ["way","weights","claims","catch"] (by walk_at "b")
 have W7:=kU l.prog w base 5 B KT C R ET F18 (Qbi:=Qbi.mo) (Qas:=Qas.mo) (Qae:=Qae.mo) (Qah:=Qah.mo) (Qaj:=Qaj.mo) (Qbj:=Qbj.mo) (Qbm:=Qbm.mo) (Qbr:=Qbr.mo) 2;obtain⟨_,_,F17⟩:=fk X G d17 ["way","weights","claims","catch"] (by walk_at "b")
 have Qbk:=zIo l.prog w base 8 B KT C R ET F17 (Qba:=Qba.mo) (W3:=W3.mo) (W7:=W7.mo) (Qbi:=Qbi.mo);obtain⟨_,_,F56⟩:=fk X G d56 ["custom"] (by walk_at "b")
 have Qan:=oO l.prog w base 0 B KT C R ET F56  10;obtain⟨_,_,F59⟩:=fk X G d59 ["custom","path"] (by walk_at "b")
 have Qap:=rR l.prog w base 0 B KT C R ET F59  10;obtain⟨_,_,F30⟩:=fk X G d30 ["custom"] (by walk_at "b")
 have Qau:=rP l.prog w base 2 B KT C R ET F30 (Qa8:=Qa8.mo) (Qa5:=Qa5.mo) 10;obtain⟨_,_,F33⟩:=fk X G d33 ["custom"] (by walk_at "b")
 have Qa4:=wI l.prog w base 2 B KT C R ET F33 (Qa5:=Qa5.mo) 10;obtain⟨_,_,F25⟩:=fk X G d25 ["way","weights","kids"] (by walk_at "b")
 have Qbp:=zKJ l.prog w base 13 B KT C R ET F25 (Qak:=Qak.mo) (W5:=W5.mo) (Qa4:=Qa4.mo) (Qau:=Qau.mo);obtain⟨_,_,F31⟩:=fk X G d31 ["custom"] (by walk_at "b")
 have Qa1:=zBT l.prog w base 13 B KT C R ET F31 (Qau:=Qau.mo);obtain⟨_,_,F35⟩:=fk X G d35 ["custom","some"] (by walk_at "b")
 have Qbe:=zHF l.prog w base 13 B KT C R ET F35 (Qa5:=Qa5.mo) (Qau:=Qau.mo);obtain⟨_,_,F40⟩:=fk X G d40 ["custom","amounts"] (by walk_at "b")
 have W6:=sD l.prog w base 13 B KT C R ET F40 (Qau:=Qau.mo);obtain⟨_,_,F42⟩:=fk X G d42 ["custom","amounts","number"] (by walk_at "b")
 have Qa3:=zEM l.prog w base 13 B KT C R ET F42 (Qag:=Qag.mo) (Qbi:=Qbi.mo) (Qau:=Qau.mo);obtain⟨_,_,F32⟩:=fk X G d32 ["custom"] (by walk_at "b")
 have Qam:=zS l.prog w base 14 B KT C R ET F32 (Qa1:=Qa1.mo) (Qa5:=Qa5.mo);obtain⟨_,_,F44⟩:=fk X G d44 ["custom","amounts","path"] (by walk_at "b")
 have Qal:=zN l.prog w base 14 B KT C R ET F44 (Qbe:=Qbe.mo) (Qa5:=Qa5.mo);obtain⟨_,_,F47⟩:=fk X G d47 ["custom","amounts","one","other"] (by walk_at "b")
 have Qax:=zCI l.prog w base 14 B KT C R ET F47 (Qbe:=Qbe.mo) (Qa5:=Qa5.mo) (Qac:=Qac.mo) (Qbl:=Qbl.mo) (Qa1:=Qa1.mo) (Qbk:=Qbk.mo) (Qa9:=Qa9.mo) (Qbr:=Qbr.mo);obtain⟨_,_,F54⟩:=fk X G d54 ["cell","kids"] (by walk_at "b")
 have Qa0:=zCH l.prog w base 14 B KT C R ET F54 (Qbp:=Qbp.mo);obtain⟨_,_,F43⟩:=fk X G d43 ["custom","amounts","paper"] (by walk_at "b")
 have Qa6:=zFj l.prog w base 15 B KT C R ET F43 (Qax:=Qax.mo) (Qbb:=Qbb.mo) (Qal:=Qal.mo) (Qa5:=Qa5.mo);obtain⟨_,_,F46⟩:=fk X G d46 ["custom","amounts","path"] (by walk_at "b")
 have Qa2:=zBX l.prog w base 15 B KT C R ET F46 (Qa5:=Qa5.mo) (Qax:=Qax.mo);obtain⟨_,_,F55⟩:=fk X G d55 ["script"] (by walk_at "b")
 have Qad:=yW l.prog w base 15 B KT C R ET F55 (W9:=W9.mo) (Qa0:=Qa0.mo) (Qbq:=Qbq.mo) (Qaq:=Qaq.mo);obtain⟨_,_,F37⟩:=fk X G d37 ["custom","catch"] (by walk_at "b")
 have Qay:=uJ l.prog w base 15 B KT C R ET F37 (Qa8:=Qa8.mo) (Qbk:=Qbk.mo) (Qa9:=Qa9.mo) (Qac:=Qac.mo) (Qam:=Qam.mo) (Qa5:=Qa5.mo) 10;obtain⟨_,_,F36⟩:=fk X G d36 ["custom","catch"] (by walk_at "b")
 have Qbd:=zFm l.prog w base 26 B KT C R ET F36 (W3:=W3.mo) (Qay:=Qay.mo) (Qbi:=Qbi.mo) (Qa1:=Qa1.mo);obtain⟨_,_,F45⟩:=fk X G d45 ["custom","amounts","path"] (by walk_at "b")
 have Qab:=pM l.prog w base 16 B KT C R ET F45 (Qa8:=Qa8.mo) (Qa2:=Qa2.mo) (Qbe:=Qbe.mo) (Qa5:=Qa5.mo) 10;obtain⟨_,_,F38⟩:=fk X G d38 ["custom","amounts"] (by walk_at "b")
 have Qaf:=yS l.prog w base 27 B KT C R ET F38 (W6:=W6.mo) (Qab:=Qab.mo) (Qau:=Qau.mo) (Qag:=Qag.mo) (Qbl:=Qbl.mo) (Qbi:=Qbi.mo);obtain⟨_,_,F41⟩:=fk X G d41 ["custom","amounts","catch"] (by walk_at "b")
 have Qaz:=zCB l.prog w base 27 B KT C R ET F41 (Qag:=Qag.mo) (Qbi:=Qbi.mo) (Qbd:=Qbd.mo) (Qa1:=Qa1.mo);obtain⟨_,_,F58⟩:=fk X G d58 ["custom","cell"] (by walk_at "b")
 have Qaa:=vG l.prog w base 27 B KT C R ET F58 (Qan:=Qan.mo) (Qbd:=Qbd.mo) (Qav:=Qav.mo) (Qar:=Qar.mo) (Qaw:=Qaw.mo);obtain⟨_,_,F39⟩:=fk X G d39 ["custom","amounts","paper"] (by walk_at "b")
 have Qbh:=zIX l.prog w base 28 B KT C R ET F39 (W6:=W6.mo) (Qa6:=Qa6.mo) (Qaz:=Qaz.mo) (Qa3:=Qa3.mo);have F61:Fn K mg "law" rH ["script"] _ _:=⟨xB (st:=rH) l61 c61 k61,(xB (st:=rH) l61 c61 k61).binds (ps:=["script"]) (by walk_at "b"),k61,Ve X G a61⟩
 have Qbs:=zNh l.prog w base 29 B KT C R ET F61 (Qad:=Qad.mo) (Qao:=Qao.mo) (Qap:=Qap.mo) (Qaa:=Qaa.mo) (Qbh:=Qbh.mo) (Qa7:=Qa7.mo) (Qaf:=Qaf.mo) (Qan:=Qan.mo);exact zMg Qbs law_true
end Lw
open PySem PySem.W PyProof.Rows
local macro_rules | `(tactic| walk_at "fk")=>`(tactic| (refine' Lw.fkm ?a ?l ?c ?k;(case a=>k_is);(case l=>k_is);(case c=>k_is);(case k=>k_is)))
set_option maxRecDepth 100000 in
set_option maxHeartbeats 0 in
theorem PySem.Challenge.cw_catchhall_k48_whole_never_both_holds : PySem.Challenge.rw_catchhall_k48_whole_never_both.Holds := by
 w_on;o_law;k_head;(case hw=>w_witness2)
 k_fill
 refine L3.zPB (l:=PySem.Challenge.rw_catchhall_k48_whole_never_both) (k:=30) rfl rfl ⟨rfl,by decide,by decide⟩ (fun w h Y=>PySem.W.km_in_of Y) (fun w h Y=>PySem.W.km_tabs_of Y _ (.head _)) ?F
 case F=>
  intro w mg fa h KX G hmg
  refine' Lw.zNP KX G hmg ?d0 ?d1 ?d2 ?d3 ?d4 ?d5 ?d6 ?d7 ?d8 ?d9 ?d10 ?d11 ?a12 ?l12 ?c12 ?k12 ?tq ?tn ?d13 ?d14 ?d15 ?d16 ?d17 ?d18 ?d19 ?d20 ?d21 ?d22 ?d23 ?d24 ?d25 ?d26 ?d27 ?d28 ?d29 ?d30 ?d31 ?d32 ?d33 ?d34 ?d35 ?d36 ?d37 ?d38 ?d39 ?d40 ?d41 ?d42 ?d43 ?d44 ?d45 ?d46 ?d47 ?d48 ?d49 ?d50 ?d51 ?d52 ?d53 ?d54 ?d55 ?d56 ?d57 ?d58 ?d59 ?d60 ?a61 ?l61 ?c61 ?k61 ?z_abs ?z_sorted ?z_range ?z_len ?z_sum ?z_zip ?z_tuple ?z_max ?z_enumerate ?z_list ?z_min ?KT ?CC ?RR ?EE
  (case a12=>k_is)
  (case l12=>k_is)
  (case c12=>k_is)
  (case k12=>k_is)
  (case tq=>first | k_is | kernel_rfl | kn_code | decide +kernel)
  (case tn=>first | k_is | kernel_rfl | kn_code | decide +kernel)
  (case a61=>k_is)
  (case l61=>k_is)
  (case c61=>k_is)
  (case k61=>k_is)
  (case d0=>walk_at "fk")
  (case d1=>walk_at "fk")
  (case d2=>walk_at "fk")
  (case d3=>walk_at "fk")
  (case d4=>walk_at "fk")
  (case d5=>walk_at "fk")
  (case d6=>walk_at "fk")
  (case d7=>walk_at "fk")
  (case d8=>walk_at "fk")
  (case d9=>walk_at "fk")
  (case d10=>walk_at "fk")
  (case d11=>walk_at "fk")
  (case d13=>walk_at "fk")
  (case d14=>walk_at "fk")
  (case d15=>walk_at "fk")
  (case d16=>walk_at "fk")
  (case d17=>walk_at "fk")
  (case d18=>walk_at "fk")
  (case d19=>walk_at "fk")
  (case d20=>walk_at "fk")
  (case d21=>walk_at "fk")
  (case d22=>walk_at "fk")
  (case d23=>walk_at "fk")
  (case d24=>walk_at "fk")
  (case d25=>walk_at "fk")
  (case d26=>walk_at "fk")
  (case d27=>walk_at "fk")
  (case d28=>walk_at "fk")
  (case d29=>walk_at "fk")
  (case d30=>walk_at "fk")
  (case d31=>walk_at "fk")
  (case d32=>walk_at "fk")
  (case d33=>walk_at "fk")
  (case d34=>walk_at "fk")
  (case d35=>walk_at "fk")
  (case d36=>walk_at "fk")
  (case d37=>walk_at "fk")
  (case d38=>walk_at "fk")
  (case d39=>walk_at "fk")
  (case d40=>walk_at "fk")
  (case d41=>walk_at "fk")
  (case d42=>walk_at "fk")
  (case d43=>walk_at "fk")
  (case d44=>walk_at "fk")
  (case d45=>walk_at "fk")
  (case d46=>walk_at "fk")
  (case d47=>walk_at "fk")
  (case d48=>walk_at "fk")
  (case d49=>walk_at "fk")
  (case d50=>walk_at "fk")
  (case d51=>walk_at "fk")
  (case d52=>walk_at "fk")
  (case d53=>walk_at "fk")
  (case d54=>walk_at "fk")
  (case d55=>walk_at "fk")
  (case d56=>walk_at "fk")
  (case d57=>walk_at "fk")
  (case d58=>walk_at "fk")
  (case d59=>walk_at "fk")
  (case d60=>walk_at "fk")
  (case z_abs=>k_is)
  (case z_sorted=>k_is)
  (case z_range=>k_is)
  (case z_len=>k_is)
  (case z_sum=>k_is)
  (case z_zip=>k_is)
  (case z_tuple=>k_is)
  (case z_max=>k_is)
  (case z_enumerate=>k_is)
  (case z_list=>k_is)
  (case z_min=>k_is)
  (case KT=>refine' ⟨⟩<;>(first | kit_is | (show _=some true;kit_is) | (show _=some false;kit_is) | rfl | decide +kernel))
  (case CC=>
   intro h mg X G
   refine' Lw.zPH X G ?n_BOAT ?n_CATCH ?n_DEEPEST ?n_HALF ?pHALF0_l ?n_MOST_BOATS ?n_NOUGHT ?pNOUGHT1_l ?n_OVER ?n_PAIR ?n_WEIGHTED ?pWEIGHTED2_l ?n_CONTRARY ?bA<;>try first | k_is | kit_is | k_exc | rfl | decide +kernel | kernel_rfl)
  (case RR=>
   intro h mg X G
   refine' Lw.zPE X G ?n_BadClaim ?x_BadClaim ?n_BadWay ?x_BadWay ?n_BadWeights ?x_BadWeights ?n_NoFraction ?x_NoFraction ?n_Outside ?x_Outside ?n_TooMany ?x_TooMany ?n_Unlike ?x_Unlike<;>try first | k_is | kit_is | k_exc | rfl | decide +kernel | kernel_rfl)
  (case EE=>
   intro h mg X G
   refine' Lw.zQg X G ?n_Outside ?g5 ?g6 ?e1_Outside ?e2_Outside ?e3_Outside ?e4_Outside ?e7_Outside ?e8_Outside ?cx_Outside ?eo_Outside<;>try first | k_is | kit_is | k_exc | rfl | decide +kernel | kernel_rfl)
