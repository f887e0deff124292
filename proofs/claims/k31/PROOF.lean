import PyProof.Rows.All
import Wide.All
import OpenK.AllK
import Wide.FinOn
import Lean
import PyProof.EqAt
import PyProof.EqKinds
import PyProof.TupleCall
import PyProof.NeKinds
import KE.KRevIter
import PyProof.Rows.SumAny
import PySem.Challenge.RW_catchhall_k31_catches_by_amount
noncomputable section
set_option Elab.async false
set_option linter.all false
set_option maxRecDepth 100000
def Qb:=@List.mem_cons_self
def Qc:=@List.mem_cons_of_mem
def Qd:=@List.mem_cons
def Qe:=@Rat.le_refl
def Qf:=@Rat.le_of_lt
def Qg:=@List.length_map
def Qh:=@Nat.le_refl
def Qi:=@List.mem_of_getElem?
def Qj:=@List.mem_range
def Qk:=@List.size_toArray
def Ql:=@List.length_append
def Qm:=@List.length_cons
def Qn:=@Nat.lt_of_lt_of_le
def Qo:=@List.getElem?_eq_getElem
def Qp:=@List.mem_map
def Qq:=@Nat.ne_of_lt
def Qr:=@List.pairwise_cons
def Qs:=@List.getElem?_map
def Qt:=@List.mem_singleton
def Qu:=@List.map_cons
def Qv:=@List.map_map
def Qw:=@Rat.le_trans
def Qx:=@List.getElem?_eq_some_iff
def Qy:=@List.getD_eq_getElem?_getD
def Qz:=@List.getElem?_eq_none
def Q2:=@List.mem_append_right
def Q3:=@List.length_range
def Q4:=@PySem.boot_len
def Q5:=@Nat.le_trans
def Q6:=@List.length_set
def Q7:=@List.getElem?_set_ne
def Q8:=@List.sum_cons
def Q9:=@List.getElem?_set_self
def Va:=@List.mem_append
def Vb:=@List.map_append
def Vc:=@Int.emod_nonneg
def Vd:=@PySem.W.mg_of
def Ve:=@Int.emod_lt_of_pos
def Vf:=@Rat.not_lt
def Vg:=@List.append_nil
def Vh:=@Rat.div_def
def Vi:=@Rat.intCast_mul
def Vj:=@Option.some.inj
def Vk:=@List.getElem?_append_left
def Vl:=@Int.le_trans
def Vm:=@Nat.lt_succ_self
def Vn:=@List.getElem?_append_right
def Vo:=@Nat.pow_le_pow_right
def Vp:=@Int.toNat_natCast
def Vq:=@Rat.intCast_add
def Vr:=@PySem.W.mg_none_of
def Vs:=@Nat.le_of_lt
def Vt:=@Int.mul_one
def Vu:=@List.length_drop
def Vv:=@Rat.mul_le_mul_of_nonneg_right
def Vw:=@List.lookup_cons
def Vx:=@List.length_reverse
def Vy:=@List.map_congr_left
def Vz:=@Rat.le_total
def V0:=@Rat.div_mul_cancel
def V3:=@List.append_assoc
def V4:=@Bool.and_eq_true
def V5:=@Rat.num_divInt_den
def V6:=@Int.mul_ne_zero
def V7:=@List.getElem?_range
def V8:=@List.take_length
def V9:=@Nat.zero_le
def Xa:=@Int.natCast_nonneg
def Xb:=@Nat.lt_irrefl
def Xc:=@Bool.or_eq_true
def Xd:=@List.getLast?_eq_getElem?
def Xe:=@List.all_eq_true
def Xf:=@List.flatMap_cons
def Xg:=@List.map_nil
def Xh:=@Nat.lt_of_le_of_lt
def Xi:=@Rat.mul_inv_cancel
def Xj:=@Nat.lt_or_eq_of_le
def Xk:=@List.head?_eq_getElem?
def Xl:=@List.sum_append
def Xm:=@Rat.intCast_le_intCast
def Xn:=@List.flatMap_append
def Xo:=@List.mem_append_left
def Xp:=@PySem.mem_of_lookup
def Xq:=@List.replicate_succ
def Xr:=@List.nil_append
def Xs:=@Rat.divInt_eq_div
def Xt:=@List.pairwise_map
def Xu:=@List.getLast?_map
def Xv:=@Nat.lt_succ_of_lt
def Xw:=@Rat.mul_le_mul_of_nonneg_left
def Xx:=@PySem.F.excBase_ValueError
def Xy:=@List.nodup_cons
def Xz:=@List.length_replicate
def X0:=@List.flatten_cons
def X1:=@Int.le_of_lt
def X2:=@PySem.W.kia_one
def X3:=@Bool.false_eq_true
def X4:=@List.not_mem_nil
def X5:=@Rat.le_of_mul_le_mul_right
def X6:=@Array.length_toList
def X7:=@Bool.false_ne_true
def X8:=@PyProof.Rows.callWith_type1
def X9:=@List.of_mem_zip
def Yc:=@List.length_take
def Yd:=@Nat.zero_add
def Yf:=@List.drop_zero
def Yg:=@Nat.min_eq_left
def Yh:=@List.take_of_length_le
def Yi:=@List.mem_iff_getElem?
def Yj:=@List.Pairwise.imp_of_mem
def Yk:=@Nat.sub_self
def Ym:=@List.ext_getElem?
def Yn:=@Int.le_refl
def Yo:=@Int.natCast_add
def Yp:=@Int.add_mul
def Yq:=@List.mem_of_mem_take
def Yr:=@List.getLast?_cons_cons
def Ys:=@Nat.succ_pos
def Yt:=@Nat.le_total
def Yu:=@Int.pow_pos
def Yv:=@List.drop_eq_nil_of_le
def Yw:=@List.length_nil
def Yy:=@List.getLast?_cons
def Yz:=@List.head?_map
def Y0:=@Nat.succ.inj
def Y1:=@Bool.or_false
def Y2:=@Rat.num_nonneg
def Y3:=@List.filterMap_cons
def Y4:=@Nat.ne_of_gt
def Y5:=@Option.isSome_iff_exists
def Y6:=@List.getElem?_replicate
def Y7:=@Nat.min_eq_right
def Y8:=@List.pairwise_iff_getElem
def Y9:=@List.mem_of_getLast?
def Ua:=@Nat.lt_trichotomy
def Ub:=@Nat.min_self
def Uc:=@List.forIn_cons
def Ud:=@List.cons_append
def Ue:=@Int.mul_nonneg
def Uf:=@Int.mul_pos
def Ug:=@Rat.mul_nonneg
def Uh:=@List.take_succ_cons
def Ui:=@Classical.choose_spec
def Uj:=@List.pairwise_singleton
def Uk:=@List.flatMap_def
def Ul:=@PySem.W.hideAll_get
def Um:=@List.mem_filterMap
def Uo:=@PySem.F.slot_tuple_add
def Up:=@PySem.F.entry_tuple_add
def Uq:=@PySem.F.args_tuple_add_2
def Ur:=@List.foldl_cons
def Us:=@List.length_singleton
def Ut:=@Bool.and_false
def Uu:=@Array.getElem?_toList
def Uv:=@Nat.add_comm
def Uw:=@Int.eq_ofNat_of_zero_le
def Ux:=@Int.gcd_dvd_left
def Uy:=@Int.gcd_dvd_right
def Uz:=@Rat.divInt_mul_divInt
def U0:=@List.take_succ
def U1:=@Nat.succ_le_succ
def U2:=@Rat.mul_pos
def U3:=@Rat.inv_pos
def U5:=@Rat.zero_divInt
def U6:=@Rat.zero_mul
def U7:=@Nat.lt_or_ge
def U8:=@Nat.eq_zero_or_pos
def U9:=@PySem.intBits_le_iff
def Wa:=@List.eq_nil_of_length_eq_zero
def Wb:=@List.any_cons
def Wc:=@PySem.F.plainAttrs_list
def Wd:=@List.drop_eq_getElem_cons
def We:=@List.set_append_right
def Wf:=@List.take_zero
def Wg:=@List.range_succ
def Wh:=@Nat.le_of_eq
def Wi:=@List.length_zip
def Wj:=@List.getElem?_reverse
def Wk:=@Int.mul_comm
def Wl:=@Int.mul_assoc
def Wm:=@List.sum_nil
def Wn:=@Int.add_assoc
def Wo:=@List.getLast?_reverse
def Wp:=@List.pairwise_append
def Wq:=@List.mem_reverse
def Wr:=@List.getElem?_drop
def Ws:=@List.take_append_drop
def Wu:=@Int.pow_add
def Wv:=@List.range_eq_range'
def Ww:=@List.flatMap_nil
def Wx:=@Nat.le_of_ble_eq_true
def Wz:=@List.contains_cons
def W3:=@List.contains_nil
def W4:=@PySem.W.cellsFrom_some
def W5:=@Int.neg_ediv_of_dvd
def W6:=@Int.mul_le_mul_of_nonneg_right
def W7:=@Int.fdiv_eq_ediv_of_nonneg
def W8:=@Int.fmod_eq_emod_of_nonneg
def W9:=@Array.getElem?_eq_some_iff
def Qaa:=@PySem.F.plain_list_iadd
def Qab:=@List.toList_toArray
def Qac:=@List.mergeSort_perm
def Qad:=@List.pairwise_mergeSort
def Qae:=@List.getElem?_zip_eq_some
def Qaf:=@Nat.lt_two_pow_self
def Qag:=@List.mem_of_mem_drop
def Qah:=@Int.mul_le_mul_of_nonneg_left
abbrev Fg_:=PySem.W.Frag
abbrev Ja:=PySem.Value
abbrev Jb:=PySem.Shared
abbrev Jc:=PySem.Addr
abbrev Je:=PySem.Heap
abbrev Jf:=PySem.Program
abbrev Jg:=PySem.World
abbrev Jh:=PySem.Around
abbrev Ji:=PySem.Stmt
def Jj:=@decide_eq_false
def Jk:=@if_pos
def Jl:=@if_neg
def Jm:=@PySem.wpAny_Name
def Jn:=@PySem.wpAny_isTrue_Compare1
def Jo:=@PySem.wpAny_truthy_bool
def Jp:=@PySem.wpAny_execs_nil
def Jq:=@PySem.wpAny_execs_cons
def Jr:=@PySem.wpAny_assign_Name
def Js:=@PySem.wpAny_bind
def Ju:=@PySem.wpAny_Assign_Name
def Jv:=@PySem.wpAny_passesOwn
def Jw:=@PySem.wpAny_pure
def Jx:=@PyProof.Rows.boot_range
def Jy:=@PySem.sizeLine_eq
def Jz:=@PySem.wpAny_Call_Name_kw
def J0:=@PySem.concat_meets
def J1:=@PySem.noFill_tuple_add
def J2:=@PySem.seq_tuple_add
def J3:=@PySem.seqIndex_of
def J4:=@PySem.seqIndex_neg
def J5:=@PyProof.Rows.subscriptTail_builtinR
def J6:=@decide_eq_true
def J7:=@dif_pos
def J8:=@of_decide_eq_true
def J9:=@decide_eq_true_eq
def Ma:=@PyProof.Rows.boot_isinstance
def Mb:=@PySem.wpAny_comprehension_free
def Mc:=@PySem.lookup_relabel_local
def Md:=@PySem.codeAny_compStart_list
def Me:=@PySem.wpAny_pyIter_revIter
def Mf:=@PyProof.Rows.boot_abs
def Mh:=@PyProof.Rows.boot_tuple
namespace L2
open PySem PySem.Spec PyProof.Rows
abbrev Key:=Sum Int Str
def zRm:Key->Ja->Bool
 | .inl k,v=>Value.isInt k v
 | .inr x,v=>Value.isStrOf x v
def zTu(w:Jg):Key->Int
 | .inl k=>hashInt k
 | .inr x=>hashStr w x
theorem dQ:∀ {k:Key} {v:Ja},zRm k v=true->(∃ i t,k=Sum.inl i/\v=Value.int i t)∨(∃ x t,k=Sum.inr x/\v=Value.str x t)
 | .inl i,v,h=>by
  obtain⟨t,e⟩:=Value.isInt_shape (k:=i) (v:=v) h;exact .inl ⟨i,t,rfl,e⟩
 | .inr x,v,h=>by
  obtain⟨t,e⟩:=Value.isStrOf_shape (x:=x) (v:=v) h;exact .inr ⟨x,t,rfl,e⟩
theorem zRn(a b:Int):decide ((Sum.inl a:Key)=Sum.inl b)=(a==b):=by
 by_cases e:a=b
 ·subst e;simp
 ·have h:¬ (Sum.inl a:Key)=Sum.inl b:=fun q=>e (Sum.inl.inj q)
  rw[Jj h];exact(beq_eq_false_iff_ne.mpr e).symm
theorem zPA(a b:Str):decide ((Sum.inr a:Key)=Sum.inr b)=decide (a=b):=by
 by_cases e:a=b
 ·subst e;simp
 ·have h:¬ (Sum.inr a:Key)=Sum.inr b:=fun q=>e (Sum.inr.inj q)
  rw[Jj h,Jj e]
theorem zQx(a:Int)(b:Str):decide ((Sum.inl a:Key)=Sum.inr b)=false:=Jj (fun q=>nomatch q)
theorem zQY(a:Str)(b:Int):decide ((Sum.inr a:Key)=Sum.inl b)=false:=Jj (fun q=>nomatch q)
def zId(prog:Jf)(w:Jg):PySem.KeyKind prog w Key where
 is:=zRm
 hash:=zTu w
 inj:=fun v a b ha hb=>by
  rcases dQ ha with⟨i,t,rfl,rfl⟩ | ⟨x,t,rfl,rfl⟩
  ·rcases dQ hb with⟨j,u,rfl,e⟩ | ⟨y,u,rfl,e⟩
   ·injection e with e1 _;rw[e1]
   ·exact nomatch e
  ·rcases dQ hb with⟨j,u,rfl,e⟩ | ⟨y,u,rfl,e⟩
   ·exact nomatch e
   ·injection e with e1 _;rw[e1]
 byValue:=fun k v h=>by
  rcases dQ h with⟨i,t,rfl,rfl⟩ | ⟨x,t,rfl,rfl⟩<;>rfl
 pyHash:=fun hv h=>by
  rcases dQ hv with⟨i,t,rfl,rfl⟩ | ⟨x,t,rfl,rfl⟩
  ·exact wpAny_pyHash_int h
  ·exact wpAny_pyHash_str h
 eqBool:=fun hu hv h=>by
  rcases dQ hu with⟨i,t,rfl,rfl⟩ | ⟨x,t,rfl,rfl⟩
  ·rcases dQ hv with⟨j,u,rfl,rfl⟩ | ⟨y,u,rfl,rfl⟩
   ·rw[zRn] at h;exact wpAny_eqBool_int h
   ·rw[zQx] at h;exact SeqAt.EqAt.int_str i t y u _ _ _ _ h
  ·rcases dQ hv with⟨j,u,rfl,rfl⟩ | ⟨y,u,rfl,rfl⟩
   ·rw[zQY] at h;exact SeqAt.EqAt.str_int x t j u _ _ _ _ h
   ·rw[zPA] at h;exact wpAny_eqBool_str h
 «strs» := fun k x t v h=>by
  rcases dQ h with⟨i,u,rfl,e⟩ | ⟨y,u,rfl,e⟩
  ·exact nomatch e
  ·injection e with e1 _
   subst e1;cases v<;>rfl
inductive V where
 | non | bl (b:Bool) | int (i:Int) | str (x:Str) | byt (b:Array UInt8) | flt (b:UInt64) | ref (a:Jc) | ty (n:String)
 deriving DecidableEq
def dH:V->Ja->Prop
 | .non,u=>u=Value.none
 | .bl b,u=>u=Value.bool b
 | .int i,u=>∃ t,u=Value.int i t
 | .str x,u=>∃ t,u=Value.str x t
 | .byt b,u=>∃ t,u=Value.bytes b t
 | .flt b,u=>∃ t,u=Value.float b t
 | .ref a,u=>u=Value.ref a
 | .ty n,u=>u=Value.type n
abbrev dS:List V->List Ja->Prop:=Paired dH
theorem dS.length{xs:List V}{us:List Ja}(r:dS xs us):xs.length=us.length:=Paired.length r
theorem dS.get:∀ {xs:List V} {us:List Ja} {i:Nat} {x:V},dS xs us->xs[i]?=some x->∃ u,us[i]?=some u/\dH x u
 | _,_,_,_,.nil,e=>by simp at e
 | _,_,0,_,.cons r _,e=>by simp at e;subst e;exact⟨_,rfl,r⟩
 | _,_,i+1,x,.cons _ t,e=>by
  obtain⟨u,h1,h2⟩:=dS.get (i:=i) (x:=x) t (by simpa using e)
  exact⟨u,by simpa using h1,h2⟩
theorem dS.set{x:V}{u:Ja}(r:dH x u):∀ {xs:List V} {us:List Ja} (i:Nat),dS xs us->dS (xs.set i x) (us.set i u)
 | _,_,_,.nil=>.nil
 | _,_,0,.cons _ t=>.cons r t
 | _,_,i+1,.cons q t=>.cons q (dS.set r i t)
theorem dS.append:∀ {xs ys:List V} {us ws:List Ja},dS xs us->dS ys ws->dS (xs++ys) (us++ws)
 | _,_,_,_,.nil,s=>s
 | _,_,_,_,.cons r t,s=>.cons r (dS.append t s)
theorem dS.take:∀ {xs:List V} {us:List Ja} (n:Nat),dS xs us->dS (xs.take n) (us.take n)
 | _,_,0,_=>.nil
 | _,_,_+1,.nil=>.nil
 | _,_,n+1,.cons r t=>.cons r (dS.take n t)
theorem dS.drop:∀ {xs:List V} {us:List Ja} (n:Nat),dS xs us->dS (xs.drop n) (us.drop n)
 | _,_,0,r=>r
 | _,_,_+1,.nil=>.nil
 | _,_,n+1,.cons _ t=>dS.drop n t
def zSN:Option V->Option Ja->Prop
 | some v,some u=>dH v u
 | none,none=>True
 | _,_=>False
def KV{κ:Type}:List (κ×V)->List (κ×Ja)->Prop:=Paired fun(p:κ×V) (q:κ×Ja)=>p.1=q.1/\dH p.2 q.2
def kV:Key->V
 | .inl i=>.int i
 | .inr x=>.str x
inductive HO where
 | lst (xs:List V)
 | tup (xs:List V)
 | dK (kvs:List (Key×V)) | dT (kvs:List (List Key×V))
 | set (S:Int->Bool) (n:Nat)
 | ins (C dx:Jc) (fs:List (Str×V))
 | own (x:Jc)
 | xd (fs:List (Str×V))
 | met (f x:Jc)
 | rng (lo hi:Int)
 | frz (o:Obj) (u:HO)
 | tbl (ps:Array Ja)
 | ext (φ:Je->Prop)
abbrev Hp:=Jc->Option HO
def upd(H:Hp)(a:Jc)(o:HO):Hp:=fun b=>if b=a then some o else H b
theorem aY{H:Hp}{a:Jc}{o:HO}:upd H a o a=some o:=by unfold upd;rw[Jk rfl]
theorem bB{H:Hp}{a b:Jc}{o:HO}(h:b≠a):upd H a o b=H b:=by unfold upd;rw[Jl h]
theorem zQR{H:Hp}{a b:Jc}{o u:HO}(h:H a=some o)(h':H b=some u)(d:o≠u):a≠b:=by
 intro e;subst e;rw[h] at h';exact d (Vj h')
theorem bC{H:Hp}{a b:Jc}{o:HO}(h:H a=some o)(h':H b=none):a≠b:=by
 intro e;subst e;rw[h] at h';cases h'
section
variable(P:Jf)(w:Jg)
def mZ(H:Hp)(h:Je)(a:Jc):HO->Prop
 | .lst xs=>xs.length<=sizeLine/\∃(its:List Ja)(n:Nat),dS xs its/\h.get? a=some { cls:=.type "list", data:=.seq its.toArray n }
 | .tup xs=>xs.length<=sizeLine/\∃ its:List Ja,dS xs its/\IsTup h a its.toArray
 | .dK kvs=>kvs.length<=sizeLine/\(a==sysModules)=false/\∃ vs,KV kvs vs/\h.DictOf (zId P w) a vs
 | .dT kvs=>kvs.length<=sizeLine/\(a==sysModules)=false/\∃ xs:List (List Key×Jc×Ja),
   Paired (fun(p:List Key×V) (q:List Key×Jc×Ja)=>p.1=q.1/\H q.2.1=some (.tup (p.1.map kV))/\dH p.2 q.2.2) kvs xs/\
   ∃ o es ep,h.get? a=some o/\o.ExactDict/\o.data=.dict es ep/\es.toList=xs.map (entryOfKey (tupleKind (zId P w)))/\(xs.map (·.1)).Nodup
 | .set S n=>h.SetOf (intKind P w) a S n
 | .ins C dx fs=>H dx=some (.own a)/\fs.length<=1000/\dx≠a/\h.get? a=some (PySem.W.instObj C dx)/\
   ∃ mA,h.Ns1 dx mA/\(∀ f,zSN (fs.lookup f) (mA f))/\PySem.Within mA (fs.map (·.1))
 | .own _=>∃ o,h.get? a=some o
 | .xd fs=>∃ mA,h.Ns1 a mA/\∀ f,zSN (fs.lookup f) (mA f)
 | .rng lo hi=>∃ t u v,h.get? a=some { cls:=.type "range", data:=.fields #[.int lo t,.int hi u,.int 1 v] }
 | .frz o u=>h.get? a=some o/\mZ H h a u
 | .tbl ps=>h.get? a=some { cls:=.none,data:=.fields ps }
 | .met f x=>h.get? a=some (PySem.W.methodObj (.ref f) (.ref x))
 | .ext φ=>φ h/\(∃ o,h.get? a=some o)/\∀ h1 h2:Je,φ h1->(∀ o,h1.get? a=some o->h2.get? a=some o)->φ h2
def HOk(H:Hp)(h:Je):Prop:=∀ a o,H a=some o->mZ P w H h a o
end
section
variable{P:Jf}{w:Jg}{H H':Hp}{h h':Je}{a:Jc}{o:HO}
theorem mZ.lt(x:mZ P w H h a o):a<h.objs.size:=by
 cases o with
 | lst xs=>obtain⟨_,_,_,_,e⟩:=x;exact Heap.lt_size e
 | tup xs=>obtain⟨_,_,_,p⟩:=x;exact p.lt
 | dK kvs=>obtain⟨_,_,_,_,o,_,_,e,_⟩:=x;exact Heap.lt_size e
 | dT kvs=>obtain⟨_,_,_,_,o,_,_,e,_⟩:=x;exact Heap.lt_size e
 | set S n=>obtain⟨o,_,_,_,e,_⟩:=x;exact Heap.lt_size e
 | ins C dx fs=>obtain⟨_,_,_,e,_⟩:=x;exact Heap.lt_size e
 | own y=>obtain⟨_,e⟩:=x;exact Heap.lt_size e
 | xd fs=>obtain⟨_,⟨_,_,_,e,_⟩,_⟩:=x;exact Heap.lt_size e
 | rng lo hi=>obtain⟨_,_,_,e⟩:=x;exact Heap.lt_size e
 | frz ob u=>obtain⟨e,_⟩:=x;exact Heap.lt_size e
 | tbl ps=>exact Heap.lt_size (show h.get? a=some _ from x)
 | met f y=>exact Heap.lt_size (show h.get? a=some _ from x)
 | ext φ=>obtain⟨_,⟨_,e⟩,_⟩:=x;exact Heap.lt_size e
theorem Paired.mapP{α β:Type}{F G:α->β->Prop}:∀ {l₁:List α} {l₂:List β},Paired F l₁ l₂->(∀ a b,F a b->G a b)->Paired G l₁ l₂
 | _,_,.nil,_=>.nil
 | _,_,.cons r t,f=>.cons (f _ _ r) (Paired.mapP t f)
theorem mZ.stay(x:mZ P w H h a o)(k:∀ b u,(b=a∨H b=some (.own a))->h.get? b=some u->h'.get? b=some u)
  (ho:∀ b,H b=some (.own a)->H' b=some (.own a)) (ht:∀ b xs,H b=some (.tup xs)->H' b=some (.tup xs)):mZ P w H' h' a o:=by
 induction o with
 | lst xs=>obtain⟨z,its,n,r,e⟩:=x;exact⟨z,its,n,r,k _ _ (.inl rfl) e⟩
 | tup xs=>obtain⟨z,its,r,ob,e,c⟩:=x;exact⟨z,its,r,ob,k _ _ (.inl rfl) e,c⟩
 | dK kvs=>obtain⟨z,y,vs,r,ob,es,ep,e,c⟩:=x;exact⟨z,y,vs,r,ob,es,ep,k _ _ (.inl rfl) e,c⟩
 | dT kvs=>
  obtain⟨z,y,xs,r,ob,es,ep,e,c⟩:=x;exact⟨z,y,xs,Paired.mapP r fun p q z=>⟨z.1,ht _ _ z.2.1,z.2.2⟩,ob,es,ep,k _ _ (.inl rfl) e,c⟩
 | set S n=>obtain⟨ob,es,ep,t,e,c⟩:=x;exact⟨ob,es,ep,t,k _ _ (.inl rfl) e,c⟩
 | ins C dx fs=>
  obtain⟨d,z,ne,e,mA,⟨od,es,ep,e2,c⟩,r⟩:=x;exact⟨ho _ d,z,ne,k _ _ (.inl rfl) e,mA,⟨od,es,ep,k _ _ (.inr d) e2,c⟩,r⟩
 | own y=>obtain⟨ob,e⟩:=x;exact⟨ob,k _ _ (.inl rfl) e⟩
 | xd fs=>obtain⟨mA,⟨od,es,ep,e,c⟩,r⟩:=x;exact⟨mA,⟨od,es,ep,k _ _ (.inl rfl) e,c⟩,r⟩
 | rng lo hi=>obtain⟨t,u,v,e⟩:=x;exact⟨t,u,v,k _ _ (.inl rfl) e⟩
 | frz ob u ih=>obtain⟨e,q⟩:=x;exact⟨k _ _ (.inl rfl) e,ih q⟩
 | tbl ps=>
  have e:h.get? a=some { cls:=.none,data:=.fields ps }:=x;show h'.get? a=some { cls:=.none,data:=.fields ps }
  exact k a _ (.inl rfl) e
 | met f y=>
  have e:h.get? a=some (PySem.W.methodObj (.ref f) (.ref y)):=x;show h'.get? a=some (PySem.W.methodObj (.ref f) (.ref y))
  exact k a _ (.inl rfl) e
 | ext φ=>obtain⟨p,⟨o,e⟩,st⟩:=x;exact⟨st _ _ p fun o q=>k _ _ (.inl rfl) q,⟨o,k _ _ (.inl rfl) e⟩,st⟩
theorem HOk.lt(x:HOk P w H h)(e:H a=some o):a<h.objs.size:=(x a o e).lt
theorem HOk.fresh(x:HOk P w H h)(e:h.objs.size<=a):H a=none:=by
 cases q:H a with
 | none=>rfl
 | some u=>exact absurd (Qn (x.lt q) e) (Xb _)
theorem HOk.kept(x:HOk P w H h)(k:∀ b u,h.get? b=some u->h'.get? b=some u):HOk P w H h':=fun a o e=>
 (x a o e).stay (fun b u _ q=>k b u q) (fun _ q=>q) fun _ _ q=>q
theorem HOk.laid(x:HOk P w H h)(k:∀ b u,h.get? b=some u->h'.get? b=some u)(hp:h.objs.size<=a)(new:mZ P w (upd H a o) h' a o):HOk P w (upd H a o) h':=fun b u e=>by
 have hn:=x.fresh hp;by_cases hb:b=a
 ·subst hb;rw[aY] at e;cases e;exact new
 ·rw[bB hb] at e
  exact(x b u e).stay (fun c v _ q=>k c v q) (fun c q=>by rw[bB (bC q hn)];exact q) fun c xs q=>by rw[bB (bC q hn)];exact q
end
def Rd(H:Hp)(a:Jc)(u:HO):Prop:=H a=some u∨∃ o,H a=some (.frz o u)
theorem Rd.ok{P:Jf}{w:Jg}{H:Hp}{h:Je}{a:Jc}{u:HO}(r:Rd H a u)(x:HOk P w H h):mZ P w H h a u:=by
 rcases r with r | ⟨o,r⟩
 ·exact x a u r
 ·obtain⟨_,q⟩:=x a _ r
  exact q
def Mut:Option HO->Prop
 | some (.lst _)=>True
 | some (.dK _)=>True
 | some (.dT _)=>True
 | some (.set _ _)=>True
 | some (.ins _ _ _)=>True
 | some (.ext _)=>True
 | _=>False
section
variable{P:Jf}{w:Jg}{H:Hp}{h h':Je}{x e:Jc}{o':HO}
theorem HOk.write(ok:HOk P w H h)(mu:Mut (H x))(he:e=x∨H e=some (.own x))(k:∀ b u,b≠e->h.get? b=some u->h'.get? b=some u)(heo:∃ u,h'.get? e=some u)
  (new:mZ P w (upd H x o') h' x o'):HOk P w (upd H x o') h':=fun b u q=>by
 have nown:∀ c y,H c=some (.own y)->c≠x:=fun c y r z=>by subst z;rw[r] at mu;exact mu
 have ntup:∀ c xs,H c=some (.tup xs)->c≠x:=fun c xs r z=>by subst z;rw[r] at mu;exact mu
 by_cases hb:b=x
 ·subst hb;rw[aY] at q;cases q;exact new
 ·rw[bB hb] at q
  by_cases hbe:b=e
  ·have q':H b=some (.own x):=by
    rcases he with z | z
    ·exact absurd (hbe.trans z) hb
    ·rw[hbe];exact z
   rw[q] at q';cases q'
   obtain⟨v,hv⟩:=heo;exact⟨v,by rw[hbe];exact hv⟩
  ·refine(ok b u q).stay (fun c v hc r=>k c v ?_ r) (fun c r=>by rw[bB (nown c b r)];exact r) fun c xs r=>by rw[bB (ntup c xs r)];exact r
   rcases hc with rfl | hc
   ·exact hbe
   ·rintro rfl
    rcases he with z | z
    ·exact nown c b hc z
    ·rw[hc] at z;cases z;exact hb rfl
end
structure Un (fs ex:List Jc) (H H':Hp) (h h':Je):Prop where
 keep:∀ b o,h.get? b=some o->H b=none->b∉fs->b∉ex->h'.get? b=some o
 slot:∀ b o,h.get? b=some o->H b=none->b∈fs->b∉ex->∃ sl,h'.get? b=some { o with slots:=sl }
 free:∀ b o,h.get? b=some o->H b=none->b∉ex->H' b=none
 there:∀ b o,h.get? b=some o->b∉ex->∃ o',h'.get? b=some o'
 tups:∀ b xs,H b=some (.tup xs)->H' b=some (.tup xs)
 frzs:∀ b o u,H b=some (.frz o u)->H' b=some (.frz o u)
 tbls:∀ b ps,H b=some (.tbl ps)->∃ more,H' b=some (.tbl (ps++more))
section
variable{fs fs' ex ex':List Jc}{H H1 H2:Hp}{h h1 h2 h':Je}{a x e:Jc}{o:HO}
theorem Un.any(u:Un fs ex H H1 h h1){b:Jc}{ob:Obj}(q:h.get? b=some ob)(n:H b=none)(hx:b∉ex):∃ sl,h1.get? b=some { ob with slots:=sl }:=by
 by_cases hb:b∈fs
 ·exact u.slot b ob q n hb hx
 ·exact⟨ob.slots,u.keep b ob q n hb hx⟩
theorem Un.kept(k:∀ b u,h.get? b=some u->h'.get? b=some u):Un fs ex H H h h':=
 ⟨fun b ob q _ _ _=>k b ob q,fun b ob q _ _ _=>⟨ob.slots,k b ob q⟩,fun _ _ _ n _=>n,fun b ob q _=>⟨ob,k b ob q⟩,fun _ _ q=>q,fun _ _ _ q=>q,fun _ ps q=>⟨#[],by rw[q];simp⟩⟩
theorem Un.refl:Un fs ex H H h h:=Un.kept fun _ _ q=>q
theorem Un.laid(k:∀ b u,h.get? b=some u->h'.get? b=some u)(hp:h.objs.size<=a)(hn:H a=none):Un fs ex H (upd H a o) h h' where
 keep:=fun b u q _ _ _=>k b u q
 slot:=fun b u q _ _ _=>⟨u.slots,k b u q⟩
 free:=fun b u q n _=>by rw[bB (Qq (Qn (Heap.lt_size q) hp))];exact n
 there:=fun b u q _=>⟨u,k b u q⟩
 tups:=fun b xs q=>by rw[bB (bC q hn)];exact q
 frzs:=fun b u xs q=>by rw[bB (bC q hn)];exact q
 tbls:=fun b ps q=>⟨#[],by rw[bB (bC q hn),q];simp⟩
theorem Un.write(mu:Mut (H x))(he:e=x∨H e=some (.own x))(k:∀ b u,b≠e->h.get? b=some u->h'.get? b=some u)(heo:∃ u,h'.get? e=some u):Un fs ex H (upd H x o) h h':=by
 have hx:∀ b,H b=none->b≠x:=fun b n z=>by subst z;rw[n] at mu;exact mu
 have hb:∀ b,H b=none->b≠e:=fun b n z=>by
  subst z;rcases he with r | r
  ·exact hx b n r
  ·rw[n] at r;cases r
 have hm:∀ b u,H b=some u->¬ Mut (some u)->b≠x:=fun b u q nm z=>by subst z;rw[q] at mu;exact nm mu
 refine⟨fun b u q n _ _=>k b u (hb b n) q,fun b u q n _ _=>⟨u.slots,k b u (hb b n) q⟩,fun b u q n _=>by rw[bB (hx b n)];exact n,fun b u q _=>?_,
  fun b xs q=>by rw[bB (hm b _ q fun z=>z)];exact q,fun b u xs q=>by rw[bB (hm b _ q fun z=>z)];exact q,fun b ps q=>⟨#[],by rw[bB (hm b _ q fun z=>z),q];simp⟩⟩
 by_cases hbe:b=e
 ·subst hbe;exact heo
 ·exact⟨u,k b u hbe q⟩
end
def trk(h:Je)(H:Hp):List Jc:=(List.range h.objs.size).filter fun a=>(H a).isSome
def zKy(h:Je)(H:Hp):Je:=PySem.W.hideAll h (trk h H)
theorem zJp(h:Je)(H:Hp):(zKy h H).objs.size=h.objs.size:=PySem.W.hideAll_size _ _
theorem zKG{h:Je}{H:Hp}{b:Jc}{o:Obj}(e:h.get? b=some o)(n:H b=none):(zKy h H).get? b=some o:=
 Ul _ e fun hm=>by
  have q:(H b).isSome=true:=(List.mem_filter.mp hm).2;rw[n] at q;simp at q
theorem zOs{h:Je}{H:Hp}{b:Jc}{o:Obj}(e:(zKy h H).get? b=some o):h.get? b=some o/\H b=none:=by
 have e':h.get? b=some o:=PySem.W.of_hideAll (trk h H) e;refine⟨e',?_⟩
 cases q:H b with
 | none=>rfl
 | some x=>
  have hm:b∈trk h H:=List.mem_filter.mpr ⟨Qj.mpr (Heap.lt_size e'),by simp[q]⟩
  have z:(zKy h H).get? b=none:=PySem.W.hideAll_none (trk h H) hm;rw[z] at e;cases e
def zNo(g h:Je)(L:Jc):List (Jc×Obj):=(List.range h.objs.size).filterMap fun a=>if a=L∨(g.get? a).isSome=true then none else (h.get? a).map fun o=>(a,o)
def rest(g h:Je)(L d:Jc):List (Jc×Obj):=(zNo g h L).filter fun p=>decide (p.1≠d)
structure Mod (K:PySem.W.Frag) (mg:Str->Option Ja) (base:Je):Prop where
 kin:K.In base
 glob:base.Ns mainGlobals mg
 blt:∃ mb,base.Ns builtinsNs mb/\∀ x:Str,x ≠ "__name__" -> mb x=bootBuiltins x
 nolimit:base.NoLimit
structure Cx where
 prog:Jf
 w:Jg
 K:PySem.W.Frag
 mg:Str->Option Ja
 base:Je
 A:Jh
 N:List Str
 s₀:Jb
 H₀:Hp
 env:Env
 outer:List Env
 stack:List Env
 ex:List Jc
 fn:Str->Bool
 calm:Bool
 pn:List (Jc×Obj)
 xe:Ja->Jb->Prop
def frs(l:List Env):List Jc:=l.filterMap (·.frame)
abbrev Cx.fs(X:Cx):List Jc:=frs X.outer
def Vis(sc:Scope)(x:Str):Prop:=sc.names.lookup x=some .local∨sc.names.lookup x=some .cell∨sc.names.lookup x=some .free
def Loc(sc:Scope)(x:Str):Prop:=sc.names.lookup x=some .local∨sc.names.lookup x=some .cell
def zTo(env:Env)(h:Je)(m:Str->Option Ja)(x:Str)(u:Ja):Prop:=
 (env.kindOf x=some .local/\m x=some u)∨((env.kindOf x=some .cell∨env.kindOf x=some .free)/\∃ c,env.cells.lookup x=some c/\h.IsCell c (some u))
structure Cx.Ok (X:Cx):Prop where
 mod:Mod X.K X.mg X.base
 kind:X.env.scope.kind=.function
 glob:X.env.globals=mainGlobals
 blt:X.env.builtins=builtinsNs
 above:X.s₀.heap.objs.size<=X.env.locals
 inj:∀ x y c,X.env.cells.lookup x=some c->X.env.cells.lookup y=some c->x=y
 has:∀ x,(X.env.kindOf x=some .cell∨X.env.kindOf x=some .free)->∃ c,X.env.cells.lookup x=some c
 cab:∀ x c,X.fn x=true->X.env.cells.lookup x=some c->X.s₀.heap.objs.size<=c
 hd:X.calm=true->X.A.handled=none
 frames:X.A.frames=some X.stack
 stk:X.stack=X.outer∨(X.stack=X.env::X.outer/\X.env.frame=some X.env.locals)
 exf:∀ b∈X.ex,b≠X.env.locals/\∀ x c,X.env.cells.lookup x=some c->c≠b
 bs:∀ b o,X.base.get? b=some o->X.s₀.heap.get? b=some o/\X.H₀ b=none
 bsz:X.base.objs.size<=X.s₀.heap.objs.size
 noex:∀ b o,X.base.get? b=some o->b∉X.ex
 exfs:∀ b∈X.ex,b∉X.fs
 funs:X.s₀.heap.FunFrames X.base X.outer
 frf:∀ b∈X.fs,X.H₀ b=none
structure Inv (X:Cx) (Mi:List (Jc×Obj)) (σ:List (Option V)) (H:Hp) (s:Jb):Prop where
 ok:X.Ok
 os:s.os=X.s₀.os
 bare:AllBare s.gens
 base:Un X.fs X.ex X.H₀ H X.s₀.heap s.heap
 loc:∃ m,s.heap.Ns X.env.locals m/\∀(i:Nat)(x:Str)(v:V),X.N[i]?=some x->σ[i]?=some (some v)->Vis X.env.scope x->∃ u,dH v u/\zTo X.env s.heap m x u
 cell:∀ x c,X.env.cells.lookup x=some c->∃ v,s.heap.IsCell c v
 free:H X.env.locals=none
 freeC:∀ x c,X.env.cells.lookup x=some c->H c=none
 pin:∀ p∈X.pn++Mi,s.heap.get? p.1=some p.2/\H p.1=none/\p.1≠X.env.locals/\p.1∉X.fs/\∀ v,p.2.data≠.cell v
 hok:HOk X.prog X.w H s.heap
 len:σ.length=X.N.length
section
variable{X:Cx}{Mi:List (Jc×Obj)}{σ:List (Option V)}{H H':Hp}{s:Jb}{h':Je}
theorem Cx.Ok.nofr(ok:X.Ok){b:Jc}{o:Obj}(e:X.base.get? b=some o):b∉X.fs:=fun hb=>by
 have:=(ok.funs.mem hb).1
 rw[e] at this;cases this
theorem Inv.bs(I:Inv X Mi σ H s):∀ b o,X.base.get? b=some o->s.heap.get? b=some o/\H b=none:=fun b o e=>
 ⟨I.base.keep b o (I.ok.bs b o e).1 (I.ok.bs b o e).2 (I.ok.nofr e) (I.ok.noex b o e),I.base.free b o (I.ok.bs b o e).1 (I.ok.bs b o e).2 (I.ok.noex b o e)⟩
theorem Inv.bk(I:Inv X Mi σ H s):∀ b o,X.base.get? b=some o->s.heap.get? b=some o:=fun b o e=>(I.bs b o e).1
theorem Inv.mod(I:Inv X Mi σ H s):Mod X.K X.mg X.base:=I.ok.mod
theorem Inv.kIn(I:Inv X Mi σ H s):X.K.In s.heap:=I.ok.mod.kin.keeps I.bk
theorem Inv.lt(I:Inv X Mi σ H s):X.env.locals<s.heap.objs.size:=let ⟨_,hn,_⟩:=I.loc;hn.lt
theorem Inv.sz(I:Inv X Mi σ H s):X.s₀.heap.objs.size<=s.heap.objs.size:=Q5 I.ok.above (Vs I.lt)
theorem Inv.nofs(I:Inv X Mi σ H s){a:Jc}(h:s.heap.objs.size<=a):a∉X.fs:=fun hb=>by
 obtain⟨_,o,ho,_⟩:=I.ok.funs.mem hb;exact absurd (Qn (Heap.lt_size ho) (Q5 I.sz h)) (Xb _)
theorem Inv.cne(I:Inv X Mi σ H s):∀ x c,X.env.cells.lookup x=some c->c≠X.env.locals:=fun x c e z=>by
 obtain⟨v,o,ho,hd⟩:=I.cell x c e;obtain⟨m,⟨o',es,ep,ho',hd',_⟩,_⟩:=I.loc;rw[z,ho'] at ho;cases ho;rw[hd'] at hd;cases hd
theorem Inv.funs(I:Inv X Mi σ H s):s.heap.FunFrames X.base X.outer:=by
 have all:∀(l:List Env),(∀ b∈frs l,b∈X.fs)->X.s₀.heap.FunFrames X.base l->s.heap.FunFrames X.base l:=by
  intro l
  induction l with
  | nil=>intro _ _;trivial
  | cons env r ih=>
   intro hs hl;obtain⟨hk,⟨L,o,hf,hn,ho,hd⟩,hr⟩:=hl;have hL:L∈X.fs:=hs L (by unfold frs;rw[Y3,hf];exact Qb)
   obtain⟨sl,e⟩:=I.base.slot L o ho (I.ok.frf L hL) hL fun z=>I.ok.exfs L z hL
   exact⟨hk,⟨L,_,hf,hn,e,hd⟩,ih (fun b hb=>hs b (by unfold frs;rw[Y3,hf];exact Qc _ hb)) hr⟩
 exact all X.outer (fun _ hb=>hb) I.ok.funs
theorem Inv.stack(I:Inv X Mi σ H s):s.heap.FunFrames X.base X.stack:=by
 rcases I.ok.stk with e | ⟨e,hf⟩
 ·rw[e];exact I.funs
 ·rw[e]
  obtain⟨m,hn,_⟩:=I.loc;refine .cons (by rw[I.ok.kind];decide) hf hn ?_ I.funs
  exact Heap.get?_none_of_le (Q5 I.ok.bsz I.ok.above)
theorem Inv.stkSub(I:Inv X Mi σ H s):∀ b∈frs X.stack,b∈X.env.locals::X.fs:=fun b hb=>by
 rcases I.ok.stk with e | ⟨e,hf⟩
 ·rw[e] at hb;exact Qc _ hb
 ·rw[e] at hb
  unfold frs at hb;rw[Y3,hf] at hb;exact hb
theorem Inv.stkFree(I:Inv X Mi σ H s):∀ b∈frs X.stack,H b=none:=fun b hb=>by
 rcases Qd.mp (I.stkSub b hb) with e | hb
 ·rw[e];exact I.free
 ·obtain⟨_,o,ho,_⟩:=I.ok.funs.mem hb
  exact I.base.free b o ho (I.ok.frf b hb) fun z=>I.ok.exfs b z hb
theorem Inv.step{g':Array GenState}{t':Nat}{d':Drawn}{ch:List Jc}(I:Inv X Mi σ H s)
  (hch:∀ b∈ch,(b∈X.ex∨X.s₀.heap.objs.size<=b)/\b≠X.env.locals/\(∀ x c,X.env.cells.lookup x=some c->c≠b)/\∀ p∈X.pn++Mi,p.1≠b)
  (keep:∀ b o,b≠X.env.locals->b∉X.fs->b∉ch->s.heap.get? b=some o->H b=none->h'.get? b=some o)
  (slot:∀ b o,b≠X.env.locals->b∈X.fs->b∉ch->s.heap.get? b=some o->H b=none->∃ sl,h'.get? b=some { o with slots:=sl }) (free:∀ b o,b∉ch->s.heap.get? b=some o->H b=none->H' b=none)
  (there:∀ b o,b∉ch->s.heap.get? b=some o->∃ o',h'.get? b=some o')
  (tups:∀ b xs,H b=some (.tup xs)->H' b=some (.tup xs)) (frzs:∀ b o u,H b=some (.frz o u)->H' b=some (.frz o u)) (tbls:∀ b ps,H b=some (.tbl ps)->∃ more,H' b=some (.tbl (ps++more)))
  (ns:∀ m,s.heap.Ns X.env.locals m->h'.Ns X.env.locals m) (hok:HOk X.prog X.w H' h') (hg:AllBare g'):
  Inv X Mi σ H' { s with heap:=h',gens:=g',drawn:=d',toks:=t' }:=by
 have neL:∀ b o,X.s₀.heap.get? b=some o->b≠X.env.locals:=fun b o e=>Qq (Qn (Heap.lt_size e) I.ok.above)
 have neC:∀ b o,X.s₀.heap.get? b=some o->b∉X.ex->b∉ch:=fun b o e hx hb=>by
  rcases (hch b hb).1 with z | z
  ·exact hx z
  ·exact absurd (Qn (Heap.lt_size e) z) (Xb _)
 have cellK:∀ x c,X.env.cells.lookup x=some c->∀ v,s.heap.IsCell c v->h'.IsCell c v:=fun x c e v ⟨o,ho,hd⟩=>by
  have nch:c∉ch:=fun z=>(hch c z).2.2.1 x c e rfl
  by_cases hc:c∈X.fs
  ·obtain⟨sl,q⟩:=slot c o (I.cne x c e) hc nch ho (I.freeC x c e)
   exact⟨_,q,hd⟩
  ·exact⟨o,keep c o (I.cne x c e) hc nch ho (I.freeC x c e),hd⟩
 refine⟨I.ok,I.os,hg,⟨fun b o e n hb hx=>?_,fun b o e n hb hx=>?_,fun b o e n hx=>?_,fun b o e hx=>?_,fun b xs e=>tups b xs (I.base.tups b xs e),fun b o xs e=>frzs b o xs (I.base.frzs b o xs e),fun b ps e=>?_⟩,?_,fun x c e=>?_,?_,fun x c e=>?_,fun p hp=>?_,hok,I.len⟩
 ·exact keep b o (neL b o e) hb (neC b o e hx) (I.base.keep b o e n hb hx) (I.base.free b o e n hx)
 ·obtain⟨sl,e1⟩:=I.base.slot b o e n hb hx
  obtain⟨sl',e2⟩:=slot b _ (neL b o e) hb (neC b o e hx) e1 (I.base.free b o e n hx);exact⟨sl',e2⟩
 ·obtain⟨o',e1⟩:=I.base.there b o e hx
  exact free b o' (neC b o e hx) e1 (I.base.free b o e n hx)
 ·obtain⟨o',e1⟩:=I.base.there b o e hx
  exact there b o' (neC b o e hx) e1
 ·obtain⟨m1,e1⟩:=I.base.tbls b ps e
  obtain⟨m2,e2⟩:=tbls b _ e1;exact⟨m1++m2,by rw[e2,Array.append_assoc]⟩
 ·obtain⟨m,hn,hl⟩:=I.loc
  refine⟨m,ns m hn,fun i x v e1 e2 e3=>?_⟩
  obtain⟨u,r,l⟩:=hl i x v e1 e2 e3;refine⟨u,r,?_⟩
  rcases l with l | ⟨k,c,e,z⟩
  ·exact .inl l
  ·exact .inr ⟨k,c,e,cellK x c e _ z⟩
 ·obtain⟨v,z⟩:=I.cell x c e
  exact⟨v,cellK x c e v z⟩
 ·obtain⟨m,⟨o,_,_,ho,_⟩,_⟩:=I.loc
  exact free _ o (fun z=>(hch _ z).2.1 rfl) ho I.free
 ·obtain⟨v,o,ho,hd⟩:=I.cell x c e
  exact free c o (fun z=>(hch c z).2.2.1 x c e rfl) ho (I.freeC x c e)
 ·obtain⟨e,n,ne,nf,d⟩:=I.pin p hp
  have nch:p.1∉ch:=fun z=>(hch p.1 z).2.2.2 p hp rfl
  exact⟨keep p.1 p.2 ne nf nch e n,free p.1 p.2 nch e n,ne,nf,d⟩
theorem Inv.un{t':Nat}(I:Inv X Mi σ H s)(u:Un X.fs [] H H' s.heap h')(hok:HOk X.prog X.w H' h'):Inv X Mi σ H' { s with heap:=h',toks:=t' }:=by
 obtain⟨m,⟨o,es,ep,ho,r⟩,_⟩:=id I.loc;obtain⟨sl,hL⟩:=u.any ho I.free (by simp)
 exact I.step (g':=s.gens) (d':=s.drawn) (ch:=[]) (fun _ z=>nomatch z) (fun b o _ hb _ e n=>u.keep b o e n hb (by simp)) (fun b o _ hb _ e n=>u.slot b o e n hb (by simp)) (fun b o _ e n=>u.free b o e n (by simp)) (fun b o _ e=>u.there b o e (by simp)) u.tups u.frzs u.tbls (fun m' hm=>by
  obtain⟨o',es',ep',ho',r'⟩:=hm;rw[ho] at ho';cases ho'
  exact⟨_,es',ep',hL,r'⟩) hok I.bare
theorem Inv.call{g':Array GenState}{t':Nat}{d':Drawn}{ch:List Jc}(I:Inv X Mi σ H s)(u:Un (frs X.stack) ch H H' s.heap h')(hok:HOk X.prog X.w H' h')(hg:AllBare g')
  (hch:∀ b∈ch,(b∈X.ex∨X.s₀.heap.objs.size<=b)/\b≠X.env.locals/\(∀ x c,X.env.cells.lookup x=some c->c≠b)/\∀ p∈X.pn++Mi,p.1≠b):
  Inv X Mi σ H' { s with heap:=h',gens:=g',drawn:=d',toks:=t' }:=by
 obtain⟨m,⟨o,es,ep,ho,r⟩,_⟩:=id I.loc;obtain⟨sl,hL⟩:=u.any ho I.free fun z=>(hch _ z).2.1 rfl
 exact I.step (ch:=ch) hch (fun b o hL hb hc e n=>u.keep b o e n (fun z=>(Qd.mp (I.stkSub b z)).elim hL hb) hc) (fun b o _ _ hc e n=>u.any e n hc) (fun b o hc e n=>u.free b o e n hc) (fun b o hc e=>u.there b o e hc) u.tups u.frzs u.tbls (fun m' hm=>by
  obtain⟨o',es',ep',ho',r'⟩:=hm;rw[ho] at ho';cases ho'
  exact⟨_,es',ep',hL,r'⟩) hok hg
theorem Inv.turned{t':Nat}{it:Jc}(I:Inv X Mi σ H s)(k:∀ b o,b≠it->s.heap.get? b=some o->h'.get? b=some o)(hn:H it=none)(hL:it≠X.env.locals)
  (h1:it∈X.ex∨X.s₀.heap.objs.size<=it) (h2:∀ x c,X.env.cells.lookup x=some c->c≠it) (h3:∀ p∈X.pn++Mi,p.1≠it):Inv X Mi σ H { s with heap:=h',toks:=t' }:=by
 have nit:∀ b u,H b=some u->b≠it:=fun b u e z=>by rw[z,hn] at e;cases e
 refine I.step (g':=s.gens) (d':=s.drawn) (ch:=[it]) (fun b hb=>?_) (fun b o _ _ hc e _=>k b o (fun z=>hc (by simp[z])) e) (fun b o _ _ hc e _=>⟨o.slots,k b o (fun z=>hc (by simp[z])) e⟩) (fun _ _ _ _ n=>n)
  (fun b o hc e=>⟨o,k b o (fun z=>hc (by simp[z])) e⟩) (fun _ _ e=>e) (fun _ _ _ e=>e) (fun b ps e=>⟨#[],by rw[e];simp⟩) (fun m hm=>?_) (fun b u e=>?_) I.bare
 ·have e:b=it:=by simpa using hb
  subst e;exact⟨h1,hL,h2,h3⟩
 ·obtain⟨o,es,ep,ho,r⟩:=hm
  exact⟨o,es,ep,k _ o (Ne.symm hL) ho,r⟩
 ·refine(I.hok b u e).stay (fun c v hc q=>k c v ?_ q) (fun _ q=>q) fun _ _ q=>q
  rcases hc with z | z
  ·rw[z];exact nit b u e
  ·exact nit c _ z
theorem Inv.tok(I:Inv X Mi σ H s)(t:Nat):Inv X Mi σ H { s with toks:=t }:=I.un (h':=s.heap) (t':=t) Un.refl I.hok
theorem Inv.kept{t':Nat}(I:Inv X Mi σ H s)(k:∀ b u,s.heap.get? b=some u->h'.get? b=some u):Inv X Mi σ H { s with heap:=h',toks:=t' }:=I.un (Un.kept k) (I.hok.kept k)
theorem Inv.laid{a:Jc}{o:HO}{t':Nat}(I:Inv X Mi σ H s)(k:∀ b u,s.heap.get? b=some u->h'.get? b=some u)(hp:s.heap.objs.size<=a)(new:mZ X.prog X.w (upd H a o) h' a o):
  Inv X Mi σ (upd H a o) { s with heap:=h',toks:=t' }:=I.un (Un.laid k hp (I.hok.fresh hp)) (I.hok.laid k hp new)
theorem Inv.write{x e:Jc}{o:HO}{t':Nat}(I:Inv X Mi σ H s)(mu:Mut (H x))(he:e=x∨H e=some (.own x))(k:∀ b u,b≠e->s.heap.get? b=some u->h'.get? b=some u)(heo:∃ u,h'.get? e=some u)
  (new:mZ X.prog X.w (upd H x o) h' x o):Inv X Mi σ (upd H x o) { s with heap:=h',toks:=t' }:=I.un (Un.write mu he k heo) (I.hok.write mu he k heo new)
theorem Inv.pins_of{pins':List (Jc×Obj)}(I:Inv X Mi σ H s)(h:∀ p∈pins',s.heap.get? p.1=some p.2/\H p.1=none/\p.1≠X.env.locals/\p.1∉X.fs/\∀ v,p.2.data≠.cell v):Inv X pins' σ H s:=
 ⟨I.ok,I.os,I.bare,I.base,I.loc,I.cell,I.free,I.freeC,fun p hp=>(Va.mp hp).elim (fun z=>I.pin p (Xo _ z)) (h p),I.hok,I.len⟩
theorem zBA{N:List Str}(hN:N.Nodup){i j:Nat}{x:Str}(a:N[i]?=some x)(b:N[j]?=some x):i=j:=by
 obtain⟨h1,e1⟩:=Qx.mp a;obtain⟨h2,e2⟩:=Qx.mp b;exact(List.getElem_inj hN).mp (e1.trans e2.symm)
theorem zCp{M:Model}{A:Jh}{E:Ja->Jb->Prop}{i:Nat}{x:Str}{v:V}{u:Ja}{Q:Unit->Jb->Prop}(I:Inv X Mi σ H s)(hN:X.N.Nodup)(hi:X.N[i]?=some x)(hx:Loc X.env.scope x)(r:dH v u)
  (h:∀ s',Inv X Mi (σ.set i (some v)) H s'->(∃ a,Heap.SameBut a s.heap s'.heap/\(a=X.env.locals∨X.env.cells.lookup x=some a))->Q () s') (hf:X.fn x=true∨X.env.scope.names.lookup x=some .local:=by first | exact .inl rfl | exact .inr rfl | assumption):wpAny M A (storeName X.env x u) Q E s:=by
 obtain⟨m,hn,hl⟩:=id I.loc;have hcls:(X.env.scope.kind==.class || (X.env.scope.kind==.module && X.env.locals != X.env.globals))=false:=by rw[I.ok.kind];rfl
 have hiσ:i<σ.length:=by rw[I.len];exact(Qx.mp hi).1
 have cne:=I.cne
 have tracked:∀ {a:Jc} {h':Je},(∃ o,s.heap.get? a=some o/\H a=none)->Heap.SameBut a s.heap h'->HOk X.prog X.w H h':=fun {a h'} ha hs b ob e=>by
  obtain⟨_,_,hfree⟩:=ha;refine(I.hok b ob e).stay (fun c w' hc q=>(hs.2 c ?_).trans q) (fun _ q=>q) fun _ _ q=>q
  rintro rfl
  rcases hc with rfl | hc
  ·rw[hfree] at e;cases e
  ·rw[hfree] at hc;cases hc
 rcases hx with hk | hk
 ·refine wpAny_storeName_local hk hn (fun h' hn' hs=>?_) hcls
  obtain⟨oL,_,_,hoL,_⟩:=id hn;refine h _ ⟨I.ok,I.os,I.bare,⟨fun b o e n hb hx=>?_,fun b o e n hb hx=>?_,I.base.free,fun b o e hx=>?_,I.base.tups,I.base.frzs,I.base.tbls⟩,⟨_,hn',fun j y v' e1 e2 e3=>?_⟩,fun y c e=>?_,I.free,I.freeC,fun p hp=>?_,tracked ⟨oL,hoL,I.free⟩ hs,by simpa using I.len⟩ ⟨_,hs,.inl rfl⟩
  ·exact(hs.2 b (Qq (Qn (Heap.lt_size e) I.ok.above))).trans (I.base.keep b o e n hb hx)
  ·obtain⟨sl,e1⟩:=I.base.slot b o e n hb hx
   exact⟨sl,(hs.2 b (Qq (Qn (Heap.lt_size e) I.ok.above))).trans e1⟩
  ·obtain⟨o',e1⟩:=I.base.there b o e hx
   exact⟨o',(hs.2 b (Qq (Qn (Heap.lt_size e) I.ok.above))).trans e1⟩
  ·by_cases hj:j=i
   ·subst hj
    rw[hi] at e1;cases e1
    rw[Q9 hiσ] at e2;cases e2;exact⟨u,r,.inl ⟨hk,by simp⟩⟩
   ·rw[Q7 (Ne.symm hj)] at e2
    obtain⟨u',r',q⟩:=hl j y v' e1 e2 e3;refine⟨u',r',?_⟩
    rcases q with⟨k,e⟩ | ⟨k,c,e,z⟩
    ·refine .inl ⟨k,?_⟩
     have:y≠x:=fun e=>hj (zBA hN e1 (e ▸ hi))
     simp[this,e]
    ·exact .inr ⟨k,c,e,z.sameBut hs (cne y c e)⟩
  ·obtain⟨w',z⟩:=I.cell y c e
   exact⟨w',z.sameBut hs (cne y c e)⟩
  ·obtain⟨e,n,ne,nf,d⟩:=I.pin p hp
   exact⟨(hs.2 p.1 ne).trans e,n,ne,nf,d⟩
 ·have hfn:X.fn x=true:=by
   rcases hf with z | z
   ·exact z
   ·rw[z] at hk;cases hk
  obtain⟨c,hc⟩:=I.ok.has x (.inl hk);obtain⟨w',z⟩:=I.cell x c hc;refine wpAny_storeName_cell I.ok.kind hk hc z (fun h' hc' hs=>?_)
  obtain⟨oc,hoc,hocd⟩:=id z;refine h { s with heap:=h' } ⟨I.ok,I.os,I.bare,⟨fun b o e n hb hx=>?_,fun b o e n hb hx=>?_,I.base.free,fun b o e hx=>?_,I.base.tups,I.base.frzs,I.base.tbls⟩,⟨m,hn.sameBut hs (Ne.symm (cne x c hc)),fun j y v' e1 e2 e3=>?_⟩,fun y c' e=>?_,I.free,I.freeC,fun p hp=>?_,tracked ⟨oc,hoc,I.freeC x c hc⟩ hs,by simpa using I.len⟩ ⟨c,hs,.inr hc⟩
  ·exact(hs.2 b (Qq (Qn (Heap.lt_size e) (I.ok.cab x c hfn hc)))).trans (I.base.keep b o e n hb hx)
  ·obtain⟨sl,e1⟩:=I.base.slot b o e n hb hx
   exact⟨sl,(hs.2 b (Qq (Qn (Heap.lt_size e) (I.ok.cab x c hfn hc)))).trans e1⟩
  ·obtain⟨o',e1⟩:=I.base.there b o e hx
   exact⟨o',(hs.2 b (Qq (Qn (Heap.lt_size e) (I.ok.cab x c hfn hc)))).trans e1⟩
  ·by_cases hj:j=i
   ·subst hj
    rw[hi] at e1;cases e1
    rw[Q9 hiσ] at e2;cases e2;exact⟨u,r,.inr ⟨.inl hk,c,hc,hc'⟩⟩
   ·rw[Q7 (Ne.symm hj)] at e2
    obtain⟨u',r',q⟩:=hl j y v' e1 e2 e3;refine⟨u',r',?_⟩
    rcases q with q | ⟨k,c',e,z'⟩
    ·exact .inl q
    ·refine .inr ⟨k,c',e,z'.sameBut hs ?_⟩
     rintro rfl
     exact hj (zBA hN e1 (I.ok.inj _ _ _ e hc ▸ hi))
  ·by_cases hcc:c'=c
   ·subst hcc;exact⟨_,hc'⟩
   ·obtain⟨w2,z2⟩:=I.cell y c' e
    exact⟨w2,z2.sameBut hs hcc⟩
  ·obtain⟨e,n,ne,nf,d⟩:=I.pin p hp
   refine⟨(hs.2 p.1 ?_).trans e,n,ne,nf,d⟩
   intro q;rw[q,hoc] at e;have q':oc=p.2:=Vj e;exact d w' (by rw[<-q'];exact hocd)
theorem oD{M:Model}{A:Jh}{E:Ja->Jb->Prop}{i:Nat}{x:Str}{v:V}{u:Ja}{Q:Unit->Jb->Prop}(I:Inv X Mi σ H s)(hN:X.N.Nodup)(hi:X.N[i]?=some x)(hx:Loc X.env.scope x)(r:dH v u)
  (h:∀ s',Inv X Mi (σ.set i (some v)) H s'->Q () s') (hf:X.fn x=true∨X.env.scope.names.lookup x=some .local:=by first | exact .inl rfl | exact .inr rfl | assumption):wpAny M A (storeName X.env x u) Q E s:=
 zCp I hN hi hx r (fun s' I' _=>h s' I') hf
theorem Inv.call'{s':Jb}{ch:List Jc}(I:Inv X Mi σ H s)(ho:s'.os=s.os)(u:Un (frs X.stack) ch H H' s.heap s'.heap)(hok:HOk X.prog X.w H' s'.heap)(hg:AllBare s'.gens)
  (hch:∀ b∈ch,(b∈X.ex∨X.s₀.heap.objs.size<=b)/\b≠X.env.locals/\(∀ x c,X.env.cells.lookup x=some c->c≠b)/\∀ p∈X.pn++Mi,p.1≠b):Inv X Mi σ H' s':=by
 obtain⟨h',g',d',t',o'⟩:=s';have e:o'=s.os:=ho;subst e;exact I.call (g':=g') (t':=t') (d':=d') u hok hg hch
end
abbrev XK:=Ja->Option Jc->Hp->Prop
abbrev St:=List (Option V)
abbrev VK:=V->Hp->Prop
abbrev TE:=St->Hp->VK->Prop
abbrev TT:=St->Hp->(Bool->Hp->Prop)->Prop
abbrev TA:=St->Hp->(List V->Hp->Prop)->Prop
structure zDG where
 nx:St->Hp->Prop
 rt:VK
 bk:St->Hp->Prop:=fun _ _=>False
 ct:St->Hp->Prop:=fun _ _=>False
abbrev TS:=zDG->St->Hp->Prop
def EP(X:Cx)(Mi:List (Jc×Obj))(σ:St)(Q:VK)(u:Ja)(s':Jb):Prop:=∃ v H',Inv X Mi σ H' s'/\dH v u/\Q v H'
def TP(X:Cx)(Mi:List (Jc×Obj))(σ:St)(Q:Bool->Hp->Prop)(b:Bool)(s':Jb):Prop:=∃ H',Inv X Mi σ H' s'/\Q b H'
def AP(X:Cx)(Mi:List (Jc×Obj))(σ:St)(Q:List V->Hp->Prop)(us:List Ja)(s':Jb):Prop:=∃ vs H',Inv X Mi σ H' s'/\dS vs us/\Q vs H'
def SP(X:Cx)(Mi:List (Jc×Obj))(D:zDG)(f:Flow)(s':Jb):Prop:=
 match f with
 | .next=>∃ σ' H',Inv X Mi σ' H' s'/\D.nx σ' H'
 | .brk=>∃ σ' H',Inv X Mi σ' H' s'/\D.bk σ' H'
 | .cont=>∃ σ' H',Inv X Mi σ' H' s'/\D.ct σ' H'
 | .ret u=>∃ v σ' H',Inv X Mi σ' H' s'/\dH v u/\D.rt v H'
def PE(X:Cx)(e:Expr)(t:TE):Prop:=
 ∀(Mi:List (Jc×Obj))(s:Jb)(σ:St)(H:Hp)(Q:VK),Inv X Mi σ H s->t σ H Q->wpAny (model X.prog X.w) X.A (eval e X.env) (EP X Mi σ Q) X.xe s
def PT(X:Cx)(e:Expr)(t:TT):Prop:=
 ∀(Mi:List (Jc×Obj))(s:Jb)(σ:St)(H:Hp)(Q:Bool->Hp->Prop),Inv X Mi σ H s->t σ H Q->wpAny (model X.prog X.w) X.A (isTrue e X.env (eval e X.env)) (TP X Mi σ Q) X.xe s
def PW(X:Cx)(e:Expr)(t:TT):Prop:=
 ∀(whole:Sem Ja)(Mi:List (Jc×Obj))(s:Jb)(σ:St)(H:Hp)(Q:Bool->Hp->Prop),Inv X Mi σ H s->t σ H Q->wpAny (model X.prog X.w) X.A (isTrue e X.env whole) (TP X Mi σ Q) X.xe s
theorem PW.pt{X:Cx}{e:Expr}{t:TT}(h:PW X e t):PT X e t:=h _
def PA(X:Cx)(es:List Expr)(t:TA):Prop:=
 ∀(pos:Pos)(Mi:List (Jc×Obj))(s:Jb)(σ:St)(H:Hp)(Q:List V->Hp->Prop),Inv X Mi σ H s->t σ H Q->wpAny (model X.prog X.w) X.A (spliced (backTo pos (starEach es X.env))) (AP X Mi σ Q) X.xe s
def PS(X:Cx)(st:Ji)(t:TS):Prop:=
 ∀(Mi:List (Jc×Obj))(s:Jb)(σ:St)(H:Hp)(D:zDG),Inv X Mi σ H s->t D σ H->wpAny (model X.prog X.w) X.A (exec st X.env) (SP X Mi D) X.xe s
def PSs(X:Cx)(st:List Ji)(t:TS):Prop:=
 ∀(Mi:List (Jc×Obj))(s:Jb)(σ:St)(H:Hp)(D:zDG),Inv X Mi σ H s->t D σ H->wpAny (model X.prog X.w) X.A (execs st X.env) (SP X Mi D) X.xe s
theorem thn{α:Type}{t:Sem α}{Q Q':α->Jb->Prop}{M:Model}{A:Jh}{E:Ja->Jb->Prop}{s:Jb}(h:wpAny M A t Q E s)(hQ:∀ a s,Q a s->Q' a s):wpAny M A t Q' E s:=wpAny_mono h hQ fun _ _ x=>x
section
variable{X:Cx}
theorem bin{a b:Expr}{ta tb:TE}(ha:PE X a ta)(hb:PE X b tb){Mi:List (Jc×Obj)}{s:Jb}{σ:St}{H:Hp}{R:V->V->Hp->Prop}(I:Inv X Mi σ H s)(h:ta σ H fun x H1=>tb σ H1 fun y H2=>R x y H2)
  {α:Type} {Q:α->Jb->Prop} {f:Ja->Ja->Sem α}
  (hf:∀ v u s2 x y H2,Inv X Mi σ H2 s2->dH x v->dH y u->R x y H2->wpAny (model X.prog X.w) X.A (f v u) Q X.xe s2):
  wpAny (model X.prog X.w) X.A (eval a X.env) (fun v s₁=>wpAny (model X.prog X.w) X.A (eval b X.env) (fun u s₂=>wpAny (model X.prog X.w) X.A (f v u) Q X.xe s₂) X.xe s₁) X.xe s:=by
 refine thn (ha Mi s σ H _ I h) fun v s1 ⟨x,H1,I1,r1,q1⟩=>?_
 refine thn (hb Mi s1 σ H1 _ I1 q1) fun u s2 ⟨y,H2,I2,r2,q2⟩=>?_
 exact hf v u s2 x y H2 I2 r1 r2 q2
abbrev zDE(i:Nat):TE:=fun σ H Q=>∃ v,σ[i]?=some (some v)/\Q v H
abbrev tC(v:V):TE:=fun _ H Q=>Q v H
theorem wC{i:Nat}{x:Str}{pos:Pos}(hN:X.N[i]?=some x)(hv:Vis X.env.scope x)(hd:(x==("__debug__" : Str))=false:=by decide)(hcd:(x==("__classdict__" : Str))=false:=by decide):PE X (.Name x pos) (zDE i):=by
 intro Mi s σ H Q I h;obtain⟨v,e,h⟩:=h;obtain⟨m,hn,hl⟩:=I.loc;obtain⟨u,r,l⟩:=hl i x v hN e hv;have fin:EP X Mi σ Q u s:=⟨v,H,I,r,h⟩;rcases l with⟨hk,hm⟩ | ⟨hk,c,hc,hcell⟩
 ·exact Jm (wpAny_loadName_local I.ok.kind hk hn hm fin) hd
 ·rcases hk with hk | hk
  ·exact Jm (wpAny_loadName_cell I.ok.kind hk hc hcell fin) hd
  ·exact Jm (wpAny_loadName_free I.ok.kind hk hc hcell fin hcd) hd
theorem zJM{i j pos}:PE X (.Constant (.int i) j pos) (tC (.int i)):=fun _ _ _ H _ I h=>wpAny_Constant_int ⟨.int i,H,I.tok _,⟨_,rfl⟩,h⟩
theorem lD{b j pos}:PE X (.Constant (.bool b) j pos) (tC (.bl b)):=fun _ _ _ H _ I h=>Constant_bool ⟨.bl b,H,I,rfl,h⟩
theorem zPv{j pos}:PE X (.Constant .none j pos) (tC .non):=fun _ _ _ H _ I h=>Constant_none ⟨.non,H,I,rfl,h⟩
theorem cJ{x j pos}:PE X (.Constant (.str x) j pos) (tC (.str x)):=fun _ _ _ H _ I h=>Calls.Constant_str ⟨.str x,H,I.tok _,⟨_,rfl⟩,h⟩
def Gl(X:Cx)(x:Str):Prop:=X.env.kindOf x=some .globalImplicit
theorem vN{E:Ja->Jb->Prop}{Mi:List (Jc×Obj)}{s:Jb}{σ:St}{H:Hp}{x:Str}{u:Ja}{pos:Pos}{Q:Ja->Jb->Prop}(I:Inv X Mi σ H s)(hg:Gl X x)(hm:X.mg x=some u)(h:Q u s)
  (hd:(x==("__debug__" : Str))=false:=by decide):wpAny (model X.prog X.w) X.A (eval (.Name x pos) X.env) Q E s:=
 Calls.Name_function_global I.ok.kind hg (Calls.loadGlobal_global (by rw[I.ok.glob];exact I.mod.glob.keeps I.bk) hm h) hd
theorem rL{E:Ja->Jb->Prop}{Mi:List (Jc×Obj)}{s:Jb}{σ:St}{H:Hp}{x:Str}{u:Ja}{pos:Pos}{Q:Ja->Jb->Prop}(I:Inv X Mi σ H s)(hg:Gl X x)(hm:X.mg x=none)(hv:bootBuiltins x=some u)(h:Q u s)
  (hn:x ≠ "__name__" := by decide) (hd:(x==("__debug__" : Str))=false:=by decide):wpAny (model X.prog X.w) X.A (eval (.Name x pos) X.env) Q E s:=by
 obtain⟨mb,h1,h2⟩:=I.mod.blt;exact Calls.Name_function_global I.ok.kind hg (Calls.loadGlobal_builtin (by rw[I.ok.glob];exact I.mod.glob.keeps I.bk) hm (by rw[I.ok.blt];exact h1.keeps I.bk) ((h2 x hn).trans hv) h) hd
theorem zDZ{x:Str}{v:V}{u:Ja}{pos:Pos}(hg:Gl X x)(hm:X.mg x=some u)(r:dH v u)(hd:(x==("__debug__" : Str))=false:=by decide):PE X (.Name x pos) (tC v):=
 fun _ _ _ H _ I h=>vN I hg hm ⟨v,H,I,r,h⟩ hd
theorem vJ{x:Str}{v:V}{u:Ja}{pos:Pos}(hg:Gl X x)(hm:X.mg x=none)(hv:bootBuiltins x=some u)(r:dH v u)(hn:x ≠ "__name__" := by decide)(hd:(x==("__debug__" : Str))=false:=by decide):PE X (.Name x pos) (tC v):=
 fun _ _ _ H _ I h=>rL I hg hm hv ⟨v,H,I,r,h⟩ hn hd
variable{a b:Expr}{ta tb:TE}{pos:Pos}
def PC(X:Cx)(op:CmpOp)(a b:Expr)(t:TE):Prop:=
 ∀(Mi:List (Jc×Obj))(s:Jb)(σ:St)(H:Hp)(Q:VK),Inv X Mi σ H s->t σ H Q->
  wpAny (model X.prog X.w) X.A (eval a X.env) (fun v s₁=>wpAny (model X.prog X.w) X.A (eval b X.env) (fun u s₂=>wpAny (model X.prog X.w) X.A (compareOp op v u) (EP X Mi σ Q) X.xe s₂) X.xe s₁) X.xe s
theorem zLs(b:Expr){op:CmpOp}(h:op≠.In)(h2:op≠.NotIn):behindInMarks op b=false:=by
 have e1:(op==CmpOp.In)=false:=by cases op<;>first | rfl | exact absurd rfl h
 have e2:(op==CmpOp.NotIn)=false:=by cases op<;>first | rfl | exact absurd rfl h2
 cases b<;>simp[behindInMarks,e1,e2]
abbrev tB(t:TE):TT:=fun σ H Q=>t σ H fun x H1=>∃ c,x=.bl c/\Q c H1
theorem zTc{op:CmpOp}{t:TE}(h:PC X op a b t)(h1:behindInMarks op b=false:=by first | exact zLs _ (by decide) (by decide) | rfl):PT X (.Compare a [op] [b] pos) (tB t):=by
 intro Mi s σ H Q I hw;refine Jn (thn (h Mi s σ H _ I hw) fun v s1 h1=>thn h1 fun u s2 h2=>thn h2 fun c s3 ⟨x,H1,I1,r1,q1⟩=>?_) h1
 obtain⟨d,rfl,q⟩:=q1;cases r1;exact Jo ⟨H1,I1,q⟩
theorem zPB{e:Expr}{t:TE}(h:PE X e t)(he:∀ whole,isTrue e X.env whole=(do let v <-whole;standAt e.pos;holding [v] (truthy v)):=by intro _;rfl):PT X e (tB t):=by
 intro Mi s σ H Q I hw;refine isTrue_plain (thn (h Mi s σ H _ I hw) fun v s1 ⟨x,H1,I1,r1,q1⟩=>?_) (he _)
 obtain⟨d,rfl,q⟩:=q1;cases r1;exact Jo ⟨H1,I1,q⟩
variable{tA tB':TT}{rest:List Expr}
abbrev zTB(t u:TT):TT:=fun σ H Q=>t σ H fun c H1=>if c=true then u σ H1 Q else Q false H1
abbrev tOr(t u:TT):TT:=fun σ H Q=>t σ H fun c H1=>if c=true then Q true H1 else u σ H1 Q
abbrev zTE(t:TT):TT:=fun σ H Q=>t σ H fun c H1=>Q (!c) H1
theorem zOz(ha:PT X a tA):PW X (.BoolOp .And [a] pos) tA:=by
 intro wh Mi s σ H Q I h;refine isTrue_and (thn (ha Mi s σ H Q I h) fun c s1 e=>?_)
 cases c with
 | true=>exact isTrue_and_nil e
 | false=>exact e
theorem zPS(ha:PT X a tA):PW X (.BoolOp .Or [a] pos) tA:=by
 intro wh Mi s σ H Q I h;refine isTrue_or (thn (ha Mi s σ H Q I h) fun c s1 e=>?_)
 cases c with
 | false=>exact isTrue_or_nil e
 | true=>exact e
theorem zPp(ha:PT X a tA)(hb:PW X (.BoolOp .And (b::rest) pos) tB'):PW X (.BoolOp .And (a::b::rest) pos) (zTB tA tB'):=by
 intro wh Mi s σ H Q I h;refine isTrue_and (thn (ha Mi s σ H _ I h) fun c s1 ⟨H1,I1,q1⟩=>?_)
 cases c with
 | true=>exact hb wh Mi s1 σ H1 Q I1 q1
 | false=>exact⟨H1,I1,q1⟩
theorem zRZ(ha:PT X a tA)(hb:PW X (.BoolOp .Or (b::rest) pos) tB'):PW X (.BoolOp .Or (a::b::rest) pos) (tOr tA tB'):=by
 intro wh Mi s σ H Q I h;refine isTrue_or (thn (ha Mi s σ H _ I h) fun c s1 ⟨H1,I1,q1⟩=>?_)
 cases c with
 | true=>exact⟨H1,I1,q1⟩
 | false=>exact hb wh Mi s1 σ H1 Q I1 q1
theorem zQl(ha:PT X a tA):PT X (.UnaryOp .Not a pos) (zTE tA):=by
 intro Mi s σ H Q I h;exact isTrue_not (ha Mi s σ H (fun c H1=>Q (!c) H1) I h)
abbrev zSk(ta tb:TE):TE:=fun σ H Q=>ta σ H fun x H1=>∃ c,x=.bl c/\if c=true then tb σ H1 Q else Q (.bl false) H1
abbrev zTt(ta tb:TE):TE:=fun σ H Q=>ta σ H fun x H1=>∃ c,x=.bl c/\if c=true then Q (.bl true) H1 else tb σ H1 Q
theorem zPE{op}{t:TE}(h:PE X a t):PE X (.BoolOp op [a] pos) t:=fun Mi s σ H Q I hw=>BoolOp_one (h Mi s σ H Q I hw)
theorem zQF(ha:PE X a ta)(hb:PE X (.BoolOp .And (b::rest) pos) tb):PE X (.BoolOp .And (a::b::rest) pos) (zSk ta tb):=by
 intro Mi s σ H Q I h;refine BoolOp_and (thn (ha Mi s σ H _ I h) fun v s1 ⟨x,H1,I1,r1,q1⟩=>?_)
 obtain⟨c,rfl,q1⟩:=q1;cases r1;refine Jo ?_
 cases c with
 | true=>exact hb Mi s1 σ H1 Q I1 q1
 | false=>exact⟨.bl false,H1,I1,rfl,q1⟩
theorem zSh(ha:PE X a ta)(hb:PE X (.BoolOp .Or (b::rest) pos) tb):PE X (.BoolOp .Or (a::b::rest) pos) (zTt ta tb):=by
 intro Mi s σ H Q I h;refine BoolOp_or (thn (ha Mi s σ H _ I h) fun v s1 ⟨x,H1,I1,r1,q1⟩=>?_)
 obtain⟨c,rfl,q1⟩:=q1;cases r1;refine Jo ?_
 cases c with
 | false=>exact hb Mi s1 σ H1 Q I1 q1
 | true=>exact⟨.bl true,H1,I1,rfl,q1⟩
abbrev tIf(t:TT)(ta tb:TE):TE:=fun σ H Q=>t σ H fun c H1=>if c=true then ta σ H1 Q else tb σ H1 Q
theorem zKW{c:Expr}(hc:PT X c tA)(ha:PE X a ta)(hb:PE X b tb):PE X (.IfExp c a b pos) (tIf tA ta tb):=by
 intro Mi s σ H Q I h;refine wpAny_IfExp (thn (hc Mi s σ H _ I h) fun d s1 ⟨H1,I1,q1⟩=>?_)
 cases d with
 | true=>exact ha Mi s1 σ H1 Q I1 q1
 | false=>exact hb Mi s1 σ H1 Q I1 q1
end
def SqL(K:PySem.W.Frag)(H:Hp)(a:Jc)(xs:List V):Prop:=
 Rd H a (.lst xs)∨
  ∃(o:Obj)(its:Array Ja)(n:Nat),K.lookup a=some o/\o.cls=.type "list" /\ o.dict=none/\o.data=.seq its n/\its.size<=sizeLine/\dS xs its.toList
def SqT(K:PySem.W.Frag)(H:Hp)(a:Jc)(xs:List V):Prop:=
 Rd H a (.tup xs)∨
  ∃(o:Obj)(its:Array Ja)(n:Nat),K.lookup a=some o/\o.cls=.type "tuple" /\ o.data=.seq its n/\its.size<=sizeLine/\dS xs its.toList
def zTN:Ja->Option V
 | .none=>some .non
 | .bool b=>some (.bl b)
 | .int i _=>some (.int i)
 | .str x _=>some (.str x)
 | .bytes b _=>some (.byt b)
 | .float b _=>some (.flt b)
 | .ref a=>some (.ref a)
 | .type n=>some (.ty n)
 | _=>none
theorem dH.abs{x:V}{u:Ja}(r:dH x u):zTN u=some x:=by
 cases x with
 | non=>cases r;rfl
 | bl _=>cases r;rfl
 | int _=>obtain⟨t,rfl⟩:=r;rfl
 | str _=>obtain⟨t,rfl⟩:=r;rfl
 | byt _=>obtain⟨t,rfl⟩:=r;rfl
 | flt _=>obtain⟨t,rfl⟩:=r;rfl
 | ref _=>cases r;rfl
 | ty _=>cases r;rfl
theorem dH.inj{x y:V}{u:Ja}(r:dH x u)(q:dH y u):x=y:=Vj (r.abs.symm.trans q.abs)
theorem dS.inj:∀ {xs ys:List V} {us:List Ja},dS xs us->dS ys us->xs=ys
 | _,_,_,.nil,.nil=>rfl
 | _,_,_,.cons r t,.cons r' t'=>by rw[r.inj r',dS.inj t t']
section
variable{X:Cx}{Mi:List (Jc×Obj)}{σ:St}{H:Hp}{s:Jb}{a:Jc}{xs ys:List V}
theorem SqL.of{K:Fg_}(h:H a=some (.lst xs)):SqL K H a xs:=.inl (.inl h)
theorem SqT.of{K:Fg_}(h:H a=some (.tup xs)):SqT K H a xs:=.inl (.inl h)
theorem Inv.list(I:Inv X Mi σ H s)(h:SqL X.K H a xs):∃ its:List Ja,dS xs its/\PlainL s.heap a its.toArray/\xs.length<=sizeLine:=by
 rcases h with h | ⟨o,its,n,hk,hc,hd,hs,hz,r⟩
 ·obtain⟨z,its,n,r,e⟩:=h.ok I.hok
  exact⟨its,r,⟨_,n,e,rfl,rfl,rfl⟩,z⟩
 ·refine⟨its.toList,r,⟨o,n,I.kIn a o hk,hc,hd,by simpa using hs⟩,?_⟩
  have e:=r.length;simp only[X6] at e;omega
theorem Inv.tuple(I:Inv X Mi σ H s)(h:SqT X.K H a xs):∃ its:List Ja,dS xs its/\IsTup s.heap a its.toArray/\xs.length<=sizeLine:=by
 rcases h with h | ⟨o,its,n,hk,hc,hs,hz,r⟩
 ·obtain⟨z,its,r,p⟩:=h.ok I.hok
  exact⟨its,r,p,z⟩
 ·refine⟨its.toList,r,⟨o,I.kIn a o hk,hc,n,by simpa using hs⟩,?_⟩
  have e:=r.length;simp only[X6] at e;omega
theorem Inv.list_inj(I:Inv X Mi σ H s)(h:SqL X.K H a xs)(h':SqL X.K H a ys):xs=ys:=by
 obtain⟨its,r,⟨o,n,e,_,_,d⟩,_⟩:=I.list h;obtain⟨its',r',⟨o',n',e',_,_,d'⟩,_⟩:=I.list h';rw[e] at e';cases e'
 rw[d] at d';injection d' with d1 _
 have:its=its':=by simpa using congrArg Array.toList d1
 subst this;exact r.inj r'
theorem Inv.tuple_inj(I:Inv X Mi σ H s)(h:SqT X.K H a xs)(h':SqT X.K H a ys):xs=ys:=by
 obtain⟨its,r,⟨o,e,_,n,d⟩,_⟩:=I.tuple h;obtain⟨its',r',⟨o',e',_,n',d'⟩,_⟩:=I.tuple h';rw[e] at e';cases e'
 rw[d] at d';injection d' with d1 _
 have:its=its':=by simpa using congrArg Array.toList d1
 subst this;exact r.inj r'
end
abbrev Cx.wish(X:Cx)(E:Ja->Jb->Prop):Cx:={ X with xe:=E }
abbrev Cx.nox(X:Cx):Cx:=X.wish fun _ _=>False
theorem Cx.Ok.wish{X:Cx}(ok:X.Ok)(E:Ja->Jb->Prop):(X.wish E).Ok:=
 ⟨ok.mod,ok.kind,ok.glob,ok.blt,ok.above,ok.inj,ok.has,ok.cab,ok.hd,ok.frames,ok.stk,ok.exf,ok.bs,ok.bsz,ok.noex,ok.exfs,ok.funs,ok.frf⟩
theorem Cx.Ok.unwish{X:Cx}{E:Ja->Jb->Prop}(ok:(X.wish E).Ok):X.Ok:=
 ⟨ok.mod,ok.kind,ok.glob,ok.blt,ok.above,ok.inj,ok.has,ok.cab,ok.hd,ok.frames,ok.stk,ok.exf,ok.bs,ok.bsz,ok.noex,ok.exfs,ok.funs,ok.frf⟩
section
variable{X:Cx}{Mi:List (Jc×Obj)}{σ:St}{H:Hp}{s:Jb}{E:Ja->Jb->Prop}
theorem Inv.wish(I:Inv X Mi σ H s)(E:Ja->Jb->Prop):Inv (X.wish E) Mi σ H s:=⟨I.ok.wish E,I.os,I.bare,I.base,I.loc,I.cell,I.free,I.freeC,I.pin,I.hok,I.len⟩
theorem Inv.unwish(I:Inv (X.wish E) Mi σ H s):Inv X Mi σ H s:=⟨I.ok.unwish,I.os,I.bare,I.base,I.loc,I.cell,I.free,I.freeC,I.pin,I.hok,I.len⟩
end
section
variable{X:Cx}{st:Ji}{rest:List Ji}{t u:TS}{e:Expr}{te:TE}{pos:Pos}
abbrev zSa:TS:=fun D σ H=>D.nx σ H
abbrev zSM(t u:TS):TS:=fun D σ H=>t { D with nx:=u D } σ H
theorem zNY:PSs X [] zSa:=fun _ _ σ H _ I h=>Jp ⟨σ,H,I,h⟩
theorem uR(h1:PS X st t)(h2:PSs X rest u):PSs X (st::rest) (zSM t u):=by
 intro Mi s σ H D I h;refine Jq (thn (h1 Mi s σ H { D with nx:=u D } I h) fun f s1 q=>?_)
 cases f with
 | next=>
  obtain⟨σ',H',I',q⟩:=q;exact h2 Mi s1 σ' H' D I' q
 | ret v=>exact q
 | brk=>exact q
 | cont=>exact q
theorem zER(h1:PS X st t):PSs X [st] t:=by
 intro Mi s σ H D I h;refine Jq (thn (h1 Mi s σ H D I h) fun f s1 q=>?_)
 cases f with
 | next=>exact Jp q
 | ret v=>exact q
 | brk=>exact q
 | cont=>exact q
theorem Inv.quiet{Mi:List (Jc×Obj)}{σ:St}{H:Hp}{s:Jb}(I:Inv X Mi σ H s):interactive X.env=false:=by simp[interactive,I.ok.kind]
abbrev zSH(te:TE):TS:=fun D σ H=>te σ H fun _ H1=>D.nx σ H1
theorem zAN(he:PE X e te)(hs:swapsWith e none pos.line X.env=pure false:=by rfl):PS X (.Expr e pos) (zSH te):=by
 intro Mi s σ H D I h;exact wpAny_Expr_any (thn (he Mi s σ H _ I h) fun v s1 ⟨x,H1,I1,r1,q1⟩=>⟨σ,H1,I1,q1⟩) I.quiet hs
abbrev zSX(te:TE):TS:=fun D σ H=>te σ H D.rt
theorem zFK(he:PE X e te):PS X (.Return (some e) pos) (zSX te):=by
 intro Mi s σ H D I h;exact wpAny_Return_some (thn (he Mi s σ H _ I h) fun v s1 ⟨x,H1,I1,r1,q1⟩=>⟨x,σ,H1,I1,r1,q1⟩)
abbrev zTC(c:TT)(t u:TS):TS:=fun D σ H=>c σ H fun b H1=>if b=true then t D σ H1 else u D σ H1
theorem zRX{c:Expr}{a b:List Ji}{tc:TT}(hc:PT X c tc)(ha:PSs X a t)(hb:PSs X b u):PS X (.If c a b pos) (zTC tc t u):=by
 intro Mi s σ H D I h;refine wpAny_If (thn (hc Mi s σ H _ I h) fun d s1 ⟨H1,I1,q1⟩=>?_)
 cases d with
 | true=>exact ha Mi s1 σ H1 D I1 q1
 | false=>exact hb Mi s1 σ H1 D I1 q1
end
abbrev TG:=V->St->Hp->(St->Hp->Prop)->Prop
abbrev TGs:=List V->St->Hp->(St->Hp->Prop)->Prop
def PG(X:Cx)(target:Expr)(t:TG):Prop:=
 ∀(Mi:List (Jc×Obj))(s:Jb)(σ:St)(H:Hp)(v:V)(u:Ja)(Q:St->Hp->Prop),Inv X Mi σ H s->dH v u->t v σ H Q->
  wpAny (model X.prog X.w) X.A (assign target X.env u) (fun _ s'=>∃ σ' H',Inv X Mi σ' H' s'/\Q σ' H') X.xe s
def PGs(X:Cx)(ts:List Expr)(t:TGs):Prop:=
 ∀(Mi:List (Jc×Obj))(s:Jb)(σ:St)(H:Hp)(vs:List V)(us:List Ja)(Q:St->Hp->Prop),Inv X Mi σ H s->dS vs us->t vs σ H Q->
  wpAny (model X.prog X.w) X.A (assignInOrder ((assignEach ts X.env).map (·.2)) us) (fun _ s'=>∃ σ' H',Inv X Mi σ' H' s'/\Q σ' H') X.xe s
abbrev zSy:=V->V->V->Hp->(Hp->Prop)->Prop
def zTi(X:Cx)(t:zSy):Prop:=
 ∀(Mi:List (Jc×Obj))(s:Jb)(σ:St)(H:Hp)(o i v:V)(ov iv u:Ja)(Q:Hp->Prop),Inv X Mi σ H s->dH o ov->dH i iv->dH v u->t o i v H Q->
  wpAny (model X.prog X.w) X.A (setItem ov iv u) (fun _ s'=>∃ H',Inv X Mi σ H' s'/\Q H') X.xe s
abbrev TIp:=V->V->Hp->VK->Prop
def PIp(X:Cx)(op:Operator)(t:TIp):Prop:=
 ∀(Mi:List (Jc×Obj))(s:Jb)(σ:St)(H:Hp)(x y:V)(v u:Ja)(Q:VK),Inv X Mi σ H s->dH x v->dH y u->t x y H Q->
  wpAny (model X.prog X.w) X.A (inplaceOp op v u) (EP X Mi σ Q) X.xe s
section
variable{X:Cx}{pos:Pos}
abbrev gName(i:Nat):TG:=fun v σ H Q=>Q (σ.set i (some v)) H
theorem zDS{i:Nat}{x:Str}(hN:X.N.Nodup)(hi:X.N[i]?=some x)(hx:Loc X.env.scope x)(hf:X.fn x=true∨X.env.scope.names.lookup x=some .local:=by first | exact .inl rfl | exact .inr rfl | assumption):PG X (.Name x pos) (gName i):=by
 intro Mi s σ H v u Q I r h;exact Jr (oD I hN hi hx r (fun s' I'=>⟨_,H,I',h⟩) hf)
def zHp:TGs:=fun vs σ H Q=>vs=[]/\Q σ H
def mO(t:TG)(u:TGs):TGs:=fun vs σ H Q=>∃ v r,vs=v::r/\t v σ H fun σ' H'=>u r σ' H' Q
theorem zIh:PGs X [] zHp:=by
 intro Mi s σ H vs us Q I r h;obtain⟨e,h⟩:=h;subst e;cases r;exact assignInOrder_nil ⟨σ,H,I,h⟩
theorem zAD{e:Expr}{es:List Expr}{t:TG}{u:TGs}(h1:PG X e t)(h2:PGs X es u)
  (hs:(assignEach (e::es) X.env).map (·.2)=assign e X.env::(assignEach es X.env).map (·.2):=by rfl):PGs X (e::es) (mO t u):=by
 intro Mi s σ H vs us Q I r h;obtain⟨v,vr,e1,h⟩:=h;subst e1
 cases r with
 | cons r rr=>
  rw[hs];refine assignInOrder_cons (thn (h1 Mi s σ H _ _ _ I r h) fun _ s1 ⟨σ1,H1,I1,q1⟩=>?_)
  exact h2 Mi s1 σ1 H1 _ _ Q I1 rr q1
def zHq(K:PySem.W.Frag)(n:Nat)(t:TGs):TG:=fun v σ H Q=>∃ a xs,v=.ref a/\SqT K H a xs/\xs.length=n/\t xs σ H Q
theorem zMv{es:List Expr}{k:Nat}{t:TGs}{n:Nat}(hc:X.calm=true)(h:PGs X es t)
  (hn:(assignEach es X.env).length=n:=by rfl) (hst:(assignEach es X.env).findIdx? (·.1)=none:=by rfl):PG X (.Tuple es k pos) (zHq X.K n t):=by
 intro Mi s σ H v u Q I r hw;obtain⟨a,xs,e1,hq,hl,hw⟩:=hw;subst e1;cases r;obtain⟨its,rv,ht,hz⟩:=I.tuple hq;refine assign_Tuple_tuple (I.ok.hd hc) ht (by simp[hn,<-hl,rv.length]) hst fun h' hx=>?_
 have I1:Inv X Mi σ H { s with heap:=h' }:=I.kept (t':=s.toks) fun b o e=>hx b o (Qq (Heap.lt_size e)) e
 exact h Mi _ σ H xs _ Q I1 (by simpa using rv) hw
def zTH(to ti:TE)(t:zSy):TG:=fun v σ H Q=>to σ H fun o H1=>ti σ H1 fun i H2=>t o i v H2 fun H3=>Q σ H3
theorem zPq{o i:Expr}{to ti:TE}{t:zSy}(ho:PE X o to)(hi:PE X i ti)(hs:zTi X t)
  (ha:∀ v,assign (.Subscript o i pos) X.env v=(do
   let ov <-holding [v] (eval o X.env)
   let iv <-holding [v,ov] (eval i X.env)
   standAt pos
   holding [v,ov,iv] (setItem ov iv v)
   release [v,ov,iv] []):=by intro _;rfl):PG X (.Subscript o i pos) (zTH to ti t):=by
 intro Mi s σ H v u Q I r h;rw[ha];refine Js (wpAny_holding (thn (ho Mi s σ H _ I h) fun ov s1 ⟨x,H1,I1,r1,q1⟩=>?_))
 refine Js (wpAny_holding (thn (hi Mi s1 σ H1 _ I1 q1) fun iv s2 ⟨y,H2,I2,r2,q2⟩=>?_))
 refine Js (wpAny_standAt (Js (wpAny_holding (thn (hs Mi s2 σ H2 x y v ov iv u _ I2 r1 r2 r q2) fun _ s3 ⟨H3,I3,q3⟩=>?_))))
 exact wpAny_release ⟨σ,H3,I3,q3⟩
abbrev zRR(te:TE)(g:TG):TS:=fun D σ H=>te σ H fun x H1=>g x σ H1 D.nx
theorem zMg{tg e:Expr}{te:TE}{g:TG}(he:PE X e te)(hg:PG X tg g)(hs:swapsWithSole [tg] e pos.line X.env=pure false:=by rfl)(hw:swappedStores [tg] e X.env=pure none:=by rfl)
  (h1:(assignEach [tg] X.env).map (·.2)=[assign tg X.env]:=by rfl):PS X (.Assign [tg] e pos) (zRR te g):=by
 intro Mi s σ H D I h;refine wpAny_Assign_stores (thn (he Mi s σ H _ I h) fun v s1 ⟨x,H1,I1,r1,q1⟩=>?_) hs hw
 rw[h1];exact thn (hg Mi s1 σ H1 x v _ I1 r1 q1) fun _ s2 q=>q
theorem zLR{i:Nat}{x:Str}{e:Expr}{te:TE}{pos':Pos}(hN:X.N.Nodup)(hi:X.N[i]?=some x)(hx:Loc X.env.scope x)(he:PE X e te)(hs:swapsWith e (some (.Name x pos')) pos.line X.env=pure false:=by rfl)(hf:X.fn x=true∨X.env.scope.names.lookup x=some .local:=by first | exact .inl rfl | exact .inr rfl | assumption):
  PS X (.Assign [.Name x pos'] e pos) (zRR te (gName i)):=by
 intro Mi s σ H D I h;refine Ju (thn (he Mi s σ H _ I h) fun v s1 ⟨y,H1,I1,r1,q1⟩=>?_) hs
 exact oD I1 hN hi hx r1 (fun s2 I2=>⟨_,H1,I2,q1⟩) hf
abbrev zTA(i:Nat)(te:TE)(ti:TIp):TS:=fun D σ H=>∃ x,σ[i]?=some (some x)/\te σ H fun y H1=>ti x y H1 fun z H2=>D.nx (σ.set i (some z)) H2
theorem zPK{i:Nat}{x:Str}{e:Expr}{te:TE}{op:Operator}{ti:TIp}{pos':Pos}(hN:X.N.Nodup)(hi:X.N[i]?=some x)(hx:Loc X.env.scope x)(he:PE X e te)(ho:PIp X op ti)(hf:X.fn x=true∨X.env.scope.names.lookup x=some .local:=by first | exact .inl rfl | exact .inr rfl | assumption):
  PS X (.AugAssign (.Name x pos') op e pos) (zTA i te ti):=by
 intro Mi s σ H D I h;obtain⟨v,e1,h⟩:=h;obtain⟨m,hn,hl⟩:=I.loc;have vis:Vis X.env.scope x:=by rcases hx with k | k;exact .inl k;exact .inr (.inl k)
 obtain⟨u,r,l⟩:=hl i x v hi e1 vis;refine wpAny_AugAssign_Name ?_
 have go:wpAny (model X.prog X.w) X.A (eval e X.env) (fun w s₂=>wpAny (model X.prog X.w) X.A (inplaceOp op u w) (fun r s₃=>wpAny (model X.prog X.w) X.A (storeName X.env x r) (fun _=>SP X Mi D .next) X.xe s₃) X.xe s₂) X.xe s:=by
  refine thn (he Mi s σ H _ I h) fun w s1 ⟨y,H1,I1,r1,q1⟩=>?_
  refine thn (ho Mi s1 σ H1 v y u w _ I1 r r1 q1) fun z s2 ⟨zv,H2,I2,r2,q2⟩=>?_
  exact oD I2 hN hi hx r2 (fun s3 I3=>⟨_,H2,I3,q2⟩) hf
 rcases l with⟨hk,hm⟩ | ⟨hk,c,hc,hcell⟩
 ·exact wpAny_loadName_local I.ok.kind hk hn hm go
 ·rcases hk with hk | hk
  ·exact wpAny_loadName_cell I.ok.kind hk hc hcell go
  ·rcases hx with k | k
   ·have:X.env.scope.names.lookup x=some .free:=hk
    rw[k] at this;cases this
   ·have:X.env.scope.names.lookup x=some .free:=hk
    rw[k] at this;cases this
def ipI(f:Int->Int->Int):TIp:=fun x y H Q=>∃ i j,x=.int i/\y=.int j/\Q (.int (f i j)) H
theorem zFZ:PIp X .Add (ipI fun i j=>i+j):=by
 intro Mi s σ H x y v u Q I r1 r2 h;obtain⟨i,j,e1,e2,q⟩:=h;subst e1;subst e2
 obtain⟨t,rfl⟩:=r1;obtain⟨t',rfl⟩:=r2;exact iadd_int ⟨.int _,H,I.tok _,⟨_,rfl⟩,q⟩
theorem zMK:PIp X .Sub (ipI fun i j=>i-j):=by
 intro Mi s σ H x y v u Q I r1 r2 h;obtain⟨i,j,e1,e2,q⟩:=h;subst e1;subst e2
 obtain⟨t,rfl⟩:=r1;obtain⟨t',rfl⟩:=r2;exact isub_int ⟨.int _,H,I.tok _,⟨_,rfl⟩,q⟩
end
section
variable{X:Cx}{pos:Pos}
def zRo(c:TT)(tb:TS):TS:=fun D σ H=>∃ W:Nat->St->Hp->Prop,(∃ m,W m σ H)/\∀ m σ H,W m σ H->
 c σ H fun b H1=>if b=true then ∃ N:St->Hp->Prop,(∀ σ' H',N σ' H'->∃ m',m' < m/\W m' σ' H')/\tb { D with nx:=N,ct:=N,bk:=D.nx } σ H1 else D.nx σ H1
theorem zLb{c:Expr}{body:List Ji}{tc:TT}{tb:TS}(hp:PassesOwn (model X.prog X.w) X.A X.env X.xe)(hc:PT X c tc)(hb:PSs X body tb):PS X (.While c body [] pos) (zRo tc tb):=by
 intro Mi s σ H D I h;obtain⟨W,⟨m0,w0⟩,turn⟩:=h;refine wpAny_While (codeAny_whileLoop (fun n s'=>∃ σ' H',Inv X Mi σ' H' s'/\W n σ' H') ?_ m0 ⟨σ,H,I,w0⟩)
 rintro n s1 ⟨σ1,H1,I1,w1⟩
 refine Jv hp (thn (hc Mi s1 σ1 H1 _ I1 (turn n σ1 H1 w1)) fun b s2 ⟨H2,I2,q2⟩=>?_)
 cases b with
 | true=>
  obtain⟨N,hN,q2⟩:=q2;rw[Jk rfl];refine Jv hp (thn (hb Mi s2 σ1 H2 _ I2 q2) fun f s3 q3=>?_)
  cases f with
  | next=>
   obtain⟨σ3,H3,I3,n3⟩:=q3;obtain⟨m',hm,w3⟩:=hN σ3 H3 n3;exact⟨m',hm,σ3,H3,I3,w3⟩
  | cont=>
   obtain⟨σ3,H3,I3,n3⟩:=q3;obtain⟨m',hm,w3⟩:=hN σ3 H3 n3;exact⟨m',hm,σ3,H3,I3,w3⟩
  | brk=>exact q3
  | ret v=>exact q3
 | false=>
  rw[Jl X7];exact Jp ⟨σ1,H2,I2,q2⟩
end
structure It where
 go:Nat->Hp->Prop
 yld:Nat->Hp->V->Hp->Prop
 stop:Nat->Hp->Prop
def uI(X:Cx)(Mi:List (Jc×Obj))(H:Hp)(b:Jc):Prop:=
 H b=none/\b≠X.env.locals/\b∉X.fs/\(b∈X.ex∨X.s₀.heap.objs.size<=b)/\(∀ x c,X.env.cells.lookup x=some c->c≠b)/\∀ p∈X.pn++Mi,p.1≠b
theorem Inv.fpOk{X:Cx}{Mi:List (Jc×Obj)}{σ:St}{H H':Hp}{s:Jb}{b:Jc}(I:Inv X Mi σ H s)(hb:s.heap.objs.size<=b)(hn:H' b=none):uI X Mi H' b:=by
 refine⟨hn,Y4 (Qn I.lt hb),I.nofs hb,.inr (Q5 I.sz hb),fun x c e z=>?_,fun p hp z=>?_⟩
 ·obtain⟨v,q⟩:=I.cell x c e
  exact absurd (Qn q.lt (by rw[z];exact hb)) (Xb _)
 ·exact absurd (Qn (Heap.lt_size (I.pin p hp).1) (by rw[z];exact hb)) (Xb _)
structure Turn (P:Jf) (w:Jg) (K:PySem.W.Frag) (tg:Expr) (J:It) (fp:List Jc) (it:Jc) (tn:Nat->Je->Prop):Prop where
 mem:it∈fp
 obj:∀ i h,tn i h->∀ b∈fp,∃ o,h.get? b=some o/\∀ v,o.data≠.cell v
 keep:∀ i h h',tn i h->(∀ b∈fp,∀ o,h.get? b=some o->h'.get? b=some o)->tn i h'
 item:∀(X:Cx),X.prog=P->X.w=w->X.K=K->X.calm=true->∀(i:Nat)(Mi:List (Jc×Obj))(s:Jb)(σ:St)(H:Hp)(E:Ja->Jb->Prop),Inv X Mi σ H s->(∀ b∈fp,uI X Mi H b)->tn i s.heap->J.go i H->
  wpAny (model P w) X.A (pyNext (.ref it)) (fun r s1=>∃ u,r=some u/\
   wpAny (model P w) X.A (letOwnedTupleGo tg (.ref it) u) (fun _ s2=>∃ x H',Inv X Mi σ H' s2/\dH x u/\J.yld i H x H'/\tn (i+1) s2.heap/\∀ b∈fp,H' b=none) E s1) E s
 done:∀(X:Cx),X.prog=P->X.w=w->X.K=K->X.calm=true->∀(i:Nat)(Mi:List (Jc×Obj))(s:Jb)(σ:St)(H:Hp)(E:Ja->Jb->Prop),Inv X Mi σ H s->(∀ b∈fp,uI X Mi H b)->tn i s.heap->J.stop i H->
  wpAny (model P w) X.A (pyNext (.ref it)) (fun r s1=>r=none/\Inv X Mi σ H s1) E s
 self:∀(A:Jh)(i:Nat)(s:Jb)(Q:Ja->Jb->Prop)(E:Ja->Jb->Prop),tn i s.heap->Q (.ref it) s->wpAny (model P w) A (pyIter (.ref it)) Q E s
abbrev TI:=St->Hp->(It->Hp->Prop)->Prop
def PIE(X:Cx)(Mi:List (Jc×Obj))(σ:St)(tg:Expr)(R:It->Hp->Prop)(itv:Ja)(s2:Jb):Prop:=
 ∃(it:Jc)(fp:List Jc)(tn:Nat->Je->Prop)(J:It)(H':Hp),itv=.ref it/\Inv X Mi σ H' s2/\Turn X.prog X.w X.K tg J fp it tn/\tn 0 s2.heap/\(∀ b∈fp,uI X Mi H' b)/\R J H'
def PI(X:Cx)(tg iter:Expr)(wi:TI):Prop:=
 ∀(Mi:List (Jc×Obj))(s:Jb)(σ:St)(H:Hp)(R:It->Hp->Prop),Inv X Mi σ H s->wi σ H R->
  wpAny (model X.prog X.w) X.A (eval iter X.env) (fun v s1=>wpAny (model X.prog X.w) X.A (pyIter v) (PIE X Mi σ tg R) X.xe s1) X.xe s
theorem zKN{M:Model}{A:Jh}{E:Ja->Jb->Prop}{s:Jb}{tg:Expr}{it:Jc}{u:Ja}{o:Obj}{n:String}{vs:Array Ja}{Q:Unit->Jb->Prop}(ho:s.heap.get? it=some o)(hc:o.cls=.type n)(hd:o.data=.fields vs)
    (hn:["enumerate","zip","dict_itemiterator","dict_reverseitemiterator","odict_iterator","itertools.zip_longest","itertools.pairwise"].contains n=false) (hQ:Q () s):wpAny M A (letOwnedTupleGo tg (.ref it) u) Q E s:=by
  unfold letOwnedTupleGo
  cases tg<;>first
    | exact Jw hQ
    | (cases u<;>first
        | exact Jw hQ
        | (refine Js (wpAny_load ho ?_)
           rw[hc,hd];show wpAny M A (if (["enumerate","zip","dict_itemiterator","dict_reverseitemiterator","odict_iterator","itertools.zip_longest","itertools.pairwise"].contains n && vs[0]?==some (rawInt _))=true then _ else _) Q E s
           rw[Jl (by intro h;rw[hn,Bool.false_and] at h;cases h)]
           exact Jw hQ))
def Itl(K:PySem.W.Frag)(a:Jc):It:=
 ⟨fun i H=>∃ xs x,SqL K H a xs/\xs[i]?=some x,fun i H x H'=>H'=H/\∀ xs,SqL K H a xs->xs[i]?=some x,fun i H=>∃ xs,SqL K H a xs/\xs.length<=i⟩
def Itt(K:PySem.W.Frag)(a:Jc):It:=
 ⟨fun i H=>∃ xs x,SqT K H a xs/\xs[i]?=some x,fun i H x H'=>H'=H/\∀ xs,SqT K H a xs->xs[i]?=some x,fun i H=>∃ xs,SqT K H a xs/\xs.length<=i⟩
def Itr(lo:Int)(n:Nat):It:=⟨fun i _=>i<n,fun i H x H'=>H'=H/\x=.int (lo+i),fun i _=>n<=i⟩
theorem zCB{P:Jf}{w:Jg}{K:Fg_}{tg:Expr}(a it:Jc):Turn P w K tg (Itl K a) [it] it (fun i h=>h.IsListIter it a i) where
 mem:=by simp
 obj:=fun i h st b hb=>by
  have e:b=it:=by simpa using hb
  subst e;obtain⟨o,e,c,d⟩:=st;exact⟨o,e,fun v z=>by rw[d] at z;cases z⟩
 keep:=fun i h h' st k=>st.at fun o e=>k it (by simp) o e
 item:=by
  intro X hP hw hK hc i Mi s σ H E I hf st hg;subst hP hw hK;obtain⟨xs,x,hq,hx⟩:=hg;obtain⟨its,rv,p,hz⟩:=I.list hq;obtain⟨u,hu,ru⟩:=rv.get hx;obtain⟨f0,f1,f2,f3,f4,f5⟩:=hf it (by simp)
  refine wpAny_pyNext_list_item st p.isList (x:=u) (by simpa using hu) fun h' st' sb=>?_
  have I1:Inv X Mi σ H { s with heap:=h' }:=I.turned (t':=s.toks) (fun b o hb e=>(sb.2 b hb).trans e) f0 f1 f3 f4 f5
  obtain⟨o,e,c,d⟩:=id st';exact⟨u,rfl,zKN (s:={ s with heap:=h' }) e c d (by decide) ⟨x,H,I1,ru,⟨rfl,fun ys hy=>by rw[I.list_inj hy hq];exact hx⟩,st',fun b hb=>(hf b hb).1⟩⟩
 done:=by
  intro X hP hw hK hc i Mi s σ H E I hf st hg;subst hP hw hK;obtain⟨xs,hq,hx⟩:=hg;obtain⟨its,rv,p,hz⟩:=I.list hq;obtain⟨f0,f1,f2,f3,f4,f5⟩:=hf it (by simp)
  have hl:=rv.length;exact wpAny_pyNext_list_end (I.ok.hd hc) st p.isList (by simp;omega) fun h' eb=>⟨rfl,I.turned (t':=s.toks) (fun b o hb e=>eb b o hb e) f0 f1 f3 f4 f5⟩
 self:=fun _ _ _ _ _ st h=>wpAny_pyIter_listiter st h
theorem zGv{P:Jf}{w:Jg}{K:Fg_}{tg:Expr}(a it:Jc):Turn P w K tg (Itt K a) [it] it (fun i h=>h.IsTupleIter it a i) where
 mem:=by simp
 obj:=fun i h st b hb=>by
  have e:b=it:=by simpa using hb
  subst e;obtain⟨o,e,c,d⟩:=st;exact⟨o,e,fun v z=>by rw[d] at z;cases z⟩
 keep:=fun i h h' st k=>st.at fun o e=>k it (by simp) o e
 item:=by
  intro X hP hw hK hc i Mi s σ H E I hf st hg;subst hP hw hK;obtain⟨xs,x,hq,hx⟩:=hg;obtain⟨its,rv,p,hz⟩:=I.tuple hq;obtain⟨u,hu,ru⟩:=rv.get hx;obtain⟨f0,f1,f2,f3,f4,f5⟩:=hf it (by simp)
  refine wpAny_pyNext_tuple_item st (show s.heap.IsTuple a its.toArray from p) (x:=u) (by simpa using hu) fun h' st' sb=>?_
  have I1:Inv X Mi σ H { s with heap:=h' }:=I.turned (t':=s.toks) (fun b o hb e=>(sb.2 b hb).trans e) f0 f1 f3 f4 f5
  obtain⟨o,e,c,d⟩:=id st';exact⟨u,rfl,zKN (s:={ s with heap:=h' }) e c d (by decide) ⟨x,H,I1,ru,⟨rfl,fun ys hy=>by rw[I.tuple_inj hy hq];exact hx⟩,st',fun b hb=>(hf b hb).1⟩⟩
 done:=by
  intro X hP hw hK hc i Mi s σ H E I hf st hg;subst hP hw hK;obtain⟨xs,hq,hx⟩:=hg;obtain⟨its,rv,p,hz⟩:=I.tuple hq;obtain⟨f0,f1,f2,f3,f4,f5⟩:=hf it (by simp)
  have hl:=rv.length;exact wpAny_pyNext_tuple_end (I.ok.hd hc) st (show s.heap.IsTuple a its.toArray from p) (by simp;omega) fun h' eb=>⟨rfl,I.turned (t':=s.toks) (fun b o hb e=>eb b o hb e) f0 f1 f3 f4 f5⟩
 self:=fun _ _ _ _ _ st h=>wpAny_pyIter_tupleiter st h
theorem zGY{P:Jf}{w:Jg}{K:Fg_}{tg:Expr}(it:Jc)(lo:Int)(n:Nat):Turn P w K tg (Itr lo n) [it] it (fun i h=>IsRangeIter h it (lo+(i:Nat)*1) ((n:Int)-(i:Nat)) 1) where
 mem:=by simp
 obj:=fun i h st b hb=>by
  have e:b=it:=by simpa using hb
  subst e
  exact⟨_,st,fun v z=>by
   have z':Data.fields _=Data.cell v:=z
   cases z'⟩
 keep:=fun i h h' st k=>k it (by simp) _ st
 item:=by
  intro X hP hw hK hc i Mi s σ H E I hf st hg;subst hP hw hK;obtain⟨f0,f1,f2,f3,f4,f5⟩:=hf it (by simp)
  have W:=Walks.range (prog:=X.prog) (w:=X.w) (I.ok.hd hc) it lo 1 n;refine W.item i s _ _ hg st fun v h' tk hv st' kk=>?_
  obtain⟨t,rfl⟩:=hv;have I1:Inv X Mi σ H { s with heap:=h',toks:=tk }:=I.turned (fun b o hb e=>kk b o (by simpa using hb) e) f0 f1 f3 f4 f5
  refine⟨_,rfl,zKN (s:={ s with heap:=h',toks:=tk }) (n := "range_iterator") st' rfl rfl (by decide) ⟨.int (lo+i),H,I1,⟨t,?_⟩,⟨rfl,rfl⟩,st',fun b hb=>(hf b hb).1⟩⟩
  rw[Vt]
 done:=by
  intro X hP hw hK hc i Mi s σ H E I hf st hg;subst hP hw hK;obtain⟨f0,f1,f2,f3,f4,f5⟩:=hf it (by simp)
  exact wpAny_pyNext_range_end (I.ok.hd hc) st (by have:n<=i:=hg;omega) fun h' eb=>⟨rfl,I.turned (t':=s.toks) (fun b o hb e=>eb b o hb e) f0 f1 f3 f4 f5⟩
 self:=fun _ _ _ _ _ st h=>wpAny_pyIter_rangeiter st h
section
variable{X:Cx}{tg:Expr}
abbrev zSq(K:PySem.W.Frag)(tl:TE):TI:=fun σ H R=>tl σ H fun x H1=>∃ a,x=.ref a/\(∃ xs,SqL K H1 a xs)/\R (Itl K a) H1
theorem zOv{l:Expr}{tl:TE}(hl:PE X l tl):PI X tg l (zSq X.K tl):=by
 intro Mi s σ H R I h;refine thn (hl Mi s σ H _ I h) fun v s1 ⟨x,H1,I1,r1,q1⟩=>?_
 obtain⟨a,e,⟨xs,hq⟩,q⟩:=q1;subst e;cases r1;obtain⟨its,rv,p,hz⟩:=I1.list hq;refine wpAny_pyIter_list p.isList ?_
 refine⟨s1.heap.objs.size,[s1.heap.objs.size],_,_,H1,rfl,I1.kept (t':=s1.toks) fun b o e=>Heap.get?_push_of_some _ e,zCB a _,⟨_,Heap.get?_push_size _ rfl,rfl,rfl⟩,fun b hb=>?_,q⟩
 have e:b=s1.heap.objs.size:=by simpa using hb
 subst e;exact I1.fpOk (Qh _) (I1.hok.fresh (Qh _))
theorem zFm{Mi:List (Jc×Obj)}{σ:St}{H:Hp}{s:Jb}{R:It->Hp->Prop}{E:Ja->Jb->Prop}{lo hi:Int}{t u v:Tok}{tk:Nat}(I:Inv X Mi σ H s)(h1:-(2^62)<=lo)(h2:lo<2^62)(h3:-(2^62)<=hi)(h4:hi<2^62)
  (q:R (Itr lo (hi-lo).toNat) H):wpAny (model X.prog X.w) X.A (pyIter (.ref s.heap.objs.size)) (PIE X Mi σ tg R) E { s with heap:=s.heap.push { cls:=.type "range", data:=.fields #[.int lo t,.int hi u,.int 1 v] },toks:=tk }:=by
 refine wpAny_pyIter_range (IsRange.new ..) (small_one h1 h2 h3 h4) ?_
 have I1:Inv X Mi σ H { s with heap:=s.heap.push { cls:=.type "range", data:=.fields #[.int lo t,.int hi u,.int 1 v] },toks:=tk }:=I.kept fun b o e=>Heap.get?_push_of_some _ e
 refine⟨(s.heap.push { cls:=.type "range", data:=.fields #[.int lo t,.int hi u,.int 1 v] }).objs.size,[(s.heap.push { cls:=.type "range", data:=.fields #[.int lo t,.int hi u,.int 1 v] }).objs.size],_,_,H,rfl,
  I1.kept (t':=tk) fun b o e=>Heap.get?_push_of_some _ e,zGY _ lo (hi-lo).toNat,?_,fun b hb=>?_,q⟩
 ·have e1:lo+((0:Nat):Int)*1=lo:=by simp
  have e2:(((hi-lo).toNat:Nat):Int)-((0:Nat):Int)=Builtin.Range.rangeSize lo hi 1:=by rw[rangeSize_one];split<;>omega
  show IsRangeIter _ _ (lo+((0:Nat):Int)*1) ((((hi-lo).toNat:Nat):Int)-((0:Nat):Int)) 1
  rw[e1,e2];exact Heap.get?_push_size _ rfl
 ·have e:b=(s.heap.push { cls:=.type "range", data:=.fields #[.int lo t,.int hi u,.int 1 v] }).objs.size:=by simpa using hb
  subst e;exact I1.fpOk (Qh _) (I1.hok.fresh (Qh _))
abbrev zDT(ta:TA):TI:=fun σ H R=>ta σ H fun vs H1=>∃ j:Int,vs=[.int j]/\-(2^62)<=j/\j<2^62/\R (Itr 0 j.toNat) H1
abbrev zIw(ta:TA):TI:=fun σ H R=>ta σ H fun vs H1=>∃ i j:Int,vs=[.int i,.int j]/\(-(2^62)<=i/\i<2^62/\-(2^62)<=j/\j<2^62)/\R (Itr i (j-i).toNat) H1
theorem zIy{a:Expr}{ta:TA}{p pos:Pos}(hg:Gl X "range")(hm:X.mg "range" = none)(ha:PA X [a] ta)(hs:starEach [a] X.env=[(false,eval a X.env)]:=by rfl):PI X tg (.Call (.Name "range" p) [a] [] pos) (zDT ta):=by
 intro Mi s σ H R I h;refine Call_ (rL I hg hm Jx (X8 (thn (ha pos Mi s σ H _ I h) fun us s1 ⟨vs,H1,I1,r1,q1⟩=>?_) hs rfl))
 obtain⟨j,e,q1,q2,q⟩:=q1;subst e
 cases r1 with
 | cons r rr=>
  cases rr;obtain⟨t,rfl⟩:=r;exact call_range_1 (zFm I1 (by omega) (by omega) q1 q2 (by simpa using q))
theorem zHy{a b:Expr}{ta:TA}{p pos:Pos}(hg:Gl X "range")(hm:X.mg "range" = none)(ha:PA X [a,b] ta)(hs:starEach [a,b] X.env=[(false,eval a X.env),(false,eval b X.env)]:=by rfl)(hs2:starEach [b] X.env=[(false,eval b X.env)]:=by rfl):
  PI X tg (.Call (.Name "range" p) [a,b] [] pos) (zIw ta):=by
 intro Mi s σ H R I h;refine Call_ (rL I hg hm Jx (X8 (thn (ha pos Mi s σ H _ I h) fun us s1 ⟨vs,H1,I1,r1,q1⟩=>?_) (by rw[hs,hs2]) (by rw[hs2];rfl)))
 obtain⟨i,j,e,⟨q1,q2,q3,q4⟩,q⟩:=q1;subst e
 cases r1 with
 | cons r rr=>
  cases rr with
  | cons r' rr=>
   cases rr;obtain⟨t,rfl⟩:=r;obtain⟨t',rfl⟩:=r';exact call_range_2 (zFm I1 q1 q2 q3 q4 q)
abbrev zTg(wi:TI)(g:TG)(tb:TS):TS:=fun D σ H=>wi σ H fun J H1=>∃ W:Nat->Nat->St->Hp->Prop,(∃ m,W 0 m σ H1)/\∀ i m σ H,W i m σ H->
 (J.stop i H/\D.nx σ H)∨(J.go i H/\∃ N:St->Hp->Prop,(∀ σ' H',N σ' H'->∃ m',m' < m/\W (i+1) m' σ' H')/\∀ x H',J.yld i H x H'->g x σ H' fun σ2 H2=>tb { D with nx:=N,ct:=N,bk:=D.nx } σ2 H2)
def vG(fp:List Jc)(h:Je):List (Jc×Obj):=fp.filterMap fun b=>(h.get? b).map fun o=>(b,o)
theorem fO{fp:List Jc}{h:Je}{b:Jc}{o:Obj}(hb:b∈fp)(e:h.get? b=some o):(b,o)∈vG fp h:=Um.mpr ⟨b,hb,by rw[e];rfl⟩
theorem zIm{fp:List Jc}{h:Je}{p:Jc×Obj}(hp:p∈vG fp h):p.1∈fp/\h.get? p.1=some p.2:=by
 obtain⟨b,hb,e⟩:=Um.mp hp
 cases q:h.get? b with
 | none=>rw[q] at e;cases e
 | some o=>
  rw[q] at e;have e':(b,o)=p:=Vj e;subst e';exact⟨hb,q⟩
theorem Inv.pinned{Mi:List (Jc×Obj)}{σ:St}{H:Hp}{s:Jb}{fp:List Jc}(I:Inv X Mi σ H s)(hf:∀ b∈fp,uI X Mi H b)(ho:∀ b∈fp,∃ o,s.heap.get? b=some o/\∀ v,o.data≠.cell v):Inv X (Mi++vG fp s.heap) σ H s:=
 I.pins_of fun p hp=>(Va.mp hp).elim (fun z=>I.pin p (Q2 _ z)) fun z=>by
  obtain⟨hb,e⟩:=zIm z;obtain⟨f0,f1,f2,_⟩:=hf p.1 hb;obtain⟨o,e',d⟩:=ho p.1 hb;rw[e] at e';cases e'
  exact⟨e,f0,f1,f2,d⟩
theorem Inv.unpinned{Mi pl:List (Jc×Obj)}{σ:St}{H:Hp}{s:Jb}(I:Inv X (Mi++pl) σ H s):Inv X Mi σ H s:=I.pins_of fun p hp=>I.pin p (Q2 _ (Xo _ hp))
theorem zMk{iter:Expr}{body:List Ji}{wi:TI}{g:TG}{tb:TS}{pos:Pos}(hp:PassesOwn (model X.prog X.w) X.A X.env X.xe)(hc:X.calm=true)(hi:PI X tg iter wi)(hg:PG X tg g)(hb:PSs X body tb)
  (hs:∀ x,foldedSetIterable iter X.env x=pure x:=by intro _;rfl):PS X (.For tg iter body [] pos) (zTg wi g tb):=by
 intro Mi s σ H D I h;refine wpAny_For (thn (hi Mi s σ H _ I h) fun v s1 h1=>thn h1 fun itv s2 h2=>?_) hs
 obtain⟨it,fp,tn,J,H2,e,I2,T,st2,f2,W,⟨m0,w0⟩,turn⟩:=h2;subst e;have stat:∀ {H':Hp},(∀ b∈fp,H' b=none)->∀ b∈fp,uI X Mi H' b:=fun hn b hb=>⟨hn b hb,(f2 b hb).2⟩
 refine codeAny_forLoop_any (fun n s'=>∃ i σ' H',Inv X Mi σ' H' s'/\tn i s'.heap/\(∀ b∈fp,H' b=none)/\W i n σ' H') ?_ m0 ⟨0,σ,H2,I2,st2,fun b hb=>(f2 b hb).1,w0⟩
 rintro n s3 ⟨i,σ3,H3,I3,st3,fr3,w3⟩
 rcases turn i n σ3 H3 w3 with⟨stop,qn⟩ | ⟨go,N,hN,step⟩
 ·refine Jv hp (thn (T.done X rfl rfl rfl hc i Mi s3 σ3 H3 X.xe I3 (stat fr3) st3 stop) fun r s4 ⟨hr,I4⟩=>?_)
  subst hr;exact Jp ⟨σ3,H3,I4,qn⟩
 ·refine Jv hp (thn (T.item X rfl rfl rfl hc i Mi s3 σ3 H3 X.xe I3 (stat fr3) st3 go) fun r s4 ⟨u,hr,h4⟩=>?_)
  subst hr;refine Jv hp (thn h4 fun _ s5 ⟨x,H5,I5,r5,y5,st5,fr5⟩=>?_)
  have I5':=I5.pinned (stat fr5) (T.obj _ _ st5);refine Jv hp (thn (hg _ s5 σ3 H5 x u _ I5' r5 (step x H5 y5)) fun _ s6 ⟨σ6,H6,I6,q6⟩=>?_)
  refine Jv hp (thn (hb _ s6 σ6 H6 _ I6 q6) fun f s7 q7=>?_)
  have again:∀ {σ7:St} {H7:Hp},Inv X (Mi++vG fp s5.heap) σ7 H7 s7->N σ7 H7->∃ m,m<n/\∃ i σ' H',Inv X Mi σ' H' s7/\tn i s7.heap/\(∀ b∈fp,H' b=none)/\W i m σ' H':=fun {σ7 H7} I7 n7=>by
   obtain⟨m',hm,w7⟩:=hN σ7 H7 n7;refine⟨m',hm,i+1,σ7,H7,I7.unpinned,T.keep _ _ _ st5 fun b hb o e=>(I7.pin (b,o) (Q2 _ (Q2 _ (fO hb e)))).1,fun b hb=>?_,w7⟩
   obtain⟨o,e,d⟩:=T.obj _ _ st5 b hb;exact(I7.pin (b,o) (Q2 _ (Q2 _ (fO hb e)))).2.1
  cases f with
  | next=>obtain⟨σ7,H7,I7,n7⟩:=q7;exact again I7 n7
  | cont=>obtain⟨σ7,H7,I7,n7⟩:=q7;exact again I7 n7
  | brk=>obtain⟨σ7,H7,I7,q7⟩:=q7;exact⟨σ7,H7,I7.unpinned,q7⟩
  | ret v=>obtain⟨x7,σ7,H7,I7,r7,q7⟩:=q7;exact⟨x7,σ7,H7,I7.unpinned,r7,q7⟩
end
abbrev R2:=V->V->Hp->VK->Prop
def OpR(X:Cx)(f:Ja->Ja->Sem Ja)(r:R2):Prop:=
 ∀(Mi:List (Jc×Obj))(s:Jb)(σ:St)(H:Hp)(x y:V)(v u:Ja)(Q:VK),Inv X Mi σ H s->dH x v->dH y u->r x y H Q->
  wpAny (model X.prog X.w) X.A (f v u) (EP X Mi σ Q) X.xe s
def UnR(X:Cx)(f:Ja->Sem Ja)(r:V->Hp->VK->Prop):Prop:=
 ∀(Mi:List (Jc×Obj))(s:Jb)(σ:St)(H:Hp)(x:V)(v:Ja)(Q:VK),Inv X Mi σ H s->dH x v->r x H Q->
  wpAny (model X.prog X.w) X.A (f v) (EP X Mi σ Q) X.xe s
def qC(X:Cx)(f:Ja)(r:List V->Hp->VK->Prop):Prop:=
 ∀(Mi:List (Jc×Obj))(s:Jb)(σ:St)(H:Hp)(xs:List V)(us:List Ja)(Q:VK),Inv X Mi σ H s->dS xs us->r xs H Q->
  wpAny (model X.prog X.w) X.A (call f us) (EP X Mi σ Q) X.xe s
abbrev tOp(r:R2)(ta tb:TE):TE:=fun σ H Q=>ta σ H fun x H1=>tb σ H1 fun y H2=>r x y H2 Q
abbrev tUn(r:V->Hp->VK->Prop)(ta:TE):TE:=fun σ H Q=>ta σ H fun x H1=>r x H1 Q
def rI(C:Int->Int->Prop)(g:Int->Int->V):R2:=fun x y H Q=>∃ i j,x=.int i/\y=.int j/\C i j/\Q (g i j) H
def rI0(g:Int->Int->V):R2:=fun x y H Q=>∃ i j,x=.int i/\y=.int j/\Q (g i j) H
def rU(g:Int->V):V->Hp->VK->Prop:=fun x H Q=>∃ i,x=.int i/\Q (g i) H
section
variable{X:Cx}{a b c:Expr}{ta tb tc:TE}{pos:Pos}
theorem zSw(ha:PE X a ta)(hb:PE X b tb){Mi:List (Jc×Obj)}{s:Jb}{σ:St}{H:Hp}{R:V->V->Hp->Prop}(I:Inv X Mi σ H s)
  (h:ta σ H fun x H1=>tb σ H1 fun y H2=>R x y H2) {Q:Ja->Jb->Prop} {f:Ja->Ja->Sem Ja}
  (hf:∀ v u s2 x y H2,Inv X Mi σ H2 s2->dH x v->dH y u->R x y H2->wpAny (model X.prog X.w) X.A (f v u) Q X.xe s2):
  wpAny (model X.prog X.w) X.A (eval a X.env) (fun v s₁=>wpAny (model X.prog X.w) X.A (eval b X.env) (fun u s₂=>wpAny (model X.prog X.w) X.A (f v u) Q X.xe s₂) X.xe s₁) X.xe s:=by
 refine thn (ha Mi s σ H _ I h) fun v s1 ⟨x,H1,I1,r1,q1⟩=>?_
 refine thn (hb Mi s1 σ H1 _ I1 q1) fun u s2 ⟨y,H2,I2,r2,q2⟩=>?_
 exact hf v u s2 x y H2 I2 r1 r2 q2
theorem zIA{op:Operator}{r:R2}(ho:OpR X (binaryOp op) r)(ha:PE X a ta)(hb:PE X b tb):PE X (.BinOp a op b pos) (tOp r ta tb):=by
 intro Mi s σ H Q I h;exact wpAny_BinOp (zSw ha hb I h fun v u s2 x y H2 I2 rx ry q=>ho Mi s2 σ H2 x y v u Q I2 rx ry q)
theorem zSg{op:UnaryOp}{r:V->Hp->VK->Prop}(ho:UnR X (unaryOp op) r)(ha:PE X a ta):PE X (.UnaryOp op a pos) (tUn r ta):=by
 intro Mi s σ H Q I h;exact UnaryOp_ (thn (ha Mi s σ H _ I h) fun v s1 ⟨x,H1,I1,r1,q1⟩=>ho Mi s1 σ H1 x v Q I1 r1 q1)
theorem opI{f:Ja->Ja->Sem Ja}{C:Int->Int->Prop}{g:Int->Int->Int}
  (rule:∀(i j:Int)(t u:Tok)(s:Jb)(Q:Ja->Jb->Prop)(E:Ja->Jb->Prop),C i j->Q (.int (g i j) s.toks) { s with toks:=s.toks+1 }->wpAny (model X.prog X.w) X.A (f (.int i t) (.int j u)) Q E s):
  OpR X f (rI C fun i j=>.int (g i j)):=by
 intro Mi s σ H x y v u Q I rx ry h;obtain⟨i,j,rfl,rfl,hc,q⟩:=h;obtain⟨t,rfl⟩:=rx;obtain⟨t',rfl⟩:=ry;exact rule i j t t' s _ _ hc ⟨.int (g i j),H,I.tok _,⟨_,rfl⟩,q⟩
theorem zSZ{f:Ja->Ja->Sem Ja}{g:Int->Int->Int}
  (rule:∀(i j:Int)(t u:Tok)(s:Jb)(Q:Ja->Jb->Prop)(E:Ja->Jb->Prop),Q (.int (g i j) s.toks) { s with toks:=s.toks+1 }->wpAny (model X.prog X.w) X.A (f (.int i t) (.int j u)) Q E s):
  OpR X f (rI0 fun i j=>.int (g i j)):=by
 intro Mi s σ H x y v u Q I rx ry h;obtain⟨i,j,rfl,rfl,q⟩:=h;obtain⟨t,rfl⟩:=rx;obtain⟨t',rfl⟩:=ry;exact rule i j t t' s _ _ ⟨.int (g i j),H,I.tok _,⟨_,rfl⟩,q⟩
theorem zSJ{f:Ja->Ja->Sem Ja}{g:Int->Int->Bool}
  (rule:∀(i j:Int)(t u:Tok)(s:Jb)(Q:Ja->Jb->Prop)(E:Ja->Jb->Prop),Q (.bool (g i j)) s->wpAny (model X.prog X.w) X.A (f (.int i t) (.int j u)) Q E s):
  OpR X f (rI0 fun i j=>.bl (g i j)):=by
 intro Mi s σ H x y v u Q I rx ry h;obtain⟨i,j,rfl,rfl,q⟩:=h;obtain⟨t,rfl⟩:=rx;obtain⟨t',rfl⟩:=ry;exact rule i j t t' s _ _ ⟨.bl (g i j),H,I,rfl,q⟩
def zRE(i j:Int):Prop:=(-(2^64)<i/\i<2^64)∨(-(2^64)<j/\j<2^64)
theorem zRE.ok{i j:Int}(h:zRE i j):IntMulOk i j:=by
 rcases h with⟨h1,h2⟩ | ⟨h1,h2⟩
 ·exact .of_left (intBits_le_64 h1 h2)
 ·exact .of_right (intBits_le_64 h1 h2)
theorem zQV:OpR X (binaryOp .Add) (rI0 fun i j=>.int (i+j)):=zSZ fun _ _ _ _ _ _ _ q=>add_int q
theorem qL:OpR X (binaryOp .Sub) (rI0 fun i j=>.int (i-j)):=zSZ fun _ _ _ _ _ _ _ q=>sub_int q
theorem cH:OpR X (binaryOp .Mod) (rI (fun _ j=>j≠0) fun i j=>.int (i.fmod j)):=opI fun _ _ _ _ _ _ _ hc q=>mod_int' hc q
theorem unI{f:Ja->Sem Ja}{g:Int->Int}
  (rule:∀(i:Int)(t:Tok)(s:Jb)(Q:Ja->Jb->Prop)(E:Ja->Jb->Prop),Q (.int (g i) s.toks) { s with toks:=s.toks+1 }->wpAny (model X.prog X.w) X.A (f (.int i t)) Q E s):
  UnR X f (rU fun i=>.int (g i)):=by
 intro Mi s σ H x v Q I rx h;obtain⟨i,rfl,q⟩:=h;obtain⟨t,rfl⟩:=rx;exact rule i t s _ _ ⟨.int (g i),H,I.tok _,⟨_,rfl⟩,q⟩
theorem zRk:UnR X (unaryOp .USub) (rU fun i=>.int (-i)):=unI fun _ _ _ _ _ q=>neg_int q
end
section
variable{X:Cx}{a b c:Expr}{ta tb tc:TE}{pos:Pos}
theorem nV:OpR X (compareOp .Lt) (rI0 fun i j=>.bl (decide (i<j))):=zSJ fun _ _ _ _ _ _ _ q=>lt_int q
theorem zLN:OpR X (compareOp .Gt) (rI0 fun i j=>.bl (decide (j<i))):=zSJ fun _ _ _ _ _ _ _ q=>gt_int q
theorem zNj:OpR X (compareOp .GtE) (rI0 fun i j=>.bl (decide (j<=i))):=zSJ fun _ _ _ _ _ _ _ q=>ge_int q
theorem OpR.or{f:Ja->Ja->Sem Ja}{r r':R2}(h:OpR X f r)(h':OpR X f r'):OpR X f (fun x y H Q=>r x y H Q∨r' x y H Q):=by
 intro Mi s σ H x y v u Q I rx ry q;rcases q with q | q
 ·exact h Mi s σ H x y v u Q I rx ry q
 ·exact h' Mi s σ H x y v u Q I rx ry q
theorem aX(b:Expr){op:CmpOp}(h:op≠.In:=by decide)(h2:op≠.NotIn:=by decide):behindInMarks op b=false:=by
 have e1:(op==CmpOp.In)=false:=by cases op<;>first | rfl | exact absurd rfl h
 have e2:(op==CmpOp.NotIn)=false:=by cases op<;>first | rfl | exact absurd rfl h2
 cases b<;>simp[behindInMarks,e1,e2]
theorem zNe{op:CmpOp}{r:R2}(ho:OpR X (compareOp op) r)(ha:PE X a ta)(hb:PE X b tb)(hm:behindInMarks op b=false):PE X (.Compare a [op] [b] pos) (tOp r ta tb):=by
 intro Mi s σ H Q I h;exact wpAny_Compare1 (zSw ha hb I h fun v u s2 x y H2 I2 rx ry q=>ho Mi s2 σ H2 x y v u Q I2 rx ry q) hm
abbrev zQB(t:TE):TT:=fun σ H Q=>t σ H fun x H'=>∃ k,x=.bl k/\Q k H'
theorem zJg{op:CmpOp}{r:R2}(ho:OpR X (compareOp op) r)(ha:PE X a ta)(hb:PE X b tb)(hm:behindInMarks op b=false):PT X (.Compare a [op] [b] pos) (zQB (tOp r ta tb)):=by
 intro Mi s σ H Q I h
 refine Jn (thn (ha Mi s σ H _ I h) fun v s1 ⟨x,H1,I1,r1,q1⟩=>thn (hb Mi s1 σ H1 _ I1 q1) fun u s2 ⟨y,H2,I2,r2,q2⟩=>
  thn (ho Mi s2 σ H2 x y v u _ I2 r1 r2 q2) fun c s3 ⟨z,H3,I3,r3,k,e,q3⟩=>?_) hm
 subst e;cases r3;exact Jo ⟨H3,I3,q3⟩
theorem zFh:(sizeLine:Nat)<2^63:=by rw[Jy];decide
theorem zCg{x:V}{us:List Ja}(r:dS [x] us):∃ u,us=[u]/\dH x u:=by
 cases r with
 | cons r1 r2=>cases r2;exact⟨_,rfl,r1⟩
theorem zLG{x y:V}{us:List Ja}(r:dS [x,y] us):∃ u w',us=[u,w']/\dH x u/\dH y w':=by
 cases r with
 | cons r1 r2=>
  cases r2 with
  | cons r3 r4=>cases r4;exact⟨_,_,rfl,r1,r3⟩
theorem uP:qC X (.builtin "abs") (fun xs H Q=>∃ i,xs=[.int i]/\Q (.int (if i<0 then -i else i)) H):=by
 intro Mi s σ H xs us Q I r h;obtain⟨i,rfl,q⟩:=h;obtain⟨u,rfl,t,rfl⟩:=zCg r;exact call_abs_int fun u tk=>⟨.int (if i<0 then -i else i),H,I.tok _,⟨_,rfl⟩,q⟩
theorem zKr(hc:X.calm=true):qC X (.builtin "min") (fun xs H Q=>∃ i j,xs=[.int i,.int j]/\Q (.int (if j<i then j else i)) H):=by
 intro Mi s σ H xs us Q I r h;obtain⟨i,j,rfl,q⟩:=h;obtain⟨u,w',rfl,⟨t,rfl⟩,⟨t',rfl⟩⟩:=zLG r;refine min_two_ints (I.ok.hd hc) fun h' tk k=>⟨_,H,I.kept k,?_,q⟩
 by_cases hj:j<i
 ·rw[Jk hj,Jk hj];exact⟨_,rfl⟩
 ·rw[Jl hj,Jl hj];exact⟨_,rfl⟩
theorem zHJ:qC X (.type "int") (fun xs H Q=>(∃ i,xs=[.int i]/\Q (.int i) H)∨∃ k,xs=[.bl k]/\Q (.int (if k then 1 else 0)) H):=by
 intro Mi s σ H xs us Q I r h;rcases h with⟨i,rfl,q⟩ | ⟨k,rfl,q⟩
 ·obtain⟨u,rfl,t,rfl⟩:=zCg r
  exact call_int_int ⟨.int i,H,I,⟨_,rfl⟩,q⟩
 ·obtain⟨u,rfl,r1⟩:=zCg r
  cases r1;exact call_int_bool ⟨.int (if k then 1 else 0),H,I.tok _,⟨_,rfl⟩,q⟩
end
section
variable{prog:Jf}{w:Jg}{A:Jh}{E:Ja->Jb->Prop}{s:Jb}{K:Fg_}{x dx C f:Jc}{mA:Str->Option Ja}{name:Str}{v:Ja}
end
section
variable{P:Jf}{w:Jg}{H H':Hp}{h h':Je}{a C dx:Jc}{fs fs':List (Str×V)}
end
section
variable{X:Cx}{Mi:List (Jc×Obj)}{σ:St}{H:Hp}{s:Jb}{a C dx:Jc}{fs:List (Str×V)}{f:Str}{v:V}{A:Jh}{E:Ja->Jb->Prop}
end
section
variable{X:Cx}{o e value:Expr}{f:Str}{pos pos' tpos:Pos}{ta tv:TE}
end
section
variable{X:Cx}{Mi:List (Jc×Obj)}{σ:St}{H:Hp}{s:Jb}{A:Jh}{E:Ja->Jb->Prop}{Q:Ja->Jb->Prop}{c:Ja}{b:Bool}
end
structure Room (k:Nat) (A:Jh):Prop where
 hd:A.handled=none
 dp:A.depth+3*k+5<recursionLimit
 un:A.units+16*k+200<cLine
theorem Room.mono{j k:Nat}{A:Jh}(r:Room k A)(h:j<=k):Room j A:=⟨r.hd,by have:=r.dp;omega,by have:=r.un;omega⟩
theorem Room.deeper{k:Nat}{A:Jh}(r:Room (k+1) A)(env:Env):Room k (A.deeper env):=
 ⟨r.hd,by have:=r.dp;show A.depth+1+3*k+5<_;omega,by have:=r.un;show A.units+3+16*k+200<_;omega⟩
theorem Room.depth{k:Nat}{A:Jh}(r:Room k A):A.depth<recursionLimit:=by have:=r.dp;omega
theorem Room.units{k:Nat}{A:Jh}(r:Room k A):A.units+64<cLine:=by have:=r.un;omega
abbrev zTw:TA:=fun _ H Q=>Q [] H
abbrev zSG(ta:TE)(tr:TA):TA:=fun σ H Q=>ta σ H fun x H1=>tr σ H1 fun xs H2=>Q (x::xs) H2
section
variable{X:Cx}{e:Expr}{es:List Expr}{te:TE}{t:TA}{pos:Pos}
theorem nT:PA X [] zTw:=fun _ _ _ _ H Q I h=>Calls.spliced_nil ⟨[],H,I,.nil,h⟩
theorem gA(ha:PE X e te)(hr:PA X es t)(hs:starEach (e::es) X.env=(false,eval e X.env)::starEach es X.env:=by rfl):PA X (e::es) (zSG te t):=by
 intro pos Mi s σ H Q I h;rw[hs];show wpAny _ _ (spliced ((false,eval e X.env)::backTo pos (starEach es X.env))) _ _ s
 refine Calls.spliced_cons (thn (ha Mi s σ H _ I h) fun u s1 ⟨x,H1,I1,r1,q1⟩=>?_)
 exact thn (hr pos Mi s1 σ H1 _ I1 q1) fun us s2 ⟨xs,H2,I2,r2,q2⟩=>⟨x::xs,H2,I2,.cons r1 r2,q2⟩
abbrev zTD(t:TA):TE:=fun σ H Q=>t σ H fun xs H1=>xs.length<=sizeLine/\∀ p,H1 p=none->Q (.ref p) (upd H1 p (.tup xs))
abbrev zTy(t:TA):TE:=fun σ H Q=>t σ H fun xs H1=>xs.length<=sizeLine/\∀ p,H1 p=none->Q (.ref p) (upd H1 p (.lst xs))
theorem zMO{x1}(h:PA X es t):PE X (.Tuple es x1 pos) (zTD t):=by
 intro Mi s σ H Q I hq;refine wpAny_Tuple_spliced (thn (h pos Mi s σ H _ I hq) fun us s1 ⟨xs,H1,I1,r,z,q⟩=>⟨by rw[<-r.length];exact z,?_⟩)
 have hf:H1 s1.heap.objs.size=none:=I1.hok.fresh (Qh _);refine⟨.ref s1.heap.objs.size,upd H1 s1.heap.objs.size (.tup xs),I1.laid (t':=s1.toks) (fun b u e=>Heap.get?_push_of_some _ e) (Qh _) ?_,rfl,q _ hf⟩
 exact⟨z,us,r,⟨_,Heap.get?_push_size _ rfl,rfl,_,rfl⟩⟩
theorem zPJ(h:PA X es t):PE X (.List es pos) (zTy t):=by
 intro Mi s σ H Q I hq;refine wpAny_List_spliced (thn (h pos Mi s σ H _ I hq) fun us s1 ⟨xs,H1,I1,r,z,q⟩=>⟨by rw[<-r.length];exact z,?_⟩)
 have hf:H1 s1.heap.objs.size=none:=I1.hok.fresh (Qh _);refine⟨.ref s1.heap.objs.size,upd H1 s1.heap.objs.size (.lst xs),I1.laid (t':=s1.toks) (fun b u e=>Heap.get?_push_of_some _ e) (Qh _) ?_,rfl,q _ hf⟩
 exact⟨z,us,0,r,Heap.get?_push_size _ rfl⟩
end
abbrev Sp:=List V->Hp->VK->XK->Prop
abbrev CXT:=List Env->Hp->Jb->XK->Ja->Jb->Prop
structure Env0 (P:Jf) (w:Jg) (K:PySem.W.Frag) (mg:Str->Option Ja) (base:Je) (A:Jh) (outer:List Env) (s:Jb) (H:Hp):Prop where
 frames:A.frames=some outer
 mod:Mod K mg base
 bs:∀ b o,base.get? b=some o->s.heap.get? b=some o/\H b=none
 bsz:base.objs.size<=s.heap.objs.size
 funs:s.heap.FunFrames base outer
 frf:∀ b∈frs outer,H b=none
 hok:HOk P w H s.heap
 bare:AllBare s.gens
def CE(outer:List Env)(P:Jf)(w:Jg)(H:Hp)(s:Jb)(Q:VK)(u:Ja)(s':Jb):Prop:=
 ∃ v H',s'.os=s.os/\AllBare s'.gens/\Un (frs outer) [] H H' s.heap s'.heap/\HOk P w H' s'.heap/\dH v u/\Q v H'
def CR(CX:CXT)(outer:List Env)(P:Jf)(w:Jg)(H:Hp)(s:Jb)(Q:VK)(E:XK)(r:Result)(s':Jb):Prop:=
 match r with
 | .ok (.ret u)=>CE outer P w H s Q u s'
 | .ok _=>False
 | .error e=>CX outer H s E e s'
structure FnOk (P:Jf) (w:Jg) (K:PySem.W.Frag) (mg:Str->Option Ja) (base:Je) (CX:CXT) (k:Nat) (f:Jc) (fd:FuncData) (ps:List Str) (sp:Sp):Prop where
 len:∀ vs H Q E,sp vs H Q E->vs.length=ps.length
 run:∀(A:Jh)(outer:List Env)(s:Jb)(H:Hp)(args:Args)(us:List Ja)(vs:List V)(Q:VK)(E:XK),Room k A->Env0 P w K mg base A outer s H->BindsTo s fd args (ps.zip us)->dS vs us->sp vs H Q E->
  codeAny (model P w) A (.call (.ref f) args) (CR CX outer P w H s Q E) s
theorem FnOk.mono{P:Jf}{w:Jg}{K:Fg_}{mg:Str->Option Ja}{base:Je}{CX:CXT}{j k:Nat}{f:Jc}{fd:FuncData}{ps:List Str}{sp:Sp}(F:FnOk P w K mg base CX j f fd ps sp)(h:j<=k):
  FnOk P w K mg base CX k f fd ps sp:=⟨F.len,fun A outer s H args us vs Q E hr=>F.run A outer s H args us vs Q E (hr.mono h)⟩
theorem FnOk.imp{P:Jf}{w:Jg}{K:Fg_}{mg:Str->Option Ja}{base:Je}{CX:CXT}{k:Nat}{f:Jc}{fd:FuncData}{ps:List Str}{sp sp':Sp}(F:FnOk P w K mg base CX k f fd ps sp)
  (h:∀ vs H Q E,sp' vs H Q E->sp vs H Q E):FnOk P w K mg base CX k f fd ps sp':=
 ⟨fun vs H Q E q=>F.len vs H Q E (h _ _ _ _ q),fun A outer s H args us vs Q E hr he hb hv hs=>F.run A outer s H args us vs Q E hr he hb hv (h _ _ _ _ hs)⟩
theorem Env0.in1{P:Jf}{w:Jg}{K:Fg_}{mg:Str->Option Ja}{base:Je}{A:Jh}{outer:List Env}{s:Jb}{H:Hp}(e:Env0 P w K mg base A outer s H):
  Env0 P w K mg base A.in1 outer s H:=⟨e.frames,e.mod,e.bs,e.bsz,e.funs,e.frf,e.hok,e.bare⟩
section
variable{X:Cx}{Mi:List (Jc×Obj)}{σ:St}{H:Hp}{s s':Jb}
theorem Inv.env0(I:Inv X Mi σ H s):Env0 X.prog X.w X.K X.mg X.base X.A X.stack s H:=
 ⟨I.ok.frames,I.ok.mod,I.bs,Q5 I.ok.bsz I.sz,I.stack,I.stkFree,I.hok,I.bare⟩
theorem Inv.after{Q:VK}{u:Ja}(I:Inv X Mi σ H s)(h:CE X.stack X.prog X.w H s Q u s'):EP X Mi σ Q u s':=by
 obtain⟨v,H',os,bare,un,hok,r,q⟩:=h;obtain⟨hh,g,d,t,os'⟩:=s';obtain rfl:os'=s.os:=os;exact⟨v,H',I.call (h':=hh) (g':=g) (d':=d) (t':=t) (ch:=[]) un hok bare (fun b z=>absurd z (by simp)),r,q⟩
end
abbrev zNL(sp:Sp)(dvs:List V)(E:XK)(t:TA):TE:=fun σ H Q=>t σ H fun vs H1=>sp (vs++dvs) H1 Q E
def zCD(K:PySem.W.Frag)(fd:FuncData)(ps:List Str)(ds:List Ja):Prop:=
 ∀(s:Jb)(us:List Ja),K.In s.heap->(us++ds).length=ps.length->BindsTo s fd ⟨us,[]⟩ (ps.zip (us++ds))
theorem zCD.all{K:Fg_}{fd:FuncData}{ps:List Str}(h:∀ us:List Ja,us.length=ps.length->bindArgs fd ⟨us,[]⟩=pure (ps.zip us)):zCD K fd ps []:=fun s us _ hl=>by
 rw[Vg] at hl ⊢
 exact .of_eq (h us hl)
def zFD(CX:CXT)(X:Cx)(E:XK):Prop:=∀(Mi:List (Jc×Obj))(σ:St)(H:Hp)(s:Jb)(e:Ja)(s':Jb),Inv X Mi σ H s->CX X.stack H s E e s'->X.xe e s'
section
variable{X:Cx}{CX:CXT}{k:Nat}{f C:Jc}{fd:FuncData}{ps:List Str}{sp:Sp}{dvs:List V}{ds:List Ja}{E:XK}{x m:Str}{p pos apos:Pos}{e o:Expr}{es:List Expr}{ta:TE}{t:TA}
theorem zPC{Mi:List (Jc×Obj)}{σ:St}{H:Hp}{s:Jb}{Q:VK}{us:List Ja}{vs:List V}(F:FnOk X.prog X.w X.K X.mg X.base CX k f fd ps sp)(hr:Room k X.A)(hb:zCD X.K fd ps ds)(hd:dS dvs ds)(hx:zFD CX X E)
  (I:Inv X Mi σ H s) (r:dS vs us) (h:sp (vs++dvs) H Q E):wpAny (model X.prog X.w) X.A (call (.ref f) us) (EP X Mi σ Q) X.xe s:=by
 have r2:dS (vs++dvs) (us++ds):=r.append hd;have hl:(us++ds).length=ps.length:=by rw[<-r2.length];exact F.len _ _ _ _ h
 refine wpAny_call (codeAny_mono (F.run X.A X.stack s H ⟨us,[]⟩ (us++ds) (vs++dvs) Q E hr I.env0 (hb s us I.kIn hl) r2 h) fun r s' hq=>?_)
 cases r with
 | error e=>exact hx Mi σ H s e s' I hq
 | ok fl=>
  cases fl with
  | ret u=>exact I.after hq
  | next=>exact False.elim hq
  | brk=>exact False.elim hq
  | cont=>exact False.elim hq
theorem zEN(F:FnOk X.prog X.w X.K X.mg X.base CX k f fd ps sp)(hr:Room k X.A)(hg:Gl X x)(hm:X.mg x=some (.ref f))(hk:PySem.W.keepIn X.K (.ref f)=true)(hb:zCD X.K fd ps ds)(hd:dS dvs ds)(hx:zFD CX X E)
  (ha:PA X (e::es) t) (hdb:(x==("__debug__" : Str))=false:=by decide) (he:starEach (e::es) X.env=(false,eval e X.env)::starEach es X.env:=by rfl) (hpl:(backTo pos (starEach es X.env)).any (·.1)=false:=by rfl):
  PE X (.Call (.Name x p) (e::es) [] pos) (zNL sp dvs E t):=by
 intro Mi s σ H Q I h;refine Jz (vN I hg hm ?_ hdb)
 refine PySem.W.callWith_K (h₀:=X.base) I.ok.mod.kin hk (thn (ha pos Mi s σ H _ I h) fun us s1 ⟨vs,H1,I1,r,q⟩=>⟨I1.kIn,?_⟩) he hpl
 exact zPC F hr hb hd hx I1 r q
end
section
variable{X:Cx}{CX:CXT}{k:Nat}{f C:Jc}{fd:FuncData}{ps ks:List Str}{sp:Sp}{E:XK}{x m:Str}{p pos apos kpos:Pos}{e o:Expr}{es:List Expr}{kws:List Keyword}{te ta:TE}{t tk:TA}{nm:Option Str}
variable{g:List Ja->List Ja->List Ja}{gV:List V->List V->List V}
end
structure FnScope (N P:List Str) (sc:Scope):Prop where
 kind:sc.kind=.function
 co:sc.isCoroutine=false
 gen:sc.isGenerator=false
 nd:N.Nodup
 pre:N.take P.length=P
 par:∀ x∈P,sc.names.lookup x=some .local∨sc.names.lookup x=some .cell
 nofree:∀ y∈sc.names,y.2≠.free
theorem zDd{kindOf:Str->Option NameKind}{x:Str}:∀ {binds:List (Str×Ja)} {m:Str->Option Ja},(∀ v,(x,v)∉binds)->bindL kindOf binds m x=m x
 | [],_,_=>rfl
 | (n,v)::r,m,h=>by
  unfold bindL;rw[zDd fun w hw=>h w (Qc _ hw)];split
  ·have:x≠n:=by rintro rfl;exact h v Qb
   simp[this]
  ·rfl
theorem zDv{kindOf:Str->Option NameKind}{x:Str}:∀ {binds:List (Str×Ja)} {m:Str->Option Ja},(∀ v,(x,v)∉binds)->bindC kindOf binds m x=m x
 | [],_,_=>rfl
 | (n,v)::r,m,h=>by
  unfold bindC;rw[zDv fun w hw=>h w (Qc _ hw)];split
  ·rfl
  ·have:x≠n:=by rintro rfl;exact h v Qb
   simp[this]
theorem zCj{kindOf:Str->Option NameKind}{x:Str}{v:Ja}:∀ {P:List Str} {vs:List Ja} {i:Nat} {m:Str->Option Ja},P.Nodup->P[i]?=some x->vs[i]?=some v->kindOf x=some .local->
  bindL kindOf (P.zip vs) m x=some v
 | [],_,_,_,_,h,_,_=>by simp at h
 | _::_,[],_,_,_,_,h,_=>by simp at h
 | p::P,w::vs,0,m,nd,h1,h2,hk=>by
  simp at h1 h2;subst h1;subst h2
  show bindL kindOf ((p,w)::P.zip vs) m p=_
  unfold bindL;rw[zDd fun v hv=>(Xy.mp nd).1 (X9 hv).1,Jk hk];simp
 | p::P,w::vs,i+1,m,nd,h1,h2,hk=>by
  show bindL kindOf ((p,w)::P.zip vs) m x=_
  unfold bindL;exact zCj (i:=i) (Xy.mp nd).2 (by simpa using h1) (by simpa using h2) hk
theorem zCO{kindOf:Str->Option NameKind}{x:Str}{v:Ja}:∀ {P:List Str} {vs:List Ja} {i:Nat} {m:Str->Option Ja},P.Nodup->P[i]?=some x->vs[i]?=some v->kindOf x≠some .local->
  bindC kindOf (P.zip vs) m x=some v
 | [],_,_,_,_,h,_,_=>by simp at h
 | _::_,[],_,_,_,_,h,_=>by simp at h
 | p::P,w::vs,0,m,nd,h1,h2,hk=>by
  simp at h1 h2;subst h1;subst h2
  show bindC kindOf ((p,w)::P.zip vs) m p=_
  unfold bindC;rw[zDv fun v hv=>(Xy.mp nd).1 (X9 hv).1,Jl hk];simp
 | p::P,w::vs,i+1,m,nd,h1,h2,hk=>by
  show bindC kindOf ((p,w)::P.zip vs) m x=_
  unfold bindC;exact zCO (i:=i) (Xy.mp nd).2 (by simpa using h1) (by simpa using h2) hk
def start(N:List Str)(vs:List V):St:=vs.map some++List.replicate (N.length-vs.length) none
def zGP(CX:CXT)(P:Jf)(w:Jg)(K:PySem.W.Frag)(mg:Str->Option Ja)(base:Je)(N:List Str)(qual:Str)(scope:Scope)(f:Jc)(cd:Ja)(A:Jh)(outer:List Env)(s:Jb)(H:Hp)(E:XK):Cx where
 prog:=P
 w:=w
 K:=K
 mg:=mg
 base:=base
 A:=A.deeper (envOfC qual scope s.heap.objs.size f cd)
 N:=N
 s₀:=s
 H₀:=H
 env:=envOfC qual scope s.heap.objs.size f cd
 outer:=outer
 stack:=envOfC qual scope s.heap.objs.size f cd::outer
 ex:=[]
 calm:=true
 fn:=fun _=>true
 pn:=[]
 xe:=fun e s'=>wpAny (model P w) (A.deeper (envOfC qual scope s.heap.objs.size f cd)) (leaving (envOfC qual scope s.heap.objs.size f cd) e) (fun _ s''=>CX outer H s E e s'') (fun e' s''=>CX outer H s E e' s'') s'
theorem zFA{sc:Scope}{n:Nat}{x:Str}(h:sc.names.lookup x=some .cell):∃ c,(cellsFrom n sc.names []).lookup x=some c:=by
 have q:=W4 sc.names n [] (.inl h);exact Y5.mp q
theorem zIL{CX:CXT}{P:Jf}{w:Jg}{K:Fg_}{mg:Str->Option Ja}{base:Je}{N ps:List Str}{qual:Str}{scope:Scope}{f:Jc}{cd:Ja}{A:Jh}{outer:List Env}{s s1:Jb}{H:Hp}{E:XK}{us:List Ja}{vs:List V}
  (S:FnScope N ps scope) (hd:A.handled=none) (e0:Env0 P w K mg base A outer s H) (hl:vs.length=ps.length) (r:dS vs us)
  (x:InCallC s s.heap.objs.size (bindL (envOfC qual scope s.heap.objs.size f cd).kindOf (ps.zip us) fun _=>none) (cellsFrom (s.heap.objs.size+1) scope.names []) (bindC (envOfC qual scope s.heap.objs.size f cd).kindOf (ps.zip us) fun _=>none) s1):
  Inv (zGP CX P w K mg base N qual scope f cd A outer s H E) [] (start N vs) H s1:=by
 have hpl:ps.length<=N.length:=by have:=congrArg List.length S.pre;rw[Yc] at this;omega
 obtain⟨h1,tk,rfl,hk⟩:=x.done;have noA:∀ b:Jc,b∉(zGP CX P w K mg base N qual scope f cd A outer s H E).ex:=fun b z=>absurd (show b∈([]:List Jc) from z) (by simp)
 refine⟨⟨e0.mod,S.kind,rfl,rfl,Qh _,fun y z c h1 h2=>?_,fun y hy=>?_,fun y c _ h=>?_,fun _=>hd,Around.frames_deeper e0.frames,.inr ⟨rfl,rfl⟩,fun b z=>absurd z (noA b),e0.bs,e0.bsz,fun b _ _=>noA b,fun b z=>absurd z (noA b),e0.funs,e0.frf⟩,
  rfl,e0.bare,Un.kept hk,⟨_,x.toInCall.ns,fun i y v h1 h2 h3=>?_⟩,fun y c h=>⟨_,x.cell y c h⟩,e0.hok.fresh (Qh _),fun y c h=>?_,fun p hp=>absurd (show p∈([]:List (Jc×Obj)) from hp) (by simp),e0.hok.kept hk,?_⟩
 ·exact name_of_addr x.apart (Xp h1) (Xp h2)
 ·have hy:scope.names.lookup y=some .cell∨scope.names.lookup y=some .free:=hy
  rcases hy with hy | hy
  ·exact zFA hy
  ·exact absurd rfl (S.nofree _ (Xp hy))
 ·exact Vs (x.above y c (Xp h))
 ·have hi:i<vs.length:=by
   unfold start at h2;by_cases hi:i<vs.length
   ·exact hi
   ·rw[Vn (by simpa using hi)] at h2
    rw[Y6] at h2;split at h2<;>cases h2
  have ha:vs[i]?=some v:=by
   unfold start at h2;rw[Vk (by simpa using hi),Qs] at h2
   cases e:vs[i]? with
   | none=>rw[e] at h2;cases h2
   | some a=>rw[e] at h2;cases h2;rfl
  obtain⟨u,hu,rv⟩:=r.get ha
  have hp:ps[i]?=some y:=by
   rw[<-S.pre,List.getElem?_take_of_lt (by omega)];exact h1
  have ndP:ps.Nodup:=by rw[<-S.pre];exact S.nd.sublist (List.take_sublist _ _)
  refine⟨u,rv,?_⟩
  rcases S.par y (Qi hp) with k | k
  ·exact .inl ⟨k,zCj ndP hp hu k⟩
  ·obtain⟨c,e⟩:=zFA (n:=s.heap.objs.size+1) k
   refine .inr ⟨.inl k,c,e,?_⟩
   have q:=x.cell y c e;rw[zCO ndP hp hu (by show scope.names.lookup y≠_;rw[k];decide)] at q;exact q
 ·exact e0.hok.fresh (Vs (x.above y c (Xp h)))
 ·unfold start
  show _=N.length
  rw[Ql,Qg,Xz];omega
theorem zQK{CX:CXT}{P:Jf}{w:Jg}{K:Fg_}{mg:Str->Option Ja}{base:Je}{k:Nat}{f:Jc}{name qual:Str}{params:Arguments}{body:List Ji}{scope:Scope}{dV kV doc pm cdv ct oc:Ja}{an od:Option Jc}
  {osl:Array (Option Ja)} {N ps:List Str} {sp:Sp} (lk:K.lookup f=some ⟨oc,od,.func (PySem.W.fnOf name qual params body scope dV kV doc pm an cdv ct),osl⟩) (hcd:PySem.W.codeIn K cdv qual=true) (S:FnScope N ps scope)
  (len:∀ vs H Q E,sp vs H Q E->vs.length=ps.length)
  (hbody:∀(A:Jh)(outer:List Env)(s:Jb)(H:Hp)(vs:List V)(Q:VK)(E:XK),Room k (A.deeper (envOfC qual scope s.heap.objs.size f cdv))->sp vs H Q E->
   ∃ t,PSs (zGP CX P w K mg base N qual scope f cdv A outer s H E) body t/\t { nx:=fun _ H'=>Q .non H',rt:=Q } (start N vs) H):
  FnOk P w K mg base CX (k+1) f (PySem.W.fnOf name qual params body scope dV kV doc pm an cdv ct) ps sp:=by
 refine⟨len,fun A outer s H args us vs Q E hr e0 hb r hsp=>?_⟩
 have hl:=len _ _ _ _ hsp;have KX:K.In s.heap:=e0.mod.kin.keeps fun b o e=>(e0.bs b o e).1
 have lim:s.heap.NoLimit:=e0.mod.nolimit.keeps fun b o e=>(e0.bs b o e).1
 have hkind:∀ y∈ps.zip us,scope.names.lookup y.1=some .local∨(scope.names.lookup y.1=some .cell/\((cellsFrom (s.heap.objs.size+1) scope.names []).lookup y.1).isSome=true):=fun ⟨n,v⟩ hy=>by
  rcases S.par n (X9 hy).1 with q | q
  ·exact .inl q
  ·exact .inr ⟨q,W4 _ _ _ (.inl q)⟩
 refine codeAny_call_function hr.depth (KX _ _ lk) rfl S.co S.gen rfl (PySem.W.codeRec_of KX hcd) (hb _ _ _ _ ?_)
 refine wpAny_newFunctionEnv_cells S.kind hkind fun env he s1 x=>?_
 subst he;refine⟨lim.keeps x.toInCall.keep,codeAny_func ?_⟩
 obtain⟨t,ht,hq⟩:=hbody A outer s H vs Q E (hr.deeper _) hsp;have I:Inv (zGP CX P w K mg base N qual scope f cdv A outer s H E) [] (start N vs) H s1:=zIL S hr.hd e0 hl r x;refine wpAny_mono (ht [] s1 (start N vs) H _ I hq) (fun fl s' hs=>?_) fun e s' hs=>hs
 have fin:∀ {σ':St} {H':Hp} {v:V} {u:Ja},Inv (zGP CX P w K mg base N qual scope f cdv A outer s H E) [] σ' H' s'->dH v u->Q v H'->CE outer P w H s Q u s':=
  fun {σ' H' v u} J rv q=>⟨v,H',J.os,J.bare,J.base,J.hok,rv,q⟩
 cases fl with
 | ret u=>
  obtain⟨v,σ',H',J,rv,q⟩:=hs;exact fin J rv q
 | next=>
  obtain⟨σ',H',J,q⟩:=hs;exact fin (v:=V.non) (u:=Value.none) J rfl q
 | brk=>
  obtain⟨_,_,_,q⟩:=hs;exact False.elim q
 | cont=>
  obtain⟨_,_,_,q⟩:=hs;exact False.elim q
section
variable{X:Cx}{x:Str}{p pos:Pos}{e:Expr}{es:List Expr}{t:TA}{id T:String}{r:List V->Hp->VK->Prop}
abbrev tCB(r:List V->Hp->VK->Prop)(t:TA):TE:=fun σ H Q=>t σ H fun vs H1=>r vs H1 Q
theorem rJ(hc:qC X (.builtin id) r)(hg:Gl X x)(hm:X.mg x=none)(hv:bootBuiltins x=some (.builtin id))(ha:PA X (e::es) t)(hn:x ≠ "__name__" := by decide)(hdb:(x==("__debug__" : Str))=false:=by decide)
  (he:starEach (e::es) X.env=(false,eval e X.env)::starEach es X.env:=by rfl) (hpl:(backTo pos (starEach es X.env)).any (·.1)=false:=by rfl):PE X (.Call (.Name x p) (e::es) [] pos) (tCB r t):=by
 intro Mi s σ H Q I h;refine Jz (rL I hg hm hv ?_ hn hdb)
 exact PyProof.Rows.callWith_builtin1 (thn (ha pos Mi s σ H _ I h) fun us s1 ⟨vs,H1,I1,r1,q1⟩=>hc Mi s1 σ H1 vs us Q I1 r1 q1) he hpl
theorem zII(hc:qC X (.type T) r)(hg:Gl X x)(hm:X.mg x=none)(hv:bootBuiltins x=some (.type T))(ha:PA X (e::es) t)(hn:x ≠ "__name__" := by decide)(hdb:(x==("__debug__" : Str))=false:=by decide)
  (he:starEach (e::es) X.env=(false,eval e X.env)::starEach es X.env:=by rfl) (hpl:(backTo pos (starEach es X.env)).any (·.1)=false:=by rfl):PE X (.Call (.Name x p) (e::es) [] pos) (tCB r t):=by
 intro Mi s σ H Q I h;refine Jz (rL I hg hm hv ?_ hn hdb)
 exact X8 (thn (ha pos Mi s σ H _ I h) fun us s1 ⟨vs,H1,I1,r1,q1⟩=>hc Mi s1 σ H1 vs us Q I1 r1 q1) he hpl
end
end L2
namespace HT
open PySem PyProof.Rows
section
open PySem.SeqAt
open PySem.AutoSeq1 (wpAny_loadPart')
open PySem.MeetsSeq PySem.MeetsSeq2 PySem.MeetsSeq3
end
section
variable{prog:Jf}{w:Jg}{A:Jh}{E:Ja->Jb->Prop}{s:Jb}
theorem cat_tup{t b:Jc}{vs ws:List Ja}{Q:Ja->Jb->Prop}(ht:IsTup s.heap t vs.toArray)(hb:IsTup s.heap b ws.toArray)(hv:vs≠[])
  (h1:ws=[]->Q (.ref t) s) (h2:ws≠[]->Q (.ref s.heap.objs.size) { s with heap:=s.heap.push { cls:=.type "tuple", data:=.seq (vs++ws).toArray } })
  (hsz:vs.length+ws.length<=sizeLine):wpAny (model prog w) A (binaryOp .Add (.ref t) (.ref b)) Q E s:=by
 obtain⟨⟨cls,dd,data,sl⟩,ho,hc,n,hd⟩:=id ht;obtain⟨⟨cls2,dd2,data2,sl2⟩,ho2,hc2,n2,hd2⟩:=id hb;simp only at hc hd hc2 hd2
 subst hc hd hc2 hd2;have e:vs.toArray++ws.toArray=(vs++ws).toArray:=by simp
 by_cases hw:ws=[]
 ·exact J0 ⟨_,ho,rfl⟩ ⟨_,ho2,rfl⟩ J1 J2 Uo Up (Uq _ _)
   (tuple_addW1 t b vs.toArray ws.toArray n n2 dd dd2 sl sl2 (by simpa using hv) (by simp[hw])) ⟨ho,ho2,h1 hw⟩
 ·refine J0 ⟨_,ho,rfl⟩ ⟨_,ho2,rfl⟩ J1 J2 Uo Up (Uq _ _)
   (tuple_addW2 t b vs.toArray ws.toArray n n2 dd dd2 sl sl2 (by simpa using hv) (by simpa using hw) (by rw[Qk,Qk];exact hsz)) ⟨ho,ho2,?_⟩
  rw[e];exact h2 hw
def sIx(n d:Nat):Option Int->Nat
 | none=>d
 | some v=>if v<0 then (v+(n:Int)).toNat else min v.toNat n
end
end HT
namespace L2
open PySem PySem.Spec PyProof.Rows
abbrev TO:=St->Hp->(Option Int->Hp->Prop)->Prop
def PO(X:Cx)(e:Option Expr)(t:TO):Prop:=
 ∀(Mi:List (Jc×Obj))(s:Jb)(σ:St)(H:Hp)(Q:Option Int->Hp->Prop),Inv X Mi σ H s->t σ H Q->
  wpAny (model X.prog X.w) X.A (evalPart e X.env) (fun u s'=>∃ o H',Inv X Mi σ H' s'/\IsPart u o/\Q o H') X.xe s
abbrev zOR:TO:=fun _ H Q=>Q none H
abbrev zRS(t:TE):TO:=fun σ H Q=>t σ H fun x H1=>∃ i,x=.int i/\Q (some i) H1
section
variable{X:Cx}{e:Expr}{te:TE}{lo hi:Option Expr}{tl th:TO}{pos p2:Pos}
theorem zPe:PO X none zOR:=by
 intro Mi s σ H Q I h;rw[evalPart_none];exact Jw ⟨none,H,I,.none,h⟩
theorem zPc(h:PE X e te):PO X (some e) (zRS te):=by
 intro Mi s σ H Q I hw;rw[evalPart_some];refine thn (h Mi s σ H _ I hw) fun u s1 ⟨x,H1,I1,r1,q1⟩=>?_
 obtain⟨i,rfl,q⟩:=q1;obtain⟨t,rfl⟩:=r1;exact⟨some i,H1,I1,.int i t,q⟩
def SlR(X:Cx)(r:V->Option Int->Option Int->Hp->VK->Prop):Prop:=
 ∀(Mi:List (Jc×Obj))(s:Jb)(σ:St)(H:Hp)(x:V)(v vl vu:Ja)(lo hi:Option Int)(sl:Jc)(Q:VK),Inv X Mi σ H s->dH x v->s.heap.IsSliceOf sl vl vu .none->IsPart vl lo->IsPart vu hi->r x lo hi H Q->
  ∃ T id,typeLookup (.type T) "__getitem__" = pure (some (.builtin id))/\s.TypeIs v T/\wpAny (model X.prog X.w) X.A (getItem v (.ref sl)) (EP X Mi σ Q) X.xe s
abbrev tSl(r:V->Option Int->Option Int->Hp->VK->Prop)(te:TE)(tl th:TO):TE:=fun σ H Q=>te σ H fun x H1=>tl σ H1 fun l H2=>th σ H2 fun u H3=>r x l u H3 Q
theorem zLo{r:V->Option Int->Option Int->Hp->VK->Prop}(hr:SlR X r)(he:PE X e te)(hl:PO X lo tl)(hu:PO X hi th):PE X (.Subscript e (.Slice lo hi none p2) pos) (tSl r te tl th):=by
 intro Mi s σ H Q I h;refine Subscript_ (thn (he Mi s σ H _ I h) fun v s1 ⟨x,H1,I1,r1,q1⟩=>?_)
 refine wpAny_Slice (thn (hl Mi s1 σ H1 _ I1 q1) fun vl s2 ⟨l,H2,I2,pl,q2⟩=>thn (hu Mi s2 σ H2 _ I2 q2) fun vu s3 ⟨u,H3,I3,pu,q3⟩=>?_)
 rw[evalPart_none];refine Jw ?_
 have I4:Inv X Mi σ H3 { s3 with heap:=s3.heap.push { cls:=.type "slice", data:=.fields #[vl,vu,.none] } }:=I3.kept (t':=s3.toks) fun b ob q=>Heap.get?_push_of_some _ q
 obtain⟨T,id,hT,ht,hg⟩:=hr Mi { s3 with heap:=s3.heap.push { cls:=.type "slice", data:=.fields #[vl,vu,.none] } } σ H3 x v vl vu l u s3.heap.objs.size Q I4 r1 (Heap.IsSliceOf.new ..) pl pu q3;show wpAny (model X.prog X.w) X.A (subscriptTail e (.Slice lo hi none p2) v (.ref s3.heap.objs.size)) (EP X Mi σ Q) X.xe { s3 with heap:=s3.heap.push { cls:=.type "slice", data:=.fields #[vl,vu,.none] } }
 exact tail_any (ops:=[.ref s3.heap.objs.size,v]) ht hT hg (by with_unfolding_all rfl)
def zPl(xs:List V)(lo hi:Option Int):List V:=(xs.drop (HT.sIx xs.length 0 lo)).take (HT.sIx xs.length xs.length hi-HT.sIx xs.length 0 lo)
theorem zEC(xs:List V)(lo hi:Option Int):(zPl xs lo hi).length<=xs.length:=by
 unfold zPl;rw[Yc,Vu];omega
def zQb(K:PySem.W.Frag):R2:=fun x y H Q=>∃ a b xs ys,x=.ref a/\y=.ref b/\SqT K H a xs/\SqT K H b ys/\xs≠[]/\xs.length+ys.length<=sizeLine/\
 (ys=[]->Q (.ref a) H)/\(ys≠[]->∀ p,H p=none->Q (.ref p) (upd H p (.tup (xs++ys))))
theorem dS.nil_iff{xs:List V}{us:List Ja}(r:dS xs us):us=[] ↔ xs=[]:=by
 cases r with
 | nil=>simp
 | cons _ _=>simp
theorem zNG:OpR X (binaryOp .Add) (zQb X.K):=by
 intro Mi s σ H x y v u Q I rx ry h;obtain⟨a,b,xs,ys,rfl,rfl,ha,hb,hx,hz,q1,q2⟩:=h;cases rx;cases ry;obtain⟨its,r1,p1,_⟩:=I.tuple ha;obtain⟨its2,r2,p2,_⟩:=I.tuple hb;refine HT.cat_tup p1 p2 (fun z=>hx (r1.nil_iff.mp z)) (fun z=>⟨.ref a,H,I,rfl,q1 (r2.nil_iff.mp z)⟩) (fun z=>?_) (by rw[<-r1.length,<-r2.length];exact hz)
 refine⟨.ref s.heap.objs.size,_,I.laid (t':=s.toks) (o:=.tup (xs++ys)) (fun b ob q=>Heap.get?_push_of_some _ q) (Qh _) ?_,rfl,q2 (fun w=>z (r2.nil_iff.mpr w)) _ (I.hok.fresh (Qh _))⟩
 exact⟨by rw[Ql];exact hz,_,r1.append r2,IsTup.new _ _⟩
end
def ixN(n:Nat)(i:Int):Option Nat:=if 0<=i then (if i<n then some i.toNat else none) else if -(n:Int)<=i then some (i+n).toNat else none
def atI{α:Type}(xs:List α)(i:Int):Option α:=(ixN xs.length i).bind fun j=>xs[j]?
theorem zHF{n:Nat}{i:Int}{j:Nat}(h:ixN n i=some j):seqIndex? i n=some j/\j<n/\-(n:Int)<=i/\i<n:=by
 unfold ixN at h;by_cases h0:0<=i
 ·rw[Jk h0] at h
  by_cases h1:i<n
  ·rw[Jk h1] at h
   have e:i.toNat=j:=Vj h;exact⟨by rw[J3 h0 h1,e],by omega,by omega,h1⟩
  ·rw[Jl h1] at h;cases h
 ·rw[Jl h0] at h
  by_cases h1:-(n:Int)<=i
  ·rw[Jk h1] at h
   have e:(i+n).toNat=j:=Vj h;exact⟨by rw[J4 (by omega) h1,e],by omega,h1,by omega⟩
  ·rw[Jl h1] at h;cases h
theorem zKm{α:Type}{xs:List α}{i:Int}{v:α}(h:atI xs i=some v):∃ j,seqIndex? i xs.length=some j/\xs[j]?=some v/\j<xs.length/\-(xs.length:Int)<=i/\i<xs.length:=by
 unfold atI at h
 cases e:ixN xs.length i with
 | none=>rw[e] at h;cases h
 | some j=>
  rw[e] at h;obtain⟨h1,h2,h3,h4⟩:=zHF e;exact⟨j,h1,h,h2,h3,h4⟩
theorem zEM{α:Type}{xs:List α}{j:Nat}{v:α}(h:xs[j]?=some v):atI xs (j:Int)=some v:=by
 have hj:j<xs.length:=(Qx.mp h).1
 have e:ixN xs.length (j:Int)=some j:=by
  unfold ixN;rw[Jk (by omega),Jk (by omega)];simp
 unfold atI;rw[e];exact h
def zEF(b:Expr):Prop:=∀ o i,subscripted b false o i=operate [o,i] (getItem o i)
def IxR(X:Cx)(r:R2):Prop:=
 ∀(value slice:Expr)(Mi:List (Jc×Obj))(s:Jb)(σ:St)(H:Hp)(x y:V)(v u:Ja)(Q:VK),Inv X Mi σ H s->dH x v->dH y u->r x y H Q->
  subscripted slice false v u=operate [v,u] (getItem v u)->wpAny (model X.prog X.w) X.A (subscriptTail value slice v u) (EP X Mi σ Q) X.xe s
def MtR(X:Cx)(id:String)(r:V->List V->Hp->VK->Prop):Prop:=
 ∀(Mi:List (Jc×Obj))(s:Jb)(σ:St)(H:Hp)(x:V)(xs:List V)(v:Ja)(us:List Ja)(Q:VK),Inv X Mi σ H s->dH x v->dS xs us->r x xs H Q->
  wpAny (model X.prog X.w) X.A (call (.builtin id) (v::us)) (EP X Mi σ Q) X.xe s
section
variable{X:Cx}{a b:Expr}{ta tb:TE}{pos:Pos}
theorem IxR.or{r r':R2}(h:IxR X r)(h':IxR X r'):IxR X (fun x y H Q=>r x y H Q∨r' x y H Q):=by
 intro value slice Mi s σ H x y v u Q I rx ry q hs;rcases q with q | q
 ·exact h value slice Mi s σ H x y v u Q I rx ry q hs
 ·exact h' value slice Mi s σ H x y v u Q I rx ry q hs
theorem zGQ{r:R2}(hr:IxR X r)(ha:PE X a ta)(hb:PE X b tb)(hs:zEF b):PE X (.Subscript a b pos) (tOp r ta tb):=by
 intro Mi s σ H Q I h;exact Subscript_ (zSw ha hb I h fun v u s2 x y H2 I2 rx ry q=>hr a b Mi s2 σ H2 x y v u Q I2 rx ry q (hs _ _))
def zRx(K:PySem.W.Frag):R2:=fun x y H Q=>∃ p xs i v,x=.ref p/\y=.int i/\SqL K H p xs/\atI xs i=some v/\Q v H
def zRH(K:PySem.W.Frag):R2:=fun x y H Q=>∃ p xs i v,x=.ref p/\y=.int i/\SqT K H p xs/\atI xs i=some v/\Q v H
theorem zOn:IxR X (zRx X.K):=by
 intro value slice Mi s σ H x y v u Q I rx ry h hs;obtain⟨p,xs,i,z,rfl,rfl,hq,he,q⟩:=h;cases rx;obtain⟨t,rfl⟩:=ry;obtain⟨its,r,pl,hz⟩:=I.list hq;obtain⟨j,h1,h2,h3,h4,h5⟩:=zKm he;obtain⟨w,ew,rw'⟩:=r.get h2;have hl:=r.length;have hn:=zFh;have fin:EP X Mi σ Q w s:=⟨z,H,I,rw',q⟩;by_cases h0:0<=i
 ·have hj:i.toNat=j:=by
   rw[J3 h0 h5] at h1;exact Vj h1
  exact item_listR pl.isList h0 (by omega) (by rw[hj];simpa using ew) fin hs
 ·have hj:(i+(its.toArray.size:Int)).toNat=j:=by
   rw[J4 (by omega) h4] at h1;rw[Qk,<-hl];exact Vj h1
  exact J5 (x:=w) pl.isList.typeIs slot_list_getitem.lookup
   (wpAny_getItem_list_neg (Q:=fun r s'=>r=w/\EP X Mi σ Q r s') pl.isList (by omega) (by rw[Qk]<;>omega) (by omega) (by rw[hj];simpa using ew) ⟨rfl,fin⟩) hs
theorem zQg:IxR X (zRH X.K):=by
 intro value slice Mi s σ H x y v u Q I rx ry h hs;obtain⟨p,xs,i,z,rfl,rfl,hq,he,q⟩:=h;cases rx;obtain⟨t,rfl⟩:=ry;obtain⟨its,r,pl,hz⟩:=I.tuple hq;obtain⟨j,h1,h2,h3,h4,h5⟩:=zKm he;obtain⟨w,ew,rw'⟩:=r.get h2;have hl:=r.length;have hn:=zFh;have fin:EP X Mi σ Q w s:=⟨z,H,I,rw',q⟩
 exact J5 (x:=w) pl.typeIs slot_tuple_getitem.lookup
  (getItem_tuple (j:=j) (Q:=fun r s'=>r=w/\EP X Mi σ Q r s') pl (by omega) (by omega) (by rw[Qk,<-hl];exact h1) (by simpa using ew) ⟨rfl,fin⟩) hs
theorem zGz(its:List Ja)(n j:Nat)(u:Ja):Obj.mapSeq (·.setIfInBounds j u) { cls:=.type "list", data:=.seq its.toArray n }={ cls:=.type "list", data:=.seq (its.set j u).toArray n }:=by
 simp[Obj.mapSeq]
theorem Inv.lst{Mi:List (Jc×Obj)}{σ:St}{H:Hp}{s:Jb}{p:Jc}{xs:List V}(I:Inv X Mi σ H s)(h:H p=some (.lst xs)):
  ∃(its:List Ja)(n:Nat),dS xs its/\s.heap.get? p=some { cls:=.type "list", data:=.seq its.toArray n }/\xs.length<=sizeLine:=by
 obtain⟨z,its,n,r,e⟩:=I.hok p _ h;exact⟨its,n,r,e,z⟩
theorem Inv.lstUpd{Mi:List (Jc×Obj)}{σ:St}{H:Hp}{s:Jb}{p:Jc}{xs ys:List V}{its its':List Ja}{n n':Nat}{f:Obj->Obj}(I:Inv X Mi σ H s)(h:H p=some (.lst xs))
  (ho:s.heap.get? p=some { cls:=.type "list", data:=.seq its.toArray n }) (hf:f { cls:=.type "list", data:=.seq its.toArray n }={ cls:=.type "list", data:=.seq its'.toArray n' }) (r:dS ys its') (hz:ys.length<=sizeLine) (t:Nat):
  Inv X Mi σ (upd H p (.lst ys)) { s with heap:=s.heap.update p f,toks:=t }:=by
 have e:(s.heap.update p f).get? p=some { cls:=.type "list", data:=.seq its'.toArray n' }:=by
  rw[Heap.get?_update_self f ho (by rw[hf]<;>rfl),hf]
 refine I.write (x:=p) (e:=p) (by rw[h];trivial) (.inl rfl) (fun b u hb q=>(Heap.get?_update_other _ _ (Ne.symm hb)).trans q) ⟨_,e⟩ ?_
 exact⟨hz,its',n',r,e⟩
def zSl:V->V->V->Hp->(Hp->Prop)->Prop:=fun o i v H Q=>∃ p xs k j,o=.ref p/\i=.int k/\H p=some (.lst xs)/\ixN xs.length k=some j/\Q (upd H p (.lst (xs.set j v)))
theorem zLa:zTi X zSl:=by
 intro Mi s σ H o i v ov iv u Q I ro ri rv h;obtain⟨p,xs,k,j,rfl,rfl,hp,hj,q⟩:=h;cases ro;obtain⟨t,rfl⟩:=ri;obtain⟨its,n,r,ho,hz⟩:=I.lst hp;obtain⟨h1,h2,h3,h4⟩:=zHF hj;have hl:=r.length;have hn:=zFh
 have I':Inv X Mi σ (upd H p (.lst (xs.set j v))) { s with heap:=s.heap.update p (Obj.mapSeq (·.setIfInBounds j u)) }:=
  I.lstUpd hp ho (zGz its n j u) (r.set rv j) (by rw[Q6];exact hz) s.toks
 by_cases h0:0<=k
 ·have hk:k.toNat=j:=by
   rw[J3 h0 h4] at h1;exact Vj h1
  exact PySem.W.ki_setAt ho h0 (by omega) (by rw[Qk,<-hl];exact h4) (by rw[hk];exact⟨_,I',q⟩)
 ·have hk:(k+(its.toArray.size:Int)).toNat=j:=by
   rw[J4 (by omega) h3] at h1;rw[Qk,<-hl];exact Vj h1
  exact PySem.W.ki_setBack ho (by omega) (by rw[Qk,<-hl];exact h3) (by omega) (by rw[hk];exact⟨_,I',q⟩)
theorem zDr(lo hi:Option Int)(n:Nat):(sliceBounds lo hi none n).1=((HT.sIx n 0 lo:Nat):Int)/\(sliceBounds lo hi none n).2.1=((HT.sIx n n hi:Nat):Int)/\(sliceBounds lo hi none n).2.2=1:=by
 refine⟨?_,?_,rfl⟩
 ·cases lo with
  | none=>simp[sliceBounds,HT.sIx]
  | some i=>
   simp only[sliceBounds,HT.sIx,Option.getD_none,show(1:Int) > 0 by decide,if_true];by_cases h:i<0
   ·simp only[h,if_true]<;>omega
   ·simp only[h,if_false]<;>omega
 ·cases hi with
  | none=>simp[sliceBounds,HT.sIx]
  | some i=>
   simp only[sliceBounds,HT.sIx,Option.getD_none,show(1:Int) > 0 by decide,if_true];by_cases h:i<0
   ·simp only[h,if_true]<;>omega
   ·simp only[h,if_false]<;>omega
theorem zAH(its:List Ja)(lo hi:Option Int):slicePick its.toArray lo hi none=((its.drop (HT.sIx its.length 0 lo)).take (HT.sIx its.length its.length hi-HT.sIx its.length 0 lo)).toArray:=by
 obtain⟨h1,h2,h3⟩:=zDr lo hi its.toArray.size;unfold slicePick;rw[h1,h2,h3];simp only[sliceRange_one,pick_run,Qk]<;>rfl
def zTK(K:PySem.W.Frag):V->Option Int->Option Int->Hp->VK->Prop:=fun x lo hi H Q=>∃ a xs,x=.ref a/\SqL K H a xs/\∀ p,H p=none->Q (.ref p) (upd H p (.lst (zPl xs lo hi)))
theorem zOA:SlR X (zTK X.K):=by
 intro Mi s σ H x v vl vu lo hi sl Q I rx hs pl pu h;obtain⟨a,xs,rfl,hx,q⟩:=h;cases rx;obtain⟨its,r,ht,hz⟩:=I.list hx;have hlen:=r.length;refine⟨"list", _,slot_list_getitem.lookup,ht.isList.typeIs,?_⟩
 refine wpAny_getItem_list_slice ht.isList hs pl pu .none (by simp) ?_ (by rw[Qk]<;>omega)
 rw[zAH,<-hlen];refine⟨.ref s.heap.objs.size,_,I.laid (t':=s.toks) (o:=.lst (zPl xs lo hi)) (fun b ob q=>Heap.get?_push_of_some _ q) (Qh _) ?_,rfl,q _ (I.hok.fresh (Qh _))⟩
 exact⟨Q5 (zEC xs lo hi) hz,_,0,(r.drop (HT.sIx xs.length 0 lo)).take (HT.sIx xs.length xs.length hi-HT.sIx xs.length 0 lo),Heap.get?_push_size _ rfl⟩
theorem aR:qC X (.builtin "len") (fun xs H Q=>∃ p ys,xs=[.ref p]/\(SqL X.K H p ys∨SqT X.K H p ys)/\Q (.int ys.length) H):=by
 intro Mi s σ H xs us Q I r h;obtain⟨p,ys,rfl,hq,q⟩:=h;obtain⟨u,rfl,rx⟩:=zCg r;cases rx;have hn:=zFh;rcases hq with hq | hq
 ·obtain⟨its,r',pl,hz⟩:=I.list hq
  have hlen:=r'.length;exact Calls.call_len_list pl.isList (by simp only[Qk]<;>omega) ⟨.int ys.length,H,I.tok _,⟨s.toks+1,by rw[Qk,hlen]⟩,q⟩
 ·obtain⟨its,r',pl,hz⟩:=I.tuple hq
  have hlen:=r'.length;exact len_tuple pl (by simp only[Qk]<;>omega) ⟨.int ys.length,H,I.tok _,⟨s.toks+1,by rw[Qk,hlen]⟩,q⟩
theorem lK:qC X (.type "tuple") (fun xs H Q=>∃ p ys,xs=[.ref p]/\((SqL X.K H p ys/\∀ l,H l=none->Q (.ref l) (upd H l (.tup ys)))∨(SqT X.K H p ys/\Q (.ref p) H))):=by
 intro Mi s σ H xs us Q I r h;obtain⟨p,ys,rfl,h⟩:=h;obtain⟨u,rfl,rx⟩:=zCg r;cases rx;rcases h with⟨hq,q⟩ | ⟨hq,q⟩
 ·obtain⟨its,r',pl,hz⟩:=I.list hq
  have hlen:=r'.length;refine call_tuple_list pl.isList (fun h' kp=>?_) (by simp only[Qk]<;>omega)
  have I1:Inv X Mi σ H { s with heap:=h' }:=I.kept (t':=s.toks) kp
  have I2:Inv X Mi σ (upd H h'.objs.size (.tup ys)) { s with heap:=h'.push { cls:=.type "tuple", data:=.seq its.toArray } }:=
   I1.laid (t':=s.toks) (fun b o e=>Heap.get?_push_of_some _ e) (Qh _) (show mZ X.prog X.w _ _ _ (.tup ys) from ⟨hz,its,r',IsTup.new _ _⟩)
  exact⟨.ref h'.objs.size,_,I2,rfl,q _ (I1.hok.fresh (Qh _))⟩
 ·obtain⟨its,r',pl,hz⟩:=I.tuple hq
  exact call_tuple_same pl ⟨.ref p,H,I,rfl,q⟩
def tyV(K:PySem.W.Frag)(T:String)(x:V)(H:Hp):Prop:=match x with
 | .str _=>T = "str"
 | .int _=>T = "int"
 | .ref p=>(T = "list" /\ ∃ xs,SqL K H p xs)∨(T = "tuple" /\ ∃ o,K.lookup p=some o/\o.cls=.type "tuple" /\ o.dict=none)∨
   (T = "dict" /\ ((∃ kvs,H p=some (.dK kvs))∨∃ kvs,H p=some (.dT kvs)))∨(T = "set" /\ ∃ S n,H p=some (.set S n))
 | _=>False
theorem zMx{Mi:List (Jc×Obj)}{σ:St}{H:Hp}{s:Jb}{T:String}{x:V}{v:Ja}(I:Inv X Mi σ H s)(r:dH x v)(ty:tyV X.K T x H):
  s.TypeIs v T/\∀ a,v=.ref a->∃ ob,s.heap.get? a=some ob/\ob.dict=none:=by
 cases x with
 | str z=>
  obtain⟨t,rfl⟩:=r;cases (show T = "str" from ty)
  exact⟨typeIs_str s z t,fun _ e=>nomatch e⟩
 | int i=>
  obtain⟨t,rfl⟩:=r;cases (show T = "int" from ty)
  exact⟨typeIs_int s i t,fun _ e=>nomatch e⟩
 | ref p=>
  cases r;rcases ty with⟨rfl,xs,hq⟩ | ⟨rfl,o,hk,hc,hd⟩ | ⟨rfl,hk⟩ | ⟨rfl,S,n,hk⟩
  ·obtain⟨its,_,pl,_⟩:=I.list hq
   refine⟨pl.isList.typeIs,fun a e=>?_⟩
   cases e;obtain⟨o,n,e,c,hd,_⟩:=pl;exact⟨o,e,hd⟩
  ·refine⟨⟨o,I.kIn p o hk,hc⟩,fun a e=>?_⟩
   cases e;exact⟨o,I.kIn _ o hk,hd⟩
  ·have z:∃ o,s.heap.get? p=some o/\o.ExactDict:=by
    rcases hk with⟨kvs,hk⟩ | ⟨kvs,hk⟩
    ·obtain⟨_,_,_,_,o,_,_,e,ex,_⟩:=I.hok p _ hk
     exact⟨o,e,ex⟩
    ·obtain⟨_,_,_,_,o,_,_,e,ex,_⟩:=I.hok p _ hk
     exact⟨o,e,ex⟩
   obtain⟨o,e,ex⟩:=z;refine⟨⟨o,e,ex.1⟩,fun a e2=>?_⟩
   cases e2;exact⟨o,e,ex.2.1⟩
  ·obtain⟨o,_,_,_,e,ex,_⟩:=I.hok p _ hk
   refine⟨⟨o,e,ex.1⟩,fun a e2=>?_⟩
   cases e2;exact⟨o,e,ex.2.1⟩
 | _=>exact False.elim ty
abbrev zTM(K:PySem.W.Frag)(T:String)(r:V->List V->Hp->VK->Prop)(to:TE):TE:=fun σ H Q=>to σ H fun x H1=>tyV K T x H1/\r x [] H1 Q
abbrev tBM(K:PySem.W.Frag)(T:String)(r:V->List V->Hp->VK->Prop)(to:TE)(t:TA):TE:=fun σ H Q=>to σ H fun x H1=>tyV K T x H1/\t σ H1 fun xs H2=>r x xs H2 Q
variable{o e:Expr}{es:List Expr}{to:TE}{t:TA}{name:Str}{apos cpos:Pos}{T id:String}{r:V->List V->Hp->VK->Prop}
theorem zRc(pa:PlainAttrs T)(slot:Slot T name id)(hty:typeOf (.builtin id)=pure (.type "method_descriptor"))(hm:MtR X id r)(ho:PE X o to)
  (hbase:attributeBase o name X.env (eval o X.env)=eval o X.env:=by rfl) (hline:(apos.endLine==cpos.line)=true:=by rfl):PE X (.Call (.Attribute o name apos) [] [] cpos) (zTM X.K T r to):=by
 intro Mi s σ H Q I h;refine wpAny_Call_method0_late hbase hline (thn (ho Mi s σ H _ I h) fun v s1 ⟨x,H1,I1,r1,ty,q1⟩=>?_)
 obtain⟨h1,h2⟩:=zMx I1 r1 ty;exact⟨T,id,pa,slot,hty,h1,h2,Calls.callWith_builtin rfl (PySem.evalArgs_none (hm Mi s1 σ H1 x [] v [] Q I1 r1 .nil q1))⟩
theorem zQr(pa:PlainAttrs T)(slot:Slot T name id)(hty:typeOf (.builtin id)=pure (.type "method_descriptor"))(hm:MtR X id r)(ho:PE X o to)(ha:PA X (e::es) t)
  (hbase:attributeBase o name X.env (eval o X.env)=eval o X.env:=by rfl)
  (hfew:((backTo cpos (starEach (e::es) X.env)).all (fun x=>!x.1) && (backToKw cpos (keywordEach [] X.env)).all (fun x=>x.1.isSome)
   && decide ((e::es).length+([]:List Keyword).length+(if ([]:List Keyword).isEmpty then 0 else 1)<30))=true:=by rfl)
  (hline:(apos.endLine==cpos.line)=true:=by rfl) (hs:starEach (e::es) X.env=(false,eval e X.env)::starEach es X.env:=by rfl) (hplain:(backTo cpos (starEach es X.env)).any (·.1)=false:=by rfl):
  PE X (.Call (.Attribute o name apos) (e::es) [] cpos) (tBM X.K T r to t):=by
 intro Mi s σ H Q I h;refine wpAny_Call_method_late hbase hfew hline rfl (thn (ho Mi s σ H _ I h) fun v s1 ⟨x,H1,I1,r1,ty,q1⟩=>?_)
 obtain⟨h1,h2⟩:=zMx I1 r1 ty;refine⟨T,id,pa,slot,hty,h1,h2,?_⟩
 have hA:=ha cpos Mi s1 σ H1 _ I1 q1;rw[hs] at hA ⊢
 refine Calls.callWith_builtin (by show(false || (backTo cpos (starEach es X.env)).any (·.1))=false;rw[hplain]<;>rfl) (Calls.evalArgs_plain ?_)
 exact thn hA fun us s2 ⟨vs,H2,I2,r2,q2⟩=>hm Mi s2 σ H2 x vs v us Q I2 r1 r2 q2
end
def MtM(X:Cx)(id:String)(r:V->List V->Hp->VK->Prop):Prop:=
 ∀(Mi:List (Jc×Obj))(s:Jb)(σ:St)(H:Hp)(x:V)(xs:List V)(v:Ja)(us:List Ja)(Q:VK),Inv X Mi σ H s->dH x v->dS xs us->r x xs H Q->
  wpAny (model X.prog X.w) X.A (call (.builtin id) (v::us)) (EP X Mi σ Q) X.xe s
theorem dS.one:∀ {x:V} {us:List Ja},dS [x] us->∃ u,us=[u]/\dH x u
 | _,_,.cons r .nil=>⟨_,rfl,r⟩
theorem dS.zero:∀ {us:List Ja},dS [] us->us=[]
 | _,.nil=>rfl
theorem dS.dropLast{xs:List V}{us:List Ja}(h:dS xs us):dS xs.dropLast us.dropLast:=by
 induction h with
 | nil=>exact .nil
 | cons r t ih=>
  cases t with
  | nil=>exact .nil
  | cons q t'=>exact .cons r ih
theorem dS.rep{xs:List V}{us:List Ja}(h:dS xs us):∀ k:Nat,dS (List.replicate k xs).flatten (List.replicate k us).flatten
 | 0=>.nil
 | k+1=>by
  rw[Xq,Xq,X0,X0];exact dS.append h (dS.rep h k)
theorem zGB{α:Type}(l:List α):l.eraseIdx (l.length-1)=l.dropLast:=by
 induction l with
 | nil=>rfl
 | cons a r ih=>
  cases r with
  | nil=>rfl
  | cons b r=>
   have e:(a::b::r).length-1=((b::r).length-1)+1:=by
    have h1:(a::b::r).length=r.length+2:=rfl;have h2:(b::r).length=r.length+1:=rfl;omega
   rw[e,List.eraseIdx_cons_succ,ih]
   all_goals rfl
theorem zCY(its:List Ja):∀(k:Nat)(acc:List Ja),
  List.foldl (fun x1 x2=>x1++x2) acc.toArray (List.replicate k its.toArray)=(acc++(List.replicate k its).flatten).toArray
 | 0,acc=>by simp
 | k+1,acc=>by
  have e:acc.toArray++its.toArray=(acc++its).toArray:=by simp
  have e2:(acc++its)++(List.replicate k its).flatten=acc++(List.replicate (k+1) its).flatten:=by
   rw[Xq,X0,V3]
  rw[<-e2,<-zCY its k (acc++its),<-e,Xq,Ur]
section
variable{X:Cx}{Mi:List (Jc×Obj)}{σ:St}{H:Hp}{s:Jb}{l b:Jc}{xs ys zs:List V}
theorem Inv.lset{its its':List Ja}{n:Nat}{f:Array Ja->Array Ja}{t':Nat}(I:Inv X Mi σ H s)(hH:H l=some (.lst xs))
  (e:s.heap.get? l=some { cls:=.type "list", data:=.seq its.toArray n }) (hf:f its.toArray=its'.toArray) (hv:dS ys its') (hz:ys.length<=sizeLine):
  Inv X Mi σ (upd H l (.lst ys)) { s with heap:=s.heap.update l (Obj.mapSeq f),toks:=t' }:=by
 have q:=PySem.IsL.update e f;rw[hf] at q;refine I.write (x:=l) (e:=l) (by rw[hH];exact trivial) (.inl rfl) (fun b' u hb hu=>(Heap.get?_update_other s.heap (Obj.mapSeq f) (Ne.symm hb)).trans hu) ⟨_,q⟩ ?_
 exact⟨hz,its',_,hv,q⟩
theorem Inv.lnew{its:List Ja}{t':Nat}(I:Inv X Mi σ H s)(hv:dS ys its)(hz:ys.length<=sizeLine):
  Inv X Mi σ (upd H s.heap.objs.size (.lst ys)) { s with heap:=s.heap.push { cls:=.type "list", data:=.seq its.toArray },toks:=t' }:=
 I.laid (fun _ _ q=>Heap.get?_push_of_some _ q) (Qh _) ⟨hz,its,0,hv,Heap.get?_push_size _ rfl⟩
theorem Inv.fresh(I:Inv X Mi σ H s):H s.heap.objs.size=none:=I.hok.fresh (Qh _)
theorem Inv.lstM(I:Inv X Mi σ H s)(hH:H l=some (.lst xs)):xs.length<=sizeLine/\∃(its:List Ja)(n:Nat),dS xs its/\xs.length=its.length/\s.heap.get? l=some { cls:=.type "list", data:=.seq its.toArray n }:=by
 obtain⟨z,its,n,r,e⟩:=I.hok l _ hH;exact⟨z,its,n,r,r.length,e⟩
theorem zFc{n:Nat}(h:n<=sizeLine):Builtin.List.listTooLong n=false:=by
 unfold Builtin.List.listTooLong;exact Jj (by omega)
end
section
variable{X:Cx}
def zNv:V->List V->Hp->VK->Prop:=fun x vs H Q=>∃ l xs y,x=.ref l/\vs=[y]/\H l=some (.lst xs)/\xs.length<sizeLine/\Q .non (upd H l (.lst (xs++[y])))
theorem xA:MtM X "list.append" zNv:=by
 intro Mi s σ H x vs v us Q I rx rv h;obtain⟨l,xs,y,rfl,rfl,hH,hz,q⟩:=h;cases rx;obtain⟨u,rfl,ru⟩:=rv.one;obtain⟨z,its,n,r,hl,e⟩:=I.lstM hH;refine call_meets F.slot_list_append ⟨_,e,rfl⟩ F.entry_list_append (F.args_list_append_2 _ _) (PySem.list_append l its.toArray n u (by rw[Qk];omega)) ⟨e,?_⟩
 refine⟨.non,_,I.lset (its':=its++[u]) hH e (by simp) (r.append (.cons ru .nil)) ?_,rfl,q⟩
 rw[Ql,Us];omega
def zOQ:V->List V->Hp->VK->Prop:=fun x vs H Q=>∃ l b xs zs,x=.ref l/\vs=[.ref b]/\H l=some (.lst xs)/\H b=some (.lst zs)/\xs.length+zs.length<=sizeLine/\Q .non (upd H l (.lst (xs++zs)))
theorem zHu:MtM X "list.extend" zOQ:=by
 intro Mi s σ H x vs v us Q I rx rv h;obtain⟨l,b,xs,zs,rfl,rfl,hH,hB,hz,q⟩:=h;cases rx;obtain⟨u,rfl,ru⟩:=rv.one;cases ru;obtain⟨z,its,n,r,hl,e⟩:=I.lstM hH;obtain⟨z2,its2,n2,r2,hl2,e2⟩:=I.lstM hB;have hsz:its.toArray.size+its2.toArray.size<=sizeLine:=by rw[Qk,Qk];omega
 have hlong:¬ (!its.toArray.isEmpty && Builtin.List.listTooLong (its.toArray.size+its2.toArray.size))=true:=by
  rw[zFc hsz,Ut];exact X7
 refine call_meets F.slot_list_extend ⟨_,e,rfl⟩ F.entry_list_extend (F.args_list_extend_2 _ _)
  (AutoSeq1.list_extend_list_list_0 l its.toArray n b its2.toArray n2 hlong (by rw[Qk];omega) (by omega)) ⟨e,e2,?_⟩
 refine⟨.non,_,I.lset (its':=its++its2) hH e (by simp) (r.append r2) ?_,rfl,q⟩
 rw[Ql];omega
def zTG:V->List V->Hp->VK->Prop:=fun x vs H Q=>∃ l xs y,x=.ref l/\vs=[]/\H l=some (.lst xs)/\xs[xs.length-1]?=some y/\Q y (upd H l (.lst xs.dropLast))
theorem zQm:MtM X "list.pop" zTG:=by
 intro Mi s σ H x vs v us Q I rx rv h;obtain⟨l,xs,y,rfl,rfl,hH,hy,q⟩:=h;cases rx;have hus:=rv.zero;subst hus;obtain⟨z,its,n,r,hl,e⟩:=I.lstM hH;obtain⟨u,hu,ru⟩:=r.get hy
 have hy':its.toArray[its.toArray.size-1]?=some u:=by
  show its.toArray[its.length-1]?=some u
  rw[<-Uu,<-hl];exact hu
 refine call_meets F.slot_list_pop ⟨_,e,rfl⟩ F.entry_list_pop (F.args_list_pop_1 _) (MeetsSeq.list_pop_last l its.toArray n u hy' (by rw[Qk];omega)) ⟨e,?_⟩
 refine⟨y,_,I.lset (its':=its.dropLast) hH e ?_ r.dropLast ?_,ru,q⟩
 ·show its.toArray.eraseIdxIfInBounds (its.toArray.size-1)=its.dropLast.toArray
  rw[Qk,List.eraseIdxIfInBounds_toArray,zGB]
 ·rw[List.length_dropLast]
  omega
def zTs:R2:=fun x y H Q=>∃ l k xs,x=.ref l/\y=.int k/\H l=some (.lst xs)/\-(2^63)<=k/\k<2^63/\xs.length*k.toNat<=sizeLine/\
 ∀ p,H p=none->Q (.ref p) (upd H p (.lst (List.replicate k.toNat xs).flatten))
theorem zOX{α:Type}(xs:List α)(k:Nat):(List.replicate k xs).flatten.length=k*xs.length:=by
 induction k with
 | zero=>simp
 | succ k ih=>rw[Xq,X0,Ql,ih,Nat.succ_mul,Uv]
theorem zQN:OpR X (binaryOp .Mult) zTs:=by
 intro Mi s σ H x y v u Q I rx ry h;obtain⟨l,k,xs,rfl,rfl,hH,h1,h2,hz,q⟩:=h;cases rx;obtain⟨t,rfl⟩:=ry;obtain⟨z,its,n,r,hl,e⟩:=I.lstM hH;have hlen:its.toArray.size*k.toNat<=sizeLine:=by rw[Qk,<-hl];exact hz
 have hcap:¬ its.toArray.size*k.toNat > (2^63-1) / 8:=by
  have:(sizeLine:Nat)<=(2^63-1) / 8:=by decide
  omega
 have hfit:¬ (!Builtin.List.listFitsIndex k)=true:=by
  rw[fitsIndex_both h1 h2];exact X7
 have hlong:¬ Builtin.List.listTooLong (its.toArray.size*k.toNat)=true:=by
  rw[zFc hlen];exact X7
 have hnew:List.foldl (fun x1 x2=>x1++x2) #[] (List.replicate (if its.toArray.isEmpty=true then 0 else k.toNat) its.toArray)=(List.replicate k.toNat its).flatten.toArray:=by
  have f0:∀ m:Nat,List.foldl (fun x1 x2=>x1++x2) #[] (List.replicate m its.toArray)=(List.replicate m its).flatten.toArray:=fun m=>by
   have:=zCY its m []
   rw[Xr] at this;exact this
  rw[f0]
  cases its with
  | nil=>simp
  | cons a r'=>rw[Jl (by simp)]
 refine wpAny_binaryOp_repeat_ref (T := "list") (U := "int") (by decide) ⟨_,e,rfl⟩ (fun s'=>typeIs_int s' k t) noFill_list_mul F.fills_int_mul F.slot_int_rmul repeat_list F.slot_int_index.lookup
  (call_meets F.slot_int_rmul (typeIs_int s k t) F.entry_int_rmul (F.args_int_rmul_2 _ _) (int___rmul___int_list k t l its.toArray n)
   ⟨e,rfl,⟨_,e,rfl⟩,call_meets F.slot_list_mul ⟨_,e,rfl⟩ F.entry_list_mul (F.args_list_mul_2 _ _) (AutoListH.list___mul___list_int_3 l its.toArray n k t hfit hcap hlong) ⟨e,?_⟩⟩)
 rw[hnew];exact⟨.ref _,_,I.lnew (t':=s.toks) (r.rep k.toNat) (by rw[zOX,Nat.mul_comm];exact hz),rfl,q _ I.fresh⟩
end
section
variable{prog:Jf}{w:Jg}{A:Jh}{E:Ja->Jb->Prop}{s:Jb}
set_option maxRecDepth 100000 in
end
section
variable{X:Cx}
end
end L2
namespace Att
open PySem PySem.W PySem.Calls PyProof.Rows
theorem vQ{P:Params}{h:Je}:∀(ns:List Int)(vs:List Ja),WellAll P h vs (ns.map WData.int)->IntsAre vs ns:=by
 intro ns
 induction ns with
 | nil=>
  intro vs w;rw[Xg] at w;cases w;exact .nil
 | cons n ns ih=>
  intro vs w;rw[Qu] at w
  cases w with
  | cons a b=>
   cases a;exact .cons _ _ (ih _ b)
theorem script_of{l:OpenLaw}{n:Nat}(hn:l.most=some n){P:Params}{h:Je}{args:List WData}{vals:List Ja}
  (hpre:l.row.toRowW.claim.pre args=true) (hwl:WellAll P h vals args):
  ∃ a vs ns,vals=[Value.ref a]/\args=[WData.list (ns.map WData.int)]/\h.get? a=some { cls:=.type "list", data:=.seq vs.toArray }/\IntsAre vs ns/\ns.length<=n:=by
 have hsh:WShape.hasAll [] args [.list .int]=true:=(pre_splitW hpre).1;have hc:l.pre.holds [] { args:=args }=true:=(pre_splitW hpre).2;obtain⟨d,r,rfl,h1,h2⟩:=hasAllW_cons hsh;obtain rfl:=hasAllW_nil h2;obtain⟨xs,rfl,h3⟩:=hasW_list h1;obtain⟨ns,rfl⟩:=items_int h3
 have hlen:ns.length<=n:=by
  unfold OpenLaw.pre at hc
  have h4:(WTm.not (.lt (.lit (.int (n:Int))) (.len (.arg 0)))).holds [] { args:=[.list (ns.map .int)] }=true:=by
   have h4:=(holds_andW hc).1;rw[hn] at h4;exact h4
  have h5:=condW_of h4 (w_not (w_lt w_lit (w_len_list (w_arg rfl))));rw[Qg] at h5;refine Nat.le_of_not_lt fun q=>?_
  have q':(n:Int)<((ns.length:Nat):Int):=by omega
  first
   | (rw[J6 q'] at h5;exact absurd h5 (by decide))
   | (simp at h5;omega)
 cases hwl with
 | cons w1 w2=>
  cases w2
  cases w1 with
  | list ho hall=>exact⟨_,_,ns,rfl,rfl,ho,vQ ns _ hall,hlen⟩
theorem post_true(l:OpenLaw)(args:List WData):l.row.toRowW.claim.post args (.bool true) args=true:=
 postW_of (r:=l.row.toRowW) (X:=(true==true))
  (show WShape.has [] (.bool true) .bool=true by first | rfl | decide | simp[WShape.has,WShape.arms,WShape.armsAll])
  (show(WTm.eq .res (.lit (.bool true))).value [] { args:=args,res:=some (.bool true),after:=args }=some (.bool (true==true)) from w_eq_bool (w_res rfl) w_lit) rfl
section
variable{prog:Jf}{w:Jg}{A:Jh}{E:Ja->Jb->Prop}{s:Jb}{K:Frag}
end
end Att
namespace L2
open PySem PySem.Spec PyProof.Rows
theorem zCr:∀ {vs:List Ja} {ns:List Int},IntsAre vs ns->dS (ns.map V.int) vs
 | _,_,.nil=>.nil
 | _,_,.cons n t h=>.cons ⟨t,rfl⟩ (zCr h)
def zTp(H:Hp):Prop:=∀ b,H b=none∨∃ o xs,H b=some (.frz o (.lst xs))
def kP(s:Ji):Arguments:=match s with
 | .FunctionDef _ a _ _ _ _ _ _ _ _=>a
 | _=>{ posonlyargs:=[],args:=[],vararg:=none,kwonlyargs:=[],kw_defaults:=[],kwarg:=none,defaults:=[] }
def gG(s:Ji):List Ji:=match s with
 | .FunctionDef _ _ b _ _ _ _ _ _ _=>b
 | _=>[]
def aH(s:Ji):Scope:=match s with
 | .FunctionDef _ _ _ _ _ _ sc _ _ _=>sc
 | _=>{ kind:=.function,names:=[],isGenerator:=false,isCoroutine:=false }
structure Fun (K:PySem.W.Frag) (x qual:Str) (st:Ji) (f:Jc) (fd:FuncData):Prop where
 ex:∃(oc:Ja)(od:Option Jc)(kV doc pm:Ja)(an:Option Jc)(cdv ct:Ja)(osl:Array (Option Ja)),
  fd=PySem.W.fnOf x qual (kP st) (gG st) (aH st) .none kV doc pm an cdv ct/\K.lookup f=some ⟨oc,od,.func fd,osl⟩/\PySem.W.codeIn K cdv qual=true
 kp:PySem.W.keepIn K (.ref f)=true
section
variable{P:Jf}{w:Jg}{K:Fg_}{mg:Str->Option Ja}{base:Je}
theorem Fun.binds{x qual:Str}{st:Ji}{f:Jc}{fd:FuncData}{ps:List Str}(F:Fun K x qual st f fd)
  (h:∀(kV doc pm:Ja)(an:Option Jc)(cdv ct:Ja)(us:List Ja),us.length=ps.length->bindArgs (PySem.W.fnOf x qual (kP st) (gG st) (aH st) .none kV doc pm an cdv ct) ⟨us,[]⟩=pure (ps.zip us)):zCD K fd ps []:=by
 obtain⟨oc,od,kV,doc,pm,an,cdv,ct,osl,rfl,lk,hcd⟩:=F.ex;exact .all (h kV doc pm an cdv ct)
theorem zR{x qual:Str}{st:Ji}{f:Jc}{oc:Ja}{od an:Option Jc}{osl:Array (Option Ja)}{kV doc pm cdv ct:Ja}(l:K.lookup f=some ⟨oc,od,.func (PySem.W.fnOf x qual (kP st) (gG st) (aH st) .none kV doc pm an cdv ct),osl⟩)
  (c:PySem.W.codeIn K cdv qual=true) (k:PySem.W.keepIn K (.ref f)=true):Fun K x qual st f (PySem.W.fnOf x qual (kP st) (gG st) (aH st) .none kV doc pm an cdv ct):=⟨⟨oc,od,kV,doc,pm,an,cdv,ct,osl,rfl,l,c⟩,k⟩
end
section
variable{X:Cx}
theorem pv(i:Nat){x:Str}{pos:Pos}(hN:X.N[i]?=some x:=by rfl)(hv:Vis X.env.scope x:=by first | exact Or.inl rfl | exact Or.inr (Or.inl rfl) | exact Or.inr (Or.inr rfl))(hd:(x==("__debug__" : Str))=false:=by decide)
  (hcd:(x==("__classdict__" : Str))=false:=by decide):PE X (.Name x pos) (zDE i):=wC hN hv hd hcd
end
def Same(H H':Hp):Prop:=∀ b o,H b=some o->H' b=some o
theorem Same.refl(H:Hp):Same H H:=fun _ _ h=>h
theorem Same.trans{H H1 H2:Hp}(a:Same H H1)(b:Same H1 H2):Same H H2:=fun c o h=>b c o (a c o h)
end L2
set_option maxHeartbeats 4000000
set_option exponentiation.threshold 20000
namespace L2
open PySem PySem.Spec PyProof.Rows
section
variable{X:Cx}
variable{tg:Expr}
end
section
variable{P:Jf}{w:Jg}{H H':Hp}{h:Je}{a:Jc}{o:HO}
theorem mZ.here(x:mZ P w H h a o):∃ ob,h.get? a=some ob:=by
 cases o with
 | lst xs=>obtain⟨_,_,_,_,e⟩:=x;exact⟨_,e⟩
 | tup xs=>obtain⟨_,_,_,e⟩:=x;obtain⟨ob,e,_⟩:=e;exact⟨_,e⟩
 | dK kvs=>obtain⟨_,_,_,_,e⟩:=x;obtain⟨ob,_,_,e,_⟩:=e;exact⟨_,e⟩
 | dT kvs=>obtain⟨_,_,_,_,ob,_,_,e,_⟩:=x;exact⟨_,e⟩
 | set S n=>obtain⟨ob,_,_,_,e,_⟩:=x;exact⟨_,e⟩
 | ins C dx fs=>obtain⟨_,_,_,e,_⟩:=x;exact⟨_,e⟩
 | own y=>exact x
 | xd fs=>obtain⟨_,⟨ob,_,_,e,_⟩,_⟩:=x;exact⟨_,e⟩
 | met f y=>exact⟨_,x⟩
 | rng lo hi=>obtain⟨_,_,_,e⟩:=x;exact⟨_,e⟩
 | frz ob u=>exact⟨_,x.1⟩
 | tbl ps=>exact⟨_,x⟩
 | ext φ=>exact x.2.1
theorem HOk.none_of(ok:HOk P w H h)(e:h.get? a=none):H a=none:=by
 cases q:H a with
 | none=>rfl
 | some o=>
  obtain⟨ob,z⟩:=(ok a o q).here;rw[e] at z;cases z
end
structure Fly (P:Jf) (w:Jg) (l:List Env) (H H':Hp) (s:Jb) (ea:Jc) (cls:Ja) (s':Jb):Prop where
 os:s'.os=s.os
 bare:AllBare s'.gens
 un:Un (frs l) [] H H' s.heap s'.heap
 hok:HOk P w H' s'.heap
 ne:H' ea=none
 new:s.heap.get? ea=none
 fly:∃ B a0,Heap.FlyingW B l ea cls a0 s'.heap/\(∀ b o,s'.heap.get? b=some o->((∃ o',s.heap.get? b=some o')∨H' b≠none)->b∉frs l->B.get? b=some o)
def CX1(P:Jf)(w:Jg):CXT:=fun outer H s E e s'=>∃ ea cls H',e=.ref ea/\Fly P w outer H H' s ea cls s'/\E cls none H'
structure Own (X:Cx):Prop where
 stk:X.stack=X.env::X.outer
 fr:X.env.frame=some X.env.locals
 ex:X.ex=[]
section
variable{X:Cx}{Mi:List (Jc×Obj)}{σ:St}{H H':Hp}{s s':Jb}{ea:Jc}{cls:Ja}
theorem zGn(O:Own X):frs X.stack=X.env.locals::X.fs:=by
 rw[O.stk];show List.filterMap _ (_::_)=_
 rw[Y3,O.fr];rfl
theorem Inv.there0(I:Inv X Mi σ H s)(O:Own X){b:Jc}{o:Obj}(e:X.s₀.heap.get? b=some o):∃ o',s.heap.get? b=some o':=I.base.there b o e (by rw[O.ex];simp)
theorem Inv.ne0(I:Inv X Mi σ H s){b:Jc}{o:Obj}(e:X.s₀.heap.get? b=some o):b≠X.env.locals:=Qq (Qn (Heap.lt_size e) I.ok.above)
theorem Fly.leave(I:Inv X Mi σ H s)(O:Own X)(F:Fly X.prog X.w X.stack H H' s ea cls s'){h':Je}{B:Je}{a0:Ja}
  (hf:Heap.FlyingW B X.stack ea cls a0 s'.heap) (cov:∀ b o,s'.heap.get? b=some o->((∃ o',s.heap.get? b=some o')∨H' b≠none)->b∉frs X.stack->B.get? b=some o)
  (hf':Heap.FlyingW B X.outer ea cls a0 h') (up:s'.heap.UpToSlots h'):Fly X.prog X.w X.outer X.H₀ H' X.s₀ ea cls { s' with heap:=h' }:=by
 have fst:frs X.stack=X.env.locals::X.fs:=zGn O;have nin:∀ {b:Jc},b≠X.env.locals->b∉X.fs->b∉frs X.stack:=fun h1 h2=>by rw[fst];simp[h1,h2]
 have trk:∀ {b:Jc},H' b≠none->b∉frs X.stack:=fun {b} hb hm=>by
  have h1:=I.stkFree b hm;obtain⟨_,o,ho,_⟩:=I.stack.mem hm;exact hb (F.un.free b o ho h1 (by simp))
 have keepB:∀ {b:Jc} {o:Obj},s'.heap.get? b=some o->((∃ o',s.heap.get? b=some o')∨H' b≠none)->b∉frs X.stack->h'.get? b=some o:=fun e1 e2 e3=>hf'.1 _ _ (cov _ _ e1 e2 e3)
 have slotOf:∀ {b:Jc} {o:Obj},b∈frs X.stack->s'.heap.get? b=some o->∃ sl,h'.get? b=some { o with slots:=sl }:=fun {b o} hm e=>by
  obtain⟨_,o',ho',hn⟩:=hf.2.2.1.mem hm;rw[e] at ho';cases ho'
  exact up b o e hn
 refine⟨F.os.trans I.os,F.bare,⟨?_,?_,?_,?_,?_,?_,?_⟩,?_,F.ne,?_,⟨B,a0,hf',?_⟩⟩
 ·intro b o e n hb hx
  have e1:=I.base.keep b o e n hb (by rw[O.ex];simp)
  have n1:=I.base.free b o e n (by rw[O.ex];simp)
  have hs:b∉frs X.stack:=nin (I.ne0 e) hb;exact keepB (F.un.keep b o e1 n1 hs (by simp)) (.inl ⟨o,e1⟩) hs
 ·intro b o e n hb hx
  obtain⟨sl,e1⟩:=I.base.slot b o e n hb (by rw[O.ex];simp)
  have n1:=I.base.free b o e n (by rw[O.ex];simp)
  have hs:b∈frs X.stack:=by rw[fst];exact Qc _ hb
  obtain⟨sl2,e2⟩:=F.un.slot b _ e1 n1 hs (by simp)
  obtain⟨sl3,e3⟩:=slotOf hs e2;exact⟨sl3,e3⟩
 ·intro b o e n hx
  obtain⟨o1,e1⟩:=I.there0 O e;exact F.un.free b o1 e1 (I.base.free b o e n (by rw[O.ex];simp)) (by simp)
 ·intro b o e hx
  obtain⟨o1,e1⟩:=I.there0 O e;obtain⟨o2,e2⟩:=F.un.there b o1 e1 (by simp)
  by_cases hs:b∈frs X.stack
  ·obtain⟨sl,e3⟩:=slotOf hs e2
   exact⟨_,e3⟩
  ·exact⟨o2,keepB e2 (.inl ⟨o1,e1⟩) hs⟩
 ·exact fun b xs e=>F.un.tups b xs (I.base.tups b xs e)
 ·exact fun b o u e=>F.un.frzs b o u (I.base.frzs b o u e)
 ·intro b ps e
  obtain⟨m1,e1⟩:=I.base.tbls b ps e;obtain⟨m2,e2⟩:=F.un.tbls b _ e1;exact⟨m1++m2,by rw[e2,Array.append_assoc]⟩
 ·intro a o e
  refine(F.hok a o e).stay (fun b u hb z=>?_) (fun b z=>z) (fun b xs z=>z)
  have hb':H' b≠none:=by
   rcases hb with rfl | hb
   ·rw[e];simp
   ·rw[hb];simp
  exact keepB z (.inr hb') (trk hb')
 ·show X.s₀.heap.get? ea=none
  cases q:X.s₀.heap.get? ea with
  | none=>rfl
  | some o=>
   obtain⟨o1,e1⟩:=I.there0 O q;rw[F.new] at e1;cases e1
 ·intro b o e c hb
  have c':(∃ o',s.heap.get? b=some o')∨H' b≠none:=by
   rcases c with⟨o',c⟩ | c
   ·exact .inl (I.there0 O c)
   ·exact .inr c
  have hs:b∉frs X.stack:=by
   rcases c with⟨o',c⟩ | c
   ·exact nin (I.ne0 c) hb
   ·exact trk c
  have ex:∃ o2,s'.heap.get? b=some o2:=by
   rcases c' with⟨o',c1⟩ | c1
   ·exact F.un.there b o' c1 (by simp)
   ·cases q:H' b with
    | none=>exact absurd q c1
    | some u=>exact(F.hok b u q).here
  obtain⟨o2,e2⟩:=ex;have z:=keepB e2 c' hs;have z':h'.get? b=some o:=e;rw[z] at z';cases z'
  exact cov b o e2 c' hs
end
section
variable{X:Cx}{Mi:List (Jc×Obj)}{σ:St}{H H':Hp}{s s':Jb}{ea:Jc}{cls:Ja}
theorem zPU(l:List Env):∀ env∈l,∀ b,env.frame=some b->b∈frs l:=fun env he b hb=>Um.mpr ⟨env,he,hb⟩
theorem Fly.made(I:Inv X Mi σ H s)(O:Own X){vs:List Ja}(hx:Heap.MadeExcOf s.heap s'.heap ea cls vs)(hos:s'.os=s.os)(hg:AllBare s'.gens){h':Je}{t:Jc}
  (hf':Heap.FlyingW (PySem.W.hideAll s.heap (frs X.stack)) X.outer ea cls (.ref t) h') (up:s'.heap.UpToSlots h'):Fly X.prog X.w X.outer X.H₀ H X.s₀ ea cls { s' with heap:=h' }:=by
 have fst:frs X.stack=X.env.locals::X.fs:=zGn O;have nin:∀ {b:Jc},b≠X.env.locals->b∉X.fs->b∉frs X.stack:=fun h1 h2=>by rw[fst];simp[h1,h2]
 have trk:∀ {b:Jc},H b≠none->b∉frs X.stack:=fun {b} hb hm=>hb (I.stkFree b hm)
 have keepB:∀ {b:Jc} {o:Obj},s.heap.get? b=some o->b∉frs X.stack->h'.get? b=some o:=fun e1 e3=>hf'.1 _ _ (Ul _ e1 e3)
 have slotOf:∀ {b:Jc} {o:Obj},b∈frs X.stack->s.heap.get? b=some o->∃ sl,h'.get? b=some { o with slots:=sl }:=fun {b o} hm e=>by
  obtain⟨_,o',ho',hn⟩:=I.stack.mem hm;rw[e] at ho';cases ho'
  exact up b o (hx.keeps b o e) hn
 refine⟨hos.trans I.os,hg,⟨?_,?_,?_,?_,?_,?_,?_⟩,?_,?_,?_,⟨_,_,hf',?_⟩⟩
 ·intro b o e n hb hx'
  exact keepB (I.base.keep b o e n hb (by rw[O.ex];simp)) (nin (I.ne0 e) hb)
 ·intro b o e n hb hx'
  obtain⟨sl,e1⟩:=I.base.slot b o e n hb (by rw[O.ex];simp)
  have hs:b∈frs X.stack:=by rw[fst];exact Qc _ hb
  obtain⟨sl3,e3⟩:=slotOf hs e1;exact⟨sl3,e3⟩
 ·exact fun b o e n hx'=>I.base.free b o e n (by rw[O.ex];simp)
 ·intro b o e hx'
  obtain⟨o1,e1⟩:=I.there0 O e;by_cases hs:b∈frs X.stack
  ·obtain⟨sl,e3⟩:=slotOf hs e1
   exact⟨_,e3⟩
  ·exact⟨o1,keepB e1 hs⟩
 ·exact fun b xs e=>I.base.tups b xs e
 ·exact fun b o u e=>I.base.frzs b o u e
 ·exact fun b ps e=>I.base.tbls b ps e
 ·intro a o e
  refine(I.hok a o e).stay (fun b u hb z=>?_) (fun b z=>z) (fun b xs z=>z)
  have hb':H b≠none:=by
   rcases hb with rfl | hb
   ·rw[e];simp
   ·rw[hb];simp
  exact keepB z (trk hb')
 ·exact I.hok.none_of hx.new
 ·show X.s₀.heap.get? ea=none
  cases q:X.s₀.heap.get? ea with
  | none=>rfl
  | some o=>
   obtain⟨o1,e1⟩:=I.there0 O q;rw[hx.new] at e1;cases e1
 ·intro b o e c hb
  have hs:b∉frs X.stack:=by
   rcases c with⟨o',c⟩ | c
   ·exact nin (I.ne0 c) hb
   ·exact trk c
  have ex:∃ o2,s.heap.get? b=some o2:=by
   rcases c with⟨o',c1⟩ | c1
   ·exact I.there0 O c1
   ·cases q:H b with
    | none=>exact absurd q c1
    | some u=>exact(I.hok b u q).here
  obtain⟨o2,e2⟩:=ex;have z:=keepB e2 hs;have z':h'.get? b=some o:=e;rw[z] at z';cases z'
  exact Ul _ e2 hs
end
section
variable{CX:CXT}{P:Jf}{w:Jg}{K:Fg_}{mg:Str->Option Ja}{base:Je}{N:List Str}{qual:Str}{scope:Scope}{f:Jc}{cd:Ja}{A:Jh}{outer:List Env}{s₀:Jb}{H₀:Hp}{E:XK}
theorem zKj:Own (zGP CX P w K mg base N qual scope f cd A outer s₀ H₀ E):=⟨rfl,rfl,rfl⟩
theorem zRQ{E':XK}(h:∀ c H',E' c none H'->E c none H'):zFD (CX1 P w) (zGP (CX1 P w) P w K mg base N qual scope f cd A outer s₀ H₀ E) E':=by
 intro Mi σ H s e s' I hc;obtain⟨ea,cls,H',rfl,F,q⟩:=hc;obtain⟨B,a0,hf,cov⟩:=F.fly;have O:Own (zGP (CX1 P w) P w K mg base N qual scope f cd A outer s₀ H₀ E):=zKj;exact wpAny_leaves_onW (I.ok.frames.trans (congrArg some O.stk)) O.fr hf fun h' hf' up=>⟨ea,cls,H',rfl,F.leave I O hf cov hf' up,h _ _ q⟩
theorem zEu{Mi:List (Jc×Obj)}{σ:St}{H:Hp}{s s':Jb}{ea:Jc}{cls:Ja}{vs:List Ja}(I:Inv (zGP (CX1 P w) P w K mg base N qual scope f cd A outer s₀ H₀ E) Mi σ H s)
  (hx:Heap.MadeExcOf s.heap s'.heap ea cls vs) (hos:s'.os=s.os) (hg:AllBare s'.gens) (q:E cls none H):(zGP (CX1 P w) P w K mg base N qual scope f cd A outer s₀ H₀ E).xe (.ref ea) s':=by
 have O:Own (zGP (CX1 P w) P w K mg base N qual scope f cd A outer s₀ H₀ E):=zKj;have hst:=O.stk
 exact wpAny_leaves_madeW (base:=PySem.W.hideAll s.heap (frs (zGP (CX1 P w) P w K mg base N qual scope f cd A outer s₀ H₀ E).stack)) (h:=s.heap) (I.ok.frames.trans (congrArg some O.stk)) O.fr (fun b o z=>PySem.W.of_hideAll _ z)
  (PySem.W.funFrames_hide (I.stack) (zPU _)) hx fun h' t hf' _ _ up=>⟨ea,cls,H,rfl,Fly.made I O hx hos hg hf' up,q⟩
end
structure Err (K:PySem.W.Frag) (mg:Str->Option Ja) (x:Str) (C:Jc):Prop where
 own:∀ h:Je,K.In h->∃ bm newId B initId,OwnCls x C bm newId mg h/\ExcBaseFacts B newId initId bm
end L2
namespace L3
open PySem
inductive D where
 | non | bl (b:Bool) | int (i:Int) | str (x:Str) | tup (ds:List D) | lst (ds:List D)
inductive Res (α:Type) where
 | ok (a:α) | err (c:Str) | no
def Res.bind{α β:Type}(x:Res α)(f:α->Res β):Res β:=match x with
 | .ok a=>f a
 | .err c=>.err c
 | .no=>.no
inductive Sl where
 | un | val (d:D) | own (ds:List D) | exc (c:Str) | tab (T:List (Str×Str))
abbrev Rho:=List Sl
inductive Rt where
 | v (d:D) | f (ds:List D)
def Rt.d:Rt->D
 | .v d=>d
 | .f ds=>.lst ds
inductive Fl where
 | nx (ρ:Rho) | ret (r:Rt) | brk (ρ:Rho) | ctn (ρ:Rho)
abbrev Ev:=Rho->Res D
abbrev Fv:=Rho->Res (List D)
abbrev Tv:=Rho->Res Bool
abbrev Sv:=Rho->Res Fl
abbrev Mir:=List D->Res Rt
mutual
def eqD:D->D->Bool
 | .non,.non=>true
 | .bl a,.bl b=>a==b
 | .bl a,.int b=>(if a then 1 else 0)==b
 | .int a,.bl b=>a==(if b then 1 else 0)
 | .int a,.int b=>a==b
 | .str a,.str b=>a==b
 | .tup ds,.tup es=>zHn ds es
 | .lst ds,.lst es=>zHn ds es
 | _,_=>false
def zHn:List D->List D->Bool
 | [],[]=>true
 | d::ds,e::es=>eqD d e && zHn ds es
 | _,_=>false
end
mutual
def dep:D->Nat
 | .tup ds=>depS ds+1
 | .lst ds=>depS ds+1
 | _=>0
def depS:List D->Nat
 | []=>0
 | d::ds=>max (dep d) (depS ds)
end
mutual
def noL:D->Bool
 | .tup ds=>noLs ds
 | .lst _=>false
 | _=>true
def noLs:List D->Bool
 | []=>true
 | d::ds=>noL d && noLs ds
end
theorem uV:∀ {ds:List D} {d:D},d∈ds->dep d<=depS ds
 | e::ds,d,h=>by
  rw[depS];rcases Qd.mp h with rfl | h
  ·exact Nat.le_max_left ..
  ·exact Q5 (uV h) (Nat.le_max_right ..)
theorem zLL:∀ {ds:List D},noLs ds=true ↔ ∀ d∈ds,noL d=true
 | []=>by simp[noLs]
 | d::ds=>by rw[noLs,V4,zLL];simp
theorem oI:∀(ds es:List D),zHn ds es=((List.range (min ds.length es.length)).all (fun j=>eqD (ds.getD j .non) (es.getD j .non)) && ds.length==es.length)
 | [],[]=>rfl
 | [],e::es=>by simp[zHn]
 | d::ds,[]=>by simp[zHn]
 | d::ds,e::es=>by
  rw[zHn,oI ds es];have h:min (d::ds).length (e::es).length=min ds.length es.length+1:=by simp only[Qm];omega
  rw[h,List.range_succ_eq_map];simp[List.all_map,Function.comp_def,Bool.and_assoc]
mutual
theorem uL:∀ d:D,eqD d d=true
 | .non=>rfl
 | .bl b=>by simp[eqD]
 | .int i=>by simp[eqD]
 | .str x=>by simp[eqD]
 | .tup ds=>by rw[eqD];exact vP ds
 | .lst ds=>by rw[eqD];exact vP ds
theorem vP:∀ ds:List D,zHn ds ds=true
 | []=>rfl
 | d::ds=>by rw[zHn,uL d,vP ds];rfl
end
def nb(i:Int):Nat:=i.natAbs.log2+1
theorem zNb(i:Int):i.natAbs<2^nb i:=Nat.lt_log2_self
theorem zSF{i:Int}{m:Nat}(h:i.natAbs<2^m)(hm:0<m):nb i<=m:=by
 unfold nb;by_cases h0:i.natAbs=0
 ·rw[h0];exact hm
 ·exact(Nat.log2_lt h0).mpr h
def kN(i j:Int):Bool:=(decide (-(2^64)<i) && decide (i<2^64)) || (decide (-(2^64)<j) && decide (j<2^64)) || decide (nb i+nb j<=134217728)
def mM(j:Int):Bool:=decide (j≠0) && decide (nb j<=9000)
def oV(i j:Int):Bool:=decide (0<=j) && decide ((nb i:Int)*j<=2^27)
abbrev Op2:=D->D->Res D
def tZ:Op2
 | .int i,.int j=>.ok (.int (i+j))
 | .tup a,.tup b=>if a.length+b.length<=16777216 then .ok (.tup (a++b)) else .no
 | _,_=>.no
def zAS:Op2
 | .int i,.int j=>.ok (.int (i+j))
 | _,_=>.no
def zAL:Op2
 | .int i,.int j=>.ok (.int (i-j))
 | _,_=>.no
def oW:Op2
 | .int i,.int j=>if kN i j=true then .ok (.int (i*j)) else .no
 | _,_=>.no
def oX:Op2
 | .int i,.int j=>if mM j=true then .ok (.int (i.fdiv j)) else .no
 | _,_=>.no
def rV:Op2
 | .int i,.int j=>if j≠0 then .ok (.int (i.fmod j)) else .no
 | _,_=>.no
def zKg:Op2
 | .int i,.int j=>if oV i j=true then .ok (.int (i^j.toNat)) else .no
 | _,_=>.no
def oEq(x y:D):Res D:=if dep x<=50 then .ok (.bl (eqD x y)) else .no
def oNe(x y:D):Res D:=if dep x<=50 then .ok (.bl (!eqD x y)) else .no
def oLt:Op2
 | .int i,.int j=>.ok (.bl (decide (i<j)))
 | _,_=>.no
def oLe:Op2
 | .int i,.int j=>.ok (.bl (decide (i<=j)))
 | _,_=>.no
def oGt:Op2
 | .int i,.int j=>.ok (.bl (decide (j<i)))
 | _,_=>.no
def oGe:Op2
 | .int i,.int j=>.ok (.bl (decide (j<=i)))
 | _,_=>.no
def atD(ds:List D)(i:Int):Option D:=if 0<=i then ds[i.toNat]? else if 0<=(ds.length:Int)+i then ds[((ds.length:Int)+i).toNat]? else none
def ofO{α:Type}:Option α->Res α
 | some a=>.ok a
 | none=>.no
def oIx:Op2
 | .tup ds,.int i=>ofO (atD ds i)
 | .lst ds,.int i=>ofO (atD ds i)
 | _,_=>.no
def oIn:Op2
 | d,.lst ds=>if depS ds<=50 then .ok (.bl (ds.any fun e=>eqD e d)) else .no
 | d,.tup ds=>if depS ds<=50 then .ok (.bl (ds.any fun e=>eqD e d)) else .no
 | _,_=>.no
def zAB:D->Res D
 | .int i=>.ok (.int (-i))
 | _=>.no
def zTJ:D->Res D
 | .bl b=>.ok (.bl (!b))
 | _=>.no
def aG(i:Nat)(ρ:Rho):Res D:=match ρ[i]? with
 | some (.val d)=>.ok d
 | _=>.no
def eC(d:D)(_ρ:Rho):Res D:=.ok d
def eOp(o:Op2)(a b:Ev)(ρ:Rho):Res D:=(a ρ).bind fun x=>(b ρ).bind fun y=>o x y
def eUn(o:D->Res D)(a:Ev)(ρ:Rho):Res D:=(a ρ).bind o
def zRC(a b:Ev)(ρ:Rho):Res D:=(a ρ).bind fun x=>match x with
 | .bl c=>if c=true then b ρ else .ok (.bl false)
 | _=>.no
def eOr(a b:Ev)(ρ:Rho):Res D:=(a ρ).bind fun x=>match x with
 | .bl c=>if c=true then .ok (.bl true) else b ρ
 | _=>.no
def eIf(t:Tv)(a b:Ev)(ρ:Rho):Res D:=(t ρ).bind fun c=>if c=true then a ρ else b ρ
def aNil(_ρ:Rho):Res (List D):=.ok []
def aD(e:Ev)(r:Fv)(ρ:Rho):Res (List D):=(e ρ).bind fun d=>(r ρ).bind fun ds=>.ok (d::ds)
def rY(a:Fv)(ρ:Rho):Res D:=(a ρ).bind fun ds=>if ds.length<=16777216 then .ok (.tup ds) else .no
def aN(m:Mir)(a:Fv)(ρ:Rho):Res D:=(a ρ).bind fun ds=>(m ds).bind fun r=>.ok r.d
def mP:List D->Res D
 | [.lst ds]=>.ok (.int ds.length)
 | [.tup ds]=>.ok (.int ds.length)
 | _=>.no
def zMc:List D->Res D
 | [.int i]=>.ok (.int (if i<0 then -i else i))
 | _=>.no
def zTR:List D->Res D
 | [.int i,.int j]=>.ok (.int (if j > i then j else i))
 | _=>.no
def zPr:List D->Res D
 | [.int i,.int j]=>.ok (.int (if j<i then j else i))
 | _=>.no
def zMD:List D->Res D
 | [.lst ds]=>.ok (.tup ds)
 | [.tup ds]=>.ok (.tup ds)
 | _=>.no
def zRa:List D->Res D
 | [.int i]=>.ok (.int i)
 | [.bl b]=>.ok (.int (if b then 1 else 0))
 | _=>.no
def eB(b:List D->Res D)(a:Fv)(ρ:Rho):Res D:=(a ρ).bind b
def tyN:D->String
 | .non => "NoneType" | .bl _ => "bool" | .int _ => "int" | .str _ => "str" | .tup _ => "tuple" | .lst _ => "list"
def isT(T:String)(d:D):Bool:=tyN d==T || (T == "int" && tyN d == "bool")
def zPj(T:String)(a:Ev)(ρ:Rho):Res D:=(a ρ).bind fun d=>.ok (.bl (isT T d))
def isNon:D->Bool
 | .non=>true
 | _=>false
def Sl.frz:Sl->Sl
 | .own ds=>.val (.lst ds)
 | s=>s
def zRJ(e:Ev)(ρ:Rho):Res D:=(e (ρ.map Sl.frz)).bind fun d=>if noL d=true then .ok d else .no
def kD(a:Fv)(ρ:Rho):Res (List D):=(a ρ).bind fun ds=>if ds.length<=16777216 then .ok ds else .no
def dI(m:Mir)(a:Fv)(ρ:Rho):Res (List D):=(a ρ).bind fun ds=>(m ds).bind fun r=>match r with
 | .f ds=>.ok ds
 | .v _=>.no
def zRV(a:Fv)(ρ:Rho):Res (List D):=(a ρ).bind fun ds=>match ds with
 | [.lst ds]=>.ok ds
 | [.tup ds]=>.ok ds
 | _=>.no
def zOx(a b:Ev)(ρ:Rho):Res (List D):=(a ρ).bind fun x=>(b ρ).bind fun y=>match x,y with
 | .lst ds,.lst es=>if ds.length+es.length<=16777216 then .ok (ds++es) else .no
 | _,_=>.no
def eF(f:Fv)(ρ:Rho):Res D:=(f ρ).bind fun ds=>.ok (.lst ds)
def zPk(f:Fv)(ρ:Rho):Res (List D):=(f (ρ.map Sl.frz)).bind fun ds=>if noLs ds=true then .ok ds else .no
def cut(n:Nat)(i:Option Int)(d:Nat):Nat:=match i with
 | none=>d
 | some i=>if 0<=i then min i.toNat n else ((n:Int)+i).toNat
def fY(ds:List D)(lo hi:Option Int):List D:=(ds.drop (cut ds.length lo 0)).take (cut ds.length hi ds.length-cut ds.length lo 0)
abbrev Ov:=Rho->Res (Option Int)
def oN(_ρ:Rho):Res (Option Int):=.ok none
def oS(e:Ev)(ρ:Rho):Res (Option Int):=(e ρ).bind fun d=>match d with
 | .int i=>.ok (some i)
 | _=>.no
def fSl(a:Ev)(lo hi:Ov)(ρ:Rho):Res (List D):=(a ρ).bind fun x=>(lo ρ).bind fun l=>(hi ρ).bind fun h=>match x with
 | .lst ds=>.ok (fY ds l h)
 | _=>.no
def zTP(a:Ev)(lo hi:Ov)(ρ:Rho):Res D:=(a ρ).bind fun x=>(lo ρ).bind fun l=>(hi ρ).bind fun h=>match x with
 | .tup ds=>if (fY ds l h).length<ds.length then .ok (.tup (fY ds l h)) else .no
 | _=>.no
def cU(e:Ev)(ρ:Rho):Res Bool:=(e ρ).bind fun d=>match d with
 | .bl b=>.ok b
 | _=>.no
def tFrzB(t:Tv)(ρ:Rho):Res Bool:=t (ρ.map Sl.frz)
def wT(t:Tv)(ρ:Rho):Res Bool:=(t ρ).bind fun b=>.ok (!b)
def zBO(t u:Tv)(ρ:Rho):Res Bool:=(t ρ).bind fun b=>if b=true then u ρ else .ok false
def zEQ(t u:Tv)(ρ:Rho):Res Bool:=(t ρ).bind fun b=>if b=true then .ok true else u ρ
def sNext(ρ:Rho):Res Fl:=.ok (.nx ρ)
def aZ(a b:Sv)(ρ:Rho):Res Fl:=(a ρ).bind fun f=>match f with
 | .nx ρ'=>b ρ'
 | f=>.ok f
def sIf(t:Tv)(a b:Sv)(ρ:Rho):Res Fl:=(t ρ).bind fun c=>if c=true then a ρ else b ρ
def cT(i:Nat)(e:Ev)(ρ:Rho):Res Fl:=(e ρ).bind fun d=>.ok (.nx (ρ.set i (.val d)))
def zAM(i:Nat)(f:Fv)(ρ:Rho):Res Fl:=(f ρ).bind fun ds=>.ok (.nx (ρ.set i (.own ds)))
def sM(e:Ev)(ρ:Rho):Res Fl:=(e ρ).bind fun _=>.ok (.nx ρ)
def eY(e:Ev)(ρ:Rho):Res Fl:=(e (ρ.map Sl.frz)).bind fun d=>.ok (.ret (.v d))
def iD(f:Fv)(ρ:Rho):Res Fl:=(f (ρ.map Sl.frz)).bind fun ds=>.ok (.ret (.f ds))
def gB(i:Nat)(ρ:Rho):Res Fl:=match ρ[i]? with
 | some (.own ds)=>.ok (.ret (.f ds))
 | _=>.no
def sRetN(_ρ:Rho):Res Fl:=.ok (.ret (.v .non))
def jJ(c:Str)(a:Fv)(ρ:Rho):Res Fl:=(a ρ).bind fun ds=>if ds.length<=16777216 then .err c else .no
def sNo(_ρ:Rho):Res Fl:=.no
def zHm(i:Nat)(e:Ev)(ρ:Rho):Res Fl:=match ρ[i]? with
 | some (.own ds)=>(e ρ).bind fun d=>if ds.length<16777216 then .ok (.nx (ρ.set i (.own (ds++[d])))) else .no
 | _=>.no
def zKV(i:Nat)(e:Fv)(ρ:Rho):Res Fl:=match ρ[i]? with
 | some (.own ds)=>(e ρ).bind fun es=>if ds.length+es.length<=16777216 then .ok (.nx (ρ.set i (.own (ds++es)))) else .no
 | _=>.no
def zRG(i:Nat)(k e:Ev)(ρ:Rho):Res Fl:=(e ρ).bind fun d=>match ρ[i]? with
 | some (.own ds)=>(k ρ).bind fun j=>match j with
  | .int j=>if 0<=j/\j<ds.length then .ok (.nx (ρ.set i (.own (ds.set j.toNat d)))) else if -(ds.length:Int)<=j/\j<0 then .ok (.nx (ρ.set i (.own (ds.set (j+ds.length).toNat d)))) else .no
  | _=>.no
 | _=>.no
def zPG(i:Nat)(ρ:Rho):Res Fl:=match ρ[i]? with
 | some (.own ds)=>if ds.length=0 then .no else .ok (.nx (ρ.set i (.own ds.dropLast)))
 | _=>.no
def zKu(i:Nat)(o:Op2)(e:Ev)(ρ:Rho):Res Fl:=match ρ[i]? with
 | some (.val x)=>(e ρ).bind fun y=>(o x y).bind fun d=>.ok (.nx (ρ.set i (.val d)))
 | _=>.no
def sFrz(s:Sv)(ρ:Rho):Res Fl:=s (ρ.map Sl.frz)
def frzAt(i:Nat)(ρ:Rho):Rho:=match ρ[i]? with
 | some (.own ds)=>ρ.set i (.val (.lst ds))
 | _=>ρ
def sFrzAt(i:Nat)(s:Sv)(ρ:Rho):Res Fl:=s (frzAt i ρ)
def noErr{α:Type}:Res α->Res α
 | .err _=>.no
 | r=>r
def zRz(i:Nat)(m:Mir)(a:Fv)(ρ:Rho):Res Fl:=(noErr (a ρ)).bind fun ds=>(m ds).bind fun r=>.ok (.nx (ρ.set i (.val r.d)))
def zRq(tb:List Str)(i:Nat)(b h:Sv)(ρ:Rho):Res Fl:=match b ρ with
 | .err c=>if tb.contains c=true then (match h (ρ.set i (.exc c)) with
   | .ok (.nx ρ')=>.ok (.nx (ρ'.set i .un))
   | _=>.no) else .no
 | r=>r
def zKx(anc:List (Str×List Str))(i:Nat)(cs:List Str)(ρ:Rho):Res D:=match ρ[i]? with
 | some (.exc c)=>(match anc.lookup c with
  | some l=>.ok (.bl (cs.any fun x=>l.contains x))
  | none=>.no)
 | _=>.no
abbrev Gv:=D->Rho->Res Rho
def gName(i:Nat)(d:D)(ρ:Rho):Res Rho:=.ok (ρ.set i (.val d))
def zHq(gs:List D->Rho->Res Rho)(d:D)(ρ:Rho):Res Rho:=match d with
 | .tup ds=>gs ds ρ
 | _=>.no
def zHp(ds:List D)(ρ:Rho):Res Rho:=match ds with
 | []=>.ok ρ
 | _=>.no
def mO(g:Gv)(r:List D->Rho->Res Rho)(ds:List D)(ρ:Rho):Res Rho:=match ds with
 | d::ds=>(g d ρ).bind fun ρ'=>r ds ρ'
 | []=>.no
def zSf(g:Gv)(f:Ev)(ρ:Rho):Res Fl:=(f ρ).bind fun d=>(g d ρ).bind fun ρ'=>.ok (.nx ρ')
def iC(g:Gv)(b:Sv):List D->Rho->Res Fl
 | [],ρ=>.ok (.nx ρ)
 | d::ds,ρ=>(g d ρ).bind fun ρ1=>(b ρ1).bind fun f=>match f with
  | .nx ρ2=>iC g b ds ρ2
  | .ctn ρ2=>iC g b ds ρ2
  | .brk ρ2=>.ok (.nx ρ2)
  | .ret r=>.ok (.ret r)
def zAW(it:Fv)(g:Gv)(b:Sv)(ρ:Rho):Res Fl:=(it ρ).bind fun ds=>iC g b ds ρ
def qT(e:Ev)(ρ:Rho):Res (List D):=(e ρ).bind fun d=>match d with
 | .lst ds=>.ok ds
 | .tup ds=>.ok ds
 | _=>.no
def rng(lo:Int)(n:Nat)(c:Int):List D:=(List.range n).map fun(i:Nat)=>D.int (lo+(i:Int)*c)
def zDT(a:Fv)(ρ:Rho):Res (List D):=(a ρ).bind fun ds=>match ds with
 | [.int j]=>if -(2^62)<=j/\j<2^62 then .ok (rng 0 j.toNat 1) else .no
 | _=>.no
def zIw(a:Fv)(ρ:Rho):Res (List D):=(a ρ).bind fun ds=>match ds with
 | [.int i,.int j]=>if -(2^62)<=i/\i<2^62/\-(2^62)<=j/\j<2^62 then .ok (rng i (j-i).toNat 1) else .no
 | _=>.no
def wh(t:Tv)(b:Sv):Nat->Rho->Res Fl
 | 0,_=>.no
 | n+1,ρ=>(t ρ).bind fun c=>if c=true then (b ρ).bind fun f=>match f with
   | .nx ρ2=>wh t b n ρ2
   | .ctn ρ2=>wh t b n ρ2
   | .brk ρ2=>.ok (.nx ρ2)
   | .ret r=>.ok (.ret r)
  else .ok (.nx ρ)
open Classical in
def fB(t:Tv)(b:Sv)(ρ:Rho):Res Fl:=if h:∃ n,wh t b n ρ≠.no then wh t b h.choose ρ else .no
theorem zAK{t:Tv}{b:Sv}:∀ {n:Nat} {ρ:Rho} {k:Nat},wh t b n ρ≠.no->n<=k->wh t b k ρ=wh t b n ρ
 | 0,ρ,k,h,_=>absurd rfl h
 | n+1,ρ,0,h,l=>absurd l (by omega)
 | n+1,ρ,k+1,h,l=>by
  rw[wh,wh];rw[wh] at h
  cases ht:t ρ with
  | no=>rfl
  | err c=>rfl
  | ok c=>
   rw[ht] at h;simp only[Res.bind] at h ⊢
   cases c with
   | false=>rfl
   | true=>
    simp only[if_true] at h ⊢
    cases hb:b ρ with
    | no=>rfl
    | err c=>rfl
    | ok f=>
     rw[hb] at h
     cases f with
     | nx ρ2=>exact zAK h (by omega)
     | ctn ρ2=>exact zAK h (by omega)
     | brk ρ2=>rfl
     | ret r=>rfl
theorem iH{t:Tv}{b:Sv}{n:Nat}{ρ:Rho}(h:wh t b n ρ≠.no):fB t b ρ=wh t b n ρ:=by
 have hx:∃ n,wh t b n ρ≠.no:=⟨n,h⟩;unfold fB;rw[J7 hx];rcases Yt n hx.choose with l | l
 ·exact zAK h l
 ·exact(zAK hx.choose_spec l).symm
theorem pZ{t:Tv}{b:Sv}{ρ:Rho}(h:fB t b ρ≠.no):∃ n,fB t b ρ=wh t b n ρ:=by
 unfold fB at h ⊢
 split
 ·exact⟨_,rfl⟩
 ·rename_i hx;rw[dif_neg hx] at h;exact absurd rfl h
theorem zCR{t:Tv}{b:Sv}{ρ:Rho}:fB t b ρ=((t ρ).bind fun c=>if c=true then (b ρ).bind fun f=>match f with
   | .nx ρ2=>fB t b ρ2
   | .ctn ρ2=>fB t b ρ2
   | .brk ρ2=>.ok (.nx ρ2)
   | .ret r=>.ok (.ret r)
  else .ok (.nx ρ)):=by
 have key:∀ n,wh t b (n+1) ρ≠.no->wh t b (n+1) ρ=((t ρ).bind fun c=>if c=true then (b ρ).bind fun f=>match f with
   | .nx ρ2=>fB t b ρ2
   | .ctn ρ2=>fB t b ρ2
   | .brk ρ2=>.ok (.nx ρ2)
   | .ret r=>.ok (.ret r)
  else .ok (.nx ρ)):=by
  intro n h;rw[wh] at h ⊢
  cases ht:t ρ with
  | no=>rfl
  | err c=>rfl
  | ok c=>
   rw[ht] at h;simp only[Res.bind] at h ⊢
   cases c with
   | false=>rfl
   | true=>
    simp only[if_true] at h ⊢
    cases hb:b ρ with
    | no=>rfl
    | err c=>rfl
    | ok f=>
     rw[hb] at h
     cases f with
     | nx ρ2=>exact(iH h).symm
     | ctn ρ2=>exact(iH h).symm
     | brk ρ2=>rfl
     | ret r=>rfl
 by_cases h:fB t b ρ=.no
 ·rw[h]
  cases ht:t ρ with
  | no=>rfl
  | err c=>
   exfalso
   have q:wh t b 1 ρ=.err c:=by rw[wh,ht];rfl
   have:=iH (t:=t) (b:=b) (ρ:=ρ) (n:=1) (by rw[q];exact fun z=>by cases z)
   rw[h,q] at this;cases this
  | ok c=>
   simp only[Res.bind]
   cases c with
   | false=>
    exfalso
    have q:wh t b 1 ρ=.ok (.nx ρ):=by rw[wh,ht];rfl
    have:=iH (t:=t) (b:=b) (ρ:=ρ) (n:=1) (by rw[q];exact fun z=>by cases z)
    rw[h,q] at this;cases this
   | true=>
    simp only[if_true]
    cases hb:b ρ with
    | no=>rfl
    | err c=>
     exfalso
     have q:wh t b 1 ρ=.err c:=by rw[wh,ht];simp[Res.bind,hb]
     have:=iH (t:=t) (b:=b) (ρ:=ρ) (n:=1) (by rw[q];exact fun z=>by cases z)
     rw[h,q] at this;cases this
    | ok f=>
     have again:∀ ρ2,(f=.nx ρ2∨f=.ctn ρ2)->fB t b ρ2=.no:=by
      intro ρ2 hf;by_cases h2:fB t b ρ2=.no
      ·exact h2
      ·exfalso
       obtain⟨n,e⟩:=pZ h2
       have q:wh t b (n+1) ρ=wh t b n ρ2:=by
        rw[wh,ht];simp only[Res.bind,if_true,hb];rcases hf with rfl | rfl<;>rfl
       have h3:wh t b (n+1) ρ≠.no:=by rw[q,<-e];exact h2
       have:=iH h3
       rw[h] at this;exact h3 this.symm
     cases f with
     | nx ρ2=>exact(again ρ2 (.inl rfl)).symm
     | ctn ρ2=>exact(again ρ2 (.inr rfl)).symm
     | brk ρ2=>
      exfalso
      have q:wh t b 1 ρ=.ok (.nx ρ2):=by rw[wh,ht];simp[Res.bind,hb]
      have:=iH (t:=t) (b:=b) (ρ:=ρ) (n:=1) (by rw[q];exact fun z=>by cases z)
      rw[h,q] at this;cases this
     | ret r=>
      exfalso
      have q:wh t b 1 ρ=.ok (.ret r):=by rw[wh,ht];simp[Res.bind,hb]
      have:=iH (t:=t) (b:=b) (ρ:=ρ) (n:=1) (by rw[q];exact fun z=>by cases z)
      rw[h,q] at this;cases this
 ·obtain⟨n,e⟩:=pZ h
  cases n with
  | zero=>rw[e] at h;exact absurd rfl h
  | succ n=>rw[e];exact key n (by rw[<-e];exact h)
def zPg(f:Fv)(g:Ev)(ρ:Rho):Res (List D):=(f ρ).bind fun ds=>(g ρ).bind fun d=>match d with
 | .int k=>if 0<=k/\k<2^62/\ds.length*k.toNat<=16777216 then .ok (List.replicate k.toNat ds).flatten else .no
 | _=>.no
def jO(_ρ:Rho):Res Bool:=.ok true
def iT(t:Tv)(f:Ev)(ρ:Rho):List D->Res (List D)
 | []=>.ok []
 | d::ds=>(noErr (t (ρ++[.val d]))).bind fun c=>if c=true then (noErr (f (ρ++[.val d]))).bind fun e=>(iT t f ρ ds).bind fun es=>.ok (e::es) else iT t f ρ ds
def jW(it:Fv)(t:Tv)(f:Ev)(ρ:Rho):Res (List D):=(it ρ).bind fun ds=>if ds.length<=16777215 then iT t f ρ ds else .no
def start(n:Nat)(ds:List D):Rho:=ds.map Sl.val++List.replicate (n-ds.length) .un
def fin:Fl->Res Rt
 | .nx _=>.ok (.v .non)
 | .ret r=>.ok r
 | .brk _=>.no
 | .ctn _=>.no
def fn(p n:Nat)(b:Sv)(ds:List D):Res Rt:=if ds.length=p then (b (start n ds)).bind fin else .no
def zKw:D->Option (List D)
 | .lst ds=>some ds
 | .tup ds=>some ds
 | _=>none
def kT:List D->List D->List D
 | a::r,b::q=>.tup [a,b]::kT r q
 | _,_=>[]
def zMT(a:Fv)(ρ:Rho):Res (List D):=(a ρ).bind fun ds=>match ds with
 | [x,y]=>match zKw x,zKw y with
  | some xs,some ys=>.ok (kT xs ys)
  | _,_=>.no
 | _=>.no
def gK(f:Ev)(ρ:Rho):List D->Res (List D)
 | []=>.ok []
 | .tup [a,b]::ds=>(noErr (f (ρ++[.val a,.val b]))).bind fun e=>(gK f ρ ds).bind fun es=>.ok (e::es)
 | _::_=>.no
def wO(it:Fv)(f:Ev)(ρ:Rho):Res (List D):=(it ρ).bind fun ds=>if ds.length<=16777215 then gK f ρ ds else .no
def zTI:D->Option Str
 | .str x=>some x
 | .int i=>if i.natAbs.log2<1920 then some (toString i) else none
 | _=>none
def zTq:Str->List D->Option Str
 | a,[]=>some a
 | a,d::r=>match zTI d with
  | some x=>if x.length<=sizeLine/\(a++x).length<=sizeLine then zTq (a++x) r else none
  | none=>none
def oU:List D->Option (List Int)
 | []=>some []
 | .int i::ds=>match oU ds with
  | some ns=>some (i::ns)
  | none=>none
 | _::_=>none
def zBU:List D->Res D
 | [.lst ds]=>(match oU ds with
  | some ns=>.ok (.int ns.sum)
  | none=>.no)
 | [.tup ds]=>(match oU ds with
  | some ns=>.ok (.int ns.sum)
  | none=>.no)
 | _=>.no
def chO:Option Nat->Res D
 | some c=>.ok (.str ⟨#[c]⟩)
 | none=>.no
def zME:List D->Option (List Bool)
 | []=>some []
 | .bl b::r=>(zME r).map (b::·)
 | _=>none
def zTO:List D->Res D
 | [.lst ds]=>(match zME ds with | some bs=>.ok (.bl (bs.all id)) | none=>.no)
 | _=>.no
def slS(l u:Option Int):D->Res D
 | .str x=>if x.length<=sizeLine then .ok (.str (Txt.slice x l u)) else .no
 | _=>.no
def tJ(T:List (Str×Str)):D->Res D
 | .str x=>.ok (.bl (!(T.lookup x).isSome))
 | _=>.no
def zPm:Option Str->Res D
 | some y=>.ok (.str y)
 | none=>.no
def wZ(T:List (Str×Str)):D->Res D
 | .str x=>zPm (T.lookup x)
 | _=>.no
def zBo:Int->List Int->Int
 | a,[]=>a
 | a,b::r=>zBo (if b > a then b else a) r
def zCt:List D->Res D
 | [.lst ds]=>(match oU ds with | some (a::r)=>.ok (.int (zBo a r)) | _=>.no)
 | _=>.no
end L3
namespace L3
open PySem
def iO(kz:List Int)(π:List Nat):Prop:=π.Perm (List.range kz.length)/\π.Pairwise (fun i j=>kz.getD i 0<=kz.getD j 0)
def zKv(b:Int):D->Res Int
 | .tup [.int t,.int d]=>if mM d && kN t (b.fdiv d) then .ok (t*b.fdiv d) else .no
 | _=>.no
def pF(b:Int):List D->Res (List Int)
 | []=>.ok []
 | d::r=>(zKv b d).bind fun k=>(pF b r).bind fun ks=>.ok (k::ks)
def kU(π:List Nat):List D:=π.map fun i:Nat=>D.int (i:Int)
theorem zOB{b k:Int}{d:D}(h:zKv b d=.ok k):∃ t c,d=.tup [.int t,.int c]/\mM c=true/\kN t (b.fdiv c)=true/\k=t*b.fdiv c:=by
 unfold zKv at h;split at h
 ·rename_i t c
  split at h
  ·rename_i hc
   rw[V4] at hc;cases h;exact⟨t,c,rfl,hc.1,hc.2,rfl⟩
  ·cases h
 ·cases h
theorem zAQ{b:Int}:∀ {rows:List D} {kz:List Int},pF b rows=.ok kz->kz.length=rows.length/\∀(j:Nat)(k:Int),kz[j]?=some k->∃ d,rows[j]?=some d/\zKv b d=.ok k
 | [],kz,h=>by cases h;exact⟨rfl,fun j k z=>by simp at z⟩
 | d::r,kz,h=>by
  unfold pF at h
  cases e:zKv b d with
  | no=>rw[e] at h;cases h
  | err c=>rw[e] at h;cases h
  | ok k0=>
   rw[e] at h;have h':(pF b r).bind (fun ks=>Res.ok (k0::ks))=.ok kz:=h
   cases e2:pF b r with
   | no=>rw[e2] at h';cases h'
   | err c=>rw[e2] at h';cases h'
   | ok ks=>
    rw[e2] at h';cases h'
    obtain⟨h1,h2⟩:=zAQ e2;refine⟨by rw[Qm,Qm,h1],fun j k z=>?_⟩
    cases j with
    | zero=>simp at z;subst z;exact⟨d,rfl,e⟩
    | succ j=>exact h2 j k (by simpa using z)
def zGa(ρ:Rho):Res (List Int):=match ρ[0]?,ρ[1]? with
 | some (Sl.val (.lst rows)),some (Sl.val (.int b))=>if rows.length<64 then pF b rows else .no
 | _,_=>.no
def zBb(sa sb:Sv)(ds:List D):Res (List Int):=if ds.length=1 then (match sa (L3.start 3 ds) with
 | .ok (.nx ρ)=>(match sb ρ with
  | .ok (.nx ρ')=>zGa ρ'
  | _=>.no)
 | _=>.no) else .no
theorem zFk{b:Int}:∀ {rows:List D} {c:Str},pF b rows≠.err c
 | [],c,h=>by cases h
 | d::r,c,h=>by
  unfold pF at h
  have k0:∀ c,zKv b d≠.err c:=fun c z=>by
   unfold zKv at z;split at z
   ·split at z<;>cases z
   ·cases z
  cases e:zKv b d with
  | no=>rw[e] at h;cases h
  | err c'=>exact k0 _ e
  | ok k=>
   rw[e] at h;have h':(pF b r).bind (fun ks=>Res.ok (k::ks))=.err c:=h
   cases e2:pF b r with
   | no=>rw[e2] at h';cases h'
   | err c'=>exact zFk e2
   | ok ks=>rw[e2] at h';cases h'
theorem zQT{sa sb:Sv}(ds:List D)(c:Str):zBb sa sb ds≠.err c:=fun h=>by
 unfold zBb zGa at h;split at h
 ·split at h
  ·split at h
   ·split at h
    ·split at h
     ·exact zFk h
     ·cases h
    ·cases h
   ·cases h
  ·cases h
 ·cases h
theorem zMS{sa sb:Sv}(ds:List D)(h:zBb sa sb ds≠.no):ds.length=1:=by
 unfold zBb at h;split at h
 ·assumption
 ·exact absurd rfl h
open Classical in
def pD(kz:List Int)(F:List Nat->Res Fl):Res Fl:=if h:∃ x,∀ π,iO kz π->F π=x then h.choose else .no
theorem zHc{kz:List Int}{F:List Nat->Res Fl}{π:List Nat}(h:pD kz F≠.no)(hπ:iO kz π):F π=pD kz F:=by
 unfold pD at h ⊢
 split at h
 ·rename_i z;rw[J7 z];exact z.choose_spec π hπ
 ·exact absurd rfl h
theorem zGs{kz:List Int}{F:List Nat->Res Fl}{x:Res Fl}{π:List Nat}(hπ:iO kz π)(h:∀ π,iO kz π->F π=x):pD kz F=x:=by
 have z:∃ x,∀ π,iO kz π->F π=x:=⟨x,h⟩;unfold pD;rw[J7 z,<-z.choose_spec π hπ];exact h π hπ
def zIF(fs:Fv)(kf:List D->Res (List Int))(g:Gv)(b r:Sv):Sv:=fun ρ=>((fs ρ).bind kf).bind fun kz=>pD kz fun π=>aZ (fun ρ=>iC g b (kU π) ρ) r ρ
abbrev Tri:=D×List D×List D
def zLj(e:Ev):Fv:=fun ρ=>(e ρ).bind fun d=>match d with
 | .lst ds=>.ok ds.reverse
 | _=>.no
def zSR:D->Res (List D)
 | .lst ds=>.ok ds.reverse
 | _=>.no
theorem revL_l{ds:List D}:zSR (.lst ds)=.ok ds.reverse:=rfl
theorem iRevL_at{e:Ev}{ρ:Rho}:zLj e ρ=(e ρ).bind zSR:=by
 unfold zLj;congr
end L3
namespace Fq
theorem zFl{a b:Int}(ha:0<=a)(hb:0<b):Int.gcd b (a % b)=Int.gcd a b:=by
 obtain⟨m,rfl⟩:=Uw ha;obtain⟨n,rfl⟩:=Uw (X1 hb);show Nat.gcd n (m % n)=Nat.gcd m n
 rw[Nat.gcd_comm n (m % n),Nat.gcd_comm m n,Nat.gcd_rec n m]
def dv(t b:Int):Int:=if b<0 then -(Int.gcd t b:Int) else (Int.gcd t b:Int)
theorem zOK{t b:Int}(hb:b≠0):0<(Int.gcd t b:Int):=by
 have h:Int.gcd t b≠0:=fun h=>hb (Int.gcd_eq_zero_iff.mp h).2
 omega
theorem zPX{t b:Int}(hb:b≠0):dv t b≠0:=by
 have:=zOK (t:=t) hb
 unfold dv;split<;>omega
theorem zBn(t b:Int):dv t b ∣ t:=by
 unfold dv;split
 ·exact Int.neg_dvd.mpr (Ux ..)
 ·exact Ux ..
theorem zGe(t b:Int):dv t b ∣ b:=by
 unfold dv;split
 ·exact Int.neg_dvd.mpr (Uy ..)
 ·exact Uy ..
theorem pU{t d:Int}(h:d ∣ t):t.fdiv d=t / d:=by
 rw[Int.fdiv_eq_ediv];simp[h]
theorem zG{t b:Int}(hb:b≠0):t.fdiv (dv t b)=(Rat.divInt t b).num:=by
 rw[pU (zBn t b),Rat.num_divInt,Int.gcd_comm b t];unfold dv;rcases Int.lt_trichotomy b 0 with h | h | h
 ·rw[Jk h,Int.sign_eq_neg_one_of_neg h,Int.ediv_neg]
  have:(-1:Int)*t=-t:=by omega
  rw[this,W5 (Ux ..)]
 ·exact absurd h hb
 ·rw[Jl (by omega),Int.sign_eq_one_of_pos h,Int.one_mul]
theorem zD{t b:Int}(hb:b≠0):b.fdiv (dv t b)=((Rat.divInt t b).den:Int):=by
 rw[pU (zGe t b),Rat.den_divInt,Jl hb,Int.gcd_comm b t];unfold dv;rcases Int.lt_trichotomy b 0 with h | h | h
 ·rw[Jk h,Int.ediv_neg,Int.natCast_ediv]
  have e:((b.natAbs:Nat):Int)=-b:=by omega
  rw[e,W5 (Uy ..)]
 ·exact absurd h hb
 ·rw[Jl (by omega),Int.natCast_ediv]
  have e:((b.natAbs:Nat):Int)=b:=by omega
  rw[e]
theorem dX(q:Rat):(q.den:Int)≠0:=by have:=q.den_nz;omega
theorem eU(q:Rat):(0:Int)<(q.den:Int):=by have:=q.den_nz;omega
theorem zKh(p q:Rat):Rat.divInt (p.num*q.den+q.num*p.den) (p.den*q.den)=p+q:=by
 rw[<-Rat.divInt_add_divInt _ _ (dX p) (dX q),V5,V5]
theorem zJL(p q:Rat):Rat.divInt (p.num*q.den-q.num*p.den) (p.den*q.den)=p-q:=by
 rw[<-Rat.divInt_sub_divInt _ _ (dX p) (dX q),V5,V5]
theorem zHD(p q:Rat):Rat.divInt (p.num*q.num) (p.den*q.den)=p*q:=by
 rw[<-Uz,V5,V5]
theorem zIn(p q:Rat):Rat.divInt (p.num*q.den) (p.den*q.num)=p / q:=by
 rw[<-Uz,V5,Vh,Rat.inv_def]
theorem zLQ{q:Rat}:q.num≠0 ↔ q≠0:=by
 constructor
 ·intro h e;exact h (by rw[e];rfl)
 ·intro h e;exact h (Rat.num_eq_zero.mp e)
def Sz(n:Nat)(q:Rat):Prop:=q.num.natAbs<2^n/\q.den<2^n
theorem Sz.mono{m n:Nat}{q:Rat}(h:Sz m q)(l:m<=n):Sz n q:=
 ⟨Qn h.1 (Vo (by decide) l),Qn h.2 (Vo (by decide) l)⟩
theorem zQn{t b:Int}(hb:b≠0):(Rat.divInt t b).num.natAbs<=t.natAbs:=by
 rw[<-zG hb,pU (zBn t b),Int.natAbs_ediv_of_dvd (zBn t b)];exact Nat.div_le_self ..
theorem zFv{t b:Int}(hb:b≠0):(Rat.divInt t b).den<=b.natAbs:=by
 rw[Rat.den_divInt,Jl hb];exact Nat.div_le_self ..
theorem Sz.of{n:Nat}{t b:Int}(hb:b≠0)(ht:t.natAbs<2^n)(h:b.natAbs<2^n):Sz n (Rat.divInt t b):=
 ⟨Xh (zQn hb) ht,Xh (zFv hb) h⟩
theorem fA{a b:Int}{m n:Nat}(ha:a.natAbs<2^m)(hb:b.natAbs<2^n):(a*b).natAbs<2^(m+n):=by
 rw[Int.natAbs_mul,Nat.pow_add];exact Nat.mul_lt_mul'' ha hb
theorem zRb{a b:Int}{m:Nat}(ha:a.natAbs<2^m)(hb:b.natAbs<2^m):(a+b).natAbs<2^(m+1):=by
 rw[Nat.pow_succ];omega
theorem zQZ{a b:Int}{m:Nat}(ha:a.natAbs<2^m)(hb:b.natAbs<2^m):(a-b).natAbs<2^(m+1):=by
 rw[Nat.pow_succ];omega
theorem Sz.d{n:Nat}{q:Rat}(h:Sz n q):((q.den:Int)).natAbs<2^n:=h.2
theorem Sz.add{m n:Nat}{p q:Rat}(hp:Sz m p)(hq:Sz n q):Sz (m+n+1) (p+q):=by
 rw[<-zKh];refine Sz.of (by have:=eU p;have:=eU q;exact V6 (dX p) (dX q)) (zRb (fA hp.1 hq.d) ?_) ?_
 ·rw[Uv m n];exact fA hq.1 hp.d
 ·exact Qn (fA hp.d hq.d) (Vo (by decide) (by omega))
theorem Sz.sub{m n:Nat}{p q:Rat}(hp:Sz m p)(hq:Sz n q):Sz (m+n+1) (p-q):=by
 rw[<-zJL];refine Sz.of (V6 (dX p) (dX q)) (zQZ (fA hp.1 hq.d) ?_) ?_
 ·rw[Uv m n];exact fA hq.1 hp.d
 ·exact Qn (fA hp.d hq.d) (Vo (by decide) (by omega))
theorem Sz.mul{m n:Nat}{p q:Rat}(hp:Sz m p)(hq:Sz n q):Sz (m+n) (p*q):=by
 rw[<-zHD];exact Sz.of (V6 (dX p) (dX q)) (fA hp.1 hq.1) (fA hp.d hq.d)
theorem Sz.div{m n:Nat}{p q:Rat}(hp:Sz m p)(hq:Sz n q)(h:q≠0):Sz (m+n) (p / q):=by
 rw[<-zIn];exact Sz.of (V6 (dX p) (zLQ.mpr h)) (fA hp.1 hq.d) (fA hp.d hq.1)
end Fq
namespace Fr
open L3 PySem Fq
theorem zFq{t:Tv}{b:Sv}{ρ:Rho}(P:Rho->Prop)(μ:Rho->Nat)(Q:Res Fl->Prop)(h0:P ρ)
  (step:∀ ρ,P ρ->(t ρ=.ok false/\Q (.ok (.nx ρ)))∨(t ρ=.ok true/\∃ ρ',b ρ=.ok (.nx ρ')/\P ρ'/\μ ρ' < μ ρ)):Q (fB t b ρ):=by
 have main:∀ n ρ,μ ρ<=n->P ρ->Q (fB t b ρ):=by
  intro n
  induction n with
  | zero=>
   intro ρ hn hp;rw[zCR];rcases step ρ hp with⟨h1,h2⟩ | ⟨h1,ρ',h2,h3,h4⟩
   ·rw[h1];exact h2
   ·omega
  | succ n ih=>
   intro ρ hn hp;rw[zCR];rcases step ρ hp with⟨h1,h2⟩ | ⟨h1,ρ',h2,h3,h4⟩
   ·rw[h1];exact h2
   ·rw[h1]
    simp only[Res.bind,if_true,h2];exact ih ρ' (by omega) h3
 exact main _ ρ (Qh _) h0
theorem zFE{i:Int}{m:Nat}(h:i.natAbs<2^m):nb i<=m+1:=zSF (Qn h (Vo (by decide) (by omega))) (by omega)
theorem bP{i j:Int}{m n:Nat}(hi:i.natAbs<2^m)(hj:j.natAbs<2^n)(h:m+n<=100000000):kN i j=true:=by
 unfold kN;have h1:=zFE hi;have h2:=zFE hj;rw[Xc];exact .inr (J6 (by omega))
theorem zNg{i j:Int}(h1:-(2^64)<j)(h2:j<2^64):kN i j=true:=by
 unfold kN;rw[Xc,Xc];exact .inl (.inr (by rw[J6 h1,J6 h2];rfl))
theorem zNr{i j:Int}(h1:-(2^64)<i)(h2:i<2^64):kN i j=true:=by
 unfold kN;rw[Xc,Xc];exact .inl (.inl (by rw[J6 h1,J6 h2];rfl))
theorem uS{j:Int}{m:Nat}(h0:j≠0)(hj:j.natAbs<2^m)(h:m<=8999):mM j=true:=by
 unfold mM;have h1:=zFE hj;rw[J6 h0,J6 (show nb j<=9000 by omega)];rfl
theorem zLm{i j:Int}{m:Nat}(hi:i.natAbs<2^m)(h0:0<=j)(h:((m:Int)+1)*j<=2^27):oV i j=true:=by
 unfold oV;have h1:=zFE hi;rw[J6 h0,J6 (show(nb i:Int)*j<=2^27 from Vl (W6 (by omega) h0) h)];rfl
theorem okDiv_lit{j:Int}(h0:0<j)(h:j<1000000000000000000):mM j=true:=uS (m:=64) (by omega) (by omega) (by decide)
theorem okMul_litr{i j:Int}(h1:-1000000000000000000<j)(h2:j<1000000000000000000):kN i j=true:=zNg (by omega) (by omega)
theorem okMul_litl{i j:Int}(h1:-1000000000000000000<i)(h2:i<1000000000000000000):kN i j=true:=zNr (by omega) (by omega)
theorem p10(n:Nat):(0:Int)<10^n:=Yu (by decide)
theorem p10ne(n:Nat):((10:Int)^n=0)=False:=eq_false (by have:=p10 n;omega)
theorem p10pos2(n:Nat):(0:Int)<2*10^n:=by have:=p10 n;omega
theorem p10ne2(n:Nat):((2:Int)*10^n=0)=False:=eq_false (by have:=p10 n;omega)
theorem okp9:oV 10 9=true:=by decide
theorem okp12:oV 10 12=true:=by decide
theorem okp20:oV 10 20=true:=by decide
theorem okp30:oV 10 30=true:=by decide
def dq(q:Rat):D:=.tup [.int q.num,.int (q.den:Int)]
def dp(p:Rat×Rat):D:=.tup [dq p.1,dq p.2]
theorem eq_dq(p q:Rat):eqD (dq p) (dq q)=decide (p=q):=by
 show((p.num==q.num) && (((p.den:Int)==(q.den:Int)) && true))=decide (p=q)
 by_cases h:p=q
 ·subst h;simp
 ·rw[Jj h]
  by_cases h1:p.num=q.num
  ·have h2:p.den≠q.den:=fun e=>h (Rat.ext h1 e)
   have:((p.den:Int)==(q.den:Int))=false:=by simp;omega
   rw[this];simp
  ·simp[h1]
theorem dep_dq(q:Rat):dep (dq q)=1:=rfl
theorem ix_dq0(q:Rat):oIx (dq q) (.int 0)=.ok (.int q.num):=rfl
theorem ix_dq1(q:Rat):oIx (dq q) (.int 1)=.ok (.int (q.den:Int)):=rfl
theorem ty_dq(q:Rat):tyN (dq q) = "tuple" := rfl
theorem len_dq(q:Rat):mP [dq q]=.ok (.int 2):=rfl
theorem oEq_dq(p q:Rat):oEq (dq p) (dq q)=.ok (.bl (decide (p=q))):=by
 rw[<-eq_dq];rfl
theorem oNe_dq(p q:Rat):oNe (dq p) (dq q)=.ok (.bl (!decide (p=q))):=by
 rw[<-eq_dq];rfl
theorem noL_dq(q:Rat):noL (dq q)=true:=rfl
theorem zQz(p q:Rat×Rat):eqD (dp p) (dp q)=decide (p=q):=by
 show(eqD (dq p.1) (dq q.1) && (eqD (dq p.2) (dq q.2) && true))=decide (p=q)
 rw[eq_dq,eq_dq];obtain⟨a,b⟩:=p;obtain⟨c,d⟩:=q;simp
theorem dp_mk(a b:Rat):(.tup [dq a,dq b]:D)=dp (a,b):=rfl
theorem ix_dp0(p:Rat×Rat):oIx (dp p) (.int 0)=.ok (dq p.1):=rfl
theorem ix_dp1(p:Rat×Rat):oIx (dp p) (.int 1)=.ok (dq p.2):=rfl
theorem ty_dp(p:Rat×Rat):tyN (dp p) = "tuple" := rfl
theorem len_dp(p:Rat×Rat):mP [dp p]=.ok (.int 2):=rfl
theorem dep_dp(p:Rat×Rat):dep (dp p)=2:=rfl
theorem noL_dp(p:Rat×Rat):noL (dp p)=true:=rfl
theorem oEq_dp(p q:Rat×Rat):oEq (dp p) (dp q)=.ok (.bl (decide (p=q))):=by
 rw[<-zQz];rfl
theorem oNe_dp(p q:Rat×Rat):oNe (dp p) (dp q)=.ok (.bl (!decide (p=q))):=by
 rw[<-zQz];rfl
theorem fdiv_pos(a:Int){b:Int}(h:0<b):a.fdiv b=a / b:=W7 a (by omega)
theorem fmod_pos(a:Int){b:Int}(h:0<b):a.fmod b=a % b:=W8 a (by omega)
theorem zNN(a:Int){b:Int}(h:0<=b):a.fdiv b=a / b:=W7 a h
theorem zAi(a:Int){b:Int}(h:0<=b):a.fmod b=a % b:=W8 a h
theorem noLs_dps:∀ l:List (Rat×Rat),noLs (l.map dp)=true
 | []=>rfl
 | q::l=>by rw[Qu,noLs,noL_dp,noLs_dps l];rfl
theorem oB{α:Type}{l:List α}{i:Nat}{a:α}(h:l[i]?=some a):l.take (i+1)=l.take i++[a]:=by rw[U0,h];rfl
theorem zPx{b:Int}(h:0<b):(.tup [.int 1,.int b]:D)=dq (Rat.divInt 1 b):=by
 have hb:b≠0:=by omega
 have e:Fq.dv 1 b=1:=by unfold Fq.dv;rw[Jl (by omega)];simp
 unfold dq;rw[<-Fq.zG hb,<-Fq.zD hb,e];simp
theorem zQU(k:Int):(.tup [.int k,.int 1]:D)=dq (k:Rat):=rfl
end Fr
namespace L3
open PySem
def zLP(b:Sv):Fl->Res Fl
 | .nx ρ=>b ρ
 | .ret r=>.ok (.ret r)
 | .brk ρ=>.ok (.brk ρ)
 | .ctn ρ=>.ok (.ctn ρ)
theorem sSeq_at{a b:Sv}{ρ:Rho}:aZ a b ρ=(a ρ).bind (zLP b):=by
 unfold aZ;congr;funext f;cases f<;>rfl
def ifF(a b:Sv)(ρ:Rho):Bool->Res Fl
 | true=>a ρ
 | false=>b ρ
theorem sIf_at{t:Tv}{a b:Sv}{ρ:Rho}:sIf t a b ρ=(t ρ).bind (ifF a b ρ):=by
 unfold sIf;congr;funext c;cases c<;>rfl
def zSe(a b:Ev)(ρ:Rho):Bool->Res D
 | true=>a ρ
 | false=>b ρ
theorem eIf_at{t:Tv}{a b:Ev}{ρ:Rho}:eIf t a b ρ=(t ρ).bind (zSe a b ρ):=by
 unfold eIf;congr;funext c;cases c<;>rfl
def zRU(b:Ev)(ρ:Rho):D->Res D
 | .bl true=>b ρ
 | .bl false=>.ok (.bl false)
 | _=>.no
theorem eAnd_at{a b:Ev}{ρ:Rho}:zRC a b ρ=(a ρ).bind (zRU b ρ):=by
 unfold zRC;congr;funext c;cases c<;>try rfl
 rename_i c;cases c<;>rfl
def orF(b:Ev)(ρ:Rho):D->Res D
 | .bl true=>.ok (.bl true)
 | .bl false=>b ρ
 | _=>.no
theorem eOr_at{a b:Ev}{ρ:Rho}:eOr a b ρ=(a ρ).bind (orF b ρ):=by
 unfold eOr;congr;funext c;cases c<;>try rfl
 rename_i c;cases c<;>rfl
def opF(o:Op2)(b:Ev)(ρ:Rho)(x:D):Res D:=(b ρ).bind (o x)
theorem eOp_at{o:Op2}{a b:Ev}{ρ:Rho}:eOp o a b ρ=(a ρ).bind (opF o b ρ):=rfl
def consG(d:D)(ds:List D):Res (List D):=.ok (d::ds)
def consF(r:Fv)(ρ:Rho)(d:D):Res (List D):=(r ρ).bind (consG d)
theorem aCons_at{e:Ev}{r:Fv}{ρ:Rho}:aD e r ρ=(e ρ).bind (consF r ρ):=rfl
def tupF(ds:List D):Res D:=if ds.length<=16777216 then .ok (.tup ds) else .no
theorem eTup_at{a:Fv}{ρ:Rho}:rY a ρ=(a ρ).bind tupF:=rfl
def rtF(r:Rt):Res D:=.ok r.d
def callF(m:Mir)(ds:List D):Res D:=(m ds).bind rtF
theorem eCall_at{m:Mir}{a:Fv}{ρ:Rho}:aN m a ρ=(a ρ).bind (callF m):=rfl
def isTF(T:String)(d:D):Res D:=.ok (.bl (isT T d))
theorem eIsT_at{T:String}{a:Ev}{ρ:Rho}:zPj T a ρ=(a ρ).bind (isTF T):=rfl
def frzF(d:D):Res D:=if noL d=true then .ok d else .no
theorem eFrz_at{e:Ev}{ρ:Rho}:zRJ e ρ=(e (ρ.map Sl.frz)).bind frzF:=rfl
def fLstF(ds:List D):Res (List D):=if ds.length<=16777216 then .ok ds else .no
theorem fLst_at{a:Fv}{ρ:Rho}:kD a ρ=(a ρ).bind fLstF:=rfl
def rtFF:Rt->Res (List D)
 | .f ds=>.ok ds
 | .v _=>.no
def fcallF(m:Mir)(ds:List D):Res (List D):=(m ds).bind rtFF
theorem fCall_at{m:Mir}{a:Fv}{ρ:Rho}:dI m a ρ=(a ρ).bind (fcallF m):=by
 unfold dI fcallF;congr
def zJZ:List D->Res (List D)
 | [.lst ds]=>.ok ds
 | [.tup ds]=>.ok ds
 | _=>.no
theorem fListF_l{ds:List D}:zJZ [.lst ds]=.ok ds:=rfl
theorem fListF_t{ds:List D}:zJZ [.tup ds]=.ok ds:=rfl
theorem fList_at{a:Fv}{ρ:Rho}:zRV a ρ=(a ρ).bind zJZ:=rfl
def catG(x y:D):Res (List D):=match x,y with
 | .lst ds,.lst es=>if ds.length+es.length<=16777216 then .ok (ds++es) else .no
 | _,_=>.no
def catF(b:Ev)(ρ:Rho)(x:D):Res (List D):=(b ρ).bind (catG x)
theorem fCat_at{a b:Ev}{ρ:Rho}:zOx a b ρ=(a ρ).bind (catF b ρ):=rfl
def efF(ds:List D):Res D:=.ok (.lst ds)
theorem eF_at{f:Fv}{ρ:Rho}:eF f ρ=(f ρ).bind efF:=rfl
def fFrzF(ds:List D):Res (List D):=if noLs ds=true then .ok ds else .no
theorem fFrz_at{f:Fv}{ρ:Rho}:zPk f ρ=(f (ρ.map Sl.frz)).bind fFrzF:=rfl
def oSF:D->Res (Option Int)
 | .int i=>.ok (some i)
 | _=>.no
theorem oS_at{e:Ev}{ρ:Rho}:oS e ρ=(e ρ).bind oSF:=by
 unfold oS;congr
def fSlH(x:D)(l h:Option Int):Res (List D):=match x with
 | .lst ds=>.ok (fY ds l h)
 | _=>.no
def fSlG(hi:Ov)(ρ:Rho)(x:D)(l:Option Int):Res (List D):=(hi ρ).bind (fSlH x l)
def fSlF(lo hi:Ov)(ρ:Rho)(x:D):Res (List D):=(lo ρ).bind (fSlG hi ρ x)
theorem fSl_at{a:Ev}{lo hi:Ov}{ρ:Rho}:fSl a lo hi ρ=(a ρ).bind (fSlF lo hi ρ):=rfl
def zTQ(x:D)(l h:Option Int):Res D:=match x with
 | .tup ds=>if (fY ds l h).length<ds.length then .ok (.tup (fY ds l h)) else .no
 | _=>.no
def blF:D->Res Bool
 | .bl b=>.ok b
 | _=>.no
theorem tVal_at{e:Ev}{ρ:Rho}:cU e ρ=(e ρ).bind blF:=by
 unfold cU;congr
def notF(b:Bool):Res Bool:=.ok (!b)
theorem tNotB_at{t:Tv}{ρ:Rho}:wT t ρ=(t ρ).bind notF:=rfl
def zOc(u:Tv)(ρ:Rho):Bool->Res Bool
 | true=>u ρ
 | false=>.ok false
theorem tAndB_at{t u:Tv}{ρ:Rho}:zBO t u ρ=(t ρ).bind (zOc u ρ):=by
 unfold zBO;congr;funext c;cases c<;>rfl
def zRD(u:Tv)(ρ:Rho):Bool->Res Bool
 | true=>.ok true
 | false=>u ρ
theorem tOrB_at{t u:Tv}{ρ:Rho}:zEQ t u ρ=(t ρ).bind (zRD u ρ):=by
 unfold zEQ;congr;funext c;cases c<;>rfl
def setF(i:Nat)(ρ:Rho)(d:D):Res Fl:=.ok (.nx (ρ.set i (.val d)))
theorem sSet_at{i:Nat}{e:Ev}{ρ:Rho}:cT i e ρ=(e ρ).bind (setF i ρ):=rfl
def ownF(i:Nat)(ρ:Rho)(ds:List D):Res Fl:=.ok (.nx (ρ.set i (.own ds)))
theorem sOwn_at{i:Nat}{f:Fv}{ρ:Rho}:zAM i f ρ=(f ρ).bind (ownF i ρ):=rfl
def dropF(ρ:Rho)(_d:D):Res Fl:=.ok (.nx ρ)
theorem sDrop_at{e:Ev}{ρ:Rho}:sM e ρ=(e ρ).bind (dropF ρ):=rfl
def retF(d:D):Res Fl:=.ok (.ret (.v d))
theorem sRet_at{e:Ev}{ρ:Rho}:eY e ρ=(e (ρ.map Sl.frz)).bind retF:=rfl
def retFF(ds:List D):Res Fl:=.ok (.ret (.f ds))
theorem sRetF_at{f:Fv}{ρ:Rho}:iD f ρ=(f (ρ.map Sl.frz)).bind retFF:=rfl
def raiseF(c:Str)(ds:List D):Res Fl:=if ds.length<=16777216 then .err c else .no
theorem sRaise_at{c:Str}{a:Fv}{ρ:Rho}:jJ c a ρ=(a ρ).bind (raiseF c):=rfl
def appF(i:Nat)(ρ:Rho)(ds:List D)(d:D):Res Fl:=if ds.length<16777216 then .ok (.nx (ρ.set i (.own (ds++[d])))) else .no
def appS(i:Nat)(e:Ev)(ρ:Rho):Option Sl->Res Fl
 | some (.own ds)=>(e ρ).bind (appF i ρ ds)
 | _=>.no
theorem sApp_at{i:Nat}{e:Ev}{ρ:Rho}:zHm i e ρ=appS i e ρ ρ[i]?:=by
 unfold zHm appS;rfl
def extF(i:Nat)(ρ:Rho)(ds:List D)(es:List D):Res Fl:=if ds.length+es.length<=16777216 then .ok (.nx (ρ.set i (.own (ds++es)))) else .no
def extS(i:Nat)(e:Fv)(ρ:Rho):Option Sl->Res Fl
 | some (.own ds)=>(e ρ).bind (extF i ρ ds)
 | _=>.no
theorem sExt_at{i:Nat}{e:Fv}{ρ:Rho}:zKV i e ρ=extS i e ρ ρ[i]?:=by
 unfold zKV extS;rfl
def augF(i:Nat)(ρ:Rho)(o:Op2)(x y:D):Res Fl:=(o x y).bind (setF i ρ)
def augS(i:Nat)(o:Op2)(e:Ev)(ρ:Rho):Option Sl->Res Fl
 | some (.val x)=>(e ρ).bind (augF i ρ o x)
 | _=>.no
theorem sAug_at{i:Nat}{o:Op2}{e:Ev}{ρ:Rho}:zKu i o e ρ=augS i o e ρ ρ[i]?:=by
 unfold zKu augS;rfl
def dropG(ρ:Rho)(_r:Rt):Res Fl:=.ok (.nx ρ)
def setG(i:Nat)(ρ:Rho)(r:Rt):Res Fl:=.ok (.nx (ρ.set i (.val r.d)))
def xsetF(i:Nat)(m:Mir)(ρ:Rho)(ds:List D):Res Fl:=(m ds).bind (setG i ρ)
theorem xSet_at{i:Nat}{m:Mir}{a:Fv}{ρ:Rho}:zRz i m a ρ=(noErr (a ρ)).bind (xsetF i m ρ):=rfl
def zRN(i:Nat):Res Fl->Res Fl
 | .ok (.nx ρ')=>.ok (.nx (ρ'.set i .un))
 | _=>.no
def zRr(i:Nat)(h:Sv)(ρ:Rho)(c:Str):Bool->Res Fl
 | true=>zRN i (h (ρ.set i (.exc c)))
 | false=>.no
def zSp(tb:List Str)(i:Nat)(h:Sv)(ρ:Rho):Res Fl->Res Fl
 | .err c=>zRr i h ρ c (tb.contains c)
 | .ok f=>.ok f
 | .no=>.no
theorem sTry_at{tb:List Str}{i:Nat}{b h:Sv}{ρ:Rho}:zRq tb i b h ρ=zSp tb i h ρ (b ρ):=by
 unfold zRq
 cases b ρ with
 | ok f=>rfl
 | no=>rfl
 | err c=>
  show(if tb.contains c=true then _ else _)=zRr i h ρ c (tb.contains c)
  cases tb.contains c with
  | false=>rfl
  | true=>
   simp only[if_true,zRr]
   cases h (ρ.set i (.exc c)) with
   | ok f=>cases f<;>rfl
   | _=>rfl
def zKz(anc:List (Str×List Str))(cs:List Str):Option Sl->Res D
 | some (.exc c)=>(match anc.lookup c with
  | some l=>.ok (.bl (cs.any fun x=>l.contains x))
  | none=>.no)
 | _=>.no
theorem eIsE_at{anc:List (Str×List Str)}{i:Nat}{cs:List Str}{ρ:Rho}:zKx anc i cs ρ=zKz anc cs ρ[i]?:=by
 unfold zKx zKz;rfl
def varS:Option Sl->Res D
 | some (.val d)=>.ok d
 | _=>.no
theorem eVar_at{i:Nat}{ρ:Rho}:aG i ρ=varS ρ[i]?:=by
 unfold aG varS;rfl
def retS:Option Sl->Res Fl
 | some (.own ds)=>.ok (.ret (.f ds))
 | _=>.no
theorem sRetOwn_at{i:Nat}{ρ:Rho}:gB i ρ=retS ρ[i]?:=by
 unfold gB retS;rfl
def nxF(ρ:Rho):Res Fl:=.ok (.nx ρ)
def unpF(g:Gv)(ρ:Rho)(d:D):Res Fl:=(g d ρ).bind nxF
theorem sUnp_at{g:Gv}{f:Ev}{ρ:Rho}:zSf g f ρ=(f ρ).bind (unpF g ρ):=rfl
def gtF(gs:List D->Rho->Res Rho)(ρ:Rho):D->Res Rho
 | .tup ds=>gs ds ρ
 | _=>.no
theorem gTup_at{gs:List D->Rho->Res Rho}{d:D}{ρ:Rho}:zHq gs d ρ=gtF gs ρ d:=by
 unfold zHq gtF;rfl
theorem gCons_at{g:Gv}{r:List D->Rho->Res Rho}{d:D}{ds:List D}{ρ:Rho}:mO g r (d::ds) ρ=(g d ρ).bind (r ds):=rfl
theorem gNil_at{ρ:Rho}:zHp [] ρ=.ok ρ:=rfl
def forF(g:Gv)(b:Sv)(ρ:Rho)(ds:List D):Res Fl:=iC g b ds ρ
theorem sFor_at{it:Fv}{g:Gv}{b:Sv}{ρ:Rho}:zAW it g b ρ=(it ρ).bind (forF g b ρ):=rfl
def zLS:D->Res (List D)
 | .lst ds=>.ok ds
 | .tup ds=>.ok ds
 | _=>.no
theorem seqD_l{ds:List D}:zLS (.lst ds)=.ok ds:=rfl
theorem seqD_t{ds:List D}:zLS (.tup ds)=.ok ds:=rfl
theorem iSeq_at{e:Ev}{ρ:Rho}:qT e ρ=(e ρ).bind zLS:=by
 unfold qT;congr
def zPN:List D->Res (List D)
 | [.int j]=>if -(2^62)<=j/\j<2^62 then .ok (rng 0 j.toNat 1) else .no
 | _=>.no
theorem iRng1_at{a:Fv}{ρ:Rho}:zDT a ρ=(a ρ).bind zPN:=rfl
def zPs:List D->Res (List D)
 | [.int i,.int j]=>if -(2^62)<=i/\i<2^62/\-(2^62)<=j/\j<2^62 then .ok (rng i (j-i).toNat 1) else .no
 | _=>.no
theorem iRng2_at{a:Fv}{ρ:Rho}:zIw a ρ=(a ρ).bind zPs:=rfl
theorem fn_at{p n:Nat}{b:Sv}{ds:List D}(h:ds.length=p):fn p n b ds=(b (start n ds)).bind fin:=by
 unfold fn;rw[Jk h]
theorem nr{α:Sort _}{a b:α}(h:a=b):a=b:=h
theorem okb{α β:Type}{a:α}{f:α->Res β}:(Res.ok a).bind f=f a:=nr rfl
theorem erb{α β:Type}{c:Str}{f:α->Res β}:(Res.err c).bind f=.err c:=nr rfl
theorem seqF_nx{b:Sv}{ρ:Rho}:zLP b (.nx ρ)=b ρ:=nr rfl
theorem seqF_ret{b:Sv}{r:Rt}:zLP b (.ret r)=.ok (.ret r):=nr rfl
theorem gtF_t{gs:List D->Rho->Res Rho}{ρ:Rho}{ds:List D}:gtF gs ρ (.tup ds)=gs ds ρ:=nr rfl
theorem ifF_t{a b:Sv}{ρ:Rho}:ifF a b ρ true=a ρ:=nr rfl
theorem ifF_f{a b:Sv}{ρ:Rho}:ifF a b ρ false=b ρ:=nr rfl
theorem eifF_t{a b:Ev}{ρ:Rho}:zSe a b ρ true=a ρ:=nr rfl
theorem eifF_f{a b:Ev}{ρ:Rho}:zSe a b ρ false=b ρ:=nr rfl
theorem andF_t{b:Ev}{ρ:Rho}:zRU b ρ (.bl true)=b ρ:=nr rfl
theorem andF_f{b:Ev}{ρ:Rho}:zRU b ρ (.bl false)=.ok (.bl false):=nr rfl
theorem orF_t{b:Ev}{ρ:Rho}:orF b ρ (.bl true)=.ok (.bl true):=nr rfl
theorem orF_f{b:Ev}{ρ:Rho}:orF b ρ (.bl false)=b ρ:=nr rfl
theorem tandF_t{u:Tv}{ρ:Rho}:zOc u ρ true=u ρ:=nr rfl
theorem tandF_f{u:Tv}{ρ:Rho}:zOc u ρ false=.ok false:=nr rfl
theorem torF_t{u:Tv}{ρ:Rho}:zRD u ρ true=.ok true:=nr rfl
theorem torF_f{u:Tv}{ρ:Rho}:zRD u ρ false=u ρ:=nr rfl
theorem tryE_t{i:Nat}{h:Sv}{ρ:Rho}{c:Str}:zRr i h ρ c true=zRN i (h (ρ.set i (.exc c))):=rfl
theorem tryF_ok{tb:List Str}{i:Nat}{h:Sv}{ρ:Rho}{f:Fl}:zSp tb i h ρ (.ok f)=.ok f:=rfl
theorem tryF_err{tb:List Str}{i:Nat}{h:Sv}{ρ:Rho}{c:Str}:zSp tb i h ρ (.err c)=zRr i h ρ c (tb.contains c):=rfl
theorem tryH_nx{i:Nat}{ρ:Rho}:zRN i (.ok (.nx ρ))=.ok (.nx (ρ.set i .un)):=rfl
theorem oAdd_i{i j:Int}:tZ (.int i) (.int j)=.ok (.int (i+j)):=rfl
theorem oAddI_i{i j:Int}:zAS (.int i) (.int j)=.ok (.int (i+j)):=rfl
theorem oSub_i{i j:Int}:zAL (.int i) (.int j)=.ok (.int (i-j)):=rfl
theorem oMul_i{i j:Int}(h:kN i j=true):oW (.int i) (.int j)=.ok (.int (i*j)):=Jk h
theorem oDiv_i{i j:Int}(h:mM j=true):oX (.int i) (.int j)=.ok (.int (i.fdiv j)):=Jk h
theorem oMod_i{i j:Int}(h:j≠0):rV (.int i) (.int j)=.ok (.int (i.fmod j)):=Jk h
theorem oPow_i{i j:Int}(h:oV i j=true):zKg (.int i) (.int j)=.ok (.int (i^j.toNat)):=Jk h
theorem oEq_i{i j:Int}:oEq (.int i) (.int j)=.ok (.bl (decide (i=j))):=rfl
theorem oNe_i{i j:Int}:oNe (.int i) (.int j)=.ok (.bl (!decide (i=j))):=rfl
theorem oLt_i{i j:Int}:oLt (.int i) (.int j)=.ok (.bl (decide (i<j))):=rfl
theorem oLe_i{i j:Int}:oLe (.int i) (.int j)=.ok (.bl (decide (i<=j))):=rfl
theorem oGt_i{i j:Int}:oGt (.int i) (.int j)=.ok (.bl (decide (j<i))):=rfl
theorem oGe_i{i j:Int}:oGe (.int i) (.int j)=.ok (.bl (decide (j<=i))):=rfl
theorem ofO_some{α:Type}{a:α}:ofO (some a)=.ok a:=rfl
theorem oNeg_i{i:Int}:zAB (.int i)=.ok (.int (-i)):=rfl
theorem oNot_b{b:Bool}:zTJ (.bl b)=.ok (.bl (!b)):=rfl
theorem bAbs_i{i:Int}:zMc [.int i]=.ok (.int (i.natAbs:Int)):=by
 show Res.ok (D.int (if i<0 then -i else i))=_
 congr 2;split<;>omega
theorem bMin_i{i j:Int}:zPr [.int i,.int j]=.ok (.int (min i j)):=by
 show Res.ok (D.int (if j<i then j else i))=_
 congr 2;split<;>omega
theorem zEl{j:Int}(h1:-(2^62)<=j)(h2:j<2^62):zPN [.int j]=.ok (rng 0 j.toNat 1):=Jk ⟨h1,h2⟩
theorem zOu{i j:Int}(h1:-(2^62)<=i)(h2:i<2^62)(h3:-(2^62)<=j)(h4:j<2^62):zPs [.int i,.int j]=.ok (rng i (j-i).toNat 1):=Jk ⟨h1,h2,h3,h4⟩
theorem zEw{α:Type}{g:Gv}{b:Sv}{ds:List D}{ρ:Rho}{k:Fl->Res α}{Q:Res α->Prop}(P:Rho->Prop)(h0:P ρ)
  (st:∀ d ρ,d∈ds->P ρ->∃ ρ2,(g d ρ).bind b=.ok (.nx ρ2)/\P ρ2) (fi:∀ ρ',P ρ'->Q (k (.nx ρ'))):Q ((iC g b ds ρ).bind k):=by
 suffices h:∃ ρ',iC g b ds ρ=.ok (.nx ρ')/\P ρ' by
  obtain⟨ρ',e,hp⟩:=h;rw[e];exact fi ρ' hp
 clear fi
 induction ds generalizing ρ with
 | nil=>exact⟨ρ,rfl,h0⟩
 | cons d ds ih=>
  obtain⟨ρ2,e,hp⟩:=st d ρ Qb h0;obtain⟨ρ',e',hp'⟩:=ih hp fun d' ρ' hd=>st d' ρ' (Qc _ hd)
  refine⟨ρ',?_,hp'⟩
  rw[iC]
  cases hg:g d ρ with
  | no=>rw[hg] at e;cases e
  | err c=>rw[hg] at e;cases e
  | ok ρ1=>
   rw[hg] at e;have e2:b ρ1=.ok (.nx ρ2):=e;simp only[Res.bind,e2];exact e'
theorem ty_i{i:Int}:tyN (.int i) = "int" := rfl
theorem ty_b{b:Bool}:tyN (.bl b) = "bool" := rfl
theorem ty_t{ds:List D}:tyN (.tup ds) = "tuple" := rfl
theorem ty_l{ds:List D}:tyN (.lst ds) = "list" := rfl
theorem ty_s{x:Str}:tyN (.str x) = "str" := rfl
theorem ty_n:tyN .non = "NoneType" := rfl
theorem bLen_t{ds:List D}:mP [.tup ds]=.ok (.int ds.length):=rfl
theorem bLen_l{ds:List D}:mP [.lst ds]=.ok (.int ds.length):=rfl
theorem bTup_t{ds:List D}:zMD [.tup ds]=.ok (.tup ds):=rfl
theorem bTup_l{ds:List D}:zMD [.lst ds]=.ok (.tup ds):=rfl
theorem pE{α:Type}{g:Gv}{b:Sv}{ds:List D}{ρ:Rho}{k:Fl->Res α}{Q:Res α->Prop}(P:Nat->Rho->Prop)(h0:P 0 ρ)
  (st:∀ i d ρ,ds[i]?=some d->P i ρ->∃ ρ2,(g d ρ).bind b=.ok (.nx ρ2)/\P (i+1) ρ2) (fi:∀ ρ',P ds.length ρ'->Q (k (.nx ρ'))):Q ((iC g b ds ρ).bind k):=by
 suffices h:∀(ds:List D)(j:Nat)(ρ:Rho),P j ρ->(∀ i d ρ,ds[i]?=some d->P (j+i) ρ->∃ ρ2,(g d ρ).bind b=.ok (.nx ρ2)/\P (j+i+1) ρ2)->∃ ρ',iC g b ds ρ=.ok (.nx ρ')/\P (j+ds.length) ρ' by
  obtain⟨ρ',e,hp⟩:=h ds 0 ρ h0 (fun i d ρ hd hp=>by rw[Yd] at hp ⊢;exact st i d ρ hd hp)
  rw[e];exact fi ρ' (by rw[Yd] at hp;exact hp)
 intro ds
 induction ds with
 | nil=>intro j ρ hp _;exact⟨ρ,rfl,hp⟩
 | cons d ds ih=>
  intro j ρ hp st;obtain⟨ρ2,e,hp2⟩:=st 0 d ρ rfl hp
  obtain⟨ρ',e',hp'⟩:=ih (j+1) ρ2 hp2 fun i d' ρ' hd hp=>by
   have:=st (i+1) d' ρ' (by simpa using hd) (by rw[show j+(i+1)=j+1+i by omega];exact hp)
   rw[show j+(i+1)=j+1+i by omega] at this;exact this
  refine⟨ρ',?_,by rw[Qm,show j+(ds.length+1)=j+1+ds.length by omega];exact hp'⟩
  rw[iC]
  cases hg:g d ρ with
  | no=>rw[hg] at e;cases e
  | err c=>rw[hg] at e;cases e
  | ok ρ1=>
   rw[hg] at e;have e2:b ρ1=.ok (.nx ρ2):=e;simp only[Res.bind,e2];exact e'
theorem zMs{lo c:Int}{n i:Nat}{d:D}(h:(rng lo n c)[i]?=some d):i<n/\d=.int (lo+(i:Int)*c):=by
 unfold rng at h;rw[Qs] at h;by_cases hi:i<n
 ·rw[V7 hi] at h
  cases h;exact⟨hi,rfl⟩
 ·rw[Qz (by rw[Q3];omega)] at h
  cases h
theorem zFJ{f:Ev}{ρ:Rho}{h:D->D}:∀ {ds:List D},(∀ d∈ds,f (ρ++[.val d])=.ok (h d))->iT jO f ρ ds=.ok (ds.map h)
 | [],_=>rfl
 | d::ds,hf=>by
  rw[iT,hf d Qb];simp only[jO,noErr,Res.bind,if_true];rw[zFJ fun e he=>hf e (Qc _ he)];rfl
def zJd(t:Tv)(f:Ev)(ρ:Rho)(ds:List D):Res (List D):=if ds.length<=16777215 then iT t f ρ ds else .no
theorem fComp_at{it:Fv}{t:Tv}{f:Ev}{ρ:Rho}:jW it t f ρ=(it ρ).bind (zJd t f ρ):=rfl
theorem zDy{f:Ev}{ρ:Rho}{h:D->D}{ds:List D}(hl:ds.length<=16777215)(hf:∀ d∈ds,f (ρ++[.val d])=.ok (h d)):zJd jO f ρ ds=.ok (ds.map h):=by
 unfold zJd;rw[Jk hl,zFJ hf]
theorem vE{d:D}(h:dep d<=50):oNe d d=.ok (.bl false):=by unfold oNe;rw[Jk h,uL];rfl
theorem zLk{ds:List D}{k:Int}(h:0<=k):fY ds none (some k)=ds.take k.toNat:=by
 unfold fY cut;simp only[h,if_true,Yf,Nat.sub_zero];rcases Yt k.toNat ds.length with l | l
 ·rw[Yg l]
 ·rw[Y7 l,V8,Yh l]
theorem zFL{α:Type}(l:List α)(a:Nat):l.drop (min a l.length)=l.drop a:=by
 rcases Yt a l.length with h | h
 ·rw[Yg h]
 ·rw[Y7 h,List.drop_length,Yv h]
theorem zJE{ds:List D}{a b:Int}(h1:0<=a)(h2:0<=b):fY ds (some a) (some b)=(ds.drop a.toNat).take (b.toNat-a.toNat):=by
 unfold fY cut;simp only[h1,h2,if_true];rw[zFL];rcases Yt ds.length a.toNat with c | c
 ·rw[Yv c,List.take_nil,List.take_nil]
 ·rw[Yg c]
  rcases Yt b.toNat ds.length with d | d
  ·rw[Yg d]
  ·rw[Y7 d,Yh (by rw[Vu];exact Qh _),Yh (by rw[Vu];exact Nat.sub_le_sub_right d _)]
theorem zGA{ds:List D}{a:Int}(h1:0<=a):fY ds (some a) none=ds.drop a.toNat:=by
 unfold fY cut;simp only[h1,if_true];rw[zFL,Yh (by rw[Vu];omega)]
theorem oY{α:Type}{f:α->D}{l:List α}{i:Int}{a:α}(h0:0<=i)(h:l[i.toNat]?=some a):oIx (.lst (l.map f)) (.int i)=.ok (f a):=by
 show ofO (atD (l.map f) i)=_
 unfold atD;rw[Jk h0,Qs,h];rfl
def popS(i:Nat)(ρ:Rho):Option Sl->Res Fl
 | some (.own ds)=>if ds.length=0 then .no else .ok (.nx (ρ.set i (.own ds.dropLast)))
 | _=>.no
theorem sPop_at{i:Nat}{ρ:Rho}:zPG i ρ=popS i ρ ρ[i]?:=by unfold zPG popS;rfl
theorem oIx_tc{d:D}{ds:List D}{i:Int}:oIx (.tup (d::ds)) (.int i)=ofO (atD (d::ds) i):=rfl
theorem pP{α:Type}{f:α->D}{l:List α}{i:Int}{a:α}(h0:0<=i)(h:l[i.toNat]?=some a):oIx (.tup (l.map f)) (.int i)=.ok (f a):=by
 show ofO (atD (l.map f) i)=_
 unfold atD;rw[Jk h0,Qs,h];rfl
theorem zMC{α:Type}{f:α->D}{l:List α}{k:Nat}{a:α}(h0:0<k)(h:k<=l.length)(h2:l[l.length-k]?=some a):atD (l.map f) (-(k:Int))=some (f a):=by
 unfold atD;rw[Jl (by omega),Qg,Jk (by omega),show((l.length:Int)+-(k:Int)).toNat=l.length-k by omega,Qs,h2];rfl
theorem zEy{α:Type}{f:α->D}{l:List α}{k:Nat}{i:Int}{a:α}(hi:i=-(k:Int))(h0:0<k)(h:k<=l.length)(h2:l[l.length-k]?=some a):oIx (.lst (l.map f)) (.int i)=.ok (f a):=by
 show ofO (atD (l.map f) i)=_
 rw[hi,zMC h0 h h2];rfl
theorem zJJ{α:Type}{f:α->D}{l:List α}{k:Nat}{i:Int}{a:α}(hi:i=-(k:Int))(h0:0<k)(h:k<=l.length)(h2:l[l.length-k]?=some a):oIx (.tup (l.map f)) (.int i)=.ok (f a):=by
 show ofO (atD (l.map f) i)=_
 rw[hi,zMC h0 h h2];rfl
def zSs(ds:List D):D->Res (List D)
 | .int k=>if 0<=k/\k<2^62/\ds.length*k.toNat<=16777216 then .ok (List.replicate k.toNat ds).flatten else .no
 | _=>.no
def repF(g:Ev)(ρ:Rho)(ds:List D):Res (List D):=(g ρ).bind (zSs ds)
theorem fRep_at{f:Fv}{g:Ev}{ρ:Rho}:zPg f g ρ=(f ρ).bind (repF g ρ):=by
 unfold zPg repF;congr
theorem zFi{d:D}{k:Nat}(h:k<=16777216):zSs [d] (.int (k:Int))=.ok (List.replicate k d):=by
 have e:∀ n,(List.replicate n [d]).flatten=List.replicate n d:=by
  intro n
  induction n with
  | zero=>rfl
  | succ n ih=>rw[Xq,X0,ih];rfl
 unfold zSs;dsimp only
 rw[Jk ⟨by omega,by omega,by simp only[Qm,Yw,Vp];omega⟩,Vp,e]
theorem zHL{α:Type}{u:α->D}{f:Ev}{ρ:Rho}{g:α->D}:∀ {l:List α},(∀ a∈l,f (ρ++[.val (u a)])=.ok (g a))->iT jO f ρ (l.map u)=.ok (l.map g)
 | [],_=>rfl
 | a::l,h=>by
  rw[Qu,iT,h a Qb];simp only[jO,noErr,Res.bind,if_true];rw[zHL fun b hb=>h b (Qc _ hb)];rfl
theorem fH{α:Type}{u:α->D}{f:Ev}{ρ:Rho}{g:α->D}{l:List α}(hl:l.length<=16777215)(h:∀ a∈l,f (ρ++[.val (u a)])=.ok (g a)):zJd jO f ρ (l.map u)=.ok (l.map g):=by
 unfold zJd;rw[Jk (by rw[Qg];exact hl),zHL h]
theorem bSum_l{ns:List Int}:zBU [.lst (ns.map D.int)]=.ok (.int ns.sum):=by
 have e:∀ ns:List Int,oU (ns.map D.int)=some ns:=by
  intro ns
  induction ns with
  | nil=>rfl
  | cons i ns ih=>rw[Qu,oU,ih]
 show(match oU (ns.map D.int) with | some ns=>Res.ok (D.int ns.sum) | none=>.no)=_
 rw[e]
theorem bSum_t{ns:List Int}:zBU [.tup (ns.map D.int)]=.ok (.int ns.sum):=by
 have e:∀ ns:List Int,oU (ns.map D.int)=some ns:=by
  intro ns
  induction ns with
  | nil=>rfl
  | cons i ns ih=>rw[Qu,oU,ih]
 show(match oU (ns.map D.int) with | some ns=>Res.ok (D.int ns.sum) | none=>.no)=_
 rw[e]
def slI(i:Nat)(ρ:Rho):Int:=match ρ[i]? with
 | some (.val (.int x))=>x
 | _=>0
theorem chO_s{c:Nat}:chO (some c)=.ok (.str ⟨#[c]⟩):=rfl
theorem zPV{x:Str}:dep (.str x)<=50:=by simp[dep]
theorem oEq_s{x y:Str}:oEq (.str x) (.str y)=.ok (.bl (x==y)):=by
 unfold oEq;rw[Jk zPV,eqD]
theorem oNe_s{x y:Str}:oNe (.str x) (.str y)=.ok (.bl (!(x==y))):=by
 unfold oNe;rw[Jk zPV,eqD]
theorem dE{g:Gv}{b:Sv}{d:D}{ds:List D}{ρ ρ1 ρ2:Rho}(hg:g d ρ=.ok ρ1)(hb:b ρ1=.ok (.nx ρ2)):iC g b (d::ds) ρ=iC g b ds ρ2:=by
 rw[iC];simp only[hg,Res.bind,hb]
theorem oTabNot_s{T:List (Str×Str)}{x:Str}:tJ T (.str x)=.ok (.bl (!(T.lookup x).isSome)):=rfl
theorem zCX{α:Type}(p:α->Int):∀ l:List α,oU (l.map fun a=>D.int (p a))=some (l.map p)
 | []=>rfl
 | a::l=>by rw[Qu,oU,zCX p l];rfl
def mx0:List Int->Int
 | []=>0
 | a::r=>zBo a r
theorem zCu{α:Type}{p:α->Int}{l:List α}(h:0<l.length):zCt [.lst (l.map fun a=>D.int (p a))]=.ok (.int (mx0 (l.map p))):=by
 show(match oU (l.map fun a=>D.int (p a)) with | some (a::r)=>Res.ok (D.int (zBo a r)) | _=>.no)=_
 rw[zCX]
 cases l with
 | nil=>cases h
 | cons a r=>rfl
def zSQ:List D->Res (List D)
 | [x,y]=>match zKw x,zKw y with
  | some xs,some ys=>.ok (kT xs ys)
  | _,_=>.no
 | _=>.no
theorem iZip_at{a:Fv}{ρ:Rho}:zMT a ρ=(a ρ).bind zSQ:=by
 unfold zMT;congr
theorem pH{x y:D}{xs ys:List D}(hx:zKw x=some xs)(hy:zKw y=some ys):zSQ [x,y]=.ok (kT xs ys):=by
 show(match zKw x,zKw y with | some xs,some ys=>Res.ok (kT xs ys) | _,_=>.no)=_
 rw[hx,hy]
def zIP(f:Ev)(ρ:Rho)(ds:List D):Res (List D):=if ds.length<=16777215 then gK f ρ ds else .no
theorem fComp2_at{it:Fv}{f:Ev}{ρ:Rho}:wO it f ρ=(it ρ).bind (zIP f ρ):=rfl
theorem zFj{α β:Type}{u:α->D}{v:β->D}{f:Ev}{ρ:Rho}{g:α->β->D}:∀ {l:List α} {m:List β},(∀ p∈l.zip m,f (ρ++[.val (u p.1),.val (v p.2)])=.ok (g p.1 p.2))->
  gK f ρ (kT (l.map u) (m.map v))=.ok ((l.zip m).map fun p=>g p.1 p.2)
 | [],m,h=>by cases m<;>rfl
 | a::l,[],h=>rfl
 | a::l,b::m,h=>by
  have h1:=h (a,b) Qb;have h2:=zFj (l:=l) (m:=m) (u:=u) (v:=v) (g:=g) fun p hp=>h p (Qc _ hp)
  show(noErr (f (ρ++[.val (u a),.val (v b)]))).bind (fun e=>(gK f ρ (kT (l.map u) (m.map v))).bind fun es=>.ok (e::es))=_
  rw[h1,h2];rfl
theorem nD{α β:Type}{u:α->D}{v:β->D}{f:Ev}{ρ:Rho}{g:α->β->D}{l:List α}{m:List β}(hl:l.length<=16777215)(h:∀ p∈l.zip m,f (ρ++[.val (u p.1),.val (v p.2)])=.ok (g p.1 p.2)):
  zIP f ρ (kT (l.map u) (m.map v))=.ok ((l.zip m).map fun p=>g p.1 p.2):=by
 unfold zIP;rw[Jk,zFj h]
 have:∀(a b:List D),(kT a b).length<=a.length:=by
  intro a
  induction a with
  | nil=>intro b;cases b<;>exact Qh _
  | cons x a ih=>intro b;cases b with
   | nil=>exact V9 _
   | cons y b=>exact U1 (ih b)
 exact Q5 (this _ _) (by rw[Qg];exact hl)
end L3
namespace Ln
open Fq
abbrev Pt:=Rat×Rat
def asc(a b:Pt):Prop:=a.1<b.1/\a.2<=b.2
def btw(a b c:Pt):Bool:=decide ((b.2-a.2)*(c.1-b.1)=(c.2-b.2)*(b.1-a.1))
def push:List Pt->Pt->List Pt
 | b::a::s,c=>if btw a b c=true then c::a::s else c::b::a::s
 | s,c=>c::s
theorem zGC{s:List Pt}{c:Pt}(h:¬ 1<s.length):push s c=c::s:=by
 match s,h with
 | [],_=>rfl
 | [b],_=>rfl
 | b::a::s,h=>exact absurd (show 1<s.length+2 by omega) h
def mI(ps:List Pt):List Pt:=(ps.foldl push []).reverse
def few:Pt->List Pt->List Pt
 | _,[]=>[]
 | _,[b]=>[b]
 | a,b::c::r=>if btw a b c=true then few b (c::r) else b::few b (c::r)
def zCJ:List Pt->List Pt
 | []=>[]
 | a::r=>a::few a r
def dir(a p b:Pt):Prop:=a.1<b.1/\p.1<b.1/\(b.2-a.2)*(b.1-p.1)=(b.2-p.2)*(b.1-a.1)
theorem mJ{x a b:Rat}(h:x≠0)(e:a*x=b*x):a=b:=by
 have:a*x*x⁻¹=b*x*x⁻¹:=by rw[e]
 rw[Rat.mul_assoc,Rat.mul_assoc,Xi _ h,Rat.mul_one,Rat.mul_one] at this;exact this
theorem vV{a p b c:Pt}(h:dir a p b):btw a b c=btw p b c:=by
 obtain⟨h1,h2,h3⟩:=h;unfold btw;have n1:b.1-a.1≠0:=by grind
 have n2:b.1-p.1≠0:=by grind
 congr 1
 apply propext
 constructor
 ·intro e
  refine mJ n1 ?_
  grind
 ·intro e
  refine mJ n2 ?_
  grind
theorem zEx{a b c:Pt}(h:a.1<b.1)(k:b.1<c.1)(e:btw a b c=true):dir a b c:=by
 have e:=J8 e;refine⟨by grind,k,?_⟩
 grind
theorem zBs:∀(r:List Pt)(p b a:Pt)(s:List Pt),dir a p b->(b::r).Pairwise asc->(r.foldl push (b::a::s)).reverse=(a::s).reverse++few p (b::r)
 | [],p,b,a,s,_,_=>by simp[few]
 | c::r,p,b,a,s,h,hp=>by
  have hbc:asc b c:=(Qr.mp hp).1 c Qb;have hr:=(Qr.mp hp).2;rw[Ur,push,few,vV h];by_cases e:btw p b c=true
  ·rw[Jk e,Jk e]
   exact zBs r b c a s (zEx h.1 hbc.1 (by rw[vV h];exact e)) hr
  ·rw[Jl e,Jl e,zBs r b c b (a::s) ⟨hbc.1,hbc.1,rfl⟩ hr]
   simp
theorem qH{ps:List Pt}(h:ps.Pairwise asc):mI ps=zCJ ps:=by
 unfold mI
 match ps,h with
 | [],_=>rfl
 | [a],_=>rfl
 | a::b::r,h=>
  have hab:=(Qr.mp h).1 b Qb;show(r.foldl push [b,a]).reverse=_
  rw[zBs r a b a [] ⟨hab.1,hab.1,rfl⟩ (Qr.mp h).2];rfl
theorem zED:∀(r:List Pt)(a:Pt),(few a r).Sublist r
 | [],_=>List.Sublist.slnil
 | [b],_=>List.Sublist.refl _
 | b::c::r,a=>by
  rw[few];split
  ·exact(zED (c::r) b).cons b
  ·exact(zED (c::r) b).cons₂ b
theorem zV(ps:List Pt):(zCJ ps).Sublist ps:=by
 cases ps with
 | nil=>exact List.Sublist.slnil
 | cons a r=>exact(zED r a).cons₂ a
theorem zFX:∀(r:List Pt)(a:Pt),(few a r).getLast?=r.getLast?
 | [],_=>rfl
 | [b],_=>rfl
 | b::c::r,a=>by
  have ih:=zFX (c::r) b;rw[few];split
  ·rw[ih];rfl
  ·rw[Yy,ih]
   simp[Yy]
theorem zDK(ps:List Pt):(zCJ ps).getLast?=ps.getLast?:=by
 cases ps with
 | nil=>rfl
 | cons a r=>rw[zCJ,Yy,zFX,Yy]
def zPo:List Pt->Prop
 | a::b::c::r=>btw a b c=false/\zPo (b::c::r)
 | _=>True
theorem zFg:∀(r:List Pt)(p b:Pt),(p::b::r).Pairwise asc->∃ d t,few p (b::r)=d::t/\b.1<=d.1/\(d.2-p.2)*(b.1-p.1)=(b.2-p.2)*(d.1-p.1)
 | [],p,b,_=>⟨b,[],rfl,Qe,rfl⟩
 | c::r,p,b,h=>by
  have h1:=Qr.mp h;have h2:=Qr.mp h1.2;have pb:=h1.1 b Qb;have bc:=h2.1 c Qb;rw[few];by_cases e:btw p b c=true
  ·rw[Jk e]
   obtain⟨d,t,e1,l,e2⟩:=zFg r b c h1.2;have e3:=J8 e;refine⟨d,t,e1,by grind [asc],?_⟩
   have n:c.1-b.1≠0:=by grind [asc]
   refine mJ n ?_
   have e4:(d.2-b.2)*(b.1-p.1)=(b.2-p.2)*(d.1-b.1):=by
    refine mJ n ?_
    grind
   grind
  ·rw[Jl e]
   exact⟨b,_,rfl,Qe,rfl⟩
theorem zAo:∀(r:List Pt)(a p b:Pt),dir a p b->(b::r).Pairwise asc->(p::b::r).Pairwise asc->zPo (a::few p (b::r))
 | [],a,p,b,_,_,_=>by simp[few,zPo]
 | c::r,a,p,b,h,hb,hp=>by
  have bc:=(Qr.mp hb).1 c Qb;have hc:=(Qr.mp hb).2;rw[few];by_cases e:btw p b c=true
  ·rw[Jk e]
   exact zAo r a b c (zEx h.1 bc.1 (by rw[vV h];exact e)) hc hb
  ·rw[Jl e]
   have ih:=zAo r b b c ⟨bc.1,bc.1,rfl⟩ hc hb;obtain⟨d,t,e1,l,e2⟩:=zFg r b c hb;rw[e1] at ih ⊢
   refine⟨?_,ih⟩
   rw[vV h];rw[Bool.eq_false_iff];intro z;apply e
   have z:=J8 z;refine J6 ?_
   have n:d.1-b.1≠0:=by grind [asc]
   refine mJ n ?_
   grind
theorem zET{ps:List Pt}(h:ps.Pairwise asc):zPo (zCJ ps):=by
 match ps,h with
 | [],_=>trivial
 | [a],_=>trivial
 | a::b::r,h=>
  have hab:=(Qr.mp h).1 b Qb;exact zAo r a a b ⟨hab.1,hab.1,rfl⟩ (Qr.mp h).2 h
def Ok(ps:List Pt):Prop:=ps.head?=some (0,0)/\ps.Pairwise asc
def zPn(ps:List Pt):Prop:=Ok ps/\zPo ps
theorem lQ{ps:List Pt}(h:Ok ps):zPn (mI ps):=by
 rw[qH h.2];refine⟨⟨?_,h.2.sublist (zV ps)⟩,zET h.2⟩
 obtain⟨h,_⟩:=h
 cases ps with
 | nil=>cases h
 | cons a r=>exact h
theorem iW{ps:List Pt}(h:ps.Pairwise asc){i j:Nat}{a b:Pt}(l:i<j)(ha:ps[i]?=some a)(hb:ps[j]?=some b):asc a b:=by
 obtain⟨hi,rfl⟩:=Qx.mp ha;obtain⟨hj,rfl⟩:=Qx.mp hb;exact Y8.mp h i j hi hj l
theorem lt_iff{p q:Rat}:p.num*q.den<q.num*p.den ↔ p<q:=Rat.lt_iff p q |>.symm
theorem sD{t b:Int}(ht:0<t)(hb:0<b):0<Rat.divInt t b:=by
 rw[Xs];have h1:(0:Rat)<(t:Rat):=by exact_mod_cast ht
 have h2:(0:Rat)<(b:Rat):=by exact_mod_cast hb
 rw[Vh];exact U2 h1 (U3.mpr h2)
theorem zHx{t b:Int}(ht:0<=t)(hb:0<b):0<=Rat.divInt t b:=by
 rcases Int.lt_or_eq_of_le ht with h | h
 ·exact Qf (sD h hb)
 ·rw[<-h,U5];exact Qe
def itp(p q:Pt)(x:Rat):Rat:=p.2+(x-p.1) / (q.1-p.1)*(q.2-p.2)
def bF:List Pt->Rat->Rat
 | [],_=>0
 | [p],_=>p.2
 | p::q::r,x=>if x<=q.1 then itp p q x else bF (q::r) x
theorem zKJ(p q:Pt):itp p q p.1=p.2:=by
 unfold itp;rw[Rat.sub_self,Vh,U6,U6,Rat.add_zero]
theorem zQp{p q:Pt}(h:p.1<q.1):itp p q q.1=q.2:=by
 unfold itp;have n:q.1-p.1≠0:=by grind
 rw[Vh,Xi _ n,Rat.one_mul];grind
theorem bR:∀ {ps:List Pt},ps.Pairwise asc->∀ {i:Nat} {p:Pt},ps[i]?=some p->bF ps p.1=p.2
 | [],_,i,p,hp=>by cases hp
 | [a],_,i,p,hp=>by
  cases i with
  | zero=>cases hp;rfl
  | succ i=>cases hp
 | a::b::r,h,i,p,hp=>by
  have hab:=(Qr.mp h).1 b Qb;rw[bF]
  match i,hp with
  | 0,hp=>
   cases hp;rw[Jk (Qf hab.1),zKJ]
  | 1,hp=>
   cases hp;rw[Jk Qe,zQp hab.1]
  | i+2,hp=>
   have hb:asc b p:=iW h (show 1<i+2 by omega) rfl hp
   rw[Jl (by have:=hb.1;grind)];exact bR (Qr.mp h).2 (i:=i+1) hp
theorem cB:∀ {ps:List Pt},ps.Pairwise asc->∀ {i:Nat} {p q:Pt} {x:Rat},ps[i]?=some p->ps[i+1]?=some q->p.1<=x->x<=q.1->bF ps x=itp p q x
 | [],_,i,p,q,x,hp,_,_,_=>by cases hp
 | [a],_,i,p,q,x,hp,hq,_,_=>by cases hq
 | a::b::r,h,i,p,q,x,hp,hq,h1,h2=>by
  have hab:=(Qr.mp h).1 b Qb
  cases i with
  | zero=>
   cases hp;cases hq;rw[bF,Jk h2]
  | succ i=>
   have hr:=(Qr.mp h).2;by_cases c:x=p.1
   ·subst c
    rw[zKJ];exact bR h hp
   ·rw[bF,Jl]
    ·exact cB hr (i:=i) hp hq h1 h2
    ·intro z
     cases i with
     | zero=>
      cases hp;exact c (by grind)
     | succ i=>
      have hb:asc b p:=iW h (show 1<i+1+1 by omega) rfl hp
      have:=hb.1
      grind
def ax:Bool->Pt->Rat
 | false,p=>p.1
 | true,p=>p.2
def axi:Bool->Int
 | false=>0
 | true=>1
theorem kY{ps:List Pt}(h:ps.Pairwise asc)(b:Bool){i j:Nat}{p q:Pt}(l:i<=j)(hp:ps[i]?=some p)(hq:ps[j]?=some q):ax b p<=ax b q:=by
 rcases Xj l with l | l
 ·have:=iW h l hp hq
  cases b
  ·exact Qf this.1
  ·exact this.2
 ·subst l
  rw[hp] at hq;cases hq;exact Qe
theorem tW:∀ {ps:List Pt} {e:Pt} {x:Rat},ps.Pairwise asc->ps.getLast?=some e->(∀ p,ps.head?=some p->p.1<=x)->x<=e.1->
  (∃(i:Nat)(p:Pt),ps[i]?=some p/\p.1=x)∨∃(i:Nat)(p q:Pt),ps[i]?=some p/\ps[i+1]?=some q/\p.1<x/\x<q.1
 | [],e,x,_,he,_,_=>by cases he
 | [a],e,x,_,he,h0,h1=>by
  cases he;have:=h0 a rfl
  exact .inl ⟨0,a,rfl,by grind⟩
 | a::b::r,e,x,h,he,h0,h1=>by
  have ha:=h0 a rfl;by_cases c:a.1=x
  ·exact .inl ⟨0,a,rfl,c⟩
  by_cases d:x<b.1
  ·exact .inr ⟨0,a,b,rfl,rfl,by grind,d⟩
  ·rcases tW (Qr.mp h).2 (by rw[<-he];simp[Yy]) (fun p hp=>by cases hp;grind) h1 with⟨i,p,h2,h3⟩ | ⟨i,p,q,h2,h3,h4⟩
   ·exact .inl ⟨i+1,p,h2,h3⟩
   ·exact .inr ⟨i+1,p,q,h2,h3,h4⟩
theorem zAX{p q:Pt}(h:asc p q){x y:Rat}(l:x<=y):itp p q x<=itp p q y:=by
 unfold itp;have n:0<(q.1-p.1)⁻¹:=U3.mpr (by have:=h.1;grind)
 rw[Vh,Vh];have m1:(x-p.1)*(q.1-p.1)⁻¹<=(y-p.1)*(q.1-p.1)⁻¹:=Vv (by grind) (Qf n)
 have m2:=Vv m1 (show 0<=q.2-p.2 by have:=h.2;grind)
 grind
theorem pN{p q:Pt}(h:asc p q){x:Rat}(h1:p.1<=x)(h2:x<=q.1):p.2<=itp p q x/\itp p q x<=q.2:=by
 have a:=zAX h h1;have b:=zAX h h2;rw[zKJ] at a;rw[zQp h.1] at b;exact⟨a,b⟩
theorem eI{ps:List Pt}{e:Pt}(h:Ok ps)(he:ps.getLast?=some e){x y:Rat}(h0:0<=x)(l:x<=y)(h1:y<=e.1):bF ps x<=bF ps y:=by
 obtain⟨hh,hp⟩:=h;have hd:∀ z,0<=z->∀ p,ps.head?=some p->p.1<=z:=fun z hz p hp=>by rw[hh] at hp;cases hp;exact hz
 have key:∀ {i j:Nat} {p q:Pt},i<=j->ps[i]?=some p->ps[j]?=some q->p.2<=q.2:=fun l hp' hq'=>kY hp true l hp' hq'
 have kx:∀ {i j:Nat} {p q:Pt},ps[i]?=some p->ps[j]?=some q->p.1<q.1->i<j:=by
  intro i j p q hp' hq' l;rcases U7 i j with g | g
  ·exact g
  ·have:=kY hp false g hq' hp'
   exact absurd (show q.1<=p.1 from this) (by grind)
 rcases tW hp he (hd x h0) (by grind) with⟨i,p,ip,ep⟩ | ⟨i,p,q,ip,iq,lp,lq⟩
 ·rcases tW hp he (hd y (by grind)) h1 with⟨j,u,ju,eu⟩ | ⟨j,u,v,ju,jv,lu,lv⟩
  ·rw[<-ep,<-eu,bR hp ip,bR hp ju]
   by_cases c:p.1=u.1
   ·have a1:=bR hp ip
    have a2:=bR hp ju;rw[c,a2] at a1;rw[a1];exact Qe
   ·exact key (Vs (kx ip ju (by grind))) ip ju
  ·rw[<-ep,bR hp ip,cB hp ju jv (Qf lu) (Qf lv)]
   have huv:=iW hp (Vm j) ju jv;have b:=pN huv (Qf lu) (Qf lv);have:i<j+1:=kx ip jv (by grind)
   have:=key (show i<=j by omega) ip ju
   grind
 ·rcases tW hp he (hd y (by grind)) h1 with⟨j,u,ju,eu⟩ | ⟨j,u,v,ju,jv,lu,lv⟩
  ·rw[<-eu,bR hp ju,cB hp ip iq (Qf lp) (Qf lq)]
   have hpq:=iW hp (Vm i) ip iq;have b:=pN hpq (Qf lp) (Qf lq);have:i<j:=kx ip ju (by grind)
   have:=key (show i+1<=j by omega) iq ju
   grind
  ·rw[cB hp ip iq (Qf lp) (Qf lq),cB hp ju jv (Qf lu) (Qf lv)]
   have hpq:=iW hp (Vm i) ip iq;have huv:=iW hp (Vm j) ju jv;have g1:i<j+1:=kx ip jv (by grind)
   rcases Xj (show i<=j by omega) with g | g
   ·have b1:=pN hpq (Qf lp) (Qf lq)
    have b2:=pN huv (Qf lu) (Qf lv);have:=key (show i+1<=j by omega) iq ju
    grind
   ·subst g
    rw[ip] at ju;rw[iq] at jv;cases ju;cases jv;exact zAX hpq l
theorem tX{ps:List Pt}{e:Pt}(h:Ok ps)(he:ps.getLast?=some e){x:Rat}(h0:0<=x)(h1:x<=e.1):0<=bF ps x/\bF ps x<=e.2:=by
 have z:bF ps 0=0:=bR h.2 (i:=0) (p:=(0,0)) (by rw[<-Xk];exact h.1)
 have t:bF ps e.1=e.2:=bR h.2 (i:=ps.length-1) (by rw[<-Xd];exact he)
 have e0:0<=e.1:=by grind
 have a:=eI h he (Qe) h0 h1;have b:=eI h he h0 h1 Qe;grind
theorem zGF{a b c:Pt}(h1:a.1<b.1)(h2:b.1<c.1)(e:btw a b c=true):(b.2-a.2) / (b.1-a.1)=(c.2-a.2) / (c.1-a.1)/\(c.2-b.2) / (c.1-b.1)=(c.2-a.2) / (c.1-a.1):=by
 have e:=J8 e;have n1:b.1-a.1≠0:=by grind
 have n2:c.1-b.1≠0:=by grind
 have n3:c.1-a.1≠0:=by grind
 have i1:=Xi _ n1;have i2:=Xi _ n2;have i3:=Xi _ n3;rw[Vh,Vh,Vh];constructor
 ·refine mJ n1 (mJ n3 ?_)
  grind
 ·refine mJ n2 (mJ n3 ?_)
  grind
theorem iI(p q:Pt)(x:Rat):itp p q x=p.2+(x-p.1)*((q.2-p.2) / (q.1-p.1)):=by
 unfold itp;rw[Vh,Vh];grind
theorem zKZ{a b c:Pt}(h1:a.1<b.1)(h2:b.1<c.1)(e:btw a b c=true)(x:Rat):itp a b x=itp a c x/\itp b c x=itp a c x:=by
 obtain⟨s1,s2⟩:=zGF h1 h2 e;rw[iI,iI,iI,s1,s2];refine⟨rfl,?_⟩
 have n1:b.1-a.1≠0:=by grind
 have i1:=Xi _ n1;rw[<-s1,Vh];generalize (b.1-a.1)⁻¹=u at i1;grind
theorem zKT{a b c:Pt}{r:List Pt}(h1:a.1<b.1)(h2:b.1<c.1)(e:btw a b c=true)(x:Rat):bF (a::b::c::r) x=bF (a::c::r) x:=by
 obtain⟨e1,e2⟩:=zKZ h1 h2 e x;rw[bF,bF,bF,e1,e2];by_cases c1:x<=b.1
 ·rw[Jk c1,Jk (by grind)]
 ·rw[Jl c1]
theorem zEY:∀(r:List Pt)(a p b:Pt)(x:Rat),dir a p b->(b::r).Pairwise asc->bF (a::few p (b::r)) x=bF (a::b::r) x
 | [],a,p,b,x,_,_=>rfl
 | c::r,a,p,b,x,h,hb=>by
  have bc:=(Qr.mp hb).1 c Qb;have hc:=(Qr.mp hb).2;rw[few];by_cases e:btw p b c=true
  ·have e':btw a b c=true:=by rw[vV h];exact e
   rw[Jk e,zEY r a b c x (zEx h.1 bc.1 e') hc,zKT h.1 bc.1 e']
  ·show _=(if x<=b.1 then itp a b x else bF (b::c::r) x)
   rw[Jl e,bF,zEY r b b c x ⟨bc.1,bc.1,rfl⟩ hc]
theorem zH{ps:List Pt}(h:ps.Pairwise asc)(x:Rat):bF (mI ps) x=bF ps x:=by
 rw[qH h]
 match ps,h with
 | [],_=>rfl
 | [a],_=>rfl
 | a::b::r,h=>
  have hab:=(Qr.mp h).1 b Qb;exact zEY r a a b x ⟨hab.1,hab.1,rfl⟩ (Qr.mp h).2
theorem uW{ps:List Pt}(h:ps.Pairwise asc):(mI ps).getLast?=ps.getLast?:=by rw[qH h,zDK]
theorem oM{ps:List Pt}(h:ps.Pairwise asc):(mI ps).Sublist ps:=by rw[qH h];exact zV ps
theorem zKb{C:List Rat}(h:C.Pairwise (· < ·))(h0:(0:Rat)∈C)(hn:∀ x∈C,0<=x):C.head?=some 0:=by
 cases C with
 | nil=>cases h0
 | cons a C=>
  rcases Qd.mp h0 with e | e
  ·rw[<-e];rfl
  ·have h1:=(Qr.mp h).1 0 e
   have h2:=hn a Qb;grind
theorem zOE{C:List Rat}{e L:Rat}(h:C.Pairwise (· < ·))(he:C.getLast?=some e)(hL:L∈C)(hn:∀ x∈C,x<=L):e=L:=by
 obtain⟨j,hj⟩:=Yi.mp hL;rw[Xd] at he;have hjl:=(Qx.mp hj).1;have h1:=hn e (Qi he);rcases Xj (show j<=C.length-1 by omega) with l | l
 ·obtain⟨hi,e1⟩:=Qx.mp hj
  obtain⟨hi2,e2⟩:=Qx.mp he;have:=Y8.mp h j (C.length-1) hi hi2 l
  rw[e1,e2] at this;grind
 ·subst l
  rw[he] at hj;cases hj;rfl
theorem zOi{ps:List Pt}(h:ps.Pairwise asc):(ps.map Prod.fst).Pairwise (· < ·):=Xt.mpr (h.imp fun a=>a.1)
theorem dJ{ps:List Pt}{e p:Pt}(h:Ok ps)(he:ps.getLast?=some e)(hp:p∈ps):0<=p.1/\p.1<=e.1/\0<=p.2/\p.2<=e.2:=by
 obtain⟨i,hi⟩:=Yi.mp hp;have hil:=(Qx.mp hi).1;have h0:ps[0]?=some (0,0):=by rw[<-Xk];exact h.1
 rw[Xd] at he;have a1:(0:Rat)<=p.1:=kY h.2 false (V9 i) h0 hi;have a2:(0:Rat)<=p.2:=kY h.2 true (V9 i) h0 hi;have b1:p.1<=e.1:=kY h.2 false (show i<=ps.length-1 by omega) hi he
 have b2:p.2<=e.2:=kY h.2 true (show i<=ps.length-1 by omega) hi he
 exact⟨a1,b1,a2,b2⟩
theorem zJn{ps:List Pt}{e:Pt}{a b x:Rat}(h:Ok ps)(he:ps.getLast?=some e)(h0:0<=a)(hab:a<b)(hb:b<=e.1)(hno:∀ p∈ps,a<p.1->b<=p.1)(hx:a<=x)(xb:x<=b):
  (bF ps x-bF ps a)*(b-a)=(bF ps b-bF ps a)*(x-a):=by
 have key:∃(i:Nat)(p q:Pt),ps[i]?=some p/\ps[i+1]?=some q/\p.1<=a/\b<=q.1:=by
  rcases tW h.2 he (fun p hp=>by rw[h.1] at hp;cases hp;exact h0) (show a<=e.1 by grind) with⟨i,p,ip,ep⟩ | ⟨i,p,q,ip,iq,lp,lq⟩
  ·have hi:=(Qx.mp ip).1
   have hl:i+1<ps.length:=by
    rcases U7 (i+1) ps.length with l | l
    ·exact l
    ·rw[Xd,show ps.length-1=i by omega,ip] at he
     cases he;grind
   have iq:ps[i+1]?=some ps[i+1]:=Qo hl;have:=(iW h.2 (Vm i) ip iq).1
   exact⟨i,p,ps[i+1],ip,iq,by grind,hno _ (Qi iq) (by grind)⟩
  ·exact⟨i,p,q,ip,iq,Qf lp,hno _ (Qi iq) lq⟩
 obtain⟨i,p,q,ip,iq,l1,l2⟩:=key;rw[cB h.2 ip iq l1 (by grind),cB h.2 ip iq (show p.1<=x by grind) (by grind),cB h.2 ip iq (show p.1<=b by grind) l2];rw[iI,iI,iI];grind
def sY(ps qs:List Pt)(C:List Rat):List Pt:=C.map fun t=>(t,bF ps (bF qs t))
structure Joints (ps qs:List Pt) (f:Pt) (C:List Rat):Prop where
 asc:C.Pairwise (· < ·)
 own:∀ q∈qs,q.1∈C
 hit:∀ p∈ps,∃ t∈C,bF qs t=p.1
 bd:∀ t∈C,0<=t/\t<=f.1
theorem zGk{ps qs:List Pt}{e f:Pt}{C:List Rat}(hp:Ok ps)(hq:Ok qs)(he:ps.getLast?=some e)(hf:qs.getLast?=some f)(hL:e.1=f.2)(J:Joints ps qs f C):
  Ok (sY ps qs C)/\(sY ps qs C).getLast?=some (f.1,e.2):=by
 have z0:(0:Rat)∈C:=J.own (0,0) (List.mem_of_mem_head? (by rw[hq.1];rfl))
 have zL:f.1∈C:=J.own f (Y9 hf);have v0:∀ {ls:List Pt},Ok ls->bF ls 0=0:=fun {ls} h=>bR h.2 (i:=0) (p:=(0,0)) (by rw[<-Xk];exact h.1)
 have vL:∀ {ls:List Pt} {u:Pt},Ok ls->ls.getLast?=some u->bF ls u.1=u.2:=fun {ls u} h hu=>bR h.2 (i:=ls.length-1) (by rw[<-Xd];exact hu)
 refine⟨⟨?_,?_⟩,?_⟩
 ·unfold sY
  rw[Yz,zKb J.asc z0 fun x hx=>(J.bd x hx).1];show some (0,bF ps (bF qs 0))=_
  rw[v0 hq,v0 hp]
 ·unfold sY
  refine Xt.mpr (Yj ?_ J.asc)
  intro a b ha hb hab;have b1:=tX hq hf (J.bd a ha).1 (J.bd a ha).2;have b2:=tX hq hf (J.bd b hb).1 (J.bd b hb).2;exact⟨hab,eI hp he b1.1 (eI hq hf (J.bd a ha).1 (Qf hab) (J.bd b hb).2) (by rw[hL];exact b2.2)⟩
 ·unfold sY
  rw[Xu]
  cases hc:C.getLast? with
  | none=>rw[List.getLast?_eq_none_iff] at hc;rw[hc] at z0;cases z0
  | some u=>
   have:u=f.1:=zOE J.asc hc zL fun x hx=>(J.bd x hx).2
   subst this;show some (f.1,bF ps (bF qs f.1))=_
   rw[vL hq hf,<-hL,vL hp he]
theorem zHW{ps qs:List Pt}{e f:Pt}{C:List Rat}(hp:Ok ps)(hq:Ok qs)(he:ps.getLast?=some e)(hf:qs.getLast?=some f)(hL:e.1=f.2)(J:Joints ps qs f C){x:Rat}(h0:0<=x)(h1:x<=f.1):
  bF (sY ps qs C) x=bF ps (bF qs x):=by
 obtain⟨ok,la⟩:=zGk hp hq he hf hL J
 have at':∀ {i:Nat} {u:Pt},(sY ps qs C)[i]?=some u->C[i]?=some u.1/\u.2=bF ps (bF qs u.1):=by
  intro i u hu;unfold sY at hu;rw[Qs] at hu
  cases hc:C[i]? with
  | none=>rw[hc] at hu;cases hu
  | some c=>rw[hc] at hu;cases hu;exact⟨rfl,rfl⟩
 rcases tW ok.2 la (fun p hp=>by rw[ok.1] at hp;cases hp;exact h0) h1 with⟨i,u,iu,eu⟩ | ⟨i,u,v,iu,iv,lu,lv⟩
 ·obtain⟨_,e2⟩:=at' iu
  rw[<-eu,bR ok.2 iu,e2]
 ·obtain⟨c1,e1⟩:=at' iu
  obtain⟨d1,e2⟩:=at' iv;rw[cB ok.2 iu iv (Qf lu) (Qf lv)];have hC:=J.asc
  have out:∀ t∈C,t<=u.1∨v.1<=t:=by
   intro t ht;obtain⟨j,hj⟩:=Yi.mp ht
   have lt:∀ {i j:Nat} {a b:Rat},i<j->C[i]?=some a->C[j]?=some b->a<b:=by
    intro i j a b l ha hb;obtain⟨hi,rfl⟩:=Qx.mp ha;obtain⟨hj,rfl⟩:=Qx.mp hb;exact Y8.mp hC i j hi hj l
   rcases Ua j i with l | l | l
   ·exact .inl (Qf (lt l hj c1))
   ·subst l;rw[hj] at c1;cases c1;exact .inl Qe
   ·rcases Xj (show i+1<=j by omega) with l | l
    ·exact .inr (Qf (lt l d1 hj))
    ·subst l;rw[hj] at d1;cases d1;exact .inr Qe
  have bu:=J.bd u.1 (Qi c1);have bv:=J.bd v.1 (Qi d1);have luv:u.1<v.1:=by grind
  have l2:=zJn hq hf bu.1 luv bv.2 (fun p hp l=>by
   rcases out p.1 (J.own p hp) with z | z
   ·grind
   ·exact z) (Qf lu) (Qf lv)
  have mA:=eI hq hf bu.1 (Qf lu) (show x<=f.1 by grind)
  have mB:=eI hq hf (show 0<=x by grind) (Qf lv) bv.2
  have nA:=tX hq hf bu.1 bu.2;have nB:=tX hq hf bv.1 bv.2;have n:v.1-u.1≠0:=by grind
  have i1:=Xi _ n;unfold itp;rw[e1,e2,Vh]
  have fin:(bF ps (bF qs x)-bF ps (bF qs u.1))*(v.1-u.1)=(bF ps (bF qs v.1)-bF ps (bF qs u.1))*(x-u.1):=by
   by_cases c:bF qs u.1=bF qs v.1
   ·have:bF qs x=bF qs u.1:=by grind
    rw[this,<-c];grind
   ·have AB:bF qs u.1<bF qs v.1:=by grind
    have l1:=zJn hp he nA.1 AB (by rw[hL];exact nB.2) (fun p hp' l=>by
     obtain⟨t,ht,et⟩:=J.hit p hp';have bt:=J.bd t ht;rcases out t ht with z | z
     ·have:=eI hq hf bt.1 z bu.2
      grind
     ·have:=eI hq hf bv.1 z bt.2
      grind) mA mB
    have nn:bF qs v.1-bF qs u.1≠0:=by grind
    refine mJ nn ?_
    grind
  generalize (v.1-u.1)⁻¹=w at i1;refine mJ n ?_
  grind
def zDF(ps:List Pt)(y r:Rat):Prop:=∃(k:Nat)(q:Pt),ps[k]?=some q/\(∀(j:Nat)(p:Pt),j<k->ps[j]?=some p->p.2<y)/\
 ((q.2=y/\r=q.1)∨(0<k/\y<q.2/\∃ p:Pt,ps[k-1]?=some p/\p.2<y/\r=itp (p.2,p.1) (q.2,q.1) y))
theorem zDF.val{ps:List Pt}{e:Pt}{y r:Rat}(h:Ok ps)(he:ps.getLast?=some e)(u:zDF ps y r):bF ps r=y/\0<=r/\r<=e.1:=by
 obtain⟨k,q,hq,hj,c⟩:=u;have bq:=dJ h he (Qi hq);rcases c with⟨c1,rfl⟩ | ⟨k0,l,p,hp,lp,rfl⟩
 ·exact⟨by rw[bR h.2 hq,c1],bq.1,bq.2.1⟩
 ·have bp:=dJ h he (Qi hp)
  have hq':ps[k-1+1]?=some q:=by rw[show k-1+1=k by omega];exact hq
  have pq:=iW h.2 (Vm (k-1)) hp hq';have sw:asc (p.2,p.1) (q.2,q.1):=⟨by show p.2<q.2;grind,Qf pq.1⟩
  have b:=pN sw (x:=y) (Qf lp) (Qf l);have b1:p.1<=itp (p.2,p.1) (q.2,q.1) y:=b.1;have b2:itp (p.2,p.1) (q.2,q.1) y<=q.1:=b.2;refine⟨?_,by grind,by grind⟩
  rw[cB h.2 hp hq' b1 b2];have n1:q.1-p.1≠0:=by have:=pq.1;grind
  have n2:q.2-p.2≠0:=by grind
  have i1:=Xi _ n1;have i2:=Xi _ n2;unfold itp;dsimp only
  rw[Vh,Vh];generalize (q.1-p.1)⁻¹=a at i1;generalize (q.2-p.2)⁻¹=b at i2;grind
theorem zKa{p q:Pt}(h1:p.1<q.1)(h2:p.2<q.2){x y:Rat}(l:x<y):itp p q x<itp p q y:=by
 have n:0<(q.1-p.1)⁻¹:=U3.mpr (by grind)
 have s:0<(q.2-p.2)*(q.1-p.1)⁻¹:=U2 (by grind) n
 rw[iI,iI,Vh];have:=Rat.mul_lt_mul_of_pos_right (show x-p.1<y-p.1 by grind) s
 grind
theorem zDF.least{ps:List Pt}{e:Pt}{y r:Rat}(h:Ok ps)(he:ps.getLast?=some e)(u:zDF ps y r){t:Rat}(t0:0<=t)(l:t<r):bF ps t<y:=by
 have hv:=u.val h he;obtain⟨k,q,hq,hj,c⟩:=u;have h00:ps[0]?=some (0,0):=by rw[<-Xk];exact h.1
 have k0:0<k:=by
  rcases U8 k with z | z
  ·subst z
   rw[h00] at hq;cases hq;rcases c with⟨_,c⟩ | ⟨c,_⟩
   ·have:r=0:=c
    grind
   ·exact absurd c (by decide)
  ·exact z
 have hkl:=(Qx.mp hq).1;have hp:ps[k-1]?=some ps[k-1]:=Qo (by omega)
 have hq':ps[k-1+1]?=some q:=by rw[show k-1+1=k by omega];exact hq
 have lp:=hj _ _ (show k-1<k by omega) hp
 have pq:=iW h.2 (Vm (k-1)) hp hq';have vp:=bR h.2 hp;generalize ps[k-1]=p at hp lp pq vp
 have yq:y<=q.2:=by
  rcases c with⟨c,_⟩ | ⟨_,c,_⟩
  ·rw[c];exact Qe
  ·exact Qf c
 have rq:r<=q.1:=by
  rcases c with⟨_,c⟩ | ⟨_,c1,p',hp',lp',c⟩
  ·rw[c];exact Qe
  ·rw[c]
   rw[hp] at hp';cases hp'
   have sw:asc (p.2,p.1) (q.2,q.1):=⟨by show p.2<q.2;grind,Qf pq.1⟩
   exact(pN sw (x:=y) (Qf lp) yq).2
 by_cases c1:t<=p.1
 ·have bp:=dJ h he (Qi hp)
  have:=eI h he t0 c1 bp.2.1
  grind
 ·have e1:=cB h.2 hp hq' (x:=t) (by grind) (by grind)
  have e2:=cB h.2 hp hq' (x:=r) (by grind) rq
  have:=zKa pq.1 (show p.2<q.2 by grind) l
  rw[e1];rw[e2] at hv;grind
theorem zDF.uniq{ps:List Pt}{e:Pt}{y r r':Rat}(h:Ok ps)(he:ps.getLast?=some e)(u:zDF ps y r)(v:bF ps r'=y)(r0:0<=r')(lt:∀ t,0<=t->t<r'->bF ps t<y):r=r':=by
 have hv:=u.val h he;by_cases l:r<r'
 ·have:=lt r hv.2.1 l
  grind
 ·by_cases l2:r' < r
  ·have:=u.least h he r0 l2
   grind
  ·grind
theorem zFS:∀ {ps:List Pt},zPo ps->∀ {i:Nat} {a b c:Pt},ps[i]?=some a->ps[i+1]?=some b->ps[i+2]?=some c->btw a b c=false
 | [],_,i,a,b,c,h,_,_=>by cases h
 | [x],_,i,a,b,c,_,h,_=>by cases h
 | [x,y],_,i,a,b,c,_,_,h=>by
  have:=(Qx.mp h).1
  simp at this
  omega
 | x::y::z::r,h,0,a,b,c,h1,h2,h3=>by
  cases h1;cases h2;cases h3;exact h.1
 | x::y::z::r,h,i+1,a,b,c,h1,h2,h3=>zFS (ps:=y::z::r) h.2 (i:=i) h1 h2 h3
end Ln
namespace L3
open PySem PySem.Spec PyProof.Rows L2
abbrev St:=L2.St
mutual
inductive IsD (K:PySem.W.Frag) (H:Hp):V->D->Prop where
 | non:IsD K H .non .non
 | bl (b:Bool):IsD K H (.bl b) (.bl b)
 | int (i:Int):IsD K H (.int i) (.int i)
 | str (x:Str):IsD K H (.str x) (.str x)
 | tup {a:Jc} {xs:List V} {ds:List D}:SqT K H a xs->IsDs K H xs ds->IsD K H (.ref a) (.tup ds)
 | lst {a:Jc} {xs:List V} {ds:List D}:SqL K H a xs->IsDs K H xs ds->IsD K H (.ref a) (.lst ds)
inductive IsDs (K:PySem.W.Frag) (H:Hp):List V->List D->Prop where
 | nil:IsDs K H [] []
 | cons {v:V} {d:D} {vs:List V} {ds:List D}:IsD K H v d->IsDs K H vs ds->IsDs K H (v::vs) (d::ds)
end
theorem _root_.L2.Same.rd{H H':Hp}(e:Same H H'){a:Jc}{u:HO}(h:Rd H a u):Rd H' a u:=by
 rcases h with h | ⟨o,h⟩
 ·exact .inl (e _ _ h)
 ·exact .inr ⟨o,e _ _ h⟩
theorem cW{K:Fg_}{H H':Hp}(e:Same H H'){a:Jc}{xs:List V}(h:SqT K H a xs):SqT K H' a xs:=h.imp (Same.rd e) id
theorem dD{K:Fg_}{H H':Hp}(e:Same H H'){a:Jc}{xs:List V}(h:SqL K H a xs):SqL K H' a xs:=h.imp (Same.rd e) id
section
variable{K:Fg_}{H H':Hp}
mutual
theorem IsD.mono(e:Same H H'):∀ {v:V} {d:D},IsD K H v d->IsD K H' v d
 | _,_,.non=>.non
 | _,_,.bl b=>.bl b
 | _,_,.int i=>.int i
 | _,_,.str x=>.str x
 | _,_,.tup h hs=>.tup (cW e h) (IsDs.mono e hs)
 | _,_,.lst h hs=>.lst (dD e h) (IsDs.mono e hs)
theorem IsDs.mono(e:Same H H'):∀ {vs:List V} {ds:List D},IsDs K H vs ds->IsDs K H' vs ds
 | _,_,.nil=>.nil
 | _,_,.cons h hs=>.cons (IsD.mono e h) (IsDs.mono e hs)
end
theorem IsDs.length:∀ {vs:List V} {ds:List D},IsDs K H vs ds->vs.length=ds.length
 | _,_,.nil=>rfl
 | _,_,.cons _ hs=>by rw[Qm,Qm,IsDs.length hs]
theorem IsDs.at:∀ {vs:List V} {ds:List D} {j:Nat} {d:D},IsDs K H vs ds->ds[j]?=some d->∃ v,vs[j]?=some v/\IsD K H v d
 | _,_,_,_,.nil,e=>by simp at e
 | _,_,0,_,.cons r _,e=>by simp at e;subst e;exact⟨_,rfl,r⟩
 | _,_,j+1,d,.cons _ t,e=>by
  obtain⟨v,h1,h2⟩:=IsDs.at (j:=j) (d:=d) t (by simpa using e)
  exact⟨v,by simpa using h1,h2⟩
theorem IsDs.append:∀ {vs ws:List V} {ds es:List D},IsDs K H vs ds->IsDs K H ws es->IsDs K H (vs++ws) (ds++es)
 | _,_,_,_,.nil,s=>s
 | _,_,_,_,.cons r t,s=>.cons r (IsDs.append t s)
theorem IsDs.take:∀ {vs:List V} {ds:List D} (n:Nat),IsDs K H vs ds->IsDs K H (vs.take n) (ds.take n)
 | _,_,0,_=>.nil
 | _,_,_+1,.nil=>.nil
 | _,_,n+1,.cons r t=>.cons r (IsDs.take n t)
theorem IsDs.drop:∀ {vs:List V} {ds:List D} (n:Nat),IsDs K H vs ds->IsDs K H (vs.drop n) (ds.drop n)
 | _,_,0,r=>r
 | _,_,_+1,.nil=>.nil
 | _,_,n+1,.cons _ t=>IsDs.drop n t
theorem IsDs.dropLast:∀ {vs:List V} {ds:List D},IsDs K H vs ds->IsDs K H vs.dropLast ds.dropLast
 | _,_,.nil=>.nil
 | _,_,.cons _ .nil=>.nil
 | _,_,.cons r (.cons q t)=>.cons r (IsDs.dropLast (.cons q t))
theorem IsDs.set{v:V}{d:D}(h:IsD K H v d):∀ {vs:List V} {ds:List D} (j:Nat),IsDs K H vs ds->IsDs K H (vs.set j v) (ds.set j d)
 | _,_,_,.nil=>.nil
 | _,_,0,.cons _ t=>.cons h t
 | _,_,j+1,.cons q t=>.cons q (IsDs.set h j t)
mutual
theorem IsD.noL(k:∀ b xs,Rd H b (.tup xs)->Rd H' b (.tup xs)):∀ {v:V} {d:D},IsD K H v d->L3.noL d=true->IsD K H' v d
 | _,_,.non,_=>.non
 | _,_,.bl b,_=>.bl b
 | _,_,.int i,_=>.int i
 | _,_,.str x,_=>.str x
 | _,_,.tup h hs,e=>.tup (h.imp (k _ _) id) (IsDs.noL k hs (by rw[L3.noL] at e;exact e))
 | _,_,.lst h hs,e=>by rw[L3.noL] at e;cases e
theorem IsDs.noL(k:∀ b xs,Rd H b (.tup xs)->Rd H' b (.tup xs)):∀ {vs:List V} {ds:List D},IsDs K H vs ds->L3.noLs ds=true->IsDs K H' vs ds
 | _,_,.nil,_=>.nil
 | _,_,.cons h hs,e=>by
  rw[L3.noLs,V4] at e;exact .cons (IsD.noL k h e.1) (IsDs.noL k hs e.2)
end
end
theorem IsD.intI{K:Fg_}{H:Hp}{v:V}{i:Int}(h:IsD K H v (.int i)):v=.int i:=by cases h;rfl
theorem IsD.blI{K:Fg_}{H:Hp}{v:V}{b:Bool}(h:IsD K H v (.bl b)):v=.bl b:=by cases h;rfl
theorem IsD.strI{K:Fg_}{H:Hp}{v:V}{x:Str}(h:IsD K H v (.str x)):v=.str x:=by cases h;rfl
theorem IsD.tupI{K:Fg_}{H:Hp}{v:V}{ds:List D}(h:IsD K H v (.tup ds)):∃ a xs,v=.ref a/\SqT K H a xs/\IsDs K H xs ds:=by
 cases h with
 | tup h hs=>exact⟨_,_,rfl,h,hs⟩
theorem IsD.lstI{K:Fg_}{H:Hp}{v:V}{ds:List D}(h:IsD K H v (.lst ds)):∃ a xs,v=.ref a/\SqL K H a xs/\IsDs K H xs ds:=by
 cases h with
 | lst h hs=>exact⟨_,_,rfl,h,hs⟩
def uF:Str := "ranked.<locals>.<lambda>"
def zDB(P:Jc)(H:Hp):Prop:=∃ ps,H P=some (.tbl ps)/\TriplesOk ps.toList/\∀(pos:Pos)(cv:Ja),codeAmong pos ps.toList=some cv->∃ c oc vs t u,cv=.ref c/\H c=some (.frz oc u)/\oc.data=.fields vs/\vs[1]?=some (.str uF t)
theorem zDB.put{P a:Jc}{H:Hp}{x:HO}(h:zDB P H)(h1:∀ ps,H a≠some (.tbl ps))(h2:∀ o u,H a≠some (.frz o u)):zDB P (upd H a x):=by
 obtain⟨ps,e,t,k⟩:=h;refine⟨ps,by rw[bB (show P≠a from fun z=>h1 ps (by rw[<-z];exact e))];exact e,t,fun pos cv q=>?_⟩
 obtain⟨c,oc,vs,tk,u,r1,r2,r3⟩:=k pos cv q;exact⟨c,oc,vs,tk,u,r1,by rw[bB (show c≠a from fun z=>h2 oc u (by rw[<-z];exact r2))];exact r2,r3⟩
structure Keep (H H':Hp):Prop where
 k:∀ b o,H b=some o->H' b=some o∨∃ ps ps',o=.tbl ps/\H' b=some (.tbl ps')
 t:∀ P,zDB P H->zDB P H'
theorem Keep.refl(H:Hp):Keep H H:=⟨fun _ _ e=>.inl e,fun _ e=>e⟩
theorem Keep.trans{H H1 H2:Hp}(a:Keep H H1)(b:Keep H1 H2):Keep H H2:=
 ⟨fun c o e=>by
  rcases a.k c o e with z | ⟨ps,ps',rfl,z⟩
  ·exact b.k c o z
  ·rcases b.k c _ z with y | ⟨qs,qs',_,y⟩
   ·exact .inr ⟨ps,ps',rfl,y⟩
   ·exact .inr ⟨ps,qs',rfl,y⟩,fun P e=>b.t P (a.t P e)⟩
theorem Keep.at{H H':Hp}(k:Keep H H'){b:Jc}{o:HO}(e:H b=some o)(ho:∀ ps,o≠.tbl ps:=by intro ps z;cases z):H' b=some o:=by
 rcases k.k b o e with z | ⟨ps,ps',z,_⟩
 ·exact z
 ·exact absurd z (ho ps)
theorem Keep.none{H H':Hp}(k:Keep H H'){p:Jc}(e:H' p=none):H p=none:=by
 cases z:H p with
 | none=>rfl
 | some o=>rcases k.k p o z with y | ⟨_,_,_,y⟩<;>(rw[y] at e;cases e)
structure Ext (Hi H Hi' H':Hp):Prop where
 i:Same Hi Hi'
 h:Keep H H'
 s:Same Hi' H'
 n:∀ b,Hi b=none->Hi' b≠none->H b=none
theorem Ext.refl{Hi H:Hp}(h:Same Hi H):Ext Hi H Hi H:=⟨Same.refl _,Keep.refl _,h,fun _ e q=>absurd e q⟩
theorem Ext.trans{Hi H Hi1 H1 Hi2 H2:Hp}(a:Ext Hi H Hi1 H1)(b:Ext Hi1 H1 Hi2 H2):Ext Hi H Hi2 H2:=
 ⟨a.i.trans b.i,a.h.trans b.h,b.s,fun c e q=>by
  cases z:Hi1 c with
  | some o=>exact a.n c e (by rw[z];exact fun w=>by cases w)
  | none=>
   have z2:=b.n c z q
   exact a.h.none z2⟩
theorem cX{H:Hp}{p:Jc}(h:H p=none)(o:HO):Same H (upd H p o):=fun b u q=>by rw[bB (bC q h)];exact q
theorem zFd{H:Hp}{p:Jc}(h:H p=none)(o:HO):Keep H (upd H p o):=⟨fun b u q=>.inl (cX h o b u q),fun P e=>e.put (fun ps z=>by rw[h] at z;cases z) (fun ob u z=>by rw[h] at z;cases z)⟩
theorem _root_.L2.Same.none{H H':Hp}(h:Same H H'){p:Jc}(e:H' p=none):H p=none:=by
 cases z:H p with
 | none=>rfl
 | some o=>rw[h _ _ z] at e;cases e
theorem Ext.new{Hi H:Hp}{p:Jc}{o:HO}(h:Same Hi H)(hp:H p=none):Ext Hi H (upd Hi p o) (upd H p o) where
 i:=cX (h.none hp) o
 h:=zFd hp o
 s:=fun b u q=>by
  by_cases e:b=p
  ·subst e;rw[aY] at q ⊢;exact q
  ·rw[bB e] at q ⊢;exact h _ _ q
 n:=fun b e q=>by
  by_cases z:b=p
  ·rw[z];exact hp
  ·rw[bB z] at q;exact absurd e q
theorem Ext.newF{Hi H:Hp}{p:Jc}{o:HO}(h:Same Hi H)(hp:H p=none):Ext Hi H Hi (upd H p o) where
 i:=Same.refl _
 h:=zFd hp o
 s:=h.trans (cX hp o)
 n:=fun b e q=>absurd e q
theorem Ext.out{Hi H Hi' H':Hp}(e:Ext Hi H Hi' H'){a:Jc}{o:HO}(h:H a=some o)(hi:Hi a=none)(ho:∀ ps,o≠.tbl ps:=by intro ps z;cases z):H' a=some o/\Hi' a=none:=by
 refine⟨e.h.at h ho,?_⟩
 cases z:Hi' a with
 | none=>rfl
 | some u=>have:=e.n a hi (by rw[z];exact fun w=>by cases w);rw[h] at this;cases this
theorem Ext.hold{Hi H Hi' H':Hp}(e:Ext Hi H Hi' H'){a:Jc}{o:HO}(hn:H a=none)(h:H' a=some o)(hi:Hi' a=none):Ext Hi H (upd Hi' a o) H' where
 i:=e.i.trans (cX hi o)
 h:=e.h
 s:=fun b u q=>by
  by_cases z:b=a
  ·subst z;rw[aY] at q;cases q;exact h
  ·rw[bB z] at q;exact e.s _ _ q
 n:=fun b z q=>by
  by_cases w:b=a
  ·rw[w];exact hn
  ·rw[bB w] at q;exact e.n b z q
def zIR(a C:Jc):Je->Prop:=fun h=>∃ o vs,h.get? a=some o/\o.cls=.ref C/\o.data=.fields vs
def kvT(T:List (Str×Str)):List (Key×V):=T.map fun q=>(Sum.inr q.1,V.str q.2)
def zFF(K:PySem.W.Frag)(mg:Str->Option Ja)(B Hi H:Hp)(o:Option (Option V)):Sl->Prop
 | .un=>True
 | .val d=>∃ v,o=some (some v)/\IsD K Hi v d
 | .own ds=>∃ a xs,o=some (some (.ref a))/\H a=some (.lst xs)/\Hi a=none/\B a=none/\IsDs K Hi xs ds
 | .exc c=>∃ a C,o=some (some (.ref a))/\H a=some (.ext (zIR a C))/\Hi a=none/\B a=none/\mg c=some (.ref C)
 | .tab T=>∃ a,o=some (some (.ref a))/\Hi a=some (.dK (kvT T))
structure Rel (K:PySem.W.Frag) (mg:Str->Option Ja) (B Bi Hi H:Hp) (σ:St) (ρ:Rho):Prop where
 len:σ.length=ρ.length
 ext:Ext Bi B Hi H
 slot:∀(i:Nat)(s:Sl),ρ[i]?=some s->zFF K mg B Hi H σ[i]? s
 dist:∀(i j:Nat)(a:Jc)(ds es:List D),ρ[i]?=some (.own ds)->ρ[j]?=some (.own es)->σ[i]?=some (some (.ref a))->σ[j]?=some (some (.ref a))->i=j
section
variable{K:Fg_}{mg:Str->Option Ja}{B Bi Hi H Hi' H':Hp}{σ:St}{ρ:Rho}
theorem zFF.ext{o:Option (Option V)}{s:Sl}(h:zFF K mg B Hi H o s)(e:Ext Hi H Hi' H'):zFF K mg B Hi' H' o s:=by
 cases s with
 | un=>trivial
 | val d=>obtain⟨v,q,r⟩:=h;exact⟨v,q,r.mono e.i⟩
 | own ds=>
  obtain⟨a,xs,q,h1,h2,h3,h4⟩:=h;obtain⟨e1,e2⟩:=e.out h1 h2;exact⟨a,xs,q,e1,e2,h3,h4.mono e.i⟩
 | exc c=>
  obtain⟨a,C,q,h1,h2,h3,h4⟩:=h;obtain⟨e1,e2⟩:=e.out h1 h2;exact⟨a,C,q,e1,e2,h3,h4⟩
 | tab T=>obtain⟨a,q,h1⟩:=h;exact⟨a,q,e.i _ _ h1⟩
theorem Rel.grow(R:Rel K mg B Bi Hi H σ ρ)(e:Ext Hi H Hi' H'):Rel K mg B Bi Hi' H' σ ρ:=⟨R.len,R.ext.trans e,fun i s q=>(R.slot i s q).ext e,R.dist⟩
theorem Rel.s(R:Rel K mg B Bi Hi H σ ρ):Same Hi H:=R.ext.s
theorem Rel.set{i:Nat}{v:V}{d:D}(R:Rel K mg B Bi Hi H σ ρ)(h:IsD K Hi v d):Rel K mg B Bi Hi H (σ.set i (some v)) (ρ.set i (.val d)) where
 len:=by rw[Q6,Q6];exact R.len
 ext:=R.ext
 slot:=fun j s q=>by
  by_cases e:i=j
  ·subst e
   by_cases hl:i<ρ.length
   ·rw[Q9 hl] at q;cases q
    exact⟨v,by rw[Q9 (by rw[R.len];exact hl)],h⟩
   ·rw[Qz (by rw[Q6];omega)] at q;cases q
  ·rw[Q7 e] at q ⊢
   exact R.slot j s q
 dist:=fun j k a ds es q1 q2 q3 q4=>by
  have h1:∀ {j:Nat} {ds:List D},(ρ.set i (.val d))[j]?=some (.own ds)->i≠j:=fun {j ds} q e=>by
   subst e;by_cases hl:i<ρ.length
   ·rw[Q9 hl] at q;cases q
   ·rw[Qz (by rw[Q6];omega)] at q;cases q
  have n1:=h1 q1;have n2:=h1 q2;rw[Q7 n1] at q1 q3;rw[Q7 n2] at q2 q4;exact R.dist j k a ds es q1 q2 q3 q4
theorem Rel.setOwn{i:Nat}{a:Jc}{xs:List V}{ds:List D}(R:Rel K mg B Bi Hi H σ ρ)(e:Ext Hi H Hi' H')(hn:H a=none)(h:H' a=some (.lst xs))(hi:Hi' a=none)(hs:IsDs K Hi' xs ds):
  Rel K mg B Bi Hi' H' (σ.set i (some (.ref a))) (ρ.set i (.own ds)) where
 len:=by rw[Q6,Q6];exact R.len
 ext:=R.ext.trans e
 slot:=fun j s q=>by
  by_cases z:i=j
  ·subst z
   by_cases hl:i<ρ.length
   ·rw[Q9 hl] at q;cases q
    exact⟨a,xs,by rw[Q9 (by rw[R.len];exact hl)],h,hi,R.ext.h.none hn,hs⟩
   ·rw[Qz (by rw[Q6];omega)] at q;cases q
  ·rw[Q7 z] at q ⊢
   exact(R.slot j s q).ext e
 dist:=fun j k b es fs q1 q2 q3 q4=>by
  have h1:∀ {j:Nat} {es:List D},i≠j->ρ[j]?=some (.own es)->σ[j]?=some (some (.ref a))->False:=fun {j es} _ p1 p2=>by
   obtain⟨a',xs',q,h1,_⟩:=R.slot j _ p1;rw[p2] at q;cases q;rw[hn] at h1;cases h1
  have h2:∀ {j:Nat} {es:List D},(ρ.set i (.own ds))[j]?=some (.own es)->i<σ.length∨i≠j:=fun {j es} p=>by
   by_cases z:i=j
   ·subst z
    by_cases hl:i<ρ.length
    ·exact .inl (by rw[R.len];exact hl)
    ·rw[Qz (by rw[Q6];omega)] at p;cases p
   ·exact .inr z
  by_cases z1:i=j
  ·by_cases z2:i=k
   ·rw[<-z1,<-z2]
   ·exfalso
    subst z1;have hl:i<σ.length:=(h2 q1).resolve_right (fun w=>w rfl)
    rw[Q9 hl] at q3;cases q3
    rw[Q7 z2] at q2 q4;exact h1 z2 q2 q4
  ·by_cases z2:i=k
   ·exfalso
    subst z2;have hl:i<σ.length:=(h2 q2).resolve_right (fun w=>w rfl)
    rw[Q9 hl] at q4;cases q4
    rw[Q7 z1] at q1 q3;exact h1 z1 q1 q3
   ·rw[Q7 z1] at q1 q3
    rw[Q7 z2] at q2 q4;exact R.dist j k b es fs q1 q2 q3 q4
theorem Rel.write{i:Nat}{a:Jc}{ys:List V}{ds es:List D}(R:Rel K mg B Bi Hi H σ ρ)(e:ρ[i]?=some (.own ds))(ea:σ[i]?=some (some (.ref a)))(hs:IsDs K Hi ys es):
  Rel K mg B Bi Hi (upd H a (.lst ys)) σ (ρ.set i (.own es)):=by
 obtain⟨a',xs',q,h1,h2,h3,h4⟩:=R.slot i _ e;rw[ea] at q;cases q
 have hl:i<ρ.length:=by
  by_cases hl:i<ρ.length
  ·exact hl
  ·rw[Qz (by omega)] at e;cases e
 refine⟨by rw[Q6];exact R.len,⟨R.ext.i,⟨fun b o z=>?_,fun P z=>(R.ext.h.t P z).put (fun ps y=>by rw[h1] at y;cases y) (fun ob u y=>by rw[h1] at y;cases y)⟩,fun b o z=>?_,R.ext.n⟩,fun j s z=>?_,fun j k b fs gs q1 q2 q3 q4=>?_⟩
 ·rw[bB (bC z h3)];exact R.ext.h.k _ _ z
 ·rw[bB (bC z h2)];exact R.ext.s _ _ z
 ·by_cases w:i=j
  ·subst w
   rw[Q9 hl] at z;cases z
   exact⟨a,ys,ea,aY,h2,h3,hs⟩
  ·rw[Q7 w] at z
   have S:=R.slot j s z
   cases s with
   | un=>trivial
   | val d=>exact S
   | own fs=>
    obtain⟨b,zs,p,g1,g2,g3,g4⟩:=S;have hb:b≠a:=fun c=>w (R.dist i j a ds fs e z ea (by rw[p,c]))
    exact⟨b,zs,p,by rw[bB hb];exact g1,g2,g3,g4⟩
   | exc c=>
    obtain⟨b,C,p,g1,g2,g3,g4⟩:=S;have hb:b≠a:=zQR g1 h1 (by intro z;cases z)
    exact⟨b,C,p,by rw[bB hb];exact g1,g2,g3,g4⟩
   | tab T=>exact S
 ·have own:∀ {j:Nat} {fs:List D},(ρ.set i (.own es))[j]?=some (.own fs)->∃ gs,ρ[j]?=some (.own gs):=fun {j fs} p=>by
   by_cases w:i=j
   ·subst w;exact⟨ds,e⟩
   ·rw[Q7 w] at p;exact⟨fs,p⟩
  obtain⟨fs',q1'⟩:=own q1;obtain⟨gs',q2'⟩:=own q2;exact R.dist j k b fs' gs' q1' q2' q3 q4
theorem Rel.frzAt{i:Nat}(R:Rel K mg B Bi Hi H σ ρ):∃ Hi',Same Hi Hi'/\Rel K mg B Bi Hi' H σ (L3.frzAt i ρ):=by
 unfold L3.frzAt;split
 ·rename_i ds e
  obtain⟨a,xs,q,h1,h2,h3,h4⟩:=R.slot i _ e
  have hl:i<ρ.length:=by
   by_cases hl:i<ρ.length
   ·exact hl
   ·rw[Qz (by omega)] at e;cases e
  have sm:Same Hi (upd Hi a (.lst xs)):=cX h2 _
  have ss:Same (upd Hi a (.lst xs)) H:=fun b u z=>by
   by_cases w:b=a
   ·subst w;rw[aY] at z;cases z;exact h1
   ·rw[bB w] at z;exact R.s _ _ z
  refine⟨upd Hi a (.lst xs),sm,by rw[Q6];exact R.len,⟨R.ext.i.trans sm,R.ext.h,ss,fun b z w=>?_⟩,fun j s z=>?_,fun j k b fs gs q1 q2 q3 q4=>?_⟩
  ·by_cases c:b=a
   ·rw[c];exact h3
   ·rw[bB c] at w;exact R.ext.n b z w
  ·by_cases w:i=j
   ·subst w
    rw[Q9 hl] at z;cases z
    exact⟨.ref a,q,.lst (SqL.of aY) (h4.mono sm)⟩
   ·rw[Q7 w] at z
    have S:=R.slot j s z
    cases s with
    | un=>trivial
    | val d=>obtain⟨v,p,r⟩:=S;exact⟨v,p,r.mono sm⟩
    | own fs=>
     obtain⟨b,zs,p,g1,g2,g3,g4⟩:=S;have hb:b≠a:=fun c=>w (R.dist i j a ds fs e z q (by rw[p,c]))
     exact⟨b,zs,p,g1,by rw[bB hb];exact g2,g3,g4.mono sm⟩
    | exc c=>
     obtain⟨b,C,p,g1,g2,g3,g4⟩:=S;have hb:b≠a:=zQR g1 h1 (by intro z;cases z)
     exact⟨b,C,p,g1,by rw[bB hb];exact g2,g3,g4⟩
    | tab T=>obtain⟨b,p,g1⟩:=S;exact⟨b,p,sm _ _ g1⟩
  ·have own:∀ {j:Nat} {fs:List D},(ρ.set i (.val (.lst ds)))[j]?=some (.own fs)->ρ[j]?=some (.own fs):=fun {j fs} p=>by
    by_cases w:i=j
    ·subst w;rw[Q9 hl] at p;cases p
    ·rw[Q7 w] at p;exact p
   exact R.dist j k b fs gs (own q1) (own q2) q3 q4
 ·exact⟨Hi,Same.refl _,R⟩
end
end L3
namespace L3
open PySem PySem.Spec PyProof.Rows L2
section
variable{K:Fg_}{mg:Str->Option Ja}{B Bi Hi H Hi' H':Hp}{σ:St}{ρ:Rho}
theorem Rel.frz(R:Rel K mg B Bi Hi H σ ρ):∃ Hf,Same Hi Hf/\Rel K mg B Bi Hf H σ (ρ.map Sl.frz)/\∀ b,Hi b=none->Hf b≠none->∃ xs,Hf b=some (.lst xs):=by
 let own:Jc->Prop:=fun b=>∃(i:Nat)(ds:List D),ρ[i]?=some (.own ds)/\σ[i]?=some (some (.ref b))
 have dec:∀ b,Decidable (own b):=fun b=>Classical.propDecidable _
 let Hf:Hp:=fun b=>match Hi b with
  | some o=>some o
  | none=>if own b then H b else none
 have hf1:∀ b o,Hi b=some o->Hf b=some o:=fun b o e=>by show(match Hi b with | some o=>some o | none=>if own b then H b else none)=_;rw[e]
 have hf2:∀ b,Hi b=none->own b->Hf b=H b:=fun b e z=>by show(match Hi b with | some o=>some o | none=>if own b then H b else none)=_;rw[e];exact Jk z
 have hf3:∀ b,Hi b=none->¬ own b->Hf b=none:=fun b e z=>by show(match Hi b with | some o=>some o | none=>if own b then H b else none)=_;rw[e];exact Jl z
 have lst:∀ b,own b->∃ xs,H b=some (.lst xs)/\Hi b=none/\B b=none:=fun b ⟨i,ds,e1,e2⟩=>by
  obtain⟨a,xs,q,h1,h2,h3,h4⟩:=R.slot i _ e1;rw[e2] at q;cases q
  exact⟨xs,h1,h2,h3⟩
 have ss:Same Hf H:=fun b o z=>by
  cases q:Hi b with
  | some u=>rw[hf1 b u q] at z;cases z;exact R.s _ _ q
  | none=>
   by_cases w:own b
   ·rw[hf2 b q w] at z;exact z
   ·rw[hf3 b q w] at z;cases z
 refine⟨Hf,hf1,⟨by rw[Qg];exact R.len,⟨R.ext.i.trans hf1,R.ext.h,ss,fun b z w=>?_⟩,fun j s z=>?_,fun j k b fs gs q1 q2 q3 q4=>?_⟩,fun b z w=>?_⟩
 ·cases q:Hi b with
  | some u=>exact R.ext.n b z (by rw[q];exact fun c=>by cases c)
  | none=>
   by_cases c:own b
   ·exact(lst b c).choose_spec.2.2
   ·exact absurd (hf3 b q c) w
 ·rw[Qs] at z
  cases e:ρ[j]? with
  | none=>rw[e] at z;cases z
  | some t=>
   rw[e] at z;cases z;have S:=R.slot j t e
   cases t with
   | un=>trivial
   | val d=>obtain⟨v,p,r⟩:=S;exact⟨v,p,r.mono hf1⟩
   | own ds=>
    obtain⟨a,xs,q,h1,h2,h3,h4⟩:=S;exact⟨.ref a,q,.lst (SqL.of (by rw[hf2 a h2 ⟨j,ds,e,q⟩];exact h1)) (h4.mono hf1)⟩
   | exc c=>
    obtain⟨a,C,q,h1,h2,h3,h4⟩:=S;refine⟨a,C,q,h1,?_,h3,h4⟩
    refine hf3 a h2 fun c=>?_
    obtain⟨xs,g,_⟩:=lst a c;rw[h1] at g;cases g
   | tab T=>obtain⟨a,q,h1⟩:=S;exact⟨a,q,hf1 _ _ h1⟩
 ·exfalso
  rw[Qs] at q1
  cases e:ρ[j]? with
  | none=>rw[e] at q1;cases q1
  | some t=>rw[e] at q1;cases t<;>cases q1
 ·by_cases c:own b
  ·obtain⟨xs,g,_⟩:=lst b c
   exact⟨xs,by rw[hf2 b z c];exact g⟩
  ·exact absurd (hf3 b z c) w
theorem Ext.thaw{Hf:Hp}(s:Same Hi Hf)(fl:∀ b,Hi b=none->Hf b≠none->∃ xs,Hf b=some (.lst xs))(hs:Same Hf H)(e:Ext Hf H Hi' H'):
  ∃ Ht,Ext Hi H Ht H'/\(∀ b xs,Rd Hi' b (.tup xs)->Rd Ht b (.tup xs))/\Same Ht Hi'/\∀ b,Ht b=none->Hi' b=none∨∃ xs,H b=some (.lst xs):=by
 have dec:∀ b,Decidable (Hi b=none/\Hf b≠none):=fun b=>Classical.propDecidable _
 let Ht:Hp:=fun b=>if Hi b=none/\Hf b≠none then none else Hi' b
 have t1:∀ b,¬ (Hi b=none/\Hf b≠none)->Ht b=Hi' b:=fun b z=>Jl z
 have t2:∀ b,(Hi b=none/\Hf b≠none)->Ht b=none:=fun b z=>Jk z
 have tt:Same Ht Hi':=fun b o z=>by
  by_cases w:Hi b=none/\Hf b≠none
  ·rw[t2 b w] at z;cases z
  ·rw[t1 b w] at z;exact z
 refine⟨Ht,⟨fun b o z=>?_,e.h,tt.trans e.s,fun b z w=>?_⟩,fun b xs r=>?_,tt,fun b z=>?_⟩
 ·rw[t1 b (fun w=>by rw[z] at w;cases w.1)];exact e.i _ _ (s _ _ z)
 ·by_cases c:Hi b=none/\Hf b≠none
  ·exact absurd (t2 b c) w
  ·rw[t1 b c] at w
   have:Hf b=none:=by
    cases q:Hf b with
    | none=>rfl
    | some u=>exact absurd ⟨z,by rw[q];exact fun c=>by cases c⟩ c
   exact e.n b this w
 ·have nl:¬ (Hi b=none/\Hf b≠none):=fun w=>by
   obtain⟨ys,g⟩:=fl b w.1 w.2;have g':=e.i _ _ g;rcases r with r | ⟨o,r⟩<;>(rw[g'] at r;cases r)
  rcases r with r | ⟨o,r⟩
  ·exact .inl (by rw[t1 b nl];exact r)
  ·exact .inr ⟨o,by rw[t1 b nl];exact r⟩
 ·by_cases c:Hi b=none/\Hf b≠none
  ·obtain⟨ys,g⟩:=fl b c.1 c.2
   exact .inr ⟨ys,hs _ _ g⟩
  ·exact .inl (by rw[t1 b c] at z;exact z)
end
structure Gx where
 B:Hp
 Bi:Hp
 E:Str->Hp->Prop
abbrev lV(X:Cx)(G:Gx)(Hi H:Hp)(σ:St)(ρ:Rho):Prop:=Rel X.K X.mg G.B G.Bi Hi H σ ρ
def Out(G:Gx)(Hi H:Hp){α:Type}(r:Res α)(k:α->Hp->Hp->Prop):Prop:=match r with
 | .ok a=>∀ Hi' H',Ext Hi H Hi' H'->k a Hi' H'
 | .err c=>∀ Hi' H',Ext Hi H Hi' H'->G.E c H'
 | .no=>False
theorem Out.bind{G:Gx}{Hi H:Hp}{α β:Type}{r:Res α}{f:α->Res β}{k:β->Hp->Hp->Prop}(h:Out G Hi H (r.bind f) k):
  Out G Hi H r fun a Hi' H'=>Out G Hi' H' (f a) k:=by
 cases r with
 | no=>exact h
 | err c=>exact h
 | ok a=>
  intro Hi1 H1 e;have h':Out G Hi H (f a) k:=h;show Out G Hi1 H1 (f a) k
  cases q:f a with
  | no=>rw[q] at h';exact h'
  | err c=>rw[q] at h';exact fun Hi2 H2 e2=>h' _ _ (e.trans e2)
  | ok b=>rw[q] at h';exact fun Hi2 H2 e2=>h' _ _ (e.trans e2)
theorem Out.imp{G:Gx}{Hi H:Hp}{α:Type}{r:Res α}{k k':α->Hp->Hp->Prop}(h:Out G Hi H r k)(f:∀ a Hi' H',Ext Hi H Hi' H'->k a Hi' H'->k' a Hi' H'):Out G Hi H r k':=by
 cases r with
 | no=>exact h
 | err c=>exact h
 | ok a=>exact fun Hi1 H1 e=>f a Hi1 H1 e (h Hi1 H1 e)
theorem Out.here{G:Gx}{Hi H:Hp}{α:Type}{a:α}{k:α->Hp->Hp->Prop}(h:Out G Hi H (.ok a) k)(s:Same Hi H):k a Hi H:=h Hi H (Ext.refl s)
def tD(X:Cx)(G:Gx)(f:Ev):TE:=fun σ H Q=>∃ ρ Hi,lV X G Hi H σ ρ/\Out G Hi H (f ρ) fun d Hi' H'=>∀ v,IsD X.K Hi' v d->Q v H'
def zLf(K:PySem.W.Frag)(H Hi' H':Hp)(a:Jc)(ds:List D):Prop:=H a=none/\Hi' a=none/\∃ xs,H' a=some (.lst xs)/\IsDs K Hi' xs ds
def tF(X:Cx)(G:Gx)(f:Fv):TE:=fun σ H Q=>∃ ρ Hi,lV X G Hi H σ ρ/\Out G Hi H (f ρ) fun ds Hi' H'=>∀ a,zLf X.K H Hi' H' a ds->Q (.ref a) H'
def tTb(X:Cx)(G:Gx)(f:Tv):TT:=fun σ H Q=>∃ ρ Hi,lV X G Hi H σ ρ/\Out G Hi H (f ρ) fun b _ H'=>Q b H'
def tAs(X:Cx)(G:Gx)(f:Fv):TA:=fun σ H Q=>∃ ρ Hi,lV X G Hi H σ ρ/\Out G Hi H (f ρ) fun ds Hi' H'=>∀ vs,IsDs X.K Hi' vs ds->Q vs H'
def Fin(X:Cx)(G:Gx)(Hi:Hp)(E:zDG)(r:Res Fl):Prop:=match r with
 | .ok (.nx ρ')=>∀ σ' Hi' H',Same Hi Hi'->lV X G Hi' H' σ' ρ'->E.nx σ' H'
 | .ok (.brk ρ')=>∀ σ' Hi' H',Same Hi Hi'->lV X G Hi' H' σ' ρ'->E.bk σ' H'
 | .ok (.ctn ρ')=>∀ σ' Hi' H',Same Hi Hi'->lV X G Hi' H' σ' ρ'->E.ct σ' H'
 | .ok (.ret (.v d))=>∀ v Hi' H',Ext G.Bi G.B Hi' H'->IsD X.K Hi' v d->E.rt v H'
 | .ok (.ret (.f ds))=>∀ a Hi' H',Ext G.Bi G.B Hi' H'->zLf X.K G.B Hi' H' a ds->E.rt (.ref a) H'
 | .err c=>∀ Hi' H',Ext G.Bi G.B Hi' H'->G.E c H'
 | .no=>False
theorem Fin.mono{X:Cx}{G:Gx}{Hi Hi':Hp}{E:zDG}{r:Res Fl}(h:Fin X G Hi E r)(s:Same Hi Hi'):Fin X G Hi' E r:=by
 cases r with
 | no=>exact h
 | err c=>exact h
 | ok f=>
  cases f with
  | nx ρ=>exact fun σ' Hi2 H2 s2=>h σ' Hi2 H2 (s.trans s2)
  | brk ρ=>exact fun σ' Hi2 H2 s2=>h σ' Hi2 H2 (s.trans s2)
  | ctn ρ=>exact fun σ' Hi2 H2 s2=>h σ' Hi2 H2 (s.trans s2)
  | ret r=>cases r<;>exact h
def tS(X:Cx)(G:Gx)(f:Sv):TS:=fun E σ H=>∃ ρ Hi,lV X G Hi H σ ρ/\Fin X G Hi E (f ρ)
@[irreducible] def PEd (X:Cx) (G:Gx) (e:Expr) (f:Ev):Prop:=PE X e (tD X G f)
unseal PEd
@[irreducible] def PEf (X:Cx) (G:Gx) (e:Expr) (f:Fv):Prop:=PE X e (tF X G f)
unseal PEf
@[irreducible] def PTd (X:Cx) (G:Gx) (e:Expr) (f:Tv):Prop:=PT X e (tTb X G f)
unseal PTd
@[irreducible] def PWd (X:Cx) (G:Gx) (e:Expr) (f:Tv):Prop:=PW X e (tTb X G f)
unseal PWd
@[irreducible] def PAd (X:Cx) (G:Gx) (es:List Expr) (f:Fv):Prop:=PA X es (tAs X G f)
unseal PAd
@[irreducible] def PSd (X:Cx) (G:Gx) (s:Ji) (f:Sv):Prop:=PS X s (tS X G f)
unseal PSd
@[irreducible] def eX (X:Cx) (G:Gx) (s:List Ji) (f:Sv):Prop:=PSs X s (tS X G f)
unseal eX
theorem PE.wk{X:Cx}{e:Expr}{t t':TE}(h:PE X e t)(w:∀ σ H Q,t' σ H Q->t σ H Q):PE X e t':=fun Mi s σ H Q I q=>h Mi s σ H Q I (w σ H Q q)
theorem PT.wk{X:Cx}{e:Expr}{t t':TT}(h:PT X e t)(w:∀ σ H Q,t' σ H Q->t σ H Q):PT X e t':=fun Mi s σ H Q I q=>h Mi s σ H Q I (w σ H Q q)
theorem PW.wk{X:Cx}{e:Expr}{t t':TT}(h:PW X e t)(w:∀ σ H Q,t' σ H Q->t σ H Q):PW X e t':=fun wh Mi s σ H Q I q=>h wh Mi s σ H Q I (w σ H Q q)
theorem PA.wk{X:Cx}{es:List Expr}{t t':TA}(h:PA X es t)(w:∀ σ H Q,t' σ H Q->t σ H Q):PA X es t':=fun pos Mi s σ H Q I q=>h pos Mi s σ H Q I (w σ H Q q)
theorem PS.wk{X:Cx}{s:Ji}{t t':TS}(h:PS X s t)(w:∀ E σ H,t' E σ H->t E σ H):PS X s t':=fun Mi s σ H E I q=>h Mi s σ H E I (w E σ H q)
theorem PSs.wk{X:Cx}{s:List Ji}{t t':TS}(h:PSs X s t)(w:∀ E σ H,t' E σ H->t E σ H):PSs X s t':=fun Mi s σ H E I q=>h Mi s σ H E I (w E σ H q)
section
variable{X:Cx}{G:Gx}{a b e:Expr}{es:List Expr}{pos:Pos}{f g:Ev}
theorem zQL(i:Nat)(h:PE X e (zDE i)):PEd X G e (aG i):=PE.wk h fun σ H Q q=>by
 obtain⟨ρ,Hi,R,o⟩:=q;unfold aG at o
 cases z:ρ[i]? with
 | none=>rw[z] at o;exact o.elim
 | some s=>
  rw[z] at o
  cases s with
  | val d=>
   obtain⟨v,p,r⟩:=R.slot i _ z;exact⟨v,p,o.here R.s v r⟩
  | un=>exact o.elim
  | own ds=>exact o.elim
  | exc c=>exact o.elim
  | tab T=>exact o.elim
theorem gM{v:V}{d:D}(h:PE X e (tC v))(r:∀ H,IsD X.K H v d):PEd X G e (eC d):=PE.wk h fun σ H Q q=>by
 obtain⟨ρ,Hi,R,o⟩:=q;exact o.here R.s v (r Hi)
theorem zEi{Hi H:Hp}{σ:St}{ρ:Rho}{β:Type}{k:D->Res β}{k':β->Hp->Hp->Prop}{Q:VK}(R:lV X G Hi H σ ρ)(o:Out G Hi H ((f ρ).bind k) k')
  (w:∀ v d Hi' H',Ext Hi H Hi' H'->lV X G Hi' H' σ ρ->IsD X.K Hi' v d->Out G Hi' H' (k d) k'->Q v H'):tD X G f σ H Q:=
 ⟨ρ,Hi,R,o.bind.imp fun d Hi' H' e q v r=>w v d Hi' H' e (R.grow e) r q⟩
def OpK(X:Cx)(r:R2)(o:Op2):Prop:=(∀ a b c,o a b≠.err c)/\∀(Hi H:Hp)(x y:V)(a b d:D)(Q:VK),Same Hi H->IsD X.K Hi x a->IsD X.K Hi y b->o a b=.ok d->
 (∀ v Hi' H',Ext Hi H Hi' H'->IsD X.K Hi' v d->Q v H')->r x y H Q
theorem op2{r:R2}{o:Op2}(k:OpK X r o):∀ σ H Q,tD X G (eOp o f g) σ H Q->tOp r (tD X G f) (tD X G g) σ H Q:=fun σ H Q q=>by
 obtain⟨ρ,Hi,R,ou⟩:=q;refine zEi R ou fun v d Hi1 H1 e1 R1 r1 o1=>?_
 refine zEi R1 o1 fun w d' Hi2 H2 e2 R2 r2 o2=>?_
 cases z:o d d' with
 | no=>rw[z] at o2;exact o2.elim
 | err c=>exact absurd z (k.1 d d' c)
 | ok u=>
  rw[z] at o2;exact k.2 Hi2 H2 v w d d' u Q R2.s (r1.mono e2.i) r2 z fun x Hi3 H3 e3 r3=>o2 Hi3 H3 e3 x r3
theorem aS{op:Operator}{r:R2}{o:Op2}(ho:OpR X (binaryOp op) r)(k:OpK X r o)(ha:PEd X G a f)(hb:PEd X G b g):PEd X G (.BinOp a op b pos) (eOp o f g):=PE.wk (zIA ho ha hb) (op2 k)
theorem wJ{op:CmpOp}{r:R2}{o:Op2}(ho:OpR X (compareOp op) r)(k:OpK X r o)(ha:PEd X G a f)(hb:PEd X G b g)(hm:behindInMarks op b=false):PEd X G (.Compare a [op] [b] pos) (eOp o f g):=PE.wk (zNe ho ha hb hm) (op2 k)
theorem bO{r:R2}{o:Op2}(ho:IxR X r)(k:OpK X r o)(ha:PEd X G a f)(hb:PEd X G b g)(hs:zEF b):PEd X G (.Subscript a b pos) (eOp o f g):=PE.wk (zGQ ho ha hb hs) (op2 k)
theorem tst{op:CmpOp}{r:R2}{o:Op2}(ho:OpR X (compareOp op) r)(k:OpK X r o)(ha:PEd X G a f)(hb:PEd X G b g)(hm:behindInMarks op b=false):PTd X G (.Compare a [op] [b] pos) (cU (eOp o f g)):=
 PT.wk (zJg ho ha hb hm) fun σ H Q q=>by
  obtain⟨ρ,Hi,R,ou⟩:=q;refine op2 k σ H _ ⟨ρ,Hi,R,ou.bind.imp fun d Hi' H' e o v r=>?_⟩
  cases d with
  | bl c=>rw[r.blI];exact⟨c,rfl,o.here e.s⟩
  | _=>exact o.elim
theorem uH(h:PEd X G a f)(he:∀ whole,isTrue a X.env whole=(do let v <-whole;standAt a.pos;holding [v] (truthy v)):=by intro _;rfl):PTd X G a (cU f):=PT.wk (zPB h he) fun σ H Q q=>by
 obtain⟨ρ,Hi,R,ou⟩:=q;refine⟨ρ,Hi,R,ou.bind.imp fun d Hi' H' e o v r=>?_⟩
 cases d with
 | bl c=>rw[r.blI];exact⟨c,rfl,o.here e.s⟩
 | _=>exact o.elim
variable{t u:Tv}
theorem zRF{Hi H:Hp}{σ:St}{ρ:Rho}{β:Type}{k:Bool->Res β}{k':β->Hp->Hp->Prop}{Q:Bool->Hp->Prop}(R:lV X G Hi H σ ρ)(o:Out G Hi H ((t ρ).bind k) k')
  (w:∀ c Hi' H',Ext Hi H Hi' H'->lV X G Hi' H' σ ρ->Out G Hi' H' (k c) k'->Q c H'):tTb X G t σ H Q:=
 ⟨ρ,Hi,R,o.bind.imp fun d Hi' H' e q=>w d Hi' H' e (R.grow e) q⟩
theorem zLr(h:PTd X G a t):PTd X G (.UnaryOp .Not a pos) (wT t):=PT.wk (zQl h) fun σ H Q q=>by
 obtain⟨ρ,Hi,R,ou⟩:=q;exact zRF R ou fun c Hi1 H1 e1 R1 o1=>o1.here R1.s
theorem zI(h:PTd X G a t):PWd X G (.BoolOp .And [a] pos) t:=zOz h
theorem uT(h:PTd X G a t):PWd X G (.BoolOp .Or [a] pos) t:=zPS h
theorem zHb{rest:List Expr}(ha:PTd X G a t)(hb:PWd X G (.BoolOp .And (b::rest) pos) u):PWd X G (.BoolOp .And (a::b::rest) pos) (zBO t u):=PW.wk (zPp ha hb) fun σ H Q q=>by
 obtain⟨ρ,Hi,R,ou⟩:=q;refine zRF R ou fun c Hi1 H1 e1 R1 o1=>?_
 cases c with
 | true=>exact⟨ρ,Hi1,R1,o1⟩
 | false=>exact o1.here R1.s
theorem zHo{rest:List Expr}(ha:PTd X G a t)(hb:PWd X G (.BoolOp .Or (b::rest) pos) u):PWd X G (.BoolOp .Or (a::b::rest) pos) (zEQ t u):=PW.wk (zRZ ha hb) fun σ H Q q=>by
 obtain⟨ρ,Hi,R,ou⟩:=q;refine zRF R ou fun c Hi1 H1 e1 R1 o1=>?_
 cases c with
 | true=>exact o1.here R1.s
 | false=>exact⟨ρ,Hi1,R1,o1⟩
theorem PWd.pt{e:Expr}(h:PWd X G e t):PTd X G e t:=PW.pt h
theorem zMq{op}(h:PEd X G a f):PEd X G (.BoolOp op [a] pos) f:=zPE h
theorem zQh{rest:List Expr}(ha:PEd X G a f)(hb:PEd X G (.BoolOp .And (b::rest) pos) g):PEd X G (.BoolOp .And (a::b::rest) pos) (zRC f g):=PE.wk (zQF ha hb) fun σ H Q q=>by
 obtain⟨ρ,Hi,R,ou⟩:=q;refine zEi R ou fun v d Hi1 H1 e1 R1 r1 o1=>?_
 cases d with
 | bl c=>
  refine⟨c,r1.blI,?_⟩
  cases c with
  | true=>exact⟨ρ,Hi1,R1,o1⟩
  | false=>exact o1.here R1.s _ (.bl false)
 | _=>exact o1.elim
theorem zSI{rest:List Expr}(ha:PEd X G a f)(hb:PEd X G (.BoolOp .Or (b::rest) pos) g):PEd X G (.BoolOp .Or (a::b::rest) pos) (eOr f g):=PE.wk (zSh ha hb) fun σ H Q q=>by
 obtain⟨ρ,Hi,R,ou⟩:=q;refine zEi R ou fun v d Hi1 H1 e1 R1 r1 o1=>?_
 cases d with
 | bl c=>
  refine⟨c,r1.blI,?_⟩
  cases c with
  | true=>exact o1.here R1.s _ (.bl true)
  | false=>exact⟨ρ,Hi1,R1,o1⟩
 | _=>exact o1.elim
theorem nZ(ha:PEd X G a f):PEd X G (.UnaryOp .USub a pos) (eUn zAB f):=PE.wk (zSg zRk ha) fun σ H Q q=>by
 obtain⟨ρ,Hi,R,ou⟩:=q;refine zEi R ou fun v d Hi1 H1 e1 R1 r1 o1=>?_
 cases d with
 | int c=>exact⟨c,r1.intI,o1.here R1.s _ (.int _)⟩
 | _=>exact o1.elim
theorem zOL{c:Expr}(hc:PTd X G c t)(ha:PEd X G a f)(hb:PEd X G b g):PEd X G (.IfExp c a b pos) (eIf t f g):=PE.wk (zKW hc ha hb) fun σ H Q q=>by
 obtain⟨ρ,Hi,R,ou⟩:=q;refine zRF R ou fun c Hi1 H1 e1 R1 o1=>?_
 cases c with
 | true=>exact⟨ρ,Hi1,R1,o1⟩
 | false=>exact⟨ρ,Hi1,R1,o1⟩
variable{fs:Fv}
theorem aE:PAd X G [] aNil:=PA.wk nT fun σ H Q q=>by
 obtain⟨ρ,Hi,R,ou⟩:=q;exact ou.here R.s [] .nil
theorem aA(ha:PEd X G e f)(hr:PAd X G es fs)(hs:starEach (e::es) X.env=(false,eval e X.env)::starEach es X.env:=by rfl):PAd X G (e::es) (aD f fs):=PA.wk (gA ha hr hs) fun σ H Q q=>by
 obtain⟨ρ,Hi,R,ou⟩:=q;refine zEi R ou fun v d Hi1 H1 e1 R1 r1 o1=>?_
 refine⟨ρ,Hi1,R1,o1.bind.imp fun ds Hi2 H2 e2 o2 vs rs=>?_⟩
 exact o2.here e2.s _ (.cons (r1.mono e2.i) rs)
theorem zLI{Hi H:Hp}{σ:St}{ρ:Rho}{β:Type}{k:List D->Res β}{k':β->Hp->Hp->Prop}{Q:List V->Hp->Prop}(R:lV X G Hi H σ ρ)(o:Out G Hi H ((fs ρ).bind k) k')
  (w:∀ vs ds Hi' H',Ext Hi H Hi' H'->lV X G Hi' H' σ ρ->IsDs X.K Hi' vs ds->Out G Hi' H' (k ds) k'->Q vs H'):tAs X G fs σ H Q:=
 ⟨ρ,Hi,R,o.bind.imp fun d Hi' H' e q v r=>w v d Hi' H' e (R.grow e) r q⟩
theorem dM{x1}(h:PAd X G es fs):PEd X G (.Tuple es x1 pos) (rY fs):=PE.wk (zMO h) fun σ H Q q=>by
 obtain⟨ρ,Hi,R,ou⟩:=q;refine zLI R ou fun vs ds Hi1 H1 e1 R1 r1 o1=>?_
 by_cases hz:ds.length<=16777216
 ·rw[Jk hz] at o1
  refine⟨by rw[r1.length];exact hz,fun p hp=>?_⟩
  exact o1 _ _ (Ext.new R1.s hp) (.ref p) (.tup (SqT.of aY) (r1.mono (cX (R1.s.none hp) _)))
 ·rw[Jl hz] at o1;exact o1.elim
theorem bU(h:PAd X G es fs):PEf X G (.List es pos) (kD fs):=PE.wk (zPJ h) fun σ H Q q=>by
 obtain⟨ρ,Hi,R,ou⟩:=q;refine zLI R ou fun vs ds Hi1 H1 e1 R1 r1 o1=>?_
 by_cases hz:ds.length<=16777216
 ·rw[Jk hz] at o1
  refine⟨by rw[r1.length];exact hz,fun p hp=>?_⟩
  exact o1 _ _ (Ext.newF R1.s hp) p ⟨e1.h.none hp,R1.s.none hp,vs,aY,r1⟩
 ·rw[Jl hz] at o1;exact o1.elim
theorem PEf.d(h:PEf X G e fs):PEd X G e (eF fs):=PE.wk h fun σ H Q q=>by
 obtain⟨ρ,Hi,R,ou⟩:=q;refine⟨ρ,Hi,R,?_⟩
 cases z:fs ρ with
 | no=>unfold eF at ou;rw[z] at ou;exact ou
 | err c=>unfold eF at ou;rw[z] at ou;exact ou
 | ok ds=>
  unfold eF at ou;rw[z] at ou
  intro Hi1 H1 e1 a n;obtain⟨n1,n2,xs,n3,n4⟩:=n;have ou':∀ Hi' H',Ext Hi H Hi' H'->∀ v,IsD X.K Hi' v (.lst ds)->Q v H':=ou;exact ou' _ _ (e1.hold n1 n3 n2) (.ref a) (.lst (SqL.of aY) (n4.mono (cX n2 _)))
theorem PEd.frz(h:PEd X G e f):PEd X G e (zRJ f):=PE.wk h fun σ H Q q=>by
 obtain⟨ρ,Hi,R,ou⟩:=q;obtain⟨Hf,s1,R1,fl⟩:=R.frz;refine⟨ρ.map Sl.frz,Hf,R1,?_⟩
 unfold zRJ at ou
 cases z:f (ρ.map Sl.frz) with
 | no=>rw[z] at ou;exact ou
 | err c=>
  rw[z] at ou;intro Hi1 H1 e1;have ou':∀ Hi' H',Ext Hi H Hi' H'->G.E c H':=ou;obtain⟨Ht,e2,k,s2,n⟩:=Ext.thaw s1 fl R1.s e1;exact ou' Ht H1 e2
 | ok d=>
  rw[z] at ou;by_cases hz:noL d=true
  ·have ou':Out G Hi H (if noL d=true then Res.ok d else .no) _:=ou
   rw[Jk hz] at ou';intro Hi1 H1 e1 v r;obtain⟨Ht,e2,k,s2,n⟩:=Ext.thaw s1 fl R1.s e1;exact ou' Ht H1 e2 v (r.noL k hz)
  ·have ou':Out G Hi H (if noL d=true then Res.ok d else .no) _:=ou
   rw[Jl hz] at ou';exact ou'.elim
end
end L3
namespace L3
open PySem PySem.Spec PyProof.Rows L2
unseal PEd PEf PTd PWd PAd PSd eX
section
variable{X:Cx}{G:Gx}{a b e:Expr}{es:List Expr}{pos:Pos}{f g:Ev}{fs:Fv}{t u:Tv}
theorem PEf.frz(h:PEf X G e fs):PEf X G e (zPk fs):=PE.wk h fun σ H Q q=>by
 obtain⟨ρ,Hi,R,ou⟩:=q;obtain⟨Hf,s1,R1,fl⟩:=R.frz;refine⟨ρ.map Sl.frz,Hf,R1,?_⟩
 unfold zPk at ou
 cases z:fs (ρ.map Sl.frz) with
 | no=>rw[z] at ou;exact ou
 | err c=>
  rw[z] at ou;intro Hi1 H1 e1;have ou':∀ Hi' H',Ext Hi H Hi' H'->G.E c H':=ou;obtain⟨Ht,e2,k,s2,n⟩:=Ext.thaw s1 fl R1.s e1;exact ou' Ht H1 e2
 | ok ds=>
  rw[z] at ou;have ou':Out G Hi H (if noLs ds=true then Res.ok ds else .no) _:=ou;by_cases hz:noLs ds=true
  ·rw[Jk hz] at ou'
   intro Hi1 H1 e1 a n;obtain⟨n1,n2,xs,n3,n4⟩:=n;obtain⟨Ht,e2,k,s2,_⟩:=Ext.thaw s1 fl R1.s e1;exact ou' Ht H1 e2 a ⟨n1,s2.none n2,xs,n3,n4.noL k hz⟩
  ·rw[Jl hz] at ou';exact ou'.elim
theorem OpR.or{o:Ja->Ja->Sem Ja}{r r':R2}(h:OpR X o r)(h':OpR X o r'):OpR X o (fun x y H Q=>r x y H Q∨r' x y H Q):=by
 intro Mi s σ H x y v u Q I rx ry q;rcases q with q | q
 ·exact h Mi s σ H x y v u Q I rx ry q
 ·exact h' Mi s σ H x y v u Q I rx ry q
theorem zRh{o:Op2}{h:Int->Int->Int}(hi:∀ i j,o (.int i) (.int j)=.ok (.int (h i j)))(hn:∀ a b d,o a b=.ok d->∃ i j,a=.int i/\b=.int j)(he:∀ a b c,o a b≠.err c):OpK X (rI0 fun i j=>.int (h i j)) o:=
 ⟨he,fun Hi H x y a b d Q s r1 r2 z q=>by
  obtain⟨i,j,rfl,rfl⟩:=hn a b d z;rw[hi] at z;cases z
  exact⟨i,j,r1.intI,r2.intI,q _ Hi H (Ext.refl s) (.int _)⟩⟩
theorem zJN{o:Op2}{h:Int->Int->Bool}(hi:∀ i j,o (.int i) (.int j)=.ok (.bl (h i j)))(hn:∀ a b d,o a b=.ok d->∃ i j,a=.int i/\b=.int j)(he:∀ a b c,o a b≠.err c):OpK X (rI0 fun i j=>.bl (h i j)) o:=
 ⟨he,fun Hi H x y a b d Q s r1 r2 z q=>by
  obtain⟨i,j,rfl,rfl⟩:=hn a b d z;rw[hi] at z;cases z
  exact⟨i,j,r1.intI,r2.intI,q _ Hi H (Ext.refl s) (.bl _)⟩⟩
theorem zAY:OpK X (rI0 fun i j=>.int (i-j)) zAL:=zRh (fun _ _=>rfl) (fun a b d z=>by unfold zAL at z;split at z<;>first | exact⟨_,_,rfl,rfl⟩ | cases z) (fun a b c z=>by unfold zAL at z;split at z<;>cases z)
theorem zCx:OpK X (rI0 fun i j=>.bl (decide (i<j))) oLt:=zJN (fun _ _=>rfl) (fun a b d z=>by unfold oLt at z;split at z<;>first | exact⟨_,_,rfl,rfl⟩ | cases z) (fun a b c z=>by unfold oLt at z;split at z<;>cases z)
theorem zRy:OpK X (rI0 fun i j=>.bl (decide (j<i))) oGt:=zJN (fun _ _=>rfl) (fun a b d z=>by unfold oGt at z;split at z<;>first | exact⟨_,_,rfl,rfl⟩ | cases z) (fun a b c z=>by unfold oGt at z;split at z<;>cases z)
theorem zSd:OpK X (rI0 fun i j=>.bl (decide (j<=i))) oGe:=zJN (fun _ _=>rfl) (fun a b d z=>by unfold oGe at z;split at z<;>first | exact⟨_,_,rfl,rfl⟩ | cases z) (fun a b c z=>by unfold oGe at z;split at z<;>cases z)
theorem zKB{o:Op2}{C:Int->Int->Prop}{h:Int->Int->Int}(hn:∀ a b d,o a b=.ok d->∃ i j,a=.int i/\b=.int j/\C i j/\d=.int (h i j))(he:∀ a b c,o a b≠.err c):OpK X (rI C fun i j=>.int (h i j)) o:=
 ⟨he,fun Hi H x y a b d Q s r1 r2 z q=>by
  obtain⟨i,j,rfl,rfl,hc,rfl⟩:=hn a b d z
  exact⟨i,j,r1.intI,r2.intI,hc,q _ Hi H (Ext.refl s) (.int _)⟩⟩
def zRf(i j:Int):Prop:=kN i j=true
theorem bV:OpR X (binaryOp .Mult) (rI zRf fun i j=>.int (i*j)):=opI fun i j _ _ _ _ _ hc q=>by
 have hc':kN i j=true:=hc;unfold kN at hc';simp only[Xc,V4,J9] at hc';rcases hc' with (⟨h1,h2⟩ | ⟨h1,h2⟩) | h
 ·exact mul_int q (zRE.ok (.inl ⟨h1,h2⟩))
 ·exact mul_int q (zRE.ok (.inr ⟨h1,h2⟩))
 ·exact mul_int q (PySem.IntMulOk.of_le (U9.mpr (zNb i)) (U9.mpr (zNb j)) h)
def zQf(_ j:Int):Prop:=mM j=true
theorem cD:OpR X (binaryOp .FloorDiv) (rI zQf fun i j=>.int (i.fdiv j)):=opI fun i j _ _ _ _ _ hc q=>by
 have hc':mM j=true:=hc;unfold mM at hc';simp only[V4,J9] at hc';refine floordiv_int hc'.1 q (.inl (PyProof.noPylong_of_log2 ?_))
 have h2:=hc'.2;unfold nb at h2;omega
def zPP(i j:Int):Prop:=oV i j=true
theorem pC:OpR X (binaryOp .Pow) (rI zPP fun i j=>.int (i^j.toNat)):=opI fun i j _ _ _ _ _ hc q=>by
 have hc':oV i j=true:=hc;unfold oV at hc';simp only[V4,J9] at hc';refine pow_int hc'.1 (Vl (W6 ?_ hc'.1) hc'.2) q
 have:=U9.mpr (zNb i)
 omega
theorem gJ:OpK X (rI zRf fun i j=>.int (i*j)) oW:=zKB (fun a b d z=>by
 unfold oW at z;split at z
 case h_2=>cases z
 rename_i i j
 have z':(if kN i j=true then Res.ok (D.int (i*j)) else .no)=.ok d:=z;by_cases h:kN i j=true
 ·rw[Jk h] at z';cases z';exact⟨i,j,rfl,rfl,h,rfl⟩
 ·rw[Jl h] at z';cases z') (fun a b c z=>by
 unfold oW at z;split at z
 case h_2=>cases z
 rename_i i j
 have z':(if kN i j=true then Res.ok (D.int (i*j)) else .no)=.err c:=z;by_cases h:kN i j=true
 ·rw[Jk h] at z';cases z'
 ·rw[Jl h] at z';cases z')
theorem iJ:OpK X (rI zQf fun i j=>.int (i.fdiv j)) oX:=zKB (fun a b d z=>by
 unfold oX at z;split at z
 case h_2=>cases z
 rename_i i j
 have z':(if mM j=true then Res.ok (D.int (i.fdiv j)) else .no)=.ok d:=z;by_cases h:mM j=true
 ·rw[Jk h] at z';cases z';exact⟨i,j,rfl,rfl,h,rfl⟩
 ·rw[Jl h] at z';cases z') (fun a b c z=>by
 unfold oX at z;split at z
 case h_2=>cases z
 rename_i i j
 have z':(if mM j=true then Res.ok (D.int (i.fdiv j)) else .no)=.err c:=z;by_cases h:mM j=true
 ·rw[Jk h] at z';cases z'
 ·rw[Jl h] at z';cases z')
theorem iV:OpK X (rI (fun _ j=>j≠0) fun i j=>.int (i.fmod j)) rV:=zKB (fun a b d z=>by
 unfold rV at z;split at z
 case h_2=>cases z
 rename_i i j
 have z':(if j≠0 then Res.ok (D.int (i.fmod j)) else .no)=.ok d:=z;by_cases h:j≠0
 ·rw[Jk h] at z';cases z';exact⟨i,j,rfl,rfl,h,rfl⟩
 ·rw[Jl h] at z';cases z') (fun a b c z=>by
 unfold rV at z;split at z
 case h_2=>cases z
 rename_i i j
 have z':(if j≠0 then Res.ok (D.int (i.fmod j)) else .no)=.err c:=z;by_cases h:j≠0
 ·rw[Jk h] at z';cases z'
 ·rw[Jl h] at z';cases z')
theorem zES:OpK X (rI zPP fun i j=>.int (i^j.toNat)) zKg:=zKB (fun a b d z=>by
 unfold zKg at z;split at z
 case h_2=>cases z
 rename_i i j
 have z':(if oV i j=true then Res.ok (D.int (i^j.toNat)) else .no)=.ok d:=z;by_cases h:oV i j=true
 ·rw[Jk h] at z';cases z';exact⟨i,j,rfl,rfl,h,rfl⟩
 ·rw[Jl h] at z';cases z') (fun a b c z=>by
 unfold zKg at z;split at z
 case h_2=>cases z
 rename_i i j
 have z':(if oV i j=true then Res.ok (D.int (i^j.toNat)) else .no)=.err c:=z;by_cases h:oV i j=true
 ·rw[Jk h] at z';cases z'
 ·rw[Jl h] at z';cases z')
def zPF(K:PySem.W.Frag):R2:=fun x y H Q=>∃ a b ys,x=.ref a/\y=.ref b/\SqT K H a []/\SqT K H b ys/\Q (.ref b) H
theorem zOY:OpR X (binaryOp .Add) (zPF X.K):=by
 intro Mi s σ H x y v u Q I rx ry h;obtain⟨a,b,ys,rfl,rfl,ha,hb,q⟩:=h;cases rx;cases ry;obtain⟨its,r1,p1,_⟩:=I.tuple ha;obtain⟨its2,r2,p2,_⟩:=I.tuple hb;cases r1;obtain⟨⟨c1,d1,t1,s1⟩,ho1,hc1,n1,hd1⟩:=id p1;obtain⟨⟨c2,d2,t2,s2⟩,ho2,hc2,n2,hd2⟩:=id p2;simp only at hc1 hd1 hc2 hd2
 subst hc1 hd1 hc2 hd2;exact J0 ⟨_,ho1,rfl⟩ ⟨_,ho2,rfl⟩ J1 J2 Uo Up (Uq _ _) (tuple_addW0 a b #[] its2.toArray n1 n2 d1 d2 s1 s2 rfl) ⟨ho1,ho2,⟨.ref b,H,I,rfl,q⟩⟩
def zPO(K:PySem.W.Frag):R2:=fun x y H Q=>rI0 (fun i j=>.int (i+j)) x y H Q∨(zQb K x y H Q∨zPF K x y H Q)
theorem dL:OpR X (binaryOp .Add) (zPO X.K):=OpR.or zQV (OpR.or zNG zOY)
theorem lH:OpK X (zPO X.K) tZ:=⟨fun a b c z=>(by
  unfold tZ at z;split at z
  case h_1=>cases z
  case h_3=>cases z
  rename_i as bs
  have z':(if as.length+bs.length<=16777216 then Res.ok (D.tup (as++bs)) else .no)=.err c:=z
  split at z'<;>cases z'),fun Hi H x y a b d Q s r1 r2 z q=>by
  unfold tZ at z;split at z
  case h_3=>cases z
  ·cases z
   exact .inl ⟨_,_,r1.intI,r2.intI,q _ Hi H (Ext.refl s) (.int _)⟩
  ·rename_i as bs
   have z':(if as.length+bs.length<=16777216 then Res.ok (D.tup (as++bs)) else .no)=.ok d:=z;split at z'
   ·rename_i hz
    cases z'
    obtain⟨p,xs,rfl,h1,i1⟩:=r1.tupI;obtain⟨p',ys,rfl,h2,i2⟩:=r2.tupI;by_cases h0:as.length=0
    ·have e0:as=[]:=Wa h0
     subst e0;cases i1;exact .inr (.inr ⟨p,p',ys,rfl,rfl,cW s h1,cW s h2,q _ Hi H (Ext.refl s) (.tup h2 i2)⟩)
    refine .inr (.inl ⟨p,p',xs,ys,rfl,rfl,cW s h1,cW s h2,fun e=>h0 (by rw[<-i1.length,e];rfl),by rw[i1.length,i2.length];exact hz,fun e=>?_,fun _ l hl=>?_⟩)
    ·subst e
     cases i2;rw[Vg] at q;exact q _ Hi H (Ext.refl s) (.tup h1 i1)
    ·exact q _ _ _ (Ext.new s hl) (.tup (SqT.of aY) ((i1.append i2).mono (cX (s.none hl) _)))
   ·cases z'⟩
theorem zOU{α:Type}{xs:List α}{i:Int}{v:α}(h0:i<0)(h1:0<=(xs.length:Int)+i)(h:xs[((xs.length:Int)+i).toNat]?=some v):atI xs i=some v:=by
 have e:ixN xs.length i=some ((xs.length:Int)+i).toNat:=by
  unfold ixN;rw[Jl (by omega),Jk (by omega)];congr 2
  omega
 unfold atI;rw[e];exact h
theorem zJI{K:Fg_}{H:Hp}{xs:List V}{ds:List D}{i:Int}{d:D}(h:IsDs K H xs ds)(e:atD ds i=some d):∃ v,atI xs i=some v/\IsD K H v d:=by
 unfold atD at e;by_cases h0:0<=i
 ·rw[Jk h0] at e
  obtain⟨v,hv,r⟩:=h.at e;refine⟨v,?_,r⟩
  have:=zEM hv
  rw[show((i.toNat:Nat):Int)=i by omega] at this;exact this
 ·rw[Jl h0] at e
  by_cases h1:0<=(ds.length:Int)+i
  ·rw[Jk h1] at e
   obtain⟨v,hv,r⟩:=h.at e;refine⟨v,?_,r⟩
   have hl:=h.length;have e2:((ds.length:Int)+i).toNat=((xs.length:Int)+i).toNat:=by rw[hl]
   rw[e2] at hv;exact zOU (by omega) (by omega) hv
  ·rw[Jl h1] at e;cases e
theorem eZ:OpK X (fun x y H Q=>zRx X.K x y H Q∨zRH X.K x y H Q) oIx:=⟨fun a b c z=>(by
  unfold oIx at z;split at z
  case h_3=>cases z
  ·rename_i ds i
   have z':ofO (atD ds i)=Res.err c:=z;cases q:atD ds i<;>rw[q] at z'<;>cases z'
  ·rename_i ds i
   have z':ofO (atD ds i)=Res.err c:=z
   cases q:atD ds i<;>rw[q] at z'<;>cases z'),fun Hi H x y a b d Q s r1 r2 z q=>by
  unfold oIx at z;split at z
  case h_3=>cases z
  ·rename_i ds i
   have z':ofO (atD ds i)=Res.ok d:=z
   cases w:atD ds i with
   | none=>rw[w] at z';cases z'
   | some d'=>
    rw[w] at z';cases z'
    obtain⟨p,xs,rfl,h1,i1⟩:=r1.tupI;obtain⟨v,hv,r⟩:=zJI i1 w;exact .inr ⟨p,xs,i,v,rfl,r2.intI,cW s h1,hv,q v Hi H (Ext.refl s) r⟩
  ·rename_i ds i
   have z':ofO (atD ds i)=Res.ok d:=z
   cases w:atD ds i with
   | none=>rw[w] at z';cases z'
   | some d'=>
    rw[w] at z';cases z'
    obtain⟨p,xs,rfl,h1,i1⟩:=r1.lstI;obtain⟨v,hv,r⟩:=zJI i1 w
    exact .inl ⟨p,xs,i,v,rfl,r2.intI,dD s h1,hv,q v Hi H (Ext.refl s) r⟩⟩
theorem aO:IxR X (fun x y H Q=>zRx X.K x y H Q∨zRH X.K x y H Q):=zOn.or zQg
end
section
variable{X:Cx}{Mi:List (Jc×Obj)}{σ:St}{H:Hp}{s:Jb}
mutual
theorem IsD.inj(I:Inv X Mi σ H s):∀ {v:V} {d e:D},IsD X.K H v d->IsD X.K H v e->d=e
 | _,_,_,.non,h=>by cases h;rfl
 | _,_,_,.bl b,h=>by cases h;rfl
 | _,_,_,.int i,h=>by cases h;rfl
 | _,_,_,.str x,h=>by cases h;rfl
 | _,_,_,.tup h hs,h2=>by
  cases h2 with
  | tup h' hs'=>
   have e:=I.tuple_inj h h';subst e;rw[IsDs.inj I hs hs']
  | lst h' hs'=>
   exfalso
   obtain⟨_,_,⟨o,e,c,_⟩,_⟩:=I.tuple h;obtain⟨_,_,⟨o',n',e',c',_⟩,_⟩:=I.list h';rw[e] at e';cases e';rw[c] at c';exact absurd c' (by decide)
 | _,_,_,.lst h hs,h2=>by
  cases h2 with
  | lst h' hs'=>
   have e:=I.list_inj h h';subst e;rw[IsDs.inj I hs hs']
  | tup h' hs'=>
   exfalso
   obtain⟨_,_,⟨o,e,c,_⟩,_⟩:=I.tuple h';obtain⟨_,_,⟨o',n',e',c',_⟩,_⟩:=I.list h;rw[e] at e';cases e';rw[c] at c';exact absurd c' (by decide)
theorem IsDs.inj(I:Inv X Mi σ H s):∀ {vs:List V} {ds es:List D},IsDs X.K H vs ds->IsDs X.K H vs es->ds=es
 | _,_,_,.nil,h=>by cases h;rfl
 | _,_,_,.cons h hs,h2=>by
  cases h2 with
  | cons h' hs'=>rw[IsD.inj I h h',IsDs.inj I hs hs']
end
theorem zIg{α:Type}{l:List α}{j:Nat}{x d:α}(h:l[j]?=some x):l.getD j d=x:=by
 rw[Qy,h];rfl
theorem oG{A:Jh}{xs xs':List V}{ds ds':List D}{its its':List Ja}(hs:IsDs X.K H xs ds)(hs':IsDs X.K H xs' ds')(rv:dS xs its)(rv':dS xs' its')
  (rc:∀(d d':D)(v v':V)(u u':Ja),d∈ds->IsD X.K H v d->IsD X.K H v' d'->dH v u->dH v' u'->SeqAt.EqAt A s u u' (eqD d d'))
  (j:Nat) (g1:j<its.toArray.size) (g2:j<its'.toArray.size):SeqAt.EqAt A s its.toArray[j] its'.toArray[j] (eqD (ds.getD j .non) (ds'.getD j .non)):=by
 have g1':j<its.length:=by simpa using g1
 have g2':j<its'.length:=by simpa using g2
 have l1:its.length=ds.length:=by rw[<-rv.length,hs.length]
 have l2:its'.length=ds'.length:=by rw[<-rv'.length,hs'.length]
 obtain⟨d,hd⟩:∃ d,ds[j]?=some d:=⟨_,Qo (by omega)⟩
 obtain⟨d',hd'⟩:∃ d,ds'[j]?=some d:=⟨_,Qo (by omega)⟩
 obtain⟨v,hv,iv⟩:=hs.at hd;obtain⟨v',hv',iv'⟩:=hs'.at hd';obtain⟨w1,hw,rw1⟩:=rv.get hv;obtain⟨w2,hw',rw2⟩:=rv'.get hv'
 have e1:its.toArray[j]=w1:=by
  rw[Qo g1'] at hw;simpa using hw
 have e2:its'.toArray[j]=w2:=by
  rw[Qo g2'] at hw';simpa using hw'
 rw[e1,e2,zIg hd,zIg hd'];exact rc d d' v v' w1 w2 (Qi hd) iv iv' rw1 rw2
theorem jS{ds ds':List D}(h:ds.length=ds'.length):((List.range ds.length).all fun j=>eqD (ds.getD j .non) (ds'.getD j .non))=zHn ds ds':=by
 rw[oI,<-h,Ub];simp
theorem zBP{ds ds':List D}(h:ds.length≠ds'.length):zHn ds ds'=false:=by
 rw[oI];simp[h]
theorem zCh(I:Inv X Mi σ H s){A:Jh}{v v':V}{d d':D}{u u':Ja}(h1:IsD X.K H v d)(h2:IsD X.K H v' d')(r1:dH v u)(r2:dH v' u')(hu:A.units<cLine)
  (rc:∀ ds,(d=.tup ds∨d=.lst ds)->∀(e e':D)(w w':V)(z z':Ja),e∈ds->IsD X.K H w e->IsD X.K H w' e'->dH w z->dH w' z'->SeqAt.EqAt A.in1 s z z' (eqD e e')):
  SeqAt.EqAt A s u u' (eqD d d'):=by
 cases h1 with
 | non=>
  cases (show u=Value.none from r1)
  cases h2 with
  | non=>cases (show u'=Value.none from r2);exact SeqAt.EqAt.same _
  | bl b=>cases (show u'=Value.bool _ from r2);exact SeqAt.EqAt.none_bool _
  | int i=>obtain⟨t,rfl⟩:=r2;exact SeqAt.EqAt.none_int _ _
  | str x=>obtain⟨t,rfl⟩:=r2;exact SeqAt.EqAt.none_str _ _
  | tup h hs=>cases (show u'=Value.ref _ from r2);obtain⟨its,rv,p,hz⟩:=I.tuple h;exact SeqAt.EqAt.none_tuple (show s.heap.IsTuple _ its.toArray from p) hu
  | lst h hs=>cases (show u'=Value.ref _ from r2);obtain⟨its,rv,p,hz⟩:=I.list h;exact SeqAt.EqAt.none_list p.isList hu
 | bl b=>
  cases (show u=Value.bool _ from r1)
  cases h2 with
  | non=>cases (show u'=Value.none from r2);exact SeqAt.EqAt.bool_none _
  | bl b=>cases (show u'=Value.bool _ from r2);exact SeqAt.EqAt.bool_bool _ _
  | int i=>obtain⟨t,rfl⟩:=r2;exact SeqAt.EqAt.bool_int _ _ _
  | str x=>obtain⟨t,rfl⟩:=r2;exact SeqAt.EqAt.bool_str _ _ _
  | tup h hs=>cases (show u'=Value.ref _ from r2);obtain⟨its,rv,p,hz⟩:=I.tuple h;exact SeqAt.EqAt.bool_tuple _ (show s.heap.IsTuple _ its.toArray from p) hu
  | lst h hs=>cases (show u'=Value.ref _ from r2);obtain⟨its,rv,p,hz⟩:=I.list h;exact SeqAt.EqAt.bool_list _ p.isList hu
 | int i=>
  obtain⟨t,rfl⟩:=r1
  cases h2 with
  | non=>cases (show u'=Value.none from r2);exact SeqAt.EqAt.int_none _ _
  | bl b=>cases (show u'=Value.bool _ from r2);exact SeqAt.EqAt.int_bool _ _ _
  | int i=>obtain⟨t,rfl⟩:=r2;exact SeqAt.EqAt.int_int _ _ _ _
  | str x=>obtain⟨t,rfl⟩:=r2;exact SeqAt.EqAt.int_str _ _ _ _
  | tup h hs=>cases (show u'=Value.ref _ from r2);obtain⟨its,rv,p,hz⟩:=I.tuple h;exact SeqAt.EqAt.int_tuple _ _ (show s.heap.IsTuple _ its.toArray from p) hu
  | lst h hs=>cases (show u'=Value.ref _ from r2);obtain⟨its,rv,p,hz⟩:=I.list h;exact SeqAt.EqAt.int_list _ _ p.isList hu
 | str x=>
  obtain⟨t,rfl⟩:=r1
  cases h2 with
  | non=>cases (show u'=Value.none from r2);exact SeqAt.EqAt.str_none _ _
  | bl b=>cases (show u'=Value.bool _ from r2);exact SeqAt.EqAt.str_bool _ _ _
  | int i=>obtain⟨t,rfl⟩:=r2;exact SeqAt.EqAt.str_int _ _ _ _
  | str x=>obtain⟨t,rfl⟩:=r2;exact SeqAt.EqAt.str_str _ _ _ _
  | tup h hs=>cases (show u'=Value.ref _ from r2);obtain⟨its,rv,p,hz⟩:=I.tuple h;exact SeqAt.EqAt.str_tuple _ _ (show s.heap.IsTuple _ its.toArray from p) hu
  | lst h hs=>cases (show u'=Value.ref _ from r2);obtain⟨its,rv,p,hz⟩:=I.list h;exact SeqAt.EqAt.str_list _ _ p.isList hu
 | @tup a xs ds h hs=>
  cases (show u=Value.ref a from r1)
  obtain⟨its,rv,p,hz⟩:=I.tuple h
  cases h2 with
  | non=>cases (show u'=Value.none from r2);exact SeqAt.EqAt.tuple_none (show s.heap.IsTuple _ its.toArray from p) hu
  | bl b=>cases (show u'=Value.bool _ from r2);exact SeqAt.EqAt.tuple_bool _ (show s.heap.IsTuple _ its.toArray from p) hu
  | int i=>obtain⟨t,rfl⟩:=r2;exact SeqAt.EqAt.tuple_int _ _ (show s.heap.IsTuple _ its.toArray from p) hu
  | str x=>obtain⟨t,rfl⟩:=r2;exact SeqAt.EqAt.tuple_str _ _ (show s.heap.IsTuple _ its.toArray from p) hu
  | @tup a' xs' ds' h' hs'=>
   cases (show u'=Value.ref a' from r2)
   by_cases e:a=a'
   ·subst e
    have e:=I.tuple_inj h h';subst e;have e:=IsDs.inj I hs hs';subst e;rw[uL];exact SeqAt.EqAt.same _
   ·obtain⟨its',rv',p',hz'⟩:=I.tuple h'
    have l1:its.toArray.size=ds.length:=by rw[Qk,<-rv.length,hs.length]
    have l2:its'.toArray.size=ds'.length:=by rw[Qk,<-rv'.length,hs'.length]
    have key:=SeqAt.RcAt.tuples (A:=A) (s:=s) (show s.heap.IsTuple a its.toArray from p) (show s.heap.IsTuple a' its'.toArray from p') hu
     (oG (A:=A.in1) (s:=s) hs hs' rv rv' fun d d' v v' u u' hm iv iv' r r'=>rc ds (.inl rfl) d d' v v' u u' hm iv iv' r r')
    rw[l1,l2,<-oI] at key;exact SeqAt.EqAt.of_refs e key
  | @lst a' xs' ds' h' hs'=>
   cases (show u'=Value.ref a' from r2)
   obtain⟨its',rv',p',hz'⟩:=I.list h';exact SeqAt.EqAt.tuple_list (show s.heap.IsTuple _ its.toArray from p) p'.isList hu
 | @lst a xs ds h hs=>
  cases (show u=Value.ref a from r1)
  obtain⟨its,rv,p,hz⟩:=I.list h
  cases h2 with
  | non=>cases (show u'=Value.none from r2);exact SeqAt.EqAt.list_none p.isList hu
  | bl b=>cases (show u'=Value.bool _ from r2);exact SeqAt.EqAt.list_bool _ p.isList hu
  | int i=>obtain⟨t,rfl⟩:=r2;exact SeqAt.EqAt.list_int _ _ p.isList hu
  | str x=>obtain⟨t,rfl⟩:=r2;exact SeqAt.EqAt.list_str _ _ p.isList hu
  | @tup a' xs' ds' h' hs'=>
   cases (show u'=Value.ref a' from r2)
   obtain⟨its',rv',p',hz'⟩:=I.tuple h';exact SeqAt.EqAt.list_tuple p.isList (show s.heap.IsTuple _ its'.toArray from p') hu
  | @lst a' xs' ds' h' hs'=>
   cases (show u'=Value.ref a' from r2)
   by_cases e:a=a'
   ·subst e
    have e:=I.list_inj h h';subst e;have e:=IsDs.inj I hs hs';subst e;rw[uL];exact SeqAt.EqAt.same _
   ·obtain⟨its',rv',p',hz'⟩:=I.list h'
    have l1:its.toArray.size=ds.length:=by rw[Qk,<-rv.length,hs.length]
    have l2:its'.toArray.size=ds'.length:=by rw[Qk,<-rv'.length,hs'.length]
    by_cases hl:ds.length=ds'.length
    ·have key:=SeqAt.RcAt.lists (A:=A) (s:=s) p.isList p'.isList (by rw[l1,l2,hl]) hu
      (oG (A:=A.in1) (s:=s) hs hs' rv rv' fun d d' v v' u u' hm iv iv' r r'=>rc ds (.inr rfl) d d' v v' u u' hm iv iv' r r')
     rw[l1,jS hl] at key;exact SeqAt.EqAt.of_refs e key
    ·have key:=SeqAt.RcAt.lists_lengths (A:=A) (s:=s) p.isList p'.isList (by rw[l1,l2];simp[hl]) hu
     rw[eqD,zBP hl];exact SeqAt.EqAt.of_refs e key
theorem zHB(I:Inv X Mi σ H s)(n:Nat):∀ {v v':V} {d d':D},dep d<=n->IsD X.K H v d->IsD X.K H v' d'->
  ∀(A:Jh)(u u':Ja),A.units+n<cLine->dH v u->dH v' u'->SeqAt.EqAt A s u u' (eqD d d'):=by
 induction n with
 | zero=>
  intro v v' d d' hn h1 h2 A u u' hu r1 r2;refine zCh I h1 h2 r1 r2 (by omega) fun ds hd=>?_
  rcases hd with rfl | rfl<;>(rw[dep] at hn;omega)
 | succ n ih=>
  intro v v' d d' hn h1 h2 A u u' hu r1 r2;refine zCh I h1 h2 r1 r2 (by omega) fun ds hd e e' w w' z z' hm i1 i2 q1 q2=>?_
  refine ih ?_ i1 i2 A.in1 z z' (by show A.units+1+n<cLine;omega) q1 q2
  have:=uV hm
  rcases hd with rfl | rfl<;>(rw[dep] at hn;omega)
theorem zJX(I:Inv X Mi σ H s){A:Jh}{v v':V}{d d':D}{u u':Ja}(h1:IsD X.K H v d)(h2:IsD X.K H v' d')(r1:dH v u)(r2:dH v' u')(hu:A.units<cLine)
  (rc:∀ ds,(d=.tup ds∨d=.lst ds)->∀(e e':D)(w w':V)(z z':Ja),e∈ds->IsD X.K H w e->IsD X.K H w' e'->dH w z->dH w' z'->SeqAt.EqAt A.in1 s z z' (eqD e e')):
  SeqAt.RcAt A s u u' (eqD d d'):=by
 cases h1 with
 | non=>
  cases (show u=Value.none from r1)
  cases h2 with
  | non=>cases (show u'=Value.none from r2);exact SeqAt.RcAt.none_none
  | bl b=>cases (show u'=Value.bool _ from r2);exact SeqAt.RcAt.none_bool _
  | int i=>obtain⟨t,rfl⟩:=r2;exact SeqAt.RcAt.none_int _ _
  | str x=>obtain⟨t,rfl⟩:=r2;exact SeqAt.RcAt.none_str _ _
  | tup h hs=>cases (show u'=Value.ref _ from r2);obtain⟨its,rv,p,hz⟩:=I.tuple h;exact SeqAt.RcAt.none_tuple (show s.heap.IsTuple _ its.toArray from p) hu
  | lst h hs=>cases (show u'=Value.ref _ from r2);obtain⟨its,rv,p,hz⟩:=I.list h;exact SeqAt.RcAt.none_list p.isList hu
 | bl b=>
  cases (show u=Value.bool _ from r1)
  cases h2 with
  | non=>cases (show u'=Value.none from r2);exact SeqAt.RcAt.bool_none _
  | bl b=>cases (show u'=Value.bool _ from r2);exact SeqAt.RcAt.bool_bool _ _
  | int i=>obtain⟨t,rfl⟩:=r2;exact SeqAt.RcAt.bool_int _ _ _
  | str x=>obtain⟨t,rfl⟩:=r2;exact SeqAt.RcAt.bool_str _ _ _
  | tup h hs=>cases (show u'=Value.ref _ from r2);obtain⟨its,rv,p,hz⟩:=I.tuple h;exact SeqAt.RcAt.bool_tuple _ (show s.heap.IsTuple _ its.toArray from p) hu
  | lst h hs=>cases (show u'=Value.ref _ from r2);obtain⟨its,rv,p,hz⟩:=I.list h;exact SeqAt.RcAt.bool_list _ p.isList hu
 | int i=>
  obtain⟨t,rfl⟩:=r1
  cases h2 with
  | non=>cases (show u'=Value.none from r2);exact SeqAt.RcAt.int_none _ _
  | bl b=>cases (show u'=Value.bool _ from r2);exact SeqAt.RcAt.int_bool _ _ _
  | int i=>obtain⟨t,rfl⟩:=r2;exact SeqAt.RcAt.int_int _ _ _ _
  | str x=>obtain⟨t,rfl⟩:=r2;exact SeqAt.RcAt.int_str _ _ _ _
  | tup h hs=>cases (show u'=Value.ref _ from r2);obtain⟨its,rv,p,hz⟩:=I.tuple h;exact SeqAt.RcAt.int_tuple _ _ (show s.heap.IsTuple _ its.toArray from p) hu
  | lst h hs=>cases (show u'=Value.ref _ from r2);obtain⟨its,rv,p,hz⟩:=I.list h;exact SeqAt.RcAt.int_list _ _ p.isList hu
 | str x=>
  obtain⟨t,rfl⟩:=r1
  cases h2 with
  | non=>cases (show u'=Value.none from r2);exact SeqAt.RcAt.str_none _ _
  | bl b=>cases (show u'=Value.bool _ from r2);exact SeqAt.RcAt.str_bool _ _ _
  | int i=>obtain⟨t,rfl⟩:=r2;exact SeqAt.RcAt.str_int _ _ _ _
  | str x=>obtain⟨t,rfl⟩:=r2;exact SeqAt.RcAt.str_str _ _ _ _
  | tup h hs=>cases (show u'=Value.ref _ from r2);obtain⟨its,rv,p,hz⟩:=I.tuple h;exact SeqAt.RcAt.str_tuple _ _ (show s.heap.IsTuple _ its.toArray from p) hu
  | lst h hs=>cases (show u'=Value.ref _ from r2);obtain⟨its,rv,p,hz⟩:=I.list h;exact SeqAt.RcAt.str_list _ _ p.isList hu
 | @tup a xs ds h hs=>
  cases (show u=Value.ref a from r1)
  obtain⟨its,rv,p,hz⟩:=I.tuple h
  cases h2 with
  | non=>cases (show u'=Value.none from r2);exact SeqAt.RcAt.tuple_none (show s.heap.IsTuple _ its.toArray from p) hu
  | bl b=>cases (show u'=Value.bool _ from r2);exact SeqAt.RcAt.tuple_bool _ (show s.heap.IsTuple _ its.toArray from p) hu
  | int i=>obtain⟨t,rfl⟩:=r2;exact SeqAt.RcAt.tuple_int _ _ (show s.heap.IsTuple _ its.toArray from p) hu
  | str x=>obtain⟨t,rfl⟩:=r2;exact SeqAt.RcAt.tuple_str _ _ (show s.heap.IsTuple _ its.toArray from p) hu
  | @tup a' xs' ds' h' hs'=>
   cases (show u'=Value.ref a' from r2)
   ·obtain⟨its',rv',p',hz'⟩:=I.tuple h'
    have l1:its.toArray.size=ds.length:=by rw[Qk,<-rv.length,hs.length]
    have l2:its'.toArray.size=ds'.length:=by rw[Qk,<-rv'.length,hs'.length]
    have key:=SeqAt.RcAt.tuples (A:=A) (s:=s) (show s.heap.IsTuple a its.toArray from p) (show s.heap.IsTuple a' its'.toArray from p') hu
     (oG (A:=A.in1) (s:=s) hs hs' rv rv' fun d d' v v' u u' hm iv iv' r r'=>rc ds (.inl rfl) d d' v v' u u' hm iv iv' r r')
    rw[l1,l2,<-oI] at key;exact key
  | @lst a' xs' ds' h' hs'=>
   cases (show u'=Value.ref a' from r2)
   obtain⟨its',rv',p',hz'⟩:=I.list h';exact SeqAt.RcAt.tuple_list (show s.heap.IsTuple _ its.toArray from p) p'.isList hu
 | @lst a xs ds h hs=>
  cases (show u=Value.ref a from r1)
  obtain⟨its,rv,p,hz⟩:=I.list h
  cases h2 with
  | non=>cases (show u'=Value.none from r2);exact SeqAt.RcAt.list_none p.isList hu
  | bl b=>cases (show u'=Value.bool _ from r2);exact SeqAt.RcAt.list_bool _ p.isList hu
  | int i=>obtain⟨t,rfl⟩:=r2;exact SeqAt.RcAt.list_int _ _ p.isList hu
  | str x=>obtain⟨t,rfl⟩:=r2;exact SeqAt.RcAt.list_str _ _ p.isList hu
  | @tup a' xs' ds' h' hs'=>
   cases (show u'=Value.ref a' from r2)
   obtain⟨its',rv',p',hz'⟩:=I.tuple h';exact SeqAt.RcAt.list_tuple p.isList (show s.heap.IsTuple _ its'.toArray from p') hu
  | @lst a' xs' ds' h' hs'=>
   cases (show u'=Value.ref a' from r2)
   ·obtain⟨its',rv',p',hz'⟩:=I.list h'
    have l1:its.toArray.size=ds.length:=by rw[Qk,<-rv.length,hs.length]
    have l2:its'.toArray.size=ds'.length:=by rw[Qk,<-rv'.length,hs'.length]
    by_cases hl:ds.length=ds'.length
    ·have key:=SeqAt.RcAt.lists (A:=A) (s:=s) p.isList p'.isList (by rw[l1,l2,hl]) hu
      (oG (A:=A.in1) (s:=s) hs hs' rv rv' fun d d' v v' u u' hm iv iv' r r'=>rc ds (.inr rfl) d d' v v' u u' hm iv iv' r r')
     rw[l1,jS hl] at key;exact key
    ·have key:=SeqAt.RcAt.lists_lengths (A:=A) (s:=s) p.isList p'.isList (by rw[l1,l2];simp[hl]) hu
     rw[eqD,zBP hl];exact key
theorem zIG(I:Inv X Mi σ H s){A:Jh}{v v':V}{d d':D}{u u':Ja}(h1:IsD X.K H v d)(h2:IsD X.K H v' d')(r1:dH v u)(r2:dH v' u')(hu:A.units<cLine)
  (rc:∀ ds,(d=.tup ds∨d=.lst ds)->∀(e e':D)(w w':V)(z z':Ja),e∈ds->IsD X.K H w e->IsD X.K H w' e'->dH w z->dH w' z'->SeqAt.EqAt A.in1 s z z' (eqD e e')):
  SeqAt.RcNeAt A s u u' (!eqD d d'):=by
 cases h1 with
 | non=>
  cases (show u=Value.none from r1)
  cases h2 with
  | non=>cases (show u'=Value.none from r2);exact SeqAt.RcNeAt.none_none
  | bl b=>cases (show u'=Value.bool _ from r2);exact SeqAt.RcNeAt.none_bool _
  | int i=>obtain⟨t,rfl⟩:=r2;exact SeqAt.RcNeAt.none_int _ _
  | str x=>obtain⟨t,rfl⟩:=r2;exact SeqAt.RcNeAt.none_str _ _
  | tup h hs=>cases (show u'=Value.ref _ from r2);obtain⟨its,rv,p,hz⟩:=I.tuple h;exact SeqAt.RcNeAt.none_tuple (show s.heap.IsTuple _ its.toArray from p) hu
  | lst h hs=>cases (show u'=Value.ref _ from r2);obtain⟨its,rv,p,hz⟩:=I.list h;exact SeqAt.RcNeAt.none_list p.isList hu
 | bl b=>
  cases (show u=Value.bool _ from r1)
  cases h2 with
  | non=>cases (show u'=Value.none from r2);exact SeqAt.RcNeAt.bool_none _
  | bl b=>cases (show u'=Value.bool _ from r2);exact SeqAt.RcNeAt.bool_bool _ _
  | int i=>obtain⟨t,rfl⟩:=r2;exact SeqAt.RcNeAt.bool_int _ _ _
  | str x=>obtain⟨t,rfl⟩:=r2;exact SeqAt.RcNeAt.bool_str _ _ _
  | tup h hs=>cases (show u'=Value.ref _ from r2);obtain⟨its,rv,p,hz⟩:=I.tuple h;exact SeqAt.RcNeAt.bool_tuple _ (show s.heap.IsTuple _ its.toArray from p) hu
  | lst h hs=>cases (show u'=Value.ref _ from r2);obtain⟨its,rv,p,hz⟩:=I.list h;exact SeqAt.RcNeAt.bool_list _ p.isList hu
 | int i=>
  obtain⟨t,rfl⟩:=r1
  cases h2 with
  | non=>cases (show u'=Value.none from r2);exact SeqAt.RcNeAt.int_none _ _
  | bl b=>cases (show u'=Value.bool _ from r2);exact SeqAt.RcNeAt.int_bool _ _ _
  | int i=>obtain⟨t,rfl⟩:=r2;exact SeqAt.RcNeAt.int_int _ _ _ _
  | str x=>obtain⟨t,rfl⟩:=r2;exact SeqAt.RcNeAt.int_str _ _ _ _
  | tup h hs=>cases (show u'=Value.ref _ from r2);obtain⟨its,rv,p,hz⟩:=I.tuple h;exact SeqAt.RcNeAt.int_tuple _ _ (show s.heap.IsTuple _ its.toArray from p) hu
  | lst h hs=>cases (show u'=Value.ref _ from r2);obtain⟨its,rv,p,hz⟩:=I.list h;exact SeqAt.RcNeAt.int_list _ _ p.isList hu
 | str x=>
  obtain⟨t,rfl⟩:=r1
  cases h2 with
  | non=>cases (show u'=Value.none from r2);exact SeqAt.RcNeAt.str_none _ _
  | bl b=>cases (show u'=Value.bool _ from r2);exact SeqAt.RcNeAt.str_bool _ _ _
  | int i=>obtain⟨t,rfl⟩:=r2;exact SeqAt.RcNeAt.str_int _ _ _ _
  | str x=>obtain⟨t,rfl⟩:=r2;exact SeqAt.RcNeAt.str_str _ _ _ _
  | tup h hs=>cases (show u'=Value.ref _ from r2);obtain⟨its,rv,p,hz⟩:=I.tuple h;exact SeqAt.RcNeAt.str_tuple _ _ (show s.heap.IsTuple _ its.toArray from p) hu
  | lst h hs=>cases (show u'=Value.ref _ from r2);obtain⟨its,rv,p,hz⟩:=I.list h;exact SeqAt.RcNeAt.str_list _ _ p.isList hu
 | @tup a xs ds h hs=>
  cases (show u=Value.ref a from r1)
  obtain⟨its,rv,p,hz⟩:=I.tuple h
  cases h2 with
  | non=>cases (show u'=Value.none from r2);exact SeqAt.RcNeAt.tuple_none (show s.heap.IsTuple _ its.toArray from p) hu
  | bl b=>cases (show u'=Value.bool _ from r2);exact SeqAt.RcNeAt.tuple_bool _ (show s.heap.IsTuple _ its.toArray from p) hu
  | int i=>obtain⟨t,rfl⟩:=r2;exact SeqAt.RcNeAt.tuple_int _ _ (show s.heap.IsTuple _ its.toArray from p) hu
  | str x=>obtain⟨t,rfl⟩:=r2;exact SeqAt.RcNeAt.tuple_str _ _ (show s.heap.IsTuple _ its.toArray from p) hu
  | @tup a' xs' ds' h' hs'=>
   cases (show u'=Value.ref a' from r2)
   ·obtain⟨its',rv',p',hz'⟩:=I.tuple h'
    have l1:its.toArray.size=ds.length:=by rw[Qk,<-rv.length,hs.length]
    have l2:its'.toArray.size=ds'.length:=by rw[Qk,<-rv'.length,hs'.length]
    have key:=SeqAt.RcNeAt.tuples (A:=A) (s:=s) (show s.heap.IsTuple a its.toArray from p) (show s.heap.IsTuple a' its'.toArray from p') hu
     (oG (A:=A.in1) (s:=s) hs hs' rv rv' fun d d' v v' u u' hm iv iv' r r'=>rc ds (.inl rfl) d d' v v' u u' hm iv iv' r r')
    rw[l1,l2,<-oI] at key;exact key
  | @lst a' xs' ds' h' hs'=>
   cases (show u'=Value.ref a' from r2)
   obtain⟨its',rv',p',hz'⟩:=I.list h';exact SeqAt.RcNeAt.tuple_list (show s.heap.IsTuple _ its.toArray from p) p'.isList hu
 | @lst a xs ds h hs=>
  cases (show u=Value.ref a from r1)
  obtain⟨its,rv,p,hz⟩:=I.list h
  cases h2 with
  | non=>cases (show u'=Value.none from r2);exact SeqAt.RcNeAt.list_none p.isList hu
  | bl b=>cases (show u'=Value.bool _ from r2);exact SeqAt.RcNeAt.list_bool _ p.isList hu
  | int i=>obtain⟨t,rfl⟩:=r2;exact SeqAt.RcNeAt.list_int _ _ p.isList hu
  | str x=>obtain⟨t,rfl⟩:=r2;exact SeqAt.RcNeAt.list_str _ _ p.isList hu
  | @tup a' xs' ds' h' hs'=>
   cases (show u'=Value.ref a' from r2)
   obtain⟨its',rv',p',hz'⟩:=I.tuple h';exact SeqAt.RcNeAt.list_tuple p.isList (show s.heap.IsTuple _ its'.toArray from p') hu
  | @lst a' xs' ds' h' hs'=>
   cases (show u'=Value.ref a' from r2)
   ·obtain⟨its',rv',p',hz'⟩:=I.list h'
    have l1:its.toArray.size=ds.length:=by rw[Qk,<-rv.length,hs.length]
    have l2:its'.toArray.size=ds'.length:=by rw[Qk,<-rv'.length,hs'.length]
    by_cases hl:ds.length=ds'.length
    ·have key:=SeqAt.RcNeAt.lists (A:=A) (s:=s) p.isList p'.isList (by rw[l1,l2,hl]) hu
      (oG (A:=A.in1) (s:=s) hs hs' rv rv' fun d d' v v' u u' hm iv iv' r r'=>rc ds (.inr rfl) d d' v v' u u' hm iv iv' r r')
     rw[l1,jS hl] at key;exact key
    ·have key:=SeqAt.RcNeAt.lists_lengths (A:=A) (s:=s) p.isList p'.isList (by rw[l1,l2];simp[hl]) hu
     rw[eqD,zBP hl];exact key
theorem eqA{X:Cx}(hu:X.A.units+64<cLine):OpR X (compareOp .Eq) (fun x y H Q=>∃ d d',IsD X.K H x d/\IsD X.K H y d'/\dep d<=50/\Q (.bl (eqD d d')) H):=by
 intro Mi s σ H x y v u Q I rx ry h;obtain⟨d,d',h1,h2,hn,q⟩:=h;refine zJX I h1 h2 rx ry (by omega) (fun ds hd e e' w w' z z' hm i1 i2 q1 q2=>?_) X.prog X.w X.xe _ ⟨.bl _,H,I,rfl,q⟩
 refine zHB I 50 ?_ i1 i2 X.A.in1 z z' (by show X.A.units+1+50<cLine;omega) q1 q2
 have:=uV hm
 rcases hd with rfl | rfl<;>(rw[dep] at hn;omega)
theorem neA{X:Cx}(hu:X.A.units+64<cLine):OpR X (compareOp .NotEq) (fun x y H Q=>∃ d d',IsD X.K H x d/\IsD X.K H y d'/\dep d<=50/\Q (.bl (!eqD d d')) H):=by
 intro Mi s σ H x y v u Q I rx ry h;obtain⟨d,d',h1,h2,hn,q⟩:=h;refine zIG I h1 h2 rx ry (by omega) (fun ds hd e e' w w' z z' hm i1 i2 q1 q2=>?_) X.prog X.w X.xe _ ⟨.bl _,H,I,rfl,q⟩
 refine zHB I 50 ?_ i1 i2 X.A.in1 z z' (by show X.A.units+1+50<cLine;omega) q1 q2
 have:=uV hm
 rcases hd with rfl | rfl<;>(rw[dep] at hn;omega)
theorem rZ{X:Cx}:OpK X (fun x y H Q=>∃ d d',IsD X.K H x d/\IsD X.K H y d'/\dep d<=50/\Q (.bl (eqD d d')) H) oEq:=⟨fun a b c z=>(by
  unfold oEq at z;split at z<;>cases z),fun Hi H x y a b d Q s r1 r2 z q=>by
  unfold oEq at z;split at z
  ·rename_i h;cases z;exact⟨a,b,r1.mono s,r2.mono s,h,q _ Hi H (Ext.refl s) (.bl _)⟩
  ·cases z⟩
theorem zKA{X:Cx}:OpK X (fun x y H Q=>∃ d d',IsD X.K H x d/\IsD X.K H y d'/\dep d<=50/\Q (.bl (!eqD d d')) H) oNe:=⟨fun a b c z=>(by
  unfold oNe at z;split at z<;>cases z),fun Hi H x y a b d Q s r1 r2 z q=>by
  unfold oNe at z;split at z
  ·rename_i h;cases z;exact⟨a,b,r1.mono s,r2.mono s,h,q _ Hi H (Ext.refl s) (.bl _)⟩
  ·cases z⟩
open Classical in
def zPi(K:PySem.W.Frag)(H:Hp)(dx:D)(u:Ja):Bool:=if ∃ w d,IsD K H w d/\dH w u/\eqD d dx=true then true else false
theorem zJA(I:Inv X Mi σ H s){dx d:D}{w:V}{u:Ja}(h:IsD X.K H w d)(r:dH w u):zPi X.K H dx u=eqD d dx:=by
 unfold zPi;by_cases e:eqD d dx=true
 ·rw[Jk ⟨w,d,h,r,e⟩,e]
 ·rw[Jl]
  ·simpa using e
  ·rintro⟨w',d',h',r',e'⟩
   have:=r.inj r'
   subst this;have:=IsD.inj I h h'
   subst this;exact e e'
theorem zEa(I:Inv X Mi σ H s){dx:D}:∀ {xs:List V} {ds:List D} {us:List Ja},IsDs X.K H xs ds->dS xs us->us.any (zPi X.K H dx)=ds.any fun d=>eqD d dx
 | _,_,_,.nil,.nil=>rfl
 | _,_,_,.cons h hs,.cons r t=>by rw[Wb,Wb,zJA I h r,zEa I hs t]
theorem zEm(I:Inv X Mi σ H s){A:Jh}{dx:D}{x:V}{ux:Ja}(hx:IsD X.K H x dx)(rx:dH x ux)(hu:A.units+50<cLine):∀ {xs:List V} {ds:List D} {us:List Ja},IsDs X.K H xs ds->dS xs us->(∀ d∈ds,dep d<=50)->∀ u∈us,SeqAt.EqAt A s u ux (zPi X.K H dx u)
 | _,_,_,.nil,.nil,_=>fun u hu=>by cases hu
 | _,_,_,.cons h hs,.cons r t,f=>fun u hm=>by
  rcases Qd.mp hm with rfl | hm
  ·rw[zJA I h r];exact zHB I 50 (f _ Qb) h hx A _ ux hu r rx
  ·exact zEm I hx rx hu hs t (fun d hd=>f d (Qc _ hd)) u hm
def zSY(K:PySem.W.Frag)(neg:Bool):R2:=fun x y H Q=>∃ d ds,IsD K H x d/\(IsD K H y (.lst ds)∨IsD K H y (.tup ds))/\depS ds<=50/\Q (.bl (if neg=true then !(ds.any fun e=>eqD e d) else ds.any fun e=>eqD e d)) H
theorem inA{X:Cx}(hu:X.A.units+64<cLine):OpR X (compareOp .In) (zSY X.K false):=by
 intro Mi s σ H x y v u Q I rx ry h;obtain⟨d,ds,h1,h2,hn,q⟩:=h;have hd:∀ e∈ds,dep e<=50:=fun e he=>Q5 (uV he) hn
 rcases h2 with h2 | h2
 ·obtain⟨a,xs,rfl,hl,hs⟩:=h2.lstI
  cases ry;obtain⟨its,rv,p,hz⟩:=I.list hl;refine SeqAt.in_listAt (zPi X.K H d) p.isList (fun y hy=>zEm I h1 rx (by show X.A.units+1+50<cLine;omega) hs rv hd y (by simpa using hy)) ?_
  exact⟨.bl _,H,I,by rw[List.any_toArray,zEa I hs rv];rfl,q⟩
 ·obtain⟨a,xs,rfl,hl,hs⟩:=h2.tupI
  cases ry;obtain⟨its,rv,p,hz⟩:=I.tuple hl;refine SeqAt.in_tupleAt (zPi X.K H d) (show s.heap.IsTuple _ its.toArray from p) (fun y hy=>zEm I h1 rx (by show X.A.units+1+50<cLine;omega) hs rv hd y (by simpa using hy)) ?_
  exact⟨.bl _,H,I,by rw[List.any_toArray,zEa I hs rv];rfl,q⟩
theorem zSO{X:Cx}:OpK X (zSY X.K false) oIn:=⟨fun a b c z=>(by
  cases b<;>first | cases z | (simp only[oIn] at z;split at z<;>cases z)),fun Hi H x y a b d Q s r1 r2 z q=>by
  cases b<;>first | cases z | skip
  ·rename_i ds
   simp only[oIn] at z;split at z
   ·rename_i h;cases z;exact⟨a,ds,r1.mono s,.inr (r2.mono s),h,q _ Hi H (Ext.refl s) (.bl _)⟩
   ·cases z
  ·rename_i ds
   simp only[oIn] at z;split at z
   ·rename_i h;cases z;exact⟨a,ds,r1.mono s,.inl (r2.mono s),h,q _ Hi H (Ext.refl s) (.bl _)⟩
   ·cases z⟩
end
end L3
namespace L3
open PySem PySem.Spec PyProof.Rows L2
unseal PEd PEf PTd PWd PAd PSd eX
section
variable{X:Cx}{G:Gx}{a b e:Expr}{es:List Expr}{pos p:Pos}{f g:Ev}{fs gs:Fv}{t u:Tv}{x:Str}{id T:String}
def yX(X:Cx)(r:List V->Hp->VK->Prop)(o:List D->Res D):Prop:=(∀ a c,o a≠.err c)/\∀(Hi H:Hp)(vs:List V)(ds:List D)(d:D)(Q:VK),Same Hi H->IsDs X.K Hi vs ds->o ds=.ok d->
 (∀ v Hi' H',Ext Hi H Hi' H'->IsD X.K Hi' v d->Q v H')->r vs H Q
theorem zQq{r:List V->Hp->VK->Prop}{o:List D->Res D}(k:yX X r o):∀ σ H Q,tD X G (eB o fs) σ H Q->tCB r (tAs X G fs) σ H Q:=fun σ H Q q=>by
 obtain⟨ρ,Hi,R,ou⟩:=q;refine zLI R ou fun vs ds Hi1 H1 e1 R1 r1 o1=>?_
 cases z:o ds with
 | no=>rw[z] at o1;exact o1.elim
 | err c=>exact absurd z (k.1 ds c)
 | ok d=>rw[z] at o1;exact k.2 Hi1 H1 vs ds d Q R1.s r1 z fun v Hi2 H2 e2 r2=>o1 Hi2 H2 e2 v r2
theorem aT{r:List V->Hp->VK->Prop}{o:List D->Res D}(hc:qC X (.builtin id) r)(k:yX X r o)(hg:Gl X x)(hm:X.mg x=none)(hv:bootBuiltins x=some (.builtin id))(ha:PAd X G (e::es) fs)(hn:x ≠ "__name__" := by decide)(hdb:(x==("__debug__" : Str))=false:=by decide)
  (he:starEach (e::es) X.env=(false,eval e X.env)::starEach es X.env:=by rfl) (hpl:(backTo pos (starEach es X.env)).any (·.1)=false:=by rfl):PEd X G (.Call (.Name x p) (e::es) [] pos) (eB o fs):=
 PE.wk (rJ hc hg hm hv ha hn hdb he hpl) (zQq k)
theorem rN{r:List V->Hp->VK->Prop}{o:List D->Res D}(hc:qC X (.type T) r)(k:yX X r o)(hg:Gl X x)(hm:X.mg x=none)(hv:bootBuiltins x=some (.type T))(ha:PAd X G (e::es) fs)(hn:x ≠ "__name__" := by decide)(hdb:(x==("__debug__" : Str))=false:=by decide)
  (he:starEach (e::es) X.env=(false,eval e X.env)::starEach es X.env:=by rfl) (hpl:(backTo pos (starEach es X.env)).any (·.1)=false:=by rfl):PEd X G (.Call (.Name x p) (e::es) [] pos) (eB o fs):=
 PE.wk (zII hc hg hm hv ha hn hdb he hpl) (zQq k)
theorem IsDs.one{K:Fg_}{H:Hp}{vs:List V}{d:D}(h:IsDs K H vs [d]):∃ v,vs=[v]/\IsD K H v d:=by
 cases h with
 | cons h t=>cases t;exact⟨_,rfl,h⟩
theorem IsDs.two{K:Fg_}{H:Hp}{vs:List V}{d d':D}(h:IsDs K H vs [d,d']):∃ v w,vs=[v,w]/\IsD K H v d/\IsD K H w d':=by
 cases h with
 | cons h t=>obtain⟨w,rfl,hw⟩:=t.one;exact⟨_,w,rfl,h,hw⟩
theorem dW:yX X (fun xs H Q=>∃ p ys,xs=[.ref p]/\(SqL X.K H p ys∨SqT X.K H p ys)/\Q (.int ys.length) H) mP:=⟨fun a c z=>(by
  unfold mP at z;split at z<;>cases z),fun Hi H vs ds d Q s r z q=>by
  unfold mP at z;split at z
  ·cases z
   obtain⟨v,rfl,h⟩:=r.one;obtain⟨a,xs,rfl,h1,h2⟩:=h.lstI;refine⟨a,xs,rfl,.inl (dD s h1),?_⟩
   rw[h2.length];exact q _ Hi H (Ext.refl s) (.int _)
  ·cases z
   obtain⟨v,rfl,h⟩:=r.one;obtain⟨a,xs,rfl,h1,h2⟩:=h.tupI;refine⟨a,xs,rfl,.inr (cW s h1),?_⟩
   rw[h2.length];exact q _ Hi H (Ext.refl s) (.int _)
  ·cases z⟩
theorem zGo:yX X (fun xs H Q=>∃ i,xs=[.int i]/\Q (.int (if i<0 then -i else i)) H) zMc:=⟨fun a c z=>(by
  unfold zMc at z;split at z<;>cases z),fun Hi H vs ds d Q s r z q=>by
  unfold zMc at z;split at z
  ·cases z
   obtain⟨v,rfl,h⟩:=r.one;exact⟨_,by rw[h.intI],q _ Hi H (Ext.refl s) (.int _)⟩
  ·cases z⟩
theorem zQI:yX X (fun xs H Q=>∃ i j,xs=[.int i,.int j]/\Q (.int (if j<i then j else i)) H) zPr:=⟨fun a c z=>(by
  unfold zPr at z;split at z<;>cases z),fun Hi H vs ds d Q s r z q=>by
  unfold zPr at z;split at z
  ·cases z
   obtain⟨v,w,rfl,h,h'⟩:=r.two;exact⟨_,_,by rw[h.intI,h'.intI],q _ Hi H (Ext.refl s) (.int _)⟩
  ·cases z⟩
theorem zKk:yX X (fun xs H Q=>∃ p ys,xs=[.ref p]/\((SqL X.K H p ys/\∀ l,H l=none->Q (.ref l) (upd H l (.tup ys)))∨(SqT X.K H p ys/\Q (.ref p) H))) zMD:=⟨fun a c z=>(by
  unfold zMD at z;split at z<;>cases z),fun Hi H vs ds d Q s r z q=>by
  unfold zMD at z;split at z
  ·cases z
   obtain⟨v,rfl,h⟩:=r.one;obtain⟨a,xs,rfl,h1,h2⟩:=h.lstI;exact⟨a,xs,rfl,.inl ⟨dD s h1,fun l hl=>q _ _ _ (Ext.new s hl) (.tup (SqT.of aY) (h2.mono (cX (s.none hl) _)))⟩⟩
  ·cases z
   obtain⟨v,rfl,h⟩:=r.one;obtain⟨a,xs,rfl,h1,h2⟩:=h.tupI;exact⟨a,xs,rfl,.inr ⟨cW s h1,q _ Hi H (Ext.refl s) (.tup h1 h2)⟩⟩
  ·cases z⟩
structure Kit (K:PySem.W.Frag) (T:String):Prop where
 non:PySem.W.kitOne K (.type "NoneType") (.type T)=some (isT T .non)
 bl:PySem.W.kitOne K (.type "bool") (.type T)=some (isT T (.bl true))
 int:PySem.W.kitOne K (.type "int") (.type T)=some (isT T (.int 0))
 str:PySem.W.kitOne K (.type "str") (.type T)=some (isT T (.str ⟨#[]⟩))
 tup:PySem.W.kitOne K (.type "tuple") (.type T)=some (isT T (.tup []))
 lst:PySem.W.kitOne K (.type "list") (.type T)=some (isT T (.lst []))
theorem zPY(k:Kit X.K T):qC X (.builtin "isinstance") (fun xs H Q=>∃ y d,xs=[y,.ty T]/\IsD X.K H y d/\Q (.bl (isT T d)) H):=by
 intro Mi s σ H xs us Q I r h;obtain⟨y,d,rfl,hd,q⟩:=h;obtain⟨u,w',rfl,rx,rc⟩:=zLG r;cases rc;have fin:∀ tk,EP X Mi σ Q (.bool (isT T d)) { s with toks:=tk }:=fun tk=>⟨.bl _,H,I.tok _,rfl,q⟩
 cases hd with
 | non=>cases (show u=Value.none from rx);exact X2 PySem.W.kitx_none I.kIn True.intro k.non (fun z=>nomatch z) fin
 | bl y=>cases (show u=Value.bool y from rx);exact X2 PySem.W.kitx_bool I.kIn True.intro k.bl (fun z=>nomatch z) fin
 | int i=>obtain⟨t,q⟩:=(show ∃ t,u=Value.int i t from rx);cases q;exact X2 PySem.W.kitx_int I.kIn True.intro k.int (fun z=>nomatch z) fin
 | str y=>obtain⟨t,q⟩:=(show ∃ t,u=Value.str y t from rx);cases q;exact X2 PySem.W.kitx_str I.kIn True.intro k.str (fun z=>nomatch z) fin
 | @tup a xs ds h hs=>
  cases (show u=Value.ref a from rx)
  obtain⟨its,rv,⟨o,h1,h2,_⟩,hz⟩:=I.tuple h;exact X2 PySem.W.kitx_tuple I.kIn ⟨o,h1,h2⟩ k.tup (fun z=>nomatch z) fin
 | @lst a xs ds h hs=>
  cases (show u=Value.ref a from rx)
  obtain⟨its,rv,⟨o,n,h1,h2,_⟩,hz⟩:=I.list h;exact X2 PySem.W.kitx_list I.kIn ⟨o,h1,h2⟩ k.lst (fun z=>nomatch z) fin
theorem zFn{c:Expr}(k:Kit X.K T)(hg:Gl X "isinstance")(hm:X.mg "isinstance" = none)(ha:PEd X G a f)(hc:PE X c (tC (.ty T)))
  (h1:starEach [a,c] X.env=(false,eval a X.env)::starEach [c] X.env:=by rfl) (h2:starEach [c] X.env=(false,eval c X.env)::starEach [] X.env:=by rfl) (hpl:(backTo pos (starEach [c] X.env)).any (·.1)=false:=by rfl):
  PEd X G (.Call (.Name "isinstance" p) [a,c] [] pos) (zPj T f):=
 PE.wk (rJ (zPY k) hg hm Ma (gA ha (gA hc nT h2) h1) (by decide) (by decide) h1 hpl) fun σ H Q q=>by
 obtain⟨ρ,Hi,R,ou⟩:=q;refine zEi R ou fun v d Hi1 H1 e1 R1 r1 o1=>?_
 exact⟨v,d,rfl,r1.mono R1.s,o1.here R1.s _ (.bl _)⟩
variable{lo hi:Option Expr}{l h:Ov}{p2:Pos}
def tOv(X:Cx)(G:Gx)(f:Ov):TO:=fun σ H Q=>∃ ρ Hi,lV X G Hi H σ ρ/\Out G Hi H (f ρ) fun o _ H'=>Q o H'
@[irreducible] def POd (X:Cx) (G:Gx) (e:Option Expr) (f:Ov):Prop:=PO X e (tOv X G f)
unseal POd
theorem PO.wk{X:Cx}{e:Option Expr}{t t':TO}(h:PO X e t)(w:∀ σ H Q,t' σ H Q->t σ H Q):PO X e t':=fun Mi s σ H Q I q=>h Mi s σ H Q I (w σ H Q q)
theorem xC:POd X G none oN:=PO.wk zPe fun σ H Q q=>by
 obtain⟨ρ,Hi,R,ou⟩:=q;exact ou.here R.s
theorem lP(he:PEd X G e f):POd X G (some e) (oS f):=PO.wk (zPc he) fun σ H Q q=>by
 obtain⟨ρ,Hi,R,ou⟩:=q;refine zEi R ou fun v d Hi1 H1 e1 R1 r1 o1=>?_
 cases d with
 | int i=>exact⟨i,r1.intI,o1.here R1.s⟩
 | _=>exact o1.elim
theorem zSV{f:Ov}{Hi H:Hp}{σ:St}{ρ:Rho}{β:Type}{k:Option Int->Res β}{k':β->Hp->Hp->Prop}{Q:Option Int->Hp->Prop}(R:lV X G Hi H σ ρ)(o:Out G Hi H ((f ρ).bind k) k')
  (w:∀ c Hi' H',Ext Hi H Hi' H'->lV X G Hi' H' σ ρ->Out G Hi' H' (k c) k'->Q c H'):tOv X G f σ H Q:=
 ⟨ρ,Hi,R,o.bind.imp fun d Hi' H' e q=>w d Hi' H' e (R.grow e) q⟩
theorem zHC(n d:Nat)(i:Option Int):cut n i d=HT.sIx n d i:=by
 cases i with
 | none=>rfl
 | some i=>
  simp only[cut,HT.sIx];split<;>split<;>omega
theorem IsDs.cut{K:Fg_}{H:Hp}{xs:List V}{ds:List D}(h:IsDs K H xs ds)(l r:Option Int):IsDs K H (zPl xs l r) (fY ds l r):=by
 unfold zPl fY;rw[zHC,zHC,h.length];exact(h.drop _).take _
theorem lL(he:PEd X G e f)(hl:POd X G lo l)(hu:POd X G hi h):PEf X G (.Subscript e (.Slice lo hi none p2) pos) (fSl f l h):=PE.wk (zLo zOA he hl hu) fun σ H Q q=>by
 obtain⟨ρ,Hi,R,ou⟩:=q;refine zEi R ou fun v d Hi1 H1 e1 R1 r1 o1=>?_
 refine zSV R1 o1 fun i Hi2 H2 e2 R2 o2=>?_
 refine zSV R2 o2 fun j Hi3 H3 e3 R3 o3=>?_
 cases d with
 | lst ds=>
  obtain⟨a,xs,rfl,h1,h2⟩:=r1.lstI;refine⟨a,xs,rfl,dD (e2.i.trans (e3.i.trans R3.s)) h1,fun p hp=>?_⟩
  exact o3 _ _ (Ext.newF R3.s hp) p ⟨(e1.h.trans (e2.h.trans e3.h)).none hp,R3.s.none hp,_,aY,(h2.cut i j).mono (e2.i.trans e3.i)⟩
 | _=>exact o3.elim
def zSv(K:PySem.W.Frag):R2:=fun x y H Q=>∃ l b xs zs,x=.ref l/\y=.ref b/\SqL K H l xs/\SqL K H b zs/\xs.length+zs.length<=sizeLine/\∀ p,H p=none->Q (.ref p) (upd H p (.lst (xs++zs)))
theorem zOT:OpR X (binaryOp .Add) (zSv X.K):=by
 intro Mi s σ H x y v u Q I rx ry h;obtain⟨l,b,xs,zs,rfl,rfl,hl,hb,hz,q⟩:=h;cases rx;cases ry;obtain⟨its,r,p,_⟩:=I.list hl;obtain⟨its2,r2,p2,_⟩:=I.list hb;obtain⟨⟨cls,dd,data,sl⟩,ho,hc,n,hd⟩:=id p.isList;obtain⟨⟨cls2,dd2,data2,sl2⟩,ho2,hc2,n2,hd2⟩:=id p2.isList;simp only at hc hd hc2 hd2
 subst hc hd hc2 hd2;have hsz:its.toArray.size+its2.toArray.size<=sizeLine:=by rw[Qk,Qk,<-r.length,<-r2.length];exact hz
 have e:its.toArray++its2.toArray=(its++its2).toArray:=by simp
 refine J0 ⟨_,ho,rfl⟩ ⟨_,ho2,rfl⟩ noFill_list_add seq_list_add PySem.F.slot_list_add PySem.F.entry_list_add (PySem.F.args_list_add_2 _ _) (list_addW l b its.toArray its2.toArray n n2 dd dd2 sl sl2 hsz) ⟨ho,ho2,?_⟩
 rw[e];exact⟨.ref _,_,I.lnew (t':=s.toks) (r.append r2) (by rw[Ql];exact hz),rfl,q _ I.fresh⟩
theorem zJH(ha:PEd X G a f)(hb:PEd X G b g):PEf X G (.BinOp a .Add b pos) (zOx f g):=PE.wk (zIA zOT ha hb) fun σ H Q q=>by
 obtain⟨ρ,Hi,R,ou⟩:=q;refine zEi R ou fun v d Hi1 H1 e1 R1 r1 o1=>?_
 refine zEi R1 o1 fun w d' Hi2 H2 e2 R2 r2 o2=>?_
 cases d<;>first | exact o2.elim | skip
 cases d'<;>first | exact o2.elim | skip
 rename_i ds es
 obtain⟨a,xs,rfl,h1,h2⟩:=r1.lstI;obtain⟨b,ys,rfl,h3,h4⟩:=r2.lstI;have o2':Out G Hi2 H2 (if ds.length+es.length<=16777216 then Res.ok (ds++es) else .no) _:=o2;by_cases hz:ds.length+es.length<=16777216
 ·rw[Jk hz] at o2'
  refine⟨a,b,xs,ys,rfl,rfl,dD (e2.i.trans e2.s) h1,dD e2.s h3,by rw[h2.length,h4.length];exact hz,fun p hp=>?_⟩
  exact o2' _ _ (Ext.newF e2.s hp) p ⟨(e1.h.trans e2.h).none hp,e2.s.none hp,_,aY,(h2.mono e2.i).append h4⟩
 ·rw[Jl hz] at o2';exact o2'.elim
end
end L3
namespace L3
open PySem PySem.Spec PyProof.Rows L2
unseal PEd PEf PTd PWd PAd PSd eX POd
section
variable{X:Cx}{G:Gx}{a b e:Expr}{es:List Expr}{pos p:Pos}{f g:Ev}{fs gs:Fv}{t u:Tv}{x:Str}{st:Ji}{rest:List Ji}{sa sb:Sv}
theorem mW{Hi H:Hp}{σ:St}{ρ:Rho}{E:zDG}{α:Type}{r:Res α}{k:α->Res Fl}(R:lV X G Hi H σ ρ)(h:Fin X G Hi E (r.bind k)){Q:α->Hp->Hp->Prop}
  (w:∀ a Hi' H',r=.ok a->Ext Hi H Hi' H'->Fin X G Hi' E (k a)->Q a Hi' H'):Out G Hi H r Q:=by
 cases r with
 | no=>exact h
 | err c=>exact fun Hi' H' e=>h Hi' H' (R.ext.trans e)
 | ok a=>exact fun Hi' H' e=>w a Hi' H' rfl e (Fin.mono (show Fin X G Hi E (k a) from h) e.i)
theorem bG:eX X G [] sNext:=PSs.wk zNY fun E σ H q=>by
 obtain⟨ρ,Hi,R,h⟩:=q;exact h σ Hi H (Same.refl _) R
theorem zQS{E:zDG}{Hi:Hp}{ρ:Rho}(h:Fin X G Hi E (aZ sa sb ρ)):Fin X G Hi { E with nx:=tS X G sb E } (sa ρ):=by
 unfold aZ at h
 cases z:sa ρ with
 | no=>rw[z] at h;exact h
 | err c=>rw[z] at h;exact h
 | ok fl=>
  rw[z] at h
  cases fl with
  | nx ρ'=>exact fun σ' Hi' H' s R'=>⟨ρ',Hi',R',Fin.mono (show Fin X G Hi E (sb ρ') from h) s⟩
  | brk ρ'=>exact h
  | ctn ρ'=>exact h
  | ret r=>cases r<;>exact h
theorem zRj{E:zDG}{σ:St}{H:Hp}(q:tS X G (aZ sa sb) E σ H):tS X G sa { E with nx:=tS X G sb E } σ H:=by
 obtain⟨ρ,Hi,R,h⟩:=q;exact⟨ρ,Hi,R,zQS h⟩
theorem aF(h1:PSd X G st sa)(h2:eX X G rest sb):eX X G (st::rest) (aZ sa sb):=PSs.wk (uR h1 h2) fun _ _ _ q=>zRj q
theorem aK(h1:PSd X G st sa):eX X G [st] sa:=zER h1
theorem mU(he:PEd X G e f)(hs:swapsWith e none pos.line X.env=pure false:=by rfl):PSd X G (.Expr e pos) (sM f):=PS.wk (zAN he hs) fun E σ H q=>by
 obtain⟨ρ,Hi,R,h⟩:=q;exact⟨ρ,Hi,R,mW R h fun d Hi' H' _ e h' v r=>h' σ Hi' H' (Same.refl _) (R.grow e)⟩
theorem bQ(he:PEd X G e f):PSd X G (.Return (some e) pos) (eY f):=PS.wk (zFK he) fun E σ H q=>by
 obtain⟨ρ,Hi,R,h⟩:=q;obtain⟨Hf,s1,R1,fl⟩:=R.frz;refine⟨ρ.map Sl.frz,Hf,R1,mW R1 (Fin.mono h s1) fun d Hi' H' _ e h' v r=>?_⟩
 exact h' v Hi' H' (R1.ext.trans e) r
theorem eH(he:PEf X G e fs):PSd X G (.Return (some e) pos) (iD fs):=PS.wk (zFK he) fun E σ H q=>by
 obtain⟨ρ,Hi,R,h⟩:=q;obtain⟨Hf,s1,R1,fl⟩:=R.frz;refine⟨ρ.map Sl.frz,Hf,R1,mW R1 (Fin.mono h s1) fun ds Hi' H' _ e h' a n=>?_⟩
 obtain⟨n1,n2,xs,n3,n4⟩:=n;exact h' a Hi' H' (R1.ext.trans e) ⟨R1.ext.h.none n1,n2,xs,n3,n4⟩
theorem iA(i:Nat)(he:PE X e (zDE i)):PSd X G (.Return (some e) pos) (gB i):=PS.wk (zFK he) fun E σ H q=>by
 obtain⟨ρ,Hi,R,h⟩:=q;unfold gB at h
 cases z:ρ[i]? with
 | none=>rw[z] at h;exact h.elim
 | some s=>
  rw[z] at h
  cases s with
  | own ds=>
   obtain⟨a,xs,p,h1,h2,h3,h4⟩:=R.slot i _ z;exact⟨.ref a,p,h a Hi H R.ext ⟨h3,h2,xs,h1,h4⟩⟩
  | un=>exact h.elim
  | val d=>exact h.elim
  | exc c=>exact h.elim
  | tab T=>exact h.elim
theorem gI{c:Expr}{as bs:List Ji}(hc:PTd X G c t)(ha:eX X G as sa)(hb:eX X G bs sb):PSd X G (.If c as bs pos) (sIf t sa sb):=PS.wk (zRX hc ha hb) fun E σ H q=>by
 obtain⟨ρ,Hi,R,h⟩:=q;refine⟨ρ,Hi,R,mW R h fun c Hi' H' _ e h'=>?_⟩
 cases c with
 | true=>exact⟨ρ,Hi',R.grow e,h'⟩
 | false=>exact⟨ρ,Hi',R.grow e,h'⟩
theorem bD{i:Nat}{pos':Pos}(hN:X.N.Nodup)(hi:X.N[i]?=some x)(hx:Loc X.env.scope x)(he:PEd X G e f)(hs:swapsWith e (some (.Name x pos')) pos.line X.env=pure false:=by rfl)
  (hf:X.fn x=true∨X.env.scope.names.lookup x=some .local:=by first | exact .inl rfl | exact .inr rfl | assumption):PSd X G (.Assign [.Name x pos'] e pos) (cT i f):=PS.wk (zLR hN hi hx he hs hf) fun E σ H q=>by
 obtain⟨ρ,Hi,R,h⟩:=q;exact⟨ρ,Hi,R,mW R h fun d Hi' H' _ e h' v r=>h' _ Hi' H' (Same.refl _) ((R.grow e).set r)⟩
theorem pI{i:Nat}{pos':Pos}(hN:X.N.Nodup)(hi:X.N[i]?=some x)(hx:Loc X.env.scope x)(he:PEf X G e fs)(hs:swapsWith e (some (.Name x pos')) pos.line X.env=pure false:=by rfl)
  (hf:X.fn x=true∨X.env.scope.names.lookup x=some .local:=by first | exact .inl rfl | exact .inr rfl | assumption):PSd X G (.Assign [.Name x pos'] e pos) (zAM i fs):=PS.wk (zLR hN hi hx he hs hf) fun E σ H q=>by
 obtain⟨ρ,Hi,R,h⟩:=q;refine⟨ρ,Hi,R,mW R h fun ds Hi' H' _ e h' a n=>?_⟩
 obtain⟨n1,n2,xs,n3,n4⟩:=n;exact h' _ Hi' H' (Same.refl _) (R.setOwn e n1 n3 n2 n4)
theorem zBL{i:Nat}{o:Expr}{apos cpos:Pos}(ho:PE X o (zDE i))(he:PEd X G e f)
  (hbase:attributeBase o "append" X.env (eval o X.env)=eval o X.env:=by rfl)
  (hfew:((backTo cpos (starEach [e] X.env)).all (fun x=>!x.1) && (backToKw cpos (keywordEach [] X.env)).all (fun x=>x.1.isSome)
   && decide ([e].length+([]:List Keyword).length+(if ([]:List Keyword).isEmpty then 0 else 1)<30))=true:=by rfl)
  (hline:(apos.endLine==cpos.line)=true:=by rfl) (hs:starEach [e] X.env=(false,eval e X.env)::starEach [] X.env:=by rfl)
  (hsw:swapsWith (.Call (.Attribute o "append" apos) [e] [] cpos) none pos.line X.env=pure false:=by rfl):
  PSd X G (.Expr (.Call (.Attribute o "append" apos) [e] [] cpos) pos) (zHm i f):=
 PS.wk (zAN (zQr Wc PySem.F.slot_list_append PySem.F.type_list_append xA ho (gA he nT hs) hbase hfew hline hs) hsw) fun E σ H q=>by
 obtain⟨ρ,Hi,R,h⟩:=q;unfold zHm at h
 cases z:ρ[i]? with
 | none=>rw[z] at h;exact h.elim
 | some s=>
  rw[z] at h
  cases s with
  | own ds=>
   obtain⟨a,xs,p,h1,h2,h3,h4⟩:=R.slot i _ z;refine⟨.ref a,p,.inl ⟨rfl,xs,SqL.of h1⟩,?_⟩
   refine⟨ρ,Hi,R,mW R h fun d Hi' H' _ e h' v r=>?_⟩
   have R':=R.grow e;obtain⟨g1,g2⟩:=e.out h1 h2;by_cases hz:ds.length<16777216
   ·rw[Jk hz] at h'
    refine⟨a,xs,v,rfl,rfl,g1,by rw[h4.length];exact hz,?_⟩
    exact h' σ Hi' _ (Same.refl _) (R'.write z p ((h4.mono e.i).append (.cons r .nil)))
   ·rw[Jl hz] at h';exact h'.elim
  | un=>exact h.elim
  | val d=>exact h.elim
  | exc c=>exact h.elim
  | tab T=>exact h.elim
theorem zRO{i:Nat}{o:Expr}{apos cpos:Pos}(ho:PE X o (zDE i))
  (hbase:attributeBase o "pop" X.env (eval o X.env)=eval o X.env:=by rfl) (hline:(apos.endLine==cpos.line)=true:=by rfl)
  (hsw:swapsWith (.Call (.Attribute o "pop" apos) [] [] cpos) none pos.line X.env=pure false:=by rfl):
  PSd X G (.Expr (.Call (.Attribute o "pop" apos) [] [] cpos) pos) (zPG i):=
 PS.wk (zAN (zRc Wc PySem.F.slot_list_pop PySem.F.type_list_pop zQm ho hbase hline) hsw) fun E σ H q=>by
 obtain⟨ρ,Hi,R,h⟩:=q;unfold zPG at h
 cases z:ρ[i]? with
 | none=>rw[z] at h;exact h.elim
 | some s=>
  rw[z] at h
  cases s with
  | own ds=>
   obtain⟨a,xs,p,h1,h2,h3,h4⟩:=R.slot i _ z;refine⟨.ref a,p,.inl ⟨rfl,xs,SqL.of h1⟩,?_⟩
   have h:Fin X G Hi E (if ds.length=0 then Res.no else Res.ok (Fl.nx (ρ.set i (.own ds.dropLast)))):=h;by_cases hz:ds.length=0
   ·rw[Jk hz] at h;exact h.elim
   ·rw[Jl hz] at h
    have hl:=h4.length;refine⟨a,xs,xs[xs.length-1]'(by omega),rfl,rfl,h1,Qo (by omega),?_⟩
    exact h σ Hi _ (Same.refl _) (R.write z p h4.dropLast)
  | un=>exact h.elim
  | val d=>exact h.elim
  | exc c=>exact h.elim
  | tab T=>exact h.elim
theorem zHO{i:Nat}{o:Expr}{apos cpos:Pos}(ho:PE X o (zDE i))(he:PEf X G e fs)
  (hbase:attributeBase o "extend" X.env (eval o X.env)=eval o X.env:=by rfl)
  (hfew:((backTo cpos (starEach [e] X.env)).all (fun x=>!x.1) && (backToKw cpos (keywordEach [] X.env)).all (fun x=>x.1.isSome)
   && decide ([e].length+([]:List Keyword).length+(if ([]:List Keyword).isEmpty then 0 else 1)<30))=true:=by rfl)
  (hline:(apos.endLine==cpos.line)=true:=by rfl) (hs:starEach [e] X.env=(false,eval e X.env)::starEach [] X.env:=by rfl)
  (hsw:swapsWith (.Call (.Attribute o "extend" apos) [e] [] cpos) none pos.line X.env=pure false:=by rfl):
  PSd X G (.Expr (.Call (.Attribute o "extend" apos) [e] [] cpos) pos) (zKV i fs):=
 PS.wk (zAN (zQr Wc PySem.F.slot_list_extend PySem.F.type_list_extend zHu ho (gA he nT hs) hbase hfew hline hs) hsw) fun E σ H q=>by
 obtain⟨ρ,Hi,R,h⟩:=q;unfold zKV at h
 cases z:ρ[i]? with
 | none=>rw[z] at h;exact h.elim
 | some s=>
  rw[z] at h
  cases s with
  | own ds=>
   obtain⟨a,xs,p,h1,h2,h3,h4⟩:=R.slot i _ z;refine⟨.ref a,p,.inl ⟨rfl,xs,SqL.of h1⟩,?_⟩
   refine⟨ρ,Hi,R,mW R h fun es Hi' H' _ e h' b n=>?_⟩
   obtain⟨n1,n2,ys,n3,n4⟩:=n;have R':=R.grow e;obtain⟨g1,g2⟩:=e.out h1 h2;by_cases hz:ds.length+es.length<=16777216
   ·rw[Jk hz] at h'
    refine⟨a,b,xs,ys,rfl,rfl,g1,n3,by rw[h4.length,n4.length];exact hz,?_⟩
    exact h' σ Hi' _ (Same.refl _) (R'.write z p ((h4.mono e.i).append n4))
   ·rw[Jl hz] at h';exact h'.elim
  | un=>exact h.elim
  | val d=>exact h.elim
  | exc c=>exact h.elim
  | tab T=>exact h.elim
theorem zSE{i:Nat}{o k:Expr}{fk:Ev}{tpos:Pos}(ho:PE X o (zDE i))(hk:PEd X G k fk)(he:PEd X G e f)(hs:swapsWithSole [.Subscript o k tpos] e pos.line X.env=pure false:=by rfl)(hw:swappedStores [.Subscript o k tpos] e X.env=pure none:=by rfl)
  (h1:(assignEach [.Subscript o k tpos] X.env).map (·.2)=[assign (.Subscript o k tpos) X.env]:=by rfl)
  (ha:∀ v,assign (.Subscript o k tpos) X.env v=(do
   let ov <-holding [v] (eval o X.env)
   let iv <-holding [v,ov] (eval k X.env)
   standAt tpos
   holding [v,ov,iv] (setItem ov iv v)
   release [v,ov,iv] []):=by intro _;rfl):PSd X G (.Assign [.Subscript o k tpos] e pos) (zRG i fk f):=
 PS.wk (zMg he (zPq ho hk zLa ha) hs hw h1) fun E σ H q=>by
 obtain⟨ρ,Hi,R,h⟩:=q;refine⟨ρ,Hi,R,mW R h fun d Hi1 H1 _ e1 h1 v r=>?_⟩
 have R1:=R.grow e1
 cases z:ρ[i]? with
 | none=>rw[z] at h1;exact h1.elim
 | some s=>
  rw[z] at h1
  cases s with
  | own ds=>
   obtain⟨a,xs,p,g1,g2,g3,g4⟩:=R1.slot i _ z;refine⟨.ref a,p,?_⟩
   refine⟨ρ,Hi1,R1,mW R1 h1 fun j Hi2 H2 _ e2 h2 w rw'=>?_⟩
   have R2:=R1.grow e2;obtain⟨k1,k2⟩:=e2.out g1 g2
   cases j with
   | int j=>
    have hl:=g4.length;have h2':Fin X G Hi2 E (if 0<=j/\j<ds.length then Res.ok (.nx (ρ.set i (.own (ds.set j.toNat d)))) else if -(ds.length:Int)<=j/\j<0 then .ok (.nx (ρ.set i (.own (ds.set (j+ds.length).toNat d)))) else .no):=h2;by_cases c1:0<=j/\j<ds.length
    ·rw[Jk c1] at h2'
     refine⟨a,xs,j,j.toNat,rfl,rw'.intI,k1,by unfold ixN;rw[Jk c1.1,Jk (by omega)],?_⟩
     exact h2' σ Hi2 _ (Same.refl _) (R2.write z p ((g4.mono e2.i).set (r.mono e2.i) j.toNat))
    ·rw[Jl c1] at h2'
     by_cases c2:-(ds.length:Int)<=j/\j<0
     ·rw[Jk c2] at h2'
      refine⟨a,xs,j,(j+ds.length).toNat,rfl,rw'.intI,k1,by unfold ixN;rw[Jl (by omega),Jk (by omega),hl],?_⟩
      exact h2' σ Hi2 _ (Same.refl _) (R2.write z p ((g4.mono e2.i).set (r.mono e2.i) (j+ds.length).toNat))
     ·rw[Jl c2] at h2';exact h2'.elim
   | _=>exact h2.elim
  | un=>exact h1.elim
  | val d=>exact h1.elim
  | exc c=>exact h1.elim
  | tab T=>exact h1.elim
theorem zGD{i:Nat}{op:Operator}{o:Op2}{r:Int->Int->Int}{pos':Pos}(hN:X.N.Nodup)(hi:X.N[i]?=some x)(hx:Loc X.env.scope x)(he:PEd X G e f)(ho:PIp X op (ipI r))(hr:∀ a b d,o a b=.ok d->∃ i j,a=.int i/\b=.int j/\d=.int (r i j))(hn:∀ a b c,o a b≠.err c)
  (hf:X.fn x=true∨X.env.scope.names.lookup x=some .local:=by first | exact .inl rfl | exact .inr rfl | assumption):PSd X G (.AugAssign (.Name x pos') op e pos) (zKu i o f):=PS.wk (zPK hN hi hx he ho hf) fun E σ H q=>by
 obtain⟨ρ,Hi,R,h⟩:=q;unfold zKu at h
 cases z:ρ[i]? with
 | none=>rw[z] at h;exact h.elim
 | some s=>
  rw[z] at h
  cases s with
  | val d=>
   obtain⟨v,p,rv⟩:=R.slot i _ z;refine⟨v,p,ρ,Hi,R,mW R h fun d' Hi' H' _ e h' w rw'=>?_⟩
   cases q:o d d' with
   | no=>rw[q] at h';exact h'.elim
   | err c=>exact absurd q (hn _ _ _)
   | ok u=>
    rw[q] at h';obtain⟨i',j',rfl,rfl,rfl⟩:=hr _ _ _ q;exact⟨i',j',rv.intI,rw'.intI,h' _ Hi' H' (Same.refl _) ((R.grow e).set (.int _))⟩
  | un=>exact h.elim
  | own ds=>exact h.elim
  | exc c=>exact h.elim
  | tab T=>exact h.elim
theorem eX.frzAt(i:Nat){sts:List Ji}(h:eX X G sts sa):eX X G sts (sFrzAt i sa):=PSs.wk h fun E σ H q=>by
 obtain⟨ρ,Hi,R,h⟩:=q;obtain⟨Hi',s,R'⟩:=R.frzAt (i:=i);exact⟨_,Hi',R',Fin.mono h s⟩
def tGv(X:Cx)(G:Gx)(g:Gv):TG:=fun v σ H Q=>∃ d ρ Hi,IsD X.K Hi v d/\lV X G Hi H σ ρ/\∃ ρ',g d ρ=.ok ρ'/\∀ σ' Hi' H',Same Hi Hi'->lV X G Hi' H' σ' ρ'->Q σ' H'
@[irreducible] def PGd (X:Cx) (G:Gx) (e:Expr) (g:Gv):Prop:=PG X e (tGv X G g)
unseal PGd
theorem eO{i:Nat}(hN:X.N.Nodup)(hi:X.N[i]?=some x)(hx:Loc X.env.scope x)(hf:X.fn x=true∨X.env.scope.names.lookup x=some .local:=by first | exact .inl rfl | exact .inr rfl | assumption):PGd X G (.Name x pos) (gName i):=
 fun Mi s σ H v u Q I r q=>zDS hN hi hx hf Mi s σ H v u Q I r (by
  obtain⟨d,ρ,Hi,rd,R,ρ',e,k⟩:=q;cases e
  exact k _ Hi H (Same.refl _) (R.set rd))
def zTv(X:Cx)(G:Gx)(g:List D->Rho->Res Rho):TGs:=fun vs σ H Q=>∃ ds ρ Hi,IsDs X.K Hi vs ds/\lV X G Hi H σ ρ/\∃ ρ',g ds ρ=.ok ρ'/\∀ σ' Hi' H',Same Hi Hi'->lV X G Hi' H' σ' ρ'->Q σ' H'
@[irreducible] def jV (X:Cx) (G:Gx) (es:List Expr) (g:List D->Rho->Res Rho):Prop:=PGs X es (zTv X G g)
unseal jV
theorem zID:jV X G [] zHp:=fun Mi s σ H vs us Q I r q=>zIh Mi s σ H vs us Q I r (by
  obtain⟨ds,ρ,Hi,rd,R,ρ',e,k⟩:=q
  cases ds with
  | nil=>cases rd;cases e;exact⟨rfl,k _ Hi H (Same.refl _) R⟩
  | cons d ds=>cases e)
theorem sB{g:Gv}{r:List D->Rho->Res Rho}(h1:PGd X G e g)(h2:jV X G es r)(hs:(assignEach (e::es) X.env).map (·.2)=assign e X.env::(assignEach es X.env).map (·.2):=by rfl):jV X G (e::es) (mO g r):=
 fun Mi s σ H vs us Q I rr q=>zAD h1 h2 hs Mi s σ H vs us Q I rr (by
  obtain⟨ds,ρ,Hi,rd,R,ρ',e,k⟩:=q
  cases ds with
  | nil=>cases e
  | cons d ds=>
   cases rd with
   | cons rd rds=>
    refine⟨_,_,rfl,d,ρ,Hi,rd,R,?_⟩
    have e':(g d ρ).bind (fun ρ'=>r ds ρ')=.ok ρ':=e
    cases z:g d ρ with
    | no=>rw[z] at e';cases e'
    | err c=>rw[z] at e';cases e'
    | ok ρ1=>
     rw[z] at e'
     exact⟨ρ1,rfl,fun σ1 Hi1 H1 s1 R1=>⟨ds,ρ1,Hi1,rds.mono s1,R1,ρ',e',fun σ2 Hi2 H2 s2 R2=>k σ2 Hi2 H2 (s1.trans s2) R2⟩⟩)
theorem zOk{k:Nat}{r:List D->Rho->Res Rho}{n:Nat}(hc:X.calm=true)(h:jV X G es r)(hr:∀ ds ρ ρ',r ds ρ=.ok ρ'->ds.length=n)(hn:(assignEach es X.env).length=n:=by rfl)(hst:(assignEach es X.env).findIdx? (·.1)=none:=by rfl):PGd X G (.Tuple es k pos) (zHq r):=
 fun Mi s σ H v u Q I rr q=>zMv hc h hn hst Mi s σ H v u Q I rr (by
  obtain⟨d,ρ,Hi,rd,R,ρ',e,kk⟩:=q
  cases d with
  | tup ds=>
   obtain⟨a,xs,rfl,h1,h2⟩:=rd.tupI;exact⟨a,xs,rfl,cW R.s h1,by rw[h2.length];exact hr ds ρ ρ' e,ds,ρ,Hi,h2,R,ρ',e,kk⟩
  | _=>cases e)
theorem zSL{tg:Expr}{g:Gv}(he:PEd X G e f)(hg:PGd X G tg g)(hge:∀ d ρ c,g d ρ≠.err c)(hs:swapsWithSole [tg] e pos.line X.env=pure false:=by rfl)(hw:swappedStores [tg] e X.env=pure none:=by rfl)
  (h1:(assignEach [tg] X.env).map (·.2)=[assign tg X.env]:=by rfl):PSd X G (.Assign [tg] e pos) (zSf g f):=PS.wk (zMg he hg hs hw h1) fun E σ H q=>by
 obtain⟨ρ,Hi,R,h⟩:=q;refine⟨ρ,Hi,R,mW R h fun d Hi1 H1 _ e1 h1 v r=>?_⟩
 cases z:g d ρ with
 | no=>rw[z] at h1;exact h1.elim
 | err c=>exact absurd z (hge _ _ _)
 | ok ρ'=>rw[z] at h1;exact⟨d,ρ,Hi1,r,R.grow e1,ρ',z,fun σ' Hi' H' s R'=>h1 σ' Hi' H' s R'⟩
def xJ(K:PySem.W.Frag)(Hi:Hp)(J:It)(ds:List D):Prop:=∀(Hi1 H1:Hp),Same Hi Hi1->Same Hi1 H1->∀ i,
 (ds.length<=i->J.stop i H1)/\∀ d,ds[i]?=some d->J.go i H1/\∀ x H2,J.yld i H1 x H2->∃ Hi2,Ext Hi1 H1 Hi2 H2/\IsD K Hi2 x d
def tIv(X:Cx)(G:Gx)(f:Fv):TI:=fun σ H R=>∃ ρ Hi,lV X G Hi H σ ρ/\Out G Hi H (f ρ) fun ds Hi' H'=>∀ J,xJ X.K Hi' J ds->R J H'
@[irreducible] def PId (X:Cx) (G:Gx) (tg e:Expr) (f:Fv):Prop:=PI X tg e (tIv X G f)
unseal PId
theorem PI.wk{tg:Expr}{t t':TI}(h:PI X tg e t)(w:∀ σ H Q,t' σ H Q->t σ H Q):PI X tg e t':=fun Mi s σ H Q I q=>h Mi s σ H Q I (w σ H Q q)
theorem zLX{g:Gv}{J:It}{ds:List D}{Hi1 H1:Hp}{σ:St}{ρ:Rho}{E:zDG}(hge:∀ d ρ c,g d ρ≠.err c)(R1:lV X G Hi1 H1 σ ρ)(h1:Fin X G Hi1 E (iC g sa ds ρ))(gv:xJ X.K Hi1 J ds):zTg (fun _ _ R=>R J H1) (tGv X G g) (tS X G sa) E σ H1:=by
 refine⟨fun i m σ' H'=>m=ds.length-i/\∃ ρ' Hi',Same Hi1 Hi'/\lV X G Hi' H' σ' ρ'/\Fin X G Hi' E (iC g sa (ds.drop i) ρ'),⟨_,rfl,ρ,Hi1,Same.refl _,R1,h1⟩,?_⟩
 rintro i m σ' H' ⟨rfl,ρ',Hi',s',R',h'⟩
 obtain⟨w1,w2⟩:=gv Hi' H' s' R'.s i;by_cases hl:i<ds.length
 ·obtain⟨d,hd⟩:∃ d,ds[i]?=some d:=⟨_,Qo hl⟩
  obtain⟨go,yl⟩:=w2 d hd
  have e3:ds.drop i=d::ds.drop (i+1):=by
   rw[Qo hl] at hd;cases hd;exact Wd hl
  rw[e3] at h';refine .inr ⟨go,fun σ2 H2=>∃ ρ2 Hi2,Same Hi1 Hi2/\lV X G Hi2 H2 σ2 ρ2/\Fin X G Hi2 E (iC g sa (ds.drop (i+1)) ρ2),fun σ2 H2 z=>⟨ds.length-(i+1),by omega,rfl,z⟩,fun x H2 y=>?_⟩
  obtain⟨Hi2,e2,r2⟩:=yl x H2 y;have R2:=R'.grow e2
  have h2:Fin X G Hi2 E ((g d ρ').bind fun ρ1=>(sa ρ1).bind fun f=>match f with
   | .nx ρ2=>iC g sa (ds.drop (i+1)) ρ2
   | .ctn ρ2=>iC g sa (ds.drop (i+1)) ρ2
   | .brk ρ2=>.ok (.nx ρ2)
   | .ret r=>.ok (.ret r)):=Fin.mono h' e2.i
  cases z:g d ρ' with
  | no=>rw[z] at h2;exact h2.elim
  | err c=>exact absurd z (hge _ _ _)
  | ok ρ1=>
   rw[z] at h2;refine⟨d,ρ',Hi2,r2,R2,ρ1,z,fun σ3 Hi3 H3 s3 R3=>⟨ρ1,Hi3,R3,?_⟩⟩
   have h3:=Fin.mono h2 s3;have sm:Same Hi1 Hi3:=(s'.trans e2.i).trans s3;simp only[Res.bind] at h3
   cases zb:sa ρ1 with
   | no=>rw[zb] at h3;exact h3.elim
   | err c=>rw[zb] at h3;exact h3
   | ok fl=>
    rw[zb] at h3
    cases fl with
    | nx ρ2=>exact fun σ4 Hi4 H4 s4 R4=>⟨ρ2,Hi4,sm.trans s4,R4,Fin.mono (show Fin X G Hi3 E (iC g sa (ds.drop (i+1)) ρ2) from h3) s4⟩
    | ctn ρ2=>exact fun σ4 Hi4 H4 s4 R4=>⟨ρ2,Hi4,sm.trans s4,R4,Fin.mono (show Fin X G Hi3 E (iC g sa (ds.drop (i+1)) ρ2) from h3) s4⟩
    | brk ρ2=>exact h3
    | ret r=>cases r<;>exact h3
 ·rw[Yv (by omega)] at h'
  exact .inl ⟨w1 (by omega),h' σ' Hi' H' (Same.refl _) R'⟩
theorem nG{tg iter:Expr}{body:List Ji}{it:Fv}{g:Gv}(hp:PassesOwn (model X.prog X.w) X.A X.env X.xe)(hc:X.calm=true)(hi:PId X G tg iter it)(hg:PGd X G tg g)(hge:∀ d ρ c,g d ρ≠.err c)(hb:eX X G body sa)
  (hs:∀ x,foldedSetIterable iter X.env x=pure x:=by intro _;rfl):PSd X G (.For tg iter body [] pos) (zAW it g sa):=PS.wk (zMk hp hc hi hg hb hs) fun E σ H q=>by
 obtain⟨ρ,Hi,R,h⟩:=q;exact⟨ρ,Hi,R,mW R h fun ds Hi1 H1 _ e1 h1 J gv=>zLX hge (R.grow e1) h1 gv⟩
theorem zAn{c:Expr}{body:List Ji}(hp:PassesOwn (model X.prog X.w) X.A X.env X.xe)(hc:PTd X G c t)(hb:eX X G body sa):PSd X G (.While c body [] pos) (fB t sa):=PS.wk (zLb hp hc hb) fun E σ H q=>by
 obtain⟨ρ,Hi,R,h⟩:=q;have hn:fB t sa ρ≠.no:=fun z=>by rw[z] at h;exact h
 obtain⟨n,en⟩:=pZ hn;rw[en] at h;refine⟨fun m σ' H'=>∃ ρ' Hi',Same Hi Hi'/\lV X G Hi' H' σ' ρ'/\Fin X G Hi' E (wh t sa m ρ'),⟨n,ρ,Hi,Same.refl _,R,h⟩,?_⟩
 rintro m σ' H' ⟨ρ',Hi',s',R',h'⟩
 cases m with
 | zero=>exact h'.elim
 | succ m=>
  rw[wh] at h';refine⟨ρ',Hi',R',mW R' h' fun c Hi1 H1 _ e1 h1=>?_⟩
  have R1:=R'.grow e1
  cases c with
  | false=>exact h1 σ' Hi1 H1 (Same.refl _) R1
  | true=>
   refine⟨fun σ2 H2=>∃ ρ2 Hi2,Same Hi Hi2/\lV X G Hi2 H2 σ2 ρ2/\Fin X G Hi2 E (wh t sa m ρ2),fun σ2 H2 z=>⟨m,by omega,z⟩,ρ',Hi1,R1,?_⟩
   have sm:Same Hi Hi1:=s'.trans e1.i;simp only[if_true] at h1
   cases zb:sa ρ' with
   | no=>rw[zb] at h1;exact h1.elim
   | err c=>rw[zb] at h1;exact h1
   | ok fl=>
    rw[zb] at h1
    cases fl with
    | nx ρ2=>exact fun σ4 Hi4 H4 s4 R4=>⟨ρ2,Hi4,sm.trans s4,R4,Fin.mono (show Fin X G Hi1 E (wh t sa m ρ2) from h1) s4⟩
    | ctn ρ2=>exact fun σ4 Hi4 H4 s4 R4=>⟨ρ2,Hi4,sm.trans s4,R4,Fin.mono (show Fin X G Hi1 E (wh t sa m ρ2) from h1) s4⟩
    | brk ρ2=>exact h1
    | ret r=>cases r<;>exact h1
theorem zKi{K:Fg_}{Hi:Hp}{a:Jc}{xs:List V}{ds:List D}(h:SqT K Hi a xs)(hs:IsDs K Hi xs ds):xJ K Hi (Itt K a) ds:=fun Hi1 H1 s1 s2 i=>by
 have h1:=cW (s1.trans s2) h;refine⟨fun hl=>⟨xs,h1,by rw[hs.length];exact hl⟩,fun d hd=>?_⟩
 obtain⟨v,hv,r⟩:=hs.at hd;refine⟨⟨xs,v,h1,hv⟩,fun x H2 y=>?_⟩
 obtain⟨e,y⟩:=y;subst e;have:=y xs h1
 rw[hv] at this;cases this;exact⟨Hi1,Ext.refl s2,r.mono s1⟩
theorem zNk{lo c:Int}{n i:Nat}{d:D}(h:(rng lo n c)[i]?=some d):i<n/\d=.int (lo+(i:Int)*c):=by
 unfold rng at h;rw[Qs] at h;by_cases hl:i<n
 ·rw[V7 hl] at h;cases h;exact⟨hl,rfl⟩
 ·rw[Qz (by rw[Q3];omega)] at h;cases h
theorem zOZ(lo c:Int)(n:Nat):(rng lo n c).length=n:=by unfold rng;rw[Qg,Q3]
theorem zCZ{K:Fg_}{Hi:Hp}(lo:Int)(n:Nat):xJ K Hi (Itr lo n) (rng lo n 1):=fun Hi1 H1 s1 s2 i=>by
 refine⟨fun hl=>by rw[zOZ] at hl;exact hl,fun d hd=>?_⟩
 obtain⟨h1,rfl⟩:=zNk hd;refine⟨h1,fun x H2 y=>?_⟩
 obtain⟨e,y⟩:=y;subst e y;rw[Vt];exact⟨Hi1,Ext.refl s2,.int _⟩
theorem zHs{tg:Expr}(hg:Gl X "range")(hm:X.mg "range" = none)(ha:PAd X G [a] fs)(hs:starEach [a] X.env=[(false,eval a X.env)]:=by rfl):PId X G tg (.Call (.Name "range" p) [a] [] pos) (zDT fs):=PI.wk (zIy hg hm ha hs) fun σ H Q q=>by
 obtain⟨ρ,Hi,R,ou⟩:=q;refine zLI R ou fun vs ds Hi1 H1 e1 R1 r1 o1=>?_
 split at o1
 ·rename_i j
  obtain⟨v,rfl,h⟩:=r1.one;by_cases hz:-(2^62)<=j/\j<2^62
  ·rw[Jk hz] at o1
   exact⟨j,by rw[h.intI],hz.1,hz.2,o1.here R1.s _ (zCZ 0 j.toNat)⟩
  ·rw[Jl hz] at o1;exact o1.elim
 ·exact o1.elim
theorem zPW{tg:Expr}(hg:Gl X "range")(hm:X.mg "range" = none)(ha:PAd X G [a,b] fs)(hs:starEach [a,b] X.env=[(false,eval a X.env),(false,eval b X.env)]:=by rfl)(hs2:starEach [b] X.env=[(false,eval b X.env)]:=by rfl):PId X G tg (.Call (.Name "range" p) [a,b] [] pos) (zIw fs):=PI.wk (zHy hg hm ha hs hs2) fun σ H Q q=>by
 obtain⟨ρ,Hi,R,ou⟩:=q;refine zLI R ou fun vs ds Hi1 H1 e1 R1 r1 o1=>?_
 split at o1
 ·rename_i i j
  obtain⟨v,w,rfl,h,h'⟩:=r1.two;by_cases hz:-(2^62)<=i/\i<2^62/\-(2^62)<=j/\j<2^62
  ·rw[Jk hz] at o1
   exact⟨i,j,by rw[h.intI,h'.intI],hz,o1.here R1.s _ (zCZ i (j-i).toNat)⟩
  ·rw[Jl hz] at o1;exact o1.elim
 ·exact o1.elim
end
end L3
namespace L3
open PySem PySem.Spec PyProof.Rows L2
unseal PEd PEf PTd PWd PAd PSd eX POd PGd jV PId
structure Fn (K:PySem.W.Frag) (mg:Str->Option Ja) (x:Str) (st:Ji) (ps:List Str) (f:Jc) (fd:FuncData):Prop where
 fn:Fun K x x st f fd
 bd:zCD K fd ps []
 kp:PySem.W.keepIn K (.ref f)=true
 mg:mg x=some (.ref f)
def XE(X:Cx)(G:Gx):XK:=fun cls _ H=>∃ c,X.mg c=some cls/\G.E c H
def rE(K:PySem.W.Frag)(mg:Str->Option Ja)(P:Jc):Prop:=∃ f oc od fd osl c,mg "ranked" = some (.ref f)/\K.lookup f=some ⟨oc,od,.func fd,osl⟩/\fd.code=.ref c/\∀ h,K.In h->PySem.W.CodeHd h c P
def TB(K:PySem.W.Frag)(mg:Str->Option Ja)(Hi H:Hp):Prop:=∀ P,rE K mg P->zDB P H/\Hi P=none
theorem TB.ext{K:Fg_}{mg:Str->Option Ja}{Hi H Hi' H':Hp}(t:TB K mg Hi H)(e:Ext Hi H Hi' H'):TB K mg Hi' H':=fun P h=>⟨e.h.t P (t P h).1,by
 cases z:Hi' P with
 | none=>rfl
 | some o=>
  obtain⟨⟨ps,q,_⟩,n⟩:=t P h;have:=e.n P n (by rw[z];exact fun w=>by cases w)
  rw[q] at this;cases this⟩
structure Good (X:Cx) (G:Gx) (k:Nat):Prop where
 calm:X.calm=true
 room:Room k X.A
 pass:zFD (CX1 X.prog X.w) X (XE X G)
 own:PassesOwn (model X.prog X.w) X.A X.env X.xe
 tb:TB X.K X.mg G.Bi G.B
def zJb(X:Cx)(G:Gx):Prop:=∀(Mi:List (Jc×Obj))(σ:St)(H:Hp)(s s':Jb)(ea:Jc)(cls:Ja)(vs:List Ja),Inv X Mi σ H s->Heap.MadeExcOf s.heap s'.heap ea cls vs->s'.os=s.os->AllBare s'.gens->XE X G cls none H->X.xe (.ref ea) s'
def spM(K:PySem.W.Frag)(mg:Str->Option Ja)(p:Nat)(m:Mir):Sp:=fun vs H Q E=>vs.length=p/\∃ Bi ds,TB K mg Bi H/\Same Bi H/\IsDs K Bi vs ds/\match m ds with
 | .ok (.v d)=>∀ v Hi' H',Ext Bi H Hi' H'->IsD K Hi' v d->Q v H'
 | .ok (.f es)=>∀ a Hi' H',Ext Bi H Hi' H'->zLf K H Hi' H' a es->Q (.ref a) H'
 | .err c=>∀ C,mg c=some C->∀ Hi' H',Ext Bi H Hi' H'->E C none H'
 | .no=>False
structure CanM (P:Jf) (w:Jg) (K:PySem.W.Frag) (mg:Str->Option Ja) (base:Je) (k:Nat) (x:Str) (ps:List Str) (m:Mir):Prop where
 ex:∃ f fd,FnOk P w K mg base (CX1 P w) k f fd ps (spM K mg ps.length m)/\zCD K fd ps []/\PySem.W.keepIn K (.ref f)=true/\mg x=some (.ref f)
 ln:∀ ds,m ds≠.no->ds.length=ps.length
theorem Good.u{X:Cx}{G:Gx}{k:Nat}(W:Good X G k):X.A.units+64<cLine:=W.room.units
theorem CanM.mono{P:Jf}{w:Jg}{K:Fg_}{mg:Str->Option Ja}{base:Je}{j k:Nat}{x:Str}{ps:List Str}{m:Mir}(c:CanM P w K mg base j x ps m)(h:j<=k):CanM P w K mg base k x ps m:=by
 obtain⟨⟨f,fd,F,r⟩,l⟩:=c;exact⟨⟨f,fd,F.mono h,r⟩,l⟩
section
variable{X:Cx}{G:Gx}{a b e:Expr}{es:List Expr}{pos p:Pos}{f g:Ev}{fs gs:Fv}{t u:Tv}{x:Str}{st:Ji}{rest:List Ji}{sa sb:Sv}{k:Nat}{ps:List Str}{m:Mir}
theorem zQi{ps:List Str}(tb:TB X.K X.mg G.Bi G.B)(ln:∀ ds,m ds≠.no->ds.length=ps.length):∀ σ H Q,tD X G (aN m fs) σ H Q->zNL (spM X.K X.mg ps.length m) [] (XE X G) (tAs X G fs) σ H Q:=fun σ H Q q=>by
 obtain⟨ρ,Hi,R,ou⟩:=q;refine zLI R ou fun vs ds Hi1 H1 e1 R1 r1 o1=>?_
 rw[Vg];have hm:m ds≠.no:=fun z=>by rw[z] at o1;exact o1
 refine⟨by rw[r1.length];exact ln ds hm,Hi1,ds,tb.ext R1.ext,R1.s,r1,?_⟩
 cases z:m ds with
 | no=>exact absurd z hm
 | err c=>rw[z] at o1;exact fun C hC Hi2 H2 e2=>⟨c,hC,o1 Hi2 H2 e2⟩
 | ok r=>
  rw[z] at o1
  cases r with
  | v d=>exact fun v Hi2 H2 e2 r2=>o1 Hi2 H2 e2 v r2
  | f ds=>
   intro a Hi2 H2 e2 n;obtain⟨n1,n2,xs,n3,n4⟩:=n;exact o1 _ _ (e2.hold n1 n3 n2) (.ref a) (.lst (SqL.of aY) (n4.mono (cX n2 _)))
theorem aI(W:Good X G k)(c:CanM X.prog X.w X.K X.mg X.base k x ps m)(hg:Gl X x)(ha:PAd X G (e::es) fs)
  (hdb:(x==("__debug__" : Str))=false:=by decide) (he:starEach (e::es) X.env=(false,eval e X.env)::starEach es X.env:=by rfl) (hpl:(backTo pos (starEach es X.env)).any (·.1)=false:=by rfl):
  PEd X G (.Call (.Name x p) (e::es) [] pos) (aN m fs):=by
 obtain⟨⟨f,fd,F,b,kp,hm⟩,ln⟩:=c;exact PE.wk (zEN F W.room hg hm kp b .nil W.pass ha hdb he hpl) (zQi W.tb ln)
theorem zOo{ps:List Str}(tb:TB X.K X.mg G.Bi G.B)(ln:∀ ds,m ds≠.no->ds.length=ps.length):∀ σ H Q,tF X G (dI m fs) σ H Q->zNL (spM X.K X.mg ps.length m) [] (XE X G) (tAs X G fs) σ H Q:=fun σ H Q q=>by
 obtain⟨ρ,Hi,R,ou⟩:=q;refine zLI R ou fun vs ds Hi1 H1 e1 R1 r1 o1=>?_
 rw[Vg];have hm:m ds≠.no:=fun z=>by rw[z] at o1;exact o1
 refine⟨by rw[r1.length];exact ln ds hm,Hi1,ds,tb.ext R1.ext,R1.s,r1,?_⟩
 cases z:m ds with
 | no=>exact absurd z hm
 | err c=>rw[z] at o1;exact fun C hC Hi2 H2 e2=>⟨c,hC,o1 Hi2 H2 e2⟩
 | ok r=>
  rw[z] at o1
  cases r with
  | v d=>exact o1.elim
  | f ds=>exact fun a Hi2 H2 e2 n=>o1 Hi2 H2 e2 a ⟨e1.h.none n.1,n.2⟩
theorem bJ(W:Good X G k)(c:CanM X.prog X.w X.K X.mg X.base k x ps m)(hg:Gl X x)(ha:PAd X G (e::es) fs)
  (hdb:(x==("__debug__" : Str))=false:=by decide) (he:starEach (e::es) X.env=(false,eval e X.env)::starEach es X.env:=by rfl) (hpl:(backTo pos (starEach es X.env)).any (·.1)=false:=by rfl):
  PEf X G (.Call (.Name x p) (e::es) [] pos) (dI m fs):=by
 obtain⟨⟨f,fd,F,b,kp,hm⟩,ln⟩:=c;exact PE.wk (zEN F W.room hg hm kp b .nil W.pass ha hdb he hpl) (zOo W.tb ln)
theorem bK{d:D}(hg:Gl X x)(h:∃ v u',X.mg x=some u'/\dH v u'/\IsD X.K (fun _=>none) v d)(hdb:(x==("__debug__" : Str))=false:=by decide):PEd X G (.Name x pos) (eC d):=by
 obtain⟨v,u',hm,r,hd⟩:=h;exact gM (zDZ hg hm r hdb) fun H=>hd.mono fun b o z=>by cases z
end
abbrev BX(P:Jf)(w:Jg)(K:PySem.W.Frag)(mg:Str->Option Ja)(base:Je)(N:List Str)(x:Str)(st:Ji)(f:Jc)(cdv:Ja)(A:Jh)(outer:List Env)(s:Jb)(H:Hp)(E:XK):Cx:=
 zGP (CX1 P w) P w K mg base N x (aH st) f cdv A outer s H E
theorem zCz{K:Fg_}{mg:Str->Option Ja}{Bi H:Hp}{N:List Str}{vs:List V}{ds:List D}(s:Same Bi H)(h:IsDs K Bi vs ds):Rel K mg H Bi Bi H (L2.start N vs) (L3.start N.length ds) where
 len:=by
  unfold L2.start L3.start;rw[Ql,Ql,Qg,Qg,Xz,Xz,h.length]
 ext:=Ext.refl s
 slot:=fun i sl e=>by
  unfold L3.start at e;by_cases hi:i<ds.length
  ·rw[Vk (by rw[Qg];exact hi),Qs] at e
   obtain⟨d,hd⟩:∃ d,ds[i]?=some d:=⟨_,Qo hi⟩;rw[hd] at e;cases e
   obtain⟨v,hv,r⟩:=h.at hd;refine⟨v,?_,r⟩
   unfold L2.start;rw[Vk (by rw[Qg,h.length];exact hi),Qs,hv];rfl
  ·rw[Vn (by rw[Qg];omega),Y6] at e
   split at e
   ·cases e;trivial
   ·cases e
 dist:=fun i j a es fs e _ _ _=>by
  exfalso
  unfold L3.start at e;by_cases hi:i<ds.length
  ·rw[Vk (by rw[Qg];exact hi),Qs] at e
   cases z:ds[i]? with
   | none=>rw[z] at e;cases e
   | some d=>rw[z] at e;cases e
  ·rw[Vn (by rw[Qg];omega),Y6] at e
   split at e<;>cases e
section
variable{P:Jf}{w:Jg}{K:Fg_}{mg:Str->Option Ja}{base:Je}{N ps:List Str}{x:Str}{st:Ji}{f:Jc}{fd:FuncData}{k:Nat}{b:Sv}
theorem zHU{cdv:Ja}{A:Jh}{outer:List Env}{s:Jb}{H Bi:Hp}{E:XK}(hr:Room k (A.deeper (envOfC x (aH st) s.heap.objs.size f cdv)))(tb:TB K mg Bi H):
  Good (BX P w K mg base N x st f cdv A outer s H E) ⟨H,Bi,fun c H'=>∀ C,mg c=some C->E C none H'⟩ k where
 calm:=rfl
 room:=hr
 pass:=zRQ fun c H' q=>by
  obtain⟨c',h1,h2⟩:=q;exact h2 c h1
 own:=PassesOwn.leaving
 tb:=tb
theorem zGf{cdv:Ja}{A:Jh}{outer:List Env}{s:Jb}{H Bi:Hp}{E:XK}:
  zJb (BX P w K mg base N x st f cdv A outer s H E) ⟨H,Bi,fun c H'=>∀ C,mg c=some C->E C none H'⟩:=fun Mi σ H1 s1 s' ea cls vs I hx hos hg q=>by
 obtain⟨c',h1,h2⟩:=q;exact zEu I hx hos hg (h2 cls h1)
theorem zQQ(F:Fn K mg x st ps f fd)(S:FnScope N ps (aH st))
  (h:∀(cdv:Ja)(A:Jh)(outer:List Env)(s:Jb)(H:Hp)(E:XK)(G:Gx),Good (BX P w K mg base N x st f cdv A outer s H E) G k->zJb (BX P w K mg base N x st f cdv A outer s H E) G->eX (BX P w K mg base N x st f cdv A outer s H E) G (gG st) b):
  FnOk P w K mg base (CX1 P w) (k+1) f fd ps (spM K mg ps.length (fn ps.length N.length b)):=by
 obtain⟨oc,od,kV,doc,pm,an,cdv,ct,osl,rfl,lk,hcd⟩:=F.fn.ex;refine zQK lk hcd S (fun vs H Q E h=>h.1) fun A outer s H vs Q E hr hsp=>?_
 obtain⟨hl,Bi,ds,tb,sm,hd,hq⟩:=hsp;have hg:=zHU (P:=P) (w:=w) (K:=K) (mg:=mg) (base:=base) (N:=N) (outer:=outer) (H:=H) (Bi:=Bi) (E:=E) hr tb;refine⟨_,h cdv A outer s H E _ hg zGf,L3.start N.length ds,Bi,zCz sm hd,?_⟩
 have hlen:ds.length=ps.length:=by rw[<-hd.length];exact hl
 unfold fn at hq;rw[Jk hlen] at hq
 cases z:b (L3.start N.length ds) with
 | no=>rw[z] at hq;exact hq
 | err c=>rw[z] at hq;exact fun Hi' H' e C hC=>hq C hC Hi' H' e
 | ok fl=>
  rw[z] at hq
  cases fl with
  | nx ρ'=>exact fun σ' Hi' H' s R=>hq .non Hi' H' R.ext .non
  | brk ρ'=>exact hq.elim
  | ctn ρ'=>exact hq.elim
  | ret r=>
   cases r with
   | v d=>exact hq
   | f es=>exact hq
theorem aM(F:Fn K mg x st ps f fd)(S:FnScope N ps (aH st))
  (h:∀(cdv:Ja)(A:Jh)(outer:List Env)(s:Jb)(H:Hp)(E:XK)(G:Gx),Good (BX P w K mg base N x st f cdv A outer s H E) G k->zJb (BX P w K mg base N x st f cdv A outer s H E) G->eX (BX P w K mg base N x st f cdv A outer s H E) G (gG st) b):
  CanM P w K mg base (k+1) x ps (fn ps.length N.length b):=by
 refine⟨⟨f,fd,zQQ F S h,F.bd,F.kp,F.mg⟩,fun ds hm=>?_⟩
 unfold fn at hm;split at hm
 ·assumption
 ·exact absurd rfl hm
end
section
variable{X:Cx}{G:Gx}{a b e:Expr}{es:List Expr}{pos p:Pos}{f g:Ev}{fs gs:Fv}{t u:Tv}{x:Str}{st:Ji}{rest:List Ji}{sa sb:Sv}{k:Nat}
theorem PTd.frz(h:PTd X G e t):PTd X G e (tFrzB t):=PT.wk h fun σ H Q q=>by
 obtain⟨ρ,Hi,R,ou⟩:=q;obtain⟨Hf,s1,R1,fl⟩:=R.frz;refine⟨ρ.map Sl.frz,Hf,R1,?_⟩
 unfold tFrzB at ou
 cases z:t (ρ.map Sl.frz) with
 | no=>rw[z] at ou;exact ou
 | err c=>
  rw[z] at ou;intro Hi1 H1 e1;obtain⟨Ht,e2,k,s2,n⟩:=Ext.thaw s1 fl R1.s e1;exact ou Ht H1 e2
 | ok c=>
  rw[z] at ou;intro Hi1 H1 e1;obtain⟨Ht,e2,k,s2,n⟩:=Ext.thaw s1 fl R1.s e1;exact ou Ht H1 e2
def iSq(K:PySem.W.Frag)(tl:TE):TI:=fun σ H R=>tl σ H fun x H1=>∃ a,x=.ref a/\(((∃ xs,SqL K H1 a xs)/\R (Itl K a) H1)∨((∃ xs,SqT K H1 a xs)/\R (Itt K a) H1))
theorem zPw{tg l:Expr}{tl:TE}(hl:PE X l tl):PI X tg l (iSq X.K tl):=by
 intro Mi s σ H R I h;refine thn (hl Mi s σ H _ I h) fun v s1 ⟨x,H1,I1,r1,q1⟩=>?_
 obtain⟨a,e,q1⟩:=q1;subst e;cases r1;rcases q1 with⟨⟨xs,hq⟩,q⟩ | ⟨⟨xs,hq⟩,q⟩
 ·obtain⟨its,rv,p,hz⟩:=I1.list hq
  refine wpAny_pyIter_list p.isList ?_
  refine⟨s1.heap.objs.size,[s1.heap.objs.size],_,_,H1,rfl,I1.kept (t':=s1.toks) fun b o e=>Heap.get?_push_of_some _ e,zCB a _,⟨_,Heap.get?_push_size _ rfl,rfl,rfl⟩,fun b hb=>?_,q⟩
  have e:b=s1.heap.objs.size:=by simpa using hb
  subst e;exact I1.fpOk (Qh _) (I1.hok.fresh (Qh _))
 ·obtain⟨its,rv,p,hz⟩:=I1.tuple hq
  refine wpAny_pyIter_tuple (show s1.heap.IsTuple a its.toArray from p) ?_
  refine⟨s1.heap.objs.size,[s1.heap.objs.size],_,_,H1,rfl,I1.kept (t':=s1.toks) fun b o e=>Heap.get?_push_of_some _ e,zGv a _,⟨_,Heap.get?_push_size _ rfl,rfl,rfl⟩,fun b hb=>?_,q⟩
  have e:b=s1.heap.objs.size:=by simpa using hb
  subst e;exact I1.fpOk (Qh _) (I1.hok.fresh (Qh _))
theorem zCd{K:Fg_}{Hi:Hp}{a:Jc}{xs:List V}{ds:List D}(h1:SqL K Hi a xs)(h2:IsDs K Hi xs ds):xJ K Hi (Itl K a) ds:=fun Hi1 H1 s1 s2 i=>by
 have h3:=dD (s1.trans s2) h1;refine⟨fun hl=>⟨xs,h3,by rw[h2.length];exact hl⟩,fun d hd=>?_⟩
 obtain⟨v,hv,r⟩:=h2.at hd;refine⟨⟨xs,v,h3,hv⟩,fun x H2 y=>?_⟩
 obtain⟨e,y⟩:=y;subst e;have:=y xs h3
 rw[hv] at this;cases this;exact⟨Hi1,Ext.refl s2,r.mono s1⟩
theorem jB{tg:Expr}(h:PEd X G e f):PId X G tg e (qT f):=PI.wk (zPw h) fun σ H Q q=>by
 obtain⟨ρ,Hi,R,ou⟩:=q;refine zEi R ou fun v d Hi1 H1 e1 R1 r1 o1=>?_
 cases d with
 | lst ds=>
  obtain⟨a,xs,rfl,h1,h2⟩:=r1.lstI;exact⟨a,rfl,.inl ⟨⟨xs,dD R1.s h1⟩,o1.here R1.s _ (zCd h1 h2)⟩⟩
 | tup ds=>
  obtain⟨a,xs,rfl,h1,h2⟩:=r1.tupI;exact⟨a,rfl,.inr ⟨⟨xs,cW R1.s h1⟩,o1.here R1.s _ (zKi h1 h2)⟩⟩
 | _=>exact o1.elim
theorem bT{i:Nat}:∀ d ρ c,gName i d ρ≠.err c:=fun d ρ c z=>by cases z
theorem zEj:∀ d ρ c,zHp d ρ≠.err c:=fun d ρ c z=>by cases d<;>cases z
theorem oR{g:Gv}{r:List D->Rho->Res Rho}(h1:∀ d ρ c,g d ρ≠.err c)(h2:∀ d ρ c,r d ρ≠.err c):∀ d ρ c,mO g r d ρ≠.err c:=fun d ρ c z=>by
 cases d with
 | nil=>cases z
 | cons d ds=>
  have z':(g d ρ).bind (fun ρ'=>r ds ρ')=.err c:=z
  cases q:g d ρ with
  | no=>rw[q] at z';cases z'
  | err c'=>exact h1 _ _ _ q
  | ok ρ'=>rw[q] at z';exact h2 _ _ _ z'
theorem zEz{r:List D->Rho->Res Rho}(h:∀ d ρ c,r d ρ≠.err c):∀ d ρ c,zHq r d ρ≠.err c:=fun d ρ c z=>by
 cases d<;>first | cases z | exact h _ _ _ z
theorem zJT:∀(ds:List D)(ρ ρ':Rho),zHp ds ρ=.ok ρ'->ds.length=0:=fun ds ρ ρ' z=>by
 cases ds with
 | nil=>rfl
 | cons d ds=>cases z
theorem sS{g:Gv}{r:List D->Rho->Res Rho}{n:Nat}(h:∀ (ds:List D) (ρ ρ':Rho),r ds ρ=.ok ρ'->ds.length=n):∀(ds:List D)(ρ ρ':Rho),mO g r ds ρ=.ok ρ'->ds.length=n+1:=fun ds ρ ρ' z=>by
 cases ds with
 | nil=>cases z
 | cons d ds=>
  have z':(g d ρ).bind (fun ρ'=>r ds ρ')=.ok ρ':=z
  cases q:g d ρ with
  | no=>rw[q] at z';cases z'
  | err c'=>rw[q] at z';cases z'
  | ok ρ1=>rw[q] at z';rw[Qm,h ds ρ1 ρ' z']
theorem zBh:∀ a b d,zAS a b=.ok d->∃ i j,a=.int i/\b=.int j/\d=.int (i+j):=fun a b d z=>by
 unfold zAS at z;split at z
 ·cases z;exact⟨_,_,rfl,rfl,rfl⟩
 ·cases z
theorem uM:∀ a b c,zAS a b≠.err c:=fun a b c z=>by unfold zAS at z;split at z<;>cases z
theorem zJq:∀ a b d,zAL a b=.ok d->∃ i j,a=.int i/\b=.int j/\d=.int (i-j):=fun a b d z=>by
 unfold zAL at z;split at z
 ·cases z;exact⟨_,_,rfl,rfl,rfl⟩
 ·cases z
theorem zFO:∀ a b c,zAL a b≠.err c:=fun a b c z=>by unfold zAL at z;split at z<;>cases z
end
theorem zDD{K:Fg_}{H:Hp}:∀ ns:List Int,IsDs K H (ns.map V.int) (ns.map D.int)
 | []=>.nil
 | n::ns=>.cons (.int n) (zDD ns)
section
variable{X:Cx}{G:Gx}{e:Expr}{es:List Expr}{pos np cpos:Pos}{fs:Fv}{k:Nat}{c:Str}
theorem hJ(W:Good X G k)(WR:zJb X G)(hR:∃ C,Err X.K X.mg c C)(hg:Gl X c)(ha:PAd X G (e::es) fs)
  (he:starEach (e::es) X.env=(false,eval e X.env)::starEach es X.env:=by rfl) (hplain:(backTo cpos (starEach es X.env)).any (·.1)=false:=by rfl) (hd:(c==("__debug__" : Str))=false:=by decide):
  PSd X G (.Raise (some (.Call (.Name c np) (e::es) [] cpos)) none pos) (jJ c fs):=by
 intro Mi s σ H E I q;obtain⟨ρ,Hi,R,h⟩:=q;obtain⟨C,Er⟩:=hR;obtain⟨bmB,newId,B,initId,O,FB⟩:=Er.own X.base I.mod.kin;obtain⟨tl,N,nm,q,bs,hdct,sn,sub,ab,col,dd,k0,k1,k2,k3,k5,mN,hC,hN,hni,T⟩:=O.obj
 have hA:=ha cpos Mi s σ H (fun vs H1=>vs.length<=sizeLine/\XE X G (.ref C) none H1) I ⟨ρ,Hi,R,mW R h fun ds Hi' H' _ e1 h' vs r=>by
  have h':Fin X G Hi' E (if ds.length<=16777216 then (.err c:Res Fl) else .no):=h';by_cases hz:ds.length<=16777216
  ·rw[Jk hz] at h'
   exact⟨by rw[r.length];exact hz,c,O.bound,h' Hi' H' (R.ext.trans e1)⟩
  ·rw[Jl hz] at h';exact h'.elim⟩
 refine wpAny_Raise_call_subT (C:=C) (nm:=nm) (q:=q) (N:=N) (bs:=bs) (bm:=tl) (hdct:=hdct) (sn:=sn) (sub:=sub) (ab:=ab) (col:=col) (dd:=dd) (k0:=k0) (k1:=k1) (k2:=k2) (k3:=k3) (k5:=k5)
  FB (mN:=mN) (T.hasType FB.hasBase) (I.ok.hd W.calm) (by rw[he];show(false || (backTo cpos (starEach es X.env)).any (·.1))=false;rw[hplain];rfl) hni (vN I hg O.bound ⟨rfl,?_⟩ hd)
 rw[he] at hA ⊢
 refine Calls.evalArgs_plain (wpAny_mono hA (fun us s₂ h₂=>?_) fun _ _ y=>y)
 obtain⟨vs,H2,I2,rv,hz,hx⟩:=h₂;exact⟨rfl,by show us.length<=sizeLine;rw[<-rv.length];exact hz,I2.bk _ _ hC,hN.keeps I2.bk,T.keeps I2.bk,fun h' ea hm=>WR Mi σ H2 s₂ { s₂ with heap:=h' } ea (.ref C) us I2 hm rfl I2.bare hx⟩
end
end L3
namespace L3
open PySem PySem.Spec PyProof.Rows L2 PySem.W Builtin Builtin.ObjectAttr Builtin.Getset_descriptor
unseal PEd PEf PTd PWd PAd PSd eX POd PGd jV PId
section
variable{prog:Jf}{w:Jg}{A:Jh}{E:Ja->Jb->Prop}{s:Jb}{K:Frag}{x D:Jc}{ox:Obj}
def zNK(x D:Jc)(h:Je):Prop:=∃ o,h.get? x=some o/\o.cls=.ref D
theorem zNK.looks{h:Je}(I:zNK x D h){M:Model}:Looks M h (typeOf (.ref x)) (.ref D):=by
 obtain⟨o,h1,h2⟩:=I;exact h2 ▸ (Looks.ld h1).andThen .now
theorem zGX{h:Je}{M:Model}{self:Ja}{name:Str}{a g:Ja}(X:K.In h)(ha:findIn K (.ref D) name=some (some a))(hg:specialIn K a "__get__" = some (some g))(ht:takesIn K a=some true):
  Looks M h (Builtin.ObjectAttr.find self (.ref D) name) (.bind g a):=by
 have L1:=looks_findIn (M:=M) X ha;have L2:=looks_specialIn (M:=M) X hg;have L3:=looks_takesIn (M:=M) X ht;refine L1.andThen (L2.andThen ?_)
 intro A' Q' E' s' k q;unfold Builtin.ObjectAttr.dataDescriptor?
 refine Js (Js (L3 A' _ E' s' k ?_))
 exact Jw (Js (wpAny_rule (Jw q)))
theorem zGZ{R:Result->Jb->Prop}{tp:Ja}(X:K.In s.heap)(I:zNK x D s.heap)(hm:mroIn K D (.type "object")=some true)(h:R (.ok (.ret (.ref D))) s):
  codeAny (model prog w) A (.call (.builtin "getset_descriptor.__get__") ⟨[.builtin "object.__class__", .ref x,tp],[]⟩) R s:=by
 obtain⟨hh,gg,dr,tt,oo⟩:=s;have L0:=I.looks (M:=model prog w);have L1:=looks_mroIn (M:=model prog w) X hm;refine codeAny_call_builtin KF.slot_gs.plain KF.entry_gs (KF.slot_gs.check _ _ _ _ _ _ _ _ KF.type_class (KF.args_gs _ _ _) ?_)
 unfold Builtin.«getset_descriptor.__get__» descrGet
 rw[dga_obj];refine Js (Jw ?_)
 unfold descrGetter descrCheckInstance descrNameAndClass isInstance;simp only[KF.owner_class];repeat lk
 refine⟨Code.quiet_builtin _ (by decide +kernel),codeAny_builtin KF.entry_class ?_⟩
 unfold Builtin.«object.__class__» shownTypeOf
 repeat lk
 exact h
structure ExK (K:Frag) (D:Jc):Prop where
 hc:(clsIn K D).isSome=true
 ga:findIn K (.ref D) "__getattribute__" = some (some (.builtin "BaseException.__getattribute__"))
 no:findIn K (.ref D) "__getattr__" = some none
 ha:findIn K (.ref D) "__class__" = some (some (.builtin "object.__class__"))
 hn:specialIn K (.builtin "object.__class__") "__get__" = some (some (.builtin "getset_descriptor.__get__"))
 tk:takesIn K (.builtin "object.__class__")=some true
 mo:mroIn K D (.type "object")=some true
 mb:mroIn K D (.type "BaseException")=some true
theorem zJR(T:ExK K D){Q:Option Ja->Jb->Prop}(X:K.In s.heap)(I:zNK x D s.heap)(h:Q (some (.ref D)) { s with toks:=s.toks+1 }):
  wpAny (model prog w) A (getAttr? (.ref x) "__class__") Q E s:=by
 obtain⟨hh,g,d,t,os⟩:=s;have L0:=I.looks (M:=model prog w);have L1:=looks_findIn (M:=model prog w) X T.ga;have L2:=looks_findIn (M:=model prog w) X T.no;have L3:=zGX (M:=model prog w) (self:=.ref x) X T.ha T.hn T.tk;have L4:=looks_mroIn (M:=model prog w) X T.mb;unfold getAttr? getAttrBy? getAttrBy
 refine Js (wpAny_mkText (Js (wpAny_attempt (wpAny_holding (Js (L0.at (Js (L1.at ?_))))))))
 have hx2:(Value.builtin "BaseException.__getattribute__" == Value.builtin "object.__getattribute__")=false:=by decide +kernel
 show wpAny _ _ (if (onTheHeap (.ref D) && Value.builtin "BaseException.__getattribute__" == Value.builtin "object.__getattribute__")=true then _ else _) _ _ _
 rw[hx2,Ut,Jl X7];unfold getAttrByItsOwn hookBefore;refine Js ?_
 show wpAny _ _ (typeLookup (.ref D) "__getattr__") _ _ _
 refine L2.at ?_
 refine Js (wpAny_attempt (wpAny_holding ?_))
 unfold callGetattribute boundAndCalled;have f3:=F.excAttr_ValueError.ga.bind (.ref x);show wpAny _ _ (bindSpecial (.builtin "BaseException.__getattribute__") (.ref x) >>= _) _ _ _
 rw[f3];refine Js (Jw ?_)
 have hk:builtinKind "BaseException.__getattribute__" = some .slot:=by decide +kernel
 have hsplit:splitId "BaseException.__getattribute__" = some ("BaseException","__getattribute__"):=by decide +kernel
 refine wpAny_call (codeAny_call_builtin F.excAttr_ValueError.ga.plain F.entry_bexc_ga ?_)
 have ha:=F.args_bexc_ga (.ref x) (.str "__class__" t);simp only[checkBuiltinCall,hk,hsplit];refine Js ?_
 unfold isInstance;refine Js ?_
 refine L0.at ?_
 refine L4.at ?_
 rw[Jl (by decide)];repeat (first | assumption | wp_step)
 obtain⟨ox,hx,hcl⟩:=I;refine wpAny_loadPart_at hx ?_
 rw[hcl];refine Jw ?_
 refine Js ?_
 refine L3.at ?_
 show wpAny _ _ (Builtin.ObjectAttr.bindTo (.builtin "getset_descriptor.__get__") (.builtin "object.__class__") (.ref x) (.ref D)) _ _ _
 unfold Builtin.ObjectAttr.bindTo
 show wpAny _ _ (do
   let v <-holding [Value.builtin "object.__class__"] (call (.builtin "getset_descriptor.__get__") [.builtin "object.__class__", .ref x,.ref D])
   ret v) _ _ _
 refine Js (wpAny_holding (wpAny_call (zGZ X ⟨ox,hx,hcl⟩ T.mo ?_)))
 refine Jw ?_
 exact handed_on rfl (Jw h)
theorem zFU(T:ExK K D):KitX K (.ref x) (.ref D) (zNK x D) where
 ty:=fun _ _ _ I=>I.looks
 it:=fun _ _ X _=>by
  obtain⟨cd,hcD⟩:=Y5.mp T.hc;unfold clsIn at hcD;split at hcD
  ·rename_i c' d' cd' sl' ho
   intro A' Q' E' s' k q;unfold isType loadHead;exact Js (wpAny_loadPart (k _ _ (X _ _ ho)) (Jw q))
  ·cases hcD
 ne:=fun h tp dd its n sl X htp=>by
  obtain⟨cd,hcD⟩:=Y5.mp T.hc;refine Bool.eq_false_iff.mpr fun q=>?_
  have e:D=tp:=Value.ref.inj (beq_iff_eq.mp q);subst e;unfold clsIn at hcD;split at hcD
  ·rename_i c' d' cd' sl' ho
   have z:=(X _ _ ho).symm.trans htp;cases z
  ·cases hcD
 ca:=fun X I k=>zJR T X I k
end
section
variable{prog:Jf}{w:Jg}{A:Jh}{E:Ja->Jb->Prop}{s:Jb}{K:Frag}{x C CE:Jc}{ox:Obj}
structure CaK (K:Frag) (CE:Jc):Prop where
 ty:typeIn K (.ref CE)=some (.type "type")
 cl:(clsIn K CE).isSome=true
 mb:mroIn K CE (.type "BaseException")=some true
theorem zIc(T:CaK K CE)(hm:mroIn K C (.ref CE)=some true){Q:Bool->Jb->Prop}(X:K.In s.heap)(I:zNK x C s.heap)(h:Q true s):wpAny (model prog w) A (excMatches (.ref x) (.ref CE)) Q E s:=by
 obtain⟨hh,g,d,t,os⟩:=s;have L0:=I.looks (M:=model prog w);have L1:=looks_typeIn (M:=model prog w) X T.ty;have L2:=looks_mroIn (M:=model prog w) X T.mb;have L3:=looks_mroIn (M:=model prog w) X hm
 have Lt:Looks (model prog w) hh (isType (.ref CE)) true:=by
  obtain⟨cd,hcD⟩:=Y5.mp T.cl;unfold clsIn at hcD;split at hcD
  ·rename_i c' d' cd' sl' ho
   intro A' Q' E' s' k q;unfold isType loadHead;exact Js (wpAny_loadPart (k _ _ (X _ _ ho)) (Jw q))
  ·cases hcD
 unfold excMatches isInstance isExcClass;refine Js (Js ?_)
 refine L1.at ?_
 refine wpAny_of_eq tc_notTuple ?_
 show wpAny _ _ (forIn [Value.ref CE] PUnit.unit _ >>= _) _ _ _
 rw[Uc];refine Js (Js (Js (Js ?_)))
 refine Lt.at ?_
 show wpAny _ _ (isSubtype (.ref CE) (.type "BaseException")) _ _ _
 refine L2.at ?_
 refine Jw ?_
 show wpAny _ _ (forIn ([]:List Ja) PUnit.unit _) _ _ _
 rw[List.forIn_nil];refine Jw ?_
 refine Js ?_
 refine L0.at ?_
 refine Js ?_
 rw[Uc];refine Js (Js ?_)
 refine L3.at ?_
 repeat (first | exact h | wp_step)
end
section
variable{X:Cx}{Mi:List (Jc×Obj)}{σ:St}{H H':Hp}{s s':Jb}{ea:Jc}{cls:Ja}
theorem Fly.stay(I:Inv X Mi σ H s)(F:Fly X.prog X.w X.stack H H' s ea cls s'){h' B:Je}{a0:Ja}
  (hf:Heap.FlyingW B X.stack ea cls a0 s'.heap) (cov:∀ b o,s'.heap.get? b=some o->((∃ o',s.heap.get? b=some o')∨H' b≠none)->b∉frs X.stack->B.get? b=some o)
  (hf':Heap.FlyingW B X.stack ea cls a0 h') (up:s'.heap.UpToSlots h') {t':Nat}:Inv X Mi σ H' { s' with heap:=h',toks:=t' }:=by
 have trk:∀ {b:Jc},H' b≠none->b∉frs X.stack:=fun {b} hb hm=>by
  have h1:=I.stkFree b hm;obtain⟨_,o,ho,_⟩:=I.stack.mem hm;exact hb (F.un.free b o ho h1 (by simp))
 have keepB:∀ {b:Jc} {o:Obj},s'.heap.get? b=some o->((∃ o',s.heap.get? b=some o')∨H' b≠none)->b∉frs X.stack->h'.get? b=some o:=fun e1 e2 e3=>hf'.1 _ _ (cov _ _ e1 e2 e3)
 have slotOf:∀ {b:Jc} {o:Obj},b∈frs X.stack->s'.heap.get? b=some o->∃ sl,h'.get? b=some { o with slots:=sl }:=fun {b o} hm e=>by
  obtain⟨_,o',ho',hn⟩:=hf.2.2.1.mem hm;rw[e] at ho';cases ho'
  exact up b o e hn
 refine I.call' (s':={ s' with heap:=h',toks:=t' }) (ch:=[]) F.os ⟨?_,?_,F.un.free,?_,F.un.tups,F.un.frzs,F.un.tbls⟩ ?_ F.bare (fun b z=>absurd z (by simp))
 ·intro b o e n hb hx
  exact keepB (F.un.keep b o e n hb hx) (.inl ⟨o,e⟩) hb
 ·intro b o e n hb hx
  obtain⟨sl,e1⟩:=F.un.slot b o e n hb hx;obtain⟨sl2,e2⟩:=slotOf hb e1;exact⟨sl2,e2⟩
 ·intro b o e hx
  obtain⟨o1,e1⟩:=F.un.there b o e hx;by_cases hs:b∈frs X.stack
  ·obtain⟨sl,e3⟩:=slotOf hs e1
   exact⟨_,e3⟩
  ·exact⟨o1,keepB e1 (.inl ⟨o,e⟩) hs⟩
 ·intro a o e
  refine(F.hok a o e).stay (fun b u hb z=>?_) (fun b z=>z) (fun b xs z=>z)
  have hb':H' b≠none:=by
   rcases hb with rfl | hb
   ·rw[e];simp
   ·rw[hb];simp
  exact keepB z (.inr hb') (trk hb')
theorem _root_.L2.Inv.track(I:Inv X Mi σ H s){a:Jc}{o:HO}(hn:H a=none)(h0:X.s₀.heap.get? a=none)(hl:a≠X.env.locals)(hc:∀ x c,X.env.cells.lookup x=some c->c≠a)(hp:∀ p∈X.pn++Mi,p.1≠a)
  (ho:mZ X.prog X.w (upd H a o) s.heap a o):Inv X Mi σ (upd H a o) s where
 ok:=I.ok
 os:=I.os
 bare:=I.bare
 base:=⟨I.base.keep,I.base.slot,fun b ob e n hx=>by
   have:b≠a:=fun z=>by rw[z,h0] at e;cases e
   rw[bB this];exact I.base.free b ob e n hx,I.base.there,fun b xs e=>by
   have z:=I.base.tups b xs e
   rw[bB (bC z hn)];exact z,fun b ob u e=>by
   have z:=I.base.frzs b ob u e
   rw[bB (bC z hn)];exact z,fun b ps e=>by
   obtain⟨m,z⟩:=I.base.tbls b ps e
   exact⟨m,by rw[bB (bC z hn)];exact z⟩⟩
 loc:=I.loc
 cell:=I.cell
 free:=by rw[bB (Ne.symm hl)];exact I.free
 freeC:=fun x c e=>by rw[bB (hc x c e)];exact I.freeC x c e
 pin:=fun p hp'=>by
  obtain⟨e1,e2,e3,e4,e5⟩:=I.pin p hp';exact⟨e1,by rw[bB (hp p hp')];exact e2,e3,e4,e5⟩
 hok:=fun b u e=>by
  by_cases hb:b=a
  ·subst hb;rw[aY] at e;cases e;exact ho
  ·rw[bB hb] at e
   exact(I.hok b u e).stay (fun c v _ q=>q) (fun c q=>by rw[bB (bC q hn)];exact q) fun c xs q=>by rw[bB (bC q hn)];exact q
 len:=I.len
theorem zNz{M:Model}{A:Jh}{E:Ja->Jb->Prop}{i:Nat}{n:Str}{pos:Pos}{Q:Unit->Jb->Prop}(I:Inv X Mi σ H s)(hN:X.N.Nodup)(hi:X.N[i]?=some n)(hk:X.env.scope.names.lookup n=some .local)
  (h:∀ s',Inv X Mi (σ.set i none) H s'->Q () s'):wpAny M A (do bindName X.env n .none;unbindBehindTheSuite X.env n pos) Q E s:=by
 obtain⟨m,hn,hl⟩:=id I.loc;have hcls:(X.env.scope.kind==.class || (X.env.scope.kind==.module && X.env.locals != X.env.globals))=false:=by rw[I.ok.kind];rfl
 have hiσ:i<σ.length:=by rw[I.len];exact(Qx.mp hi).1
 have cne:=I.cne;refine wpAny_nameGoes_keeps hk hn hcls fun h' v hn' hs=>?_
 obtain⟨oL,_,_,hoL,_⟩:=id hn;refine h _ ⟨I.ok,I.os,I.bare,⟨fun b o e n hb hx=>?_,fun b o e n hb hx=>?_,I.base.free,fun b o e hx=>?_,I.base.tups,I.base.frzs,I.base.tbls⟩,⟨_,hn',fun j y v' e1 e2 e3=>?_⟩,fun y c e=>?_,I.free,I.freeC,fun p hp=>?_,?_,by simpa using I.len⟩
 ·exact(hs.2 b (Qq (Qn (Heap.lt_size e) I.ok.above))).trans (I.base.keep b o e n hb hx)
 ·obtain⟨sl,e1⟩:=I.base.slot b o e n hb hx
  exact⟨sl,(hs.2 b (Qq (Qn (Heap.lt_size e) I.ok.above))).trans e1⟩
 ·obtain⟨o',e1⟩:=I.base.there b o e hx
  exact⟨o',(hs.2 b (Qq (Qn (Heap.lt_size e) I.ok.above))).trans e1⟩
 ·by_cases hj:j=i
  ·subst hj
   rw[Q9 hiσ] at e2;cases e2
  ·rw[Q7 (Ne.symm hj)] at e2
   obtain⟨u',r',q⟩:=hl j y v' e1 e2 e3;refine⟨u',r',?_⟩
   rcases q with⟨k,e⟩ | ⟨k,c,e,z⟩
   ·refine .inl ⟨k,?_⟩
    have:y≠n:=fun e=>hj (zBA hN e1 (e ▸ hi))
    simp[this,e]
   ·exact .inr ⟨k,c,e,z.sameBut hs (cne y c e)⟩
 ·obtain⟨w',z⟩:=I.cell y c e
  exact⟨w',z.sameBut hs (cne y c e)⟩
 ·obtain⟨e,n,ne,nf,d⟩:=I.pin p hp
  exact⟨(hs.2 p.1 ne).trans e,n,ne,nf,d⟩
 ·intro b ob e
  refine(I.hok b ob e).stay (fun c w' hc q=>(hs.2 c ?_).trans q) (fun _ q=>q) fun _ _ q=>q
  rintro rfl
  have hfree:=I.free;rcases hc with rfl | hc
  ·rw[hfree] at e;cases e
  ·rw[hfree] at hc;cases hc
abbrev oO(X:Cx)(ea:Jc):Cx:={ X with A:=X.A.mark (some (.ref ea)),calm:=false,xe:=fun _ _=>False }
theorem _root_.L2.Inv.clause(I:Inv X Mi σ H s)(ea:Jc):Inv (oO X ea) Mi σ H s:=
 ⟨⟨I.ok.mod,I.ok.kind,I.ok.glob,I.ok.blt,I.ok.above,I.ok.inj,I.ok.has,I.ok.cab,(fun z=>Bool.noConfusion z),I.ok.frames,I.ok.stk,I.ok.exf,I.ok.bs,I.ok.bsz,I.ok.noex,I.ok.exfs,I.ok.funs,I.ok.frf⟩,I.os,I.bare,I.base,I.loc,I.cell,I.free,I.freeC,I.pin,I.hok,I.len⟩
theorem _root_.L2.Inv.unclause{ea:Jc}(ok:X.Ok)(I:Inv (oO X ea) Mi σ H s):Inv X Mi σ H s:=⟨ok,I.os,I.bare,I.base,I.loc,I.cell,I.free,I.freeC,I.pin,I.hok,I.len⟩
end
section
variable{X:Cx}{G:Gx}{a e:Expr}{es:List Expr}{pos p:Pos}{fs:Fv}{t:Tv}{x:Str}{k:Nat}{ps:List Str}{m:Mir}{st:Ji}{sts:List Ji}{sa sb:Sv}
def G0(G:Gx):Gx:={ G with E:=fun _ _=>False }
def zRM(X:Cx)(Mi:List (Jc×Obj))(σ:St)(Hi H:Hp)(c:Str)(ev:Ja)(s':Jb):Prop:=
 ∃(s1:Jb)(H1:Hp)(ea:Jc)(cls:Ja)(Hi' H':Hp),ev=.ref ea/\Inv X Mi σ H1 s1/\X.mg c=some cls/\Fly X.prog X.w X.stack H1 H' s1 ea cls s'/\Ext Hi H Hi' H'/\Keep H H1
def zSU(X:Cx)(G:Gx)(Hi:Hp)(E:zDG)(r:Res Fl):Prop:=match r with
 | .err _=>True
 | r=>Fin X G Hi E r
@[irreducible] def PSx (X:Cx) (G:Gx) (st:Ji) (f:Sv):Prop:=∀(Mi:List (Jc×Obj))(s:Jb)(σ:St)(H:Hp)(E:zDG)(ρ:Rho)(Hi:Hp)(Et:Ja->Jb->Prop),
 Inv X Mi σ H s->lV X G Hi H σ ρ->f ρ≠.no->zSU X G Hi E (f ρ)->(∀ c ev s',f ρ=.err c->zRM X Mi σ Hi H c ev s'->Et ev s')->wpAny (model X.prog X.w) X.A (exec st X.env) (SP X Mi E) Et s
unseal PSx
@[irreducible] def mQ (X:Cx) (G:Gx) (sts:List Ji) (f:Sv):Prop:=∀(Mi:List (Jc×Obj))(s:Jb)(σ:St)(H:Hp)(E:zDG)(ρ:Rho)(Hi:Hp)(Et:Ja->Jb->Prop),
 Inv X Mi σ H s->lV X G Hi H σ ρ->f ρ≠.no->zSU X G Hi E (f ρ)->(∀ c ev s',f ρ=.err c->zRM X Mi σ Hi H c ev s'->Et ev s')->wpAny (model X.prog X.w) X.A (execs sts X.env) (SP X Mi E) Et s
unseal mQ
theorem zRK(h:PSx X G st sa):mQ X G [st] sa:=fun Mi s σ H E ρ Hi Et I R hn hf he=>by
 refine Jq (wpAny_mono (h Mi s σ H E ρ Hi Et I R hn hf he) (fun f s1 q=>?_) fun _ _ z=>z)
 cases f with
 | next=>exact Jp q
 | ret v=>exact q
 | brk=>exact q
 | cont=>exact q
theorem zSA{Mi:List (Jc×Obj)}{s:Jb}{σ:St}{H:Hp}{ρ:Rho}{Hi:Hp}{Et:Ja->Jb->Prop}{Q:VK}{ds:List D}(tb:TB X.K X.mg G.Bi G.B)(c:CanM X.prog X.w X.K X.mg X.base k x ps m)(hr:Room k X.A)(hg:Gl X x)(ha:PAd X.nox (G0 G) (e::es) fs)
  (I:Inv X Mi σ H s) (R:lV X G Hi H σ ρ) (hds:fs ρ=.ok ds) (hm:m ds≠.no) (hq:∀ r v Hi' H',m ds=.ok r->Ext Hi H Hi' H'->IsD X.K Hi' v r.d->Q v H') (he:∀ c ev s',m ds=.err c->zRM X Mi σ Hi H c ev s'->Et ev s')
  (hdb:(x==("__debug__" : Str))=false) (hst:starEach (e::es) X.env=(false,eval e X.env)::starEach es X.env) (hpl:(backTo pos (starEach es X.env)).any (·.1)=false):
  wpAny (model X.prog X.w) X.A (eval (.Call (.Name x p) (e::es) [] pos) X.env) (EP X Mi σ Q) Et s:=by
 obtain⟨⟨f,fd,F,b,kp,hmg⟩,ln⟩:=c;refine Jz (vN I hg hmg ?_ hdb)
 have hA:=ha pos Mi s σ H (fun vs H1=>∃ Hi1,Ext Hi H Hi1 H1/\IsDs X.K Hi1 vs ds) (I.wish _) ⟨ρ,Hi,R,by rw[hds];exact fun Hi1 H1 e1 vs r=>⟨Hi1,e1,r⟩⟩
 refine PySem.W.callWith_K (h₀:=X.base) I.ok.mod.kin kp (wpAny_mono hA (fun us s1 q=>?_) fun _ _ z=>False.elim z) hst hpl
 obtain⟨vs,H1,I1',r,Hi1,e1,hd⟩:=q;have I1:Inv X Mi σ H1 s1:=I1'.unwish;refine⟨I1.kIn,?_⟩
 have hl:us.length=ps.length:=by rw[<-r.length,hd.length];exact ln ds hm
 refine wpAny_call (codeAny_mono (F.run X.A X.stack s1 H1 ⟨us,[]⟩ us vs (fun v H2=>Q v H2) (fun cls _ H2=>∃ c Hi2,X.mg c=some cls/\m ds=.err c/\Ext Hi1 H1 Hi2 H2) hr I1.env0 (by have:=b s1 us I1.kIn (by rw[Vg];exact hl);rwa [Vg] at this) r ?_) fun res s' hq'=>?_)
 ·refine⟨by rw[hd.length];exact ln ds hm,Hi1,ds,tb.ext (R.ext.trans e1),e1.s,hd,?_⟩
  cases z:m ds with
  | no=>exact absurd z hm
  | err c'=>exact fun C hC Hi2 H2 e2=>⟨c',Hi2,hC,rfl,e2⟩
  | ok rr=>
   cases rr with
   | v d=>exact fun v Hi2 H2 e2 r2=>hq _ v Hi2 H2 z (e1.trans e2) r2
   | f es=>
    intro a' Hi2 H2 e2 n;obtain⟨n1,n2,xs,n3,n4⟩:=n;exact hq _ (.ref a') (upd Hi2 a' (.lst xs)) H2 z (e1.trans (e2.hold n1 n3 n2)) (.lst (SqL.of aY) (n4.mono (cX n2 _)))
 ·cases res with
  | error ev=>
   obtain⟨ea,cls,H',rfl,Fl,c',Hi2,hc,hmc,e2⟩:=hq';exact he c' _ s' hmc ⟨s1,H1,ea,cls,Hi2,H',rfl,I1,hc,Fl,e1.trans e2,e1.h⟩
  | ok fl=>
   cases fl with
   | ret u=>exact I1.after hq'
   | next=>exact False.elim hq'
   | brk=>exact False.elim hq'
   | cont=>exact False.elim hq'
theorem zKE{α:Type}{r:Res α}{β:Type}{f:α->Res β}(h:(noErr r).bind f≠.no):∃ a,r=.ok a/\(noErr r).bind f=f a:=by
 cases r with
 | ok a=>exact⟨a,rfl,rfl⟩
 | err c=>exact absurd rfl h
 | no=>exact absurd rfl h
theorem zSK{i:Nat}{y:Str}{py pos2:Pos}(hN:X.N.Nodup)(hi:X.N[i]?=some y)(hy:Loc X.env.scope y)(W:Good X G k)(c:CanM X.prog X.w X.K X.mg X.base k x ps m)(hg:Gl X x)(ha:PAd X.nox (G0 G) (e::es) fs)
  (hdb:(x==("__debug__" : Str))=false:=by decide) (hst:starEach (e::es) X.env=(false,eval e X.env)::starEach es X.env:=by rfl) (hpl:(backTo pos (starEach es X.env)).any (·.1)=false:=by rfl)
  (hs2:swapsWith (.Call (.Name x p) (e::es) [] pos) (some (.Name y py)) pos2.line X.env=pure false:=by rfl) (hfn:X.fn y=true∨X.env.scope.names.lookup y=some .local:=by first | exact .inl rfl | exact .inr rfl | assumption):
  PSx X G (.Assign [.Name y py] (.Call (.Name x p) (e::es) [] pos) pos2) (zRz i m fs):=fun Mi s σ H E ρ Hi Et I R hn hf he=>by
 unfold zRz at hn hf he;obtain⟨ds,hds,heq⟩:=zKE hn;rw[heq] at hn hf he;have hm:m ds≠.no:=fun z=>by rw[z] at hn;exact hn rfl
 refine Ju (wpAny_mono (zSA (Q:=fun v H'=>E.nx (σ.set i (some v)) H') W.tb c W.room hg ha I R hds hm (fun r v Hi' H' z e1 rv=>?_) (fun c' ev s' z q=>he c' ev s' (by rw[z];rfl) q) hdb hst hpl) (fun v s1 q=>?_) fun _ _ z=>z) hs2
 ·rw[z] at hf
  exact(show Fin X G Hi E (.ok (.nx (ρ.set i (.val r.d)))) from hf) _ Hi' H' e1.i ((R.grow e1).set rv)
 ·obtain⟨v',H1,I1,r1,q1⟩:=q
  exact oD I1 hN hi hy r1 (fun s2 I2=>⟨_,H1,I2,q1⟩) hfn
end
end L3
namespace L3
open PySem PySem.Spec PyProof.Rows L2 PySem.W
unseal PEd PEf PTd PWd PAd PSd eX POd PGd jV PId PSx mQ
section
variable{X:Cx}{G:Gx}{k:Nat}{fb fh:Sv}{body suite:List Ji}{b₀:Ji}{ce n:Str}{np hpos pos:Pos}{i:Nat}{tb:List Str}
def Cat(K:Frag)(mg:Str->Option Ja)(ce c:Str):Prop:=∃ C CE,mg c=some (.ref C)/\mg ce=some (.ref CE)/\ExK K C/\CaK K CE/\mroIn K C (.ref CE)=some true
structure GoodH (X:Cx):Prop where
 u:X.A.units+64<cLine
theorem Rel.setExc{K:Fg_}{mg:Str->Option Ja}{B Bi Hi H:Hp}{σ:St}{ρ:Rho}{a C:Jc}{c:Str}(R:Rel K mg B Bi Hi H σ ρ)(hn:H a=none)(hB:B a=none)(hc:mg c=some (.ref C)):
  Rel K mg B Bi Hi (upd H a (.ext (zIR a C))) (σ.set i (some (.ref a))) (ρ.set i (.exc c)) where
 len:=by rw[Q6,Q6];exact R.len
 ext:=R.ext.trans (Ext.newF R.s hn)
 slot:=fun j s q=>by
  by_cases z:i=j
  ·subst z
   by_cases hl:i<ρ.length
   ·rw[Q9 hl] at q;cases q
    exact⟨a,C,by rw[Q9 (by rw[R.len];exact hl)],aY,R.s.none hn,hB,hc⟩
   ·rw[Qz (by rw[Q6];omega)] at q;cases q
  ·rw[Q7 z] at q ⊢
   exact(R.slot j s q).ext (Ext.newF R.s hn)
 dist:=fun j l b es fs q1 q2 q3 q4=>by
  have nx:∀ {j:Nat} {es:List D},(ρ.set i (.exc c))[j]?=some (.own es)->i≠j:=fun {j es} q e=>by
   subst e;by_cases hl:i<ρ.length
   ·rw[Q9 hl] at q;cases q
   ·rw[Qz (by rw[Q6];omega)] at q;cases q
  have n1:=nx q1;have n2:=nx q2;rw[Q7 n1] at q1 q3;rw[Q7 n2] at q2 q4;exact R.dist j l b es fs q1 q2 q3 q4
theorem Rel.gone{K:Fg_}{mg:Str->Option Ja}{B Bi Hi H:Hp}{σ:St}{ρ:Rho}(R:Rel K mg B Bi Hi H σ ρ):Rel K mg B Bi Hi H (σ.set i none) (ρ.set i .un) where
 len:=by rw[Q6,Q6];exact R.len
 ext:=R.ext
 slot:=fun j s q=>by
  by_cases z:i=j
  ·subst z
   by_cases hl:i<ρ.length
   ·rw[Q9 hl] at q;cases q;trivial
   ·rw[Qz (by rw[Q6];omega)] at q;cases q
  ·rw[Q7 z] at q ⊢
   exact R.slot j s q
 dist:=fun j l b es fs q1 q2 q3 q4=>by
  have nx:∀ {j:Nat} {es:List D},(ρ.set i .un)[j]?=some (.own es)->i≠j:=fun {j es} q e=>by
   subst e;by_cases hl:i<ρ.length
   ·rw[Q9 hl] at q;cases q
   ·rw[Qz (by rw[Q6];omega)] at q;cases q
  have n1:=nx q1;have n2:=nx q2;rw[Q7 n1] at q1 q3;rw[Q7 n2] at q2 q4;exact R.dist j l b es fs q1 q2 q3 q4
theorem zSi(W:Good X G k)(O:Own X)(hT:∀ c,tb.contains c=true->Cat X.K X.mg ce c)(hg:Gl X ce)(hN:X.N.Nodup)(hi:X.N[i]?=some n)(hk:X.env.scope.names.lookup n=some .local)
  (hb:mQ X G body fb) (hh:∀ ea,GoodH (oO X ea)->eX (oO X ea) (G0 G) (b₀::suite) fh) (hd:(ce==("__debug__" : Str))=false:=by decide):
  PSd X G (.Try body [.ExceptHandler (some (.Name ce np)) (some n) (b₀::suite) hpos] [] [] pos) (zRq tb i fb fh):=by
 intro Mi s σ H E I q;obtain⟨ρ,Hi,R,h⟩:=q;unfold zRq at h;have hno:fb ρ≠.no:=fun z=>by rw[z] at h;exact h
 refine wpAny_Try_except ?_
 refine wpAny_mono (hb Mi s σ H E ρ Hi _ I R hno ?_ ?_) (fun f s1 q=>?_) fun _ _ z=>z
 ·cases z:fb ρ with
  | no=>exact absurd z hno
  | err c=>trivial
  | ok f=>rw[z] at h;exact h
 ·rintro c ev s' z ⟨s1,H1,ea,cls,Hi',H',rfl,I1,hc,F,e1,sm⟩
  rw[z] at h
  have h:Fin X G Hi E (if tb.contains c=true then (match fh (ρ.set i (.exc c)) with
   | .ok (.nx ρ')=>.ok (.nx (ρ'.set i .un))
   | _=>.no) else .no):=h
  by_cases htb:tb.contains c=true
  ·rw[Jk htb] at h
   obtain⟨C,CE,m1,m2,T1,T2,T3⟩:=hT c htb;rw[m1] at hc;cases hc;obtain⟨B,a0,hf,cov⟩:=F.fly;have hst:X.stack=X.env::X.outer:=O.stk;have hfr:X.A.frames=some (X.env::X.outer):=by rw[I1.ok.frames,hst]
   have hf1:=hf;rw[hst] at hf1;refine wpAny_looks_onW hfr O.fr hf1 fun h4 held4 up4=>?_
   refine wpAny_landsW held4 fun h5 fly5 up5=>?_
   have up5':=up4.trans up5;have fly5':Heap.FlyingW B X.stack ea (.ref C) a0 h5:=by rw[hst];exact fly5
   have I5:=Fly.stay I1 F hf cov fly5' up5' (t':=s'.toks);have tyAt:∀ {h6:Je},Heap.FlyingW B X.stack ea (.ref C) a0 h6->zNK ea C h6:=fun z=>z.there
   refine wpAny_handleBy_cons (codeAny_handlers_test (vN (X:=oO X ea) (I5.clause ea) hg m2 ?_ hd)) (by intro q;cases q)
   refine zIc T2 T3 I5.kIn (tyAt fly5') ?_
   refine codeAny_handlers_suite_as ?_
   refine lands_againW fly5' fun h6 fly6 up6=>?_
   have I6:=Fly.stay I1 F hf cov fly6 (up5'.trans up6) (t':=s'.toks);have hnew:s1.heap.get? ea=none:=F.new;have here:∀ {b:Jc} {o:Obj},s1.heap.get? b=some o->b≠ea:=fun {b o} e z=>by rw[z,hnew] at e;cases e
   have hs0:X.s₀.heap.get? ea=none:=by
    cases q:X.s₀.heap.get? ea with
    | none=>rfl
    | some o=>
     obtain⟨o1,e1⟩:=I1.there0 O q;rw[hnew] at e1;cases e1
   have hloc:ea≠X.env.locals:=by
    obtain⟨_,⟨o,_,_,ho,_⟩,_⟩:=I1.loc;exact Ne.symm (here ho)
   have hcell:∀ x c,X.env.cells.lookup x=some c->c≠ea:=fun x c e=>by
    obtain⟨v,o,ho,_⟩:=I1.cell x c e;exact here ho
   have hpin:∀ p∈X.pn++Mi,p.1≠ea:=fun p hp=>here (I1.pin p hp).1
   obtain⟨oe,vs,q1,q2,q3,_⟩:=fly6.first;have I7:=I6.track (o:=.ext (zIR ea C)) F.ne hs0 hloc hcell hpin ⟨⟨oe,vs,q1,q2,q3⟩,⟨oe,q1⟩,fun g1 g2 ⟨o,vs,p1,p2,p3⟩ k=>⟨o,vs,k o p1,p2,p3⟩⟩
   have hB:G.B ea=none:=by
    cases q:G.B ea with
    | none=>rfl
    | some o=>
     obtain⟨o',z2⟩:∃ o',H1 ea=some o':=by
      rcases (R.ext.h.trans sm).k _ _ q with z | ⟨_,ps',_,z⟩
      ·exact⟨_,z⟩
      ·exact⟨_,z⟩
     obtain⟨ob,z3⟩:=(I1.hok ea o' z2).here;rw[hnew] at z3;cases z3
   have R7:=(R.grow e1).setExc (i:=i) F.ne hB m1;refine oD I7 hN hi (.inl hk) (v:=.ref ea) rfl (fun s7 I8=>?_) (.inr hk)
   have WH:GoodH (oO X ea):=⟨W.u⟩
   have hfin:∃ ρ',fh (ρ.set i (.exc c))=.ok (.nx ρ')/\Fin X G Hi E (.ok (.nx (ρ'.set i .un))):=by
    cases zz:fh (ρ.set i (.exc c)) with
    | no=>rw[zz] at h;exact h.elim
    | err c'=>rw[zz] at h;exact h.elim
    | ok fl=>
     rw[zz] at h
     cases fl with
     | nx ρ'=>exact⟨ρ',rfl,h⟩
     | brk ρ'=>exact h.elim
     | ctn ρ'=>exact h.elim
     | ret r=>exact h.elim
   obtain⟨ρ',zf,hend⟩:=hfin
   have hE:=hh ea WH Mi s7 (σ.set i (some (.ref ea))) _ { nx:=fun σ' H2=>E.nx (σ'.set i none) H2,rt:=fun _ _=>False } (I8.clause ea) ⟨ρ.set i (.exc c),Hi',R7,by
    rw[zf]
    exact fun σ2 Hi2 H2 s2 R2=>hend (σ2.set i none) Hi2 H2 (e1.i.trans s2) (Rel.gone (i:=i) (show lV X G Hi2 H2 σ2 ρ' from R2))⟩
   refine wpAny_mono hE (fun fl s8 q=>?_) fun _ _ z=>False.elim z
   cases fl with
   | next=>
    obtain⟨σ2,H2,I9,q⟩:=q;exact zNz (Inv.unclause I.ok I9) hN hi hk fun s9 I10=>⟨_,H2,I10,q⟩
   | ret v=>obtain⟨_,_,_,_,_,q⟩:=q;exact q.elim
   | brk=>obtain⟨_,_,_,q⟩:=q;exact q.elim
   | cont=>obtain⟨_,_,_,q⟩:=q;exact q.elim
  ·rw[Jl htb] at h;exact h.elim
 ·cases f with
  | next=>exact Jp q
  | ret v=>exact q
  | brk=>exact q
  | cont=>exact q
end
def zPI(mg:Str->Option Ja)(x:Str)(v:V)(cv:Ja):Prop:=dH v cv/\(mg x=some cv∨(mg x=none/\bootBuiltins x=some cv/\x ≠ "__name__"))
def EK(K:Frag)(mg:Str->Option Ja)(anc:List (Str×List Str))(xs:List Str):Prop:=
 ∀ c l,anc.lookup c=some l->∃ C,mg c=some (.ref C)/\ExK K C/\∀ x,xs.contains x=true->∃ v cv,zPI mg x v cv/\(∃ z,(v=.ref z∨∃ T,v=.ty T))/\kitOne K (.ref C) cv=some (l.contains x)
section
variable{X:Cx}{G:Gx}{a:Expr}{p q pos:Pos}{i:Nat}{anc:List (Str×List Str)}{xs:List Str}{x:Str}
theorem zMp{v:V}{cv:Ja}(h:zPI X.mg x v cv)(hg:Gl X x)(hd:(x==("__debug__" : Str))=false):PE X (.Name x q) (tC v):=by
 obtain⟨r,h | ⟨h1,h2,h3⟩⟩:=h
 ·exact zDZ hg h r hd
 ·exact vJ hg h1 h2 r h3 hd
theorem zQc:qC X (.builtin "isinstance") (fun us H Q=>∃ a C v cv b,us=[.ref a,v]/\H a=some (.ext (zIR a C))/\ExK X.K C/\dH v cv/\kitOne X.K (.ref C) cv=some b/\Q (.bl b) H):=by
 intro Mi s σ H us ws Q I r h;obtain⟨a,C,v,cv,b,rfl,ha,T,rv,e,q⟩:=h;obtain⟨u,w',rfl,rx,rc⟩:=zLG r;cases (show u=Value.ref a from rx)
 obtain⟨⟨o,vs,h1,h2,h3⟩,_⟩:=I.hok a _ ha
 have e1:w'=cv:=by
  cases v with
  | ref z=>cases (show w'=Value.ref z from rc);cases (show cv=Value.ref z from rv);rfl
  | ty z=>cases (show w'=Value.type z from rc);cases (show cv=Value.type z from rv);rfl
  | non=>cases (show w'=Value.none from rc);cases (show cv=Value.none from rv);rfl
  | bl z=>cases (show w'=Value.bool z from rc);cases (show cv=Value.bool z from rv);rfl
  | _=>
   exfalso
   obtain⟨t,rfl⟩:=rv;unfold kitOne at e;rw[Jl (by intro z;cases (beq_iff_eq.mp z))] at e;simp[kitCls] at e
 subst e1;exact X2 (zFU T) I.kIn ⟨o,h1,h2⟩ e (fun z=>nomatch z) fun tk=>⟨.bl b,H,I.tok _,rfl,q⟩
theorem zIU(hK:EK X.K X.mg anc xs)(hx:xs.contains x=true)(hgi:Gl X "isinstance")(hm:X.mg "isinstance" = none)(hv:PE X a (zDE i))(hg:Gl X x)(hd:(x==("__debug__" : Str))=false:=by decide)
  (h1:starEach [a,.Name x q] X.env=(false,eval a X.env)::starEach [.Name x q] X.env:=by rfl) (h2:starEach [.Name x q] X.env=(false,eval (.Name x q) X.env)::starEach [] X.env:=by rfl) (hpl:(backTo pos (starEach [.Name x q] X.env)).any (·.1)=false:=by rfl):
  PEd X G (.Call (.Name "isinstance" p) [a,.Name x q] [] pos) (zKx anc i [x]):=by
 intro Mi s σ H Q I w;obtain⟨ρ,Hi,R,ou⟩:=w;unfold zKx at ou
 cases z:ρ[i]? with
 | none=>rw[z] at ou;exact ou.elim
 | some sl=>
  rw[z] at ou
  cases sl with
  | exc c=>
   obtain⟨ad,C,o1,o2,o3,o4,o5⟩:=R.slot i _ z
   cases zl:anc.lookup c with
   | none=>simp only[zl] at ou;exact ou.elim
   | some l=>
    simp only[zl] at ou;obtain⟨C',m1,T,hxs⟩:=hK c l zl;rw[o5] at m1;cases m1;obtain⟨v,cv,hcl,_,hk⟩:=hxs x hx;refine rJ zQc hgi hm Ma (gA hv (gA (zMp hcl hg hd) nT h2) h1) (by decide) (by decide) h1 hpl Mi s σ H Q I ?_
    refine⟨.ref ad,o1,ad,C,v,cv,_,rfl,o2,T,hcl.1,hk,?_⟩
    have:=ou.here R.s (.bl (l.contains x)) (by simpa using IsD.bl (l.contains x))
    exact this
  | un=>exact ou.elim
  | val d=>exact ou.elim
  | own ds=>exact ou.elim
  | tab T=>exact ou.elim
inductive NmL (X:Cx) (xs:List Str):List Expr->List Str->Prop where
 | nil:NmL X xs [] []
 | cons {x:Str} {q:Pos} {es:List Expr} {cs:List Str}:xs.contains x=true->Gl X x->(x==("__debug__" : Str))=false->starEach (.Name x q::es) X.env=(false,eval (.Name x q) X.env)::starEach es X.env->NmL X xs es cs->NmL X xs (.Name x q::es) (x::cs)
theorem NmL.vals{K:Frag}{C:Jc}{l:List Str}(hx:∀ x,xs.contains x=true->∃ v cv,zPI X.mg x v cv/\(∃ z,(v=.ref z∨∃ T,v=.ty T))/\kitOne K (.ref C) cv=some (l.contains x)):
  ∀ {es:List Expr} {cs:List Str},NmL X xs es cs->∃ vs cvs,PA X es (fun _ H Q=>Q vs H)/\vs.length=es.length/\dS vs cvs/\(∀ ws,dS vs ws->ws=cvs)/\kitAny K (.ref C) cvs=some (cs.any fun x=>l.contains x)
 | _,_,.nil=>⟨[],[],nT,rfl,.nil,fun ws r=>by cases r;rfl,rfl⟩
 | _,_,.cons (x:=x) (q:=q) h1 h2 h3 h4 t=>by
  obtain⟨vs,cvs,p1,p0,p2,p3,p4⟩:=NmL.vals hx t;obtain⟨v,cv,hcl,⟨z,hv⟩,hk⟩:=hx x h1;refine⟨v::vs,cv::cvs,gA (zMp hcl h2 h3) p1 h4,by rw[Qm,Qm,p0],.cons hcl.1 p2,fun ws r=>?_,?_⟩
  ·cases r with
   | cons r1 r2=>
    rw[p3 _ r2];congr 1
    have hr:=hcl.1;rcases hv with rfl | ⟨T,rfl⟩
    ·rw[show _=Value.ref z from r1,show cv=Value.ref z from hr]
    ·rw[show _=Value.type T from r1,show cv=Value.type T from hr]
  ·unfold kitAny
   rw[hk,Wb]
   cases l.contains x with
   | true=>rfl
   | false=>exact p4
theorem zNa:qC X (.builtin "isinstance") (fun us H Q=>∃ a C tp vs cvs b,us=[.ref a,.ref tp]/\H a=some (.ext (zIR a C))/\ExK X.K C/\SqT X.K H tp vs/\(∀ ws,dS vs ws->ws=cvs)/\kitAny X.K (.ref C) cvs=some b/\Q (.bl b) H):=by
 intro Mi s σ H us ws Q I r h;obtain⟨a,C,tp,vs,cvs,b,rfl,ha,T,ht,hu,e,q⟩:=h;obtain⟨u,w',rfl,rx,rc⟩:=zLG r;cases (show u=Value.ref a from rx)
 cases (show w'=Value.ref tp from rc)
 obtain⟨⟨o,vs',h1,h2,h3⟩,_⟩:=I.hok a _ ha;obtain⟨its,rv,⟨⟨oc,od,odt,osl⟩,t1,t2,n,t3⟩,hz⟩:=I.tuple ht;have:=hu its rv
 subst this;simp only at t2 t3
 subst t2 t3;exact PySem.W.kia_tup (zFU T) I.kIn ⟨o,h1,h2⟩ t1 e (fun z=>nomatch z) fun tk=>⟨.bl b,H,I.tok _,rfl,q⟩
theorem zNH{es:List Expr}{cs:List Str}{k1:Nat}{tp:Pos}(hK:EK X.K X.mg anc xs)(hn:NmL X xs es cs)(hgi:Gl X "isinstance")(hm:X.mg "isinstance" = none)(hv:PE X a (zDE i))(hlen:es.length<=100)
  (h1:starEach [a,.Tuple es k1 tp] X.env=(false,eval a X.env)::starEach [.Tuple es k1 tp] X.env:=by rfl) (h2:starEach [.Tuple es k1 tp] X.env=(false,eval (.Tuple es k1 tp) X.env)::starEach [] X.env:=by rfl) (hpl:(backTo pos (starEach [.Tuple es k1 tp] X.env)).any (·.1)=false:=by rfl):
  PEd X G (.Call (.Name "isinstance" p) [a,.Tuple es k1 tp] [] pos) (zKx anc i cs):=by
 intro Mi s σ H Q I w;obtain⟨ρ,Hi,R,ou⟩:=w;unfold zKx at ou
 cases z:ρ[i]? with
 | none=>rw[z] at ou;exact ou.elim
 | some sl=>
  rw[z] at ou
  cases sl with
  | exc c=>
   obtain⟨ad,C,o1,o2,o3,o4,o5⟩:=R.slot i _ z
   cases zl:anc.lookup c with
   | none=>simp only[zl] at ou;exact ou.elim
   | some l=>
    simp only[zl] at ou;obtain⟨C',m1,T,hxs⟩:=hK c l zl;rw[o5] at m1;cases m1;obtain⟨vs,cvs,pa,hl0,rv,hu,hk⟩:=NmL.vals (K:=X.K) (C:=C) (l:=l) hxs hn;have hl:vs.length<=100:=by rw[hl0];exact hlen
    refine rJ zNa hgi hm Ma (gA hv (gA (zMO pa) nT h2) h1) (by decide) (by decide) h1 hpl Mi s σ H Q I ?_
    refine⟨.ref ad,o1,Q5 hl (by decide),fun t ht=>⟨ad,C,t,vs,cvs,_,rfl,?_,T,SqT.of aY,hu,hk,?_⟩⟩
    ·rw[bB (bC o2 ht)];exact o2
    ·exact ou _ _ (Ext.newF R.s ht) (.bl _) (.bl _)
  | un=>exact ou.elim
  | val d=>exact ou.elim
  | own ds=>exact ou.elim
  | tab T=>exact ou.elim
end
theorem zP{α β:Type}[BEq α][LawfulBEq α]{a:α}{b:β}:∀ {l:List (α×β)},l.lookup a=some b->(a,b)∈l
 | [],h=>by cases h
 | (x,y)::l,h=>by
  rw[Vw] at h;split at h
  ·rename_i e
   cases h;rw[beq_iff_eq.mp e];exact Qb
  ·exact Qc _ (zP h)
section
variable{K:Frag}{h:Je}{mg:Str->Option Ja}{x c ce:Str}{C CE:Jc}
theorem uC{newId:String}{bmB:List Ja}{B initId:String}(X:K.In h)(G:h.Ns mainGlobals mg)(e:nsIn K mainGlobals x=some (some (.ref C)))(q:excIn K C bmB newId=true)(F:ExcBaseFacts B newId initId bmB):∃ C,Err K mg x C:=by
 refine⟨C,⟨fun h' X'=>⟨bmB,newId,B,initId,⟨mg_of X G e,?_⟩,F⟩⟩⟩
 unfold excIn at q;split at q
 ·rename_i dd cd sl ho
  split at q
  ·rename_i C' bm k0 k1 k2 k3 n k5 hm hs
   simp only[V4,beq_iff_eq,Bool.not_eq_true'] at q;obtain⟨⟨⟨⟨⟨rfl,rfl⟩,hdel⟩,ht⟩,hok⟩,hni⟩:=q;obtain⟨nm,bs,mro,ns,qn,hd,sn,sub,ab,col,del⟩:=cd;dsimp only at hm hdel hok hni
   subst hm hdel
   have hsl:sl=#[k0,k1,k2,k3,some (.builtin n),k5]:=by
    obtain⟨l⟩:=sl;simp only at hs
    rw[hs]
   subst hsl;exact⟨bm,ns,nm,qn,bs,hd,sn,sub,ab,col,dd,k0,k1,k2,k3,k5,_,X' _ _ ho,.of_isNs (isNs_of_in X' hok),nsMap_none_of_in X' hok hni,tail_of_in X' ht⟩
  ·cases q
 ·cases q
theorem zMF(q:hasDictIn K C=true):(clsIn K C).isSome=true:=by
 obtain⟨cd,hc,_⟩:=any_some q;rw[hc];rfl
theorem zFr(h1:hasDictIn K C=true)(h2:findIn K (.ref C) "__getattribute__" = some (some (.builtin "BaseException.__getattribute__")))(h3:findIn K (.ref C) "__getattr__" = some none)(h4:findIn K (.ref C) "__class__" = some (some (.builtin "object.__class__")))
  (h5:specialIn K (.builtin "object.__class__") "__get__" = some (some (.builtin "getset_descriptor.__get__"))) (h6:takesIn K (.builtin "object.__class__")=some true) (h7:mroIn K C (.type "object")=some true) (h8:mroIn K C (.type "BaseException")=some true):ExK K C:=
 ⟨zMF h1,h2,h3,h4,h5,h6,h7,h8⟩
theorem zMt(h1:typeIn K (.ref CE)=some (.type "type"))(h2:hasDictIn K CE=true)(h3:mroIn K CE (.type "BaseException")=some true):CaK K CE:=⟨h1,zMF h2,h3⟩
theorem cA(X:K.In h)(G:h.Ns mainGlobals mg)(e:nsIn K mainGlobals x=some (some (.ref C))):zPI mg x (.ref C) (.ref C):=⟨rfl,.inl (mg_of X G e)⟩
theorem zFu{T:String}(X:K.In h)(G:h.Ns mainGlobals mg)(e:nsIn K mainGlobals x=some none)(hb:bootBuiltins x=some (.type T))(hn:x ≠ "__name__"):zPI mg x (.ty T) (.type T):=⟨rfl,.inr ⟨mg_none_of X G e,hb,hn⟩⟩
end
def zEs(env:Env):List (Str×NameKind)->List (Str×Jc)->List (Str×Jc)
 | [],cs=>cs
 | (n,k)::r,cs=>zEs env r (if k==.free then (n,(env.cells.lookup n).getD 0)::cs else cs)
theorem zMy{env:Env}:∀(l:List (Str×NameKind))(cs:List (Str×Jc)),(∀ p∈l,p.2=.free->∃ c,env.cells.lookup p.1=some c)->
  (forIn l cs (fun p (r:List (Str×Jc))=>if (p.2==NameKind.free)=true then (do let a <-cellOf env p.1;pure (ForInStep.yield ((p.1,a)::r))) else pure (ForInStep.yield r)):Sem (List (Str×Jc)))=pure (zEs env l cs)
 | [],cs,_=>by simp[zEs]
 | (n,k)::r,cs,h=>by
  rw[Uc,zEs];have ih:=fun cs=>zMy r cs fun p hp=>h p (Qc _ hp)
  by_cases e:(k==NameKind.free)=true
  ·obtain⟨c,hc⟩:=h (n,k) Qb (beq_iff_eq.mp e)
   simp only[e,if_true,cellOf,hc,pure_bind,Option.getD_some];exact ih _
  ·simp only[e,X3,if_false,pure_bind]
   exact ih _
theorem zLU{env:Env}{scope:Scope}(h:∀ p∈scope.names,p.2=.free->∃ c,env.cells.lookup p.1=some c):closureFor scope env=pure (zEs env scope.names []):=by
 have:=zMy scope.names [] h
 unfold closureFor;rw[<-this];simp
theorem wP{env:Env}:∀(l:List (Str×NameKind))(cs:List (Str×Jc)),(∀ p∈l,p.2=.free->∃ c,env.cells.lookup p.1=some c)->(∀ y c,cs.lookup y=some c->env.cells.lookup y=some c)->
  ∀ y c,(zEs env l cs).lookup y=some c->env.cells.lookup y=some c
 | [],cs,_,h,y,c,e=>h y c e
 | (n,k)::r,cs,hl,h,y,c,e=>by
  rw[zEs] at e;refine wP r _ (fun p hp=>hl p (Qc _ hp)) (fun y c e=>?_) y c e
  by_cases z:(k==NameKind.free)=true
  ·obtain⟨c',hc⟩:=hl (n,k) Qb (beq_iff_eq.mp z)
   simp only[z,if_true,Vw,hc,Option.getD_some] at e
   cases w:y==n with
   | true=>rw[w] at e;cases e;rw[beq_iff_eq.mp w];exact hc
   | false=>rw[w] at e;exact h y c e
  ·simp only[z,X3,if_false] at e
   exact h y c e
theorem zFp{env:Env}:∀(l:List (Str×NameKind))(cs:List (Str×Jc))(y:Str),(∃ c,cs.lookup y=some c)->∃ c,(zEs env l cs).lookup y=some c
 | [],cs,y,h=>h
 | (n,k)::r,cs,y,⟨c,h⟩=>by
  rw[zEs];refine zFp r _ y ?_
  split
  ·rw[Vw]
   cases y==n with
   | true=>exact⟨_,rfl⟩
   | false=>exact⟨c,h⟩
  ·exact⟨c,h⟩
theorem vY{env:Env}:∀(l:List (Str×NameKind))(cs:List (Str×Jc))(y:Str),(y,NameKind.free)∈l->∃ c,(zEs env l cs).lookup y=some c
 | (n,k)::r,cs,y,h=>by
  rw[zEs];rcases Qd.mp h with e | h
  ·cases e
   refine zFp r _ _ ⟨(env.cells.lookup n).getD 0,?_⟩
   simp only[beq_self_eq_true,if_true,Vw]
  ·exact vY r _ y h
theorem cC{α:Type}:∀ {l:List (Str×α)} {y:Str} {k:α},l.lookup y=some k->(y,k)∈l
 | (n,k')::r,y,k,h=>by
  rw[Vw] at h
  cases z:y==n with
  | true=>rw[z] at h;cases h;rw[beq_iff_eq.mp z];exact Qb
  | false=>rw[z] at h;exact Qc _ (cC h)
theorem cQ{env:Env}:∀ {l:List (Str×NameKind)} {y:Str} {k:NameKind},
  (l.map fun(n,k)=>if (k==NameKind.free && env.scope.kind==.function && env.kindOf n==some .cell) then (n,NameKind.cell) else (n,k)).lookup y=some k->
  l.lookup y=some k∨(k=.cell/\l.lookup y=some .free)
 | (n,k')::r,y,k,h=>by
  rw[Qu] at h;rw[Vw];by_cases c:(k'==NameKind.free && env.scope.kind==.function && env.kindOf n==some .cell)=true
  ·simp only[c,if_true,Vw] at h
   cases z:y==n with
   | true=>
    rw[z] at h;cases h;refine .inr ⟨rfl,?_⟩
    simp only[V4] at c;rw[beq_iff_eq.mp c.1.1]
   | false=>rw[z] at h;exact cQ h
  ·simp only[c,X3,if_false,Vw] at h
   cases z:y==n with
   | true=>rw[z] at h;exact .inl h
   | false=>rw[z] at h;exact cQ h
def msk(x y:Str):Str:=if y=x then ("" : Str) else y
structure BlkOk (X:Cx) (x:Str) (scope:Scope):Prop where
 kind:scope.kind=.function
 cell:∀ y∈scope.names,y.2≠.cell
 loc:scope.names.lookup x=some .local
 names:∀ y∈scope.names,y.2=.local->scope.names.lookup y.1=some .local
 fre:∀ p∈scope.names,p.2=.free->X.env.kindOf p.1=some .cell∨X.env.kindOf p.1=some .free
 oth:∀ y∈X.N,y≠x->scope.names.lookup y≠some .local
 emp:scope.names.lookup ("" : Str)=none
def cxC(X:Cx)(x:Str)(scope:Scope)(C:Jc)(s₂:Jb)(H₂:Hp)(fp:List Jc):Cx:=
  { prog:=X.prog,w:=X.w,K:=X.K,mg:=X.mg,base:=X.base,A:=X.A,N:=X.N.map (msk x)++[x],s₀:=s₂,H₀:=H₂,env:=compEnvC scope (zEs X.env scope.names []) C X.env,outer:=X.stack,stack:=X.stack,
    ex:=fp,fn:=fun _=>false,calm:=X.calm,pn:=X.pn,xe:=fun _ _=>False }
section
variable{X:Cx}{Mi:List (Jc×Obj)}{σ:St}{H:Hp}{s₂:Jb}{x:Str}{scope:Scope}{fp:List Jc}{D C:Jc}{h₁:Je}
theorem BlkOk.cl(B:BlkOk X x scope)(I:Inv X Mi σ H s₂):∀ p∈scope.names,p.2=.free->∃ c,X.env.cells.lookup p.1=some c:=fun p hp e=>I.ok.has p.1 (B.fre p hp e)
theorem zRW(I:Inv X Mi σ H s₂)(B:BlkOk X x scope)(hfp:∀ b∈fp,uI X Mi H b)(hfl:∀ b∈fp,b<s₂.heap.objs.size)(hD:s₂.heap.objs.size<=D)(hC:s₂.heap.objs.size<=C)(hDC:D≠C)
  (old:∀ b o,s₂.heap.get? b=some o->h₁.get? b=some o) {n:Nat} (hacc:h₁.get? D=some { cls:=.type "list", data:=.seq ([]:List Ja).toArray n }) {m:Str->Option Ja} (hns:h₁.Ns C m) (t:Nat):
  Inv (cxC X x scope C s₂ H fp) Mi (σ++[none]) (upd H D (.lst [])) { s₂ with heap:=h₁,toks:=t }:=by
 have sub:=wP scope.names [] (B.cl I) (fun y c e=>nomatch e)
 have old_lt:∀ {b:Jc} {o:Obj},s₂.heap.get? b=some o->b≠D/\b≠C:=fun e=>⟨Qq (Qn (Heap.lt_size e) hD),Qq (Qn (Heap.lt_size e) hC)⟩
 have free:∀ {b:Jc},b≠D->H b=none->upd H D (.lst []) b=none:=fun n e=>by rw[bB n];exact e
 refine⟨⟨I.ok.mod,B.kind,I.ok.glob,I.ok.blt,hC,fun y z c e1 e2=>I.ok.inj y z c (sub y c e1) (sub z c e2),fun y hy=>?_,fun y c e=>(nomatch e),I.ok.hd,I.ok.frames,.inl rfl,fun b hb=>⟨Qq (Qn (hfl b hb) hC),fun y c e=>(hfp b hb).2.2.2.2.1 y c (sub y c e)⟩,
  I.bs,Q5 I.ok.bsz I.sz,fun b o e hb=>?_,fun b hb z=>?_,I.stack,I.stkFree⟩,rfl,I.bare,Un.laid old hD (I.hok.fresh hD),⟨m,hns,fun i y v e1 e2 e3=>?_⟩,fun y c e=>?_,free (Ne.symm hDC) (I.hok.fresh hC),fun y c e=>?_,fun p hp=>?_,I.hok.laid old hD ⟨V9 _,[],n,.nil,hacc⟩,?_⟩
 ·have:∃ k,(k=NameKind.cell∨k=NameKind.free)/\((relabel scope X.env).names).lookup y=some k:=hy.elim (fun h=>⟨_,.inl rfl,h⟩) fun h=>⟨_,.inr rfl,h⟩
  obtain⟨k,hk,e⟩:=this
  have e':(y,NameKind.free)∈scope.names:=by
   rcases cQ e with z | ⟨_,z⟩
   ·rcases hk with rfl | rfl
    ·exact absurd rfl (B.cell _ (cC z))
    ·exact cC z
   ·exact cC z
  exact vY scope.names [] y e'
 ·rcases (hfp b hb).2.2.2.1 with z | z
  ·exact I.ok.noex b o e z
  ·exact absurd (Qn (Heap.lt_size e) (Q5 I.ok.bsz z)) (Xb _)
 ·rcases Qd.mp (I.stkSub b z) with w | w
  ·exact(hfp b hb).2.1 w
  ·exact(hfp b hb).2.2.1 w
 ·
  have hi:i<σ.length:=by
   by_cases hi:i<σ.length
   ·exact hi
   ·exfalso
    rw[Vn (by omega)] at e2
    cases q:i-σ.length with
    | zero=>rw[q] at e2;cases e2
    | succ j=>rw[q] at e2;cases e2
  rw[Vk hi] at e2;have e1':(X.N.map (msk x)++[x])[i]?=some y:=e1;rw[Vk (by rw[Qg,<-I.len];exact hi),Qs] at e1'
  cases q:X.N[i]? with
  | none=>rw[q] at e1';cases e1'
  | some z=>
   rw[q] at e1';have e1'':msk x z=y:=Vj e1';have hz:z∈X.N:=Qi q;have vis:∃ k,((relabel scope X.env).names).lookup y=some k:=e3.elim (fun h=>⟨_,h⟩) fun h=>h.elim (fun h=>⟨_,h⟩) fun h=>⟨_,h⟩
   have hzx:z≠x:=fun w=>by
    obtain⟨k,hk⟩:=vis;have:y=("" : Str):=by rw[<-e1'',w];exact Jk rfl
    rw[this] at hk;rcases cQ hk with h | ⟨_,h⟩<;>(rw[B.emp] at h;cases h)
   have hy:z=y:=by rw[<-e1''];exact(Jl hzx).symm
   subst hy
   have fr:(z,NameKind.free)∈scope.names:=by
    rcases e3 with h | h | h
    ·rcases cQ h with h | ⟨h,_⟩
     ·exact absurd h (B.oth z hz hzx)
     ·cases h
    ·rcases cQ h with h | ⟨_,h⟩
     ·exact absurd rfl (B.cell _ (cC h))
     ·exact cC h
    ·rcases cQ h with h | ⟨h,_⟩
     ·exact cC h
     ·cases h
   have kd:=B.fre _ fr rfl;obtain⟨m0,hn0,hl⟩:=I.loc;obtain⟨u,ru,lk⟩:=hl i z v q e2 (kd.elim (fun h=>.inr (.inl h)) fun h=>.inr (.inr h))
   refine⟨u,ru,.inr ⟨?_,?_⟩⟩
   ·rcases e3 with h | h | h
    ·rcases cQ h with h | ⟨h,_⟩
     ·exact absurd h (B.oth z hz hzx)
     ·cases h
    ·exact .inl h
    ·exact .inr h
   ·rcases lk with⟨k1,_⟩ | ⟨_,c,hc,hcell⟩
    ·rcases kd with kd | kd<;>(rw[kd] at k1;cases k1)
    ·obtain⟨c',hc'⟩:=vY (env:=X.env) scope.names [] z fr
     have:=sub z c' hc'
     rw[hc] at this;cases this;obtain⟨o,ho,hd⟩:=hcell;exact⟨c,hc',o,old _ _ ho,hd⟩
 ·obtain⟨v,o,ho,hd⟩:=I.cell y c (sub y c e)
  exact⟨v,o,old _ _ ho,hd⟩
 ·obtain⟨v,o,ho,hd⟩:=I.cell y c (sub y c e)
  exact free (old_lt ho).1 (I.freeC y c (sub y c e))
 ·obtain⟨e,n,ne,nf,d⟩:=I.pin p hp
  refine⟨old _ _ e,free (old_lt e).1 n,(old_lt e).2,fun z=>?_,d⟩
  rcases Qd.mp (I.stkSub _ z) with w | w
  ·exact ne w
  ·exact nf w
 ·show(σ++[none]).length=(X.N.map (msk x)++[x]).length
  rw[Ql,Ql,Qg,I.len];rfl
end
section
variable{K:Fg_}{mg:Str->Option Ja}{B Bi Hi H Hi' H':Hp}{σ:St}{ρ:Rho}
theorem Rel.snoc{v:V}{d:D}(R:Rel K mg B Bi Hi H σ ρ)(h:IsD K Hi v d):Rel K mg B Bi Hi H (σ++[some v]) (ρ++[.val d]) where
 len:=by rw[Ql,Ql,R.len];rfl
 ext:=R.ext
 slot:=fun j s q=>by
  by_cases hl:j<ρ.length
  ·rw[Vk hl] at q
   rw[Vk (by rw[R.len];exact hl)];exact R.slot j s q
  ·rw[Vn (by omega)] at q
   rw[Vn (by rw[R.len];omega),R.len]
   cases z:j-ρ.length with
   | zero=>rw[z] at q;cases q;exact⟨v,rfl,h⟩
   | succ n=>rw[z] at q;cases q
 dist:=fun j k a ds es q1 q2 q3 q4=>by
  have own:∀ {j:Nat} {ds:List D},(ρ++[Sl.val d])[j]?=some (.own ds)->j<ρ.length:=fun {j ds} q=>by
   by_cases hl:j<ρ.length
   ·exact hl
   ·rw[Vn (by omega)] at q
    cases z:j-ρ.length with
    | zero=>rw[z] at q;cases q
    | succ n=>rw[z] at q;cases q
  have h1:=own q1;have h2:=own q2;rw[Vk h1] at q1;rw[Vk h2] at q2;rw[Vk (by rw[R.len];exact h1)] at q3;rw[Vk (by rw[R.len];exact h2)] at q4;exact R.dist j k a ds es q1 q2 q3 q4
theorem Ext.rewrite{a:Jc}{o:HO}(e:Ext Hi H Hi' H')(hn:H a=none)(hi:Hi' a=none)(hl:∃ xs,H' a=some (.lst xs)):Ext Hi H Hi' (upd H' a o) where
 i:=e.i
 h:=⟨fun b u z=>by rw[bB (bC z hn)];exact e.h.k _ _ z,fun P z=>by
  obtain⟨xs,hl⟩:=hl
  exact(e.h.t P z).put (fun ps y=>by rw[hl] at y;cases y) (fun ob u y=>by rw[hl] at y;cases y)⟩
 s:=fun b u z=>by rw[bB (bC z hi)];exact e.s _ _ z
 n:=e.n
theorem IsDs.snoc{v:V}{d:D}(h:IsD K H v d):∀ {vs:List V} {ds:List D},IsDs K H vs ds->IsDs K H (vs++[v]) (ds++[d])
 | _,_,.nil=>.cons h .nil
 | _,_,.cons r t=>.cons r (IsDs.snoc h t)
end
theorem zAd{α:Type}{r:Res α}{a:α}(h:noErr r=.ok a):r=.ok a:=by
 cases r with
 | ok b=>exact h
 | err c=>cases h
 | no=>cases h
theorem zGW{t:Tv}{f:Ev}{ρ:Rho}{d:D}{ds es:List D}(h:iT t f ρ (d::ds)=.ok es):
  (t (ρ++[.val d])=.ok false/\iT t f ρ ds=.ok es)∨(t (ρ++[.val d])=.ok true/\∃ e es',f (ρ++[.val d])=.ok e/\iT t f ρ ds=.ok es'/\es=e::es'):=by
 rw[iT] at h
 cases ht:noErr (t (ρ++[.val d])) with
 | no=>rw[ht] at h;cases h
 | err c=>rw[ht] at h;cases h
 | ok c=>
  rw[ht] at h;have ht':=zAd ht
  cases c with
  | false=>exact .inl ⟨ht',h⟩
  | true=>
   refine .inr ⟨ht',?_⟩
   have h':((noErr (f (ρ++[.val d]))).bind fun e=>(iT t f ρ ds).bind fun es=>.ok (e::es))=.ok es:=h
   cases hf:noErr (f (ρ++[.val d])) with
   | no=>rw[hf] at h';cases h'
   | err c=>rw[hf] at h';cases h'
   | ok e=>
    rw[hf] at h';have h'':((iT t f ρ ds).bind fun es=>.ok (e::es))=.ok es:=h'
    cases hr:iT t f ρ ds with
    | no=>rw[hr] at h'';cases h''
    | err c=>rw[hr] at h'';cases h''
    | ok es'=>
     rw[hr] at h'';cases h''
     exact⟨e,es',zAd hf,rfl,rfl⟩
theorem zBB{t:Tv}{f:Ev}{ρ:Rho}{c:Str}:∀ {ds:List D},iT t f ρ ds≠.err c
 | []=>fun h=>by cases h
 | d::ds=>fun h=>by
  rw[iT] at h
  cases ht:noErr (t (ρ++[.val d])) with
  | no=>rw[ht] at h;cases h
  | err c=>cases q:t (ρ++[.val d])<;>(rw[q] at ht;cases ht)
  | ok b=>
   rw[ht] at h
   cases b with
   | false=>exact zBB h
   | true=>
    have h':((noErr (f (ρ++[.val d]))).bind fun e=>(iT t f ρ ds).bind fun es=>.ok (e::es))=.err c:=h
    cases hf:noErr (f (ρ++[.val d])) with
    | no=>rw[hf] at h';cases h'
    | err c=>cases q:f (ρ++[.val d])<;>(rw[q] at hf;cases hf)
    | ok e=>
     rw[hf] at h'
     cases hr:iT t f ρ ds with
     | no=>simp only[Res.bind,hr] at h';cases h'
     | err c'=>exact zBB hr
     | ok es=>simp only[Res.bind,hr] at h';cases h'
@[irreducible] def PTs (X:Cx) (G:Gx) (ifs:List Expr) (t:Tv):Prop:=
 ∀(Mi:List (Jc×Obj))(s:Jb)(σ:St)(H:Hp)(Q:Bool->Hp->Prop),Inv X Mi σ H s->tTb X G t σ H Q->
  wpAny (model X.prog X.w) X.A (forIn ifs true fun c r=>if r=true then do let ok <-isTrue c X.env (eval c X.env);pure (ForInStep.yield ok) else pure (ForInStep.yield r)) (TP X Mi σ Q) X.xe s
unseal PTs
theorem jZ{X:Cx}{G:Gx}:PTs X G [] jO:=fun Mi s σ H Q I ⟨ρ,Hi,R,o⟩=>wpAny_tests_nil ⟨H,I,Out.here (a:=true) o R.s⟩
end L3
namespace L3
open PySem PySem.Spec PyProof.Rows L2
unseal PEd PEf PTd PWd PAd PSd eX POd PGd jV PId PSx mQ PTs
section
variable{X:Cx}{G:Gx}{elt iter:Expr}{x:Str}{px pos:Pos}{ifs:List Expr}{scope:Scope}{it:Fv}{t:Tv}{f:Ev}{k:Nat}
theorem zOj{M:Model}{A:Jh}{α:Type}{m:Sem α}{itv u:Ja}{s:Jb}{Q1:Unit->Jb->Prop}{R1:α->Jb->Prop}{E:Ja->Jb->Prop}(h:wpAny M A (letOwnedTupleGo (.Name x px) itv u) Q1 E s)
  (k:∀ s5,Q1 () s5->wpAny M A m R1 E s5):wpAny M A m R1 E s:=by
 have key:=Js (f:=fun _:Unit=>m) (wpAny_mono h (fun _ s5 h5=>k s5 h5) fun _ _ z=>z)
 have e:(letOwnedTupleGo (.Name x px) itv u >>= fun _=>m)=m:=pure_bind () fun _=>m
 rw[e] at key;exact key
theorem zHX{N:List Str}(hN:N.Nodup)(h0:("" : Str)∉N)(hx:x≠("" : Str)):(N.map (msk x)++[x]).Nodup:=by
 rw[List.nodup_append];refine⟨?_,Xy.mpr ⟨by simp,List.nodup_nil⟩,fun a ha b hb e=>?_⟩
 ·induction N with
  | nil=>exact List.nodup_nil
  | cons y N ih=>
   rw[Qu,Xy];obtain⟨hy,hN⟩:=Xy.mp hN;refine⟨fun hm=>?_,ih hN fun z=>h0 (Qc _ z)⟩
   obtain⟨z,hz,e⟩:=Qp.mp hm;unfold msk at e;by_cases c1:z=x
   ·by_cases c2:y=x
    ·exact hy (by rw[c2,<-c1];exact hz)
    ·rw[Jk c1,Jl c2] at e;exact h0 (by rw[e];exact Qb)
   ·by_cases c2:y=x
    ·rw[Jl c1,Jk c2] at e;exact h0 (by rw[<-e];exact Qc _ hz)
    ·rw[Jl c1,Jl c2] at e;exact hy (by rw[<-e];exact hz)
 ·obtain⟨z,hz,e1⟩:=Qp.mp ha
  rw[Qt] at hb;subst hb;subst e;unfold msk at e1;split at e1
  ·exact hx e1.symm
  ·rename_i c;exact c e1
structure CW where
 i:Nat
 v:List (Option V)
 H:Hp
 Hi:Hp
 ys:List V
 done:List D
 rest:List D
structure CS (Y:Cx) (Mi:List (Jc×Obj)) (σ:St) (tn:Nat->Je->Prop) (fp:List Jc) (Hi2 H2:Hp) (a:Jc) (m:Nat) (cp:Nat->Res (List D)) (es:List D) (c:CW) (s':Jb):Prop where
 inv:Inv Y Mi (σ++c.v) c.H s'
 wid:c.v.length=m
 tn:tn c.i s'.heap
 fr:∀ b∈fp,c.H b=none
 ext:Ext Hi2 H2 c.Hi c.H
 acc:c.H a=some (.lst c.ys)
 hi:c.Hi a=none
 isd:IsDs Y.K c.Hi c.ys c.done
 len:c.done.length<=c.i
 cmp:cp c.i=.ok c.rest
 all:es=c.done++c.rest
def zTd(X:Cx)(Mi:List (Jc×Obj))(σ:St)(use:Option (Ja->Sem Unit))(Q':Ja->Jb->Prop)(Qa:Jc->Hp->Prop):Prop:=
 ∀(C A:Jc)(m:Str->Option Ja)(s4:Jb)(H3:Hp),s4.heap.Ns C m->(∀ h',Heap.SameBut C s4.heap h'->Inv X Mi σ H3 { s4 with heap:=h' })->uI X Mi H3 C->Qa A H3->
  compPost (model X.prog X.w) X.A X.xe use Q' (.ref A) C (.ok .next) s4
theorem zCL(hc:X.calm=true/\TB X.K X.mg G.Bi G.B)(hr:Room k X.A)(Bk:BlkOk X x scope)(hN:X.N.Nodup)(h0:("" : Str)∉X.N)(hx0:x≠("" : Str))(hi:PId X G (.Name x px) iter it)
  (hb:∀(C:Jc)(s₂:Jb)(H₂:Hp)(fp:List Jc)(G':Gx),Good (cxC X x scope C s₂ H₂ fp) G' k->PTs (cxC X x scope C s₂ H₂ fp) G' ifs t/\PEd (cxC X x scope C s₂ H₂ fp) G' elt f)
  (hs:∀ x,foldedSetIterable iter X.env x=pure x:=by intro _;rfl)
  {Mi:List (Jc×Obj)} {s:Jb} {σ:St} {H Hi:Hp} {ρ:Rho} {use:Option (Ja->Sem Unit)} {Q':Ja->Jb->Prop} {Qa:Jc->Hp->Prop} {cpos:Pos} (I:Inv X Mi σ H s) (R:lV X G Hi H σ ρ)
  (ou:Out G Hi H ((jW it t f) ρ) fun ds Hi' H'=>∀ a,zLf X.K H Hi' H' a ds->Qa a H') (hend:zTd X Mi σ use Q' Qa):
  wpAny (model X.prog X.w) X.A (comprehension (.ListComp elt [⟨.Name x px,iter,ifs,0⟩] scope pos) scope X.env cpos (newList []) false (eval iter X.env) use) Q' X.xe s:=by
 refine Mb (use:=use) rfl hs (zLU (Bk.cl I)) Bk.kind Bk.names ?_
 refine thn (hi Mi s σ H (fun J H2=>∃ ds Hi2,Ext Hi H Hi2 H2/\xJ X.K Hi2 J ds/\Out G Hi2 H2 (if ds.length<=16777215 then iT t f ρ ds else .no) fun ds Hi' H'=>∀ a,zLf X.K H Hi' H' a ds->Qa a H') I
  ⟨ρ,Hi,R,(Out.bind ou).imp fun ds Hi2 H2 e2 o2 J gv=>⟨ds,Hi2,e2,gv,o2⟩⟩) fun v s1 h1=>thn h1 fun itv s2 h2=>?_
 obtain⟨itA,fp,tn,J,H2,rfl,I2,T,st2,f2,ds,Hi2,e2,gv,ou2⟩:=h2
 have hlen:ds.length<=16777215:=by
  by_cases hlen:ds.length<=16777215
  ·exact hlen
  ·rw[Jl hlen] at ou2;exact ou2.elim
 rw[Jk hlen] at ou2
 cases hes:iT t f ρ ds with
 | no=>rw[hes] at ou2;exact ou2.elim
 | err c=>exact absurd hes zBB
 | ok es=>
  rw[hes] at ou2;have R2:lV X G Hi2 H2 σ ρ:=R.grow e2;refine wpAny_newObj_type (wpAny_newFunctionEnv Bk.cell (by intro y hy;simp at hy) (fun h₁ hns₁ hsb₁=>?_) Bk.kind)
  dsimp only at hns₁ hsb₁ ⊢
  generalize hH2:s2.heap.push { cls:=.type "list", dict:=none,data:=.seq ([]:List Ja).toArray }=HP at hns₁ hsb₁ ⊢;have hC:HP.objs.size=s2.heap.objs.size+1:=by rw[<-hH2,Heap.size_push]
  have hDC:s2.heap.objs.size≠HP.objs.size:=by rw[hC];omega
  have ltC:∀ {b:Jc} {o:Obj},s2.heap.get? b=some o->b≠HP.objs.size:=fun e=>by rw[hC];exact Qq (Xv (Heap.lt_size e))
  have old:∀ b o,s2.heap.get? b=some o->h₁.get? b=some o:=fun b o e=>hsb₁.extBut b o (ltC e) (Heap.get?_push_of_some _ (hH2 ▸ Heap.get?_push_of_some _ e))
  have hacc:h₁.get? s2.heap.objs.size=some { cls:=.type "list", data:=.seq ([]:List Ja).toArray 0 }:=hsb₁.extBut _ _ hDC (Heap.get?_push_of_some _ (hH2 ▸ Heap.get?_push_size _ rfl));have hfl:∀ b∈fp,b<s2.heap.objs.size:=fun b hb=>by obtain⟨o,e,_⟩:=T.obj _ _ st2 b hb;exact Heap.lt_size e
  have IE:=zRW (t:=s2.toks+([]:List (Str×Ja)).length) I2 Bk f2 hfl (Qh _) (by rw[hC];omega) hDC old hacc hns₁
  have sub:=wP scope.names [] (Bk.cl I2) (fun y c e=>nomatch e)
  have H2D:H2 s2.heap.objs.size=none:=I2.hok.fresh (Qh _);have HD:H s2.heap.objs.size=none:=e2.h.none H2D;have Hi2D:Hi2 s2.heap.objs.size=none:=e2.s.none H2D;generalize hX:cxC X x scope HP.objs.size s2 H2 fp=Y at IE
  have GY:Good Y ⟨G.B,G.Bi,fun _ _=>False⟩ k:=by
   subst hX;exact⟨hc.1,hr,fun Mi σ H s e s' _ h=>by obtain⟨_,_,_,_,_,c,_,z⟩:=h;exact z.elim,PassesOwn.never,hc.2⟩
  obtain⟨hts,hel⟩:=(hX ▸ hb HP.objs.size s2 H2 fp ⟨G.B,G.Bi,fun _ _=>False⟩ (hX.symm ▸ GY):PTs Y ⟨G.B,G.Bi,fun _ _=>False⟩ ifs t/\PEd Y ⟨G.B,G.Bi,fun _ _=>False⟩ elt f)
  have stat:∀ {H':Hp},(∀ b∈fp,H' b=none)->∀ b∈fp,uI Y Mi H' b:=fun hn b hb=>by
   subst hX;refine⟨hn b hb,?_,fun z=>?_,.inl hb,fun y c e=>(f2 b hb).2.2.2.2.1 y c (sub y c e),(f2 b hb).2.2.2.2.2⟩
   ·show b≠HP.objs.size
    rw[hC];exact Qq (Xv (hfl b hb))
   ·rcases Qd.mp (I2.stkSub b z) with w | w
    ·exact(f2 b hb).2.1 w
    ·exact(f2 b hb).2.2.1 w
  have YN:Y.N.Nodup:=by subst hX;exact zHX hN h0 hx0
  have Yx:Y.N[σ.length]?=some x:=by
   subst hX;show(X.N.map (msk x)++[x])[σ.length]?=some x
   rw[Vn (by rw[Qg,I2.len];omega),Qg,I2.len,Yk];rfl
  have Yl:Y.env.scope.names.lookup x=some .local:=by subst hX;exact Mc Bk.loc
  have Ye:Y.env=compEnvC scope (zEs X.env scope.names []) HP.objs.size X.env:=by subst hX;rfl
  have Yxe:∀ e s,¬ Y.xe e s:=by subst hX;exact fun _ _ h=>h
  have tn1:tn 0 h₁:=T.keep _ _ _ st2 fun b _ o e=>old b o e
  have iC:∀ s3:Jb,s3={ s2 with heap:=h₁,toks:=s2.toks+([]:List (Str×Ja)).length }->
    codeAny (model X.prog X.w) X.A (.compLoop (.ListComp elt [⟨.Name x px,iter,ifs,0⟩] scope pos) 0 (.ref itA) (.ref s2.heap.objs.size) Y.env) (compPost (model X.prog X.w) X.A X.xe use Q' (.ref s2.heap.objs.size) HP.objs.size) s3:=by
   rintro s3 rfl
   subst hX
   have fr0:∀ b∈fp,upd H2 s2.heap.objs.size (.lst []) b=none:=fun b hb=>by
    rw[bB (Qq (hfl b hb))];exact(f2 b hb).1
   refine codeAny_compLoop_tests (fun n s'=>∃ c:CW,n=ds.length-c.i/\CS (cxC X x scope HP.objs.size s2 H2 fp) Mi σ tn fp Hi2 H2 s2.heap.objs.size 1 (fun i=>iT t f ρ (ds.drop i)) es c s') ?_ ds.length
    ⟨⟨0,[none],_,Hi2,[],[],es⟩,rfl,⟨IE,rfl,tn1,fr0,(Ext.refl e2.s).trans (Ext.newF e2.s H2D),aY,Hi2D,.nil,Qh _,hes,rfl⟩⟩
   ·rintro n s3 ⟨⟨i,vv,H3,Hi3,ys,done,rest⟩,rfl,I3,wd3,st3,fr3,e3,hD3,hiD3,rd3,hl3,hr3,hes3⟩
    dsimp only at I3 wd3 st3 fr3 e3 hD3 hiD3 rd3 hl3 hr3 hes3 ⊢
    obtain⟨v,rfl⟩:∃ v,vv=[v]:=by
     match vv,wd3 with
     | [v],_=>exact⟨v,rfl⟩
    obtain⟨w1,w2⟩:=gv Hi3 H3 e3.i e3.s i;have lift:∀ {α:Type} {m:Sem α} {Q':α->Jb->Prop} {E:Ja->Jb->Prop} {s':Jb},wpAny (model X.prog X.w) X.A m Q' (cxC X x scope HP.objs.size s2 H2 fp).xe s'->wpAny (model X.prog X.w) X.A m Q' E s':=fun h=>wpAny_mono h (fun _ _ z=>z) fun e s z=>(Yxe e s z).elim
    by_cases hlt:i<ds.length
    ·obtain⟨d,hd⟩:∃ d,ds[i]?=some d:=⟨_,Qo hlt⟩
     obtain⟨go,yl⟩:=w2 d hd
     have e4:ds.drop i=d::ds.drop (i+1):=by
      rw[Qo hlt] at hd;cases hd;exact Wd hlt
     rw[e4] at hr3;refine thn (T.item (cxC X x scope HP.objs.size s2 H2 fp) rfl rfl rfl hc.1 i Mi s3 _ H3 _ I3 (stat fr3) st3 go) fun r s4 ⟨u,hru,h4⟩=>?_
     subst hru;refine zOj h4 fun s5 h5=>?_
     obtain⟨xv,H5,I5,r5,y5,st5,fr5⟩:=h5;obtain⟨Hi5,e5,rd5⟩:=yl xv H5 y5;have I5':=I5.pinned (stat fr5) (T.obj _ _ st5);refine Jr (oD I5' YN Yx (.inl Yl) r5 (fun s6 I6=>?_) (.inr Yl))
     have es6:(σ++[v]).set σ.length (some xv)=σ++[some xv]:=by rw[We _ _ (Qh _),Yk];rfl
     rw[es6] at I6;have E5:Ext Hi2 H2 Hi5 H5:=e3.trans e5;have R5:lV (cxC X x scope HP.objs.size s2 H2 fp) ⟨G.B,G.Bi,fun _ _=>False⟩ Hi5 H5 (σ++[some xv]) (ρ++[.val d]):=Rel.snoc (R2.grow E5) rd5
     obtain⟨hD5,hiD5⟩:=e5.out hD3 hiD3;have rd5':=rd3.mono e5.i
     have again:∀ {H8 Hi8:Hp} {ys':List V} {done' rest':List D} {s8:Jb},Inv (cxC X x scope HP.objs.size s2 H2 fp) (Mi++vG fp s5.heap) (σ++[some xv]) H8 s8->Ext Hi2 H2 Hi8 H8->H8 s2.heap.objs.size=some (.lst ys')->Hi8 s2.heap.objs.size=none->IsDs X.K Hi8 ys' done'->done'.length<=i+1->
       iT t f ρ (ds.drop (i+1))=.ok rest'->es=done'++rest'->∃ m,m<ds.length-i/\∃ c:CW,m=ds.length-c.i/\CS (cxC X x scope HP.objs.size s2 H2 fp) Mi σ tn fp Hi2 H2 s2.heap.objs.size 1 (fun i=>iT t f ρ (ds.drop i)) es c s8:=fun {H8 Hi8 ys' done' rest' s8} I8 E8 a1 a2 a3 a4 a5 a6=>by
      refine⟨ds.length-(i+1),by omega,⟨i+1,[some xv],H8,Hi8,ys',done',rest'⟩,rfl,⟨I8.unpinned,rfl,T.keep _ _ _ st5 fun b hb o e=>(I8.pin (b,o) (Q2 _ (Q2 _ (fO hb e)))).1,fun b hb=>?_,E8,a1,a2,a3,a4,a5,a6⟩⟩
      obtain⟨o,e,_⟩:=T.obj _ _ st5 b hb;exact(I8.pin (b,o) (Q2 _ (Q2 _ (fO hb e)))).2.1
     rcases zGW hr3 with⟨ht,hr4⟩ | ⟨ht,e,es',hf,hr4,hee⟩
     ·refine lift (thn (hts _ s6 _ H5 (fun b H'=>b=false/\∃ Hi',Ext Hi5 H5 Hi' H') I6 ⟨_,Hi5,R5,by rw[ht];exact fun Hi' H' e=>⟨rfl,Hi',e⟩⟩) fun b s7 h7=>?_)
      obtain⟨H7,I7,rfl,Hi7,e7⟩:=h7;obtain⟨hD7,hiD7⟩:=e7.out hD5 hiD5;exact again I7 (E5.trans e7) hD7 hiD7 (rd5'.mono e7.i) (by omega) hr4 hes3
     ·refine lift (thn (hts _ s6 _ H5 (fun b H'=>b=true/\∃ Hi',Ext Hi5 H5 Hi' H') I6 ⟨_,Hi5,R5,by rw[ht];exact fun Hi' H' e=>⟨rfl,Hi',e⟩⟩) fun b s7 h7=>?_)
      obtain⟨H7,I7,rfl,Hi7,e7⟩:=h7;obtain⟨hD7,hiD7⟩:=e7.out hD5 hiD5;simp only[if_true];refine lift (thn (hel _ s7 _ H7 (fun w H'=>∃ Hi',Ext Hi7 H7 Hi' H'/\IsD X.K Hi' w e) I7 ⟨_,Hi7,R5.grow e7,by rw[hf];exact fun Hi' H' ee w hw=>⟨Hi',ee,hw⟩⟩) fun u8 s8 h8=>?_)
      obtain⟨w8,H8,I8,r8,Hi8,e8,rw8⟩:=h8;obtain⟨hD8,hiD8⟩:=e8.out hD7 hiD7;have rdy:IsDs X.K Hi8 ys done:=(rd5'.mono e7.i).mono e8.i;refine lift (thn (xA (X:=(cxC X x scope HP.objs.size s2 H2 fp)) _ s8 _ H8 (.ref s2.heap.objs.size) [w8] (.ref s2.heap.objs.size) [u8] (fun _ H'=>H'=upd H8 s2.heap.objs.size (.lst (ys++[w8]))) I8 rfl (.cons r8 .nil) ⟨_,ys,w8,rfl,rfl,hD8,?_,rfl⟩) fun _ s9 h9=>?_)
      ·rw[rdy.length]
       exact Xh hl3 (Qn hlt (Q5 hlen (by decide)))
      ·obtain⟨_,H9,I9,_,rfl⟩:=h9
       refine again I9 (Ext.rewrite ((E5.trans e7).trans e8) H2D hiD8 ⟨_,hD8⟩) aY hiD8 (rdy.snoc rw8) (by rw[Ql];exact U1 hl3) hr4 ?_
       rw[hes3,hee,V3];rfl
    ·rw[Yv (by omega),iT] at hr3
     cases hr3;refine thn (T.done (cxC X x scope HP.objs.size s2 H2 fp) rfl rfl rfl hc.1 i Mi s3 _ H3 _ I3 (stat fr3) st3 (w1 (by omega))) fun r s4 ⟨hrn,I4⟩=>?_
     subst hrn;obtain⟨m4,hn4,_⟩:=I4.loc;have fC:H3 HP.objs.size=none:=I4.free;have nC:∀ b u,H3 b=some u->b≠HP.objs.size:=fun b u e z=>by rw[z,fC] at e;cases e
     have U4:=I4.base;refine hend HP.objs.size s2.heap.objs.size m4 s4 H3 hn4 (fun h' hs'=>?_) (I2.fpOk (by rw[hC];omega) fC) ?_
     ·have kp:∀ b o,b≠HP.objs.size->s4.heap.get? b=some o->h'.get? b=some o:=fun b o hb e=>hs'.extBut b o hb e
      refine Inv.call' I2 (ch:=fp) I4.os ⟨fun b o e n hb hx=>kp b o (ltC e) (U4.keep b o e n hb hx),fun b o e n hb hx=>?_,U4.free,fun b o e hx=>?_,U4.tups,U4.frzs,U4.tbls⟩ (fun b u e=>?_) I4.bare (fun b hb=>⟨(f2 b hb).2.2.2.1,(f2 b hb).2.1,(f2 b hb).2.2.2.2.1,(f2 b hb).2.2.2.2.2⟩)
      ·obtain⟨sl,q⟩:=U4.slot b o e n hb hx
       exact⟨sl,kp b _ (ltC e) q⟩
      ·obtain⟨o',q⟩:=U4.there b o e hx
       exact⟨o',kp b _ (ltC e) q⟩
      ·refine(I4.hok b u e).stay (fun c v hc q=>kp c v ?_ q) (fun _ q=>q) fun _ _ q=>q
       rcases hc with z | z
       ·rw[z];exact nC b u e
       ·exact nC c _ z
     ·refine ou2 Hi3 H3 e3 _ ⟨HD,hiD3,ys,hD3,?_⟩
      rw[hes3,Vg];exact rd3
  rw[Ye] at iC;exact Md (iC _ rfl) (T.self _ 0 _ _ _ tn1 (iC _ rfl))
theorem zOp(hc:X.calm=true/\TB X.K X.mg G.Bi G.B)(hr:Room k X.A)(Bk:BlkOk X x scope)(hN:X.N.Nodup)(h0:("" : Str)∉X.N)(hx0:x≠("" : Str))(hi:PId X G (.Name x px) iter it)
  (hb:∀(C:Jc)(s₂:Jb)(H₂:Hp)(fp:List Jc)(G':Gx),Good (cxC X x scope C s₂ H₂ fp) G' k->PTs (cxC X x scope C s₂ H₂ fp) G' ifs t/\PEd (cxC X x scope C s₂ H₂ fp) G' elt f)
  (hs:∀ x,foldedSetIterable iter X.env x=pure x:=by intro _;rfl):PEf X G (.ListComp elt [⟨.Name x px,iter,ifs,0⟩] scope pos) (jW it t f):=by
 intro Mi s σ H Q I w;obtain⟨ρ,Hi,R,ou⟩:=w;rw[eval_ListComp];refine zCL hc hr Bk hN h0 hx0 hi hb hs (use:=none) (Qa:=fun a H'=>Q (.ref a) H') I R ou fun C A m s4 H3 hn hI _ q=>?_
 exact⟨m,hn,fun h' hs'=>⟨.ref A,H3,hI h' hs',rfl,q⟩⟩
def PC(X:Cx)(e:Expr)(t:TE):Prop:=∀(Mi:List (Jc×Obj))(s:Jb)(σ:St)(H:Hp)(Q:VK),Inv X Mi σ H s->t σ H Q->∀(u:Ja->Sem Unit)(Q':Unit->Jb->Prop),
 (∀(C:Jc)(m:Str->Option Ja)(s4:Jb)(v:V)(w:Ja)(H3:Hp),s4.heap.Ns C m->(∀ h',Heap.SameBut C s4.heap h'->Inv X Mi σ H3 { s4 with heap:=h' })->uI X Mi H3 C->dH v w->Q v H3->
  wpAny (model X.prog X.w) X.A (u w) (fun _ s''=>∃ m,s''.heap.Ns C m/\∀ h',Heap.SameBut C s''.heap h'->Q' () { s'' with heap:=h' }) X.xe s4)->wpAny (model X.prog X.w) X.A (evalThenUse e X.env u) Q' X.xe s
theorem PC.wk{X:Cx}{e:Expr}{t t':TE}(h:PC X e t)(w:∀ σ H Q,t' σ H Q->t σ H Q):PC X e t':=fun Mi s σ H Q I q=>h Mi s σ H Q I (w σ H Q q)
@[irreducible] def PCd (X:Cx) (G:Gx) (e:Expr) (f:Ev):Prop:=PC X e (tD X G f)
unseal PCd
@[irreducible] def PCf (X:Cx) (G:Gx) (e:Expr) (f:Fv):Prop:=PC X e (tF X G f)
unseal PCf
theorem zNF(hc:X.calm=true/\TB X.K X.mg G.Bi G.B)(hr:Room k X.A)(Bk:BlkOk X x scope)(hN:X.N.Nodup)(h0:("" : Str)∉X.N)(hx0:x≠("" : Str))(hi:PId X G (.Name x px) iter it)
  (hb:∀(C:Jc)(s₂:Jb)(H₂:Hp)(fp:List Jc)(G':Gx),Good (cxC X x scope C s₂ H₂ fp) G' k->PTs (cxC X x scope C s₂ H₂ fp) G' ifs t/\PEd (cxC X x scope C s₂ H₂ fp) G' elt f)
  (hs:∀ x,foldedSetIterable iter X.env x=pure x:=by intro _;rfl):PCf X G (.ListComp elt [⟨.Name x px,iter,ifs,0⟩] scope pos) (jW it t f):=by
 intro Mi s σ H Q I w u Q' hend;obtain⟨ρ,Hi,R,ou⟩:=w;rw[arm_evalThenUse_ListComp];refine Js (zCL hc hr Bk hN h0 hx0 hi hb hs (use:=some u) (Q':=fun _ s=>wpAny (model X.prog X.w) X.A (pure ()) Q' X.xe s) (Qa:=fun a H'=>Q (.ref a) H') I R ou fun C A m s4 H3 hn hI fo q=>?_)
 refine thn (hend C m s4 (.ref A) (.ref A) H3 hn hI fo rfl q) fun _ s5 h5=>?_
 obtain⟨m5,hn5,h5⟩:=h5;exact⟨m5,hn5,fun h' hs'=>Jw (h5 h' hs')⟩
theorem PCf.d(h:PCf X G e fs):PCd X G e (eF fs):=PC.wk h fun σ H Q q=>by
 obtain⟨ρ,Hi,R,ou⟩:=q;refine⟨ρ,Hi,R,?_⟩
 cases z:fs ρ with
 | no=>unfold eF at ou;rw[z] at ou;exact ou
 | err c=>unfold eF at ou;rw[z] at ou;exact ou
 | ok ds=>
  unfold eF at ou;rw[z] at ou
  intro Hi1 H1 e1 a n;obtain⟨n1,n2,xs,n3,n4⟩:=n;have o2:∀ Hi' H',Ext Hi H Hi' H'->∀ v,IsD X.K Hi' v (.lst ds)->Q v H':=ou;exact o2 _ _ (e1.hold n1 n3 n2) (.ref a) (.lst (SqL.of aY) (n4.mono (cX n2 _)))
theorem zOa{i:Nat}{y:Str}{e:Expr}{te:TE}{pos' pos:Pos}(hN:X.N.Nodup)(hi:X.N[i]?=some y)(hx:Loc X.env.scope y)(he:PC X e te)(hs:swapsWith e (some (.Name y pos')) pos.line X.env=pure true)
  (hf:X.fn y=true∨X.env.scope.names.lookup y=some .local):PS X (.Assign [.Name y pos'] e pos) (zRR te (L2.gName i)):=by
 intro Mi s σ H E I h;rw[exec_Assign_Name_used _ _ _ _ hs];refine Js (wpAny_standAt (Js ?_))
 refine he Mi s σ H _ I h _ _ fun C m s4 v w H3 hn hI fo r q=>?_
 have I4:Inv X Mi σ H3 s4:=hI s4.heap (Heap.SameBut.refl _ _);refine Jr (zCp I4 hN hi hx r (fun s5 I5 sb=>?_) hf)
 obtain⟨a,sb,ha⟩:=sb
 have aC:C≠a:=by
  rcases ha with rfl | ha
  ·exact fo.2.1
  ·exact fun z=>fo.2.2.2.2.1 y a ha z.symm
 refine⟨m,hn.sameBut sb aC,fun h' hs'=>Jw ?_⟩
 have fC:=fo.1;have nC:∀ b u,H3 b=some u->b≠C:=fun b u e z=>by rw[z,fC] at e;cases e
 have kp:∀ b o,b≠C->s5.heap.get? b=some o->h'.get? b=some o:=fun b o hb e=>hs'.extBut b o hb e
 refine⟨σ.set i (some v),H3,?_,q⟩
 refine Inv.call' I5 (ch:=[C]) rfl ⟨fun b o e n hb hx=>kp b o (by simpa using hx) e,fun b o e n hb hx=>⟨o.slots,kp b _ (by simpa using hx) e⟩,fun b o e n hx=>n,fun b o e hx=>⟨o,kp b _ (by simpa using hx) e⟩,fun _ _ q=>q,fun _ _ _ q=>q,fun _ ps q=>⟨#[],by simpa using q⟩⟩ (fun b u e=>?_) I5.bare (fun b hb=>?_)
 ·refine(I5.hok b u e).stay (fun c v hc q=>kp c v ?_ q) (fun _ q=>q) fun _ _ q=>q
  rcases hc with z | z
  ·rw[z];exact nC b u e
  ·exact nC c _ z
 ·have e:b=C:=by simpa using hb
  subst e;exact⟨fo.2.2.2.1,fo.2.1,fo.2.2.2.2.1,fo.2.2.2.2.2⟩
theorem zMR{i:Nat}{y:Str}{e:Expr}{f:Ev}{pos' pos:Pos}(hN:X.N.Nodup)(hi:X.N[i]?=some y)(hx:Loc X.env.scope y)(he:PCd X G e f)(hs:swapsWith e (some (.Name y pos')) pos.line X.env=pure true)
  (hf:X.fn y=true∨X.env.scope.names.lookup y=some .local:=by first | exact .inl rfl | exact .inr rfl | assumption):PSd X G (.Assign [.Name y pos'] e pos) (cT i f):=PS.wk (zOa hN hi hx he hs hf) fun E σ H q=>by
 obtain⟨ρ,Hi,R,h⟩:=q;exact⟨ρ,Hi,R,mW R h fun d Hi' H' _ e h' v r=>h' _ Hi' H' (Same.refl _) ((R.grow e).set r)⟩
end
end L3
namespace L3
open PySem PySem.Spec PyProof.Rows L2
unseal PEd PEf PTd PWd PAd PSd eX POd PGd jV PId PSx mQ PTs PCd PCf
def zRB(sc:Scope)(N:List Str)(x:Str)(scope:Scope):Bool:=
 scope.names.all (fun y=>y.2 != .cell) && scope.names.lookup x==some .local && scope.names.all (fun y=>y.2 != .local || scope.names.lookup y.1==some .local)
  && scope.names.all (fun p=>p.2 != .free || (sc.names.lookup p.1==some .cell || sc.names.lookup p.1==some .free)) && N.all (fun y=>y==x || scope.names.lookup y != some .local) && (scope.names.lookup ("" : Str)).isNone && !N.contains ("" : Str) && x != ("" : Str)
section
variable{X:Cx}{G:Gx}{elt iter:Expr}{x:Str}{px pos:Pos}{ifs:List Expr}{scope sc:Scope}{it:Fv}{t:Tv}{f:Ev}{k:Nat}{N:List Str}
theorem zMa(hk:scope.kind=.function)(hsc:X.env.scope=sc)(hN:X.N=N)(h:zRB sc N x scope=true):BlkOk X x scope/\("" : Str)∉X.N/\x≠("" : Str):=by
 unfold zRB at h;simp only[V4] at h;obtain⟨⟨⟨⟨⟨⟨⟨h1,h2⟩,h3⟩,h4⟩,h5⟩,h6⟩,h7⟩,h8⟩:=h;subst hN hsc;refine⟨⟨hk,fun y hy e=>?_,beq_iff_eq.mp h2,fun y hy e=>?_,fun p hp e=>?_,fun y hy hne e=>?_,?_⟩,fun z=>?_,fun z=>?_⟩
 ·have:=Xe.mp h1 y hy
  rw[e] at this;cases this
 ·have:=Xe.mp h3 y hy
  rw[e] at this;simpa using this
 ·have:=Xe.mp h4 p hp
  rw[e] at this;have q:X.env.scope.names.lookup p.1=some .cell∨X.env.scope.names.lookup p.1=some .free:=by simpa using this
  exact q
 ·have:=Xe.mp h5 y hy
  rw[e] at this;simp[hne] at this
 ·simpa using h6
 ·have:X.N.contains ("" : Str)=true:=by simpa using z
  rw[this] at h7;cases h7
 ·rw[z] at h8;simp at h8
theorem fI(W:Good X G k)(hnd:N.Nodup)(hk:scope.kind=.function)(hsc:X.env.scope=sc)(hN:X.N=N)(h:zRB sc N x scope=true)(hi:PId X G (.Name x px) iter it)
  (hb:∀(C:Jc)(s₂:Jb)(H₂:Hp)(fp:List Jc)(G':Gx),Good (cxC X x scope C s₂ H₂ fp) G' k->PTs (cxC X x scope C s₂ H₂ fp) G' ifs t/\PEd (cxC X x scope C s₂ H₂ fp) G' elt f)
  (hs:∀ x,foldedSetIterable iter X.env x=pure x:=by intro _;rfl):PEf X G (.ListComp elt [⟨.Name x px,iter,ifs,0⟩] scope pos) (jW it t f):=by
 obtain⟨b,h0,hx⟩:=zMa hk hsc hN h;exact zOp ⟨W.calm,W.tb⟩ W.room b (hN ▸ hnd) h0 hx hi hb hs
theorem zFN(W:Good X G k)(hnd:N.Nodup)(hk:scope.kind=.function)(hsc:X.env.scope=sc)(hN:X.N=N)(h:zRB sc N x scope=true)(hi:PId X G (.Name x px) iter it)
  (hb:∀(C:Jc)(s₂:Jb)(H₂:Hp)(fp:List Jc)(G':Gx),Good (cxC X x scope C s₂ H₂ fp) G' k->PTs (cxC X x scope C s₂ H₂ fp) G' ifs t/\PEd (cxC X x scope C s₂ H₂ fp) G' elt f)
  (hs:∀ x,foldedSetIterable iter X.env x=pure x:=by intro _;rfl):PCf X G (.ListComp elt [⟨.Name x px,iter,ifs,0⟩] scope pos) (jW it t f):=by
 obtain⟨b,h0,hx⟩:=zMa hk hsc hN h;exact zNF ⟨W.calm,W.tb⟩ W.room b (hN ▸ hnd) h0 hx hi hb hs
end
section
variable{X:Cx}{G:Gx}{a b:Expr}{pos:Pos}{f:Fv}{g:Ev}
theorem zRv:yX X (fun xs H Q=>(∃ i,xs=[.int i]/\Q (.int i) H)∨∃ k,xs=[.bl k]/\Q (.int (if k then 1 else 0)) H) zRa:=⟨fun a c z=>(by
  unfold zRa at z;split at z<;>cases z),fun Hi H vs ds d Q s r z q=>by
  unfold zRa at z;split at z
  ·cases z
   obtain⟨v,rfl,h⟩:=r.one;exact .inl ⟨_,by rw[h.intI],q _ Hi H (Ext.refl s) (.int _)⟩
  ·cases z
   obtain⟨v,rfl,h⟩:=r.one;exact .inr ⟨_,by rw[h.blI],q _ Hi H (Ext.refl s) (.int _)⟩
  ·cases z⟩
theorem IsDs.rep{K:Fg_}{H:Hp}{xs:List V}{ds:List D}(h:IsDs K H xs ds):∀ n:Nat,IsDs K H (List.replicate n xs).flatten (List.replicate n ds).flatten
 | 0=>.nil
 | n+1=>by
  rw[Xq,Xq,X0,X0];exact h.append (IsDs.rep h n)
theorem zFI(ha:PEf X G a f)(hb:PEd X G b g):PEf X G (.BinOp a .Mult b pos) (zPg f g):=PE.wk (zIA zQN ha hb) fun σ H Q q=>by
 obtain⟨ρ,Hi,R,ou⟩:=q;refine⟨ρ,Hi,R,(Out.bind ou).imp fun ds Hi1 H1 e1 o1 l nl=>?_⟩
 refine⟨ρ,Hi1,R.grow e1,(Out.bind o1).imp fun d Hi2 H2 e2 o2 v rv=>?_⟩
 cases d<;>first | exact o2.elim | skip
 rename_i k
 obtain⟨n1,n2,xs,n3,n4⟩:=nl;have o2':Out G Hi2 H2 (if 0<=k/\k<2^62/\ds.length*k.toNat<=16777216 then Res.ok (List.replicate k.toNat ds).flatten else .no) _:=o2;by_cases hz:0<=k/\k<2^62/\ds.length*k.toNat<=16777216
 ·rw[Jk hz] at o2'
  refine⟨l,k,xs,rfl,rv.intI,e2.h.at n3,by omega,by omega,by rw[n4.length];exact hz.2.2,fun p hp=>?_⟩
  exact o2' _ _ (Ext.newF e2.s hp) p ⟨(e1.h.trans e2.h).none hp,e2.s.none hp,_,aY,(n4.mono e2.i).rep _⟩
 ·rw[Jl hz] at o2';exact o2'.elim
end
section
variable{es r:List Expr}{a b f:Expr}{k:Nat}{p:Pos}{x:Str}{c:Const}{env:Env}
theorem iY:starEach (.Tuple es k p::r) env=(false,eval (.Tuple es k p) env)::starEach r env:=rfl
theorem zFx:starEach (.List es p::r) env=(false,eval (.List es p) env)::starEach r env:=rfl
theorem bA{o:Operator}:starEach (.BinOp a o b p::r) env=(false,eval (.BinOp a o b p) env)::starEach r env:=rfl
theorem aP:starEach (.Subscript a b p::r) env=(false,eval (.Subscript a b p) env)::starEach r env:=rfl
theorem aB:starEach (.Name x p::r) env=(false,eval (.Name x p) env)::starEach r env:=rfl
theorem bE:starEach (.Constant c k p::r) env=(false,eval (.Constant c k p) env)::starEach r env:=rfl
theorem aL{ks:List Keyword}:starEach (.Call f es ks p::r) env=(false,eval (.Call f es ks p) env)::starEach r env:=rfl
end
section
variable{X:Cx}{G:Gx}{e st:Expr}{te tk:TE}{lo hi:Option Expr}{tl th:TO}{pos p2:Pos}{f g:Ev}{l h:Ov}
end
end L3
set_option maxRecDepth 100000
namespace L3
open PySem PySem.Spec PyProof.Rows L2
section
variable{prog:Jf}{w:Jg}{A:Jh}{E:Ja->Jb->Prop}{s:Jb}
end
theorem zLh:bootBuiltins "reversed" = some (.type "reversed"):=by first | rfl | decide +kernel
section
unseal PEd PEf PTd PWd PAd PSd eX POd PGd jV PId PSx mQ PTs PCd PCf
variable{X:Cx}{G:Gx}{fs:Fv}{f:Ev}
end
end L3
namespace L3
open PySem PySem.Spec PyProof.Rows L2
unseal PEd PEf PTd PWd PAd PSd eX POd PGd jV PId PSx mQ PTs PCd PCf
section
variable{X:Cx}{G:Gx}
def zTn(K:PySem.W.Frag):List V->Hp->VK->Prop:=fun xs H Q=>∃(a:Jc)(ns:List Int),xs=[.ref a]/\(SqL K H a (ns.map V.int)∨SqT K H a (ns.map V.int))/\Q (.int ns.sum) H
theorem vZ(ns:List Int):∀ j,preSum (fun i=>ns.getD i 0) j=(ns.take j).sum
 | 0=>by rw[Wf];rfl
 | j+1=>by
  rw[preSum,vZ ns j,U0];rw[Qy]
  cases ns[j]? with
  | none=>simp
  | some x=>simp
theorem zBK{ns:List Int}{its:List Ja}(r:dS (ns.map V.int) its){i:Nat}{v:Ja}(h:its[i]?=some v):∃ t,v=.int (ns.getD i 0) t:=by
 have hl:=r.length;rw[Qg] at hl;have hi:=(Qx.mp h).1
 have hx:(ns.map V.int)[i]?=some (.int (ns.getD i 0)):=by
  rw[Qs,Qy,Qo (by omega)];rfl
 obtain⟨u,hu,ru⟩:=r.get hx;rw[h] at hu;cases hu;exact ru
theorem jC(hc:X.calm=true):qC X (.builtin "sum") (zTn X.K):=by
 intro Mi s σ H xs us Q I r h;obtain⟨a,ns,rfl,hq,q⟩:=h;obtain⟨u,rfl,ru⟩:=r.one;cases ru;have hh:=I.ok.hd hc;rcases hq with hq | hq
 ·obtain⟨its,rv,p,hz⟩:=I.list hq
  have hlt:a<s.heap.objs.size:=by obtain⟨_,e,_⟩:=p.isList;exact Heap.lt_size e
  have hl:=rv.length;rw[Qg] at hl;refine call_sum_walkG (wpAny_pyIter_list p.isList ?_)
  refine⟨s.heap.objs.size,_,_,_,_,_,fun i=>ns.getD i 0,rfl,Walks.list (A:=X.A.in1) hh s.heap.objs.size a (Qq hlt) its.toArray,⟨⟨_,Heap.get?_push_size _ rfl,rfl,rfl⟩,p.isList.push _⟩,fun b hb=>?_,fun i v hv=>zBK rv (by simpa using hv),fun h' tk t' hk=>?_⟩
  ·show b<(s.heap.push _).objs.size
   rw[Heap.size_push];rcases Qd.mp hb with rfl | hb
   ·exact Vm _
   ·rcases Qd.mp hb with rfl | hb
    ·exact Xv hlt
    ·cases hb
  ·refine⟨.int ns.sum,H,I.kept (t':=tk) fun b o e=>hk b o (fun z=>?_) (Heap.get?_push_of_some _ e),⟨t',?_⟩,q⟩
   ·have z':b=s.heap.objs.size:=by simpa using z
    have l:=Heap.lt_size e;rw[z'] at l;exact Xb _ l
   ·rw[Qk,<-hl,vZ,V8]
 ·obtain⟨its,rv,p,hz⟩:=I.tuple hq
  have p':s.heap.IsTuple a its.toArray:=p;have hlt:a<s.heap.objs.size:=by obtain⟨_,e,_⟩:=p';exact Heap.lt_size e
  have hl:=rv.length;rw[Qg] at hl;refine call_sum_walkG (wpAny_pyIter_tuple p' ?_)
  refine⟨s.heap.objs.size,_,_,_,_,_,fun i=>ns.getD i 0,rfl,Walks.tuple (A:=X.A.in1) hh s.heap.objs.size a (Qq hlt) its.toArray,⟨⟨_,Heap.get?_push_size _ rfl,rfl,rfl⟩,p'.push _⟩,fun b hb=>?_,fun i v hv=>zBK rv (by simpa using hv),fun h' tk t' hk=>?_⟩
  ·show b<(s.heap.push _).objs.size
   rw[Heap.size_push];rcases Qd.mp hb with rfl | hb
   ·exact Vm _
   ·rcases Qd.mp hb with rfl | hb
    ·exact Xv hlt
    ·cases hb
  ·refine⟨.int ns.sum,H,I.kept (t':=tk) fun b o e=>hk b o (fun z=>?_) (Heap.get?_push_of_some _ e),⟨t',?_⟩,q⟩
   ·have z':b=s.heap.objs.size:=by simpa using z
    have l:=Heap.lt_size e;rw[z'] at l;exact Xb _ l
   ·rw[Qk,<-hl,vZ,V8]
theorem oT{K:Fg_}{H:Hp}:∀ {xs:List V} {ds:List D} {ns:List Int},IsDs K H xs ds->oU ds=some ns->xs=ns.map V.int
 | _,_,ns,.nil,h=>by cases h;rfl
 | _,_,ns,.cons (d:=d) (ds:=ds) r rs,h=>by
  cases d with
  | int i=>
   rw[oU] at h
   cases z:oU ds with
   | none=>rw[z] at h;cases h
   | some ms=>
    rw[z] at h;cases h;rw[r.intI,oT rs z];rfl
  | _=>cases h
theorem qJ:yX X (zTn X.K) zBU:=⟨fun a c z=>(by
  unfold zBU at z;split at z
  ·split at z<;>cases z
  ·split at z<;>cases z
  ·cases z),fun Hi H vs ds d Q s r z q=>by
  unfold zBU at z;split at z
  ·split at z
   ·rename_i ns hns
    cases z;obtain⟨v,rfl,h⟩:=r.one;obtain⟨a,xs,rfl,h1,h2⟩:=h.lstI;have e:=oT h2 hns;subst e;exact⟨a,ns,rfl,.inl (dD s h1),q _ Hi H (Ext.refl s) (.int _)⟩
   ·cases z
  ·split at z
   ·rename_i ns hns
    cases z;obtain⟨v,rfl,h⟩:=r.one;obtain⟨a,xs,rfl,h1,h2⟩:=h.tupI;have e:=oT h2 hns;subst e;exact⟨a,ns,rfl,.inr (cW s h1),q _ Hi H (Ext.refl s) (.int _)⟩
   ·cases z
  ·cases z⟩
theorem gH:bootBuiltins "sum" = some (.builtin "sum"):=by first | rfl | decide +kernel
end
section
variable{prog:Jf}{w:Jg}{A:Jh}{E:Ja->Jb->Prop}{s:Jb}
end
section
variable{X:Cx}{G:Gx}{es:List Expr}{pos:Pos}
end
theorem ln0{α:Type}{us:List α}(h:us.length=0):us=[]:=Wa h
theorem ln1{α:Type}{us:List α}(h:us.length=1):∃ a0:α,us=[a0]:=by
 cases us with
 | nil=>cases h
 | cons a r=>
  cases ln0 (Y0 h)
  exact⟨a,rfl⟩
theorem ln2{α:Type}{us:List α}(h:us.length=2):∃ a0 a1:α,us=[a0,a1]:=by
 cases us with
 | nil=>cases h
 | cons a r=>
  obtain⟨a1,rfl⟩:=ln1 (Y0 h);exact⟨a,a1,rfl⟩
theorem ln3{α:Type}{us:List α}(h:us.length=3):∃ a0 a1 a2:α,us=[a0,a1,a2]:=by
 cases us with
 | nil=>cases h
 | cons a r=>
  obtain⟨a1,a2,rfl⟩:=ln2 (Y0 h);exact⟨a,a1,a2,rfl⟩
theorem ln4{α:Type}{us:List α}(h:us.length=4):∃ a0 a1 a2 a3:α,us=[a0,a1,a2,a3]:=by
 cases us with
 | nil=>cases h
 | cons a r=>
  obtain⟨a1,a2,a3,rfl⟩:=ln3 (Y0 h);exact⟨a,a1,a2,a3,rfl⟩
theorem ln5{α:Type}{us:List α}(h:us.length=5):∃ a0 a1 a2 a3 a4:α,us=[a0,a1,a2,a3,a4]:=by
 cases us with
 | nil=>cases h
 | cons a r=>
  obtain⟨a1,a2,a3,a4,rfl⟩:=ln4 (Y0 h);exact⟨a,a1,a2,a3,a4,rfl⟩
section
variable{X:Cx}{G:Gx}{a b c e:Expr}{pos p2:Pos}{f g h:Ev}{fs:Fv}{lo hi:Option Expr}{l u:Ov}
theorem zHQ{v:Ja}{o:Option Int}(h:IsPart v o):∃ q:Option (Int×Tok),v=partValue q/\q.map (·.1)=o:=by
 cases h with
 | none=>exact⟨none,rfl,rfl⟩
 | int i t=>exact⟨some (i,t),rfl,rfl⟩
end
section
variable{X:Cx}{G:Gx}{a b c e:Expr}{pos p2 p:Pos}{f g h:Ev}{fs:Fv}{x:Str}
theorem zFb{bl:List Ji}:eX X G bl sNo:=fun Mi s σ H E I q=>by
 obtain⟨ρ,Hi,R,ou⟩:=q;exact ou.elim
def zLA(T:List (Str×Str)):List (Str×KTD.Dat):=T.map fun q=>(q.1,.flat (.str q.2))
structure IsTab (K:PySem.W.Frag) (mg:Str->Option Ja) (x:Str) (T:List (Str×Str)) (a:Jc):Prop where
 mg:mg x=some (.ref a)
 tab:∀ h:Je,K.In h->KTD.TextTab h a (zLA T)
theorem zJF(k:Str):∀ T:List (Str×Str),KTD.datumAt k (zLA T)=(T.lookup k).map fun y=>.flat (.str y)
 | []=>rfl
 | (x,y)::r=>by
  show(if decide (k=x)=true then some (KTD.Dat.flat (.str y)) else KTD.datumAt k (zLA r))=_
  rw[Vw];by_cases hx:k=x
  ·rw[Jk (J6 hx),show(k==x)=true from beq_iff_eq.mpr hx];rfl
  ·rw[Jl (by simp[hx]),show(k==x)=false from beq_eq_false_iff_ne.mpr hx];exact zJF k r
theorem zIW(k:Str)(T:List (Str×Str)):KTD.inKeys k (zLA T)=(T.lookup k).isSome:=by
 rw[<-KTD.isSome_datumAt,zJF,Option.isSome_map]
theorem zMB{T:List (Str×Str)}{ad:Jc}(t:IsTab X.K X.mg x T ad)(hg:Gl X x)(hd:(x==("__debug__" : Str))=false:=by decide):PE X (.Name x p) (tC (.ref ad)):=zDZ hg t.mg rfl hd
theorem zHT{T:List (Str×Str)}{ad:Jc}(t:IsTab X.K X.mg x T ad):OpR X (compareOp .NotIn) (fun v y H Q=>∃ k,v=.str k/\y=.ref ad/\Q (.bl (!(T.lookup k).isSome)) H):=by
 intro Mi s σ H v y u w Q I rx ry h;obtain⟨k,rfl,rfl,q⟩:=h;obtain⟨tk,rfl⟩:=rx;cases ry;refine KTD.notin_text ⟨t.tab s.heap I.kIn,fun _ _ e=>e⟩ ?_
 rw[zIW];exact⟨.bl _,H,I.tok _,rfl,q⟩
theorem zCN{h₀:Je}{k:Str}{P:Ja->Prop}:∀ {T:List (Str×Str)},(∀ z t,T.lookup k=some z->P (.str z t))->KTD.EachL h₀ k P (zLA T)
 | [],_=>trivial
 | [(x,y)],hP=>fun hk t=>hP y t (by rw[Vw,show(k==x)=true from beq_iff_eq.mpr hk])
 | (x,y)::q::r,hP=>by
  show if decide (k=x)=true then KTD.Opened h₀ P (.flat (.str y)) else KTD.EachL h₀ k P (zLA (q::r))
  by_cases hk:k=x
  ·rw[Jk (J6 hk)]
   exact fun t=>hP y t (by rw[Vw,show(k==x)=true from beq_iff_eq.mpr hk])
  ·rw[Jl (by simp[hk])]
   exact zCN fun z t hz=>hP z t (by rw[Vw,show(k==x)=false from beq_eq_false_iff_ne.mpr hk];exact hz)
theorem zHr(T:List (Str×Str)):((zLA T).all fun q=>KTD.plain q.2)=true:=by
 unfold zLA;rw[List.all_map];exact Xe.mpr fun _ _=>rfl
theorem zPt{T:List (Str×Str)}{ad:Jc}(t:IsTab X.K X.mg x T ad):IxR X (fun v y H Q=>∃ k z,v=.ref ad/\y=.str k/\T.lookup k=some z/\Q (.str z) H):=by
 intro value slice Mi s σ H v y u w Q I rx ry h hs;obtain⟨k,z,rfl,rfl,hk,q⟩:=h;cases rx;obtain⟨tk,rfl⟩:=ry;refine KTD.item_textA ⟨t.tab s.heap I.kIn,fun _ _ e=>e⟩ (zHr T) (by rw[zIW,hk];rfl) ?_ hs
 refine zCN fun z' t' hz=>?_
 rw[hk] at hz;cases hz;exact⟨.str _,H,I.tok _,⟨_,rfl⟩,q⟩
theorem unT{o:D->Res D}{r:R2}{y:V}(hr:∀ (Hi H:Hp) (v:V) (d:D) (Q:VK),IsD X.K Hi v d->Same Hi H->(∃ d',o d=.ok d'/\(∀ w Hi' H',Ext Hi H Hi' H'->IsD X.K Hi' w d'->Q w H'))->r v y H Q)
  (he:∀ d c,o d≠.err c):∀ σ H Q,tD X G (eUn o f) σ H Q->tOp r (tD X G f) (tC y) σ H Q:=fun σ H Q q=>by
 obtain⟨ρ,Hi,R,ou⟩:=q;refine zEi R ou fun v d Hi1 H1 e1 R1 r1 o1=>?_
 cases z:o d with
 | no=>rw[z] at o1;exact o1.elim
 | err c=>exact absurd z (he d c)
 | ok d'=>rw[z] at o1;exact hr Hi1 H1 v d Q r1 R1.s ⟨d',z,fun w Hi' H' e1 r1=>o1 Hi' H' e1 w r1⟩
theorem zQD{T:List (Str×Str)}{ad:Jc}:∀ σ H Q,tD X G (eUn (tJ T) f) σ H Q->tOp (fun v y H Q=>∃ k,v=.str k/\y=.ref ad/\Q (.bl (!(T.lookup k).isSome)) H) (tD X G f) (tC (.ref ad)) σ H Q:=
 unT (fun Hi H v d Q r s h=>by
  obtain⟨d',z,q⟩:=h;unfold tJ at z;split at z
  ·cases z;exact⟨_,r.strI,rfl,q _ Hi H (Ext.refl s) (.bl _)⟩
  ·cases z) fun d c z=>by unfold tJ at z;split at z<;>cases z
theorem zQa{op:CmpOp}{o:D->Res D}{r:R2}{y:V}(hp:PT X (.Compare a [op] [b] pos) (zQB (tOp r (tD X G f) (tC y))))(hu:∀ σ H Q,tD X G (eUn o f) σ H Q->tOp r (tD X G f) (tC y) σ H Q):PTd X G (.Compare a [op] [b] pos) (cU (eUn o f)):=
 PT.wk hp fun σ H Q q=>by
  obtain⟨ρ,Hi,R,ou⟩:=q;refine hu σ H _ ⟨ρ,Hi,R,ou.bind.imp fun d Hi' H' e o v r=>?_⟩
  cases d with
  | bl c=>rw[r.blI];exact⟨c,rfl,o.here e.s⟩
  | _=>exact o.elim
theorem zLw{T:List (Str×Str)}{ad:Jc}(t:IsTab X.K X.mg x T ad)(hg:Gl X x)(ha:PEd X G a f)(hm:behindInMarks .NotIn (.Name x p)=false)(hd:(x==("__debug__" : Str))=false:=by decide):PTd X G (.Compare a [.NotIn] [.Name x p] pos) (cU (eUn (tJ T) f)):=
 zQa (zJg (zHT t) ha (zMB t hg hd) hm) zQD
theorem zMG{T:List (Str×Str)}{ad:Jc}(t:IsTab X.K X.mg x T ad)(hg:Gl X x)(hb:PEd X G b g)(hs:zEF b)(hd:(x==("__debug__" : Str))=false:=by decide):PEd X G (.Subscript (.Name x p) b pos) (eUn (wZ T) g):=
 PE.wk (zGQ (zPt t) (zMB t hg hd) hb hs) fun σ H Q q=>by
  obtain⟨ρ,Hi,R,ou⟩:=q;refine zEi R ou fun v d Hi1 H1 e1 R1 r1 o1=>?_
  cases d with
  | str k=>
   have o2:Out G Hi1 H1 (zPm (T.lookup k)) _:=o1
   cases z:T.lookup k with
   | none=>rw[z] at o2;exact o2.elim
   | some y=>rw[z] at o2;exact⟨k,y,rfl,r1.strI,z,o2.here R1.s _ (.str _)⟩
  | _=>exact o1.elim
end
section
variable{prog:Jf}{w:Jg}{A:Jh}{R:Result->Jb->Prop}{I:Jc}{fp wr:List Jc}{n:Nat}{P:Nat->Ja->Prop}{St:Nat->Je->Prop}{kw:List (Str×Ja)}
end
section
variable{X:Cx}{G:Gx}{a c:Expr}{pos p kp:Pos}{f g:Ev}
theorem zKc(num:Nat->Int):∀ k,num (argBest (fun i j=>decide (num i > num j)) k)=zBo (num 0) ((List.range k).map fun i=>num (i+1))
 | 0=>rfl
 | k+1=>by
  rw[Wg,Vb]
  have app:∀(l:List Int)(a b:Int),zBo a (l++[b])=if b > zBo a l then b else zBo a l:=by
   intro l
   induction l with
   | nil=>intro a b;rfl
   | cons x r ih=>intro a b;rw[Ud,zBo,ih,zBo]
  rw[List.map_singleton,app,<-zKc num k];show num (if decide (num (k+1) > num (argBest _ k))=true then k+1 else argBest _ k)=_
  by_cases h:num (k+1) > num (argBest (fun i j=>decide (num i > num j)) k)
  ·rw[Jk (J6 h),Jk h]
  ·rw[Jl (by simp[h]),Jl h]
theorem zEf(m:Int)(ns:List Int):(m::ns).getD (argBest (fun i j=>decide ((m::ns).getD i 0 > (m::ns).getD j 0)) ns.length) 0=zBo m ns:=by
 rw[zKc (fun i=>(m::ns).getD i 0) ns.length];show zBo m _=_
 congr 1
 refine Ym fun i=>?_
 rw[Qs];by_cases h:i<ns.length
 ·rw[V7 h,Qo h]
  show some ((m::ns).getD (i+1) 0)=_
  rw[List.getD_cons_succ,Qy,Qo h];rfl
 ·rw[Qz (by rw[Q3];omega),Qz (by omega)];rfl
def zQy(K:PySem.W.Frag):List V->Hp->VK->Prop:=fun xs H Q=>∃(a:Jc)(m:Int)(ns:List Int),xs=[.ref a]/\SqL K H a ((m::ns).map V.int)/\Q (.int (zBo m ns)) H
theorem zCk(hc:X.calm=true):qC X (.builtin "max") (zQy X.K):=by
 intro Mi s σ H xs us Q I r h;obtain⟨a,m,ns,rfl,hq,q⟩:=h;obtain⟨u,rfl,ru⟩:=zCg r;cases ru;have hh:=I.ok.hd hc;obtain⟨its,rv,p,hz⟩:=I.list hq;have hlt:a<s.heap.objs.size:=by obtain⟨_,e,_⟩:=p.isList;exact Heap.lt_size e
 have hl:=rv.length;rw[Qg,Qm] at hl;refine call_max_walk (wpAny_pyIter_list p.isList ?_)
 refine⟨s.heap.objs.size,_,_,_,_,_,fun i j=>decide ((m::ns).getD i 0 > (m::ns).getD j 0),rfl,Walks.list (A:=X.A.in1) hh s.heap.objs.size a (Qq hlt) its.toArray,⟨⟨_,Heap.get?_push_size _ rfl,rfl,rfl⟩,p.isList.push _⟩,fun b hb=>?_,by rw[Qk];omega,CmpOf.ints_gt _ fun i v hv=>zBK rv (by simpa using hv),fun v h' tk hv hk=>?_⟩
 ·show b<(s.heap.push _).objs.size
  rw[Heap.size_push];rcases Qd.mp hb with rfl | hb
  ·exact Vm _
  ·rcases Qd.mp hb with rfl | hb
   ·exact Xv hlt
   ·cases hb
 ·obtain⟨t,rfl⟩:=zBK rv (i:=argBest (fun i j=>decide ((m::ns).getD i 0 > (m::ns).getD j 0)) (its.toArray.size-1)) (by simpa using hv)
  refine⟨.int (zBo m ns),H,I.kept (t':=tk) fun b o e=>hk b o (fun z=>?_) (Heap.get?_push_of_some _ e),⟨t,?_⟩,q⟩
  ·have z':b=s.heap.objs.size:=by simpa using z
   have l:=Heap.lt_size e;rw[z'] at l;exact Xb _ l
  ·rw[Qk,<-hl,Nat.add_sub_cancel,zEf]
theorem zJS:yX X (zQy X.K) zCt:=⟨fun a c z=>(by
  unfold zCt at z;split at z
  ·split at z<;>cases z
  ·cases z),fun Hi H vs ds d Q s r z q=>by
  unfold zCt at z;split at z
  ·split at z
   ·rename_i m ns hns
    cases z;obtain⟨v,rfl,h⟩:=r.one;obtain⟨a,xs,rfl,h1,h2⟩:=h.lstI;have e:=oT h2 hns;subst e;exact⟨a,m,ns,rfl,dD s h1,q _ Hi H (Ext.refl s) (.int _)⟩
   ·cases z
  ·cases z⟩
end
section
variable{X:Cx}{G:Gx}{e:Expr}{pos:Pos}{f:Ev}
end
end L3
namespace L2
open PySem PySem.Spec PyProof.Rows
section
variable{κ:Type}[DecidableEq κ]
end
abbrev KT(H:Hp):List (List Key×V)->List (List Key×Jc×Ja)->Prop:=Paired fun p q=>p.1=q.1/\H q.2.1=some (.tup (p.1.map kV))/\dH p.2 q.2.2
section
variable{P:Jf}{w:Jg}{H:Hp}{h:Je}{a:Jc}
end
section
variable{X:Cx}{Mi:List (Jc×Obj)}{σ:St}{H:Hp}{s:Jb}{a:Jc}{y v:V}{u r:Ja}{o:Option V}{A:Jh}{E:Ja->Jb->Prop}
end
section
variable{X:Cx}{Mi:List (Jc×Obj)}{σ:St}{H:Hp}{s:Jb}{a:Jc}{kvs:List (Key×V)}{k:Key}{u:Ja}{A:Jh}{E:Ja->Jb->Prop}
end
section
variable{X:Cx}{o i e value:Expr}{pos pos' tpos:Pos}{td ty tv:TE}
end
section
variable{X:Cx}{pos:Pos}
end
end L2
namespace L3
open PySem PySem.Spec PyProof.Rows L2
unseal PEd PEf PTd PWd PAd PSd eX POd PGd jV PId PSx mQ PTs PCd PCf
section
variable{X:Cx}{G:Gx}{a b c e:Expr}{pos p2 p:Pos}{f g h:Ev}{fs:Fv}{x:Str}
end
end L3
namespace L3
open PySem PySem.Spec PyProof.Rows L2
def itN(k:Bool):String:=if k then "list_iterator" else "tuple_iterator"
def zFV(k:Bool)(h:Je)(it l:Jc)(i:Nat):Prop:=if k then h.IsListIter it l i else h.IsTupleIter it l i
def yV(k:Bool)(h:Je)(l:Jc)(xs:Array Ja):Prop:=if k then h.IsList l xs else h.IsTuple l xs
theorem zFV.get{k:Bool}{h:Je}{it l:Jc}{i:Nat}(x:zFV k h it l i):∃ o,h.get? it=some o/\o.cls=.type (itN k)/\o.data=.fields #[.ref l,.int i 0]:=by
 cases k<;>(obtain⟨o,a,b,c⟩:=x;exact⟨o,a,b,c⟩)
theorem zFV.mk{k:Bool}{h:Je}{it l:Jc}{i:Nat}{o:Obj}(a:h.get? it=some o)(b:o.cls=.type (itN k))(c:o.data=.fields #[.ref l,.int i 0]):zFV k h it l i:=by
 cases k<;>exact⟨o,a,b,c⟩
theorem zFV.go{k:Bool}{h h':Je}{it l:Jc}{i:Nat}(x:zFV k h it l i)(g:∀ o,h.get? it=some o->h'.get? it=some o):zFV k h' it l i:=by
 obtain⟨o,a,b,c⟩:=x.get;exact .mk (g o a) b c
theorem yV.go{k:Bool}{h h':Je}{l:Jc}{xs:Array Ja}(x:yV k h l xs)(g:∀ o,h.get? l=some o->h'.get? l=some o):yV k h' l xs:=by
 cases k<;>(obtain⟨o,a,b⟩:=x;exact⟨o,g o a,b⟩)
section
variable{prog:Jf}{w:Jg}{A:Jh}{E:Ja->Jb->Prop}{s:Jb}
theorem zJe{k:Bool}{l:Jc}{xs:Array Ja}{Q:Ja->Jb->Prop}(hl:yV k s.heap l xs)(hQ:Q (.ref s.heap.objs.size) { s with heap:=s.heap.push { cls:=.type (itN k),data:=.fields #[.ref l,.int 0 0] } }):
  wpAny (model prog w) A (pyIter (.ref l)) Q E s:=by
 cases k
 ·exact wpAny_pyIter_tuple hl hQ
 ·exact wpAny_pyIter_list hl hQ
theorem nxT{it t:Jc}{i:Nat}{items:Array Ja}{Q:Ja->Jb->Prop}(hh:A.handled=none∨(items[i]?).isSome=true)(x:s.heap.IsTupleIter it t i)(y:s.heap.IsTuple t items)
  (go:∀ v,items[i]?=some v->∀ h2,h2.IsTupleIter it t (i+1)->Heap.SameBut it s.heap h2->Q v { s with heap:=h2 })
  (stop:items[i]?=none->∀ h2 e,Heap.ExtBut it s.heap h2->(∃ ob,h2.get? e=some ob/\ob.cls=.type "StopIteration")->E (.ref e) { s with heap:=h2 }):wpAny (model prog w) A (Builtin.SmallTypes.nextOf (.ref it)) Q E s:=by
 obtain⟨oi,ei,ci,di⟩:=id x;obtain⟨ot,et,_,nt,dt⟩:=y;have nn:¬ ((Value.ref t==Value.none)=true):=X7;unfold Builtin.SmallTypes.nextOf;refine Js (wpAny_callSpecial?_slot (name:=Str.ofString "__next__") x.typeIs F.slot_tuple_iterator_next (wpAny_call_entry F.slot_tuple_iterator_next x.typeIs F.entry_tuple_iterator_next (show wpAny _ _ (field _ 0 >>= _) _ _ s from Js (wpAny_field ei di (x:=.ref t) rfl ?_)) (F.args_tuple_iterator_next_1 _)))
 show wpAny _ _ (ite ((Value.ref t==Value.none)=true) _ _) _ _ s
 rw[Jl nn];refine show wpAny _ _ (field _ 1 >>= _) _ _ s from Js (wpAny_field ei di (x:=.int i 0) rfl (show wpAny _ _ (seqItems? _ >>= _) _ _ s from Js (wpAny_seqItems et dt ?_)))
 have fr:∀ g:Array Ja->Array Ja,Heap.get? (s.heap.update it (Obj.mapFields g)) it=some (Obj.mapFields g oi):=fun g=>Heap.get?_update_self _ ei (Obj.isFreed_of_fields (Obj.data_mapFields di g))
 cases q:items[i]? with
 | some v=>
  simp only[Vp,q];refine Js (wpAny_setField ei di (by simp) (Jw ⟨v,rfl,Jw (go v q _ ⟨_,fr _,(Obj.cls_mapFields ..).trans ci,?_⟩ (Heap.SameBut.update ..))⟩))
  rw[Obj.data_mapFields di];simp[rawInt]
 | none=>
  have hh:A.handled=none:=hh.elim id fun z=>by rw[q] at z;cases z
  simp only[Vp,q];refine Js (wpAny_rule (Js (wpAny_setField ei di (by simp) (show wpAny _ _ (newExc _ [] >>= _) _ _ _ from Js ?_))))
  simp only[newExc,newTuple];refine Js (wpAny_newObj_type (Js (m:=firstArgMember _ _) (wpAny_of_eq (a:=Value.none) (by first | rfl | (simp only[firstArgMember];rfl)) (wpAny_newObj_type ?_ (by size_fits)))) (by size_fits))
  simp only[raiseNew];refine Js (wpAny_handled ?_)
  rw[show A.in1.handled=none from hh];exact Js (Jw (wpAny_throw (stop q _ _ (((Heap.SameBut.update ..).extBut.push _).push _) ⟨_,Heap.get?_push_size _ rfl,rfl⟩)))
theorem zIx{k:Bool}{it t:Jc}{i:Nat}{items:Array Ja}{x:Ja}{Q:Ja->Jb->Prop}(hit:zFV k s.heap it t i)(ht:yV k s.heap t items)(hx:items[i]?=some x)
  (hQ:∀ h',zFV k h' it t (i+1)->Heap.SameBut it s.heap h'->Q x { s with heap:=h' }):wpAny (model prog w) A (Builtin.SmallTypes.nextOf (.ref it)) Q E s:=by
 cases k
 ·exact nxT (.inr (by rw[hx];rfl)) hit ht (fun v q h2 g1 g2=>by rw[hx] at q;cases q;exact hQ h2 g1 g2) fun q=>by rw[hx] at q;cases q
 ·exact wpAny_nextOf_list_item hit ht hx hQ
theorem zMr{k:Bool}{it t:Jc}{i:Nat}{items:Array Ja}{Q:Ja->Jb->Prop}(hh:A.handled=none)(hit:zFV k s.heap it t i)(ht:yV k s.heap t items)(hx:items[i]?=none)
  (hE:∀ h' e,Heap.ExtBut it s.heap h'->(∃ o,h'.get? e=some o/\o.cls=.type "StopIteration")->E (.ref e) { s with heap:=h' }):wpAny (model prog w) A (Builtin.SmallTypes.nextOf (.ref it)) Q E s:=by
 cases k
 ·exact nxT (.inl hh) hit ht (fun v q=>by rw[hx] at q;cases q) fun _=>hE
 ·exact wpAny_nextOf_list_end hh hit ht hx hE
def zAa(f0:Ja)(k1 k2:Bool)(l1 l2 n:Jc)(j1 j2:Nat)(h:Je):Prop:=
 IsZip h (n+4) (n+2) (n+3) f0/\IsPair h (n+2) (.ref n) (.ref (n+1))/\(∃ a b,IsPair h (n+3) a b)/\zFV k1 h n l1 j1/\zFV k2 h (n+1) l2 j2
def pX(n:Jc)(h h2:Je):Prop:=∀ c o,c≠n+4->c≠n+3->c≠n->c≠n+1->h.get? c=some o->h2.get? c=some o
theorem pX.then{n:Jc}{h h1 h2:Je}(a:pX n h h1)(b:pX n h1 h2):pX n h h2:=fun c o c1 c2 c3 c4 e=>b c o c1 c2 c3 c4 (a c o c1 c2 c3 c4 e)
theorem pX.eb{n a:Jc}{h h2:Je}(k:Heap.ExtBut a h h2)(m:a=n+4∨a=n+3∨a=n∨a=n+1):pX n h h2:=fun c o c1 c2 c3 c4 e=>k c o (fun z=>by subst z;rcases m with m | m | m | m<;>contradiction) e
theorem pX.sq{k:Bool}{n l:Jc}{h h2:Je}{xs:Array Ja}(a:pX n h h2)(hl:l<n)(x:yV k h l xs):yV k h2 l xs:=
 x.go fun o e=>a l o (Qq (Nat.lt_add_right 4 hl)) (Qq (Nat.lt_add_right 3 hl)) (Qq hl) (Qq (Xv hl)) e
theorem zLd(n:Jc):n+3≠n+4/\n+2≠n+4/\n≠n+4/\n+1≠n+4/\n+2≠n+3/\n≠n+3/\n+1≠n+3/\n+2≠n/\n+1≠n/\n+2≠n+1:=by
 refine⟨?_,?_,?_,?_,?_,?_,?_,?_,?_,?_⟩<;>(intro z;have z':(_:Nat)=_:=z;omega)
theorem zAa.fld{f0:Ja}{k1 k2:Bool}{l1 l2 n:Jc}{j1 j2:Nat}{h h2:Je}(g:zAa f0 k1 k2 l1 l2 n j1 j2 h){f1:Ja}(z:IsZip h2 (n+4) (n+2) (n+3) f1)(s:Heap.ExtBut (n+4) h h2):zAa f1 k1 k2 l1 l2 n j1 j2 h2:=by
 obtain⟨_,g2,⟨a,b,g3⟩,g4,g5⟩:=g;obtain⟨e1,e2,e3,e4,_⟩:=zLd n;exact⟨z,s _ _ e2 g2,⟨a,b,s _ _ e1 g3⟩,g4.go fun o e=>s _ o e3 e,g5.go fun o e=>s _ o e4 e⟩
theorem zAa.it1{f0:Ja}{k1 k2:Bool}{l1 l2 n:Jc}{j1 j2 m:Nat}{h h2:Je}(g:zAa f0 k1 k2 l1 l2 n j1 j2 h)(z:zFV k1 h2 n l1 m)(s:Heap.ExtBut n h h2):zAa f0 k1 k2 l1 l2 n m j2 h2:=by
 obtain⟨g1,g2,⟨a,b,g3⟩,_,g5⟩:=g;obtain⟨e1,e2,e3,e4,e5,e6,e7,e8,e9,_⟩:=zLd n;exact⟨s _ _ e3.symm g1,s _ _ e8 g2,⟨a,b,s _ _ e6.symm g3⟩,z,g5.go fun o e=>s _ o e9 e⟩
theorem zAa.it2{f0:Ja}{k1 k2:Bool}{l1 l2 n:Jc}{j1 j2 m:Nat}{h h2:Je}(g:zAa f0 k1 k2 l1 l2 n j1 j2 h)(z:zFV k2 h2 (n+1) l2 m)(s:Heap.ExtBut (n+1) h h2):zAa f0 k1 k2 l1 l2 n j1 m h2:=by
 obtain⟨g1,g2,⟨a,b,g3⟩,g4,_⟩:=g;obtain⟨e1,e2,e3,e4,e5,e6,e7,e8,e9,e10⟩:=zLd n;exact⟨s _ _ e4.symm g1,s _ _ e10 g2,⟨a,b,s _ _ e7.symm g3⟩,g4.go fun o e=>s _ o e9.symm e,z⟩
theorem zAa.out{f0 a b:Ja}{k1 k2:Bool}{l1 l2 n:Jc}{j1 j2:Nat}{h h2:Je}(g:zAa f0 k1 k2 l1 l2 n j1 j2 h)(z:IsPair h2 (n+3) a b)(s:Heap.ExtBut (n+3) h h2):zAa f0 k1 k2 l1 l2 n j1 j2 h2:=by
 obtain⟨g1,g2,_,g4,g5⟩:=g;obtain⟨e1,e2,e3,e4,e5,e6,e7,_⟩:=zLd n;exact⟨s _ _ e1.symm g1,s _ _ e5 g2,⟨a,b,z⟩,g4.go fun o e=>s _ o e6 e,g5.go fun o e=>s _ o e7 e⟩
theorem zTF{k1 k2:Bool}{n l1 l2:Jc}{j:Nat}{xs ys:Array Ja}{Q:PySem.Fin->Jb->Prop}(hh:A.handled=none)(b1:l1<n)(b2:l2<n)(g:zAa .none k1 k2 l1 l2 n j j s.heap)(d1:yV k1 s.heap l1 xs)(d2:yV k2 s.heap l2 ys)
  (go:∀ x y,xs[j]?=some x->ys[j]?=some y->∀ h2,zAa (rawInt s.heap.objs.size) k1 k2 l1 l2 n (j+1) (j+1) h2->IsPair h2 s.heap.objs.size x y->pX n s.heap h2->Q (.done (.ret (.ref s.heap.objs.size))) { s with heap:=h2 })
  (stop:xs[j]?=none∨ys[j]?=none->∀ h2 e,pX n s.heap h2->(∃ o,h2.get? e=some o/\o.cls=.type "StopIteration")->E (.ref e) { s with heap:=h2 }):
  wpAny (model prog w) A (Builtin.«zip.__next__» ⟨[.ref (n+4)],[]⟩) Q E s:=by
 have stopZ:∀ {h1:Je} {e:Jc} {v:Ja} {k:Nat} {R:Unit->Jb->Prop},(xs[j]?=none∨ys[j]?=none)->pX n s.heap h1->IsZip h1 (n+4) (n+2) (n+3) .ellipsis->(∃ o,h1.get? e=some o/\o.cls=.type "StopIteration")->k<5->
   (∀ h3,pX n s.heap h3->(∃ o,h3.get? e=some o/\o.cls=.type "StopIteration")->R () { s with heap:=h3 })->wpAny (model prog w) A (setField (.ref (n+4)) k v) R E { s with heap:=h1 }:=by
  intro h1 e v k R q kz z he hk fin;obtain⟨oe,e1,e2⟩:=he;have nz:e≠n+4:=fun y=>by subst y;rw[z] at e1;cases e1;simp at e2
  exact wpAny_setField_rec z (by simpa using hk) fun h3 _ s3=>fin h3 (kz.then (.eb s3.extBut (.inl rfl))) ⟨oe,s3.extBut _ _ nz e1,e2⟩
 obtain⟨z0,t0,⟨a,b,p0⟩,_⟩:=id g;refine show wpAny _ _ (field _ 2 >>= _) _ _ s from Js (wpAny_field z0 rfl (x:=.bool false) rfl (show wpAny _ _ (field _ 3 >>= _) _ _ s from Js (wpAny_field z0 rfl (x:=.ref (n+2)) rfl (Js (wpAny_seqItems t0 rfl (Js ?_))))))
 unfold Builtin.SmallTypes.ownedTupleIsFree;refine Js (wpAny_field z0 rfl (x:=.none) rfl (Jw ?_))
 simp only[if_true];refine Js (wpAny_rule (Js (wpAny_field z0 rfl (x:=.ref (n+3)) rfl (Js (wpAny_setField_rec z0 (by simp) fun h1 z1 s1=>Js ?_)))))
 have g1:zAa .ellipsis k1 k2 l1 l2 n j j h1:=g.fld z1 s1.extBut;have k1':pX n s.heap h1:=.eb s1.extBut (.inl rfl);simp only[List.zipIdx_cons,List.zipIdx_nil,Uc,List.forIn_nil];refine Js (Js (wpAny_onRaise (show wpAny _ _ (Builtin.SmallTypes.nextOf _ >>= _) _ _ _ from Js ?_)))
 cases q1:xs[j]? with
 | none=>
  refine zMr (s:={ s with heap:=h1 }) hh g1.2.2.2.1 (k1'.sq b1 d1) q1 fun h2 e x2 he=>stopZ (.inl q1) (k1'.then (.eb x2 (.inr (.inr (.inl rfl))))) (x2 _ _ (zLd n).2.2.1.symm g1.1) he (by decide) fun h3=>stop (.inl q1) h3 e
 | some x=>
  refine zIx (s:={ s with heap:=h1 }) g1.2.2.2.1 (k1'.sq b1 d1) q1 fun h2 i2 s2=>Jw ?_
  have g2:=g1.it1 i2 s2.extBut;have k2':=k1'.then (.eb s2.extBut (.inr (.inr (.inl rfl))));have p2:IsPair h2 (n+3) a b:=s2.extBut _ _ (zLd n).2.2.2.2.2.1.symm (s1.extBut _ _ (zLd n).1 p0);refine Js (wpAny_seqItems (s:={ s with heap:=h2 }) p2 rfl (Js (wpAny_updateSeq_pair p2 fun h3 p3 s3=>Js (wpAny_letGo (Jw ?_)))))
  have g3:=g2.out p3 s3.extBut;have k3':=k2'.then (.eb s3.extBut (.inr (.inl rfl)));refine Js (Js (wpAny_onRaise (show wpAny _ _ (Builtin.SmallTypes.nextOf _ >>= _) _ _ _ from Js ?_)))
  cases q2:ys[j]? with
  | none=>
   refine zMr (s:={ s with heap:=h3 }) hh g3.2.2.2.2 (k3'.sq b2 d2) q2 fun h4 e x4 he=>stopZ (.inr q2) (k3'.then (.eb x4 (.inr (.inr (.inr rfl))))) (x4 _ _ (zLd n).2.2.2.1.symm g3.1) he (by decide) fun h5=>stop (.inr q2) h5 e
  | some y=>
   refine zIx (s:={ s with heap:=h3 }) g3.2.2.2.2 (k3'.sq b2 d2) q2 fun h4 i4 s4=>Jw ?_
   have g4:=g3.it2 i4 s4.extBut;have p4:IsPair h4 (n+3) x b:=s4.extBut _ _ (zLd n).2.2.2.2.2.2.1.symm p3;refine Js (wpAny_seqItems (s:={ s with heap:=h4 }) p4 rfl (Js (wpAny_updateSeq_pair p4 fun h5 p5 s5=>Js (wpAny_letGo (Jw (Jw ?_))))))
   have p5:IsPair h5 (n+3) x y:=p5;have g5:=g4.out p5 s5.extBut;have k5':=(k3'.then (.eb s4.extBut (.inr (.inr (.inr rfl))))).then (.eb s5.extBut (.inr (.inl rfl)));have sz:h5.objs.size=s.heap.objs.size:=s5.1.trans (s4.1.trans (s3.1.trans (s2.1.trans s1.1)));refine Js (wpAny_seqItems (s:={ s with heap:=h5 }) p5 rfl (Js (wpAny_newTuple (show wpAny _ _ (Builtin.SmallTypes.ownedTupleHandOut _ (.ref h5.objs.size) >>= _) _ _ _ from Js ?_))))
   unfold Builtin.SmallTypes.ownedTupleHandOut;refine Js (wpAny_setField_rec (Heap.get?_push_of_some _ g5.1) (by simp) fun h7 z7 s7=>wpAny_setField_rec z7 (by simp) fun h8 z8 s8=>Jw ?_)
   have nz:h5.objs.size≠n+4:=Y4 (Heap.lt_size g5.1);have x8:Heap.ExtBut (n+4) h5 h8:=fun c o c1 e=>s8.extBut _ _ c1 (s7.extBut _ _ c1 (Heap.get?_push_of_some _ e))
   have g8:zAa (rawInt h5.objs.size) k1 k2 l1 l2 n (j+1) (j+1) h8:=g5.fld z8 x8;have t8:IsPair h8 h5.objs.size x y:=s8.extBut _ _ nz (s7.extBut _ _ nz (Heap.get?_push_size _ rfl));rw[sz] at g8 t8;show Q (.done (.ret (.ref h5.objs.size))) _
   rw[sz];exact go x y q1 q2 h8 g8 t8 (k5'.then (.eb x8 (.inl rfl)))
theorem zST{k1 k2:Bool}{n l1 l2:Jc}{j:Nat}{xs ys:Array Ja}{Q:Option Ja->Jb->Prop}(hh:A.handled=none)(b1:l1<n)(b2:l2<n)(g:zAa .none k1 k2 l1 l2 n j j s.heap)(d1:yV k1 s.heap l1 xs)(d2:yV k2 s.heap l2 ys)
  (go:∀ x y,xs[j]?=some x->ys[j]?=some y->∀ h2,zAa (rawInt s.heap.objs.size) k1 k2 l1 l2 n (j+1) (j+1) h2->IsPair h2 s.heap.objs.size x y->pX n s.heap h2->Q (some (.ref s.heap.objs.size)) { s with heap:=h2 })
  (stop:xs[j]?=none∨ys[j]?=none->∀ h2,pX n s.heap h2->Q none { s with heap:=h2 }):wpAny (model prog w) A (pyNext (.ref (n+4))) Q E s:=by
 have ty:s.TypeIs (.ref (n+4)) "zip" := ⟨_,g.1,rfl⟩;unfold pyNext
 refine Js (wpAny_attempt (wpAny_callSpecial?_slot (name:=Str.ofString "__next__") ty F.slot_zip_next (wpAny_call_entry F.slot_zip_next ty F.entry_zip_next
  (zTF hh b1 b2 g d1 d2 (fun x y q1 q2 h2 a1 a2 a3=>⟨_,rfl,Jw (go x y q1 q2 h2 a1 a2 a3)⟩) fun q h2 e k he=>?_) (F.args_zip_next_1 _))))
 obtain⟨o,eo,co⟩:=he;exact Js (wpAny_isInstance (T := "StopIteration") (b:=true) ⟨o,eo,co⟩ isSubtype_stop (Jw (stop q h2 k)))
end
abbrev zO(k:Bool)(l:Jc):Obj:={ cls:=.type (itN k),data:=.fields #[.ref l,.int 0 0] }
abbrev zH2(k1 k2:Bool)(h:Je)(l1 l2:Jc):Je:=(h.push (zO k1 l1)).push (zO k2 l2)
abbrev zH3(k1 k2:Bool)(h:Je)(l1 l2:Jc):Je:=(zH2 k1 k2 h l1 l2).push { cls:=.type "tuple", data:=.seq #[.ref h.objs.size,.ref (h.push (zO k1 l1)).objs.size] }
abbrev zH4(k1 k2:Bool)(h:Je)(l1 l2:Jc):Je:=(zH3 k1 k2 h l1 l2).push { cls:=.type "tuple", data:=.seq #[.none,.none] }
abbrev zH5(k1 k2:Bool)(h:Je)(l1 l2:Jc):Je:=(zH4 k1 k2 h l1 l2).push { cls:=.type "zip", data:=.fields #[.none,.bool false,.bool false,.ref (zH2 k1 k2 h l1 l2).objs.size,.ref (zH3 k1 k2 h l1 l2).objs.size] }
theorem zKD(k1 k2:Bool)(l1 l2:Jc)(xs ys:Array Ja):Meets (Builtin.«zip.__new__» ⟨[.type "zip", .ref l1,.ref l2],[]⟩) (fun _ R s=>yV k1 s.heap l1 xs/\yV k2 s.heap l2 ys/\
  R (.ok (.ret (.ref (zH4 k1 k2 s.heap l1 l2).objs.size))) { s with heap:=zH5 k1 k2 s.heap l1 l2 }):=
 .of_wp fun prog w A R s h=>by
  obtain⟨hp,g,d,tk,os⟩:=s;obtain⟨hl1,hl2,h⟩:=h;have hsub:=sub_zip;have d1:yV k1 (Shared.heap ⟨hp,g,d,tk,os⟩) l1 xs:=hl1;have d2:yV k2 (Shared.heap ⟨hp.push { cls:=.type (itN k1),data:=.fields #[.ref l1,.int 0 0] },g,d,tk,os⟩) l2 ys:=hl2.go fun o e=>Heap.get?_push_of_some _ e
  wp_walk using zJe d1,zJe d2
  exact⟨_,rfl,h⟩
section
variable{prog:Jf}{w:Jg}{A:Jh}{E:Ja->Jb->Prop}{s:Jb}
theorem zKC{k1 k2:Bool}{l1 l2:Jc}{xs ys:Array Ja}{Q:Ja->Jb->Prop}(d1:yV k1 s.heap l1 xs)(d2:yV k2 s.heap l2 ys)
  (h:∀ h2,zAa .none k1 k2 l1 l2 s.heap.objs.size 0 0 h2->(∀ c o,s.heap.get? c=some o->h2.get? c=some o)->Q (.ref (s.heap.objs.size+4)) { s with heap:=h2 }):wpAny (model prog w) A (call (.type "zip") [.ref l1,.ref l2]) Q E s:=by
 refine callType_new F.called_zip (by decide) (F.typeCall_zip_2 _ _) (F.newCall_zip_2 _ _) (fun obj=>F.args_object_init_3 obj _ _) F.entry_zip_new (zKD k1 k2 l1 l2 xs ys) ⟨d1,d2,?_⟩
 have up:∀ {h:Je} {a:Jc} {o ob:Obj},h.get? a=some o->(h.push ob).get? a=some o:=fun e=>Heap.get?_push_of_some _ e
 have m1:(s.heap.push (zO k1 l1)).objs.size=s.heap.objs.size+1:=Heap.size_push ..;have m2:(zH2 k1 k2 s.heap l1 l2).objs.size=s.heap.objs.size+2:=(Heap.size_push ..).trans (congrArg (·+1) m1);have m3:(zH3 k1 k2 s.heap l1 l2).objs.size=s.heap.objs.size+3:=(Heap.size_push ..).trans (congrArg (·+1) m2);have m4:(zH4 k1 k2 s.heap l1 l2).objs.size=s.heap.objs.size+4:=(Heap.size_push ..).trans (congrArg (·+1) m3);have r0:(zH5 k1 k2 s.heap l1 l2).get? s.heap.objs.size=some (zO k1 l1):=up (up (up (up (Heap.get?_push_size _ rfl))));have r1:(zH5 k1 k2 s.heap l1 l2).get? (s.heap.push (zO k1 l1)).objs.size=some (zO k2 l2):=up (up (up (Heap.get?_push_size _ rfl)));have r2:(zH5 k1 k2 s.heap l1 l2).get? (zH2 k1 k2 s.heap l1 l2).objs.size=some _:=up (up (Heap.get?_push_size _ rfl));have r3:(zH5 k1 k2 s.heap l1 l2).get? (zH3 k1 k2 s.heap l1 l2).objs.size=some _:=up (Heap.get?_push_size _ rfl);have r4:(zH5 k1 k2 s.heap l1 l2).get? (zH4 k1 k2 s.heap l1 l2).objs.size=some _:=Heap.get?_push_size _ rfl;rw[m1] at r1;rw[m1,m2] at r2;rw[m3] at r3;rw[m2,m3,m4] at r4;show _/\_
 rw[m4];exact⟨⟨_,r4,rfl⟩,h _ ⟨r4,r2,⟨_,_,r3⟩,.mk r0 rfl rfl,.mk r1 rfl rfl⟩ fun c o x=>up (up (up (up (up x))))⟩
end
section
variable{X:Cx}{Mi:List (Jc×Obj)}{σ:St}{H:Hp}{s:Jb}{h':Je}{fp:List Jc}
theorem zOI{t':Nat}{p:Jc}{xs:List V}{us:List Ja}(I:Inv X Mi σ H s)(hf:∀ b∈fp,uI X Mi H b)(k:∀ b o,b∉fp->s.heap.get? b=some o->h'.get? b=some o)
  (hp:s.heap.objs.size<=p) (ht:IsTup h' p us.toArray) (hv:dS xs us) (hz:xs.length<=sizeLine):Inv X Mi σ (upd H p (.tup xs)) { s with heap:=h',toks:=t' }:=by
 have hn:H p=none:=I.hok.fresh hp;have nf:∀ b u,H b=some u->b∉fp:=fun b u e z=>by rw[(hf b z).1] at e;cases e
 have np:∀ b u,H b=some u->upd H p (.tup xs) b=some u:=fun b u e=>by rw[bB (bC e hn)];exact e
 refine I.step (g':=s.gens) (d':=s.drawn) (ch:=fp) (fun b hb=>⟨(hf b hb).2.2.2.1,(hf b hb).2.1,(hf b hb).2.2.2.2.1,(hf b hb).2.2.2.2.2⟩) (fun b o _ _ hc e _=>k b o hc e) (fun b o _ _ hc e _=>⟨o.slots,k b o hc e⟩) (fun b o _ e n=>?_)
  (fun b o hc e=>⟨o,k b o hc e⟩) (fun b xs e=>np _ _ e) (fun b o u e=>np _ _ e) (fun b ps e=>⟨#[],by rw[np _ _ e];simp⟩) (fun m hm=>?_) (fun b u e=>?_) I.bare
 ·rw[bB (Qq (Qn (Heap.lt_size e) hp))];exact n
 ·obtain⟨o,es,ep,ho,r⟩:=hm
  exact⟨o,es,ep,k _ o (fun z=>(hf _ z).2.1 rfl) ho,r⟩
 ·by_cases hb:b=p
  ·subst hb
   rw[aY] at e;cases e
   exact⟨hz,us,hv,ht⟩
  ·rw[bB hb] at e
   refine(I.hok b u e).stay (fun c v hc q=>k c v ?_ q) (fun _ q=>np _ _ q) fun _ _ q=>np _ _ q
   rcases hc with z | z
   ·rw[z];exact nf b u e
   ·exact nf c _ z
theorem zOd{t':Nat}(I:Inv X Mi σ H s)(hf:∀ b∈fp,uI X Mi H b)(k:∀ b o,b∉fp->s.heap.get? b=some o->h'.get? b=some o):Inv X Mi σ H { s with heap:=h',toks:=t' }:=by
 have nf:∀ b u,H b=some u->b∉fp:=fun b u e z=>by rw[(hf b z).1] at e;cases e
 refine I.step (g':=s.gens) (d':=s.drawn) (ch:=fp) (fun b hb=>⟨(hf b hb).2.2.2.1,(hf b hb).2.1,(hf b hb).2.2.2.2.1,(hf b hb).2.2.2.2.2⟩) (fun b o _ _ hc e _=>k b o hc e) (fun b o _ _ hc e _=>⟨o.slots,k b o hc e⟩) (fun b o _ e n=>n)
  (fun b o hc e=>⟨o,k b o hc e⟩) (fun b xs e=>e) (fun b o u e=>e) (fun b ps e=>⟨#[],by rw[e];simp⟩) (fun m hm=>?_) (fun b u e=>?_) I.bare
 ·obtain⟨o,es,ep,ho,r⟩:=hm
  exact⟨o,es,ep,k _ o (fun z=>(hf _ z).2.1 rfl) ho,r⟩
 ·refine(I.hok b u e).stay (fun c v hc q=>k c v ?_ q) (fun _ q=>q) fun _ _ q=>q
  rcases hc with z | z
  ·rw[z];exact nf b u e
  ·exact nf c _ z
end
def SqK(k:Bool)(K:PySem.W.Frag)(H:Hp)(a:Jc)(xs:List V):Prop:=if k then SqL K H a xs else SqT K H a xs
theorem uK{k:Bool}{K:Fg_}{H H':Hp}(e:Same H H'){a:Jc}{xs:List V}(h:SqK k K H a xs):SqK k K H' a xs:=by
 cases k
 ·exact cW e h
 ·exact dD e h
section
variable{X:Cx}{Mi:List (Jc×Obj)}{σ:St}{H:Hp}{s:Jb}{k:Bool}{a:Jc}{xs ys:List V}
theorem sqI(I:Inv X Mi σ H s)(h:SqK k X.K H a xs):∃ its:List Ja,dS xs its/\yV k s.heap a its.toArray/\xs.length<=sizeLine:=by
 cases k
 ·obtain⟨its,rv,p,hz⟩:=I.tuple h
  exact⟨its,rv,p,hz⟩
 ·obtain⟨its,rv,p,hz⟩:=I.list h
  exact⟨its,rv,p.isList,hz⟩
theorem zIi(I:Inv X Mi σ H s)(h:SqK k X.K H a xs)(h':SqK k X.K H a ys):xs=ys:=by
 cases k
 ·exact I.tuple_inj h h'
 ·exact I.list_inj h h'
theorem yV.lt{h:Je}{l:Jc}{xs:Array Ja}(x:yV k h l xs):l<h.objs.size:=by
 cases k<;>(obtain⟨o,e,_⟩:=x;exact Heap.lt_size e)
end
def Itz(K:PySem.W.Frag)(k1 k2:Bool)(a1 a2:Jc):It:=
  ⟨fun i H=>∃ xs ys x y,SqK k1 K H a1 xs/\SqK k2 K H a2 ys/\xs[i]?=some x/\ys[i]?=some y,
   fun i H v H'=>∃ p x y,v=.ref p/\H p=none/\H'=upd H p (.tup [x,y])/\(∀ xs,SqK k1 K H a1 xs->xs[i]?=some x)/\∀ ys,SqK k2 K H a2 ys->ys[i]?=some y,
   fun i H=>∃ xs ys,SqK k1 K H a1 xs/\SqK k2 K H a2 ys/\(xs.length<=i∨ys.length<=i)⟩
def zTz(k1 k2:Bool)(a1 a2 n:Jc)(i:Nat)(h:Je):Prop:=zAa .none k1 k2 a1 a2 n i i h
theorem wX{h:Je}{b:Jc}{o:Obj}{d:Data}(e:h.get? b=some o)(hd:o.data=d)(nd:∀ v,d≠.cell v):∃ o,h.get? b=some o/\∀ v,o.data≠.cell v:=⟨o,e,fun v z=>nd v (hd.symm.trans z)⟩
theorem zLy{P:Jf}{w:Jg}{K:Fg_}{elts:List Expr}{x1:Nat}{tp:Pos}(k1 k2:Bool)(a1 a2 n:Jc)(l1:a1<n)(l2:a2<n):
  Turn P w K (.Tuple elts x1 tp) (Itz K k1 k2 a1 a2) [n+4,n+2,n+3,n,n+1] (n+4) (zTz k1 k2 a1 a2 n) where
 mem:=by simp
 obj:=fun i h st b hb=>by
  obtain⟨t1,t2,⟨a,b',t3⟩,t4,t5⟩:=st;obtain⟨o4,e4,_,d4⟩:=t4.get;obtain⟨o5,e5,_,d5⟩:=t5.get;simp only[Qd,X4,or_false] at hb;rcases hb with rfl | rfl | rfl | rfl | rfl
  ·exact wX t1 rfl fun v z=>by cases z
  ·exact wX t2 rfl fun v z=>by cases z
  ·exact wX t3 rfl fun v z=>by cases z
  ·exact wX e4 d4 fun v z=>by cases z
  ·exact wX e5 d5 fun v z=>by cases z
 keep:=fun i h h' st k=>by
  obtain⟨t1,t2,⟨a,b',t3⟩,t4,t5⟩:=st;exact⟨k _ (by simp) _ t1,k _ (by simp) _ t2,⟨a,b',k _ (by simp) _ t3⟩,t4.go fun o e=>k _ (by simp) o e,t5.go fun o e=>k _ (by simp) o e⟩
 item:=by
  intro X hP hw hK hc i Mi s σ H E I hf st hg;subst hP hw hK;obtain⟨xs,ys,x,y,q1,q2,hx,hy⟩:=hg;obtain⟨us,r1,s1,z1⟩:=sqI I q1;obtain⟨ws,r2,s2,z2⟩:=sqI I q2;obtain⟨u,hu,ru⟩:=r1.get hx;obtain⟨v,hv,rv⟩:=r2.get hy;have hu':us.toArray[i]?=some u:=by simpa using hu
  have hv':ws.toArray[i]?=some v:=by simpa using hv
  have st':=st;obtain⟨t1,t2,⟨a,b,t3⟩,t4,t5⟩:=st;refine zST (I.ok.hd hc) l1 l2 st' s1 s2 (fun x' y' f1 f2 h' g' p' kz=>?_) (fun q=>?_)
  rotate_left
  ·rw[hu',hv'] at q;rcases q with q | q<;>cases q
  rw[hu'] at f1;cases f1
  rw[hv'] at f2;cases f2
  refine⟨_,rfl,wpAny_letOwnedTupleGo_zip (s:={ s with heap:=h' }) g'.1 fun h'' c1 c2=>?_⟩
  have zl:s.heap.objs.size≠n+4:=Y4 (Heap.lt_size t1);have np:H s.heap.objs.size=none:=I.hok.fresh (Qh _)
  have I1:Inv X Mi σ (upd H s.heap.objs.size (.tup [x,y])) { s with heap:=h'',toks:=s.toks }:=zOI (us:=[u,v]) I hf (fun b o hb e=>by
    simp only[Qd,X4,or_false,not_or] at hb
    exact c2.extBut b o hb.1 (kz b o hb.1 hb.2.2.1 hb.2.2.2.1 hb.2.2.2.2 e)) (Qh _) ⟨_,c2.extBut _ _ zl p',rfl,_,rfl⟩ (.cons ru (.cons rv .nil)) (show 2<=sizeLine by decide)
  refine⟨.ref s.heap.objs.size,_,I1,rfl,⟨_,x,y,rfl,np,rfl,fun zs hz=>by rw[zIi I hz q1];exact hx,fun zs hz=>by rw[zIi I hz q2];exact hy⟩,g'.fld c1 c2.extBut,fun b hb=>?_⟩
  ·obtain⟨o,e,_⟩:∃ o,s.heap.get? b=some o/\True:=by
    obtain⟨o4,e4,_⟩:=t4.get;obtain⟨o5,e5,_⟩:=t5.get;simp only[Qd,X4,or_false] at hb;rcases hb with rfl | rfl | rfl | rfl | rfl
    ·exact⟨_,t1,trivial⟩
    ·exact⟨_,t2,trivial⟩
    ·exact⟨_,t3,trivial⟩
    ·exact⟨_,e4,trivial⟩
    ·exact⟨_,e5,trivial⟩
   rw[bB (Qq (Heap.lt_size e))];exact(hf b hb).1
 done:=by
  intro X hP hw hK hc i Mi s σ H E I hf st hg;subst hP hw hK;obtain⟨xs,ys,q1,q2,hl⟩:=hg;obtain⟨us,r1,s1,z1⟩:=sqI I q1;obtain⟨ws,r2,s2,z2⟩:=sqI I q2;have st':=st;obtain⟨t1,t2,⟨a,b,t3⟩,t4,t5⟩:=st;have e1:=r1.length;have e2:=r2.length;refine zST (I.ok.hd hc) l1 l2 st' s1 s2 (fun x y f1 f2=>?_) fun _ h' b7=>⟨rfl,zOd (t':=s.toks) I hf fun b o hb e=>?_⟩
  ·have m1:=(W9.mp f1).1
   have m2:=(W9.mp f2).1;rw[Qk] at m1 m2;omega
  ·simp only[Qd,X4,or_false,not_or] at hb
   exact b7 b o hb.1 hb.2.2.1 hb.2.2.2.1 hb.2.2.2.2 e
 self:=fun _ _ _ _ _ st h=>wpAny_pyIter_zip st.1 h
section
unseal PEd PEf PTd PWd PAd PSd eX POd PGd jV PId PSx mQ PTs PCd PCf
variable{X:Cx}{G:Gx}{fs:Fv}{f:Ev}
def iZp(K:PySem.W.Frag)(ta:TA):TI:=fun σ H R=>ta σ H fun vs H1=>∃ k1 k2 a1 a2 xs ys,vs=[.ref a1,.ref a2]/\SqK k1 K H1 a1 xs/\SqK k2 K H1 a2 ys/\R (Itz K k1 k2 a1 a2) H1
theorem zQt{a b:Expr}{ta:TA}{p pos:Pos}{elts:List Expr}{x1:Nat}{tp:Pos}(hg:Gl X "zip")(hm:X.mg "zip" = none)(ha:PA X [a,b] ta)
  (hs:starEach [a,b] X.env=[(false,eval a X.env),(false,eval b X.env)]:=by rfl) (hs2:starEach [b] X.env=[(false,eval b X.env)]:=by rfl):PI X (.Tuple elts x1 tp) (.Call (.Name "zip" p) [a,b] [] pos) (iZp X.K ta):=by
 intro Mi s σ H R I h;refine Call_ (rL I hg hm boot_zip (X8 (thn (ha pos Mi s σ H _ I h) fun us s1 ⟨vs,H1,I1,r1,q1⟩=>?_) (by rw[hs,hs2]) (by rw[hs2];rfl)))
 obtain⟨k1,k2,a1,a2,xs,ys,rfl,h1,h2,q⟩:=q1
 cases r1 with
 | cons r rr=>
  cases rr with
  | cons r' rr=>
   cases rr;cases r;cases r'
   obtain⟨us,rv,p1,z1⟩:=sqI I1 h1;obtain⟨ws,rw_,p2,z2⟩:=sqI I1 h2;refine zKC p1 p2 fun h' b1 b6=>wpAny_pyIter_zip (s:={ s1 with heap:=h' }) b1.1 ?_
   refine⟨s1.heap.objs.size+4,_,_,_,H1,rfl,I1.kept (t':=s1.toks) b6,zLy k1 k2 a1 a2 s1.heap.objs.size p1.lt p2.lt,b1,fun b hb=>?_,q⟩
   have hb':s1.heap.objs.size<=b:=by
    simp only[Qd,X4,or_false] at hb;rcases hb with rfl | rfl | rfl | rfl | rfl<;>omega
   exact I1.fpOk hb' (I1.hok.fresh hb')
theorem zDo:∀(xs ys:List D)(i:Nat)(d:D),(kT xs ys)[i]?=some d->∃ a b,xs[i]?=some a/\ys[i]?=some b/\d=.tup [a,b]
 | a::r,b::q,0,d,h=>by cases h;exact⟨a,b,rfl,rfl,rfl⟩
 | a::r,b::q,i+1,d,h=>zDo r q i d h
 | [],_,i,d,h=>by cases i<;>cases h
 | a::r,[],i,d,h=>by cases i<;>cases h
theorem zDh:∀(xs ys:List D),(kT xs ys).length=min xs.length ys.length
 | a::r,b::q=>by
  have:=zDh r q
  simp only[kT,Qm,this];omega
 | [],_=>by simp[kT]
 | a::r,[]=>by simp[kT]
theorem zJc{K:Fg_}{Hi:Hp}{k1 k2:Bool}{a1 a2:Jc}{xs ys:List V}{ds es:List D}(h1:SqK k1 K Hi a1 xs)(h2:IsDs K Hi xs ds)(h3:SqK k2 K Hi a2 ys)(h4:IsDs K Hi ys es):
  xJ K Hi (Itz K k1 k2 a1 a2) (kT ds es):=fun Hi1 H1 s1 s2 i=>by
 have g1:=uK (s1.trans s2) h1;have g3:=uK (s1.trans s2) h3;refine⟨fun hl=>⟨xs,ys,g1,g3,?_⟩,fun d hd=>?_⟩
 ·rw[zDh] at hl
  have e1:=h2.length;have e2:=h4.length;omega
 ·obtain⟨a,b,ha,hb,rfl⟩:=zDo ds es i d hd
  obtain⟨v,hv,rv⟩:=h2.at ha;obtain⟨w,hw,rw_⟩:=h4.at hb;refine⟨⟨xs,ys,v,w,g1,g3,hv,hw⟩,fun x H2 y=>?_⟩
  obtain⟨p,x',y',rfl,hp,rfl,y1,y2⟩:=y;have e1:=y1 xs g1;have e2:=y2 ys g3;rw[hv] at e1;cases e1
  rw[hw] at e2;cases e2
  have hi:=s2.none hp;have sm:=cX hi (.tup [v,w]);exact⟨upd Hi1 p (.tup [v,w]),Ext.new s2 hp,.tup (.inl (.inl aY)) (.cons ((rv.mono s1).mono sm) (.cons ((rw_.mono s1).mono sm) .nil))⟩
theorem zSS{K:Fg_}{H:Hp}{v:V}{d:D}{ds:List D}(h:IsD K H v d)(e:zKw d=some ds):∃ k a xs,v=.ref a/\SqK k K H a xs/\IsDs K H xs ds:=by
 cases d with
 | lst es=>cases e;obtain⟨a,xs,rfl,h1,h2⟩:=h.lstI;exact⟨true,a,xs,rfl,h1,h2⟩
 | tup es=>cases e;obtain⟨a,xs,rfl,h1,h2⟩:=h.tupI;exact⟨false,a,xs,rfl,h1,h2⟩
 | _=>cases e
theorem zJP{a b:Expr}{p pos:Pos}{elts:List Expr}{x1:Nat}{tp:Pos}(hg:Gl X "zip")(hm:X.mg "zip" = none)(ha:PAd X G [a,b] fs)
  (hs:starEach [a,b] X.env=[(false,eval a X.env),(false,eval b X.env)]:=by rfl) (hs2:starEach [b] X.env=[(false,eval b X.env)]:=by rfl):
  PId X G (.Tuple elts x1 tp) (.Call (.Name "zip" p) [a,b] [] pos) (zMT fs):=PI.wk (zQt hg hm ha hs hs2) fun σ H Q q=>by
 obtain⟨ρ,Hi,R,ou⟩:=q;refine zLI R ou fun vs ds Hi1 H1 e1 R1 r1 o1=>?_
 split at o1
 ·rename_i x y
  obtain⟨v,w,rfl,h,h'⟩:=r1.two;split at o1
  ·rename_i ds es q1 q2
   obtain⟨k1,a1,xs,rfl,g1,g2⟩:=zSS h q1;obtain⟨k2,a2,ys,rfl,g3,g4⟩:=zSS h' q2;exact⟨k1,k2,a1,a2,xs,ys,rfl,uK R1.s g1,uK R1.s g3,o1.here R1.s _ (zJc g1 g2 g3 g4)⟩
  ·exact o1.elim
 ·exact o1.elim
end
end L3
namespace L3
open PySem PySem.Spec PyProof.Rows L2
unseal PEd PEf PTd PWd PAd PSd eX POd PGd jV PId PSx mQ PTs PCd PCf
structure BlkOk2 (X:Cx) (xs:List Str) (scope:Scope):Prop where
 kind:scope.kind=.function
 cell:∀ y∈scope.names,y.2≠.cell
 loc:∀ x∈xs,scope.names.lookup x=some .local
 names:∀ y∈scope.names,y.2=.local->scope.names.lookup y.1=some .local
 fre:∀ p∈scope.names,p.2=.free->X.env.kindOf p.1=some .cell∨X.env.kindOf p.1=some .free
 oth:∀ y∈X.N,scope.names.lookup y≠some .local
def zDH(X:Cx)(xs:List Str)(scope:Scope)(C:Jc)(s₂:Jb)(H₂:Hp)(fp:List Jc):Cx:=
  { prog:=X.prog,w:=X.w,K:=X.K,mg:=X.mg,base:=X.base,A:=X.A,N:=X.N++xs,s₀:=s₂,H₀:=H₂,env:=compEnvC scope (zEs X.env scope.names []) C X.env,outer:=X.stack,stack:=X.stack,
    ex:=fp,fn:=fun _=>false,calm:=X.calm,pn:=X.pn,xe:=fun _ _=>False }
section
variable{X:Cx}{Mi:List (Jc×Obj)}{σ:St}{H:Hp}{s₂:Jb}{xs:List Str}{scope:Scope}{fp:List Jc}{D C:Jc}{h₁:Je}
theorem BlkOk2.cl(B:BlkOk2 X xs scope)(I:Inv X Mi σ H s₂):∀ p∈scope.names,p.2=.free->∃ c,X.env.cells.lookup p.1=some c:=fun p hp e=>I.ok.has p.1 (B.fre p hp e)
theorem zPZ(I:Inv X Mi σ H s₂)(B:BlkOk2 X xs scope)(hfp:∀ b∈fp,uI X Mi H b)(hfl:∀ b∈fp,b<s₂.heap.objs.size)(hD:s₂.heap.objs.size<=D)(hC:s₂.heap.objs.size<=C)(hDC:D≠C)
  (old:∀ b o,s₂.heap.get? b=some o->h₁.get? b=some o) {n:Nat} (hacc:h₁.get? D=some { cls:=.type "list", data:=.seq ([]:List Ja).toArray n }) {m:Str->Option Ja} (hns:h₁.Ns C m) (t:Nat):
  Inv (zDH X xs scope C s₂ H fp) Mi (σ++xs.map fun _=>none) (upd H D (.lst [])) { s₂ with heap:=h₁,toks:=t }:=by
 have sub:=wP scope.names [] (B.cl I) (fun y c e=>nomatch e)
 have old_lt:∀ {b:Jc} {o:Obj},s₂.heap.get? b=some o->b≠D/\b≠C:=fun e=>⟨Qq (Qn (Heap.lt_size e) hD),Qq (Qn (Heap.lt_size e) hC)⟩
 have free:∀ {b:Jc},b≠D->H b=none->upd H D (.lst []) b=none:=fun n e=>by rw[bB n];exact e
 refine⟨⟨I.ok.mod,B.kind,I.ok.glob,I.ok.blt,hC,fun y z c e1 e2=>I.ok.inj y z c (sub y c e1) (sub z c e2),fun y hy=>?_,fun y c e=>(nomatch e),I.ok.hd,I.ok.frames,.inl rfl,fun b hb=>⟨Qq (Qn (hfl b hb) hC),fun y c e=>(hfp b hb).2.2.2.2.1 y c (sub y c e)⟩,
  I.bs,Q5 I.ok.bsz I.sz,fun b o e hb=>?_,fun b hb z=>?_,I.stack,I.stkFree⟩,rfl,I.bare,Un.laid old hD (I.hok.fresh hD),⟨m,hns,fun i y v e1 e2 e3=>?_⟩,fun y c e=>?_,free (Ne.symm hDC) (I.hok.fresh hC),fun y c e=>?_,fun p hp=>?_,I.hok.laid old hD ⟨V9 _,[],n,.nil,hacc⟩,?_⟩
 ·have:∃ k,(k=NameKind.cell∨k=NameKind.free)/\((relabel scope X.env).names).lookup y=some k:=hy.elim (fun h=>⟨_,.inl rfl,h⟩) fun h=>⟨_,.inr rfl,h⟩
  obtain⟨k,hk,e⟩:=this
  have e':(y,NameKind.free)∈scope.names:=by
   rcases cQ e with z | ⟨_,z⟩
   ·rcases hk with rfl | rfl
    ·exact absurd rfl (B.cell _ (cC z))
    ·exact cC z
   ·exact cC z
  exact vY scope.names [] y e'
 ·rcases (hfp b hb).2.2.2.1 with z | z
  ·exact I.ok.noex b o e z
  ·exact absurd (Qn (Heap.lt_size e) (Q5 I.ok.bsz z)) (Xb _)
 ·rcases Qd.mp (I.stkSub b z) with w | w
  ·exact(hfp b hb).2.1 w
  ·exact(hfp b hb).2.2.1 w
 ·
  have hi:i<σ.length:=by
   by_cases hi:i<σ.length
   ·exact hi
   ·exfalso
    rw[Vn (by omega),Qs] at e2
    cases q:xs[i-σ.length]? with
    | none=>rw[q] at e2;cases e2
    | some z=>rw[q] at e2;cases e2
  rw[Vk hi] at e2;have e1':(X.N++xs)[i]?=some y:=e1;rw[Vk (by rw[<-I.len];exact hi)] at e1'
  cases q:X.N[i]? with
  | none=>rw[q] at e1';cases e1'
  | some z=>
   rw[q] at e1';have hy:z=y:=Vj e1';have hz:z∈X.N:=Qi q;subst hy
   have fr:(z,NameKind.free)∈scope.names:=by
    rcases e3 with h | h | h
    ·rcases cQ h with h | ⟨h,_⟩
     ·exact absurd h (B.oth z hz)
     ·cases h
    ·rcases cQ h with h | ⟨_,h⟩
     ·exact absurd rfl (B.cell _ (cC h))
     ·exact cC h
    ·rcases cQ h with h | ⟨h,_⟩
     ·exact cC h
     ·cases h
   have kd:=B.fre _ fr rfl;obtain⟨m0,hn0,hl⟩:=I.loc;obtain⟨u,ru,lk⟩:=hl i z v q e2 (kd.elim (fun h=>.inr (.inl h)) fun h=>.inr (.inr h))
   refine⟨u,ru,.inr ⟨?_,?_⟩⟩
   ·rcases e3 with h | h | h
    ·rcases cQ h with h | ⟨h,_⟩
     ·exact absurd h (B.oth z hz)
     ·cases h
    ·exact .inl h
    ·exact .inr h
   ·rcases lk with⟨k1,_⟩ | ⟨_,c,hc,hcell⟩
    ·rcases kd with kd | kd<;>(rw[kd] at k1;cases k1)
    ·obtain⟨c',hc'⟩:=vY (env:=X.env) scope.names [] z fr
     have:=sub z c' hc'
     rw[hc] at this;cases this;obtain⟨o,ho,hd⟩:=hcell;exact⟨c,hc',o,old _ _ ho,hd⟩
 ·obtain⟨v,o,ho,hd⟩:=I.cell y c (sub y c e)
  exact⟨v,o,old _ _ ho,hd⟩
 ·obtain⟨v,o,ho,hd⟩:=I.cell y c (sub y c e)
  exact free (old_lt ho).1 (I.freeC y c (sub y c e))
 ·obtain⟨e,n,ne,nf,d⟩:=I.pin p hp
  refine⟨old _ _ e,free (old_lt e).1 n,(old_lt e).2,fun z=>?_,d⟩
  rcases Qd.mp (I.stkSub _ z) with w | w
  ·exact ne w
  ·exact nf w
 ·show(σ++xs.map fun _=>none).length=(X.N++xs).length
  rw[Ql,Ql,Qg,I.len]
end
theorem zEW{f:Ev}{ρ:Rho}{d:D}{ds es:List D}(h:gK f ρ (d::ds)=.ok es):
  ∃ a b e es',d=.tup [a,b]/\f (ρ++[.val a,.val b])=.ok e/\gK f ρ ds=.ok es'/\es=e::es':=by
 unfold gK at h;split at h
 ·cases ‹_=[]›
 ·rename_i a b ds' q
  cases q
  cases hf:noErr (f (ρ++[.val a,.val b])) with
  | no=>rw[hf] at h;cases h
  | err c=>rw[hf] at h;cases h
  | ok e=>
   rw[hf] at h
   cases hr:gK f ρ ds with
   | no=>simp only[Res.bind,hr] at h;cases h
   | err c=>simp only[Res.bind,hr] at h;cases h
   | ok es'=>
    simp only[Res.bind,hr] at h;cases h;exact⟨a,b,e,es',rfl,zAd hf,rfl,rfl⟩
 ·cases h
theorem zCs{f:Ev}{ρ:Rho}{c:Str}:∀ {ds:List D},gK f ρ ds≠.err c
 | []=>fun h=>by cases h
 | d::ds=>fun h=>by
  unfold gK at h;split at h
  ·cases ‹_=[]›
  ·rename_i a b ds' q
   cases q
   cases hf:noErr (f (ρ++[.val a,.val b])) with
   | no=>rw[hf] at h;cases h
   | err c=>cases q:f (ρ++[.val a,.val b])<;>(rw[q] at hf;cases hf)
   | ok e=>
    rw[hf] at h
    cases hr:gK f ρ ds with
    | no=>simp only[Res.bind,hr] at h;cases h
    | err c'=>exact zCs hr
    | ok es'=>simp only[Res.bind,hr] at h;cases h
  ·cases h
section
variable{X:Cx}{G:Gx}{elt iter:Expr}{xa xb:Str}{pa pb tp pos:Pos}{x1:Nat}{scope:Scope}{it:Fv}{f:Ev}{k:Nat}
theorem zGK(hc:X.calm=true/\TB X.K X.mg G.Bi G.B)(hr:Room k X.A)(Bk:BlkOk2 X [xa,xb] scope)(hN:(X.N++[xa,xb]).Nodup)(hi:PId X G (.Tuple [.Name xa pa,.Name xb pb] x1 tp) iter it)
  (hb:∀(C:Jc)(s₂:Jb)(H₂:Hp)(fp:List Jc)(G':Gx),Good (zDH X [xa,xb] scope C s₂ H₂ fp) G' k->PEd (zDH X [xa,xb] scope C s₂ H₂ fp) G' elt f)
  (hs:∀ x,foldedSetIterable iter X.env x=pure x:=by intro _;rfl)
  {Mi:List (Jc×Obj)} {s:Jb} {σ:St} {H Hi:Hp} {ρ:Rho} {use:Option (Ja->Sem Unit)} {Q':Ja->Jb->Prop} {Qa:Jc->Hp->Prop} {cpos:Pos} (I:Inv X Mi σ H s) (R:lV X G Hi H σ ρ)
  (ou:Out G Hi H ((wO it f) ρ) fun ds Hi' H'=>∀ a,zLf X.K H Hi' H' a ds->Qa a H') (hend:zTd X Mi σ use Q' Qa):
  wpAny (model X.prog X.w) X.A (comprehension (.ListComp elt [⟨.Tuple [.Name xa pa,.Name xb pb] x1 tp,iter,[],0⟩] scope pos) scope X.env cpos (newList []) false (eval iter X.env) use) Q' X.xe s:=by
 refine Mb (use:=use) rfl hs (zLU (Bk.cl I)) Bk.kind Bk.names ?_
 refine thn (hi Mi s σ H (fun J H2=>∃ ds Hi2,Ext Hi H Hi2 H2/\xJ X.K Hi2 J ds/\Out G Hi2 H2 (if ds.length<=16777215 then gK f ρ ds else .no) fun ds Hi' H'=>∀ a,zLf X.K H Hi' H' a ds->Qa a H') I
  ⟨ρ,Hi,R,(Out.bind ou).imp fun ds Hi2 H2 e2 o2 J gv=>⟨ds,Hi2,e2,gv,o2⟩⟩) fun v s1 h1=>thn h1 fun itv s2 h2=>?_
 obtain⟨itA,fp,tn,J,H2,rfl,I2,T,st2,f2,ds,Hi2,e2,gv,ou2⟩:=h2
 have hlen:ds.length<=16777215:=by
  by_cases hlen:ds.length<=16777215
  ·exact hlen
  ·rw[Jl hlen] at ou2;exact ou2.elim
 rw[Jk hlen] at ou2
 cases hes:gK f ρ ds with
 | no=>rw[hes] at ou2;exact ou2.elim
 | err c=>exact absurd hes zCs
 | ok es=>
  rw[hes] at ou2;have R2:lV X G Hi2 H2 σ ρ:=R.grow e2;refine wpAny_newObj_type (wpAny_newFunctionEnv Bk.cell (by intro y hy;simp at hy) (fun h₁ hns₁ hsb₁=>?_) Bk.kind)
  dsimp only at hns₁ hsb₁ ⊢
  generalize hH2:s2.heap.push { cls:=.type "list", dict:=none,data:=.seq ([]:List Ja).toArray }=HP at hns₁ hsb₁ ⊢;have hC:HP.objs.size=s2.heap.objs.size+1:=by rw[<-hH2,Heap.size_push]
  have hDC:s2.heap.objs.size≠HP.objs.size:=by rw[hC];omega
  have ltC:∀ {b:Jc} {o:Obj},s2.heap.get? b=some o->b≠HP.objs.size:=fun e=>by rw[hC];exact Qq (Xv (Heap.lt_size e))
  have old:∀ b o,s2.heap.get? b=some o->h₁.get? b=some o:=fun b o e=>hsb₁.extBut b o (ltC e) (Heap.get?_push_of_some _ (hH2 ▸ Heap.get?_push_of_some _ e))
  have hacc:h₁.get? s2.heap.objs.size=some { cls:=.type "list", data:=.seq ([]:List Ja).toArray 0 }:=hsb₁.extBut _ _ hDC (Heap.get?_push_of_some _ (hH2 ▸ Heap.get?_push_size _ rfl));have hfl:∀ b∈fp,b<s2.heap.objs.size:=fun b hb=>by obtain⟨o,e,_⟩:=T.obj _ _ st2 b hb;exact Heap.lt_size e
  have IE:=zPZ (t:=s2.toks+([]:List (Str×Ja)).length) I2 Bk f2 hfl (Qh _) (by rw[hC];omega) hDC old hacc hns₁
  have sub:=wP scope.names [] (Bk.cl I2) (fun y c e=>nomatch e)
  have H2D:H2 s2.heap.objs.size=none:=I2.hok.fresh (Qh _);have HD:H s2.heap.objs.size=none:=e2.h.none H2D;have Hi2D:Hi2 s2.heap.objs.size=none:=e2.s.none H2D;generalize hX:zDH X [xa,xb] scope HP.objs.size s2 H2 fp=Y at IE
  have GY:Good Y ⟨G.B,G.Bi,fun _ _=>False⟩ k:=by
   subst hX;exact⟨hc.1,hr,fun Mi σ H s e s' _ h=>by obtain⟨_,_,_,_,_,c,_,z⟩:=h;exact z.elim,PassesOwn.never,hc.2⟩
  have hel:=(hX ▸ hb HP.objs.size s2 H2 fp ⟨G.B,G.Bi,fun _ _=>False⟩ (hX.symm ▸ GY):PEd Y ⟨G.B,G.Bi,fun _ _=>False⟩ elt f)
  have stat:∀ {H':Hp},(∀ b∈fp,H' b=none)->∀ b∈fp,uI Y Mi H' b:=fun hn b hb=>by
   subst hX;refine⟨hn b hb,?_,fun z=>?_,.inl hb,fun y c e=>(f2 b hb).2.2.2.2.1 y c (sub y c e),(f2 b hb).2.2.2.2.2⟩
   ·show b≠HP.objs.size
    rw[hC];exact Qq (Xv (hfl b hb))
   ·rcases Qd.mp (I2.stkSub b z) with w | w
    ·exact(f2 b hb).2.1 w
    ·exact(f2 b hb).2.2.1 w
  have YN:Y.N.Nodup:=by subst hX;exact hN
  have Ya:Y.N[σ.length]?=some xa:=by
   subst hX;show(X.N++[xa,xb])[σ.length]?=some xa
   rw[Vn (by rw[I2.len];omega),I2.len,Yk];rfl
  have Yb:Y.N[σ.length+1]?=some xb:=by
   subst hX;show(X.N++[xa,xb])[σ.length+1]?=some xb
   rw[Vn (by rw[I2.len];omega),I2.len,Nat.add_sub_cancel_left];rfl
  have Yla:Y.env.scope.names.lookup xa=some .local:=by subst hX;exact Mc (Bk.loc xa (by simp))
  have Ylb:Y.env.scope.names.lookup xb=some .local:=by subst hX;exact Mc (Bk.loc xb (by simp))
  have asg:PG Y (.Tuple [.Name xa pa,.Name xb pb] x1 tp) (L2.zHq Y.K 2 (L2.mO (L2.gName σ.length) (L2.mO (L2.gName (σ.length+1)) L2.zHp))):=
   zMv (by subst hX;exact hc.1) (zAD (zDS YN Ya (.inl Yla) (.inr Yla)) (zAD (zDS YN Yb (.inl Ylb) (.inr Ylb)) zIh))
  have Ye:Y.env=compEnvC scope (zEs X.env scope.names []) HP.objs.size X.env:=by subst hX;rfl
  have Yxe:∀ e s,¬ Y.xe e s:=by subst hX;exact fun _ _ h=>h
  have tn1:tn 0 h₁:=T.keep _ _ _ st2 fun b _ o e=>old b o e
  have iC:∀ s3:Jb,s3={ s2 with heap:=h₁,toks:=s2.toks+([]:List (Str×Ja)).length }->
    codeAny (model X.prog X.w) X.A (.compLoop (.ListComp elt [⟨.Tuple [.Name xa pa,.Name xb pb] x1 tp,iter,[],0⟩] scope pos) 0 (.ref itA) (.ref s2.heap.objs.size) Y.env) (compPost (model X.prog X.w) X.A X.xe use Q' (.ref s2.heap.objs.size) HP.objs.size) s3:=by
   rintro s3 rfl
   subst hX
   have fr0:∀ b∈fp,upd H2 s2.heap.objs.size (.lst []) b=none:=fun b hb=>by
    rw[bB (Qq (hfl b hb))];exact(f2 b hb).1
   refine PyProof.Rows.LCp.codeAny_compLoop_pair (fun n s'=>∃ c:CW,n=ds.length-c.i/\CS (zDH X [xa,xb] scope HP.objs.size s2 H2 fp) Mi σ tn fp Hi2 H2 s2.heap.objs.size 2 (fun i=>gK f ρ (ds.drop i)) es c s') ?_ ds.length
    ⟨⟨0,[none,none],_,Hi2,[],[],es⟩,rfl,⟨IE,rfl,tn1,fr0,(Ext.refl e2.s).trans (Ext.newF e2.s H2D),aY,Hi2D,.nil,Qh _,hes,rfl⟩⟩
   ·rintro n s3 ⟨⟨i,vv,H3,Hi3,ys,done,rest⟩,rfl,I3,wd3,st3,fr3,e3,hD3,hiD3,rd3,hl3,hr3,hes3⟩
    dsimp only at I3 wd3 st3 fr3 e3 hD3 hiD3 rd3 hl3 hr3 hes3 ⊢
    obtain⟨v,v',rfl⟩:∃ v v',vv=[v,v']:=by
     match vv,wd3 with
     | [v,v'],_=>exact⟨v,v',rfl⟩
    obtain⟨w1,w2⟩:=gv Hi3 H3 e3.i e3.s i;have lift:∀ {α:Type} {m:Sem α} {Q':α->Jb->Prop} {E:Ja->Jb->Prop} {s':Jb},wpAny (model X.prog X.w) X.A m Q' (zDH X [xa,xb] scope HP.objs.size s2 H2 fp).xe s'->wpAny (model X.prog X.w) X.A m Q' E s':=fun h=>wpAny_mono h (fun _ _ z=>z) fun e s z=>(Yxe e s z).elim
    by_cases hlt:i<ds.length
    ·obtain⟨d,hd⟩:∃ d,ds[i]?=some d:=⟨_,Qo hlt⟩
     obtain⟨go,yl⟩:=w2 d hd
     have e4:ds.drop i=d::ds.drop (i+1):=by
      rw[Qo hlt] at hd;cases hd;exact Wd hlt
     rw[e4] at hr3;refine thn (T.item (zDH X [xa,xb] scope HP.objs.size s2 H2 fp) rfl rfl rfl hc.1 i Mi s3 _ H3 _ I3 (stat fr3) st3 go) fun r s4 ⟨u,hru,h4⟩=>?_
     subst hru;refine thn h4 fun _ s5 h5=>?_
     obtain⟨xv,H5,I5,r5,y5,st5,fr5⟩:=h5;obtain⟨Hi5,e5,rd5⟩:=yl xv H5 y5;have I5':=I5.pinned (stat fr5) (T.obj _ _ st5);obtain⟨a,b,e,es',rfl,hf,hr4,hee⟩:=zEW hr3;obtain⟨pa',ps,rfl,hq,hps⟩:=rd5.tupI;obtain⟨va,vb,rfl,ra,rb⟩:=hps.two;refine lift (thn (asg _ s5 _ H5 _ u (fun σ' H'=>σ'=σ++[some va,some vb]/\H'=H5) I5' r5 ⟨pa',_,rfl,cW (e3.trans e5).s hq,rfl,va,_,rfl,vb,_,rfl,rfl,?_,rfl⟩) fun _ s6 h6=>?_)
     ·rw[We _ _ (Qh _),Yk,We _ _ (Nat.le_succ _),Nat.succ_sub (Qh _),Yk];rfl
     obtain⟨σ6,H6,I6,rfl,rfl⟩:=h6;have E5:Ext Hi2 H2 Hi5 H6:=e3.trans e5
     have R5:lV (zDH X [xa,xb] scope HP.objs.size s2 H2 fp) ⟨G.B,G.Bi,fun _ _=>False⟩ Hi5 H6 (σ++[some va,some vb]) (ρ++[.val a,.val b]):=by
      have:=Rel.snoc (Rel.snoc (R2.grow E5) ra) rb
      rw[V3,V3] at this;exact this
     obtain⟨hD5,hiD5⟩:=e5.out hD3 hiD3;have rd5':=rd3.mono e5.i
     have again:∀ {H8 Hi8:Hp} {ys':List V} {done' rest':List D} {s8:Jb},Inv (zDH X [xa,xb] scope HP.objs.size s2 H2 fp) (Mi++vG fp s5.heap) (σ++[some va,some vb]) H8 s8->Ext Hi2 H2 Hi8 H8->H8 s2.heap.objs.size=some (.lst ys')->Hi8 s2.heap.objs.size=none->IsDs X.K Hi8 ys' done'->done'.length<=i+1->
       gK f ρ (ds.drop (i+1))=.ok rest'->es=done'++rest'->∃ m,m<ds.length-i/\∃ c:CW,m=ds.length-c.i/\CS (zDH X [xa,xb] scope HP.objs.size s2 H2 fp) Mi σ tn fp Hi2 H2 s2.heap.objs.size 2 (fun i=>gK f ρ (ds.drop i)) es c s8:=fun {H8 Hi8 ys' done' rest' s8} I8 E8 a1 a2 a3 a4 a5 a6=>by
      refine⟨ds.length-(i+1),by omega,⟨i+1,[some va,some vb],H8,Hi8,ys',done',rest'⟩,rfl,⟨I8.unpinned,rfl,T.keep _ _ _ st5 fun b hb o e=>(I8.pin (b,o) (Q2 _ (Q2 _ (fO hb e)))).1,fun b hb=>?_,E8,a1,a2,a3,a4,a5,a6⟩⟩
      obtain⟨o,e,_⟩:=T.obj _ _ st5 b hb;exact(I8.pin (b,o) (Q2 _ (Q2 _ (fO hb e)))).2.1
     refine lift (thn (hel _ s6 _ H6 (fun w H'=>∃ Hi',Ext Hi5 H6 Hi' H'/\IsD X.K Hi' w e) I6 ⟨_,Hi5,R5,by rw[hf];exact fun Hi' H' ee w hw=>⟨Hi',ee,hw⟩⟩) fun u8 s8 h8=>?_)
     obtain⟨w8,H8,I8,r8,Hi8,e8,rw8⟩:=h8;obtain⟨hD8,hiD8⟩:=e8.out hD5 hiD5;have rdy:IsDs X.K Hi8 ys done:=rd5'.mono e8.i;refine lift (thn (xA (X:=(zDH X [xa,xb] scope HP.objs.size s2 H2 fp)) _ s8 _ H8 (.ref s2.heap.objs.size) [w8] (.ref s2.heap.objs.size) [u8] (fun _ H'=>H'=upd H8 s2.heap.objs.size (.lst (ys++[w8]))) I8 rfl (.cons r8 .nil) ⟨_,ys,w8,rfl,rfl,hD8,?_,rfl⟩) fun _ s9 h9=>?_)
     ·rw[rdy.length]
      exact Xh hl3 (Qn hlt (Q5 hlen (by decide)))
     ·obtain⟨_,H9,I9,_,rfl⟩:=h9
      refine again I9 (Ext.rewrite (E5.trans e8) H2D hiD8 ⟨_,hD8⟩) aY hiD8 (rdy.snoc rw8) (by rw[Ql];exact U1 hl3) hr4 ?_
      rw[hes3,hee,V3];rfl
    ·rw[Yv (by omega),gK] at hr3
     cases hr3;refine thn (T.done (zDH X [xa,xb] scope HP.objs.size s2 H2 fp) rfl rfl rfl hc.1 i Mi s3 _ H3 _ I3 (stat fr3) st3 (w1 (by omega))) fun r s4 ⟨hrn,I4⟩=>?_
     subst hrn;obtain⟨m4,hn4,_⟩:=I4.loc;have fC:H3 HP.objs.size=none:=I4.free;have nC:∀ b u,H3 b=some u->b≠HP.objs.size:=fun b u e z=>by rw[z,fC] at e;cases e
     have U4:=I4.base;refine hend HP.objs.size s2.heap.objs.size m4 s4 H3 hn4 (fun h' hs'=>?_) (I2.fpOk (by rw[hC];omega) fC) ?_
     ·have kp:∀ b o,b≠HP.objs.size->s4.heap.get? b=some o->h'.get? b=some o:=fun b o hb e=>hs'.extBut b o hb e
      refine Inv.call' I2 (ch:=fp) I4.os ⟨fun b o e n hb hx=>kp b o (ltC e) (U4.keep b o e n hb hx),fun b o e n hb hx=>?_,U4.free,fun b o e hx=>?_,U4.tups,U4.frzs,U4.tbls⟩ (fun b u e=>?_) I4.bare (fun b hb=>⟨(f2 b hb).2.2.2.1,(f2 b hb).2.1,(f2 b hb).2.2.2.2.1,(f2 b hb).2.2.2.2.2⟩)
      ·obtain⟨sl,q⟩:=U4.slot b o e n hb hx
       exact⟨sl,kp b _ (ltC e) q⟩
      ·obtain⟨o',q⟩:=U4.there b o e hx
       exact⟨o',kp b _ (ltC e) q⟩
      ·refine(I4.hok b u e).stay (fun c v hc q=>kp c v ?_ q) (fun _ q=>q) fun _ _ q=>q
       rcases hc with z | z
       ·rw[z];exact nC b u e
       ·exact nC c _ z
     ·refine ou2 Hi3 H3 e3 _ ⟨HD,hiD3,ys,hD3,?_⟩
      rw[hes3,Vg];exact rd3
  rw[Ye] at iC;exact Md (iC _ rfl) (T.self _ 0 _ _ _ tn1 (iC _ rfl))
theorem zLE(hc:X.calm=true/\TB X.K X.mg G.Bi G.B)(hr:Room k X.A)(Bk:BlkOk2 X [xa,xb] scope)(hN:(X.N++[xa,xb]).Nodup)(hi:PId X G (.Tuple [.Name xa pa,.Name xb pb] x1 tp) iter it)
  (hb:∀(C:Jc)(s₂:Jb)(H₂:Hp)(fp:List Jc)(G':Gx),Good (zDH X [xa,xb] scope C s₂ H₂ fp) G' k->PEd (zDH X [xa,xb] scope C s₂ H₂ fp) G' elt f)
  (hs:∀ x,foldedSetIterable iter X.env x=pure x:=by intro _;rfl):PEf X G (.ListComp elt [⟨.Tuple [.Name xa pa,.Name xb pb] x1 tp,iter,[],0⟩] scope pos) (wO it f):=by
 intro Mi s σ H Q I w;obtain⟨ρ,Hi,R,ou⟩:=w;rw[eval_ListComp];refine zGK hc hr Bk hN hi hb hs (use:=none) (Qa:=fun a H'=>Q (.ref a) H') I R ou fun C A m s4 H3 hn hI _ q=>?_
 exact⟨m,hn,fun h' hs'=>⟨.ref A,H3,hI h' hs',rfl,q⟩⟩
def zNs(sc:Scope)(N:List Str)(xs:List Str)(scope:Scope):Bool:=
 scope.names.all (fun y=>y.2 != .cell) && xs.all (fun x=>scope.names.lookup x==some .local) && scope.names.all (fun y=>y.2 != .local || scope.names.lookup y.1==some .local)
  && scope.names.all (fun p=>p.2 != .free || (sc.names.lookup p.1==some .cell || sc.names.lookup p.1==some .free)) && N.all (fun y=>scope.names.lookup y != some .local)
theorem zNf{sc:Scope}{N xs:List Str}(hk:scope.kind=.function)(hsc:X.env.scope=sc)(hN:X.N=N)(h:zNs sc N xs scope=true):BlkOk2 X xs scope:=by
 unfold zNs at h;simp only[V4] at h;obtain⟨⟨⟨⟨h1,h2⟩,h3⟩,h4⟩,h5⟩:=h;subst hN hsc;refine⟨hk,fun y hy e=>?_,fun x hx=>?_,fun y hy e=>?_,fun p hp e=>?_,fun y hy e=>?_⟩
 ·have:=Xe.mp h1 y hy
  rw[e] at this;cases this
 ·exact beq_iff_eq.mp (Xe.mp h2 x hx)
 ·have:=Xe.mp h3 y hy
  rw[e] at this;simpa using this
 ·have:=Xe.mp h4 p hp
  rw[e] at this;have q:X.env.scope.names.lookup p.1=some .cell∨X.env.scope.names.lookup p.1=some .free:=by simpa using this
  exact q
 ·have:=Xe.mp h5 y hy
  rw[e] at this;cases this
theorem vD{sc:Scope}{N:List Str}(W:Good X G k)(hnd:(N++[xa,xb]).Nodup)(hk:scope.kind=.function)(hsc:X.env.scope=sc)(hN:X.N=N)(h:zNs sc N [xa,xb] scope=true)(hi:PId X G (.Tuple [.Name xa pa,.Name xb pb] x1 tp) iter it)
  (hb:∀(C:Jc)(s₂:Jb)(H₂:Hp)(fp:List Jc)(G':Gx),Good (zDH X [xa,xb] scope C s₂ H₂ fp) G' k->PEd (zDH X [xa,xb] scope C s₂ H₂ fp) G' elt f)
  (hs:∀ x,foldedSetIterable iter X.env x=pure x:=by intro _;rfl):PEf X G (.ListComp elt [⟨.Tuple [.Name xa pa,.Name xb pb] x1 tp,iter,[],0⟩] scope pos) (wO it f):=
 zLE ⟨W.calm,W.tb⟩ W.room (zNf hk hsc hN h) (hN ▸ hnd) hi hb hs
end
end L3
namespace L3
open PySem PySem.Spec PyProof.Rows L2
section
variable{prog:Jf}{w:Jg}{A:Jh}{E:Ja->Jb->Prop}{s:Jb}
end
section
variable{X:Cx}{G:Gx}{fs:Fv}{f:Ev}
unseal PEd PEf PTd PWd PAd PSd eX POd PGd jV PId PSx mQ PTs PCd PCf
end
end L3
namespace L3
open PySem PySem.Spec PyProof.Rows L2
unseal PEd PEf PTd PWd PAd PSd eX POd PGd jV PId PSx mQ PTs PCd PCf
section
variable{X:Cx}{G:Gx}{f:Ev}{pos:Pos}
section
variable{o:Expr}{k:Nat}{b:Bool}{p1 p2 p3:Pos}
end
section
variable{i fo:Nat}{x y:Str}{ea eb ec ct o0 o1:Expr}{body rest:List Ji}{a b:Fv}{cmp:Tv}{sr:Sv}{p1 p2 p3 p4 p5 p6 p7 p8 p9 p10 p11 p12 p13 p14 p15 p16:Pos}{k5 k0 k1:Nat}
end
section
variable{i j1 j2 j3:Nat}{x:Str}{tg ec c1 c2 c3 esl ev o:Expr}{b2 b3:List Ji}{t1 t2 t3:Tv}{sl:Fv}{g:Ev}{p1 p2 p3 p4 p5 p6 p7 p8 p9:Pos}
end
end
section
variable{prog:Jf}{w:Jg}{A:Jh}{E:Ja->Jb->Prop}{s:Jb}
theorem zBy{r:Jc}{a b c:Int}{t u v:Tok}{n:Nat}{R:List Ja->Jb->Prop}(hh:A.handled=none)(hr:IsRange s.heap r a b c t u v)(hsmall:Builtin.Range.small a b c=true)(hn:Builtin.Range.rangeSize a b c=n)(hlen:n<=2^24)
  (h:∀ h' tk acc,(∀ b o,s.heap.get? b=some o->h'.get? b=some o)->s.heap.objs.size<=h'.objs.size->ItemsOf (fun i v=>∃ t,v=.int (a+i*c) t) acc n->R acc.toList { s with heap:=h',toks:=tk }):
  wpAny (model prog w) A (collect (.ref r)) R E s:=by
 unfold collect;refine Js (wpAny_runValue (codeAny_builtin entry_proto_collect' ?_))
 rw[Around.under_plainId PySem.F.plain_proto_collect _];show wpAny _ A.in1 (newList [] >>= fun l=>again (.builtin "list.__iadd__" ⟨[l,.ref r],[]⟩)) _ _ s
 refine Js (wpAny_newObj_type ?_)
 refine Jw ⟨plainId_quiet Qaa _,codeAny_builtin entry_list_iadd' ?_⟩
 rw[Around.under_plainId Qaa _];have hS₁:(s.heap.push { cls:=.type "list", data:=.seq ([]:List Ja).toArray }).get? s.heap.objs.size=some { cls:=.type "list", data:=.seq #[] }:=Heap.get?_push_size _ rfl;show wpAny _ A.in1 (Builtin.List.listExtendWith (.ref s.heap.objs.size) (.ref r) (.ref s.heap.objs.size)) _ _ _
 have key:=wpAny_extend_range (prog:=prog) (w:=w) (A:=A) (s:={ s with heap:=s.heap.push { cls:=.type "list", data:=.seq ([]:List Ja).toArray } })
  (R:=fun(q:Result) (s':Jb)=>∃(h':Je)(tk:Nat)(acc':Array Ja)(c':Nat),q=.ok (.ret (.ref s.heap.objs.size))/\s'={ s with heap:=h',toks:=tk }/\
   (∀ b o,s.heap.get? b=some o->h'.get? b=some o)/\h'.get? s.heap.objs.size=some { cls:=.type "list", dict:=none,data:=.seq acc' c',slots:=#[] }/\ItemsOf (fun i v=>∃ t,v=.int (a+i*c) t) acc' n)
  hh (Heap.get?_push_of_some _ hr) hsmall hn hlen s.heap.objs.size (.ref s.heap.objs.size) 0 hS₁
  (fun h' tk acc' c' hk hS' hacc=>⟨h',tk,acc',c',rfl,rfl,fun b o e=>hk b o (Qq (Heap.lt_size e)) (Heap.get?_push_of_some _ e),hS',hacc⟩)
 refine wpAny_mono key (fun fin s' x=>?_) fun e s' x=>?_
 ·cases fin with
  | done f=>
   obtain⟨h',tk,acc',c',e,rfl,hk,hS',hacc⟩:=x;cases e;show wpAny _ A (load s.heap.objs.size >>= _) _ _ _
   refine Js (wpAny_load hS' ?_)
   exact Jw (h h' tk acc' hk (Vs (Heap.lt_size hS')) hacc)
  | again c₁=>
   refine⟨x.1,codeAny_mono x.2 fun q s₂ y=>?_⟩
   obtain⟨h',tk,acc',c',rfl,rfl,hk,hS',hacc⟩:=y;show wpAny _ A (load s.heap.objs.size >>= _) _ _ _
   refine Js (wpAny_load hS' ?_)
   exact Jw (h h' tk acc' hk (Vs (Heap.lt_size hS')) hacc)
 ·obtain⟨_,_,_,_,e',_⟩:=x
  cases e'
end
section
variable{X:Cx}{Mi:List (Jc×Obj)}{σ:St}{H:Hp}{s:Jb}{A:Jh}{E:Ja->Jb->Prop}{a kS:Jc}{vs:List Ja}{kz:List Int}{keys:Array Ja}{e e1:Nat}{P:PySem.Fin->Jb->Prop}
theorem rB{h':Je}{tk:Nat}(f:uI X Mi H a)(I:Inv X Mi σ H s)(sb:Heap.SameBut a s.heap h'):Inv X Mi σ H { s with heap:=h',toks:=tk }:=by
 obtain⟨f0,f1,f2,f3,f4,f5⟩:=f;exact I.turned (fun b o hb e=>(sb.2 b hb).trans e) f0 f1 f3 f4 f5
theorem zJr{st:SortSt}(I:Inv X Mi σ H s)(fa:uI X Mi H a)(fk:uI X Mi H kS)(hka:kS≠a)(nk:s.heap.get? kS=some (seqObj "list" keys e))(na:s.heap.get? a=some (seqObj "list" #[] e1))
  (hk:IntsAre keys.toList kz) (hlen:kz.length=vs.length) (h64:vs.length<64) (hp:(arrOf st).Perm (keys.zip vs.toArray)) (hs:SortedTo (arrOf st) (arrOf st).size) (hfl:failedOf st=none)
  (h:∀ s' out c,Inv X Mi σ H s'->s'.heap.get? a=some (seqObj "list" out c)->KskOut false kz vs out.toList->P (.done (.ret .none)) s'):
  wpAny (model X.prog X.w) A (ksk_tail a false e1 (.ref kS) st) P E s:=by
 have hsz:keys.size=vs.length:=by
  have h1:=hk.length;rw[X6] at h1;omega
 have hsz2:(arrOf st).size=vs.length:=by rw[hp.size_eq,Array.size_zip,hsz,Qk,Ub]
 have hout:((arrOf st).map (·.2)).size=vs.length:=by rw[Array.size_map];exact hsz2
 have s1:=Heap.SameBut.update s.heap kS (Obj.mapSeq fun _=>(#[]:Array Ja))
 have na1:(s.heap.update kS (Obj.mapSeq fun _=>(#[]:Array Ja))).get? a=some (seqObj "list" #[] e1):=(s1.2 a hka.symm).trans na
 have s2:=Heap.SameBut.update (s.heap.update kS (Obj.mapSeq fun _=>(#[]:Array Ja))) a (Obj.mapSeq fun _=>(arrOf st).map (·.2))
 obtain⟨c2,hc2⟩:∃ c2,((s.heap.update kS (Obj.mapSeq fun _=>(#[]:Array Ja))).update a (Obj.mapSeq fun _=>(arrOf st).map (·.2))).get? a=some (seqObj "list" ((arrOf st).map (·.2)) c2):=
  ⟨_,get?_update_seq na1 fun _=>(arrOf st).map (·.2)⟩
 unfold ksk_tail;try dsimp only
 refine Js (listUpdate_at nk rfl ?_ (by rw[hsz,Jy];omega) (V9 _))
 refine Js (wpAny_letGo ?_)
 refine Js (seqEpoch_at na1 rfl ?_)
 refine Js (listUpdate_at na1 rfl ?_ (V9 _) (by simp only[X3,if_false];exact Q5 (Wh hout) (by rw[Jy];omega)))
 rw[hfl];simp only[bne_self_eq_false,X3,if_false];have I1:Inv X Mi σ H { s with heap:=s.heap.update kS (Obj.mapSeq fun _=>(#[]:Array Ja)) }:=rB fk (tk:=s.toks) I s1
 have I2:Inv X Mi σ H { s with heap:=(s.heap.update kS (Obj.mapSeq fun _=>(#[]:Array Ja))).update a (Obj.mapSeq fun _=>(arrOf st).map (·.2)) }:=(by have z:=rB (tk:=s.toks) fa I1 s2;exact z)
 exact Jw (h _ _ c2 I2 hc2 (ksk_out (b:=false) hk hp hs))
theorem zPR(I:Inv X Mi σ H s)(fa:uI X Mi H a)(fk:uI X Mi H kS)(hka:kS≠a)(nk:s.heap.get? kS=some (seqObj "list" keys e))(na:s.heap.get? a=some (seqObj "list" #[] e1))
  (hk:IntsAre keys.toList kz) (hlen:kz.length=vs.length) (h64:vs.length<64)
  (h:∀ s' out c,Inv X Mi σ H s'->s'.heap.get? a=some (seqObj "list" out c)->KskOut false kz vs out.toList->P (.done (.ret .none)) s'):
  wpAny (model X.prog X.w) A (ksk_end a false vs.toArray e1 (.ref kS) keys) P E s:=by
 have hsz:keys.size=vs.length:=by
  have h1:=hk.length;rw[X6] at h1;omega
 have hzs:(keys.zip vs.toArray).size=vs.length:=by rw[Array.size_zip,hsz,Qk,Ub]
 unfold ksk_end;try dsimp only
 simp only[X3,if_false];by_cases h2:vs.toArray.size<2
 ·rw[Jk h2,Jk h2]
  refine Js (Jw ?_)
  rw[StateT.run_pure];refine Js (Jw ?_)
  try dsimp only
  refine zJr (st:=SortSt.mk' general' (keys.zip vs.toArray) #[] 7 none) I fa fk hka nk na hk hlen h64 (Array.Perm.refl _) ?_ rfl h
  intro i j hij hj;have hj2:j<(keys.zip vs.toArray).size:=hj;rw[hzs] at hj2;rw[Qk] at h2;have:i=j:=by omega
  subst this;exact Yn _
 ·rw[Jl h2,Jl h2]
  rw[Qk] at h2;rw[ksk_kind hk (by rw[hsz];omega)];refine Js (Jw ?_)
  refine Js (wpAny_mono (wpS_sortRuns (a₀:=keys.zip vs.toArray) (st:=SortSt.mk' oneType' (keys.zip vs.toArray) #[] 7 none)
   (Q:=fun _ st'=>(arrOf st').Perm (keys.zip vs.toArray)/\failedOf st'=none/\SortedTo (arrOf st') (keys.zip vs.toArray).size)
   (ksk_intKeys hk) ⟨Array.Perm.refl _,rfl,rfl,rfl⟩ (by rw[hzs];omega) (by rw[hzs];exact h64) fun st' a1 a2 a3=>⟨a1,a2,a3⟩) ?_ fun _ _ e=>e)
  rintro⟨⟨⟩,st'⟩ s' ⟨rfl,hp,hf,hs⟩
  try dsimp only
  exact zJr I fa fk hka nk na hk hlen h64 hp (by rw[hp.size_eq];exact hs) hf h
theorem zPd{f:Ja}{e0:Nat}(I:Inv X Mi σ H s)(fa:uI X Mi H a)(fk:uI X Mi H kS)(hka:kS≠a)(nk:s.heap.get? kS=some (seqObj "list" #[] e0))(na:s.heap.get? a=some (seqObj "list" #[] e1))
  (hlen:kz.length=vs.length) (h64:vs.length<64)
  (turn:∀(i:Nat)(v:Ja)(k:Int),vs[i]?=some v->kz[i]?=some k->∀(s':Jb)(pl:List (Jc×Obj)),Inv X (Mi++pl) σ H s'->
   wpAny (model X.prog X.w) A (call f [v]) (fun u s''=>(∃ t,u=.int k t)/\Inv X (Mi++pl) σ H s'') (fun _ _=>False) s')
  (h:∀ s' out c,Inv X Mi σ H s'->s'.heap.get? a=some (seqObj "list" out c)->KskOut false kz vs out.toList->P (.done (.ret .none)) s'):
  wpAny (model X.prog X.w) A (ksk_rest a f false vs.toArray e1 (.ref kS)) P E s:=by
 unfold ksk_rest;refine Js (wpAny_rule ?_)
 first
  | rw[List.forIn_toArray]
  | (rw[<-Array.forIn_toList];simp only[Qab])
  | rw[<-Array.forIn_toList]
 refine Js (ksk_fold (fun i s'=>∃ kA e,Inv X Mi σ H s'/\s'.heap.get? kS=some (seqObj "list" kA e)/\s'.heap.get? a=some (seqObj "list" #[] e1)/\IntsAre kA.toList (kz.take i)) vs 0 s
  ⟨#[],e0,I,nk,na,by simpa using IntsAre.nil⟩ ?step ?done)
 case step=>
  rintro j x s' hx ⟨kA,e,I',nk',na',hk⟩
  simp only[Yd] at hk ⊢
  have hj:j<vs.length:=(Qx.mp hx).1;obtain⟨k,hkj⟩:∃ k,kz[j]?=some k:=⟨_,Qo (by omega)⟩
  have hz:kA.size<=vs.length:=by
   have h1:=hk.length;rw[X6,Yc] at h1;omega
  have pin:∀ b∈[kS,a],∃ o,s'.heap.get? b=some o/\∀ v,o.data≠.cell v:=fun b hb=>by
   rcases Qd.mp hb with rfl | hb
   ·exact⟨_,nk',fun v z=>by have z':Data.seq _ _=Data.cell v:=z;cases z'⟩
   ·rw[Qt.mp hb];exact⟨_,na',fun v z=>by have z':Data.seq _ _=Data.cell v:=z;cases z'⟩
  have Ip:Inv X (Mi++vG [kS,a] s'.heap) σ H s':=I'.pinned (fun b hb=>by
   rcases Qd.mp hb with rfl | hb
   ·exact fk
   ·rw[Qt.mp hb];exact fa) pin
  refine Js (wpAny_attempt (wpAny_mono (turn j x k hx hkj s' _ Ip) (fun v s'' he=>?_) fun _ _ hF=>hF.elim))
  obtain⟨⟨t2,rfl⟩,I2p⟩:=he;try dsimp only
  have nk2:s''.heap.get? kS=some (seqObj "list" kA e):=(I2p.pin _ (Q2 _ (Q2 _ (fO (b:=kS) (by simp) nk')))).1
  have na2:s''.heap.get? a=some (seqObj "list" #[] e1):=(I2p.pin _ (Q2 _ (Q2 _ (fO (b:=a) (by simp) na')))).1
  have I2:Inv X Mi σ H s'':=I2p.unpinned;have s1:=Heap.SameBut.update s''.heap kS (Obj.mapSeq (·.push (.int k t2)));obtain⟨c2,hc2⟩:∃ c2,(s''.heap.update kS (Obj.mapSeq (·.push (.int k t2)))).get? kS=some (seqObj "list" (kA.push (.int k t2)) c2):=⟨_,get?_update_seq nk2 (·.push (.int k t2))⟩;have ek:kz.take (j+1)=kz.take j++[k]:=by rw[List.take_add_one,hkj];simp
  have ea:(kA.push (Value.int k t2)).toList=kA.toList++[Value.int k t2]:=by simp
  refine Js (listUpdate_at nk2 rfl ?_ (by rw[Jy];omega) (Q5 (Wh (Array.size_push ..)) (by rw[Jy];omega)))
  exact Jw ⟨rfl,kA.push (.int k t2),c2,rB fk (tk:=s''.toks) I2 s1,hc2,(s1.2 a hka.symm).trans na2,by rw[ea,ek];exact ksk_snoc hk⟩
 case done=>
  rintro s' ⟨kA,e,I',nk',na',hk⟩
  have hk':IntsAre kA.toList kz:=by
   have e3:kz.take (0+vs.length)=kz:=Yh (by omega)
   rw[e3] at hk;exact hk
  try dsimp only
  refine Js (listItems_at nk' rfl ?_)
  exact zPR I' fa fk hka nk' na' hk' hlen h64 h
def wE(v:Ja):Nat:=(numOf v).toNat
theorem zOt{out:List Ja}(hlen:kz.length=vs.length)(hv:∀ (j:Nat) (v:Ja),vs[j]?=some v->∃ t,v=.int j t)(h:KskOut false kz vs out):iO kz (out.map wE)/\dS ((out.map wE).map fun i:Nat=>V.int (i:Int)) out:=by
 obtain⟨ps,hp,ho,hs⟩:=h
 have at':∀ p,p∈kz.zip vs->∃(j:Nat)(t:Tok),p.2=.int j t/\kz[j]?=some p.1:=fun p hm=>by
  obtain⟨j,hj,e⟩:=List.mem_iff_getElem.mp hm;rw[Wi] at hj;rw[List.getElem_zip] at e;obtain⟨t,ht⟩:=hv j (vs[j]'(by omega)) (Qo _)
  refine⟨j,t,by rw[<-e];exact ht,by rw[<-e];exact Qo _⟩
 have n1:∀(j:Nat)(t:Tok),wE (.int j t)=j:=fun j t=>by unfold wE;show(Int.toNat (j:Int))=j;rfl
 have hvs:vs.map wE=List.range kz.length:=by
  refine Ym fun j=>?_
  rw[Qs];by_cases hj:j<vs.length
  ·obtain⟨t,ht⟩:=hv j _ (Qo hj)
   rw[Qo hj,ht,V7 (by omega)];show some (wE _)=_
   rw[n1]
  ·rw[Qz (by omega),Qz (by rw[Q3];omega)];rfl
 subst ho;refine⟨⟨?_,?_⟩,?_⟩
 ·have h1:((ps.map Prod.snd).map wE).Perm (((kz.zip vs).map Prod.snd).map wE):=(hp.map _).map _
  rw[List.map_snd_zip (by omega),hvs] at h1;exact h1
 ·rw[Qv,Xt]
  refine Yj (fun {p q} hm hq hr=>?_) hs
  have hr':p.1<=q.1:=by simpa using hr
  obtain⟨i,t,e1,e2⟩:=at' p (hp.mem_iff.mp hm);obtain⟨j,u,e3,e4⟩:=at' q (hp.mem_iff.mp hq);show kz.getD (wE p.2) 0<=kz.getD (wE q.2) 0
  rw[e1,e3,n1,n1,Qy,Qy,e2,e4];exact hr'
 ·have go:∀ l:List Ja,(∀ v∈l,∃(j:Nat)(t:Tok),v=.int j t)->dS ((l.map wE).map fun i:Nat=>V.int (i:Int)) l:=by
   intro l
   induction l with
   | nil=>intro _;exact .nil
   | cons v r ih=>
    intro hl;obtain⟨j,t,rfl⟩:=hl v (.head _);exact .cons ⟨t,by rw[n1]⟩ (ih fun u hu=>hl u (.tail _ hu))
  refine go _ fun v hv'=>?_
  obtain⟨p,hm,rfl⟩:=Qp.mp hv';obtain⟨j,t,e1,_⟩:=at' p (hp.mem_iff.mp hm);exact⟨j,t,e1⟩
theorem zJw{r q:Jc}{n:Nat}{t u v:Tok}{Q:Ja->Jb->Prop}(hc:X.calm=true)(I:Inv X Mi σ H s)(hr:IsRange s.heap r 0 n 1 t u v)(h64:n<64)(hkz:kz.length=n)
  (turn:∀(j:Nat)(tk:Tok)(k:Int),kz[j]?=some k->∀(s':Jb)(pl:List (Jc×Obj)),Inv X (Mi++pl) σ H s'->
   wpAny (model X.prog X.w) X.A.in1.in1 (call (.ref q) [.int j tk]) (fun u s''=>(∃ t,u=.int k t)/\Inv X (Mi++pl) σ H s'') (fun _ _=>False) s')
  (h:∀ D s' out c π,Inv X Mi σ H s'->uI X Mi H D->s.heap.objs.size<=D->s'.heap.get? D=some (seqObj "list" out c)->iO kz π->dS (π.map fun i:Nat=>V.int (i:Int)) out.toList->Q (.ref D) s'):
  wpAny (model X.prog X.w) X.A (call (.builtin "sorted") [.ref r] [(Str.ofString "key", .ref q)]) Q E s:=by
 refine call_function_entry_kw kind_sorted plain_sorted entry_sorted (ksk_s1 _ _) ?_
 unfold Builtin.«sorted»
 refine Js (m:=checkCount "sorted" 1 1 _) (Jw ?_)
 refine Js (zBy (n:=n) (A:=X.A.in1) (I.ok.hd hc) hr (small_one (by omega) (by omega) (by omega) (by omega)) (by rw[rangeSize_one];split<;>omega) (by omega) fun h1 tk acc hk hsz hacc=>?_)
 have hl:acc.toList.length=n:=by rw[X6];exact hacc.1
 refine Js (wpAny_newList ?_ (by rw[hl,Jy];omega))
 have I1:Inv X Mi σ H { s with heap:=h1,toks:=tk }:=I.kept hk;have fa:uI X Mi H h1.objs.size:=I1.fpOk (Qh _) (I1.hok.fresh (Qh _));have I2:Inv X Mi σ H { s with heap:=h1.push (seqObj "list" acc.toList.toArray 0),toks:=tk }:=I1.kept (t':=tk) fun b o e=>Heap.get?_push_of_some _ e
 have hoL:(h1.push (seqObj "list" acc.toList.toArray 0)).get? h1.objs.size=some (seqObj "list" acc.toList.toArray 0):=Heap.get?_push_size _ rfl;show wpAny _ _ _ _ _ { s with heap:=h1.push (seqObj "list" acc.toList.toArray 0),toks:=tk }
 refine Js (wpAny_holding (wpAny_call_entry_kw slot_list_sort ⟨_,hoL,rfl⟩ entry_list_sort ?body (ksk_l1 _ _)))
 case body=>
  show wpAny (model X.prog X.w) X.A.in1.in1 (Builtin.«list.sort» ⟨[.ref h1.objs.size],[(Str.ofString "key", .ref q)]⟩) _ _ _
  rw[ksk_t1];have s3:=Heap.SameBut.update (h1.push (seqObj "list" acc.toList.toArray 0)) h1.objs.size (Obj.mapSeq fun _=>(#[]:Array Ja))
  obtain⟨e1,ho1⟩:∃ e1,((h1.push (seqObj "list" acc.toList.toArray 0)).update h1.objs.size (Obj.mapSeq fun _=>(#[]:Array Ja))).get? h1.objs.size=some (seqObj "list" #[] e1):=⟨_,get?_update_seq hoL fun _=>#[]⟩
  have I3:Inv X Mi σ H { s with heap:=(h1.push (seqObj "list" acc.toList.toArray 0)).update h1.objs.size (Obj.mapSeq fun _=>(#[]:Array Ja)),toks:=tk }:=(by have z:=rB (tk:=tk) fa I2 s3;exact z)
  generalize hg3:(h1.push (seqObj "list" acc.toList.toArray 0)).update h1.objs.size (Obj.mapSeq fun _=>(#[]:Array Ja))=h3 at s3 ho1 I3
  unfold ksk_tree;refine Js (listItems_at hoL rfl ?_)
  refine Js (listUpdate_at hoL rfl ?_ (by rw[Qk,Jy];omega) (V9 _))
  show wpAny _ _ _ _ _ { s with heap:=(h1.push (seqObj "list" acc.toList.toArray 0)).update h1.objs.size (Obj.mapSeq fun _=>(#[]:Array Ja)),toks:=tk }
  rw[hg3];refine Js (seqEpoch_at ho1 rfl ?_)
  refine Js (wpAny_newTuple ?_ (by show acc.toList.toArray.toList.length<=_;rw[Jy,Qab];omega))
  refine Js (wpAny_newList ?_ (V9 _))
  refine wpAny_holding ?_
  have I4:Inv X Mi σ H { s with heap:=h3.push (seqObj "tuple" acc.toList.toArray 0),toks:=tk }:=I3.kept (t':=tk) fun b o e=>Heap.get?_push_of_some _ e
  have fk:uI X Mi H (h3.push (seqObj "tuple" acc.toList.toArray 0)).objs.size:=I4.fpOk (Qh _) (I4.hok.fresh (Qh _));have I5:Inv X Mi σ H { s with heap:=(h3.push (seqObj "tuple" acc.toList.toArray 0)).push (seqObj "list" #[] 0),toks:=tk }:=I4.kept (t':=tk) fun b o e=>Heap.get?_push_of_some _ e
  have ho4:(h3.push (seqObj "tuple" acc.toList.toArray 0)).get? h1.objs.size=some (seqObj "list" #[] e1):=Heap.get?_push_of_some _ ho1;refine zPd (vs:=acc.toList) (kz:=kz) (e0:=0) I5 fa fk (Y4 (Heap.lt_size ho4)) (Heap.get?_push_size _ rfl) (Heap.get?_push_of_some _ ho4) (by rw[hkz,hl]) (by rw[hl];exact h64) (fun i v' k hi hk' s' pl Ip=>?_) fun s' out c I' ho' ko=>?_
  ·obtain⟨tk',rfl⟩:=hacc.2 i v' (by rw[<-Uu];exact hi)
   have e3:(0:Int)+(i:Int)*1=(i:Int):=by omega
   rw[e3];exact turn i tk' k hk' s' pl Ip
  ·obtain⟨hπ,hV⟩:=zOt (by rw[hkz,hl]) (fun j v' hj=>by
    obtain⟨tk',rfl⟩:=hacc.2 j v' (by rw[<-Uu];exact hj)
    exact⟨tk',by congr 1;omega⟩) ko
   exact⟨_,rfl,Jw ⟨_,rfl,h _ s' out c _ I' fa hsz ho' hπ hV⟩⟩
end
end L3
namespace L3
open PySem PySem.Spec PyProof.Rows L2 PySem.W
unseal PEd PEf PTd PWd PAd PSd eX POd PGd jV PId PSx mQ PTs PCd PCf
def zTx:CXT:=fun _ _ _ _ _ _=>False
def cxL(P:Jf)(w:Jg)(K:PySem.W.Frag)(mg:Str->Option Ja)(base:Je)(N:List Str)(qual:Str)(scope:Scope)(f:Jc)(cd:Ja)(cl:List (Str×Jc))(A:Jh)(outer:List Env)(s:Jb)(H:Hp):Cx where
 prog:=P
 w:=w
 K:=K
 mg:=mg
 base:=base
 A:=A.deeper (envX qual scope s.heap.objs.size f cd cl)
 N:=N
 s₀:=s
 H₀:=H
 env:=envX qual scope s.heap.objs.size f cd cl
 outer:=outer
 stack:=envX qual scope s.heap.objs.size f cd cl::outer
 ex:=[]
 fn:=fun _=>false
 calm:=true
 pn:=[]
 xe:=fun _ _=>False
theorem zOe{P:Jf}{w:Jg}{K:Fg_}{mg:Str->Option Ja}{base:Je}{N:List Str}{qual name:Str}{scope:Scope}{f c':Jc}{cl:List (Str×Jc)}{A:Jh}{outer:List Env}{s:Jb}{H:Hp}{params:Arguments}{body:Expr}{pm ctv u:Ja}{p:Str}{σ:St}{Q:VK}{E:XK}{t:TE}
  (hd:A.handled=none) (hdp:A.depth<recursionLimit) (e0:Env0 P w K mg base A outer s H) (ho:s.heap.get? f=some (kla_obj name qual params body scope cl pm c' ctv)) (hcd:s.heap.CodeRec (.ref c') qual)
  (hbind:bindArgs (kla_fn name qual params body scope cl pm (.ref c') ctv) ⟨[u],[]⟩=pure [(p,u)]) (hloc:scope.names.lookup p=some .local)
  (hco:scope.isCoroutine=false) (hgen:scope.isGenerator=false) (hk:scope.kind=.function) (hcell:∀ x∈scope.names,x.2≠.cell)
  (hfree:∀ x,scope.names.lookup x=some .free->∃ c,cl.lookup x=some c) (hinj:∀ x y c,cl.lookup x=some c->cl.lookup y=some c->x=y)
  (hcl:∀ x c,cl.lookup x=some c->(∃ v,s.heap.IsCell c v)/\H c=none) (hlen:σ.length=N.length)
  (hσ:∀(i:Nat)(x:Str)(v:V),N[i]?=some x->σ[i]?=some (some v)->(x=p/\dH v u)∨(scope.names.lookup x=some .free/\∃ c u',cl.lookup x=some c/\s.heap.IsCell c (some u')/\dH v u'))
  (hb:PE (cxL P w K mg base N qual scope f (.ref c') cl A outer s H) body t) (hq:t σ H Q):
  codeAny (model P w) A (.call (.ref f) ⟨[u],[]⟩) (CR zTx outer P w H s Q E) s:=by
 have lim:s.heap.NoLimit:=e0.mod.nolimit.keeps fun b o e=>(e0.bs b o e).1
 refine kla_callFunE hdp ho rfl hco hgen rfl hcd ?_
 rw[hbind];refine Jw (wpAny_newFunctionEnv hcell (fun y hy=>by rw[Qt.mp hy];exact hloc) (fun h₁ hns hsb=>⟨lim.fresh _ hsb,?_⟩) hk)
 have hk₁:∀ b o,s.heap.get? b=some o->h₁.get? b=some o:=fun b o e=>hsb.extBut b o (Qq (Heap.lt_size e)) (Heap.get?_push_of_some _ e)
 have noA:∀ b:Jc,b∉(cxL P w K mg base N qual scope f (.ref c') cl A outer s H).ex:=fun b z=>absurd (show b∈([]:List Jc) from z) (by simp)
 have I:Inv (cxL P w K mg base N qual scope f (.ref c') cl A outer s H) [] σ H { s with heap:=h₁,toks:=s.toks+1 }:=by
  refine⟨⟨e0.mod,hk,rfl,rfl,Qh _,hinj,fun y hy=>?_,fun y c z _=>?_,fun _=>hd,Around.frames_deeper e0.frames,.inr ⟨rfl,rfl⟩,fun b z=>absurd z (noA b),e0.bs,e0.bsz,fun b _ _=>noA b,fun b z=>absurd z (noA b),e0.funs,e0.frf⟩,
   rfl,e0.bare,Un.kept hk₁,⟨_,hns,fun i y v h1 h2 h3=>?_⟩,fun y c h=>?_,e0.hok.fresh (Qh _),fun y c h=>(hcl y c h).2,fun p hp=>absurd (show p∈([]:List (Jc×Obj)) from hp) (by simp),e0.hok.kept hk₁,hlen⟩
  ·have hy:scope.names.lookup y=some .cell∨scope.names.lookup y=some .free:=hy
   rcases hy with hy | hy
   ·exact absurd rfl (hcell _ (Xp hy))
   ·exact hfree y hy
  ·cases z
  ·rcases hσ i y v h1 h2 with⟨rfl,r⟩ | ⟨hf,c,u',h4,⟨o,h5,h6⟩,r⟩
   ·exact⟨u,r,.inl ⟨hloc,by simp[List.lookup]⟩⟩
   ·exact⟨u',r,.inr ⟨.inr hf,c,h4,o,hk₁ _ _ h5,h6⟩⟩
  ·obtain⟨⟨v,o,h5,h6⟩,_⟩:=hcl y c h
   exact⟨v,o,hk₁ _ _ h5,h6⟩
 refine kla_codeExpr (wpAny_mono (hb [] _ σ H Q I hq) (fun v s' z=>?_) fun e s' z=>False.elim z)
 obtain⟨x,H',J,r,q⟩:=z;exact⟨x,H',J.os,J.bare,J.base,J.hok,r,q⟩
theorem zLH{l:List Ja}{a b:Int}{c:Ja}(h:TriplesOk l):TriplesOk (l++[rawInt a,rawInt b,c]):=TriplesOk_snoc a b c l h
theorem zGT{pos q:Pos}{c x:Ja}(l:List Ja)(h:TriplesOk l)(e:codeAmong q (l++[rawInt pos.line,rawInt pos.col,c])=some x):codeAmong q l=some x∨x=c:=by
 fun_induction TriplesOk l with
 | case1=>
  simp only[Xr,codeAmong,rawInt] at e;split at e
  ·exact .inr (Vj e).symm
  ·cases e
 | case2 a t b u y rest ih=>
  simp only[Ud,codeAmong] at e ⊢
  split at e
  ·rename_i hc;rw[Jk hc];exact .inl e
  ·rename_i hc;rw[Jl hc];exact ih h e
 | case3 l h1 h2=>exact h.elim
def BMn(base:Je)(mg:Str->Option Ja):Prop:=∃ bm ob,mg "__builtins__" = some (.ref bm)/\bm≠builtinsNs/\base.get? bm=some ob/\ob.cls=.type "module" /\ ob.dict=some builtinsNs/\ob.data=.plain
section
variable{X:Cx}{Mi:List (Jc×Obj)}{σ:St}{H:Hp}{s:Jb}{P c c':Jc}
theorem zLc{ps more:Array Ja}{h':Je}{tk:Nat}{oc:Obj}(I:Inv X Mi σ H s)(hP:H P=some (.tbl ps))(hx:Heap.ExtBut P s.heap h')(hge:s.heap.objs.size<=c')(hc:h'.get? c'=some oc)(hP':h'.get? P=some { cls:=.none,data:=.fields (ps++more) }):
  Inv X Mi σ (upd (upd H P (.tbl (ps++more))) c' (.frz oc (.own 0))) { s with heap:=h',toks:=tk }:=by
 have nP:∀ {b:Jc},H b=none->b≠P:=fun e z=>by rw[z,hP] at e;cases e
 have cF:H c'=none:=I.hok.fresh hge;have nc:∀ {b:Jc} {o:Obj},s.heap.get? b=some o->b≠c':=fun e=>Qq (Qn (Heap.lt_size e) hge)
 have hPc:P≠c':=bC hP cF;have up:∀ {b:Jc},b≠P->b≠c'->upd (upd H P (.tbl (ps++more))) c' (.frz oc (.own 0)) b=H b:=fun h1 h2=>by rw[bB h2,bB h1]
 have upP:upd (upd H P (.tbl (ps++more))) c' (.frz oc (.own 0)) P=some (.tbl (ps++more)):=by rw[bB hPc,aY]
 have kd:∀ {b:Jc} {o:HO},H b=some o->(∀ qs,o≠.tbl qs)->upd (upd H P (.tbl (ps++more))) c' (.frz oc (.own 0)) b=some o:=fun {b o} e hn=>by
  rw[up (fun z=>by rw[z,hP] at e;exact hn ps (Vj e).symm) (bC e cF)];exact e
 refine I.un ⟨fun b o e n _ _=>hx b o (nP n) e,fun b o e n _ _=>⟨o.slots,hx b o (nP n) e⟩,fun b o e n _=>by rw[up (nP n) (nc e)];exact n,fun b o e _=>?_,fun b xs e=>kd e fun qs z=>(by cases z),fun b o u e=>kd e fun qs z=>(by cases z),fun b qs e=>?_⟩ fun b u e=>?_
 ·by_cases hb:b=P
  ·subst hb;exact⟨_,hP'⟩
  ·exact⟨o,hx b o hb e⟩
 ·by_cases hb:b=P
  ·subst hb
   rw[hP] at e;cases e
   exact⟨more,upP⟩
  ·exact⟨#[],by rw[up hb (bC e cF),e];simp⟩
 ·by_cases h2:b=c'
  ·subst h2
   rw[aY] at e;cases e
   exact⟨hc,oc,hc⟩
  ·by_cases h1:b=P
   ·subst h1
    rw[upP] at e;cases e
    exact hP'
   ·rw[up h1 h2] at e
    refine(I.hok b u e).stay (fun d v hd q=>hx d v (fun z=>?_) q) (fun d q=>kd q fun qs z=>(by cases z)) fun d xs q=>kd q fun qs z=>(by cases z)
    rcases hd with rfl | hd
    ·exact h1 z
    ·rw[z,hP] at hd;cases hd
theorem zJh{ps:Array Ja}{oc:Obj}{pos:Pos}{vs:Array Ja}{t:Tok}(hP:H P=some (.tbl ps))(cF:H c'=none)(hd:oc.data=.fields vs)(hv:vs[1]?=some (.str uF t)):
  Keep H (upd (upd H P (.tbl (ps++#[rawInt pos.line,rawInt pos.col,.ref c']))) c' (.frz oc (.own 0))):=by
 have hPc:P≠c':=bC hP cF;have upP:upd (upd H P (.tbl (ps++#[rawInt pos.line,rawInt pos.col,.ref c']))) c' (.frz oc (.own 0)) P=some (.tbl (ps++#[rawInt pos.line,rawInt pos.col,.ref c'])):=by rw[bB hPc,aY]
 have kd:∀ {b:Jc} {o:HO},H b=some o->b≠P->upd (upd H P (.tbl (ps++#[rawInt pos.line,rawInt pos.col,.ref c']))) c' (.frz oc (.own 0)) b=some o:=fun {b o} e hn=>by
  rw[bB (bC e cF),bB hn];exact e
 refine⟨fun b o e=>?_,fun Q T=>?_⟩
 ·by_cases hb:b=P
  ·subst hb
   rw[hP] at e;cases e
   exact .inr ⟨_,_,rfl,upP⟩
  ·exact .inl (kd e hb)
 ·obtain⟨qs,e,ht,k⟩:=T
  have old:∀(q:Pos)(cv:Ja),codeAmong q qs.toList=some cv->∃ c oc' vs t u,cv=.ref c/\upd (upd H P (.tbl (ps++#[rawInt pos.line,rawInt pos.col,.ref c']))) c' (.frz oc (.own 0)) c=some (.frz oc' u)/\oc'.data=.fields vs/\vs[1]?=some (.str uF t):=fun q cv z=>by
   obtain⟨c,oc',vs',t',u,r1,r2,r3⟩:=k q cv z;exact⟨c,oc',vs',t',u,r1,kd r2 (fun w=>by rw[w,hP] at r2;cases r2),r3⟩
  by_cases hb:Q=P
  ·subst hb
   rw[hP] at e;cases e
   have el:(ps++#[rawInt pos.line,rawInt pos.col,.ref c']).toList=ps.toList++[rawInt pos.line,rawInt pos.col,.ref c']:=by simp
   refine⟨_,upP,by rw[el];exact zLH ht,fun q cv z=>?_⟩
   rw[el] at z;rcases zGT _ ht z with z | z
   ·exact old q cv z
   ·exact⟨c',oc,vs,t,_,z,aY,hd,hv⟩
  ·exact⟨qs,kd e hb,ht,old⟩
theorem zKL{params:Arguments}{body:Expr}{scope:Scope}{pos:Pos}{clos:List (Str×Jc)}{M:Model}{A:Jh}{E:Ja->Jb->Prop}{Q:Ja->Jb->Prop}(I:Inv X Mi σ H s)(tb:zDB P H)(hC:∀ h,X.K.In h->CodeHd h c P)(hcode:X.env.code=.ref c)(hq:X.env.qual ++ "<lambda>" = uF)(hB:BMn X.base X.mg)
  (hcl:closureFor scope X.env=pure clos) (hdef:defaultsOf params X.env=([],[]))
  (h:∀ f c' ctv oc vs t u H' s',Inv X Mi σ H' s'->Keep H H'->(∀ b o,H b=some o->b≠P->H' b=some o)->uI X Mi H' f->s.heap.objs.size<=f->s'.heap.get? f=some (kla_obj "<lambda>" uF params body scope clos ((X.mg "__name__").getD .none) c' ctv)->
   H' c'=some (.frz oc u)->oc.data=.fields vs->vs[1]?=some (.str uF t)->Q (.ref f) s'):
  wpAny M A (eval (.Lambda params body scope pos) X.env) Q E s:=by
 obtain⟨ps,hP,ht,hk⟩:=id tb;have hPo:s.heap.get? P=some (tabObj ps):=I.hok P _ hP;have hg:s.heap.Ns mainGlobals X.mg:=I.mod.glob.keeps I.bk
 have hgP:mainGlobals≠P:=fun z=>by
  obtain⟨o,es,ep,e,_⟩:=I.mod.glob;have:=(I.bs _ _ e).2
  rw[z,hP] at this;cases this
 have hb:s.heap.BuiltinsAt X.mg P:=by
  obtain⟨bm,ob,b1,b2,b3,b4,b5,b6⟩:=hB;refine⟨bm,ob,b1,b2,fun z=>?_,fun z=>?_,(I.bs _ _ b3).1,b4,b5,b6⟩
  ·obtain⟨o,es,ep,e,d,_⟩:=I.mod.glob
   rw[z,e] at b3;cases b3;rw[d] at b6;cases b6
  ·have:=(I.bs _ _ b3).2
   rw[z,hP] at this;cases this
 refine kla_eval hdef ?_
 rw[hq]
 cases hf:codeAmong pos ps.toList with
 | some cv=>
  obtain⟨c',oc,vs,t,u,rfl,r1,r2,r3⟩:=hk pos cv hf;refine kla_makeFunctionHit hcl I.ok.glob hg hcode (hC _ I.kIn) hPo ht hf hb fun ctv h' tk hkk hsz=>?_
  have I1:Inv X Mi σ H { s with heap:=h',toks:=tk }:=I.kept hkk;have I2:Inv X Mi σ H { s with heap:=h'.push (kla_obj "<lambda>" uF params body scope clos ((X.mg "__name__").getD .none) c' ctv),toks:=tk }:=I1.kept (t':=tk) fun b o e=>Heap.get?_push_of_some _ e
  exact h _ c' ctv oc vs t u H _ I2 (Keep.refl _) (fun b o e _=>e) (I1.fpOk (Qh _) (I1.hok.fresh (Qh _))) hsz (Heap.get?_push_size _ rfl) r1 r2 r3
 | none=>
  refine kla_makeFunction hcl I.ok.glob hg hcode (hC _ I.kIn) hPo ht hf hgP hb fun c' ctv h' tk hx hge hlt hrec htb=>?_
  obtain⟨c₂,oc,vs,t,e2,hoc,hd,hv⟩:=hrec;cases e2;have I1:=zLc (tk:=tk) I hP hx hge hoc htb;have I2:=I1.kept (t':=tk) (h':=h'.push (kla_obj "<lambda>" uF params body scope clos ((X.mg "__name__").getD .none) c' ctv)) fun b o e=>Heap.get?_push_of_some _ e
  have cF:H c'=none:=I.hok.fresh hge;exact h _ c' ctv oc vs t _ _ _ I2 (zJh hP cF hd hv) (fun b o e hb=>by rw[bB (bC e cF),bB hb];exact e) (I1.fpOk (Qh _) (I1.hok.fresh (Qh _))) (Vs (Xh hge hlt)) (Heap.get?_push_size _ rfl) aY hd hv
end
theorem zCU{K:Fg_}{H:Hp}:∀ π:List Nat,IsDs K H (π.map fun i:Nat=>V.int (i:Int)) (kU π)
 | []=>.nil
 | n::ns=>.cons (.int n) (zCU ns)
def zEq(p:Pos):Arguments:={ posonlyargs:=[],args:=[{ arg := "spot", annotation:=none,pos:=p }],vararg:=none,kwonlyargs:=[],kw_defaults:=[],kwarg:=none,defaults:=[] }
def lZ:Scope:={ kind:=.function,names:=[(PySem.Str.ofString "spot", .local),(PySem.Str.ofString "bottom", .free),(PySem.Str.ofString "some", .free)],isGenerator:=false,isCoroutine:=false,more:=[] }
section
variable{X:Cx}{p1 p2 p3 p4 p5 p6 p7 p8 p9 pa pb pc pd pe pf pg ph pi pj:Pos}
theorem zKQ{b k:Int}{a:Jc}{xs:List V}{rows:List D}{d:D}{j:Nat}{Hi H:Hp}{Q:VK}{σ:St}(hN:X.N=(["spot","some","bottom"]:List Str))(hsc:X.env.scope=lZ){pz:Pos}
  (hσ:σ=[some (.int j),some (.ref a),some (.int b)]) (hq:SqL X.K Hi a xs∨SqT X.K Hi a xs) (hs:IsDs X.K Hi xs rows) (sm:Same Hi H) (hd:rows[j]?=some d) (hk:zKv b d=.ok k) (q:Q (.int k) H):
  ∃ t,PE X (.BinOp (.Subscript (.Subscript (.Name "some" p1) (.Name "spot" p2) p3) (.Constant (.int 0) 0 p4) p5) .Mult
   (.BinOp (.Name "bottom" p6) .FloorDiv (.Subscript (.Subscript (.Name "some" p7) (.Name "spot" p8) p9) (.Constant (.int 1) 0 pa) pb) pc) pz) t/\t σ H Q:=by
 have v0:PE X (.Name "spot" p2) (zDE 0):=wC (by rw[hN];rfl) (by rw[hsc];exact .inl (by decide +kernel))
 have v0':PE X (.Name "spot" p8) (zDE 0):=wC (by rw[hN];rfl) (by rw[hsc];exact .inl (by decide +kernel))
 have v1:PE X (.Name "some" p1) (zDE 1):=wC (by rw[hN];rfl) (by rw[hsc];exact .inr (.inr (by decide +kernel)))
 have v1':PE X (.Name "some" p7) (zDE 1):=wC (by rw[hN];rfl) (by rw[hsc];exact .inr (.inr (by decide +kernel)))
 have v2:PE X (.Name "bottom" p6) (zDE 2):=wC (by rw[hN];rfl) (by rw[hsc];exact .inr (.inr (by decide +kernel)))
 refine⟨_,zIA bV (zGQ aO (zGQ aO v1 v0 (fun _ _=>rfl)) zJM (fun _ _=>rfl)) (zIA cD v2 (zGQ aO (zGQ aO v1' v0' (fun _ _=>rfl)) zJM (fun _ _=>rfl))),?_⟩
 obtain⟨t,c,rfl,h1,h2,rfl⟩:=zOB hk;obtain⟨v,hv,r⟩:=hs.at hd;obtain⟨ra,ys,rfl,h3,h4⟩:=r.tupI;obtain⟨u1,u2,rfl,r1,r2⟩:=h4.two;have e1:=r1.intI;have e2:=r2.intI;subst e1 e2;have S3:=cW sm h3;subst hσ
 have row:∀ Q':VK,Q' (.ref ra) H->(zRx X.K (.ref a) (.int j) H Q'∨zRH X.K (.ref a) (.int j) H Q'):=fun Q' q'=>by
  rcases hq with hq | hq
  ·exact .inl ⟨a,xs,j,.ref ra,rfl,rfl,dD sm hq,zEM hv,q'⟩
  ·exact .inr ⟨a,xs,j,.ref ra,rfl,rfl,cW sm hq,zEM hv,q'⟩
 refine⟨.ref a,rfl,.int j,rfl,row _ (.inr ⟨ra,_,0,.int t,rfl,rfl,S3,rfl,?_⟩)⟩
 refine⟨.int b,rfl,.ref a,rfl,.int j,rfl,row _ (.inr ⟨ra,_,1,.int c,rfl,rfl,S3,rfl,?_⟩)⟩
 exact⟨b,c,rfl,rfl,h1,t,b.fdiv c,rfl,rfl,h2,q⟩
theorem zQG{a:Expr}{ta:TA}{p pos:Pos}(hg:Gl X "range")(hm:X.mg "range" = none)(ha:PA X [a] ta)(hs:starEach [a] X.env=[(false,eval a X.env)]:=by rfl):
  PE X (.Call (.Name "range" p) [a] [] pos) (fun σ H Q=>ta σ H fun vs H1=>∃ n:Nat,vs=[.int n]/\∀ r,H1 r=none->Q (.ref r) (upd H1 r (.rng 0 n))):=by
 intro Mi s σ H Q I h;refine Jz (rL I hg hm Jx (X8 (thn (ha pos Mi s σ H _ I h) fun us s1 ⟨vs,H1,I1,r1,q1⟩=>?_) hs rfl))
 obtain⟨n,e,q⟩:=q1;subst e;obtain⟨u,rfl,t,rfl⟩:=zCg r1;refine call_range_1 ⟨.ref s1.heap.objs.size,_,I1.laid (fun b o e=>Heap.get?_push_of_some _ e) (Qh _) ?_,rfl,q _ I1.fresh⟩
 exact⟨_,_,_,Heap.get?_push_size _ rfl⟩
structure RankCx (X:Cx) (P c:Jc):Prop where
 calm:X.calm=true
 dp:X.A.depth<recursionLimit
 n0:X.N[0]?=some ("some" : Str)
 n1:X.N[1]?=some ("bottom" : Str)
 k0:X.env.kindOf "some" = some .cell
 k1:X.env.kindOf "bottom" = some .cell
 code:X.env.code=.ref c
 hd:∀ h,X.K.In h->CodeHd h c P
 qual:X.env.qual ++ "<lambda>" = uF
 bm:BMn X.base X.mg
 clo:∃ cs cb,closureFor lZ X.env=pure [(("some" : Str),cs),(("bottom" : Str),cb)]/\X.env.cells.lookup ("some" : Str)=some cs/\X.env.cells.lookup ("bottom" : Str)=some cb
 gS:Gl X "sorted"
 mS:X.mg "sorted" = none
 gR:Gl X "range"
 mR:X.mg "range" = none
 gL:Gl X "len"
 mL:X.mg "len" = none
def zQH(X:Cx)(P:Jc):TE:=fun σ H Q=>∃ Hi a xs rows b kz,σ[0]?=some (some (.ref a))/\σ[1]?=some (some (.int b))/\(SqL X.K Hi a xs∨SqT X.K Hi a xs)/\IsDs X.K Hi xs rows/\Same Hi H/\pF b rows=.ok kz/\kz.length<64/\zDB P H/\Hi P=none/\
 ∀ π r Hi' H',iO kz π->Ext Hi H Hi' H'->zLf X.K H Hi' H' r (kU π)->Q (.ref r) H'
theorem zGi{Mi:List (Jc×Obj)}{σ:St}{H:Hp}{s:Jb}{i:Nat}{x:Str}{v:V}{c:Jc}(I:Inv X Mi σ H s)(hi:X.N[i]?=some x)(hv:σ[i]?=some (some v))(hk:X.env.kindOf x=some .cell)(hc:X.env.cells.lookup x=some c):∃ u,dH v u/\s.heap.IsCell c (some u):=by
 obtain⟨m,hn,hl⟩:=I.loc;obtain⟨u,r,l⟩:=hl i x v hi hv (.inr (.inl hk));refine⟨u,r,?_⟩
 rcases l with⟨z,_⟩ | ⟨_,c',z,q⟩
 ·rw[hk] at z;cases z
 ·rw[hc] at z;cases z;exact q
theorem zNw{P c:Jc}(R:RankCx X P c){pk pl pm pn:Pos}(hs1:starEach [.Name "some" p3] X.env=(false,eval (.Name "some" p3) X.env)::starEach [] X.env:=by rfl)
  (hs2:starEach [.Call (.Name "len" p2) [.Name "some" p3] [] p4] X.env=[(false,eval (.Call (.Name "len" p2) [.Name "some" p3] [] p4) X.env)]:=by rfl)
  (hs3:starEach [.Call (.Name "range" p1) [.Call (.Name "len" p2) [.Name "some" p3] [] p4] [] p5] X.env=(false,eval (.Call (.Name "range" p1) [.Call (.Name "len" p2) [.Name "some" p3] [] p4] [] p5) X.env)::starEach [] X.env:=by rfl):
  PE X (.Call (.Name "sorted" pk) [.Call (.Name "range" p1) [.Call (.Name "len" p2) [.Name "some" p3] [] p4] [] p5] [⟨some "key", .Lambda (zEq p6) (.BinOp (.Subscript (.Subscript (.Name "some" p7) (.Name "spot" p8) p9) (.Constant (.int 0) 0 pa) pb) .Mult
   (.BinOp (.Name "bottom" pc) .FloorDiv (.Subscript (.Subscript (.Name "some" pd) (.Name "spot" pe) pf) (.Constant (.int 1) 0 pg) ph) pi) pj) lZ pl,pm⟩] pn) (zQH X P):=by
 intro Mi s σ H Q I h;obtain⟨Hi,a,xs,rows,b,kz,e0,e1,hq,hds,sm,hkz,h64,tb,hiP,q⟩:=h;obtain⟨hl1,hl2⟩:=zAQ hkz;have hlen:xs.length=kz.length:=by rw[hds.length,hl1]
 refine Jz (rL I R.gS R.mS boot_sorted ?_ (by decide) (by decide))
 have vS:PE X (.Name "some" p3) (zDE 0):=wC R.n0 (.inr (.inl R.k0));have pR:=zQG (p:=p1) (pos:=p5) R.gR R.mR (gA (rJ (p:=p2) (pos:=p4) aR R.gL R.mL boot_len (gA vS nT hs1) (by decide) (by decide) hs1) nT (by rw[hs2];rfl)) hs2
 refine callWith_kw (thn ((gA pR nT hs3) pn Mi s σ H (fun vs H1=>∃ r,vs=[.ref r]/\H r=none/\H1=upd H r (.rng 0 kz.length)) I ?reads) fun us s1 ⟨vs,H1,I1,r1,q1⟩=>?_) (by rw[hs3];rfl) (by rw[hs3];rfl)
 case reads=>
  refine⟨.ref a,e0,a,xs,rfl,hq.imp (dD sm) (cW sm),xs.length,rfl,fun r hr=>⟨r,rfl,hr,by rw[hlen]⟩⟩
 obtain⟨r,rfl,hr,rfl⟩:=q1;obtain⟨u,rfl,ru⟩:=zCg r1;cases ru;obtain⟨cs,cb,hcl,hcs,hcb⟩:=R.clo;have x1:Ext Hi H Hi (upd H r (.rng 0 kz.length)):=Ext.newF sm hr;refine kws_cons (zKL I1 (x1.h.t P tb) R.hd R.code R.qual R.bm hcl rfl fun f c' ctv oc vs t u H3 s3 I3 hkeep hsame hf hfs hfo hc1 hc2 hc3=>kws_nil ?_)
 have x2:Ext Hi H Hi H3:=x1.trans ⟨Same.refl _,hkeep,fun b o e=>hsame b o (x1.s _ _ e) (fun z=>by rw[z,hiP] at e;cases e),fun b e z=>absurd e z⟩
 have hr3:H3 r=some (.rng 0 kz.length):=hkeep.at aY;obtain⟨t1,t2,t3,hrg⟩:=I3.hok r _ hr3
 have I3p:Inv X (Mi++[(f,kla_obj "<lambda>" uF (zEq p6) _ lZ [("some", cs),("bottom", cb)] ((X.mg "__name__").getD .none) c' ctv)]) σ H3 s3:=I3.pins_of fun p hp=>by
  rcases Va.mp hp with hp | hp
  ·exact I3.pin p (Q2 _ hp)
  ·rw[Qt.mp hp]
   exact⟨hfo,hf.1,hf.2.1,hf.2.2.1,fun v z=>by have z':Data.func _=Data.cell v:=z;cases z'⟩
 refine zJw (kz:=kz) R.calm I3p hrg h64 rfl (fun j tk k hj s' pl Ip=>?_) fun D s' out c2 π I' fD hDs hD hπ hV=>?_
 ·obtain⟨d,hd,hk⟩:=hl2 j k hj
  have hfo':=(Ip.pin _ (Q2 _ (Xo _ (Q2 _ (Qt.mpr rfl))))).1;obtain⟨u0,r0,ce0⟩:=zGi Ip R.n0 e0 R.k0 hcs;obtain⟨u1,r1,ce1⟩:=zGi Ip R.n1 e1 R.k1 hcb
  have look:∀ {x:Str} {c:Jc},List.lookup x [(("some" : Str),cs),(("bottom" : Str),cb)]=some c->(x = "some" /\ c=cs)∨(x = "bottom" /\ c=cb):=fun {x c} z=>by
   have z':=Xp z;rcases Qd.mp z' with z' | z'
   ·cases z';exact .inl ⟨rfl,rfl⟩
   ·cases Qt.mp z';exact .inr ⟨rfl,rfl⟩
  have hne:cs≠cb:=fun z=>by
   have:=Ip.ok.inj _ _ _ hcs (z ▸ hcb)
   exact absurd this (by decide)
  have lam:∃ t,PE (cxL X.prog X.w X.K X.mg X.base ["spot","some","bottom"] uF lZ f (.ref c') [("some", cs),("bottom", cb)] X.A.in1.in1 X.stack s' H3) _ t/\t [some (.int j),some (.ref a),some (.int b)] H3 (fun v H'=>v=.int k/\H'=H3):=
   zKQ (p1:=p7) (p2:=p8) (p3:=p9) (p4:=pa) (p5:=pb) (p6:=pc) (p7:=pd) (p8:=pe) (p9:=pf) (pa:=pg) (pb:=ph) (pc:=pi) (pz:=pj) rfl rfl rfl hq hds x2.s hd hk ⟨rfl,rfl⟩
  obtain⟨tt,hb,hqq⟩:=lam;refine wpAny_call (codeAny_mono (zOe (E:=fun _ _ _=>False) (p := "spot") (Ip.ok.hd R.calm) R.dp Ip.env0.in1.in1 hfo' ⟨c',oc,vs,t,rfl,(Ip.hok c' _ hc1).1,hc2,hc3⟩ rfl (by decide +kernel) rfl rfl rfl (by decide +kernel) (fun x hx=>?_) (fun x y c z1 z2=>?_) (fun x c z=>?_) rfl (fun i x v z1 z2=>?_) hb hqq) fun res s'' hres=>?_)
  ·have hx':=Xp hx
   rcases Qd.mp hx' with z | hx'
   ·cases z
   ·rcases Qd.mp hx' with z | hx'
    ·cases z;exact⟨cb,rfl⟩
    ·cases Qt.mp hx';exact⟨cs,rfl⟩
  ·rcases look z1 with⟨rfl,rfl⟩ | ⟨rfl,rfl⟩<;>rcases look z2 with⟨rfl,w⟩ | ⟨rfl,w⟩
   ·rfl
   ·exact absurd w hne
   ·exact absurd w.symm hne
   ·rfl
  ·rcases look z with⟨rfl,rfl⟩ | ⟨rfl,rfl⟩
   ·exact⟨⟨_,ce0⟩,Ip.freeC _ _ hcs⟩
   ·exact⟨⟨_,ce1⟩,Ip.freeC _ _ hcb⟩
  ·match i,z1,z2 with
   | 0,z1,z2=>cases z1;cases z2;exact .inl ⟨rfl,tk,rfl⟩
   | 1,z1,z2=>cases z1;cases z2;exact .inr ⟨by decide +kernel,cs,u0,rfl,ce0,r0⟩
   | 2,z1,z2=>cases z1;cases z2;exact .inr ⟨by decide +kernel,cb,u1,rfl,ce1,r1⟩
   | i+3,z1,z2=>simp at z2
  ·cases res with
   | error ev=>exact False.elim hres
   | ok fl=>
    cases fl with
    | ret u=>
     obtain⟨v,H',J,rv,rfl,rfl⟩:=Ip.after hres;obtain⟨t',rfl⟩:=rv;exact⟨⟨t',rfl⟩,J⟩
    | next=>exact False.elim hres
    | brk=>exact False.elim hres
    | cont=>exact False.elim hres
 ·have I'':Inv X Mi σ H3 s':=I'.unpinned
  obtain⟨f0,f1,f2,f3,f4,f5⟩:=fD;have h0:X.s₀.heap.get? D=none:=Heap.get?_none_of_le (Q5 I3.sz hDs);have hl:=hV.length
  have okL:mZ X.prog X.w (upd H3 D (.lst (π.map fun i:Nat=>V.int (i:Int)))) s'.heap D (.lst (π.map fun i:Nat=>V.int (i:Int))):=by
   refine⟨?_,out.toList,c2,hV,by rw[Array.toArray_toList];exact hD⟩
   rw[Qg,hπ.1.length_eq,Q3,Jy];omega
  have I4:=I''.track f0 h0 f1 f4 (fun p hp=>f5 p (by
   rcases Va.mp hp with hp | hp
   ·exact Xo _ hp
   ·exact Q2 _ (Xo _ hp))) okL
  refine⟨.ref D,_,I4,rfl,q π D Hi _ hπ (x2.trans (Ext.newF x2.s f0)) ⟨x2.h.none f0,x2.s.none f0,_,aY,zCU π⟩⟩
end
def spR(K:PySem.W.Frag)(mg:Str->Option Ja)(kf:List D->Res (List Int)):Sp:=fun vs H Q _=>vs.length=1/\∃ Bi ds,TB K mg Bi H/\Same Bi H/\IsDs K Bi vs ds/\match kf ds with
 | .ok kz=>∀ π a Hi' H',iO kz π->Ext Bi H Hi' H'->zLf K H Hi' H' a (kU π)->Q (.ref a) H'
 | _=>False
structure CanR (P:Jf) (w:Jg) (K:PySem.W.Frag) (mg:Str->Option Ja) (base:Je) (k:Nat) (kf:List D->Res (List Int)):Prop where
 ex:∃ f fd,FnOk P w K mg base (CX1 P w) k f fd ["some"] (spR K mg kf)/\zCD K fd ["some"] []/\PySem.W.keepIn K (.ref f)=true/\mg "ranked" = some (.ref f)
theorem CanR.mono{P:Jf}{w:Jg}{K:Fg_}{mg:Str->Option Ja}{base:Je}{j k:Nat}{kf:List D->Res (List Int)}(c:CanR P w K mg base j kf)(h:j<=k):CanR P w K mg base k kf:=by
 obtain⟨f,fd,F,r⟩:=c.ex;exact⟨⟨f,fd,F.mono h,r⟩⟩
structure RankDef (st:Ji):Prop where
 k0:(aH st).names.lookup ("some" : Str)=some .cell
 k1:(aH st).names.lookup ("bottom" : Str)=some .cell
 gS:(aH st).names.lookup ("sorted" : Str)=some .globalImplicit
 gR:(aH st).names.lookup ("range" : Str)=some .globalImplicit
 gL:(aH st).names.lookup ("len" : Str)=some .globalImplicit
 clo:∀ L f cdv,∃ cs cb,closureFor lZ (envOfC "ranked" (aH st) L f cdv)=pure [(("some" : Str),cs),(("bottom" : Str),cb)]/\(envOfC "ranked" (aH st) L f cdv).cells.lookup ("some" : Str)=some cs/\(envOfC "ranked" (aH st) L f cdv).cells.lookup ("bottom" : Str)=some cb
section
variable{P:Jf}{w:Jg}{K:Fg_}{mg:Str->Option Ja}{base:Je}{st s1 s2:Ji}{f:Jc}{fd:FuncData}{k:Nat}{sa sb:Sv}{p1 p2 p3 p4 p5 p6 p7 p8 p9 pa pb pc pd pe pf pg ph pi pj pk pl pm pn po:Pos}
theorem zNd{T:Jc}(F:Fn K mg "ranked" st ["some"] f fd)(S:FnScope ["some","bottom","each"] ["some"] (aH st))(D:RankDef st)(hT:rE K mg T)(hB:BMn base mg)(mS:mg "sorted" = none)(mR:mg "range" = none)(mL:mg "len" = none)
  (hbody:gG st=[s1,s2,.Return (some (.Call (.Name "sorted" pk) [.Call (.Name "range" p1) [.Call (.Name "len" p2) [.Name "some" p3] [] p4] [] p5] [⟨some "key", .Lambda (zEq p6) (.BinOp (.Subscript (.Subscript (.Name "some" p7) (.Name "spot" p8) p9) (.Constant (.int 0) 0 pa) pb) .Mult
   (.BinOp (.Name "bottom" pc) .FloorDiv (.Subscript (.Subscript (.Name "some" pd) (.Name "spot" pe) pf) (.Constant (.int 1) 0 pg) ph) pi) pj) lZ pl,pm⟩] pn)) po])
  (h:∀(cdv:Ja)(A:Jh)(outer:List Env)(s:Jb)(H:Hp)(E:XK)(G:Gx),Good (BX P w K mg base ["some","bottom","each"] "ranked" st f cdv A outer s H E) G k->zJb (BX P w K mg base ["some","bottom","each"] "ranked" st f cdv A outer s H E) G->
   PSd (BX P w K mg base ["some","bottom","each"] "ranked" st f cdv A outer s H E) G s1 sa/\PSd (BX P w K mg base ["some","bottom","each"] "ranked" st f cdv A outer s H E) G s2 sb):
  CanR P w K mg base (k+1) (zBb sa sb):=by
 refine⟨f,fd,?_,F.bd,F.kp,F.mg⟩
 obtain⟨f',oc',od',fd',osl',c,t1,t2,t3,t4⟩:=id hT;have ef:f'=f:=by have:=t1.symm.trans F.mg;exact Value.ref.inj (Vj this)
 subst ef;obtain⟨oc,od,kV,doc,pm',an,cdv,ct,osl,rfl,lk,hcd⟩:=F.fn.ex
 have efd:cdv=.ref c:=by
  rw[lk] at t2;cases t2;exact t3
 subst efd;refine zQK lk hcd S (fun vs H Q E h=>h.1) fun A outer s H vs Q E hr hsp=>?_
 obtain⟨hl,Bi,ds,tb,sm,hd,hq⟩:=hsp;have hg:=zHU (P:=P) (w:=w) (K:=K) (mg:=mg) (base:=base) (N:=["some","bottom","each"]) (outer:=outer) (H:=H) (Bi:=Bi) (E:=E) hr tb;obtain⟨h1,h2⟩:=h (.ref c) A outer s H E _ hg zGf
 have RC:RankCx (BX P w K mg base ["some","bottom","each"] "ranked" st f' (.ref c) A outer s H E) T c:=
  ⟨rfl,hr.depth,rfl,rfl,D.k0,D.k1,rfl,t4,by show(("ranked" : Str) ++ ".<locals>.") ++ "<lambda>" = uF;decide +kernel,hB,D.clo _ _ _,D.gS,mS,D.gR,mR,D.gL,mL⟩
 have body:∀ G,PSs (BX P w K mg base ["some","bottom","each"] "ranked" st f' (.ref c) A outer s H E) [s1] (tS (BX P w K mg base ["some","bottom","each"] "ranked" st f' (.ref c) A outer s H E) G sa)->PS (BX P w K mg base ["some","bottom","each"] "ranked" st f' (.ref c) A outer s H E) s1 (tS (BX P w K mg base ["some","bottom","each"] "ranked" st f' (.ref c) A outer s H E) G sa)->PS (BX P w K mg base ["some","bottom","each"] "ranked" st f' (.ref c) A outer s H E) s2 (tS (BX P w K mg base ["some","bottom","each"] "ranked" st f' (.ref c) A outer s H E) G sb)->
   PSs (BX P w K mg base ["some","bottom","each"] "ranked" st f' (.ref c) A outer s H E) (gG st) (zSM (tS (BX P w K mg base ["some","bottom","each"] "ranked" st f' (.ref c) A outer s H E) G sa) (zSM (tS (BX P w K mg base ["some","bottom","each"] "ranked" st f' (.ref c) A outer s H E) G sb) (zSX (zQH (BX P w K mg base ["some","bottom","each"] "ranked" st f' (.ref c) A outer s H E) T)))):=fun G _ h1 h2=>by
  rw[hbody];exact uR h1 (uR h2 (zER (zFK (zNw RC))))
 refine⟨_,body _ (zER h1) h1 h2,?_⟩
 cases ek:zBb sa sb ds with
 | no=>rw[ek] at hq;exact hq.elim
 | err c=>rw[ek] at hq;exact hq.elim
 | ok kz=>
  rw[ek] at hq;unfold zBb at ek;split at ek
  case isFalse=>cases ek
  split at ek
  case h_2=>cases ek
  rename_i ρ1 e1
  split at ek
  case h_2=>cases ek
  rename_i ρ2 e2
  refine⟨L3.start 3 ds,Bi,zCz (N:=["some","bottom","each"]) sm hd,?_⟩
  rw[e1];intro σ1 Hi1 H1 sm1 R1;refine⟨ρ1,Hi1,R1,?_⟩
  rw[e2];intro σ2 Hi2 H2 sm2 R2;unfold zGa at ek;split at ek
  case h_2=>cases ek
  rename_i rows b z0 z1
  split at ek
  case isFalse=>cases ek
  rename_i h64
  obtain⟨v,q0,r0⟩:=R2.slot 0 _ z0;obtain⟨v1,q1,r1⟩:=R2.slot 1 _ z1;obtain⟨a,xs,rfl,g1,g2⟩:=r0.lstI;have r1':=r1.intI;subst r1';obtain⟨tb2,n2⟩:=hg.tb.ext R2.ext T hT;exact⟨Hi2,a,xs,rows,b,kz,q0,q1,.inl g1,g2,R2.s,ek,by rw[(zAQ ek).1];exact h64,tb2,n2,fun π r Hi' H' hπ x nl=>hq π r Hi' H' hπ (R2.ext.trans x) ⟨R2.ext.h.none nl.1,nl.2⟩⟩
end
section
variable{X:Cx}{G:Gx}{e:Expr}{es:List Expr}{pos p:Pos}{fs:Fv}{k:Nat}{kf:List D->Res (List Int)}{tg:Expr}{body rest:List Ji}{g:Gv}{sa sb:Sv}
def tIr(X:Cx)(G:Gx)(fs:Fv)(kf:List D->Res (List Int)):TI:=fun σ H R=>∃ ρ Hi,lV X G Hi H σ ρ/\Out G Hi H ((fs ρ).bind kf) fun kz Hi' H'=>∀ π J,iO kz π->xJ X.K Hi' J (kU π)->R J H'
theorem zNx(W:Good X G k)(c:CanR X.prog X.w X.K X.mg X.base k kf)(hkf:∀ ds c,kf ds≠.err c)(hk1:∀ ds,kf ds≠.no->ds.length=1)(hg:Gl X "ranked")(ha:PAd X G [e] fs)(he:starEach [e] X.env=(false,eval e X.env)::starEach [] X.env:=by rfl):
  PI X tg (.Call (.Name "ranked" p) [e] [] pos) (tIr X G fs kf):=by
 obtain⟨f,fd,F,b,kp,hm⟩:=c.ex;refine PI.wk (zOv (zEN F W.room hg hm kp b .nil W.pass ha (by decide) he rfl)) fun σ H R q=>?_
 obtain⟨ρ,Hi,Rl,ou⟩:=q;refine zLI Rl ou fun vs ds Hi1 H1 e1 R1 r1 o1=>?_
 rw[Vg];have hno:kf ds≠.no:=fun z=>by rw[z] at o1;exact o1
 refine⟨by rw[r1.length];exact hk1 ds hno,Hi1,ds,W.tb.ext R1.ext,R1.s,r1,?_⟩
 cases z:kf ds with
 | no=>exact absurd z hno
 | err c=>exact absurd z (hkf ds c)
 | ok kz=>
  rw[z] at o1;intro π a Hi2 H2 hπ e2 n;obtain⟨n1,n2,xs,n3,n4⟩:=n;have x3:=e2.hold n1 n3 n2;refine⟨a,rfl,⟨xs,SqL.of n3⟩,o1 _ _ x3 π _ hπ (zCd (SqL.of aY) (n4.mono (cX n2 _)))⟩
theorem zJa(W:Good X G k)(c:CanR X.prog X.w X.K X.mg X.base k kf)(hkf:∀ ds c,kf ds≠.err c)(hk1:∀ ds,kf ds≠.no->ds.length=1)(hg:Gl X "ranked")(ha:PAd X G [e] fs)(hgt:PGd X G tg g)(hge:∀ d ρ c,g d ρ≠.err c)(hb:eX X G body sa)(hr:eX X G rest sb)
  (he:starEach [e] X.env=(false,eval e X.env)::starEach [] X.env:=by rfl) {pf:Pos} (hs:∀ x,foldedSetIterable (.Call (.Name "ranked" p) [e] [] pos) X.env x=pure x:=by intro _;rfl):
  eX X G (.For tg (.Call (.Name "ranked" p) [e] [] pos) body [] pf::rest) (zIF fs kf g sa sb):=by
 refine PSs.wk (uR (zMk W.own W.calm (zNx W c hkf hk1 hg ha he) hgt hb hs) hr) fun E σ H q=>?_
 obtain⟨ρ,Hi,R,h⟩:=q;refine⟨ρ,Hi,R,mW R h fun kz Hi1 H1 _ e1 h1 π J hπ gv=>?_⟩
 have hn:pD kz (fun π=>aZ (fun ρ=>iC g sa (kU π) ρ) sb ρ)≠.no:=fun z=>by rw[z] at h1;exact h1
 rw[<-zHc hn hπ] at h1;exact zLX hge (R.grow e1) (zQS (sa:=fun ρ=>iC g sa (kU π) ρ) h1) gv
end
def zRA(K:PySem.W.Frag)(mg:Str->Option Ja):Sp:=fun vs H Q _=>∃(a:Jc)(ns:List Int)(Bi:Hp),vs=[.ref a]/\TB K mg Bi H/\Same Bi H/\SqL K Bi a (ns.map V.int)/\ns.length<=63/\(∃ m,m<=1048576/\∀ n∈ns,n.natAbs<2^m)/\∀ H',Q (.bl true) H'
theorem zNV{P:Jf}{w:Jg}{K:Fg_}{mg:Str->Option Ja}{base:Je}{k:Nat}{m:Mir}{f:Jc}{fd:FuncData}(F:FnOk P w K mg base (CX1 P w) k f fd ["script"] (spM K mg 1 m))
  (h:∀ ns:List Int,ns.length<=63->(∃ m,m<=1048576/\∀ n∈ns,n.natAbs<2^m)->m [.lst (ns.map D.int)]=.ok (.v (.bl true))):FnOk P w K mg base (CX1 P w) k f fd ["script"] (zRA K mg):=by
 refine F.imp fun vs H Q E q=>?_
 obtain⟨a,ns,Bi,rfl,tb,sm,hS,hl,hbg,q⟩:=q;refine⟨rfl,Bi,[.lst (ns.map D.int)],tb,sm,.cons (.lst hS (zDD ns)) .nil,?_⟩
 rw[h ns hl hbg];intro v Hi' H' e r;rw[r.blI];exact q H'
theorem zLD{K:Fg_}{mg:Str->Option Ja}{h:Je}{T T':Jc}(X:K.In h)(a:rE K mg T)(b:rE K mg T'):T'=T:=by
 obtain⟨f,oc,od,fd,osl,c,a1,a2,a3,a4⟩:=a;obtain⟨f',oc',od',fd',osl',c',b1,b2,b3,b4⟩:=b;rw[a1] at b1;cases b1
 rw[a2] at b2;cases b2
 rw[a3] at b3;cases b3
 obtain⟨o,vs,_,_,_,_,_,_,_,e1,_,e3,e4,_⟩:=a4 h X;obtain⟨o',vs',_,_,_,_,_,_,_,f1,_,f3,f4,_⟩:=b4 h X;rw[e1] at f1;cases f1
 rw[e3] at f3;cases f3
 rw[e4] at f4;cases f4
 rfl
theorem zIJ{P:Jf}{w:Jg}{K:Fg_}{mg mb:Str->Option Ja}{CX:CXT}{k:Nat}{fa a T:Jc}{fd:FuncData}{x:Str}{s₁:Jb}{vs:List Ja}{ns:List Int}
  (KX:K.In s₁.heap) (hns:s₁.heap.Ns mainGlobals mg) (hb:s₁.heap.Ns builtinsNs mb) (hbb:∀ x:Str,x ≠ "__name__" -> mb x=bootBuiltins x) (hlim:s₁.heap.NoLimit) (hg:s₁.gens=#[]) (hbm:BMn s₁.heap mg) (hT:s₁.heap.get? T=some (tabObj #[])) (hKT:K.lookup T=none) (hP:rE K mg T)
  (ha:s₁.heap.get? a=some { cls:=.type "list", data:=.seq vs.toArray }) (hi:IntsAre vs ns) (hl:ns.length<=63) (hbg:∃ m,m<=1048576/\∀ n∈ns,n.natAbs<2^m) (hr:Room k callerA)
  (F:∀ base:Je,K.In base->base.Ns mainGlobals mg->BMn base mg->FnOk P w K mg base CX k fa fd [x] (zRA K mg)) (hbind:∀(s:Jb)(u:Ja),BindsTo s fd ⟨[u],[]⟩ [(x,u)])
  (hCX:∀ H e s',CX [] H s₁ (fun _ _ _=>False) e s'->False):
  codeAny (model P w) callerA (.call (.ref fa) ⟨[.ref a],[]⟩) (fun r s'=>r=.ok (.ret (.bool true))/\OldK s₁.heap s'.heap/\s'.os=s₁.os/\AllBare s'.gens) s₁:=by
 have rv:=zCr hi;have lenV:=hi.length;have haT:a≠T:=fun z=>by rw[z,hT] at ha;cases ha
 have core:∀ Bi:Hp,zTp Bi->SqL K Bi a (ns.map V.int)->HOk P w Bi s₁.heap->(∀ b,Bi b≠none->b=a)->(Bi a≠none->K.lookup a=none)->
   codeAny (model P w) callerA (.call (.ref fa) ⟨[.ref a],[]⟩) (fun r s'=>r=.ok (.ret (.bool true))/\OldK s₁.heap s'.heap/\s'.os=s₁.os/\AllBare s'.gens) s₁:=by
  intro Bi hO hS hokB hA hK
  have hBT:Bi T=none:=by
   cases q:Bi T with
   | none=>rfl
   | some u=>exact absurd (hA T (by rw[q];simp)).symm haT
  generalize hHdef:upd Bi T (.tbl #[])=H;have HT:H T=some (.tbl #[]):=by rw[<-hHdef,aY]
  have Hne:∀ {b},b≠T->H b=Bi b:=fun z=>by rw[<-hHdef,bB z]
  have sm:Same Bi H:=fun b o e=>by rw[Hne (bC e hBT)];exact e
  have hok:HOk P w H s₁.heap:=fun b u e=>by
   by_cases hb:b=T
   ·subst hb;rw[HT] at e;cases e;exact hT
   ·rw[Hne hb] at e
    exact(hokB b u e).stay (fun c v _ q=>q) (fun c q=>sm _ _ q) fun c xs q=>sm _ _ q
  have only:∀ {b:Jc} {o:Obj},s₁.heap.get? b=some o->(∀ xs n,o.data≠.seq xs n)->(∀ vs,o.data≠.fields vs)->H b=none:=fun {b o} e d1 d2=>by
   by_cases hb:b=T
   ·subst hb;rw[hT] at e;cases e;exact absurd rfl (d2 #[])
   ·rw[Hne hb]
    cases q:Bi b with
    | none=>rfl
    | some u=>
     have e':b=a:=hA b (by rw[q];simp)
     subst e';rw[ha] at e;cases e
     exact absurd rfl (d1 _ _)
  have base_of:∀ {b:Jc} {o:Obj},s₁.heap.get? b=some o->H b=none->(zKy s₁.heap H).get? b=some o:=fun e n=>zKG e n
  have nsK:∀ {b:Jc} {m:Str->Option Ja},s₁.heap.Ns b m->(zKy s₁.heap H).Ns b m:=fun {b m} ⟨o,es,ep,e,d,r⟩=>⟨o,es,ep,base_of e (only e (fun xs n z=>by rw[d] at z;cases z) (fun vs z=>by rw[d] at z;cases z)),d,r⟩
  have hKb:K.In (zKy s₁.heap H):=fun b o e=>base_of (KX b o e) (by
   by_cases hb:b=T
   ·subst hb;rw[hKT] at e;cases e
   ·rw[Hne hb]
    cases q:Bi b with
    | none=>rfl
    | some u=>
     have e':b=a:=hA b (by rw[q];simp)
     subst e'
     rw[hK (by rw[q];simp)] at e;cases e)
  have hBb:BMn (zKy s₁.heap H) mg:=by
   obtain⟨bm,ob,b1,b2,b3,b4,b5,b6⟩:=hbm;exact⟨bm,ob,b1,b2,base_of b3 (only b3 (fun xs n z=>by rw[b6] at z;cases z) (fun vs z=>by rw[b6] at z;cases z)),b4,b5,b6⟩
  have hM:Mod K mg (zKy s₁.heap H):=⟨hKb,nsK hns,⟨mb,nsK hb,hbb⟩,let ⟨mc,h1,h2⟩:=hlim;⟨mc,nsK h1,h2⟩⟩;have e0:Env0 P w K mg (zKy s₁.heap H) callerA [] s₁ H:=⟨rfl,hM,fun b o e=>zOs e,Wh (zJp _ _),trivial,fun b hb=>absurd (show b∈([]:List Jc) from hb) (by simp),hok,.of_eq hg⟩
  have htb:TB K mg Bi H:=fun T' h'=>by
   have e':=zLD KX hP h';subst e';exact⟨⟨#[],HT,trivial,fun pos cv z=>by cases z⟩,hBT⟩
  refine codeAny_mono ((F _ hKb (nsK hns) hBb).run callerA [] s₁ H ⟨[.ref a],[]⟩ [.ref a] [.ref a] (fun v _=>v=.bl true) (fun _ _ _=>False) hr e0 (hbind s₁ (.ref a)) (.cons rfl .nil) ⟨a,ns,Bi,rfl,htb,sm,hS,hl,hbg,fun _=>rfl⟩) fun r s' h=>?_
  cases r with
  | error e=>exact(hCX H e s' h).elim
  | ok fl=>
   cases fl with
   | next=>exact False.elim h
   | brk=>exact False.elim h
   | cont=>exact False.elim h
   | ret u=>
    obtain⟨v,H',os,bare,un,hok',r',q⟩:=h;have q':v=.bl true:=q;subst q';obtain rfl:u=Value.bool true:=r';refine⟨rfl,⟨fun b o e=>?_,fun b o e=>un.there b o e (by simp)⟩,os,bare⟩
    by_cases hbT:b=T
    ·subst hbT
     obtain⟨more,z⟩:=un.tbls b _ HT;have z2:s'.heap.get? b=some { cls:=.none,data:=.fields (#[]++more) }:=hok' b _ z;rw[hT] at e;cases e
     obtain⟨f,oc,od,fd',osl,c,a1,a2,a3,a4⟩:=hP;obtain⟨o,vs,_,_,_,_,_,_,_,e1,e2,e3,e4,_⟩:=a4 _ KX;exact .inr (.inl ⟨⟨c,o,vs,e1,e2,e3,e4⟩,rfl,#[],more,rfl,z2⟩)
    ·refine .inl ?_
     cases q:H b with
     | none=>exact un.keep b o e q (by intro z;exact absurd (show b∈([]:List Jc) from z) (by simp)) (by simp)
     | some u=>
      rw[Hne hbT] at q;rcases hO b with z | ⟨ob,xs,z⟩
      ·rw[q] at z;cases z
      ·have z2:=un.frzs b ob _ (by rw[Hne hbT];exact z)
       obtain⟨e1,_⟩:=hokB b _ z;obtain⟨e2,_⟩:=hok' b _ z2;rw[e] at e1;cases e1
       exact e2
 cases hk:K.lookup a with
 | some o=>
  have e:=KX a o hk;rw[ha] at e;cases e;refine core (fun _=>none) (fun _=>.inl rfl) (.inr ⟨_,vs.toArray,_,hk,rfl,rfl,rfl,by rw[Qk,lenV,Jy];omega,by simpa using rv⟩) (fun b u z=>by have z':(none:Option HO)=some u:=z;cases z') (fun b z=>absurd rfl z) fun z=>absurd rfl z
 | none=>
  refine core (fun b=>if b=a then some (.frz { cls:=.type "list", data:=.seq vs.toArray } (.lst (ns.map V.int))) else none) (fun b=>?_) (.inl (.inr ⟨{ cls:=.type "list", data:=.seq vs.toArray },Jk rfl⟩)) (fun b u z=>?_) (fun b z=>?_) fun _=>hk
  ·by_cases hb:b=a
   ·exact .inr ⟨_,_,Jk hb⟩
   ·exact .inl (Jl hb)
  ·by_cases hb:b=a
   ·have z':=(Jk hb).symm.trans z
    cases z'
    subst hb;exact⟨ha,by rw[Qg,Jy];omega,vs,_,rv,ha⟩
   ·have z':=(Jl hb).symm.trans z
    cases z'
  ·by_cases hb:b=a
   ·exact hb
   ·exact absurd (Jl hb) z
theorem zMu:∀ {ns:List Int} {n:Int},n∈ns->(WData.int n).weight<=WData.weightAll (ns.map WData.int)
 | a::r,n,h=>by
  rw[Qu,WData.weightAll];rcases Qd.mp h with rfl | h
  ·omega
  ·have:=zMu h
   omega
theorem zNM{ns:List Int}(h:WData.layableAll [WData.list (ns.map WData.int)]=true):(∃ m,m<=1048576/\∀ n∈ns,n.natAbs<2^m):=by
 refine⟨1048576,Qh _,fun n hn=>?_⟩
 have w:WData.weightAll (ns.map WData.int)<=2^20:=by
  unfold WData.layableAll WData.layable at h;simp only[List.all_cons,List.all_nil,Bool.and_true,V4,J9] at h;have:=h.2
  rw[WData.weight] at this;exact this
 have a:=zMu hn;rw[WData.weight] at a;by_cases z:n=0
 ·subst z
  exact Nat.two_pow_pos _
 ·rw[Jl (by simpa using z)] at a
  exact Qn Nat.lt_log2_self (Vo (by decide) (by omega))
open PySem.Calls in
theorem zCW{l:OpenLaw}{n:Nat}{q:Jf}{loose:List Str}{XP:(Str->Option Ja)->Je->Prop}{YP:Jg->Je->Prop}{d:DefRec}
  (hn:l.most=some n) (hdf:d.params.defaults=[])
  (call:∀(w:Jg)(s₀ s₁:Jb)(mg mb:Str->Option Ja)(fa:Jc)(o:Obj)(pm cd doc:Ja)(a:Jc)(vs:List Ja)(ns:List Int),(∃ m,m<=1048576/\∀ n∈ns,n.natAbs<2^m)->
   Ground q loose [] XP w s₀ mg mb s₁.heap->YP w s₁.heap->
   s₁.heap.get? fa=some o->o.data=.func (docDef d.name d.params d.body d.scope pm cd doc)->s₁.heap.CodeRec cd d.name->mg d.name=some (.ref fa)->
   s₁.heap.get? a=some { cls:=.type "list", data:=.seq vs.toArray }->IntsAre vs ns->ns.length<=n->s₁.gens=#[]->
   codeAny (model l.prog w) callerA (.call (.ref fa) ⟨[.ref a],[]⟩) (fun r s'=>r=.ok (.ret (.bool true))/\OldK s₁.heap s'.heap/\s'.os=s₁.os/\AllBare s'.gens) s₁):
  WalkO q loose XP YP l.row.toRowW d [] (fun f vs=>PySem.call f vs):=by
 intro w s₀ s₁ mg mb G Y fa o pm cd doc dV kV ho hd hcd hD hmg hg args vals as hpre hlay hrd hwl hlo;obtain rfl:dV=.none:=Dflts.none hD hdf;obtain rfl:kV=.none:=Dflts.noKw hD;obtain⟨a,vs,ns,rfl,rfl,hobj,hints,hlen⟩:=Att.script_of hn hpre hwl;refine enter_call (codeAny_mono (call w s₀ s₁ mg mb fa o pm cd doc a vs ns (zNM hlay) G Y ho (fd_plain hd) hcd hmg hobj hints hlen hg) fun r s' hq=>?_)
 obtain⟨rfl,h2,h3,h4⟩:=hq;exact⟨.inl ⟨.bool true,.bool true,[],rfl,fun _=>rfl,.bool true,Att.post_true l _,fun _=>⟨List.Pairwise.nil,fun _ hm=>(nomatch hm)⟩⟩,h2,h3,h4⟩
theorem zSr{l:PySem.W.OpenLaw}{k:Nat}{q:Jf}{loose:List Str}{XP:(Str->Option Ja)->Je->Prop}{YP:Jg->Je->Prop}{d:DefRec}{K:Params->PySem.W.Frag}{T:Jc}(hn:l.most=some 63)(hdf:d.params.defaults=[])(hr:Room k callerA)
  (hY:∀(w:Jg)(h:Je),YP w h->(K w.params).In h) (hT:∀(w:Jg)(h:Je),YP w h->h.get? T=some (tabObj #[]))
  (F:∀(w:Jg)(mg:Str->Option Ja)(fa:Jc)(h:Je),(K w.params).In h->h.Ns mainGlobals mg->mg d.name=some (.ref fa)->
   (K w.params).lookup T=none/\rE (K w.params) mg T/\∃ fd:FuncData,(∀(s:Jb)(u:Ja),BindsTo s fd ⟨[u],[]⟩ [("script", u)])/\∀ base:Je,(K w.params).In base->base.Ns mainGlobals mg->BMn base mg->FnOk l.prog w (K w.params) mg base (CX1 l.prog w) k fa fd ["script"] (zRA (K w.params) mg)):
  PySem.W.WalkO q loose XP YP l.row.toRowW d [] (fun f vs=>PySem.call f vs):=by
 refine zCW hn hdf fun w s₀ s₁ mg mb fa o pm cd doc a vs ns hbg G Y ho hd hcd hmg hobj hints hlen hg=>?_
 have KX:=hY w _ Y;obtain⟨h1,h2,fd,hb,hF⟩:=F w mg fa _ KX G.T.g hmg
 exact zIJ KX G.T.g G.T.b G.T.builtins G.T.nolimit hg G.T.bmain (hT w _ Y) h1 h2 hobj hints hlen hbg hr hF hb fun _ _ _ z=>by
  obtain⟨_,_,_,_,_,z⟩:=z;exact z
section
variable{X:Cx}{G:Gx}{Mi:List (Jc×Obj)}{σ:St}{H Hi:Hp}{s:Jb}{ρ:Rho}{i k:Nat}{st:Ji}{sa:Sv}
end
section
variable{X:Cx}{G:Gx}{e a:Expr}{f g:Ev}{pos:Pos}
end
section
variable{X:Cx}{G:Gx}{st:Ji}{rest:List Ji}{sa sb:Sv}{u:TS}
end
section
variable{P:Jf}{w:Jg}{K:Fg_}{mg:Str->Option Ja}{base:Je}{N ps:List Str}{x:Str}{st:Ji}{f:Jc}{fd:FuncData}{k i0 i1 i2:Nat}{sv:Sv}
end
section
variable{X:Cx}{G:Gx}{e:Expr}{es:List Expr}{pos p:Pos}{fs:Fv}{k j0 j1 j2:Nat}{kf:List D->Res Tri}{x:Str}{ps:List Str}{tg:Expr}
end
def Itq(K:PySem.W.Frag)(a:Jc)(n:Nat):It:=
 ⟨fun i H=>∃ xs x,SqL K H a xs/\xs.length=n/\xs.reverse[i]?=some x,fun i H x H'=>H'=H/\∀ xs,SqL K H a xs->xs.reverse[i]?=some x,fun i H=>∃ xs,SqL K H a xs/\n<=i⟩
def rix(n i:Nat):Int:=(n:Int)-1-((min i n:Nat):Int)
theorem zJG{P:Jf}{w:Jg}{K:Fg_}{tg:Expr}(a it:Jc)(n:Nat):Turn P w K tg (Itq K a n) [it] it (fun i h=>h.IsRevIter it a (rix n i)) where
 mem:=by simp
 obj:=fun i h st b hb=>by
  have e:b=it:=by simpa using hb
  subst e;obtain⟨o,e,c,d⟩:=st;exact⟨o,e,fun v z=>by rw[d] at z;cases z⟩
 keep:=fun i h h' st k=>st.at fun o e=>k it (by simp) o e
 item:=by
  intro X hP hw hK hc i Mi s σ H E I hf st hg;subst hP hw hK;obtain⟨xs,x,hq,hn',hx⟩:=hg;obtain⟨its,rv,p,hz⟩:=I.list hq
  have hi:i<xs.length:=by
   have:=(Qx.mp hx).1
   rwa [Vx] at this
  have hx':xs[n-1-i]?=some x:=by
   rw[Wj hi,hn'] at hx;exact hx
  obtain⟨u,hu,ru⟩:=rv.get hx';obtain⟨f0,f1,f2,f3,f4,f5⟩:=hf it (by simp)
  have st0:s.heap.IsRevIter it a ((n-1-i:Nat):Int):=by
   have e:rix n i=((n-1-i:Nat):Int):=by unfold rix;rw[Yg (by omega)];omega
   rw[<-e];exact st
  refine wpAny_pyNext_rev_item (items:=its.toArray) st0 p.isList (x:=u) (by simpa using hu) fun h' st' sb=>?_
  have I1:Inv X Mi σ H { s with heap:=h' }:=I.turned (t':=s.toks) (fun b o hb e=>(sb.2 b hb).trans e) f0 f1 f3 f4 f5
  obtain⟨o,e,c,d⟩:=id st'
  have st2:h'.IsRevIter it a (rix n (i+1)):=by
   have e:rix n (i+1)=((n-1-i:Nat):Int)-1:=by unfold rix;rw[Yg (by omega)];omega
   rw[e];exact st'
  exact⟨u,rfl,zKN (s:={ s with heap:=h' }) e c d (by decide) ⟨x,H,I1,ru,⟨rfl,fun ys hy=>by rw[I.list_inj hy hq];exact hx⟩,st2,fun b hb=>(hf b hb).1⟩⟩
 done:=by
  intro X hP hw hK hc i Mi s σ H E I hf st hg;subst hP hw hK;obtain⟨xs,hq,hx⟩:=hg;obtain⟨f0,f1,f2,f3,f4,f5⟩:=hf it (by simp)
  have st0:s.heap.IsRevIter it a (-1):=by
   have e:rix n i=-1:=by unfold rix;rw[Y7 hx];omega
   rw[<-e];exact st
  exact wpAny_pyNext_rev_end (I.ok.hd hc) st0 fun h' eb=>⟨rfl,I.turned (t':=s.toks) (fun b o hb e=>eb b o hb e) f0 f1 f3 f4 f5⟩
 self:=fun _ _ _ _ _ st h=>Me st h
section
variable{X:Cx}{G:Gx}{fs:Fv}{f:Ev}
def iRw(K:PySem.W.Frag)(ta:TA):TI:=fun σ H R=>ta σ H fun vs H1=>∃ a xs,vs=[.ref a]/\SqL K H1 a xs/\R (Itq K a xs.length) H1
theorem zNJ{tg a:Expr}{ta:TA}{p pos:Pos}(hg:Gl X "reversed")(hm:X.mg "reversed" = none)(ha:PA X [a] ta)(hs:starEach [a] X.env=[(false,eval a X.env)]:=by rfl):PI X tg (.Call (.Name "reversed" p) [a] [] pos) (iRw X.K ta):=by
 intro Mi s σ H R I h;refine Call_ (rL I hg hm zLh (X8 (thn (ha pos Mi s σ H _ I h) fun us s1 ⟨vs,H1,I1,r1,q1⟩=>?_) hs rfl))
 obtain⟨t,xs,rfl,hq,q⟩:=q1
 cases r1 with
 | cons r rr=>
  cases rr;cases r;obtain⟨its,rv,pt,hz⟩:=I1.list hq;have hl:=rv.length;refine call_reversed_list (items:=its.toArray) pt.isList ?_
  have hR:(s1.heap.push (revObj t ((its.toArray.size:Int)-1))).IsRevIter s1.heap.objs.size t (rix xs.length 0):=
   ⟨_,Heap.get?_push_size _ rfl,rfl,by unfold rix;rw[hl,Qk];simp[revObj]⟩
  refine Me (s:={ s1 with heap:=_ }) hR ?_
  refine⟨s1.heap.objs.size,[s1.heap.objs.size],_,_,H1,rfl,I1.kept (t':=s1.toks) fun b o e=>Heap.get?_push_of_some _ e,zJG t _ xs.length,hR,fun b hb=>?_,q⟩
  have e:b=s1.heap.objs.size:=by simpa using hb
  subst e;exact I1.fpOk (Qh _) (I1.hok.fresh (Qh _))
theorem zHg{K:Fg_}{Hi:Hp}{a:Jc}{xs:List V}{ds:List D}(h1:SqL K Hi a xs)(h2:IsDs K Hi xs ds):xJ K Hi (Itq K a xs.length) ds.reverse:=fun Hi1 H1 s1 s2 i=>by
 have h3:=dD (s1.trans s2) h1;have hl:=h2.length;refine⟨fun hl'=>⟨xs,h3,by rw[Vx] at hl';omega⟩,fun d hd=>?_⟩
 have hi:i<ds.length:=by
  have:=(Qx.mp hd).1
  rwa [Vx] at this
 rw[Wj hi] at hd;obtain⟨v,hv,r⟩:=h2.at hd;have hv':xs.reverse[i]?=some v:=by rw[Wj (by omega),hl];exact hv
 refine⟨⟨xs,v,h3,rfl,hv'⟩,fun x H2 y=>?_⟩
 obtain⟨e,y⟩:=y;subst e;have:=y xs h3
 rw[hv'] at this;cases this;exact⟨Hi1,Ext.refl s2,r.mono s1⟩
theorem zPL{tg a:Expr}{p pos:Pos}(hg:Gl X "reversed")(hm:X.mg "reversed" = none)(ha:PEd X G a f)(hst:starEach [a] X.env=[(false,eval a X.env)]:=by rfl):PId X G tg (.Call (.Name "reversed" p) [a] [] pos) (zLj f):=PI.wk (zNJ hg hm (gA ha nT (by rw[hst];rfl)) hst) fun σ H Q q=>by
 obtain⟨ρ,Hi,R,ou⟩:=q;refine zEi R ou fun v d Hi1 H1 e1 R1 r1 o1=>?_
 cases d with
 | lst ds=>
  obtain⟨a,xs,rfl,h1,h2⟩:=r1.lstI;exact⟨a,xs,rfl,dD R1.s h1,o1.here R1.s _ (zHg h1 h2)⟩
 | _=>exact o1.elim
end
section
variable{prog:Jf}{w:Jg}{A:Jh}{E:Ja->Jb->Prop}{s:Jb}
end
section
variable{X:Cx}{G:Gx}{f:Ev}
end
section
variable{X:Cx}{G:Gx}{it:Fv}{t:Tv}
end
section
variable{X:Cx}{G:Gx}
theorem bI{i:Int}{j pos}:PEd X G (.Constant (.int i) j pos) (eC (.int i)):=gM zJM fun _=>.int _
theorem aJ(i:Nat){x:Str}{pos:Pos}(hN:X.N[i]?=some x:=by rfl)(hv:Vis X.env.scope x:=by first | exact Or.inl rfl | exact Or.inr (Or.inl rfl) | exact Or.inr (Or.inr rfl))(hd:(x==("__debug__" : Str))=false:=by decide)
  (hcd:(x==("__classdict__" : Str))=false:=by decide):PEd X G (.Name x pos) (aG i):=zQL i (pv i hN hv hd hcd)
theorem eG(n:Nat){x:Str}{pos p2:Pos}{i:Int}{j p1}(hN:X.N[n]?=some x:=by rfl)(hv:Vis X.env.scope x:=by first | exact Or.inl rfl | exact Or.inr (Or.inl rfl) | exact Or.inr (Or.inr rfl))(hd:(x==("__debug__" : Str))=false:=by decide)
  (hcd:(x==("__classdict__" : Str))=false:=by decide):PEd X G (.Subscript (.Name x pos) (.Constant (.int i) j p1) p2) (eOp oIx (aG n) (eC (.int i))):=bO aO eZ (aJ n hN hv hd hcd) bI (fun _ _=>rfl)
end
section
variable{X:Cx}{G:Gx}{it:Fv}{t:Tv}
end
end L3
namespace PySem.W.Fast
def tw7638790094818314912:=0
def tw6949383381912107463:=0
def tw14367779244453688245:=0
def tw2581102980857966518:=0
def tw8845403753333596980:=0
def tw11265661830036811234:=0
def tw17238194756860774911:=0
def tw11749523602237693970:=0
def tw3728398739124951651:=0
def tw17210572005691002168:=0
def tw8888011111935749412:=0
def tw3166674662506515969:=0
def tw13828602422067344442:=0
def tw13364043490416899831:=0
def tw3641561435603148597:=0
def tw8313075424935971029:=0
def tw2581762729269296727:=0
def tw2642469381290708448:=0
def tw13152304675583842029:=0
def tw12798098349587045582:=0
def tw12910560149817407517:=0
def tw16382734103426580116:=0
def tw14748675313110112934:=0
def tw12189035687602724637:=0
def tw3082110040215895825:=0
def tw6459972679583259706:=0
def tw5552637435615060922:=0
def tw9465245082727097697:=0
def tw9056713927229612895:=0
def tw7517559212361270629:=0
def tw14511822255651747678:=0
def tw6999356144789568946:=0
def tw13299300409322187130:=0
def tw12081722132855935651:=0
def tw9734866088459619065:=0
def tw8899558626110787862:=0
def tw11622015194239582146:=0
def tw11092413622724891621:=0
def tw8007194152200353859:=0
def tw6976223109108116303:=0
def tw13885662972583847747:=0
def tw13737744166679333245:=0
def tw4073809164320654536:=0
def tw12644209870544068191:=0
def tw10417158348188918429:=0
def tw11615679004364112367:=0
def tw10913187563189408935:=0
def tw11712266788910607304:=0
def tw3515913787906370266:=0
def tw7062428472240115425:=0
def tw3844453816623216606:=0
def tw12877885243470953852:=0
def tw13789812309758400803:=0
def tw12798270943209013930:=0
def tw6463373075713808805:=0
def tw706318019680790415:=0
def tw10838566915965093776:=0
def tw1968710145047254649:=0
def tw1849587672663668909:=0
def tw12429295225535346596:=0
def tw6969050959938032053:=0
def tw3473288702547395396:=0
def tw6315935111454064595:=0
def tw15711989769777343662:=0
def tw5961876699172483980:=0
def tw7002842068390557069:=0
def tw1335475724693767661:=0
def tw3036215285287941183:=0
def tw6327695621795683673:=0
def tw407052971432280198:=0
def tw2867605490715158095:=0
def tw5901453525951814150:=0
def tw3782597611723860834:=0
def tw17139320663265696382:=0
def tw5577060635290234076:=0
def tw15247547829876515120:=0
def tw17614349666886680811:=0
def tw7760717962092042209:=0
def tw2292881542268980446:=0
def tw10225951109930753362:=0
def tw17265361587536550837:=0
def tw12366451777387737830:=0
def tw14524246527148769904:=0
def tw16534281802958789448:=0
def tw15857636357770892927:=0
def tw9567689428096713237:=0
def tw9508982713842701460:=0
def tw5944761614811008193:=0
def tw196565753881003417:=0
def tw8735427865935247150:=0
def tw1145193191220774847:=0
def tw9639200961587832366:=0
def tw9986186277506681818:=0
def tw3990566394585300137:=0
def tw18363990118642799003:=0
def tw8204409331531120806:=0
def tw13577682446860599472:=0
def tw17174236342104848123:=0
def tw11069944967440728633:=0
def tw13831585019627701662:=0
def tw3188920561072587460:=0
def tw240898442143017798:=0
def tw1223146008109122436:=0
def tw5563230851135545866:=0
def tw5090418186544484444:=0
def tw13658950201047849696:=0
def tw14415847848820413804:=0
def tw9826632655041912739:=0
def tw7586663053502515372:=0
def tw13774335670277126929:=0
def tw947217891754579038:=0
def tw17150016233780738717:=0
def tw6348122126619696872:=0
def tw10356050991731755382:=0
def tw13487039578915230721:=0
def tw3887722245156867280:=0
def tw17747056899603593123:=0
def tw8488815330072136759:=0
def tw9279622695771257324:=0
def tw14793167040519181969:=0
def tw3837717660084138466:=0
def tw15268369956770899381:=0
def tw1238621757597497012:=0
def tw1502615938624366336:=0
def tw6397129058237013995:=0
def tw1041285508651798485:=0
def tw4699543768498670667:=0
def tw9104341862434302705:=0
def tw5676995082464185032:=0
def tw11159068775311200547:=0
def tw10830366616245285620:=0
def tw5822398446891792235:=0
def tw14234592927058772518:=0
def tw2888512465666425162:=0
def tw13875317040388047585:=0
def tw8763370894705156717:=0
def tw17096807252514220289:=0
def tw10076090939990013224:=0
def tw7891799648297861503:=0
def tw12535145690137132774:=0
def tw6459732586371136685:=0
def tw11691229381902611064:=0
def tw17473666772570948357:=0
def tw11787815573077319529:=0
def tw13176847163977894482:=0
def tw4584042566874811258:=0
def tw6248880662102306991:=0
def tw7780647047411813359:=0
def tw5585737050409000947:=0
def tw7157922208638812251:=0
def tw14156637458590637056:=0
def tw1233681905025585427:=0
def tw17641460886884983222:=0
def tw8916756219150697879:=0
def tw4869621687384920654:=0
def tw12705993856395711378:=0
def tw11329875874871233743:=0
def tw14894787889039077561:=0
def tw14866822134134551115:=0
def tw8687015012602940744:=0
def tw12394444841502733077:=0
def tw2712624332631286354:=0
def tw16228699955407722374:=0
def tw7495409070660209860:=0
def tw3776251042086872883:=0
def tw4036858333823433926:=0
def tw6805530316227770609:=0
def tw7087155532644372071:=0
def tw9859557700637334056:=0
def tw17453385088502531239:=0
def tw12630464190161522431:=0
def tw12855090532525821880:=0
def tw4069760023603361564:=0
def tw7449943843037442314:=0
def tw1302645381075940042:=0
def tw6293068149185029187:=0
def tw573985550402641872:=0
def tw15014613562629317787:=0
def tw17318681331571557721:=0
def tw1414994806662877080:=0
def tw5429601062340326705:=0
def tw3100208737412442208:=0
def tw16255552175771792250:=0
def tw15477160407786376156:=0
def tw13164056123118246495:=0
def tw4120367404229991077:=0
def tw1650584495750646332:=0
def tw10238628766700986571:=0
def tw10619348869758998583:=0
def tw2879778268761268362:=0
def tw12657509826807297412:=0
def tw474268601772703613:=0
def tw13633729735984967044:=0
def tw813354379836803028:=0
def tw3974496621342947582:=0
def tw17938182199155690586:=0
def tw15612903516594547404:=0
def tw3759809824583524573:=0
def tw13403933489051312346:=0
def tw2000881760598193175:=0
end PySem.W.Fast
namespace Lw
open L3 PySem
def tbT:List Str:=["NoBoat","Outside"]
def zFw:List (Str×List Str):=[("NoBoat", ["NoBoat","CatchError","ValueError","Exception","BaseException","object"]),("Outside", ["Outside","CatchError","ValueError","Exception","BaseException","object"])]
def fF:D:=(.tup [(.int 0),(.int 1)])
def aW:List (Str×Str):=[("row","back"),("back","row"),("even","lack"),("lack","even"),("part","part"),("half","half")]
def d_WEIGHTED:D:=(.tup [(.str "even"),(.str "lack")])
def d_HALF:D:=(.tup [(.int 1),(.int 2)])
def d_BOAT:D:=(.str "boat")
def d_ACROSS:D:=(.int 0)
def d_UP:D:=(.int 1)
abbrev qV:Sv:=(cT 1 (aG 2))
abbrev rQ:Sv:=(aZ (cT 0 (aG 1)) qV)
abbrev qS:Sv:=(aZ (cT 2 (eOp rV (aG 0) (aG 1))) rQ)
abbrev rW:Sv:=(eY (aG 0))
abbrev qR:Sv:=(aZ (fB (cU (eOp oNe (aG 1) (eC (.int 0)))) qS) rW)
abbrev qG:Sv:=(aZ (cT 1 (eB zMc (aD (aG 1) aNil))) qR)
def dU:Mir:=fn 2 3 (aZ (cT 0 (eB zMc (aD (aG 0) aNil))) qG)
def bM:Mir:=fn 1 1 (eY (rY (aD (aG 0) (aD (eC (.int 1)) aNil))))
def fU:Mir:=fn 2 2 (eY (eOp oLt (eOp oW (eOp oIx (aG 0) (eC (.int 0))) (eOp oIx (aG 1) (eC (.int 1)))) (eOp oW (eOp oIx (aG 1) (eC (.int 0))) (eOp oIx (aG 0) (eC (.int 1))))))
abbrev zK:Sv:=(cT 1 (eOp oW (aG 1) (eOp oIx (aG 2) (eC (.int 1)))))
abbrev zCn:Sv:=(cT 1 (eC (.int 1)))
abbrev wL:Sv:=(zAW (qT (aG 0)) (gName 2) zK)
def kC:List D->Res (List Int):=zBb zCn wL
def eQ:Mir:=fn 1 1 (sIf (cU (eUn (tJ aW) (aG 0))) (jJ "BadWay" (aD (eC (.str "no such way")) aNil)) sNext)
abbrev sI:Sv:=(sIf (cU (eOp oLt (aG 1) (eC (.int 0)))) (jJ "BadClaim" (aD (eC (.str "a claim is below nought")) aNil)) sNext)
abbrev tM:Sv:=(zAW (qT (aG 0)) (gName 1) sI)
def eK:Mir:=fn 1 2 (aZ (sIf (cU (eOp oEq (eB mP (aD (aG 0) aNil)) (eC (.int 0)))) (jJ "BadClaim" (aD (eC (.str "there is no claim")) aNil)) sNext) tM)
abbrev rD:Sv:=(sIf (zEQ (cU (eOp oLt (aG 4) (eC (.int 1)))) (cU (eOp oGt (aG 4) (eOp zKg (eC (.int 10)) (eC (.int 6)))))) (jJ "BadWeights" (aD (eC (.str "a weight is not from 1 to 10 ** 6")) aNil)) sNext)
abbrev rR:Sv:=(zAW (qT (aG 1)) (gName 4) rD)
abbrev rS:Sv:=(aZ (sIf (cU (eOp oNe (eB mP (aD (aG 1) aNil)) (aG 3))) (jJ "BadWeights" (aD (eC (.str "more or fewer weights than are due")) aNil)) sNext) rR)
def bX:Mir:=fn 3 5 (aZ (cT 3 (eIf (cU (eOp oIn (aG 0) (eC d_WEIGHTED))) (aG 2) (eC (.int 0)))) rS)
def cI:Mir:=fn 1 1 (eY (eOp oEq (eOp oIx (aG 0) (eC (.int 0))) (eC d_BOAT)))
def jD:Mir:=fn 1 1 (eY (eOp oIx (aG 0) (eC (.int 0))))
def cZ:Mir:=fn 1 1 (eY (eOp oIx (aG 0) (eC (.int 1))))
def mC:Mir:=fn 1 1 (eY (eOp oIx (eOp oIx (aG 0) (eUn zAB (eC (.int 1)))) (eC d_ACROSS)))
def lS:Mir:=fn 1 1 (eY (eOp oIx (eOp oIx (aG 0) (eUn zAB (eC (.int 1)))) (eC d_UP)))
def oQ:Mir:=fn 1 1 (iD (jW (qT (aG 0)) jO (eOp oIx (aG 1) (eC d_ACROSS))))
abbrev wM:Sv:=(eY (eC (.int 0)))
def fZ:Mir:=fn 2 2 (aZ (sIf (cU (eOp oLt (aG 1) (eB mP (aD (aG 0) aNil)))) (eY (eOp oIx (aG 0) (aG 1))) sNext) wM)
abbrev zDq:Sv:=(cT 3 (aG 4))
abbrev zBV:Sv:=(aZ (cT 2 (aG 3)) zDq)
abbrev zDm:Sv:=(aZ (cT 4 (eOp rV (aG 2) (aG 3))) zBV)
abbrev zCP:Sv:=(eY (rY (aD (eOp oX (aG 0) (aG 2)) (aD (eOp oX (aG 1) (aG 2)) aNil))))
abbrev tO:Sv:=(aZ (sIf (cU (eOp oLt (aG 1) (eC (.int 0)))) (cT 2 (eOp zAL (eC (.int 0)) (aG 2))) sNext) zCP)
abbrev zDx:Sv:=(aZ (fB (cU (eOp oGt (aG 3) (eC (.int 0)))) zDm) tO)
abbrev zCv:Sv:=(aZ (cT 3 (eB zMc (aD (aG 1) aNil))) zDx)
def cN:Mir:=fn 2 5 (aZ (cT 2 (eB zMc (aD (aG 0) aNil))) zCv)
def dF:Mir:=fn 2 2 (eY (eOp oLt (eOp oW (eOp oIx (aG 0) (eC (.int 0))) (eOp oIx (aG 1) (eC (.int 1)))) (eOp oW (eOp oIx (aG 1) (eC (.int 0))) (eOp oIx (aG 0) (eC (.int 1))))))
def nO:Mir:=fn 2 2 (eY (eOp rV (eOp tZ (eOp tZ (eOp oW (aG 0) (eC (.int 48271))) (eOp oW (eC (.int 7919)) (aG 1))) (eC (.int 23))) (eC (.int 2147483647))))
abbrev zCS:Sv:=(cT 4 (eB zMD (aD (eF (jW (zDT (aD (eB mP (aD (aG 0) aNil)) aNil)) jO (eOp tZ (eC (.int 1)) (eOp rV (eOp oX (eOp rV (eOp zKg (eOp tZ (eOp tZ (aG 1) (eOp oW (eC (.int 40692)) (aG 6))) (eC (.int 1))) (eC (.int 2))) (eC (.int 998244353))) (eC (.int 7))) (aG 5))))) aNil)))
abbrev zCG:Sv:=(eY (rY (aD (aG 3) (aD (aG 4) (aD (eB zMD (aD (aG 0) aNil)) aNil)))))
abbrev zCc:Sv:=(aZ (sIf (cU (eOp oIn (aG 3) (rY (aD (eC (.str "even")) (aD (eC (.str "lack")) aNil))))) (aZ (cT 5 (eOp oIx (eF (kD (aD (eC (.int 5)) (aD (eOp zKg (eC (.int 10)) (eC (.int 6))) aNil)))) (eOp oX (eOp rV (eOp oX (aG 2) (eC (.int 3))) (eC (.int 3))) (eC (.int 2))))) zCS) sNext) zCG)
abbrev zBW:Sv:=(aZ (cT 4 (rY aNil)) zCc)
def eT:Mir:=fn 3 6 (aZ (cT 3 (eOp oIx (eF (kD (aD (eC (.str "row")) (aD (eC (.str "back")) (aD (eC (.str "even")) (aD (eC (.str "lack")) (aD (eC (.str "part")) (aD (eC (.str "half")) aNil)))))))) (eOp rV (eOp oX (aG 1) (eC (.int 7))) (eC (.int 6))))) zBW)
abbrev zKI:Sv:=(eY (rY (aD (eOp oX (aG 0) (aG 2)) (aD (eOp oX (aG 1) (aG 2)) aNil))))
abbrev zLF:Sv:=(aZ (sIf (cU (eOp oLt (aG 1) (eC (.int 0)))) (cT 2 (eUn zAB (aG 2))) sNext) zKI)
abbrev zKY:Sv:=(aZ (cT 2 (aN dU (aD (aG 0) (aD (aG 1) aNil)))) zLF)
def jM:Mir:=fn 2 3 (aZ (sIf (cU (eOp oEq (aG 1) (eC (.int 0)))) (jJ "NoFraction" (aD (eC (.str "the bottom is nought")) aNil)) sNext) zKY)
def lN:Mir:=fn 2 2 (eY (eIf (cU (aN fU (aD (aG 0) (aD (aG 1) aNil)))) (aG 0) (aG 1)))
def eN:Mir:=fn 2 2 (eY (eOr (aN fU (aD (aG 0) (aD (eC fF) aNil))) (aN fU (aD (aG 1) (aD (aG 0) aNil)))))
abbrev zGL:Sv:=(sM (aN bX (aD (aG 0) (aD (aG 1) (aD (eB mP (aD (aG 2) aNil)) aNil)))))
abbrev zHj:Sv:=(aZ (sM (aN eK (aD (aG 2) aNil))) zGL)
def lW:Mir:=fn 3 3 (aZ (sM (aN eQ (aD (aG 0) aNil))) zHj)
abbrev uD:Sv:=(eY (eUn (wZ aW) (aG 0)))
def dY:Mir:=fn 1 1 (aZ (sM (aN eQ (aD (aG 0) aNil))) uD)
def dA:Mir:=fn 1 1 (eY (eIf (cU (aN cI (aD (aG 0) aNil))) (rY aNil) (eOp oIx (aG 0) (eC (.int 2)))))
abbrev xD:Sv:=(sIf (cU (aN fU (aD (eOp oIx (aG 3) (eC d_UP)) (aD (eOp oIx (aG 2) (eC d_UP)) aNil)))) (jJ "BadLine" (aD (eC (.str "a y is less than the one ahead")) aNil)) sNext)
abbrev xW:Sv:=(aZ (sIf (wT (cU (aN fU (aD (eOp oIx (aG 2) (eC d_ACROSS)) (aD (eOp oIx (aG 3) (eC d_ACROSS)) aNil))))) (jJ "BadLine" (aD (eC (.str "an x is not greater than the one ahead")) aNil)) sNext) xD)
abbrev xM:Sv:=(aZ (cT 3 (eOp oIx (aG 0) (aG 1))) xW)
abbrev xU:Sv:=(aZ (cT 2 (eOp oIx (aG 0) (eOp zAL (aG 1) (eC (.int 1))))) xM)
abbrev xG:Sv:=(zAW (zIw (aD (eC (.int 1)) (aD (eB mP (aD (aG 0) aNil)) aNil))) (gName 1) xU)
abbrev xN:Sv:=(aZ (sIf (cU (eOp oNe (eOp oIx (aG 0) (eC (.int 0))) (rY (aD (eC fF) (aD (eC fF) aNil))))) (jJ "BadLine" (aD (eC (.str "the first point is not nought and nought")) aNil)) sNext) xG)
def iF:Mir:=fn 1 4 (aZ (sIf (cU (eOp oEq (eB mP (aD (aG 0) aNil)) (eC (.int 0)))) (jJ "BadLine" (aD (eC (.str "a line has a point")) aNil)) sNext) xN)
abbrev rT:Sv:=(sIf (cU (aN fU (aD (eOp oIx (eOp oIx (aG 0) (aG 5)) (aG 1)) (aD (aG 2) aNil)))) (cT 3 (eOp tZ (aG 5) (eC (.int 1)))) (cT 4 (aG 5)))
abbrev qW:Sv:=(aZ (cT 5 (eOp oX (eOp tZ (aG 3) (aG 4)) (eC (.int 2)))) rT)
abbrev kE:Sv:=(eY (aG 3))
abbrev qO:Sv:=(aZ (fB (cU (eOp oLt (aG 3) (aG 4))) qW) kE)
abbrev qF:Sv:=(aZ (cT 4 (eOp zAL (eB mP (aD (aG 0) aNil)) (eC (.int 1)))) qO)
def bW:Mir:=fn 3 6 (aZ (cT 3 (eC (.int 0))) qF)
abbrev zGJ:Sv:=(zKu 3 zAS (eC (.int 1)))
abbrev zHa:Sv:=(aZ (zHm 2 (eOp oIx (aG 1) (aG 3))) zGJ)
abbrev zGy:Sv:=(zHm 2 (aG 4))
abbrev sW:Sv:=(aZ (sIf (zBO (cU (eOp oLt (aG 3) (eB mP (aD (aG 1) aNil)))) (cU (eOp oEq (eOp oIx (aG 1) (aG 3)) (aG 4)))) (zKu 3 zAS (eC (.int 1))) sNext) zGy)
abbrev zHf:Sv:=(aZ (fB (zBO (cU (eOp oLt (aG 3) (eB mP (aD (aG 1) aNil)))) (cU (aN fU (aD (eOp oIx (aG 1) (aG 3)) (aD (aG 4) aNil))))) zHa) sW)
abbrev zEn:Sv:=(gB 2)
abbrev zDI:Sv:=(aZ (zKV 2 (fSl (aG 1) (oS (aG 3)) oN)) zEn)
abbrev zGH:Sv:=(aZ (zAW (qT (aG 0)) (gName 4) zHf) zDI)
abbrev zGV:Sv:=(aZ (cT 3 (eC (.int 0))) zGH)
def rM:Mir:=fn 2 5 (aZ (zAM 2 (kD aNil)) zGV)
abbrev yA:Sv:=(zHm 2 (aN bM (aD (aG 1) aNil)))
abbrev oZ:Sv:=(aZ (zKu 1 zAS (aG 3)) yA)
abbrev yY:Sv:=(gB 2)
abbrev yQ:Sv:=(aZ (zAW (qT (aG 0)) (gName 3) oZ) yY)
abbrev xY:Sv:=(aZ (zAM 2 (kD (aD (eC fF) aNil))) yQ)
def fV:Mir:=fn 1 4 (aZ (cT 1 (eC (.int 0))) xY)
abbrev jU:Sv:=(sIf (tFrzB (cU (aN fU (aD (eOp oIx (aG 1) (eUn zAB (eC (.int 1)))) (aD (aG 2) aNil))))) (zHm 1 (aG 2)) sNext)
abbrev pO:Sv:=(gB 1)
abbrev pL:Sv:=(aZ (zAW (qT (aG 0)) (gName 2) jU) pO)
def dG:Mir:=fn 1 3 (aZ (zAM 1 (fSl (aG 0) oN (oS (eC (.int 1))))) pL)
def fQ:Mir:=fn 2 2 (eY (aN cN (aD (eOp tZ (eOp oW (eOp oIx (aG 0) (eC (.int 0))) (eOp oIx (aG 1) (eC (.int 1)))) (eOp oW (eOp oIx (aG 1) (eC (.int 0))) (eOp oIx (aG 0) (eC (.int 1))))) (aD (eOp oW (eOp oIx (aG 0) (eC (.int 1))) (eOp oIx (aG 1) (eC (.int 1)))) aNil))))
def fJ:Mir:=fn 2 2 (eY (aN cN (aD (eOp zAL (eOp oW (eOp oIx (aG 0) (eC (.int 0))) (eOp oIx (aG 1) (eC (.int 1)))) (eOp oW (eOp oIx (aG 1) (eC (.int 0))) (eOp oIx (aG 0) (eC (.int 1))))) (aD (eOp oW (eOp oIx (aG 0) (eC (.int 1))) (eOp oIx (aG 1) (eC (.int 1)))) aNil))))
def jP:Mir:=fn 2 2 (eY (aN cN (aD (eOp oW (eOp oIx (aG 0) (eC (.int 0))) (eOp oIx (aG 1) (eC (.int 0)))) (aD (eOp oW (eOp oIx (aG 0) (eC (.int 1))) (eOp oIx (aG 1) (eC (.int 1)))) aNil))))
abbrev pY:Sv:=(sIf (zEQ (wT (cU (zPj "int" (aG 1)))) (cU (zPj "bool" (aG 1)))) (eY (eC (.bl false))) sNext)
abbrev pT:Sv:=(eY (zRC (eOp oGt (eOp oIx (aG 0) (eC (.int 1))) (eC (.int 0))) (eOp oEq (aN cN (aD (eOp oIx (aG 0) (eC (.int 0))) (aD (eOp oIx (aG 0) (eC (.int 1))) aNil))) (aG 0))))
abbrev pS:Sv:=(aZ (zAW (qT (aG 0)) (gName 1) pY) pT)
def cS:Mir:=fn 1 2 (aZ (sIf (zEQ (wT (cU (zPj "tuple" (aG 0)))) (cU (eOp oNe (eB mP (aD (aG 0) aNil)) (eC (.int 2))))) (eY (eC (.bl false))) sNext) pS)
def mG:Mir:=fn 2 2 (eY (aN jM (aD (eOp tZ (eOp oW (eOp oIx (aG 0) (eC (.int 0))) (eOp oIx (aG 1) (eC (.int 1)))) (eOp oW (eOp oIx (aG 1) (eC (.int 0))) (eOp oIx (aG 0) (eC (.int 1))))) (aD (eOp oW (eOp oIx (aG 0) (eC (.int 1))) (eOp oIx (aG 1) (eC (.int 1)))) aNil))))
def cV:Mir:=fn 2 2 (eY (aN jM (aD (eOp zAL (eOp oW (eOp oIx (aG 0) (eC (.int 0))) (eOp oIx (aG 1) (eC (.int 1)))) (eOp oW (eOp oIx (aG 1) (eC (.int 0))) (eOp oIx (aG 0) (eC (.int 1))))) (aD (eOp oW (eOp oIx (aG 0) (eC (.int 1))) (eOp oIx (aG 1) (eC (.int 1)))) aNil))))
def dP:Mir:=fn 2 2 (eY (aN jM (aD (eOp oW (eOp oIx (aG 0) (eC (.int 0))) (eOp oIx (aG 1) (eC (.int 0)))) (aD (eOp oW (eOp oIx (aG 0) (eC (.int 1))) (eOp oIx (aG 1) (eC (.int 1)))) aNil))))
def qU:Mir:=fn 2 2 (eY (aN jM (aD (eOp oW (eOp oIx (aG 0) (eC (.int 0))) (eOp oIx (aG 1) (eC (.int 1)))) (aD (eOp oW (eOp oIx (aG 0) (eC (.int 1))) (eOp oIx (aG 1) (eC (.int 0)))) aNil))))
def aU:Mir:=fn 2 2 (sIf (cU (aN eN (aD (aG 0) (aD (aG 1) aNil)))) (jJ "Outside" (aD (eC (.str "below nought, or more than there can be")) aNil)) sNext)
def eR:Mir:=fn 2 2 (iD (wO (zMT (aD (aG 1) (aD (aG 0) aNil))) (aN jM (aD (aG 2) (aD (aG 3) aNil)))))
abbrev yW:Sv:=(eY (aN cN (aD (eOp oW (aG 1) (eOp rV (eOp oX (aG 2) (eC (.int 311))) (eOp tZ (aG 3) (eC (.int 1))))) (aD (aG 3) aNil))))
abbrev yM:Sv:=(aZ (sIf (cU (eOp oEq (eOp rV (eOp oX (aG 2) (eC (.int 13))) (eC (.int 8))) (eC (.int 2)))) (eY (aN fQ (aD (rY (aD (aG 1) (aD (eC (.int 1)) aNil))) (aD (aG 4) aNil)))) sNext) yW)
abbrev yU:Sv:=(aZ (sIf (cU (eOp oEq (eOp rV (eOp oX (aG 2) (eC (.int 13))) (eC (.int 8))) (eC (.int 1)))) (eY (aN fJ (aD (rY (aD (eC (.int 0)) (aD (eC (.int 1)) aNil))) (aD (aG 4) aNil)))) sNext) yM)
abbrev yJ:Sv:=(aZ (cT 4 (eOp oIx (eF (kD (aD (rY (aD (eC (.int 1)) (aD (eC (.int 1)) aNil))) (aD (rY (aD (eC (.int 1)) (aD (eOp zKg (eC (.int 10)) (eC (.int 20))) aNil))) aNil)))) (eOp rV (eOp oX (aG 2) (eC (.int 11))) (eC (.int 2))))) yU)
abbrev xT:Sv:=(aZ (cT 3 (eOp tZ (eC (.int 1)) (eOp rV (eOp oX (aG 2) (eC (.int 7))) (eC (.int 30))))) yJ)
def iL:Mir:=fn 2 5 (aZ (cT 2 (eOp rV (eOp tZ (eOp oW (aG 0) (eC (.int 69697))) (eC (.int 13))) (eC (.int 2147483647)))) xT)
abbrev zAG:Sv:=(cT 2 (aN cV (aD (aG 2) (aD (aG 5) aNil))))
abbrev zAC:Sv:=(aZ (zHm 3 (aG 5)) zAG)
abbrev qZ:Sv:=(aZ (cT 5 (aN lN (aD (aG 2) (aD (aN bM (aD (aG 4) aNil)) aNil)))) zAC)
abbrev zBw:Sv:=(gB 3)
abbrev zAu:Sv:=(aZ (zAW (qT (aG 0)) (gName 4) qZ) zBw)
abbrev zBj:Sv:=(aZ (zAM 3 (kD aNil)) zAu)
def gO:Mir:=fn 2 6 (aZ (cT 2 (aG 1)) zBj)
abbrev xK:Sv:=(zKu 4 zAL (eOp oIx (aG 0) (aG 6)))
abbrev yF:Sv:=(aZ (cT 3 (zRJ (aN cV (aD (aG 3) (aD (eOp oIx (aG 5) (aG 6)) aNil))))) xK)
abbrev yZ:Sv:=(aZ (zRG 5 (aG 6) (aN lN (aD (aG 7) (aD (aN bM (aD (eOp oIx (aG 1) (aG 6)) aNil)) aNil)))) yF)
abbrev cE:Sv:=(aZ (cT 7 (aN qU (aD (aN dP (aD (aG 3) (aD (aN bM (aD (eOp oIx (aG 0) (aG 6)) aNil)) aNil))) (aD (aN bM (aD (aG 4) aNil)) aNil)))) yZ)
abbrev kW:Sv:=(gB 5)
abbrev pB:Sv:=(zIF (aD (eF (dI eR (aD (aG 0) (aD (aG 1) aNil)))) aNil) kC (gName 6) cE kW)
abbrev xL:Sv:=(aZ (zAM 5 (zPg (kD (aD (eC fF) aNil)) (eB mP (aD (aG 1) aNil)))) pB)
abbrev xH:Sv:=(aZ (cT 4 (eB zBU (aD (aG 0) aNil))) xL)
def dN:Mir:=fn 3 8 (aZ (cT 3 (aG 2)) xH)
abbrev xX:Sv:=(iD (jW (qT (aG 0)) jO (aN dP (aD (aG 3) (aD (aN bM (aD (aG 4) aNil)) aNil)))))
abbrev xP:Sv:=(aZ (cT 3 (aN qU (aD (aG 1) (aD (aN bM (aD (aG 2) aNil)) aNil)))) xX)
abbrev yH:Sv:=(aZ (sIf (cU (eOp oEq (aG 2) (eC (.int 0)))) (iD (zPg (kD (aD (eC fF) aNil)) (eB mP (aD (aG 0) aNil)))) sNext) xP)
def fS:Mir:=fn 2 4 (aZ (cT 2 (eB zBU (aD (aG 0) aNil))) yH)
abbrev yB:Sv:=(eY (eOp oEq (aN dP (aD (aG 3) (aD (aG 6) aNil))) (aN dP (aD (aG 4) (aD (aG 5) aNil)))))
abbrev yC:Sv:=(aZ (cT 6 (aN cV (aD (eOp oIx (aG 2) (eC d_ACROSS)) (aD (eOp oIx (aG 1) (eC d_ACROSS)) aNil)))) yB)
abbrev xV:Sv:=(aZ (cT 5 (aN cV (aD (eOp oIx (aG 1) (eC d_ACROSS)) (aD (eOp oIx (aG 0) (eC d_ACROSS)) aNil)))) yC)
abbrev yO:Sv:=(aZ (cT 4 (aN cV (aD (eOp oIx (aG 2) (eC d_UP)) (aD (eOp oIx (aG 1) (eC d_UP)) aNil)))) xV)
def iM:Mir:=fn 3 7 (aZ (cT 3 (aN cV (aD (eOp oIx (aG 1) (eC d_UP)) (aD (eOp oIx (aG 0) (eC d_UP)) aNil)))) yO)
abbrev zNn:Sv:=(eY (aN mG (aD (eOp oIx (aG 6) (aG 3)) (aD (aN dP (aD (aG 7) (aD (aN cV (aD (eOp oIx (aG 5) (aG 3)) (aD (eOp oIx (aG 6) (aG 3)) aNil))) aNil))) aNil))))
abbrev zOJ:Sv:=(aZ (cT 7 (aN qU (aD (aN cV (aD (aG 2) (aD (eOp oIx (aG 6) (aG 1)) aNil))) (aD (aN cV (aD (eOp oIx (aG 5) (aG 1)) (aD (eOp oIx (aG 6) (aG 1)) aNil))) aNil)))) zNn)
abbrev zOP:Sv:=(aZ (cT 6 (eOp oIx (aG 0) (eOp zAL (aG 4) (eC (.int 1))))) zOJ)
abbrev zPa:Sv:=(aZ (sIf (cU (eOp oEq (eOp oIx (aG 5) (aG 1)) (aG 2))) (eY (eOp oIx (aG 5) (aG 3))) sNext) zOP)
abbrev zOg:Sv:=(aZ (cT 5 (eOp oIx (aG 0) (aG 4))) zPa)
abbrev zMW:Sv:=(aZ (cT 4 (aN bW (aD (aG 0) (aD (aG 1) (aD (aG 2) aNil))))) zOg)
def qN:Mir:=fn 3 8 (aZ (cT 3 (eOp zAL (eC (.int 1)) (aG 1))) zMW)
abbrev vF:Sv:=(zKu 3 zAL (eOp oIx (aG 0) (aG 6)))
abbrev wI:Sv:=(aZ (zKu 2 zAS (eOp oIx (aG 1) (aG 6))) vF)
abbrev gE:Sv:=(aZ (zHm 5 (aN mG (aD (aN bM (aD (aG 2) aNil)) (aD (aN dP (aD (eOp oIx (aG 4) (aG 6)) (aD (aN bM (aD (aG 3) aNil)) aNil))) aNil)))) wI)
abbrev nJ:Sv:=(gB 5)
abbrev nN:Sv:=(zIF (aD (aG 4) aNil) kC (gName 6) gE nJ)
abbrev vX:Sv:=(aZ (zAM 5 (kD (aD (eC fF) aNil))) nN)
abbrev vT:Sv:=(aZ (cT 4 (eF (dI eR (aD (aG 0) (aD (aG 1) aNil))))) vX)
abbrev uY:Sv:=(aZ (cT 3 (eB zBU (aD (aG 0) aNil))) vT)
def dR:Mir:=fn 2 7 (aZ (cT 2 (eC (.int 0))) uY)
def hZ:Mir:=fn 2 2 (iD (jW (zLj (aG 0)) jO (aN cV (aD (aG 1) (aD (aG 2) aNil)))))
abbrev xR:Sv:=(iD (jW (qT (eF (dI dN (aD (aG 2) (aD (aG 0) (aD (aN mG (aD (aG 1) (aD (aG 1) aNil))) aNil)))))) jO (aN dP (aD (aG 3) (aD (eC d_HALF) aNil)))))
def fR:Mir:=fn 2 3 (aZ (cT 2 (eF (zPg (kD (aD (eC (.int 1)) aNil)) (eB mP (aD (aG 0) aNil))))) xR)
abbrev xB:Sv:=(zHm 1 (aG 2))
abbrev zDR:Sv:=(aZ (sIf (tFrzB (zBO (cU (eOp oGt (eB mP (aD (aG 1) aNil)) (eC (.int 1)))) (cU (aN iM (aD (eOp oIx (aG 1) (eUn zAB (eC (.int 2)))) (aD (eOp oIx (aG 1) (eUn zAB (eC (.int 1)))) (aD (aG 2) aNil))))))) (zPG 1) sNext) xB)
abbrev zEv:Sv:=(eY (eB zMD (aD (aG 1) aNil)))
abbrev zEZ:Sv:=(aZ (zAW (qT (aG 0)) (gName 2) zDR) zEv)
abbrev zEA:Sv:=(aZ (zAM 1 (kD aNil)) zEZ)
def fE:Mir:=fn 1 3 (aZ (sM (aN iF (aD (aG 0) aNil))) zEA)
abbrev zJz:Sv:=(eY (aN qN (aD (aG 0) (aD (eC d_ACROSS) (aD (aG 1) aNil)))))
def sF:Mir:=fn 2 2 (aZ (sM (aN aU (aD (aG 1) (aD (aN mC (aD (aG 0) aNil)) aNil)))) zJz)
abbrev zEP:Sv:=(eY (rY (aD (aG 2) (aD (aG 2) aNil))))
abbrev zEI:Sv:=(aZ (sIf (cU (eOp oEq (eOp oIx (aG 3) (eC d_UP)) (aG 1))) (eY (rY (aD (aG 2) (aD (eOp oIx (aG 3) (eC d_ACROSS)) aNil)))) sNext) zEP)
abbrev zEG:Sv:=(aZ (cT 3 (eOp oIx (aG 0) (eB zPr (aD (eOp tZ (aN bW (aD (aG 0) (aD (eC d_UP) (aD (aG 1) aNil)))) (eC (.int 1))) (aD (eOp zAL (eB mP (aD (aG 0) aNil)) (eC (.int 1))) aNil))))) zEI)
abbrev zEd:Sv:=(aZ (cT 2 (aN qN (aD (aG 0) (aD (eC d_UP) (aD (aG 1) aNil))))) zEG)
def iE:Mir:=fn 2 4 (aZ (sM (aN aU (aD (aG 1) (aD (aN lS (aD (aG 0) aNil)) aNil)))) zEd)
abbrev zGt:Sv:=(eY (aN fE (aD (eF (jW (qT (aG 3)) jO (rY (aD (aG 4) (aD (aN sF (aD (aG 0) (aD (aN sF (aD (aG 1) (aD (aG 4) aNil))) aNil))) aNil))))) aNil)))
abbrev zGq:Sv:=(aZ (cT 3 (eF (dI rM (aD (eF (dI oQ (aD (aG 1) aNil))) (aD (aG 2) aNil))))) zGt)
abbrev zGw:Sv:=(aZ (cT 2 (eF (jW (qT (eF (dI oQ (aD (aG 0) aNil)))) jO (aN qN (aD (aG 1) (aD (eC d_UP) (aD (aG 4) aNil))))))) zGq)
def iB:Mir:=fn 2 4 (aZ (sIf (cU (eOp oNe (aN mC (aD (aG 0) aNil)) (aN lS (aD (aG 1) aNil)))) (jJ "Unlike" (aD (eC (.str "the first line's length is not the second one's height")) aNil)) sNext) zGw)
def nE:Mir:=fn 3 3 (eY (aN fE (aD (eF (wO (zMT (aD (aG 0) (aD (aG 1) aNil))) (rY (aD (aG 3) (aD (eOp oIx (aG 4) (aG 2)) aNil))))) aNil)))
abbrev zBX:Sv:=(eY (aN fE (aD (eF (kD (aD (aG 1) (aD (rY (aD (aN bM (aD (aG 0) aNil)) (aD (aN bM (aD (aG 0) aNil)) aNil))) aNil)))) aNil)))
abbrev zCK:Sv:=(aZ (sIf (cU (eOp oEq (aG 0) (eC (.int 0)))) (eY (aN fE (aD (eF (kD (aD (aG 1) aNil))) aNil))) sNext) zBX)
def gP:Mir:=fn 1 2 (aZ (cT 1 (rY (aD (eC fF) (aD (eC fF) aNil)))) zCK)
abbrev yR(r:Mir):Sv:=(iD (zOx (aG 4) (eF (dI hZ (aD (aG 4) (aD (aG 3) aNil))))))
abbrev yL(r:Mir):Sv:=(iD (dI hZ (aD (eF (dI r (aD (aN dY (aD (aG 0) aNil)) (aD (aG 1) (aD (aG 2) aNil))))) (aD (aG 3) aNil))))
abbrev zAz(r:Mir):Sv:=(aZ (sIf (cU (eOp oEq (aG 0) (eC (.str "half")))) (aZ (cT 4 (eF (jW (qT (eF (dI dR (aD (eF (zPg (kD (aD (eC (.int 1)) aNil)) (eB mP (aD (aG 2) aNil)))) (aD (aG 2) aNil))))) jO (aN dP (aD (aG 5) (aD (eC d_HALF) aNil)))))) (yR r)) sNext) (yL r))
abbrev zAE(r:Mir):Sv:=(aZ (sIf (cU (eOp oEq (aG 0) (eC (.str "part")))) (iD (kD (aD (eC fF) (aD (aG 3) aNil)))) sNext) (zAz r))
abbrev zAR(r:Mir):Sv:=(aZ (sIf (cU (eOp oEq (aG 0) (eC (.str "even")))) (iD (dI dR (aD (aG 1) (aD (aG 2) aNil)))) sNext) (zAE r))
abbrev zAj(r:Mir):Sv:=(aZ (sIf (cU (eOp oEq (aG 0) (eC (.str "row")))) (iD (dI fV (aD (aG 2) aNil))) sNext) (zAR r))
def cG(r:Mir):Mir:=fn 3 5 (aZ (cT 3 (aN bM (aD (eB zBU (aD (aG 2) aNil)) aNil))) (zAj r))
def bN:Nat->Mir
 | 0=>fn 3 5 sNo
 | n+1=>cG (bN n)
abbrev qM(r:Mir):Sv:=(iD (wO (zMT (aD (aG 2) (aD (aG 5) aNil))) (aN cV (aD (aN bM (aD (aG 6) aNil)) (aD (aG 7) aNil)))))
abbrev rF(r:Mir):Sv:=(aZ (cT 5 (eF (dI r (aD (eUn (wZ aW) (aG 0)) (aD (aG 1) (aD (aG 2) (aD (aN cV (aD (aG 4) (aD (aG 3) aNil))) aNil))))))) (qM r))
abbrev sR(r:Mir):Sv:=(aZ (sIf (zBO (cU (eOp oEq (aG 0) (eC (.str "half")))) (wT (cU (aN fU (aD (aG 4) (aD (aN mG (aD (aG 3) (aD (aG 3) aNil))) aNil)))))) (iD (dI fR (aD (aG 2) (aD (aG 3) aNil)))) sNext) (rF r))
abbrev sP(r:Mir):Sv:=(aZ (sIf (cU (eOp oEq (aG 0) (eC (.str "part")))) (iD (dI fS (aD (aG 2) (aD (aG 3) aNil)))) sNext) (sR r))
abbrev sZ(r:Mir):Sv:=(aZ (sIf (cU (eOp oEq (aG 0) (eC (.str "even")))) (iD (dI dN (aD (aG 1) (aD (aG 2) (aD (aG 3) aNil))))) sNext) (sP r))
abbrev sU(r:Mir):Sv:=(aZ (sIf (cU (eOp oEq (aG 0) (eC (.str "row")))) (iD (dI gO (aD (aG 2) (aD (aG 3) aNil)))) sNext) (sZ r))
def aV(r:Mir):Mir:=fn 4 6 (aZ (cT 4 (aN bM (aD (eB zBU (aD (aG 2) aNil)) aNil))) (sU r))
def aQ:Nat->Mir
 | 0=>fn 4 6 sNo
 | n+1=>aV (aQ n)
abbrev zIS:Sv:=(iD (dI (aQ 2) (aD (aG 0) (aD (aG 1) (aD (aG 2) (aD (aG 3) aNil))))))
abbrev zIj:Sv:=(aZ (sM (aN aU (aD (aG 3) (aD (aN bM (aD (eB zBU (aD (aG 2) aNil)) aNil)) aNil)))) zIS)
def tG:Mir:=fn 4 4 (aZ (sM (aN lW (aD (aG 0) (aD (aG 1) (aD (aG 2) aNil))))) zIj)
abbrev zBT:Sv:=(iD (jW (zDT (aD (eB mP (aD (aG 2) aNil)) aNil)) jO (aN nE (aD (aG 3) (aD (aG 4) (aD (aG 5) aNil))))))
abbrev zBd:Sv:=(aZ (cT 4 (eF (jW (qT (aG 3)) jO (eF (dI (aQ 2) (aD (aG 0) (aD (aG 1) (aD (aG 2) (aD (aG 5) aNil))))))))) zBT)
abbrev zBR:Sv:=(aZ (cT 3 (eF (dI dG (aD (eF (dI (bN 2) (aD (aG 0) (aD (aG 1) (aD (aG 2) aNil))))) aNil)))) zBd)
def gT:Mir:=fn 3 5 (aZ (sM (aN lW (aD (aG 0) (aD (aG 1) (aD (aG 2) aNil))))) zBR)
abbrev zCQ(r:Mir):Sv:=(eY (eOp tZ (eC (.int 1)) (eB zCt (aD (eF (jW (qT (eOp oIx (aG 0) (eC (.int 2)))) jO (aN r (aD (aG 1) aNil)))) aNil))))
def oK(r:Mir):Mir:=fn 1 1 (aZ (sIf (cU (eOp oEq (eOp oIx (aG 0) (eC (.int 0))) (eC (.str "boat")))) (eY (eC (.int 1))) sNext) (zCQ r))
def eD:Nat->Mir
 | 0=>fn 1 1 sNo
 | n+1=>oK (eD n)
abbrev zAm(r:Mir):Sv:=(zKV 1 (dI r (aD (aG 2) aNil)))
abbrev zBJ(r:Mir):Sv:=(gB 1)
abbrev zAe(r:Mir):Sv:=(aZ (zAW (qT (eOp oIx (aG 0) (eC (.int 2)))) (gName 2) (zAm r)) (zBJ r))
abbrev zBk(r:Mir):Sv:=(aZ (zAM 1 (kD aNil)) (zAe r))
def lO(r:Mir):Mir:=fn 1 3 (aZ (sIf (cU (eOp oEq (eOp oIx (aG 0) (eC (.int 0))) (eC (.str "boat")))) (iD (kD (aD (eOp oIx (aG 0) (eC (.int 1))) aNil))) sNext) (zBk r))
def gN:Nat->Mir
 | 0=>fn 1 3 sNo
 | n+1=>lO (gN n)
abbrev kR:Sv:=(zHm 3 (rY (aD (eC (.str "boat")) (aD (eOp oIx (eF (kD (aD (eOp rV (eOp oX (aG 6) (eC (.int 13))) (eC (.int 13))) (aD (eOp rV (eOp oX (aG 6) (eC (.int 89))) (eC (.int 4))) (aD (eOp rV (eOp oX (aG 6) (eC (.int 17))) (eOp zKg (eC (.int 10)) (eC (.int 9)))) aNil))))) (eOp rV (aG 1) (eC (.int 3)))) aNil))))
abbrev xQ:Sv:=(sIf (tFrzB (zEQ (zBO (cU (eOp oLt (eOp rV (eOp oX (aG 6) (eC (.int 11))) (eC (.int 3))) (eC (.int 2)))) (cU (eOp oLt (aG 4) (aG 2)))) (cU (eOp oEq (aG 3) (eF (kD aNil)))))) (aZ (cT 4 (eOp tZ (aG 4) (eC (.int 1)))) kR) (sIf (tFrzB (cU (eOp oLt (eB zCt (aD (eF (jW (qT (eF (fSl (aG 3) (oS (eUn zAB (aG 7))) oN))) jO (aN (eD 10) (aD (aG 8) aNil)))) aNil)) (eC (.int 7))))) (zAM 3 (zPk (zOx (eF (fSl (aG 3) oN (oS (eUn zAB (aG 7))))) (eF (kD (aD (aN eT (aD (eF (fSl (aG 3) (oS (eUn zAB (aG 7))) oN)) (aD (eOp oX (aG 6) (eC (.int 31))) (aD (aG 1) aNil)))) aNil)))))) sNext))
abbrev xS:Sv:=(aZ (cT 7 (eOp tZ (eC (.int 1)) (eOp rV (eOp oX (aG 6) (eC (.int 5))) (eC (.int 4))))) xQ)
abbrev pA:Sv:=(aZ (cT 6 (aN nO (aD (eOp oIx (aG 0) (aG 5)) (aD (aG 5) aNil)))) xS)
abbrev uU:Sv:=(eY (aN eT (aD (aG 3) (aD (eOp oX (aG 1) (eC (.int 9))) (aD (aG 1) aNil)))))
abbrev wQ:Sv:=(aZ (sIf (cU (eOp oEq (eB mP (aD (aG 3) aNil)) (eC (.int 1)))) (eY (eOp oIx (aG 3) (eC (.int 0)))) sNext) uU)
abbrev wW:Sv:=(sFrzAt 3 (aZ (sIf (cU (eOp oEq (aG 3) (eF (kD aNil)))) (eY (rY (aD (eC (.str "boat")) (aD (eOp rV (aG 1) (eC (.int 7))) aNil)))) sNext) wQ))
abbrev yT:Sv:=(aZ (zAW (zDT (aD (eB mP (aD (aG 0) aNil)) aNil)) (gName 5) pA) wW)
abbrev xI:Sv:=(aZ (cT 4 (eC (.int 0))) yT)
def iG:Mir:=fn 3 8 (aZ (zAM 3 (kD aNil)) xI)
abbrev zBF(r:Mir):Sv:=(zKV 1 (dI r (aD (aG 2) aNil)))
abbrev zBe(r:Mir):Sv:=(gB 1)
abbrev zAy(r:Mir):Sv:=(aZ (zAW (qT (aN dA (aD (aG 0) aNil))) (gName 2) (zBF r)) (zBe r))
abbrev zAb(r:Mir):Sv:=(aZ (zAM 1 (kD aNil)) (zAy r))
def lR(r:Mir):Mir:=fn 1 3 (aZ (sIf (cU (aN cI (aD (aG 0) aNil))) (iD (kD (aD (eOp oIx (aG 0) (eC (.int 1))) aNil))) sNext) (zAb r))
def gQ:Nat->Mir
 | 0=>fn 1 3 sNo
 | n+1=>lR (gQ n)
def dZ:Mir:=fn 1 1 (eY (eB zBU (aD (eF (dI (gQ 10) (aD (aG 0) aNil))) aNil)))
def cY:Mir:=fn 1 1 (iD (jW (qT (aN dA (aD (aG 0) aNil))) jO (aN dZ (aD (aG 1) aNil))))
abbrev tQ(r:Mir):Sv:=(zKV 3 (dI r (aD (aG 4) (aD (aG 5) aNil))))
abbrev zCT(r:Mir):Sv:=(gB 3)
abbrev zCE(r:Mir):Sv:=(aZ (zAW (zMT (aD (aN dA (aD (aG 0) aNil)) (aD (aG 2) aNil))) (zHq (mO (gName 4) (mO (gName 5) zHp))) (tQ r)) (zCT r))
abbrev zDf(r:Mir):Sv:=(aZ (zAM 3 (kD aNil)) (zCE r))
abbrev zCe(r:Mir):Sv:=(aZ (cT 2 (eF (dI tG (aD (aN jD (aD (aG 0) aNil)) (aD (aN cZ (aD (aG 0) aNil)) (aD (eF (dI cY (aD (aG 0) aNil))) (aD (aG 1) aNil))))))) (zDf r))
def jH(r:Mir):Mir:=fn 2 6 (aZ (sIf (cU (aN cI (aD (aG 0) aNil))) (iD (kD (aD (aG 1) aNil))) sNext) (zCe r))
def fT:Nat->Mir
 | 0=>fn 2 6 sNo
 | n+1=>jH (fT n)
abbrev tY(r:Mir):Sv:=(zKV 2 (jW (qT (eF (dI r (aD (aG 3) aNil)))) jO (aN iB (aD (aG 5) (aD (aG 4) aNil)))))
abbrev zCf(r:Mir):Sv:=(gB 2)
abbrev zCa(r:Mir):Sv:=(aZ (zAW (zMT (aD (aN dA (aD (aG 0) aNil)) (aD (aG 1) aNil))) (zHq (mO (gName 3) (mO (gName 4) zHp))) (tY r)) (zCf r))
abbrev zDl(r:Mir):Sv:=(aZ (zAM 2 (kD aNil)) (zCa r))
abbrev zCV(r:Mir):Sv:=(aZ (cT 1 (eF (dI gT (aD (aN jD (aD (aG 0) aNil)) (aD (aN cZ (aD (aG 0) aNil)) (aD (eF (dI cY (aD (aG 0) aNil))) aNil)))))) (zDl r))
def jI(r:Mir):Mir:=fn 1 5 (aZ (sIf (cU (aN cI (aD (aG 0) aNil))) (iD (kD (aD (aN gP (aD (aN dZ (aD (aG 0) aNil)) aNil)) aNil))) sNext) (zCV r))
def fN:Nat->Mir
 | 0=>fn 1 5 sNo
 | n+1=>jI (fN n)
abbrev zGE:Sv:=(iD (dI (fT 10) (aD (aG 0) (aD (aG 1) aNil))))
def kF:Mir:=fn 2 2 (aZ (sM (aN aU (aD (aG 1) (aD (aN bM (aD (aN dZ (aD (aG 0) aNil)) aNil)) aNil)))) zGE)
abbrev yI:Sv:=(eY (aN iE (aD (eOp oIx (aG 3) (aG 1)) (aD (aG 2) aNil))))
abbrev yK:Sv:=(aZ (sIf (zEQ (cU (eOp oLt (aG 1) (eC (.int 0)))) (cU (eOp oGe (aG 1) (eB mP (aD (aG 3) aNil))))) (jJ "NoBoat" (aD (eC (.str "there is no boat of that number")) aNil)) sNext) yI)
def bY:Mir:=fn 3 4 (aZ (cT 3 (eF (dI (fN 10) (aD (aG 0) aNil)))) yK)
abbrev zBp:Sv:=(zHm 3 (aG 6))
abbrev zAT:Sv:=(aZ (cT 6 (zKx zFw 5 ["BadCatch","BadClaim","BadLine","BadWay","BadWeights","NoFraction","NoText","TooMany","Unlike"])) zBp)
abbrev zBl:Sv:=(sFrzAt 3 (eY (rY (aD (aG 3) (aD (aG 4) aNil)))))
abbrev zBI:Sv:=(aZ (zRq tbT 5 (zRz 4 bY (aD (aG 0) (aD (aG 1) (aD (aG 2) aNil)))) (aZ (zAM 3 (kD (aD (zKx zFw 5 ["ValueError"]) (aD (zKx zFw 5 ["NoBoat"]) (aD (zKx zFw 5 ["Outside"]) aNil))))) zAT)) zBl)
abbrev zAI:Sv:=(aZ (cT 4 (eC .non)) zBI)
def dO:Mir:=fn 3 7 (aZ (zAM 3 (kD aNil)) zAI)
abbrev qD:Sv:=(sIf (cU (eOp oNe (eOp oIx (eF (dI kF (aD (aG 0) (aD (aG 6) aNil)))) (aG 2)) (aG 3))) (eY (eC (.bl false))) sNext)
abbrev yS:Sv:=(eY (aN dF (aD (aG 3) (aD (eOp oIx (eF (dI kF (aD (aG 0) (aD (aG 9) aNil)))) (aG 2)) aNil))))
abbrev kX:Sv:=(aZ (sIf (cU (aN dF (aD (rY (aD (eB zBU (aD (aG 1) aNil)) (aD (eC (.int 1)) aNil))) (aD (aG 9) aNil)))) (eY (eC (.bl true))) sNext) yS)
abbrev yE:Sv:=(aZ (sIf (zBO (cU (eOp oGe (eOp oIx (aG 8) (eC (.int 0))) (eC (.int 0)))) (wT (cU (aN dF (aD (eOp oIx (eF (dI kF (aD (aG 0) (aD (aG 8) aNil)))) (aG 2)) (aD (aG 3) aNil)))))) (eY (eC (.bl false))) sNext) kX)
abbrev zA:Sv:=(aZ (cT 9 (aN fQ (aD (eOp oIx (aG 4) (eC (.int 1))) (aD (aG 7) aNil)))) yE)
abbrev yP:Sv:=(aZ (cT 8 (aN fJ (aD (eOp oIx (aG 4) (eC (.int 0))) (aD (aG 7) aNil)))) zA)
abbrev yD:Sv:=(aZ (cT 7 (rY (aD (eC (.int 1)) (aD (eOp zKg (eC (.int 10)) (eC (.int 12))) aNil)))) yP)
abbrev zBr:Sv:=(aZ (zAW (qT (eF (kD (aD (eOp oIx (aG 4) (eC (.int 0))) (aD (aG 5) (aD (eOp oIx (aG 4) (eC (.int 1))) aNil)))))) (gName 6) qD) yD)
abbrev zAw:Sv:=(aZ (sIf (zEQ (cU (eOp oLt (eOp oIx (eOp oIx (aG 4) (eC (.int 0))) (eC (.int 0))) (eC (.int 0)))) (cU (aN dF (aD (rY (aD (eB zBU (aD (aG 1) aNil)) (aD (eC (.int 1)) aNil))) (aD (eOp oIx (aG 4) (eC (.int 1))) aNil))))) (eY (eC (.bl false))) sNext) zBr)
abbrev zAq:Sv:=(aZ (cT 5 (aN jP (aD (rY (aD (eC (.int 1)) (aD (eC (.int 2)) aNil))) (aD (aN fQ (aD (eOp oIx (aG 4) (eC (.int 0))) (aD (eOp oIx (aG 4) (eC (.int 1))) aNil))) aNil)))) zAw)
abbrev zAs:Sv:=(aZ (sIf (zEQ (wT (cU (aN cS (aD (eOp oIx (aG 4) (eC (.int 0))) aNil)))) (zEQ (wT (cU (aN cS (aD (eOp oIx (aG 4) (eC (.int 1))) aNil)))) (cU (aN dF (aD (eOp oIx (aG 4) (eC (.int 1))) (aD (eOp oIx (aG 4) (eC (.int 0))) aNil)))))) (eY (eC (.bl false))) sNext) zAq)
def jR:Mir:=fn 5 10 (aZ (sIf (zEQ (wT (cU (zPj "tuple" (aG 4)))) (cU (eOp oNe (eB mP (aD (aG 4) aNil)) (eC (.int 2))))) (eY (eC (.bl false))) sNext) zAs)
abbrev zKH:Sv:=(sIf (zEQ (cU (eOp oLt (aG 9) (eC (.int 0)))) (cU (eOp oGe (aG 9) (eB mP (aD (aG 5) aNil))))) (sIf (cU (eOp oNe (aG 10) (eF (kD (aD (eC (.bl true)) (aD (eC (.bl true)) (aD (eC (.bl false)) (aD (eC (.bl false)) aNil)))))))) (eY (eC (.bl false))) sNext) (sIf (zEQ (cU (eOp oLt (eOp oIx (aG 8) (eC (.int 0))) (eC (.int 0)))) (cU (aN dF (aD (rY (aD (eOp oIx (aG 5) (aG 7)) (aD (eC (.int 1)) aNil))) (aD (aG 8) aNil))))) (sIf (cU (eOp oNe (aG 10) (eF (kD (aD (eC (.bl true)) (aD (eC (.bl false)) (aD (eC (.bl true)) (aD (eC (.bl false)) aNil)))))))) (eY (eC (.bl false))) sNext) (sIf (zEQ (cU (eOp oNe (aG 10) (eF (kD aNil)))) (wT (cU (aN jR (aD (aG 4) (aD (aG 5) (aD (aG 9) (aD (aG 8) (aD (aG 11) aNil))))))))) (eY (eC (.bl false))) sNext)))
abbrev qI:Sv:=(aZ (zSf (zHq (mO (gName 10) (mO (gName 11) zHp))) (aN dO (aD (aG 4) (aD (aG 9) (aD (aG 8) aNil))))) zKH)
abbrev zKS:Sv:=(aZ (sIf (cU (eOp oEq (eOp rV (aG 6) (eC (.int 9))) (eC (.int 4)))) (cT 9 (eOp oIx (eF (kD (aD (eOp tZ (eB mP (aD (aG 5) aNil)) (eOp rV (eOp oX (aG 6) (eC (.int 9))) (eC (.int 5)))) (aD (eUn zAB (eC (.int 1))) (aD (eOp zKg (eC (.int 10)) (eC (.int 30))) (aD (eOp zAL (eUn zAB (eC (.int 1))) (aG 7)) aNil)))))) (eOp rV (eOp oX (aG 6) (eC (.int 45))) (eC (.int 4))))) sNext) qI)
abbrev zNm:Sv:=(aZ (cT 9 (aG 7)) zKS)
abbrev zOq:Sv:=(aZ (cT 8 (aN iL (aD (eOp oX (aG 6) (eC (.int 5))) (aD (eOp oIx (aG 5) (aG 7)) aNil)))) zNm)
abbrev zIp:Sv:=(aZ (cT 7 (eOp rV (eOp oX (aG 6) (eC (.int 3))) (eB mP (aD (aG 5) aNil)))) zOq)
abbrev zFC:Sv:=(eY (eC (.bl true)))
abbrev zOm:Sv:=(aZ (zAW (qT (eF (zOx (eF (kD (aD (eC (.int 0)) aNil))) (eF (fSl (aG 0) (oS (eOp tZ (aG 3) (eC (.int 1)))) (oS (eOp tZ (aG 3) (eOp oIx (eF (kD (aD (eC (.int 19)) (aD (eC (.int 9)) aNil)))) (aG 2))))))))) (gName 6) zIp) zFC)
abbrev zOf:Sv:=(aZ (cT 5 (eF (dI (gN 10) (aD (aG 4) aNil)))) zOm)
abbrev zOr:Sv:=(aZ (cT 4 (aN iG (aD (eF (fSl (aG 0) (oS (eC (.int 1))) (oS (eOp tZ (aG 3) (eC (.int 1)))))) (aD (aG 1) (aD (eOp oIx (eF (kD (aD (eC (.int 8)) (aD (eC (.int 12)) aNil)))) (aG 2)) aNil))))) zOf)
abbrev zMZ:Sv:=(aZ (cT 3 (eOp oIx (eF (kD (aD (eC (.int 14)) (aD (eC (.int 30)) aNil)))) (aG 2))) zOr)
abbrev zOS:Sv:=(aZ (cT 2 (eB zRa (aD (eOp oEq (eOp rV (eOp oX (aG 1) (eC (.int 7))) (eC (.int 4))) (eC (.int 3))) aNil))) zMZ)
def zNp:Mir:=fn 1 12 (aZ (cT 1 (aN fZ (aD (aG 0) (aD (eC (.int 0)) aNil)))) zOS)
end Lw
namespace Lw
open L3 PySem Fr Fq Ln
theorem c_NOUGHT:fF=dq 0:=rfl
local macro_rules | `(tactic| symm)=>do
 let ids:Array (Lean.TSyntax `term):=(("c_NOUGHT d_WEIGHTED d_HALF d_BOAT d_ACROSS d_UP fn_at iZip_at fComp2_at chO_s oEq_s oNe_s oTabNot_s L3.start sSeq_at seqF_nx seqF_ret sSet_at setF sOwn_at ownF sRet_at retF sRetF_at retFF sRetOwn_at retS sRetN sIf_at ifF_t ifF_f sNext sNo sDrop_at dropF dropG eVar_at varS eC eOp_at opF eUn eCall_at callF rtF eB eTup_at tupF aCons_at consF consG aNil tVal_at blF tNotB_at notF tAndB_at tandF_t tandF_f tOrB_at torF_t torF_f eAnd_at andF_t andF_f eOr_at orF_t orF_f eIf_at eifF_t eifF_f eF_at efF fLst_at fLstF fCall_at fcallF rtFF fList_at fListF_l fListF_t fComp_at fRep_at repF fCat_at catF catG eFrz_at frzF fFrz_at fFrzF oN oS_at oSF fSl_at fSlF fSlG fSlH isNon sApp_at appS appF sExt_at extS extF sAug_at augS augF xSet_at xsetF setG sTry_at tryF_ok tryF_err tryE_t tryH_nx eIsE_at sUnp_at unpF nxF bSum_l bSum_t gTup_at gtF_t gCons_at gNil_at gName sFor_at forF iRevL_at revL_l iSeq_at seqD_l seqD_t iRng1_at iRng2_at sFrz sFrzAt frzAt tFrzB okb erb Rt.d fin oAdd_i oAddI_i oSub_i oMul_i oDiv_i oMod_i oPow_i oEq_i oNe_i oLt_i oLe_i oGt_i oGe_i oIx_tc sPop_at popS dp_mk ty_dp len_dp ix_dp0 ix_dp1 dep_dp noL_dp oEq_dp oNe_dp noLs_dps oNeg_i oNot_b bAbs_i bLen_t bLen_l bMin_i bTup_t bTup_l eIsT_at isTF isT ty_i ty_t ty_l ty_b ty_s ty_n ofO_some atD sRaise_at raiseF Sl.frz noErr dep depS noL noLs Qu Xg Ud Xr Vg List.replicate Qm Yw List.getElem?_cons_zero List.getElem?_cons_succ List.set_cons_zero List.set_cons_succ Nat.reduceAdd Nat.reduceSub Nat.reduceLeDiff Nat.reduceEqDiff Yd Yk Nat.max_self V9 if_true ite_true ite_false if_false X3 Bool.not_true Bool.not_false reduceIte ite_self Int.toNat_zero Int.reduceToNat Int.reduceLE Int.reduceLT Yn decide_true decide_false Bool.or_true Y1 Bool.true_or Bool.false_or Bool.and_true Bool.true_and Ut Bool.false_and String.reduceBEq String.reduceEq beq_self_eq_true ix_dq0 ix_dq1 ty_dq dep_dq noL_dq len_dq eq_dq oEq_dq oNe_dq Qg okDiv_lit okMul_litr okMul_litl okp9 okp12 okp20 okp30 p10 fdiv_pos fmod_pos Int.reduceEq Int.reduceNeg p10ne p10ne2 p10pos2 Int.reduceMul Int.reduceAdd Int.reduceSub Int.reduceDiv Int.reduceMod eqD Nat.reduceLT Nat.reducePow ne_eq not_true_eq_false not_false_eq_true".splitOn " ").map fun s=>⟨Lean.mkIdent s.toName⟩).toArray
 `(tactic| simp only[$[$ids:term],*])
theorem uG(t b:Int):dU [.int t,.int b]=.ok (.v (.int (Int.gcd t b:Int))):=by
 unfold dU;symm
 refine zFq (fun ρ=>∃(x y:Int)(r:Sl),ρ=[.val (.int x),.val (.int y),r]/\0<=x/\0<=y/\Int.gcd x y=Int.gcd t b) (fun ρ=>(slI 1 ρ).toNat)
  (fun r=>(r.bind (zLP (eY (aG 0)))).bind fin=.ok (.v (.int (Int.gcd t b:Int)))) ⟨_,_,_,rfl,by omega,by omega,by simp[Int.gcd]⟩ ?_
 rintro ρ ⟨x,y,r,rfl,hx,hy,hg⟩
 by_cases h:y=0
 ·subst h
  refine .inl ⟨rfl,?_⟩
  have e:x=(Int.gcd t b:Int):=by
   rw[Int.gcd_zero_right] at hg;omega
  rw[<-e];rfl
 ·refine .inr ⟨?_,[.val (.int y),.val (.int (x.fmod y)),.val (.int (x.fmod y))],?_,⟨y,x.fmod y,_,rfl,hy,?_,?_⟩,?_⟩
  ·symm
   rw[Jj h];rfl
  ·symm
   rw[oMod_i h];symm
  ·rw[zAi _ hy];exact Vc _ h
  ·rw[zAi _ hy];exact(Fq.zFl hx (by omega)).trans hg
  ·have:=Ve x (show 0<y by omega)
   rw[zAi _ hy];show(x % y).toNat<y.toNat
   omega
theorem zQM{t b:Int}(hb:b≠0):(dv t b).natAbs<=b.natAbs:=Nat.le_of_dvd (by omega) (Int.natAbs_dvd_natAbs.mpr (zGe t b))
theorem zDn{t b:Int}{n:Nat}(hb:b≠0)(hn:b.natAbs<2^n)(h:n<=8999):jM [.int t,.int b]=.ok (.v (dq (Rat.divInt t b))):=by
 have hd:mM (dv t b)=true:=uS (zPX hb) (Xh (zQM hb) hn) h;have e0:decide (b=0)=false:=Jj hb;unfold jM;symm;rw[e0];symm;rw[uG];symm;by_cases c:b<0
 ·have e:-(Int.gcd t b:Int)=dv t b:=by unfold dv;rw[Jk c]
  rw[J6 c];symm;rw[e,oDiv_i hd];symm;rw[oDiv_i hd];symm;rw[zG hb,zD hb];rfl
 ·have e:(Int.gcd t b:Int)=dv t b:=by unfold dv;rw[Jl c]
  rw[Jj c];symm;rw[e,oDiv_i hd];symm;rw[oDiv_i hd];symm;rw[zG hb,zD hb];rfl
theorem zSu(t:Int):jM [.int t,.int 0]=.err "NoFraction" := by
 unfold jM;symm
theorem zDa{p q:Rat}{m n:Nat}(hp:Sz m p)(hq:Sz n q)(h:m+n<=8999):mG [dq p,dq q]=.ok (.v (dq (p+q))):=by
 unfold mG;symm;rw[oMul_i (bP hp.1 hq.d (by omega))];symm;rw[oMul_i (bP hq.1 hp.d (by omega))];symm;rw[oMul_i (bP hp.d hq.d (by omega))];symm;rw[zDn (V6 (dX p) (dX q)) (fA hp.d hq.d) h,zKh];symm
theorem eV{p q:Rat}{m n:Nat}(hp:Sz m p)(hq:Sz n q)(h:m+n<=8999):cV [dq p,dq q]=.ok (.v (dq (p-q))):=by
 unfold cV;symm;rw[oMul_i (bP hp.1 hq.d (by omega))];symm;rw[oMul_i (bP hq.1 hp.d (by omega))];symm;rw[oMul_i (bP hp.d hq.d (by omega))];symm;rw[zDn (V6 (dX p) (dX q)) (fA hp.d hq.d) h,zJL];symm
theorem nY{p q:Rat}{m n:Nat}(hp:Sz m p)(hq:Sz n q)(h:m+n<=8999):dP [dq p,dq q]=.ok (.v (dq (p*q))):=by
 unfold dP;symm;rw[oMul_i (bP hp.1 hq.1 (by omega))];symm;rw[oMul_i (bP hp.d hq.d (by omega))];symm;rw[zDn (V6 (dX p) (dX q)) (fA hp.d hq.d) h,zHD];symm
theorem zHM{p q:Rat}{m n:Nat}(hp:Sz m p)(hq:Sz n q)(h0:q≠0)(h:m+n<=8999):qU [dq p,dq q]=.ok (.v (dq (p / q))):=by
 unfold qU;symm;rw[oMul_i (bP hp.1 hq.d (by omega))];symm;rw[oMul_i (bP hp.d hq.1 (by omega))];symm;rw[zDn (V6 (dX p) (zLQ.mpr h0)) (fA hp.d hq.1) h,zIn];symm
theorem kK{p q:Rat}{m n:Nat}(hp:Sz m p)(hq:Sz n q)(h:m+n<=99999):fU [dq p,dq q]=.ok (.v (.bl (decide (p<q)))):=by
 unfold fU;symm;rw[oMul_i (bP hp.1 hq.d (by omega))];symm;rw[oMul_i (bP hq.1 hp.d (by omega))];symm;simp only[lt_iff]
def mn(a b:Rat):Rat:=if a<b then a else b
def ps0(x:Rat):Rat:=if x<0 then 0 else x
def jK:List Int->Int->Rat->List Rat
 | [],_,_=>[]
 | c::r,a,q=>mn (ps0 (q-(a:Rat))) (c:Rat)::jK r (a+c) q
theorem zDA:∀(cs:List Int)(a:Int)(q:Rat),(jK cs a q).length=cs.length
 | [],_,_=>rfl
 | c::r,a,q=>by simp only[jK,Qm,zDA r]
theorem zNT{q:Rat}{a c:Int}(h:0<=c):ps0 (q-(a:Rat))-mn (ps0 (q-(a:Rat))) (c:Rat)=ps0 (q-((a+c:Int):Rat)):=by
 have h':(0:Rat)<=(c:Rat):=by exact_mod_cast h
 rw[Vq];unfold ps0 mn;grind
theorem dB{n:Nat}{k:Int}(h:k.natAbs<2^n)(h0:0<n):Sz n (k:Rat):=by
 refine⟨h,?_⟩
 show 1<2^n
 exact Nat.one_lt_two_pow (by omega)
theorem zRd{n:Nat}{q:Rat}(h:Sz n q)(h0:0<n):Sz n (ps0 q):=by
 unfold ps0;split
 ·exact dB (k:=0) (Nat.two_pow_pos n) h0
 ·exact h
theorem zNI{n:Nat}{p q:Rat}(h:Sz n p)(h':Sz n q):Sz n (mn p q):=by
 unfold mn;split
 ·exact h
 ·exact h'
theorem bZ(k:Int):bM [.int k]=.ok (.v (dq (k:Rat))):=by
 unfold bM;symm;rw[zQU]
theorem zFG{p q:Rat}{m n:Nat}(hp:Sz m p)(hq:Sz n q)(h:m+n<=99999):lN [dq p,dq q]=.ok (.v (dq (mn p q))):=by
 unfold lN;symm;rw[kK hp hq h];symm;unfold mn;by_cases c:p<q
 ·rw[J6 c,Jk c]
  symm
 ·rw[Jj c,Jl c]
  symm
structure Cl (cs:List Int):Prop where
 nn:∀ c∈cs,0<=c
 up:∀ c∈cs,c<10^30
 lo:1<=cs.length
 hi:cs.length<=12
theorem zLZ:∀ {cs:List Int},(∀ c∈cs,0<=c)->(∀ c∈cs,c<10^30)->0<=cs.sum/\cs.sum<=cs.length*10^30
 | [],_,_=>by decide
 | c::r,h,h'=>by
  have ih:=zLZ (fun x hx=>h x (Qc _ hx)) fun x hx=>h' x (Qc _ hx)
  have a:=h c Qb;have b:=h' c Qb;rw[Q8,Qm];refine⟨by omega,?_⟩
  have:((r.length+1:Nat):Int)*10^30=(r.length:Int)*10^30+10^30:=by rw[Yo,Yp];rfl
  omega
theorem Cl.sum{cs:List Int}(h:Cl cs):0<=cs.sum/\cs.sum<2^104:=by
 have a:=zLZ h.nn h.up;have b:=h.hi;refine⟨a.1,?_⟩
 omega
structure Haul (m:Nat) (q:Rat) (W:Int):Prop where
 nn:0<=q
 up:q<=(W:Rat)
 sz:Sz m q
theorem zFQ{d:D}{q:Rat}{m:Nat}(hm:m<=3000)(hq:Sz m q):∀(cs:List Int)(a:Int)(acc:List D)(s t:Sl),(∀ c∈cs,0<=c)->(∀ c∈cs,c<10^30)->0<=a->a+cs.length*10^30<2^110->acc.length+cs.length<=100->
  ∃ l' s' t',iC (gName 4) qZ (cs.map D.int) [.val d,.val (dq q),.val (dq (ps0 (q-(a:Rat)))),.own acc,s,t]=.ok (.nx [.val d,.val (dq q),l',.own (acc++(jK cs a q).map dq),s',t'])
 | [],a,acc,s,t,_,_,_,_,_=>⟨.val (dq (ps0 (q-(a:Rat)))),s,t,by rw[Xg,iC];simp[jK]⟩
 | c::r,a,acc,s,t,h1,h2,h3,h4,h5=>by
  have c0:=h1 c Qb;have c1:=h2 c Qb;rw[Qm] at h4 h5;have e4:((r.length+1:Nat):Int)*10^30=(r.length:Int)*10^30+10^30:=by rw[Yo,Yp];rfl
  have r0:0<=(r.length:Int)*10^30:=Ue (by omega) (by decide)
  have zl:Sz (m+111) (ps0 (q-(a:Rat))):=zRd (hq.sub (dB (n:=110) (by omega) (by decide))) (by omega)
  have zc:Sz (m+111) (c:Rat):=Sz.mono (m:=110) (dB (by omega) (by decide)) (by omega)
  obtain⟨l',s',t',e⟩:=zFQ hm hq r (a+c) (acc++[dq (mn (ps0 (q-(a:Rat))) (c:Rat))]) (.val (.int c)) (.val (dq (mn (ps0 (q-(a:Rat))) (c:Rat)))) (fun x hx=>h1 x (Qc _ hx)) (fun x hx=>h2 x (Qc _ hx)) (by omega) (by omega) (by rw[Ql,Us];omega)
  refine⟨l',s',t',?_⟩
  rw[Qu,dE (ρ1:=[.val d,.val (dq q),.val (dq (ps0 (q-(a:Rat)))),.own acc,.val (.int c),t]) rfl,e]
  ·rw[jK,Qu,V3];rfl
  ·symm
   rw[bZ];symm;rw[zFG zl zc (by omega)];symm;rw[Jk (by omega)];symm;rw[eV zl (zNI zl zc) (by omega)];symm;rw[zNT c0]
theorem zEo{d:D}{cs:List Int}{q:Rat}(hd:d=.lst (cs.map D.int)∨d=.tup (cs.map D.int)){m:Nat}(hm:m<=3000)(hc:Cl cs)(hq:Sz m q)(h0:0<=q):gO [d,dq q]=.ok (.f ((jK cs 0 q).map dq)):=by
 have sq:zLS d=.ok (cs.map D.int):=by rcases hd with rfl | rfl<;>rfl
 have:=hc.hi
 obtain⟨l',s',t',e⟩:=zFQ (d:=d) hm hq cs 0 [] .un .un hc.nn hc.up (by decide) (by omega) (by rw[Yw];omega)
 have z:ps0 (q-((0:Int):Rat))=q:=by
  unfold ps0;rw[show((0:Int):Rat)=0 from rfl];grind
 rw[z] at e;unfold gO;symm;rw[sq];symm;rw[e];rfl
def zBx(cs:List Int)(q:Rat):List Rat:=cs.map fun c=>Rat.divInt (c*q.num) (max 1 cs.sum*q.den)
theorem zJC{q:Rat}{c W:Int}(h:0<W):q / (W:Rat)*(c:Rat)=Rat.divInt (c*q.num) (W*q.den):=by
 have hW:(W:Rat)≠0:=by
  intro z;have:W=0:=by exact_mod_cast z
  omega
 rw[<-zIn q (W:Rat)];show Rat.divInt (q.num*((1:Nat):Int)) (q.den*W)*(c:Rat)=_
 rw[show((1:Nat):Int)=1 from rfl,Vt,<-V5 (c:Rat),Uz];show Rat.divInt (q.num*c) (q.den*W*((1:Nat):Int))=_
 rw[show((1:Nat):Int)=1 from rfl,Vt,Wk q.num,Wk (q.den:Int)]
theorem rG:∀ {cs:List Int},(∀ c∈cs,0<=c)->cs.sum=0->∀ c∈cs,c=0
 | [],_,_,c,h=>by cases h
 | d::r,h,e,c,hc=>by
  rw[Q8] at e;have h0:=h d Qb
  have hr:0<=r.sum:=by
   have:∀ l:List Int,(∀ c∈l,0<=c)->0<=l.sum:=by
    intro l
    induction l with
    | nil=>intro _;decide
    | cons a l ih=>intro hl;rw[Q8];have:=hl a Qb;have:=ih fun x hx=>hl x (Qc _ hx);omega
   exact this r fun x hx=>h x (Qc _ hx)
  rcases Qd.mp hc with rfl | hc
  ·omega
  ·exact rG (fun x hx=>h x (Qc _ hx)) (by omega) c hc
theorem zCH{d:D}{cs:List Int}{q:Rat}(hd:d=.lst (cs.map D.int)∨d=.tup (cs.map D.int)){m:Nat}(hm:m<=3000)(hc:Cl cs)(hq:Sz m q):fS [d,dq q]=.ok (.f ((zBx cs q).map dq)):=by
 have sm:=hc.sum;have hi:=hc.hi;have sq:zLS d=.ok (cs.map D.int):=by rcases hd with rfl | rfl<;>rfl
 have su:zBU [d]=.ok (.int cs.sum):=by rcases hd with rfl | rfl;exact bSum_l;exact bSum_t
 have ln:mP [d]=.ok (.int cs.length):=by rcases hd with rfl | rfl<;>(symm)
 unfold fS;symm;rw[su];symm;by_cases c0:cs.sum=0
 ·rw[J6 c0]
  symm;rw[ln];symm;rw[zFi (by omega)];symm
  have e:(zBx cs q).map dq=List.replicate cs.length (dq 0):=by
   unfold zBx;rw[Qv,<-List.map_const'];refine Vy fun c h=>?_
   have c0:=rG hc.nn c0 c h;subst c0;show dq (Rat.divInt (0*q.num) _)=dq 0
   rw[Int.zero_mul,U5]
  rw[e]
 ·rw[Jj c0]
  symm;have W0:0<cs.sum:=by omega
  have zW:Sz 110 (cs.sum:Rat):=dB (by omega) (by decide)
  have nW:(cs.sum:Rat)≠0:=by
   intro z;have:cs.sum=0:=by exact_mod_cast z
   omega
  rw[bZ];symm;rw[zHM hq zW nW (by omega)];symm;rw[sq];symm
  rw[fH (u:=D.int) (g:=fun c=>dq (Rat.divInt (c*q.num) (max 1 cs.sum*q.den))) (by omega) (fun c h=>by
   have c0:=hc.nn c h;have c1:=hc.up c h;symm;rw[bZ];symm;rw[nY (hq.div zW nW) (dB (n:=110) (k:=c) (by omega) (by decide)) (by omega)];symm
   rw[zJC W0,Int.max_eq_right (by omega)])]
  symm;unfold zBx;rw[Qv];rfl
def jG(f:Nat->Rat)(l:List Nat):Rat:=(l.map f).sum
theorem bH(f:Nat->Rat)(i:Nat)(l:List Nat):jG f (i::l)=f i+jG f l:=by unfold jG;rw[Qu,Q8]
theorem jF(f:Nat->Rat):jG f []=0:=rfl
theorem sK{f g:Nat->Rat}:∀ {l:List Nat},(∀ i∈l,f i<=g i)->jG f l<=jG g l
 | [],_=>Qe
 | i::l,h=>by
  rw[bH,bH];have a:=h i Qb;have b:=sK fun j hj=>h j (Qc _ hj)
  grind
theorem sH{f g:Nat->Rat}:∀ {l:List Nat},(∀ i∈l,f i<=g i)->jG f l=jG g l->∀ i∈l,f i=g i
 | [],_,_,i,hi=>by cases hi
 | j::l,h,e,i,hi=>by
  rw[bH,bH] at e;have a:=h j Qb;have hb:∀ i∈l,f i<=g i:=fun k hk=>h k (Qc _ hk)
  have b:=sK hb;rcases Qd.mp hi with rfl | hi
  ·grind
  ·exact sH hb (by grind) i hi
theorem vB{f:Nat->Rat}{l m:List Nat}(h:l.Perm m):jG f l=jG f m:=by
 induction h with
 | nil=>rfl
 | cons x _ ih=>rw[bH,bH,ih]
 | swap x y l=>rw[bH,bH,bH,bH];grind
 | trans _ _ h1 h2=>rw[h1,h2]
theorem eA{w:Nat->Rat}{t:Rat}:∀ {l:List Nat},jG (fun i=>w i*t) l=t*jG w l
 | []=>by rw[jF,jF];grind
 | i::l=>by rw[bH,bH,eA];grind
theorem eS{f g:Nat->Rat}{l:List Nat}(h:∀ i∈l,f i=g i):jG f l=jG g l:=by unfold jG;rw[Vy h]
theorem zKK{w:Nat->Rat}:∀ {l:List Nat},(∀ i∈l,0<w i)->0<=jG w l
 | [],_=>Qe
 | i::l,h=>by
  rw[bH];have a:=h i Qb;have b:=zKK fun j hj=>h j (Qc _ hj)
  grind
def eE(c w:Nat->Rat)(t:Rat)(i:Nat):Rat:=mn (w i*t) (c i)
theorem zSn{a b c d:Rat}(h:a<=c)(h':b<=d):mn a b<=mn c d:=by unfold mn;grind
theorem nR{c w:Nat->Rat}{t u:Rat}{i:Nat}(hw:0<w i)(h:t<=u):eE c w t i<=eE c w u i:=
 zSn (Xw h (Qf hw)) Qe
theorem zAA{c w:Nat->Rat}{t u:Rat}{l:List Nat}(hw:∀ i∈l,0<w i)(h:jG (eE c w t) l=jG (eE c w u) l):∀ i∈l,eE c w t i=eE c w u i:=by
 rcases Vz (a:=t) (b:=u) with g | g
 ·exact sH (fun i hi=>nR (hw i hi) g) h
 ·exact fun i hi=>(sH (fun i hi=>nR (hw i hi) g) h.symm i hi).symm
theorem zJx{L W w c:Rat}(hW:0<W)(h:L*w / W<c):mn (L*w / W) c=mn (w*(L / W)) c/\mn (w*(L / W)) c=w*(L / W):=by
 have e:L*w / W=w*(L / W):=by grind
 rw[e] at h ⊢
 exact⟨rfl,Jk h⟩
theorem zIf{r W w c:Rat}(hW:W≠0)(h:w*r<=c):mn (r*W*w / W) c=w*r:=by
 have e:r*W*w / W=w*r:=by grind
 rw[e];unfold mn;grind
theorem zHG{ci wi cj wj r:Rat}(h1:0<wi)(h2:0<wj)(h:ci*wj<=cj*wi)(hr:wi*r<=ci):wj*r<=cj:=by
 have a:wi*r*wj<=ci*wj:=Vv hr (Qf h2)
 have b:wj*r*wi<=cj*wi:=by
  have:wj*r*wi=wi*r*wj:=by grind
  rw[this];exact Qw a h
 exact X5 b h1
theorem zHe{L W w c b:Rat}(hw:0<w)(h:¬ L*w / W<c)(hW:0<W)(hb:b*W<=L):∃ b',b<=b'/\c<=w*b'/\b' * (W-w)<=L-c:=by
 have h1:c*W<=L*w:=by
  have h':=Vf.mp h;have:=Vv h' (Qf hW)
  rwa [V0 (by grind)] at this
 have e1:w*(c / w)=c:=by grind
 have e2:c / w*(W-w)=c*W / w-c:=by grind
 have e3:c*W / w<=L:=by
  have a:c*W / w*w<=L*w:=by rw[V0 (by grind)];exact h1
  exact X5 a hw
 rcases Vz (a:=b) (b:=c / w) with g | g
 ·exact⟨c / w,g,by rw[e1];exact Qe,by rw[e2];grind⟩
 ·refine⟨b,Qe,?_,?_⟩
  ·have:=Xw g (Qf hw)
   rwa [e1] at this
  ·have:=Xw g (Qf hw)
   rw[e1] at this;grind
structure Wt (ws cs:List Int):Prop where
 len:ws.length=cs.length
 lo:∀ w∈ws,1<=w
 up:∀ w∈ws,w<=10^6
def cR(cs:List Int)(i:Nat):Rat:=((cs.getD i 0:Int):Rat)
def qP:List (Nat×Rat)->List D->List D
 | [],am=>am
 | p::r,am=>qP r (am.set p.1 (dq p.2))
def wS(ws:List Int)(π:List Nat):Int:=(π.map fun i=>ws.getD i 0).sum
theorem oA(ws:List Int)(i:Nat)(π:List Nat):wS ws (i::π)=ws.getD i 0+wS ws π:=by unfold wS;rw[Qu,Q8]
theorem bL{l:List Int}{i:Nat}(h:i<l.length):l[i]?=some (l.getD i 0):=by rw[Qy,Qo h];rfl
theorem zGh{l:List Int}{i:Nat}(h:i<l.length):oIx (.lst (l.map D.int)) (.int (i:Int))=.ok (.int (l.getD i 0)):=oY (Xa i) (show l[((i:Nat):Int).toNat]?=some (l.getD i 0) from bL h)
theorem zSC{i:Nat}{k e:Ev}{ρ:Rho}{ds:List D}{d:D}{j:Nat}(h1:e ρ=.ok d)(h2:ρ[i]?=some (.own ds))(h3:k ρ=.ok (.int (j:Int)))(h4:j<ds.length):zRG i k e ρ=.ok (.nx (ρ.set i (.own (ds.set j d)))):=by
 unfold zRG;rw[h1];show(match ρ[i]? with | some (.own ds)=>_ | _=>_)=_
 rw[h2];show(k ρ).bind _=_
 rw[h3];exact Jk ⟨Xa j,by omega⟩
theorem zRs{ds:List D}{d:D}{i:Nat}(h:i<ds.length):oIx (.lst (ds.set i d)) (.int (i:Int))=.ok d:=by
 have e:=oY (f:=id) (l:=ds.set i d) (i:=(i:Int)) (a:=d) (Xa i) (show(ds.set i d)[i]?=some d from Q9 h)
 rwa [List.map_id] at e
theorem Wt.at{ws cs:List Int}(h:Wt ws cs){i:Nat}(hi:i<cs.length):1<=ws.getD i 0/\ws.getD i 0<=10^6:=by
 have:=bL (l:=ws) (i:=i) (by rw[h.len];exact hi)
 exact⟨h.lo _ (Qi this),h.up _ (Qi this)⟩
theorem Wt.sum{ws cs:List Int}(h:Wt ws cs):∀ {π:List Nat},(∀ i∈π,i<cs.length)->(π.length:Int)<=wS ws π/\wS ws π<=π.length*10^6
 | [],_=>⟨Yn _,Yn _⟩
 | i::π,hi=>by
  have a:=h.at (hi i Qb);have b:=h.sum fun j hj=>hi j (Qc _ hj)
  rw[oA,Qm];omega
def Sq(d:D)(l:List Int):Prop:=d=.lst (l.map D.int)∨d=.tup (l.map D.int)
theorem Sq.ix{d:D}{l:List Int}(h:Sq d l){i:Nat}(hi:i<l.length):oIx d (.int (i:Int))=.ok (.int (l.getD i 0)):=by
 rcases h with rfl | rfl
 ·exact oY (Xa i) (bL hi)
 ·exact pP (Xa i) (bL hi)
theorem Sq.sum{d:D}{l:List Int}(h:Sq d l):zBU [d]=.ok (.int l.sum):=by
 rcases h with rfl | rfl
 ·exact bSum_l
 ·exact bSum_t
theorem Sq.len{d:D}{l:List Int}(h:Sq d l):mP [d]=.ok (.int l.length):=by
 rcases h with rfl | rfl
 ·rw[bLen_l,Qg]
 ·rw[bLen_t,Qg]
theorem Sq.seq{d:D}{l:List Int}(h:Sq d l):zLS d=.ok (l.map D.int):=by
 rcases h with rfl | rfl<;>rfl
theorem Sq.seqo{d:D}{l:List Int}(h:Sq d l):zKw d=some (l.map D.int):=by
 rcases h with rfl | rfl<;>rfl
theorem zJW{ws cs:List Int}{wd cd:D}(sw:Sq wd ws)(sc:Sq cd cs){qv s7:Sl}{L:Rat}{W:Int}{i:Nat}{am:List D}(hW:Wt ws cs)(hc:∀ c∈cs,0<=c/\c<10^30){m:Nat}(hm:m<=3000)(hL:Sz (m+250) L)(W0:0<W)(W1:W<=12*10^6)(hi:i<cs.length)(ha:am.length=cs.length){a:Rat}(ea:mn (L*cR ws i / (W:Rat)) (cR cs i)=a):
  cE [.val wd,.val cd,qv,.val (dq L),.val (.int W),.own am,.val (.int (i:Nat)),s7]=
   .ok (.nx [.val wd,.val cd,qv,.val (dq (L-a)),.val (.int (W-ws.getD i 0)),.own (am.set i (dq a)),.val (.int (i:Nat)),.val (dq (L*cR ws i / (W:Rat)))]):=by
 have hiw:i<ws.length:=by rw[hW.len];exact hi
 obtain⟨w1,w2⟩:=hW.at hi;obtain⟨c1,c2⟩:=hc _ (Qi (bL hi));have zW:Sz 24 (W:Rat):=dB (by omega) (by decide)
 have zw:Sz 20 (cR ws i):=dB (by omega) (by decide)
 have zc:Sz (m+294) (cR cs i):=Sz.mono (m:=100) (dB (by omega) (by decide)) (by omega)
 have nW:(W:Rat)≠0:=by
  intro z;have:W=0:=by exact_mod_cast z
  omega
 have fw:bM [.int (ws.getD i 0)]=.ok (.v (dq (cR ws i))):=bZ _;have fc:bM [.int (cs.getD i 0)]=.ok (.v (dq (cR cs i))):=bZ _;have zx:Sz (m+294) (L*cR ws i / (W:Rat)):=((hL.mul zw).div zW nW).mono (by omega)
 symm;rw[sw.ix hiw];symm;rw[fw];symm;rw[nY hL zw (by omega)];symm;rw[bZ];symm;rw[zHM (hL.mul zw) zW nW (by omega)];symm
 rw[zSC (j:=i) (d:=dq a) (ds:=am) (by
  symm;rw[sc.ix hi];symm;rw[fc];symm;rw[zFG zx zc (by omega),ea]
  symm) rfl rfl (by omega)]
 symm;rw[zRs (by omega)];symm;rw[eV hL (ea ▸ zNI zx zc) (by omega)];symm;rw[sw.ix hiw];symm
theorem nQ(ws:List Int):∀ π:List Nat,jG (cR ws) π=(wS ws π:Rat)
 | []=>rfl
 | i::π=>by rw[bH,nQ ws π,oA,Vq];rfl
theorem zDj{ws cs:List Int}{wd cd:D}(sw:Sq wd ws)(sc:Sq cd cs){qv:Sl}{r:Rat}{m:Nat}(hm:m<=3000)(hW:Wt ws cs)(hc:∀ c∈cs,0<=c/\c<10^30)(hr:Sz (m+150) r):∀(π:List Nat)(am:List D)(s6 s7:Sl),(∀ i∈π,i<cs.length)->(∀ i∈π,cR ws i*r<=cR cs i)->π.length<=12->am.length=cs.length->
  ∃ l' W' s' t',iC (gName 6) cE (kU π) [.val wd,.val cd,qv,.val (dq (r*(wS ws π:Rat))),.val (.int (wS ws π)),.own am,s6,s7]=
   .ok (.nx [.val wd,.val cd,qv,l',W',.own (qP (π.map fun i=>(i,cR ws i*r)) am),s',t'])
 | [],am,s6,s7,_,_,_,_=>⟨_,_,_,_,rfl⟩
 | i::π,am,s6,s7,h1,h2,h4,h5=>by
  have hi:=h1 i Qb;obtain⟨W1,W2⟩:=hW.sum h1;rw[Qm] at h4 W1 W2;have zW:Sz 24 (wS ws (i::π):Rat):=dB (by omega) (by decide)
  have nW:(wS ws (i::π):Rat)≠0:=by
   intro z;have:wS ws (i::π)=0:=by exact_mod_cast z
   omega
  have e1:wS ws (i::π)-ws.getD i 0=wS ws π:=by rw[oA];omega
  have e2:r*(wS ws (i::π):Rat)-cR ws i*r=r*(wS ws π:Rat):=by
   rw[oA,Vq];show r*(cR ws i+(wS ws π:Rat))-cR ws i*r=_
   grind
  have tn:=zJW sw sc (qv:=qv) (s7:=s7) (W:=wS ws (i::π)) (am:=am) hW hc hm ((hr.mul zW).mono (by omega)) (by omega) (by omega) hi h5 (zIf nW (h2 i Qb))
  rw[e1,e2] at tn;obtain⟨l',W',s',t',e⟩:=zDj sw sc hm hW hc hr π (am.set i (dq (cR ws i*r))) _ _ (fun j hj=>h1 j (Qc _ hj)) (fun j hj=>h2 j (Qc _ hj)) (by omega) (by rw[Q6];exact h5)
  refine⟨l',W',s',t',?_⟩
  show iC _ _ (.int (i:Nat)::kU π) _=_
  rw[dE rfl tn,e];rfl
theorem zDk{ws cs:List Int}{wd cd:D}(sw:Sq wd ws)(sc:Sq cd cs){qv:Sl}{q:Rat}{m:Nat}(hm:m<=3000)(hW:Wt ws cs)(hc:∀ c∈cs,0<=c/\c<10^30)(hq:Sz m q):∀(π:List Nat)(k:Int)(b:Rat)(am:List D)(s6 s7:Sl),(∀ i∈π,i<cs.length)->π.Pairwise (fun i j=>cR cs i*cR ws j<=cR cs j*cR ws i)->π.length<=12->am.length=cs.length->
  0<=k->k+π.length*10^30<2^110->0<=q-(k:Rat)->q-(k:Rat)<=jG (cR cs) π->b*(wS ws π:Rat)<=q-(k:Rat)->
  ∃ t,b<=t/\jG (eE (cR cs) (cR ws) t) π=q-(k:Rat)/\(∀ i∈π,Sz (m+155) (eE (cR cs) (cR ws) t i))/\∃ l' W' s' t',iC (gName 6) cE (kU π) [.val wd,.val cd,qv,.val (dq (q-(k:Rat))),.val (.int (wS ws π)),.own am,s6,s7]=
   .ok (.nx [.val wd,.val cd,qv,l',W',.own (qP (π.map fun i=>(i,eE (cR cs) (cR ws) t i)) am),s',t'])
 | [],k,b,am,s6,s7,_,_,_,_,_,_,h6,h7,_=>⟨b,Qe,by rw[jF] at h7 ⊢;grind,fun i h=>by(cases h),_,_,_,_,rfl⟩
 | i::π,k,b,am,s6,s7,h1,h2,h3,h4,h5,h5',h6,h7,h8=>by
  have hi:=h1 i Qb;have h1':∀ j∈π,j<cs.length:=fun j hj=>h1 j (Qc _ hj)
  obtain⟨W1,W2⟩:=hW.sum h1;obtain⟨V1,V2⟩:=hW.sum h1';obtain⟨w1,w2⟩:=hW.at hi;obtain⟨c1,c2⟩:=hc _ (Qi (bL hi));obtain⟨p1,p2⟩:=Qr.mp h2;rw[Qm] at h3 h5' W1 W2;have ek:((π.length+1:Nat):Int)*10^30=(π.length:Int)*10^30+10^30:=by rw[Yo,Yp];rfl
  have k0:0<=(π.length:Int)*10^30:=Ue (by omega) (by decide)
  have zW:Sz 24 (wS ws (i::π):Rat):=dB (by omega) (by decide)
  have zk:Sz 110 (k:Rat):=dB (by omega) (by decide)
  have zL:Sz (m+111) (q-(k:Rat)):=(hq.sub zk).mono (by omega)
  have pW:(0:Rat)<(wS ws (i::π):Rat):=by exact_mod_cast (show 0<wS ws (i::π) by omega)
  have nW:(wS ws (i::π):Rat)≠0:=fun z=>by rw[z] at pW;exact absurd pW (by decide)
  have pw:∀ j,j<cs.length->0<cR ws j:=fun j hj=>by
   have:=(hW.at hj).1
   unfold cR;exact_mod_cast (show 0<ws.getD j 0 by omega)
  have e1:wS ws (i::π)-ws.getD i 0=wS ws π:=by rw[oA];omega
  have eW:(wS ws (i::π):Rat)=cR ws i+(wS ws π:Rat):=by rw[oA,Vq];rfl
  have pV:(0:Rat)<=(wS ws π:Rat):=by exact_mod_cast (show 0<=wS ws π by omega)
  generalize hL:q-(k:Rat)=L at h6 h7 h8 zL ⊢
  have loop1:∀ {a:Rat} {l' W' s' t':Sl} {am':List D},mn (L*cR ws i / (wS ws (i::π):Rat)) (cR cs i)=a->iC (gName 6) cE (kU π) [.val wd,.val cd,qv,.val (dq (L-a)),.val (.int (wS ws π)),.own (am.set i (dq a)),.val (.int (i:Nat)),.val (dq (L*cR ws i / (wS ws (i::π):Rat)))]=.ok (.nx [.val wd,.val cd,qv,l',W',.own am',s',t'])->
    iC (gName 6) cE (kU (i::π)) [.val wd,.val cd,qv,.val (dq L),.val (.int (wS ws (i::π))),.own am,s6,s7]=.ok (.nx [.val wd,.val cd,qv,l',W',.own am',s',t']):=fun {a l' W' s' t' am'} ea e=>by
   have tn:=zJW sw sc (qv:=qv) (s7:=s7) (W:=wS ws (i::π)) (am:=am) hW hc hm (zL.mono (by omega)) (by omega) (by omega) hi h4 ea
   rw[e1] at tn;show iC _ _ (.int (i:Nat)::kU π) _=_
   rw[dE rfl tn];exact e
  by_cases hx:L*cR ws i / (wS ws (i::π):Rat)<cR cs i
  ·obtain⟨x1,x2⟩:=zJx pW hx
   generalize hr:L / (wS ws (i::π):Rat)=r at x1 x2;have zr:Sz (m+135) r:=hr ▸ (zL.div zW nW).mono (by omega)
   have eL:L=r*(wS ws (i::π):Rat):=by rw[<-hr,V0 nW]
   have wr:cR ws i*r<=cR cs i:=by
    have e:L*cR ws i / (wS ws (i::π):Rat)=cR ws i*r:=by rw[<-hr];grind
    rw[e] at hx;exact Qf hx
   have later:∀ j∈π,cR ws j*r<=cR cs j:=fun j hj=>zHG (pw i hi) (pw j (h1' j hj)) (p1 j hj) wr
   have gj:∀ j∈i::π,eE (cR cs) (cR ws) r j=cR ws j*r:=fun j hj=>by
    have:cR ws j*r<=cR cs j:=by
     rcases Qd.mp hj with rfl | hj
     ·exact wr
     ·exact later j hj
    unfold eE mn;grind
   have e2:L-cR ws i*r=r*(wS ws π:Rat):=by rw[eL,eW];grind
   obtain⟨l',W',s',t',e⟩:=zDj sw sc (qv:=qv) hm hW hc (zr.mono (by omega)) π (am.set i (dq (cR ws i*r))) (.val (.int (i:Nat))) (.val (dq (L*cR ws i / (wS ws (i::π):Rat)))) h1' later (by omega) (by rw[Q6];exact h4)
   refine⟨r,X5 (by rw[<-eL];exact h8) pW,?_,fun j hj=>?_,l',W',s',t',loop1 (a:=cR ws i*r) (x1.trans x2) ?_⟩
   ·rw[eS gj,eA,nQ,<-eL]
   ·rw[gj j hj]
    have v:=hW.at (h1 j hj);exact(Sz.mul (m:=20) (n:=m+135) (dB (by omega) (by decide)) zr).mono (by omega)
   ·rw[e2,e,Qu,qP,gj i Qb]
    rw[Vy (g:=fun j=>(j,eE (cR cs) (cR ws) r j)) fun j hj=>by rw[gj j (Qc _ hj)]]
  ·have ea:mn (L*cR ws i / (wS ws (i::π):Rat)) (cR cs i)=cR cs i:=Jl hx
   obtain⟨b',g1,g2,g3⟩:=zHe (pw i hi) hx pW h8;have ek2:q-((k+cs.getD i 0:Int):Rat)=L-cR cs i:=by rw[Vq,<-hL];show q-((k:Rat)+cR cs i)=_;grind
   have c0:0<=cR cs i:=by unfold cR;exact_mod_cast c1
   have cL:cR cs i<=L:=by
    have y:=Vv (Vf.mp hx) (Qf pW);rw[V0 nW] at y;have y2:L*cR ws i<=L*(wS ws (i::π):Rat):=Xw (by rw[eW];grind) h6
    exact X5 (Qw y y2) pW
   rw[bH] at h7
   have g3':b' * (wS ws π:Rat)<=L-cR cs i:=by
    rw[eW] at g3;have:cR ws i+(wS ws π:Rat)-cR ws i=(wS ws π:Rat):=by grind
    rw[this] at g3;exact g3
   obtain⟨t,t1,t2,tz,l',W',s',t',e⟩:=zDk sw sc (qv:=qv) hm hW hc hq π (k+cs.getD i 0) b' (am.set i (dq (cR cs i))) (.val (.int (i:Nat))) (.val (dq (L*cR ws i / (wS ws (i::π):Rat)))) h1' p2 (by omega) (by rw[Q6];exact h4) (by omega) (by omega) (by rw[ek2];grind) (by rw[ek2];grind) (by rw[ek2];exact g3')
   have gi:eE (cR cs) (cR ws) t i=cR cs i:=by
    have:=Xw t1 (Qf (pw i hi))
    unfold eE mn;grind
   rw[ek2] at e t2;refine⟨t,Qw g1 t1,?_,fun j hj=>?_,l',W',s',t',loop1 ea ?_⟩
   ·rw[bH,gi,t2];grind
   ·rcases Qd.mp hj with rfl | hj
    ·rw[gi];exact Sz.mono (m:=100) (dB (by omega) (by decide)) (by omega)
    ·exact tz j hj
   ·rw[e,Qu,qP,gi]
theorem zZ{g:Nat->Rat}:∀(π:List Nat)(am:List D)(j:Nat),(qP (π.map fun i=>(i,g i)) am)[j]?=if j∈π then (if j<am.length then some (dq (g j)) else none) else am[j]?
 | [],am,j=>by simp[qP]
 | i::π,am,j=>by
  rw[Qu,qP,zZ π,Q6];by_cases h1:j∈π
  ·rw[Jk h1,Jk (Qc _ h1)]
  ·rw[Jl h1]
   by_cases h2:j=i
   ·subst h2
    rw[Jk Qb];by_cases h3:j<am.length
    ·rw[Jk h3];exact Q9 h3
    ·rw[Jl h3,Qz (by rw[Q6];omega)]
   ·rw[Jl (by simp[h1,h2]),Q7 (fun z=>h2 z.symm)]
theorem zHl{g:Nat->Rat}{π:List Nat}{n:Nat}(h:π.Perm (List.range n)):qP (π.map fun i=>(i,g i)) (List.replicate n (dq 0))=((List.range n).map g).map dq:=by
 refine Ym fun j=>?_
 rw[zZ,Qs,Qs,Xz];by_cases hj:j<n
 ·rw[Jk (h.mem_iff.mpr (Qj.mpr hj)),Jk hj,V7 hj];rfl
 ·rw[Jl (fun z=>hj (Qj.mp (h.mem_iff.mp z))),Qz (by rw[Xz];omega),Qz (by rw[Q3];omega)];rfl
theorem zDX(kz:List Int):∃ π,iO kz π:=by
 refine⟨(List.range kz.length).mergeSort (fun i j=>decide (kz.getD i 0<=kz.getD j 0)),Qac _ _,?_⟩
 have:=Qad (le:=fun i j=>decide (kz.getD i 0<=kz.getD j 0)) (fun a b c h1 h2=>by simp only[J9] at *;omega) (fun a b=>by simp only[Xc,J9];omega) (List.range kz.length)
 exact this.imp fun h=>J8 h
theorem zIk{fs:Fv}{kf:List D->Res (List Int)}{g:Gv}{b r:Sv}{ρ:Rho}{kz:List Int}{x:Res Fl}(h1:(fs ρ).bind kf=.ok kz)(h:∀ π,iO kz π->aZ (fun ρ=>iC g b (kU π) ρ) r ρ=x):zIF fs kf g b r ρ=x:=by
 obtain⟨π,hπ⟩:=zDX kz;unfold zIF;rw[h1];exact zGs hπ h
def uN:List Rat->Int
 | []=>1
 | x::r=>x.den*uN r
def zKt(B:Int)(x:Rat):Int:=x.num*B.fdiv x.den
theorem zGj:∀ {l:List Rat} {x:Rat},x∈l->(x.den:Int) ∣ uN l
 | y::r,x,h=>by
  rcases Qd.mp h with rfl | h
  ·exact⟨uN r,rfl⟩
  ·exact Int.dvd_trans (zGj h) ⟨y.den,Wk _ _⟩
theorem zBt:∀ l:List Rat,0<uN l
 | []=>by decide
 | x::r=>Uf (eU x) (zBt r)
theorem zLW{l:List Rat}{x:Rat}(h:x∈l):((zKt (uN l) x:Int):Rat)=x*(uN l:Rat):=by
 obtain⟨k,hk⟩:=zGj h;have d0:=eU x;unfold zKt;rw[fdiv_pos _ d0,hk,Int.mul_ediv_cancel_left _ (by omega),Vi,Vi]
 have e:x*((x.den:Int):Rat)=(x.num:Rat):=by
  have h1:=V5 x;rw[Xs] at h1
  have h2:((x.den:Int):Rat)≠0:=fun z=>by
   have:(x.den:Int)=0:=by exact_mod_cast z
   omega
  rw[<-V0 (a:=(x.num:Rat)) h2,h1]
 rw[<-e];grind
theorem zDb{a:Sl}:∀(l:List Rat)(B:Int)(s:Sl)(m:Nat),(∀ x∈l,(x.den:Int)<=10^6)->B.natAbs<2^m->m+20*l.length<=1000->
  ∃ s',iC (gName 2) zK (l.map dq) [a,.val (.int B),s]=.ok (.nx [a,.val (.int (B*uN l)),s'])/\(B*uN l).natAbs<2^(m+20*l.length)
 | [],B,s,m,_,h2,_=>⟨s,by rw[Xg,iC,uN,Vt],by rw[uN,Vt];exact h2⟩
 | x::r,B,s,m,h1,h2,h3=>by
  have d1:=h1 x Qb;have d0:=eU x;rw[Qm] at h3;have hx:((x.den:Int)).natAbs<2^20:=by omega
  obtain⟨s',e,hb⟩:=zDb r (B*x.den) (.val (dq x)) (m+20) (fun y hy=>h1 y (Qc _ hy)) (fA h2 hx) (by omega)
  have ed:B*uN (x::r)=B*x.den*uN r:=by rw[uN,Wl]
  refine⟨s',?_,by rw[ed,Qm,show m+20*(r.length+1)=m+20+20*r.length by omega];exact hb⟩
  rw[ed,<-e,Qu];refine dE (ρ1:=[a,.val (.int B),.val (dq x)]) rfl ?_
  symm;rw[oMul_i (bP (m:=m) (n:=20) h2 hx (by omega))];symm
theorem zFY{B:Int}(hB:B.natAbs<2^1000):∀ {l:List Rat},(∀ x∈l,(x.den:Int)<=10^6/\Sz 500 x)->pF B (l.map dq)=.ok (l.map (zKt B))
 | [],_=>rfl
 | x::r,h=>by
  obtain⟨d1,z⟩:=h x Qb;have d0:=eU x;have e1:mM (x.den:Int)=true:=uS (m:=20) (by omega) (by omega) (by decide)
  have e2:kN x.num (B.fdiv x.den)=true:=by
   rw[fdiv_pos _ d0];refine bP (m:=500) (n:=1000) z.1 (Xh ?_ hB) (by decide)
   exact Int.natAbs_ediv_le_natAbs _ _
  have k1:zKv B (dq x)=.ok (zKt B x):=by
   show(if (mM (x.den:Int) && kN x.num (B.fdiv x.den))=true then Res.ok _ else .no)=_
   rw[e1,e2];rfl
  rw[Qu,pF,k1];show((pF B (r.map dq)).bind fun ks=>Res.ok (zKt B x::ks))=_
  rw[zFY hB fun y hy=>h y (Qc _ hy)];rfl
theorem zB{l:List Rat}(h:∀ x∈l,(x.den:Int)<=10^6/\Sz 500 x)(hl:l.length<=12):kC [.lst (l.map dq)]=.ok (l.map (zKt (uN l))):=by
 obtain⟨s',e,hb⟩:=zDb (a:=.val (.lst (l.map dq))) l 1 .un 1 (fun x hx=>(h x hx).1) (by decide) (by omega)
 rw[Int.one_mul] at e hb;have r1:zCn (start 3 [.lst (l.map dq)])=.ok (.nx [.val (.lst (l.map dq)),.val (.int 1),.un]):=rfl
 have r2:wL [.val (.lst (l.map dq)),.val (.int 1),.un]=.ok (.nx [.val (.lst (l.map dq)),.val (.int (uN l)),s']):=by
  symm;exact e
 unfold kC zBb;rw[Jk (show [D.lst (l.map dq)].length=1 from rfl),r1];show(match wL [.val (.lst (l.map dq)),.val (.int 1),.un] with | .ok (.nx ρ')=>zGa ρ' | _=>.no)=_
 rw[r2];show(if (l.map dq).length<64 then pF (uN l) (l.map dq) else .no)=_
 rw[Jk (by rw[Qg];omega)];exact zFY (Qn hb (Vo (by decide) (by omega))) h
def lvs(ws cs:List Int):List Rat:=(cs.zip ws).map fun p=>Rat.divInt p.1 p.2
theorem zBN{ws cs:List Int}(h:ws.length=cs.length):(lvs ws cs).length=cs.length:=by unfold lvs;rw[Qg,Wi,h,Ub]
theorem zJo{ws cs:List Int}{i:Nat}(h:ws.length=cs.length)(hi:i<cs.length):(lvs ws cs)[i]?=some (cR cs i / cR ws i):=by
 unfold lvs;rw[Qs]
 have:(cs.zip ws)[i]?=some (cs.getD i 0,ws.getD i 0):=by
  rw[Qae];exact⟨bL hi,bL (by omega)⟩
 rw[this];show some (Rat.divInt _ _)=_
 rw[Xs];rfl
theorem zFv{t b:Int}(hb:0<b):((Rat.divInt t b).den:Int)<=b:=by
 have e:=zD (t:=t) (b:=b) (by omega)
 have d0:0<=dv t b:=by unfold dv;rw[Jl (by omega)];exact Xa _
 rw[<-e,zNN _ d0];exact Int.ediv_le_self _ (by omega)
theorem zMJ{ws cs:List Int}(hW:Wt ws cs)(hc:∀ c∈cs,0<=c/\c<10^30):∀ x∈lvs ws cs,(x.den:Int)<=10^6/\Sz 500 x:=fun x hx=>by
 obtain⟨p,hp,rfl⟩:=Qp.mp hx;obtain⟨h1,h2⟩:=X9 hp;have c:=hc _ h1;have w1:=hW.lo _ h2;have w2:=hW.up _ h2;have d:=zFv (t:=p.1) (b:=p.2) (by omega)
 exact⟨by omega,Sz.of (by omega) (by omega) (by omega)⟩
theorem xE{ws cs:List Int}{wd cd:D}(sw:Sq wd ws)(sc:Sq cd cs)(hW:Wt ws cs)(hl:cs.length<=12):eR [wd,cd]=.ok (.f ((lvs ws cs).map dq)):=by
 have hw:=hW.len;unfold eR;symm;rw[pH sc.seqo sw.seqo];symm
 rw[nD (u:=D.int) (v:=D.int) (g:=fun c w=>dq (Rat.divInt c w)) (by omega) (fun p hp=>by
  have h2:=(X9 hp).2;have w1:=hW.lo _ h2;have w2:=hW.up _ h2;symm;rw[zDn (n:=20) (by omega) (by omega) (by decide)]
  symm)]
 symm;unfold lvs;rw[Qv];rfl
theorem zAl(ws:List Int):∀ n,n<=ws.length->wS ws (List.range n)=(ws.take n).sum
 | 0,_=>rfl
 | n+1,h=>by
  have e:wS ws (List.range n++[n])=wS ws (List.range n)+ws.getD n 0:=by unfold wS;rw[Vb,Xl];simp
  rw[Wg,e,zAl ws n (by omega),U0,Xl,bL (show n<ws.length by omega)];simp
theorem zBG{ws:List Int}{π:List Nat}(h:π.Perm (List.range ws.length)):wS ws π=ws.sum:=by
 have e:=nQ ws π;rw[vB h,nQ,zAl ws _ (Qh _),V8] at e;have:=Rat.intCast_inj.mp e
 omega
theorem zMo{a b:Sv}{ρ ρ':Rho}(h:a ρ=.ok (.nx ρ')):aZ a b ρ=b ρ':=by unfold aZ;rw[h];rfl
def evs(ws cs:List Int)(t:Rat):List Rat:=(List.range cs.length).map (eE (cR cs) (cR ws) t)
theorem tN{ws cs:List Int}{wd cd:D}(sw:Sq wd ws)(sc:Sq cd cs){q:Rat}{m:Nat}(hmm:m<=3000)(hW:Wt ws cs)(hc:Cl cs)(hq:Sz m q)(h0:0<=q)(h1:q<=(cs.sum:Rat)):∃ t,0<=t/\dN [wd,cd,dq q]=.ok (.f ((evs ws cs t).map dq))/\(evs ws cs t).sum=q/\∀ i,i<cs.length->Sz (m+155) (eE (cR cs) (cR ws) t i):=by
 have hcc:∀ c∈cs,0<=c/\c<10^30:=fun c h=>⟨hc.nn c h,hc.up c h⟩
 have hi:=hc.hi;have hw:=hW.len;have hkr:=zB (zMJ hW hcc) (by rw[zBN hw];exact hi)
 generalize hkz:(lvs ws cs).map (zKt (uN (lvs ws cs)))=kz at hkr;have lz:kz.length=cs.length:=by rw[<-hkz,Qg,zBN hw]
 have pw:∀ j,j<cs.length->0<cR ws j:=fun j hj=>by
  have:=(hW.at hj).1
  unfold cR;exact_mod_cast (show 0<ws.getD j 0 by omega)
 have one:∀ π,iO kz π->∃ t,0<=t/\jG (eE (cR cs) (cR ws) t) (List.range cs.length)=q/\(∀ i,i<cs.length->Sz (m+155) (eE (cR cs) (cR ws) t i))/\aZ (fun ρ=>iC (gName 6) cE (kU π) ρ) kW [.val wd,.val cd,.val (dq q),.val (dq q),.val (.int ws.sum),.own (List.replicate cs.length (dq 0)),.un,.un]=.ok (.ret (.f ((evs ws cs t).map dq))):=by
  intro π hπ;obtain⟨hp,ho⟩:=hπ;rw[lz] at hp;have hm:∀ i∈π,i<cs.length:=fun i h=>Qj.mp (hp.mem_iff.mp h)
  have hl:π.length=cs.length:=by rw[hp.length_eq,Q3]
  have B0:=zBt (lvs ws cs);have B0':(0:Rat)<(uN (lvs ws cs):Rat):=by exact_mod_cast B0
  have kat:∀ i,i<cs.length->((kz.getD i 0:Int):Rat)=cR cs i / cR ws i*(uN (lvs ws cs):Rat):=fun i h=>by
   have e:=zJo hw h;have e2:kz.getD i 0=zKt (uN (lvs ws cs)) (cR cs i / cR ws i):=by rw[<-hkz,Qy,Qs,e];rfl
   rw[e2];exact zLW (Qi e)
  have ord:π.Pairwise (fun i j=>cR cs i*cR ws j<=cR cs j*cR ws i):=by
   refine Yj (fun {i j} h1 h2 h3=>?_) ho
   have h4:((kz.getD i 0:Int):Rat)<=((kz.getD j 0:Int):Rat):=Xm.mpr h3;rw[kat i (hm i h1),kat j (hm j h2)] at h4;have h5:=X5 h4 B0';have wi:=pw i (hm i h1);have wj:=pw j (hm j h2);have h6:=Vv h5 (Qf (U2 wi wj));have e1:cR cs i / cR ws i*(cR ws i*cR ws j)=cR cs i*cR ws j:=by grind
   have e2:cR cs j / cR ws j*(cR ws i*cR ws j)=cR cs j*cR ws i:=by grind
   rwa [e1,e2] at h6
  have hW':wS ws π=ws.sum:=zBG (by rw[hw];exact hp)
  have hC':jG (cR cs) π=(cs.sum:Rat):=by rw[nQ,zBG hp]
  have z0:q-((0:Int):Rat)=q:=by rw[show((0:Int):Rat)=0 from rfl];grind
  obtain⟨t,t1,t2,tz,l',W',s',t',e⟩:=zDk sw sc (qv:=.val (dq q)) hmm hW hcc hq π 0 0 (List.replicate cs.length (dq 0)) .un .un hm ord (by omega) (by rw[Xz]) (by decide) (by rw[hl];omega) (by rw[z0];exact h0) (by rw[z0,hC'];exact h1) (by rw[z0];grind)
  rw[z0,hW'] at e;rw[z0] at t2;refine⟨t,t1,by rw[<-vB hp];exact t2,fun i h=>tz i (hp.mem_iff.mpr (Qj.mpr h)),?_⟩
  refine(zMo (a:=fun ρ=>iC (gName 6) cE (kU π) ρ) e).trans ?_
  rw[zHl hp];rfl
 obtain⟨π0,hπ0⟩:=zDX kz;obtain⟨t,t1,t2,tz,e0⟩:=one π0 hπ0;have pw':∀ i∈List.range cs.length,0<cR ws i:=fun i h=>pw i (Qj.mp h)
 refine⟨t,t1,?_,t2,tz⟩
 unfold dN;symm;rw[sw.sum];symm;rw[sc.len];symm;rw[zFi (by omega)];symm
 have hfs:Res.bind ((aD (eF (dI eR (aD (aG 0) (aD (aG 1) aNil)))) aNil) [.val wd,.val cd,.val (dq q),.val (dq q),.val (.int ws.sum),.own (List.replicate cs.length (dq 0)),.un,.un]) kC=.ok kz:=by
  symm;rw[xE sw sc hW hi];symm;exact hkr
 have hall:∀ π,iO kz π->aZ (fun ρ=>iC (gName 6) cE (kU π) ρ) kW [.val wd,.val cd,.val (dq q),.val (dq q),.val (.int ws.sum),.own (List.replicate cs.length (dq 0)),.un,.un]=.ok (.ret (.f ((evs ws cs t).map dq))):=fun π hπ=>by
  obtain⟨u,_,u2,_,eu⟩:=one π hπ;rw[eu];unfold evs;rw[Vy (zAA pw' (u2.trans t2.symm))]
 unfold pB;rw[zIk hfs hall];rfl
def ones(cs:List Int):List Int:=List.replicate cs.length 1
theorem fM(cs:List Int):Wt (ones cs) cs:=⟨Xz,fun w h=>by rw[(List.mem_replicate.mp h).2];decide,fun w h=>by rw[(List.mem_replicate.mp h).2];decide⟩
def hf:Rat:=Rat.divInt 1 2
theorem iP:hf=1 / 2:=by unfold hf;rw[Xs];rfl
theorem zPz:d_HALF=dq hf:=zPx (b:=2) (by decide)
theorem zEK:Sz 2 hf:=Sz.of (by decide) (by decide) (by decide)
theorem dbl(q:Rat):q+q=q*((2:Int):Rat):=by rw[show((2:Int):Rat)=2 from rfl];grind
theorem zKn{q:Rat}{n:Nat}(h:Sz n q):Sz (n+2) (q+q):=by rw[dbl];exact h.mul (dB (by decide) (by decide))
def hvs(cs:List Int)(t:Rat):List Rat:=(List.range cs.length).map fun i=>eE (cR cs) (cR (ones cs)) t i*hf
structure Lvl (M:Nat) (ws cs:List Int) (q t:Rat):Prop where
 nn:0<=t
 sum:(evs ws cs t).sum=q
 sz:∀ i,i<cs.length->Sz M (eE (cR cs) (cR ws) t i)
theorem zCi{cs:List Int}{cd:D}(sc:Sq cd cs){q:Rat}{m:Nat}(hm:m<=2990)(hc:Cl cs)(hq:Sz m q)(h0:0<=q)(h1:q+q<=(cs.sum:Rat)):∃ t,Lvl (m+157) (ones cs) cs (q+q) t/\fR [cd,dq q]=.ok (.f ((hvs cs t).map dq)):=by
 have hi:=hc.hi;obtain⟨t,t1,e,t2,tz⟩:=tN (wd:=.lst ((ones cs).map D.int)) (.inl rfl) sc (m:=m+2) (by omega) (fM cs) hc (zKn hq) (by grind) h1
 refine⟨t,⟨t1,t2,fun i h=>(tz i h).mono (by omega)⟩,?_⟩
 have eo:(ones cs).map D.int=List.replicate cs.length (.int 1):=by unfold ones;rw[List.map_replicate]
 rw[eo] at e;have hh:=zPz;unfold d_HALF at hh;unfold fR;symm;rw[sc.len];symm;rw[zFi (by omega)];symm;rw[zDa hq hq (by omega)];symm;rw[e];symm;rw[show(evs (ones cs) cs t).map dq=(List.range cs.length).map (fun i=>dq (eE (cR cs) (cR (ones cs)) t i)) by unfold evs;rw[Qv];rfl]
 rw[fH (u:=fun i=>dq (eE (cR cs) (cR (ones cs)) t i)) (g:=fun i=>dq (eE (cR cs) (cR (ones cs)) t i*hf)) (by rw[Q3];omega) (fun i h=>by
  have hil:=Qj.mp h;symm;rw[hh,nY (tz i hil) zEK (by omega)]
  symm)]
 symm;unfold hvs;rw[Qv];rfl
theorem Lvl.mono{M M':Nat}{ws cs:List Int}{q t:Rat}(h:Lvl M ws cs q t)(l:M<=M'):Lvl M' ws cs q t:=⟨h.nn,h.sum,fun i hi=>(h.sz i hi).mono l⟩
theorem vI{w v:Str}(h:aW.lookup w=some v):eQ [.str w]=.ok (.v .non):=by
 unfold eQ;symm;rw[h];rfl
theorem wU{cs:List Int}{cd:D}(sc:Sq cd cs)(hc:Cl cs):eK [cd]=.ok (.v .non):=by
 have lo:=hc.lo;unfold eK;symm;rw[sc.len];symm;rw[Jj (by omega)];symm;rw[sc.seq];symm;refine zEw (Q:=fun r=>r=(.ok (.v .non):Res Rt)) (fun ρ=>∃ a,ρ=[.val cd,a]) ⟨_,rfl⟩ ?_ ?_
 ·rintro e ρ he ⟨a,rfl⟩
  obtain⟨c,h,rfl⟩:=Qp.mp he;have:=hc.nn c h
  refine⟨_,?_,.val (.int c),rfl⟩
  symm;rw[Jj (by omega)];symm
 ·rintro ρ ⟨a,rfl⟩
  rfl
theorem mH{q:Rat}{W:Int}{m:Nat}(hm:m<=3000)(h:Haul m q W)(hW:W.natAbs<2^110):aU [dq q,dq (W:Rat)]=.ok (.v .non):=by
 have z0:Sz 1 (0:Rat):=⟨by decide,by decide⟩
 have zW:Sz 110 (W:Rat):=dB hW (by decide)
 have n1:¬ q<0:=Vf.mpr h.nn;have n2:¬ (W:Rat)<q:=Vf.mpr h.up
 have io:eN [dq q,dq (W:Rat)]=.ok (.v (.bl false)):=by
  unfold eN;symm;rw[kK h.sz z0 (by omega),Jj n1];symm;rw[kK zW h.sz (by omega),Jj n2];symm
 unfold aU;symm;rw[io];symm
theorem mX{α β:Type}(l:List α)(f:Nat->β)(d:α):l.zip ((List.range l.length).map f)=(List.range l.length).map fun i=>(l.getD i d,f i):=by
 refine Ym fun i=>?_
 rw[Qs];by_cases h:i<l.length
 ·rw[V7 h]
  refine Qae.mpr ⟨?_,by rw[Qs,V7 h];rfl⟩
  show l[i]?=some (l.getD i d)
  rw[Qy,Qo h];rfl
 ·rw[Qz (by rw[Wi];omega),Qz (by rw[Q3];omega)];rfl
theorem jY{w:Str}{d:D}{n:Int}(hd:d=.lst []∨d=.tup [])(hw:oIn (.str w) d_WEIGHTED=.ok (.bl false)):bX [.str w,d,.int n]=.ok (.v .non):=by
 have sq:zLS d=.ok []:=by rcases hd with rfl | rfl<;>rfl
 have ln:mP [d]=.ok (.int 0):=by rcases hd with rfl | rfl<;>rfl
 unfold d_WEIGHTED at hw;unfold bX;symm;rw[hw];symm;rw[ln];symm;rw[sq];rfl
theorem zTr:oV 10 6=true:=by decide
theorem qX{w:Str}{ws cs:List Int}{wd:D}(sw:Sq wd ws)(hW:Wt ws cs)(hw:oIn (.str w) d_WEIGHTED=.ok (.bl true)):bX [.str w,wd,.int cs.length]=.ok (.v .non):=by
 have hl:=hW.len;unfold d_WEIGHTED at hw;unfold bX;symm;rw[hw];symm;rw[sw.len];symm;rw[hl,J6 rfl];symm;rw[sw.seq];symm;refine zEw (Q:=fun r=>r=(.ok (.v .non):Res Rt)) (fun ρ=>∃ a,ρ=[.val (.str w),.val wd,.val (.int cs.length),.val (.int cs.length),a]) ⟨_,rfl⟩ ?_ ?_
 ·rintro e ρ he ⟨a,rfl⟩
  obtain⟨c,h,rfl⟩:=Qp.mp he;have h1:=hW.lo c h;have h2:=hW.up c h;refine⟨_,?_,.val (.int c),rfl⟩
  symm;rw[Jj (by omega)];symm;rw[oPow_i zTr];symm;rw[Jj (by omega)];symm
 ·rintro ρ ⟨a,rfl⟩
  rfl
theorem zTj:(Str.ofString "even" == Str.ofString "row")=false:=by decide
theorem zTf:(Str.ofString "lack" == Str.ofString "row")=false:=by decide
theorem zTb:(Str.ofString "lack" == Str.ofString "even")=false:=by decide
theorem zTl:(Str.ofString "lack" == Str.ofString "part")=false:=by decide
theorem zTk:(Str.ofString "lack" == Str.ofString "half")=false:=by decide
theorem zGc:(aW.lookup (Str.ofString "even"))=some (Str.ofString "lack"):=by decide
theorem zBi:(aW.lookup (Str.ofString "lack"))=some (Str.ofString "even"):=by decide
theorem zMm{n:Nat}{ws cs:List Int}{wd cd:D}(sw:Sq wd ws)(sc:Sq cd cs){q:Rat}{m:Nat}(hm:m<=3000)(hW:Wt ws cs)(hc:Cl cs)(hq:Sz m q)(h0:0<=q)(h1:q<=(cs.sum:Rat)):∃ t,Lvl (m+155) ws cs q t/\aQ (n+1) [.str (Str.ofString "even"),wd,cd,dq q]=.ok (.f ((evs ws cs t).map dq)):=by
 obtain⟨t,t1,e,t2,tz⟩:=tN sw sc hm hW hc hq h0 h1;refine⟨t,⟨t1,t2,tz⟩,?_⟩
 show aV (aQ n) _=_
 unfold aV;symm;rw[sc.sum];symm;rw[bZ];symm;rw[zTj];symm;rw[e];symm
def lks(ws cs:List Int)(t:Rat):List Rat:=(cs.zip (evs ws cs t)).map fun p=>(p.1:Rat)-p.2
theorem zRu(ws cs:List Int)(t:Rat):lks ws cs t=(List.range cs.length).map fun i=>cR cs i-eE (cR cs) (cR ws) t i:=by
 unfold lks evs;rw[mX cs _ 0,Qv];rfl
theorem zQe{n:Nat}{ws cs:List Int}{wd cd:D}(sw:Sq wd ws)(sc:Sq cd cs){q:Rat}{m:Nat}(hm:m<=2890)(hW:Wt ws cs)(hc:Cl cs)(hq:Haul m q cs.sum):∃ t,Lvl (m+261) ws cs ((cs.sum:Rat)-q) t/\aQ (n+2) [.str (Str.ofString "lack"),wd,cd,dq q]=.ok (.f ((lks ws cs t).map dq)):=by
 have sm:=hc.sum;have hi:=hc.hi;have zW:Sz 105 (cs.sum:Rat):=dB (by omega) (by decide)
 have zT:Sz (m+106) ((cs.sum:Rat)-q):=(zW.sub hq.sz).mono (by omega)
 have u:=hq.up;have u':=hq.nn;obtain⟨t,tl,e⟩:=zMm sw sc (n:=n) (m:=m+106) (by omega) hW hc zT (by grind) (by grind)
 refine⟨t,tl,?_⟩
 show aV (aQ (n+1)) _=_
 unfold aV;symm;rw[sc.sum];symm;rw[bZ];symm;rw[zTf];symm;rw[zTb];symm;rw[zTl];symm;rw[zTk];symm;rw[show wZ aW (.str (Str.ofString "lack"))=.ok (.str (Str.ofString "even")) by show zPm (aW.lookup (Str.ofString "lack"))=_;rw[zBi];rfl];symm;rw[eV zW hq.sz (by omega)];symm;rw[e];symm;rw[pH sc.seqo rfl];symm
 rw[nD (u:=D.int) (v:=dq) (g:=fun c l=>dq ((c:Rat)-l)) (by omega) (fun p hp=>by
  have hp':=hp;unfold evs at hp';rw[mX cs _ 0] at hp';obtain⟨i,hir,rfl⟩:=Qp.mp hp';have hil:=Qj.mp hir;have c1:=hc.nn _ (Qi (bL hil));have c2:=hc.up _ (Qi (bL hil));symm;rw[bZ];symm;rw[eV (m:=100) (n:=m+261) (dB (by omega) (by decide)) (tl.sz i hil) (by omega)]
  symm)]
 symm;unfold lks;rw[Qv];rfl
theorem zSc:(Str.ofString "half" == Str.ofString "row")=false:=by decide
theorem zSo:(Str.ofString "half" == Str.ofString "even")=false:=by decide
theorem zSD:(Str.ofString "half" == Str.ofString "part")=false:=by decide
theorem zAr:(aW.lookup (Str.ofString "half"))=some (Str.ofString "half"):=by decide
theorem zIb{n:Nat}{e:D}{cs:List Int}{cd:D}(sc:Sq cd cs){q:Rat}{m:Nat}(hm:m<=2990)(hc:Cl cs)(hq:Sz m q)(h0:0<=q)(h1:q+q<=(cs.sum:Rat)):∃ t,Lvl (m+157) (ones cs) cs (q+q) t/\aQ (n+1) [.str (Str.ofString "half"),e,cd,dq q]=.ok (.f ((hvs cs t).map dq)):=by
 have sm:=hc.sum;have zW:Sz 105 (cs.sum:Rat):=dB (by omega) (by decide)
 obtain⟨t,tl,ee⟩:=zCi sc hm hc hq h0 h1;refine⟨t,tl,?_⟩
 show aV (aQ n) _=_
 unfold aV;symm;rw[sc.sum];symm;rw[bZ];symm;rw[zSc];symm;rw[zSo];symm;rw[zSD];symm;rw[zDa hq hq (by omega)];symm;rw[kK zW (zKn hq) (by omega),Jj (Vf.mpr h1)];symm;rw[ee];symm
def lhs(cs:List Int)(t:Rat):List Rat:=(List.range cs.length).map fun i=>cR cs i-eE (cR cs) (cR (ones cs)) t i*hf
theorem zNW{n:Nat}{e:D}{cs:List Int}{cd:D}(sc:Sq cd cs){q:Rat}{m:Nat}(hm:m<=2880)(hc:Cl cs)(hq:Haul m q cs.sum)(h1:(cs.sum:Rat)<q+q):∃ t,Lvl (m+263) (ones cs) cs (((cs.sum:Rat)-q)+((cs.sum:Rat)-q)) t/\aQ (n+2) [.str (Str.ofString "half"),e,cd,dq q]=.ok (.f ((lhs cs t).map dq)):=by
 have sm:=hc.sum;have hi:=hc.hi;have zW:Sz 105 (cs.sum:Rat):=dB (by omega) (by decide)
 have zT:Sz (m+106) ((cs.sum:Rat)-q):=(zW.sub hq.sz).mono (by omega)
 have u:=hq.up;obtain⟨t,tl,ee⟩:=zIb sc (n:=n) (e:=e) (m:=m+106) (by omega) hc zT (by grind) (by grind)
 refine⟨t,tl,?_⟩
 show aV (aQ (n+1)) _=_
 unfold aV;symm;rw[sc.sum];symm;rw[bZ];symm;rw[zSc];symm;rw[zSo];symm;rw[zSD];symm;rw[zDa hq.sz hq.sz (by omega)];symm;rw[kK zW (zKn hq.sz) (by omega),J6 h1];symm;rw[show wZ aW (.str (Str.ofString "half"))=.ok (.str (Str.ofString "half")) by show zPm (aW.lookup (Str.ofString "half"))=_;rw[zAr];rfl];symm;rw[eV zW hq.sz (by omega)];symm;rw[ee];symm;rw[pH sc.seqo rfl];symm
 rw[nD (u:=D.int) (v:=dq) (g:=fun c l=>dq ((c:Rat)-l)) (by omega) (fun p hp=>by
  have hp':=hp;unfold hvs at hp';rw[mX cs _ 0] at hp';obtain⟨i,hir,rfl⟩:=Qp.mp hp';have hil:=Qj.mp hir;have c1:=hc.nn _ (Qi (bL hil));have c2:=hc.up _ (Qi (bL hil));symm;rw[bZ];symm;rw[eV (m:=100) (n:=m+263+2) (dB (by omega) (by decide)) ((tl.sz i hil).mul zEK) (by omega)]
  symm)]
 symm;unfold hvs lhs;rw[mX cs _ 0,Qv,Qv];rfl
theorem zTh:(Str.ofString "back" == Str.ofString "row")=false:=by decide
theorem zSP:(Str.ofString "back" == Str.ofString "even")=false:=by decide
theorem zTa:(Str.ofString "back" == Str.ofString "part")=false:=by decide
theorem zTe:(Str.ofString "back" == Str.ofString "half")=false:=by decide
theorem zSW:(Str.ofString "part" == Str.ofString "row")=false:=by decide
theorem zTm:(Str.ofString "part" == Str.ofString "even")=false:=by decide
theorem zIr:(aW.lookup (Str.ofString "row"))=some (Str.ofString "back"):=by decide
theorem zAO:(aW.lookup (Str.ofString "back"))=some (Str.ofString "row"):=by decide
theorem zFT:(aW.lookup (Str.ofString "part"))=some (Str.ofString "part"):=by decide
theorem zQj{n:Nat}{d e:D}{cs:List Int}{q:Rat}(hd:d=.lst (cs.map D.int)∨d=.tup (cs.map D.int)){m:Nat}(hm:m<=3000)(hc:Cl cs)(hq:Sz m q)(h0:0<=q):aQ (n+1) [.str (Str.ofString "row"),e,d,dq q]=.ok (.f ((jK cs 0 q).map dq)):=by
 have su:zBU [d]=.ok (.int cs.sum):=by rcases hd with rfl | rfl;exact bSum_l;exact bSum_t
 show aV (aQ n) _=_
 unfold aV;symm;rw[su];symm;rw[bZ];symm;rw[zEo hd hm hc hq h0];symm
theorem zPT{n:Nat}{d e:D}{cs:List Int}{q:Rat}(hd:d=.lst (cs.map D.int)∨d=.tup (cs.map D.int)){m:Nat}(hm:m<=3000)(hc:Cl cs)(hq:Sz m q):aQ (n+1) [.str (Str.ofString "part"),e,d,dq q]=.ok (.f ((zBx cs q).map dq)):=by
 have su:zBU [d]=.ok (.int cs.sum):=by rcases hd with rfl | rfl;exact bSum_l;exact bSum_t
 show aV (aQ n) _=_
 unfold aV;symm;rw[su];symm;rw[bZ];symm;rw[zSW];symm;rw[zTm];symm;rw[zCH hd hm hc hq];symm
theorem zMd(f g:Nat->Rat):∀ n:Nat,((List.range n).map fun i=>f i-g i).sum=((List.range n).map f).sum-((List.range n).map g).sum
 | 0=>by simp only[List.range_zero,Xg,Wm];grind
 | n+1=>by
  rw[Wg,Vb,Vb,Vb,Xl,Xl,Xl,zMd f g n];simp only[Qu,Xg,Q8,Wm];grind
theorem tT(cs:List Int):((List.range cs.length).map (cR cs)).sum=(cs.sum:Rat):=by
 have e:=nQ cs (List.range cs.length);rw[zAl cs _ (Qh _),V8] at e;exact e
theorem pQ{ws cs:List Int}{t:Rat}(hW:Wt ws cs)(hc:Cl cs)(h0:0<=t){i:Nat}(hi:i<cs.length):0<=eE (cR cs) (cR ws) t i/\eE (cR cs) (cR ws) t i<=cR cs i:=by
 have w:=(hW.at hi).1;have c:=hc.nn _ (Qi (bL hi));have w':(0:Rat)<=cR ws i:=by unfold cR;exact_mod_cast (show 0<=ws.getD i 0 by omega)
 have c':(0:Rat)<=cR cs i:=by unfold cR;exact_mod_cast c
 have:=Ug w' h0
 unfold eE mn;grind
theorem zLV(x:Rat):(x.num:Rat)=x*((x.den:Int):Rat):=by
 have d0:=eU x
 have nd:((x.den:Int):Rat)≠0:=fun z=>by
  have:(x.den:Int)=0:=by exact_mod_cast z
  omega
 have h1:=V5 x;rw[Xs] at h1;rw[<-V0 (a:=(x.num:Rat)) nd,h1]
theorem zJD{l:List Rat}{n:Nat}(h:l.length=n):l=(List.range n).map fun i=>l.getD i 0:=by
 refine Ym fun i=>?_
 rw[Qs];by_cases hi:i<n
 ·rw[V7 hi,Qo (by omega)]
  show _=some (l.getD i 0)
  rw[Qy,Qo (by omega)];rfl
 ·rw[Qz (by omega),Qz (by rw[Q3];omega)];rfl
def zFH(cs:List Int)(q:Rat)(i:Nat):Rat:=(jK cs 0 q).getD i 0
theorem zIX:∀(cs:List Int)(a:Int)(q:Rat)(i:Nat),(∀ c∈cs,0<=c)->i<cs.length->0<=(jK cs a q).getD i 0/\(jK cs a q).getD i 0<=cR cs i
 | c::r,a,q,0,h,_=>by
  have c0:(0:Rat)<=(c:Rat):=by exact_mod_cast h c Qb
  show 0<=mn (ps0 (q-(a:Rat))) (c:Rat)/\mn (ps0 (q-(a:Rat))) (c:Rat)<=(c:Rat)
  unfold mn ps0;grind
 | c::r,a,q,i+1,h,hi=>zIX r (a+c) q i (fun x hx=>h x (Qc _ hx)) (by rw[Qm] at hi;omega)
theorem wD:∀(cs:List Int)(a:Int){q q':Rat}(i:Nat),q<=q'->(jK cs a q).getD i 0<=(jK cs a q').getD i 0
 | [],_,_,_,_,_=>Qe
 | c::r,a,q,q',0,h=>by
  show mn (ps0 (q-(a:Rat))) (c:Rat)<=mn (ps0 (q' - (a:Rat))) (c:Rat)
  unfold mn ps0;grind
 | c::r,a,q,q',i+1,h=>wD r (a+c) i h
theorem zFB:∀(cs:List Int)(a:Int)(q:Rat),(∀ c∈cs,0<=c)->0<=cs.sum/\(jK cs a q).sum=mn (ps0 (q-(a:Rat))) (cs.sum:Rat)
 | [],a,q,_=>⟨Yn _,by show(0:Rat)=mn (ps0 _) ((0:Int):Rat);rw[show((0:Int):Rat)=0 from rfl];unfold mn ps0;grind⟩
 | c::r,a,q,h=>by
  have c0:=h c Qb;obtain⟨s0,e⟩:=zFB r (a+c) q fun x hx=>h x (Qc _ hx)
  have c0':(0:Rat)<=(c:Rat):=by exact_mod_cast c0
  have s0':(0:Rat)<=(r.sum:Rat):=by exact_mod_cast s0
  rw[Q8];refine⟨by omega,?_⟩
  rw[jK,Q8,e,Vq,Vq];unfold mn ps0;grind
theorem zJf{q:Rat}{m:Nat}(hq:Sz m q):∀(cs:List Int)(a:Int),(∀ c∈cs,0<=c)->(∀ c∈cs,c<10^30)->0<=a->a+cs.length*10^30<2^110->∀ x∈jK cs a q,Sz (m+111) x
 | [],_,_,_,_,_,x,hx=>by cases hx
 | c::r,a,h1,h2,h3,h4,x,hx=>by
  have c0:=h1 c Qb;have c1:=h2 c Qb;rw[Qm] at h4;have e4:((r.length+1:Nat):Int)*10^30=(r.length:Int)*10^30+10^30:=by rw[Yo,Yp];rfl
  have r0:0<=(r.length:Int)*10^30:=Ue (by omega) (by decide)
  rw[jK] at hx;rcases Qd.mp hx with rfl | hx
  ·exact zNI (zRd (hq.sub (dB (n:=110) (by omega) (by decide))) (by omega)) (Sz.mono (m:=100) (dB (by omega) (by decide)) (by omega))
  ·exact zJf hq r (a+c) (fun x hx=>h1 x (Qc _ hx)) (fun x hx=>h2 x (Qc _ hx)) (by omega) (by omega) x hx
theorem zDO{cs:List Int}{q:Rat}{m:Nat}(hc:Cl cs)(hq:Sz m q)(h0:0<=q)(h1:q<=(cs.sum:Rat)):(jK cs 0 q=(List.range cs.length).map (zFH cs q))/\(jK cs 0 q).sum=q/\∀ x∈jK cs 0 q,Sz (m+111) x:=by
 have hi:=hc.hi;refine⟨zJD (zDA _ _ _),?_,zJf hq cs 0 hc.nn hc.up (by decide) (by omega)⟩
 rw[(zFB cs 0 q hc.nn).2,show((0:Int):Rat)=0 from rfl];unfold mn ps0;grind
theorem zQu{n:Nat}{e:D}{cs:List Int}{cd:D}(sc:Sq cd cs){q:Rat}{m:Nat}(hm:m<=2890)(hc:Cl cs)(hq:Haul m q cs.sum):aQ (n+2) [.str (Str.ofString "back"),e,cd,dq q]=.ok (.f (((List.range cs.length).map fun i=>cR cs i-zFH cs ((cs.sum:Rat)-q) i).map dq)):=by
 have sm:=hc.sum;have hi:=hc.hi;have zW:Sz 105 (cs.sum:Rat):=dB (by omega) (by decide)
 have zT:Sz (m+106) ((cs.sum:Rat)-q):=(zW.sub hq.sz).mono (by omega)
 have u:=hq.up;have u':=hq.nn;obtain⟨r1,r2,r3⟩:=zDO hc zT (by grind) (by grind)
 have ee:=zQj (n:=n) (e:=e) sc (m:=m+106) (by omega) hc zT (by grind)
 show aV (aQ (n+1)) _=_
 unfold aV;symm;rw[sc.sum];symm;rw[bZ];symm;rw[zTh];symm;rw[zSP];symm;rw[zTa];symm;rw[zTe];symm;rw[show wZ aW (.str (Str.ofString "back"))=.ok (.str (Str.ofString "row")) by show zPm (aW.lookup (Str.ofString "back"))=_;rw[zAO];rfl];symm;rw[eV zW hq.sz (by omega)];symm;rw[ee];symm;rw[pH sc.seqo rfl];symm
 rw[nD (u:=D.int) (v:=dq) (g:=fun c l=>dq ((c:Rat)-l)) (by omega) (fun p hp=>by
  obtain⟨p1,p2⟩:=X9 hp;have c1:=hc.nn _ p1;have c2:=hc.up _ p1;symm;rw[bZ];symm;rw[eV (m:=100) (n:=m+106+111) (dB (by omega) (by decide)) (r3 _ p2) (by omega)]
  symm)]
 symm;rw[r1,mX cs _ 0,Qv,Qv];rfl
def kM(cs:List Int)(q:Rat)(i:Nat):Rat:=(zBx cs q).getD i 0
theorem zFf{cs:List Int}{q:Rat}{i:Nat}(hi:i<cs.length):kM cs q i=Rat.divInt (cs.getD i 0*q.num) (max 1 cs.sum*q.den):=by
 unfold kM zBx;rw[Qy,Qs,bL hi];rfl
theorem jN{cs:List Int}{q:Rat}(hc:Cl cs){i:Nat}(hi:i<cs.length):kM cs q i*(cs.sum:Rat)=q*cR cs i/\(cs.sum=0->kM cs q i=0):=by
 have sm:=hc.sum;have e:=zFf (q:=q) hi;by_cases z:cs.sum=0
 ·have c0:=rG hc.nn z _ (Qi (bL hi))
  have p0:kM cs q i=0:=by rw[e,c0,Int.zero_mul,U5]
  refine⟨?_,fun _=>p0⟩
  rw[p0];unfold cR;rw[c0,show((0:Int):Rat)=0 from rfl];grind
 ·have W0:0<cs.sum:=by omega
  have nW:(cs.sum:Rat)≠0:=fun y=>by
   have:cs.sum=0:=by exact_mod_cast y
   omega
  refine⟨?_,fun y=>absurd y z⟩
  rw[e,Int.max_eq_right (by omega),<-zJC W0];show q / (cs.sum:Rat)*cR cs i*(cs.sum:Rat)=_
  grind
theorem zJB{cs:List Int}{q:Rat}{m:Nat}(hc:Cl cs)(hq:Sz m q){i:Nat}(hi:i<cs.length):Sz (m+370) (kM cs q i):=by
 have sm:=hc.sum;have c1:=hc.nn _ (Qi (bL hi));have c2:=hc.up _ (Qi (bL hi));rw[zFf hi];have d0:=eU q;have p:=Uf (show 0<max 1 cs.sum by omega) d0
 exact Sz.of (by omega) (Qn (fA (m:=100) (n:=m) (by omega) hq.1) (Vo (by decide) (by omega))) (Qn (fA (m:=110) (n:=m) (by omega) hq.d) (Vo (by decide) (by omega)))
inductive Wy where
 | row | back | even | lack | part | half
def Wy.s:Wy->Str
 | .row=>Str.ofString "row"
 | .back=>Str.ofString "back"
 | .even=>Str.ofString "even"
 | .lack=>Str.ofString "lack"
 | .part=>Str.ofString "part"
 | .half=>Str.ofString "half"
def Wy.due(w:Wy)(ws cs:List Int):Prop:=match w with
 | .even=>Wt ws cs
 | .lack=>Wt ws cs
 | _=>ws=[]
def Al(M:Nat)(ws cs:List Int)(q:Rat)(f:Nat->Rat):Wy->Prop
 | .row=>∀ i,i<cs.length->f i=zFH cs q i
 | .back=>∀ i,i<cs.length->f i=cR cs i-zFH cs ((cs.sum:Rat)-q) i
 | .even=>∃ t,Lvl M ws cs q t/\∀ i,i<cs.length->f i=eE (cR cs) (cR ws) t i
 | .lack=>∃ t,Lvl M ws cs ((cs.sum:Rat)-q) t/\∀ i,i<cs.length->f i=cR cs i-eE (cR cs) (cR ws) t i
 | .part=>∀ i,i<cs.length->f i=kM cs q i
 | .half=>∃ t,(q+q<=(cs.sum:Rat)/\Lvl M (ones cs) cs (q+q) t/\∀ i,i<cs.length->f i=eE (cR cs) (cR (ones cs)) t i*hf)∨((cs.sum:Rat)<q+q/\Lvl M (ones cs) cs (((cs.sum:Rat)-q)+((cs.sum:Rat)-q)) t/\∀ i,i<cs.length->f i=cR cs i-eE (cR cs) (cR (ones cs)) t i*hf)
theorem zDc{w:Wy}{ws cs:List Int}{wd cd:D}(sw:Sq wd ws)(sc:Sq cd cs){q:Rat}{m:Nat}(hm:m<=2880)(hw:w.due ws cs)(hc:Cl cs)(hq:Haul m q cs.sum):∃ f,aQ 2 [.str w.s,wd,cd,dq q]=.ok (.f (((List.range cs.length).map f).map dq))/\Al (m+263) ws cs q f w:=by
 have z:=hq.sz
 cases w with
 | row=>exact⟨zFH cs q,by rw[<-(zDO hc z hq.nn hq.up).1];exact zQj sc (by omega) hc z hq.nn,fun i _=>rfl⟩
 | back=>exact⟨_,zQu sc (by omega) hc hq,fun i _=>rfl⟩
 | even=>
  obtain⟨t,tl,e⟩:=zMm sw sc (n:=1) (by omega) hw hc z hq.nn hq.up
  exact⟨_,e,t,tl.mono (by omega),fun i _=>rfl⟩
 | lack=>
  obtain⟨t,tl,e⟩:=zQe sw sc (n:=0) (by omega) hw hc hq
  rw[zRu] at e;exact⟨_,e,t,tl.mono (by omega),fun i _=>rfl⟩
 | part=>
  refine⟨kM cs q,?_,fun i _=>rfl⟩
  have e:zBx cs q=(List.range cs.length).map (kM cs q):=zJD (by unfold zBx;rw[Qg])
  rw[<-e];exact zPT sc (by omega) hc z
 | half=>
  by_cases h:(cs.sum:Rat)<q+q
  ·obtain⟨t,tl,e⟩:=zNW sc (n:=0) (e:=wd) (by omega) hc hq h
   exact⟨_,e,t,.inr ⟨h,tl,fun i _=>rfl⟩⟩
  ·obtain⟨t,tl,e⟩:=zIb sc (n:=1) (e:=wd) (by omega) hc z hq.nn (Vf.mp h)
   exact⟨_,e,t,.inl ⟨Vf.mp h,tl.mono (by omega),fun i _=>rfl⟩⟩
theorem zNU(w:Wy):∃ v,aW.lookup w.s=some v:=by
 cases w
 ·exact⟨_,zIr⟩
 ·exact⟨_,zAO⟩
 ·exact⟨_,zGc⟩
 ·exact⟨_,zBi⟩
 ·exact⟨_,zFT⟩
 ·exact⟨_,zAr⟩
theorem zFo{w:Wy}{ws cs:List Int}{wd cd:D}(sw:Sq wd ws)(sc:Sq cd cs)(hw:w.due ws cs)(hc:Cl cs):lW [.str w.s,wd,cd]=.ok (.v .non):=by
 have rw':bX [.str w.s,wd,.int cs.length]=.ok (.v .non):=by
  cases w with
  | even=>exact qX sw hw rfl
  | lack=>exact qX sw hw rfl
  | row=>have e:ws=[]:=hw;rw[e] at sw;exact jY sw rfl
  | back=>have e:ws=[]:=hw;rw[e] at sw;exact jY sw rfl
  | part=>have e:ws=[]:=hw;rw[e] at sw;exact jY sw rfl
  | half=>have e:ws=[]:=hw;rw[e] at sw;exact jY sw rfl
 obtain⟨v,hv⟩:=zNU w;unfold lW;symm;rw[vI hv];symm;rw[wU sc hc];symm;rw[sc.len];symm;rw[rw'];symm
theorem zOh{w:Wy}{ws cs:List Int}{wd cd:D}(sw:Sq wd ws)(sc:Sq cd cs){q:Rat}{m:Nat}(hm:m<=2880)(hw:w.due ws cs)(hc:Cl cs)(hq:Haul m q cs.sum):∃ f,tG [.str w.s,wd,cd,dq q]=.ok (.f (((List.range cs.length).map f).map dq))/\Al (m+263) ws cs q f w:=by
 obtain⟨f,rd,al⟩:=zDc sw sc hm hw hc hq;have sm:=hc.sum;refine⟨f,?_,al⟩
 unfold tG;symm;rw[zFo sw sc hw hc];symm;rw[sc.sum];symm;rw[bZ];symm;rw[mH (by omega) hq (by omega)];symm;rw[rd];symm
structure Dl (M:Nat) (cs:List Int) (q:Rat) (f:Nat->Rat):Prop where
 bd:∀ i,i<cs.length->0<=f i/\f i<=cR cs i/\Sz M (f i)
 sum:((List.range cs.length).map f).sum=q
theorem zDg{f g:Nat->Rat}{n:Nat}(h:∀ i,i<n->f i=g i):((List.range n).map f).sum=((List.range n).map g).sum:=by rw[Vy fun i hi=>h i (Qj.mp hi)]
theorem Dl.congr{M:Nat}{cs:List Int}{q:Rat}{f g:Nat->Rat}(d:Dl M cs q g)(h:∀ i,i<cs.length->f i=g i):Dl M cs q f:=⟨fun i hi=>by rw[h i hi];exact d.bd i hi,by rw[zDg h];exact d.sum⟩
theorem Dl.mono{M M':Nat}{cs:List Int}{q:Rat}{f:Nat->Rat}(d:Dl M cs q f)(h:M<=M'):Dl M' cs q f:=⟨fun i hi=>⟨(d.bd i hi).1,(d.bd i hi).2.1,(d.bd i hi).2.2.mono h⟩,d.sum⟩
theorem zHY{cs:List Int}(hc:Cl cs){i:Nat}(hi:i<cs.length):0<=cR cs i/\Sz 100 (cR cs i):=by
 have c1:=hc.nn _ (Qi (bL hi));have c2:=hc.up _ (Qi (bL hi));exact⟨by unfold cR;exact_mod_cast c1,dB (by omega) (by decide)⟩
theorem Dl.dual{M:Nat}{cs:List Int}{q q':Rat}{g:Nat->Rat}(hc:Cl cs)(d:Dl M cs q' g)(h:q'=(cs.sum:Rat)-q):Dl (100+M+1) cs q (fun i=>cR cs i-g i):=by
 refine⟨fun i hi=>?_,?_⟩
 ·obtain⟨b1,b2,b3⟩:=d.bd i hi
  exact⟨by grind,by grind,(zHY hc hi).2.sub b3⟩
 ·rw[zMd,tT,d.sum]
  grind
theorem zMz{m:Nat}{cs:List Int}{q:Rat}(hc:Cl cs)(hq:Sz m q)(h0:0<=q)(h1:q<=(cs.sum:Rat)):Dl (m+111) cs q (zFH cs q):=by
 obtain⟨e,s,z⟩:=zDO hc hq h0 h1;refine⟨fun i hi=>?_,by rw[<-e];exact s⟩
 obtain⟨b1,b2⟩:=zIX cs 0 q i hc.nn hi;exact⟨b1,b2,z _ (by rw[e];exact Qp.mpr ⟨i,Qj.mpr hi,rfl⟩)⟩
theorem zMl{M:Nat}{ws cs:List Int}{q t:Rat}(hW:Wt ws cs)(hc:Cl cs)(tl:Lvl M ws cs q t):Dl M cs q (eE (cR cs) (cR ws) t):=
 ⟨fun i hi=>⟨(pQ hW hc tl.nn hi).1,(pQ hW hc tl.nn hi).2,tl.sz i hi⟩,tl.sum⟩
theorem zIe{M:Nat}{cs:List Int}{q t:Rat}(hc:Cl cs)(tl:Lvl M (ones cs) cs (q+q) t):Dl (M+2) cs q (fun i=>eE (cR cs) (cR (ones cs)) t i*hf):=by
 refine⟨fun i h=>?_,?_⟩
 ·obtain⟨b1,b2⟩:=pQ (fM cs) hc tl.nn h
  exact⟨by rw[iP];grind,by rw[iP];grind,(tl.sz i h).mul zEK⟩
 ·have e:=tl.sum
  have e2:=eA (w:=eE (cR cs) (cR (ones cs)) t) (t:=hf) (l:=List.range cs.length);unfold evs at e;unfold jG at e2;rw[e2,e,iP];grind
theorem zOM{a b s:Rat}(hs:s≠0)(h:a*s=b*s):a=b:=by
 have e1:a*s / s=a:=by grind
 have e2:b*s / s=b:=by grind
 rw[<-e1,<-e2,h]
theorem tV{a b s:Rat}(hs:0<s)(h:a*s<=b*s):a<=b:=X5 h hs
theorem zNP{m:Nat}{cs:List Int}{q:Rat}(hc:Cl cs)(hq:Sz m q)(h0:0<=q)(h1:q<=(cs.sum:Rat)):Dl (m+370) cs q (kM cs q):=by
 have sm:=hc.sum;have cn:∀ i,i<cs.length->0<=cR cs i:=fun i hi=>(zHY hc hi).1
 have sc:jG (fun i=>kM cs q i*(cs.sum:Rat)) (List.range cs.length)=q*(cs.sum:Rat):=by
  rw[eS (g:=fun i=>cR cs i*q) fun i hi=>by rw[(jN hc (Qj.mp hi)).1];grind];rw[eA,show jG (cR cs) (List.range cs.length)=(cs.sum:Rat) from tT cs]
 rw[eA] at sc;by_cases z:cs.sum=0
 ·have p0:∀ i,i<cs.length->kM cs q i=cR cs i:=fun i hi=>by
   have c0:=rG hc.nn z _ (Qi (bL hi));rw[(jN hc hi).2 z];unfold cR;rw[c0];rfl
  refine⟨fun i hi=>⟨by rw[p0 i hi];exact cn i hi,by rw[p0 i hi];exact Qe,zJB hc hq hi⟩,?_⟩
  rw[zDg p0,tT];have:(cs.sum:Rat)=0:=by rw[z];rfl
  grind
 ·have W:(0:Rat)<(cs.sum:Rat):=by exact_mod_cast (show 0<cs.sum by omega)
  refine⟨fun i hi=>?_,?_⟩
  ·have e:=(jN (q:=q) hc hi).1
   have c0:=cn i hi;refine⟨tV W (by rw[e];have:=Ug h0 c0;grind),tV W ?_,zJB hc hq hi⟩
   rw[e];have:=Vv h1 c0
   grind
  ·exact zOM (s:=(cs.sum:Rat)) (by grind) (by rw[Rat.mul_comm];exact sc)
theorem zMX{m:Nat}{w:Wy}{ws cs:List Int}{q:Rat}{f:Nat->Rat}(hw:w.due ws cs)(hc:Cl cs)(hq:Haul m q cs.sum)(al:Al (m+263) ws cs q f w):Dl (m+370) cs q f:=by
 have sm:=hc.sum;have zW:Sz 105 (cs.sum:Rat):=dB (by omega) (by decide)
 have z:=hq.sz;have z':Sz (m+106) ((cs.sum:Rat)-q):=(zW.sub hq.sz).mono (by omega)
 have n:=hq.nn;have u:=hq.up
 cases w with
 | row=>exact((zMz hc z n u).mono (by omega)).congr al
 | back=>exact((Dl.dual hc (zMz hc z' (by grind) (by grind)) rfl).mono (by omega)).congr al
 | even=>
  obtain⟨t,tl,e⟩:=al;exact((zMl hw hc tl).mono (by omega)).congr e
 | lack=>
  obtain⟨t,tl,e⟩:=al;exact((Dl.dual hc (zMl hw hc tl) rfl).mono (by omega)).congr e
 | part=>exact(zNP hc z n u).congr al
 | half=>
  obtain⟨t,⟨c,tl,e⟩ | ⟨c,tl,e⟩⟩:=al
  ·exact((zIe hc tl).mono (by omega)).congr e
  ·exact((Dl.dual hc (zIe hc tl) rfl).mono (by omega)).congr e
theorem zAv:∀(cs:List Int)(a:Int)(q:Rat)(i:Nat),i<cs.length->(jK cs a q).getD i 0=mn (ps0 (q-((a+(cs.take i).sum:Int):Rat))) (cR cs i)
 | c::r,a,q,0,_=>by simp[jK,cR]
 | c::r,a,q,i+1,h=>by
  have ih:=zAv r (a+c) q i (by simpa using h)
  rw[Uh,Q8,<-Wn];show(jK r (a+c) q).getD i 0=_
  rw[ih];rfl
def Dn(B:Int)(x:Rat):Prop:=∃ k:Int,x*(B:Rat)=(k:Rat)
theorem Dn.add{B:Int}{x y:Rat}(hx:Dn B x)(hy:Dn B y):Dn B (x+y):=by
 obtain⟨a,ha⟩:=hx;obtain⟨b,hb⟩:=hy;exact⟨a+b,by rw[Vq,<-ha,<-hb];grind⟩
theorem Dn.sub{B:Int}{x y:Rat}(hx:Dn B x)(hy:Dn B y):Dn B (x-y):=by
 obtain⟨a,ha⟩:=hx;obtain⟨b,hb⟩:=hy;exact⟨a-b,by rw[Rat.intCast_sub,<-ha,<-hb];grind⟩
theorem Dn.int(B c:Int):Dn B (c:Rat):=⟨c*B,by rw[Vi]⟩
theorem Dn.zero(B:Int):Dn B 0:=Dn.int B 0
theorem Dn.mn{B:Int}{x y:Rat}(hx:Dn B x)(hy:Dn B y):Dn B (Lw.mn x y):=by
 unfold Lw.mn;split
 ·exact hx
 ·exact hy
theorem Dn.ps{B:Int}{x:Rat}(hx:Dn B x):Dn B (ps0 x):=by
 unfold ps0;split
 ·exact Dn.zero B
 ·exact hx
theorem Dn.den(x:Rat):Dn (x.den:Int) x:=⟨x.num,(zLV x).symm⟩
theorem Dn.le{B:Int}{x:Rat}(h:Dn B x)(hB:0<B):(x.den:Int)<=B:=by
 obtain⟨a,ha⟩:=h
 have nB:(B:Rat)≠0:=fun z=>by
  have:B=0:=by exact_mod_cast z
  omega
 have e:x=Rat.divInt a B:=by
  rw[Xs,<-ha];grind
 rw[e];exact zFv hB
theorem Dn.sz{B c:Int}{x:Rat}{a b:Nat}(h:Dn B x)(hB:0<B)(hb:B<2^b)(h0:0<=x)(h1:x<=(c:Rat))(hc:c<2^a):Sz (a+b) x:=by
 have le:=h.le hB;have d0:=eU x;have n0:0<=x.num:=Y2.mpr h0
 have c0:0<=c:=by
  have:((0:Int):Rat)<=(c:Rat):=Qw (by rw[show((0:Int):Rat)=0 from rfl];exact h0) h1
  exact Xm.mp this
 have n1:x.num<=c*x.den:=by
  have:((x.num:Int):Rat)<=((c*x.den:Int):Rat):=by
   rw[Vi,zLV];exact Vv h1 (by have z:(0:Int)<=x.den:=(by omega);exact_mod_cast z)
  exact Xm.mp this
 have hb':(x.den:Int).natAbs<2^b:=by
  have:((2:Nat)^b:Nat)=((2:Int)^b):=by rw[Int.natCast_pow];rfl
  omega
 have ha':c.natAbs<2^a:=by
  have:((2:Nat)^a:Nat)=((2:Int)^a):=by rw[Int.natCast_pow];rfl
  omega
 have m:=fA ha' hb';refine⟨by omega,?_⟩
 have:2^b<=2^(a+b):=Vo (by decide) (by omega)
 omega
theorem wB{c w:Nat->Rat}{ci wi:Nat->Int}{t:Rat}(hc:∀ i,c i=(ci i:Rat))(hw:∀ i,w i=(wi i:Rat)):∀ l:List Nat,(∀ i∈l,1<=wi i/\wi i<=10^6)->∃ F W:Int,jG (eE c w t) l=(W:Rat)*t+(F:Rat)/\0<=W/\W<=l.length*10^6/\(W=0->∀ i∈l,eE c w t i=c i)
 | [],_=>⟨0,0,by rw[jF,show((0:Int):Rat)=0 from rfl];grind,by decide,by decide,fun _ i h=>by cases h⟩
 | i::l,h=>by
  obtain⟨F,W,e,w0,w1,f⟩:=wB (t:=t) hc hw l fun j hj=>h j (Qc _ hj)
  have hi:=h i Qb;have ek:((l.length+1:Nat):Int)*10^6=(l.length:Int)*10^6+10^6:=by rw[Yo,Yp];rfl
  rw[bH,Qm];by_cases z:w i*t<c i
  ·have g:eE c w t i=w i*t:=Jk z
   refine⟨F,W+wi i,?_,by omega,by omega,fun z=>by omega⟩
   rw[g,e,Vq,hw];grind
  ·have g:eE c w t i=c i:=Jl z
   refine⟨F+ci i,W,?_,w0,by omega,fun z j hj=>?_⟩
   ·rw[g,e,Vq,hc]
    grind
   ·rcases Qd.mp hj with rfl | hj
    ·exact g
    ·exact f z j hj
theorem zFW{M:Nat}{ws cs:List Int}{q t:Rat}{B:Int}(hW:Wt ws cs)(hl:cs.length<=12)(tl:Lvl M ws cs q t)(hq:Dn B q):∃ E:Int,0<E/\E<=12*10^6/\∀ i,i<cs.length->Dn (B*E) (eE (cR cs) (cR ws) t i):=by
 obtain⟨F,W,e,w0,w1,f⟩:=wB (c:=cR cs) (w:=cR ws) (ci:=fun i=>cs.getD i 0) (wi:=fun i=>ws.getD i 0) (t:=t) (fun _=>rfl) (fun _=>rfl) (List.range cs.length) fun i hi=>hW.at (Qj.mp hi)
 have s:jG (eE (cR cs) (cR ws) t) (List.range cs.length)=q:=tl.sum;rw[Q3] at w1;by_cases z:W=0
 ·refine⟨1,by decide,by decide,fun i hi=>?_⟩
  rw[f z i (Qj.mpr hi)];exact Dn.int _ _
 ·refine⟨W,by omega,by omega,fun i hi=>?_⟩
  unfold eE;refine Dn.mn ?_ (Dn.int _ _)
  obtain⟨k,hk⟩:=hq.sub (Dn.int B F);refine⟨ws.getD i 0*k,?_⟩
  rw[Vi,Vi,<-hk,<-s,e];show cR ws i*t*_=cR ws i*_
  grind
theorem zIl{B:Int}{x:Rat}(h:Dn B x):Dn (B*2) (x*hf):=by
 obtain⟨k,hk⟩:=h;refine⟨k,?_⟩
 rw[<-hk,Vi,iP,show((2:Int):Rat)=2 from rfl];grind
theorem zML{cs:List Int}{q:Rat}{B:Int}(h:Dn B q){i:Nat}(hi:i<cs.length):Dn B (zFH cs q i):=by
 unfold zFH;rw[zAv cs 0 q i hi];exact Dn.mn (Dn.ps (h.sub (Dn.int _ _))) (Dn.int _ _)
theorem zQE{M:Nat}{w:Wy}{ws cs:List Int}{q:Rat}{f:Nat->Rat}{B:Int}(hw:w.due ws cs)(hc:Cl cs)(hS:cs.sum<2^34)(al:Al M ws cs q f w)(hq:Dn B q):∃ E:Int,0<E/\E<2^34/\∀ i,i<cs.length->Dn (B*E) (f i):=by
 have hi:=hc.hi;have sm:=hc.sum;have hq':Dn B ((cs.sum:Rat)-q):=(Dn.int B cs.sum).sub hq
 cases w with
 | row=>exact⟨1,by decide,by decide,fun i hi=>by rw[al i hi,Vt];exact zML hq hi⟩
 | back=>exact⟨1,by decide,by decide,fun i hi=>by rw[al i hi,Vt];exact(Dn.int _ _).sub (zML hq' hi)⟩
 | even=>
  obtain⟨t,tl,e⟩:=al;obtain⟨E,e0,e1,e2⟩:=zFW hw hi tl hq;exact⟨E,e0,by omega,fun i hi=>by rw[e i hi];exact e2 i hi⟩
 | lack=>
  obtain⟨t,tl,e⟩:=al;obtain⟨E,e0,e1,e2⟩:=zFW hw hi tl hq';exact⟨E,e0,by omega,fun i hi=>by rw[e i hi];exact(Dn.int _ _).sub (e2 i hi)⟩
 | part=>
  by_cases z:cs.sum=0
  ·exact⟨1,by decide,by decide,fun i hi=>by rw[al i hi,(jN hc hi).2 z];exact Dn.zero _⟩
  ·refine⟨cs.sum,by omega,hS,fun i hi=>?_⟩
   have p:=(jN (q:=q) hc hi).1;rw[<-al i hi] at p;obtain⟨k,hk⟩:=hq;refine⟨k*cs.getD i 0,?_⟩
   rw[Vi,Vi,<-hk];show f i*((B:Rat)*(cs.sum:Rat))=q*(B:Rat)*cR cs i
   generalize (cs.sum:Rat)=S at *;generalize cR cs i=x at *;generalize f i=y at *;grind
 | half=>
  obtain⟨t,⟨c,tl,e⟩ | ⟨c,tl,e⟩⟩:=al
  ·obtain⟨E,e0,e1,e2⟩:=zFW (fM cs) hi tl (hq.add hq)
   exact⟨E*2,by omega,by omega,fun i hi=>by rw[e i hi,<-Wl];exact zIl (e2 i hi)⟩
  ·obtain⟨E,e0,e1,e2⟩:=zFW (fM cs) hi tl (hq'.add hq')
   exact⟨E*2,by omega,by omega,fun i hi=>by rw[e i hi,<-Wl];exact(Dn.int _ _).sub (zIl (e2 i hi))⟩
theorem Al.mono{M M':Nat}{w:Wy}{ws cs:List Int}{q:Rat}{f:Nat->Rat}(h:Al M ws cs q f w)(l:M<=M'):Al M' ws cs q f w:=by
 cases w with
 | row=>exact h
 | back=>exact h
 | part=>exact h
 | even=>obtain⟨t,tl,e⟩:=h;exact⟨t,tl.mono l,e⟩
 | lack=>obtain⟨t,tl,e⟩:=h;exact⟨t,tl.mono l,e⟩
 | half=>
  obtain⟨t,⟨c,tl,e⟩ | ⟨c,tl,e⟩⟩:=h
  ·exact⟨t,.inl ⟨c,tl.mono l,e⟩⟩
  ·exact⟨t,.inr ⟨c,tl.mono l,e⟩⟩
theorem zPD(q:Rat):Sz (q.num.natAbs+q.den) q:=⟨Qn Qaf (Vo (by decide) (by omega)),Qn Qaf (Vo (by decide) (by omega))⟩
theorem zRi{M:Nat}{w:Wy}{ws cs:List Int}{q:Rat}{f:Nat->Rat}(hw:w.due ws cs)(hc:Cl cs)(q0:0<=q)(q1:q<=(cs.sum:Rat))(al:Al M ws cs q f w):(∀ i,i<cs.length->0<=f i/\f i<=cR cs i)/\((List.range cs.length).map f).sum=q:=by
 have d:=zMX (m:=q.num.natAbs+q.den+M) hw hc ⟨q0,q1,(zPD q).mono (by omega)⟩ (al.mono (by omega))
 exact⟨fun i hi=>⟨(d.bd i hi).1,(d.bd i hi).2.1⟩,d.sum⟩
theorem nK{M M':Nat}{ws cs:List Int}{q q' t t':Rat}(hW:Wt ws cs)(a:Lvl M ws cs q t)(b:Lvl M' ws cs q' t')(h:q=q'){i:Nat}(hi:i<cs.length):eE (cR cs) (cR ws) t i=eE (cR cs) (cR ws) t' i:=by
 have pw:∀ j∈List.range cs.length,0<cR ws j:=fun j hj=>by
  have:=(hW.at (Qj.mp hj)).1
  unfold cR;exact_mod_cast (show 0<ws.getD j 0 by omega)
 exact zAA (c:=cR cs) (w:=cR ws) pw (by show(evs ws cs t).sum=(evs ws cs t').sum;rw[a.sum,b.sum,h]) i (Qj.mpr hi)
theorem zQv{M M':Nat}{w:Wy}{ws cs:List Int}{q:Rat}{f g:Nat->Rat}(hw:w.due ws cs)(a:Al M ws cs q f w)(b:Al M' ws cs q g w){i:Nat}(hi:i<cs.length):f i=g i:=by
 cases w with
 | row=>rw[a i hi,b i hi]
 | back=>rw[a i hi,b i hi]
 | part=>rw[a i hi,b i hi]
 | even=>
  obtain⟨t,tl,e⟩:=a;obtain⟨t',tl',e'⟩:=b;rw[e i hi,e' i hi,nK hw tl tl' rfl hi]
 | lack=>
  obtain⟨t,tl,e⟩:=a;obtain⟨t',tl',e'⟩:=b;rw[e i hi,e' i hi,nK hw tl tl' rfl hi]
 | half=>
  have W:=fM cs;obtain⟨t,⟨c,tl,e⟩ | ⟨c,tl,e⟩⟩:=a
  ·obtain⟨t',⟨c',tl',e'⟩ | ⟨c',tl',e'⟩⟩:=b
   ·rw[e i hi,e' i hi,nK W tl tl' rfl hi]
   ·exact absurd c' (Vf.mpr c)
  ·obtain⟨t',⟨c',tl',e'⟩ | ⟨c',tl',e'⟩⟩:=b
   ·exact absurd c (Vf.mpr c')
   ·rw[e i hi,e' i hi,nK W tl tl' rfl hi]
theorem uQ{M M':Nat}{ws cs:List Int}{q q' t t':Rat}(hW:Wt ws cs)(a:Lvl M ws cs q t)(b:Lvl M' ws cs q' t')(h:q<=q'){i:Nat}(hi:i<cs.length):eE (cR cs) (cR ws) t i<=eE (cR cs) (cR ws) t' i:=by
 have pw:∀ j∈List.range cs.length,0<cR ws j:=fun j hj=>by
  have:=(hW.at (Qj.mp hj)).1
  unfold cR;exact_mod_cast (show 0<ws.getD j 0 by omega)
 rcases Vz (a:=t) (b:=t') with g | g
 ·exact nR (pw i (Qj.mpr hi)) g
 ·have le:∀ j∈List.range cs.length,eE (cR cs) (cR ws) t' j<=eE (cR cs) (cR ws) t j:=fun j hj=>nR (pw j hj) g
  have s1:jG (eE (cR cs) (cR ws) t') (List.range cs.length)=q':=b.sum;have s2:jG (eE (cR cs) (cR ws) t) (List.range cs.length)=q:=a.sum;have s3:=sK le;rw[sH le (by rw[s1,s2];rw[s1,s2] at s3;grind) i (Qj.mpr hi)];exact Qe
theorem zND{M M':Nat}{w:Wy}{ws cs:List Int}{q q':Rat}{f g:Nat->Rat}(hw:w.due ws cs)(hc:Cl cs)(a:Al M ws cs q f w)(b:Al M' ws cs q' g w)(h:q<=q'){i:Nat}(hi:i<cs.length):f i<=g i:=by
 have sm:=hc.sum
 cases w with
 | row=>rw[a i hi,b i hi];exact wD cs 0 i h
 | back=>
  rw[a i hi,b i hi];have:=wD cs 0 (q:=(cs.sum:Rat)-q') (q':=(cs.sum:Rat)-q) i (by grind)
  unfold zFH;grind
 | even=>
  obtain⟨t,tl,e⟩:=a;obtain⟨t',tl',e'⟩:=b;rw[e i hi,e' i hi];exact uQ hw tl tl' h hi
 | lack=>
  obtain⟨t,tl,e⟩:=a;obtain⟨t',tl',e'⟩:=b;rw[e i hi,e' i hi];have:=uQ hw tl' tl (by grind) hi
  grind
 | part=>
  rw[a i hi,b i hi];have c0:0<=cR cs i:=by unfold cR;exact_mod_cast hc.nn _ (Qi (bL hi))
  obtain⟨p1,p2⟩:=jN (q:=q) hc hi;obtain⟨r1,r2⟩:=jN (q:=q') hc hi;by_cases z:cs.sum=0
  ·rw[p2 z,r2 z];exact Qe
  ·have W:(0:Rat)<(cs.sum:Rat):=by exact_mod_cast (show 0<cs.sum by omega)
   exact tV W (by rw[p1,r1];exact Vv h c0)
 | half=>
  have ow:=fM cs;obtain⟨t,⟨c,tl,e⟩ | ⟨c,tl,e⟩⟩:=a
  ·have b1:=(pQ ow hc tl.nn hi).2
   obtain⟨t',⟨c',tl',e'⟩ | ⟨c',tl',e'⟩⟩:=b
   ·have:=uQ ow tl tl' (by grind) hi
    rw[e i hi,e' i hi,iP];grind
   ·have b2:=(pQ ow hc tl'.nn hi).2
    rw[e i hi,e' i hi,iP];grind
  ·obtain⟨t',⟨c',tl',e'⟩ | ⟨c',tl',e'⟩⟩:=b
   ·exfalso;grind
   ·have:=uQ ow tl' tl (by grind) hi
    rw[e i hi,e' i hi,iP];grind
def Wy.con:Wy->Wy
 | .row=>.back
 | .back=>.row
 | .even=>.lack
 | .lack=>.even
 | .part=>.part
 | .half=>.half
theorem zFz{M:Nat}{ws cs:List Int}{q t:Rat}(hW:Wt ws cs)(hc:Cl cs)(a:Lvl M ws cs q t)(h:q=(cs.sum:Rat)){i:Nat}(hi:i<cs.length):eE (cR cs) (cR ws) t i=cR cs i:=by
 have s:jG (eE (cR cs) (cR ws) t) (List.range cs.length)=q:=a.sum;exact sH (fun j hj=>(pQ hW hc a.nn (Qj.mp hj)).2) (by rw[s,h];exact(tT cs).symm) i (Qj.mpr hi)
theorem zQP{M M':Nat}{w:Wy}{ws cs:List Int}{q:Rat}{f g:Nat->Rat}(hw:w.due ws cs)(hc:Cl cs)(hn:0<=q)(hu:q<=(cs.sum:Rat))(a:Al M ws cs q f w)(b:Al M' ws cs ((cs.sum:Rat)-q) g w.con){i:Nat}(hi:i<cs.length):g i=cR cs i-f i:=by
 have sm:=hc.sum;have e0:(cs.sum:Rat)-((cs.sum:Rat)-q)=q:=by grind
 cases w with
 | row=>
  have b':g i=cR cs i-zFH cs ((cs.sum:Rat)-((cs.sum:Rat)-q)) i:=b i hi;rw[b',e0,a i hi]
 | back=>
  have b':g i=zFH cs ((cs.sum:Rat)-q) i:=b i hi;rw[b',a i hi];grind
 | even=>
  obtain⟨t,tl,e⟩:=a;obtain⟨t',tl',e'⟩:=b;rw[e i hi,e' i hi,nK hw tl' tl e0 hi]
 | lack=>
  obtain⟨t,tl,e⟩:=a;obtain⟨t',tl',e'⟩:=b;rw[e i hi,e' i hi,nK hw tl' tl rfl hi];grind
 | part=>
  have b':g i=kM cs ((cs.sum:Rat)-q) i:=b i hi;have u:=hu;have n:=hn;obtain⟨p1,p2⟩:=jN (q:=q) hc hi;obtain⟨r1,r2⟩:=jN (q:=(cs.sum:Rat)-q) hc hi;rw[b',a i hi];by_cases z:cs.sum=0
  ·have c0:=rG hc.nn z _ (Qi (bL hi))
   rw[p2 z,r2 z];unfold cR;rw[c0,show((0:Int):Rat)=0 from rfl];grind
  ·have W:(0:Rat)<(cs.sum:Rat):=by exact_mod_cast (show 0<cs.sum by omega)
   have e:kM cs ((cs.sum:Rat)-q) i*(cs.sum:Rat)=(cR cs i-kM cs q i)*(cs.sum:Rat):=by rw[r1];grind
   have l1:=tV W (show kM cs ((cs.sum:Rat)-q) i*(cs.sum:Rat)<=(cR cs i-kM cs q i)*(cs.sum:Rat) by rw[e];exact Qe)
   have l2:=tV W (show(cR cs i-kM cs q i)*(cs.sum:Rat)<=kM cs ((cs.sum:Rat)-q) i*(cs.sum:Rat) by rw[e];exact Qe)
   grind
 | half=>
  have ow:=fM cs;obtain⟨t,⟨c,tl,e⟩ | ⟨c,tl,e⟩⟩:=a
  ·obtain⟨t',⟨c',tl',e'⟩ | ⟨c',tl',e'⟩⟩:=b
   ·have f1:=zFz ow hc tl (by grind) hi
    have f2:=zFz ow hc tl' (by grind) hi
    rw[e i hi,e' i hi,f1,f2,iP];grind
   ·have f1:=nK ow tl' tl (by grind) hi
    rw[e i hi,e' i hi,f1]
  ·obtain⟨t',⟨c',tl',e'⟩ | ⟨c',tl',e'⟩⟩:=b
   ·have f1:=nK ow tl' tl rfl hi
    rw[e i hi,e' i hi,f1];grind
   ·exfalso;grind
theorem zNZ{w:Wy}{ws cs:List Int}(h:w.due ws cs):w.con.due ws cs:=by cases w<;>exact h
def Lin(f:Rat->Rat)(a b:Rat):Prop:=∀ x,a<=x->x<=b->(f x-f a)*(b-a)=(x-a)*(f b-f a)
def Cn(R:Rat->Rat->Prop):List Rat->Prop
 | a::b::l=>R a b/\Cn R (b::l)
 | _=>True
theorem Cn.imp{R R':Rat->Rat->Prop}(h:∀ a b,R a b->R' a b):∀ {l:List Rat},Cn R l->Cn R' l
 | [],_=>trivial
 | [_],_=>trivial
 | a::b::l,k=>⟨h a b k.1,Cn.imp h k.2⟩
theorem vO{A:List Rat}:∀ {l:List Rat},l.Pairwise (·<=·)->(∀ x∈A,x∈l∨∀ y∈l,x<=y)->Cn (fun s t=>s<=t/\∀ x∈A,x<=s∨t<=x) l
 | [],_,_=>trivial
 | [_],_,_=>trivial
 | a::b::r,h,hA=>by
  obtain⟨h1,h2⟩:=Qr.mp h;obtain⟨h3,h4⟩:=Qr.mp h2;refine⟨⟨h1 b Qb,fun x hx=>?_⟩,vO h2 fun x hx=>?_⟩
  ·rcases hA x hx with h | h
   ·rcases Qd.mp h with rfl | h
    ·exact .inl Qe
    ·rcases Qd.mp h with rfl | h
     ·exact .inr Qe
     ·exact .inr (h3 x h)
   ·exact .inl (h a Qb)
  ·rcases hA x hx with h | h
   ·rcases Qd.mp h with rfl | h
    ·exact .inr h1
    ·exact .inl h
   ·exact .inr fun y hy=>h y (Qc _ hy)
def QQ(ws cs:List Int)(t:Rat):Rat:=jG (eE (cR cs) (cR ws) t) (List.range cs.length)
def lv(ws cs:List Int)(i:Nat):Rat:=cR cs i / cR ws i
theorem Wt.pos{ws cs:List Int}(h:Wt ws cs){i:Nat}(hi:i<cs.length):0<cR ws i:=by
 have:=(h.at hi).1
 unfold cR;exact_mod_cast (show 0<ws.getD i 0 by omega)
theorem zN{ws cs:List Int}(h:Wt ws cs){i:Nat}(hi:i<cs.length):cR ws i*lv ws cs i=cR cs i:=by
 have:=h.pos hi
 unfold lv;grind
theorem zGN{ws cs:List Int}(h:Wt ws cs){i:Nat}(hi:i<cs.length){t:Rat}(l:lv ws cs i<=t):eE (cR cs) (cR ws) t i=cR cs i:=by
 have p:=h.pos hi;have e:=zN h hi;have:=Xw l (Qf p)
 unfold eE mn;grind
theorem zGI{ws cs:List Int}(h:Wt ws cs){i:Nat}(hi:i<cs.length){t:Rat}(l:t<=lv ws cs i):eE (cR cs) (cR ws) t i=cR ws i*t:=by
 have p:=h.pos hi;have e:=zN h hi;have:=Xw l (Qf p)
 unfold eE mn;grind
theorem zJi{ws cs:List Int}(h:Wt ws cs)(hc:Cl cs){i:Nat}(hi:i<cs.length):0<=lv ws cs i:=by
 have p:=h.pos hi;have c:=(zHY hc hi).1;have e:=zN h hi;rcases Vz (a:=0) (b:=lv ws cs i) with z | z
 ·exact z
 ·have:=Xw z (Qf p)
  have z2:cR cs i=0:=by grind
  unfold lv;rw[z2];grind
def sl(ws cs:List Int)(s:Rat)(i:Nat):Rat:=if lv ws cs i<=s then 0 else cR ws i
theorem zFR{f g:Nat->Rat}:∀ {l:List Nat},jG (fun i=>f i-g i) l=jG f l-jG g l
 | []=>by rw[jF,jF,jF];grind
 | a::l=>by rw[bH,bH,bH,zFR];grind
def zPh(ws cs:List Int)(s t:Rat):Prop:=∀ i,i<cs.length->lv ws cs i<=s∨t<=lv ws cs i
theorem zBQ{ws cs:List Int}(h:Wt ws cs){s t u:Rat}(n:zPh ws cs s t)(su:s<=u)(ut:u<=t){i:Nat}(hi:i<cs.length):eE (cR cs) (cR ws) u i-eE (cR cs) (cR ws) s i=sl ws cs s i*(u-s):=by
 unfold sl;by_cases z:lv ws cs i<=s
 ·rw[zGN h hi z,zGN h hi (Qw z su),Jk z];grind
 ·rcases n i hi with k | k
  ·exact absurd k z
  ·rw[zGI h hi (Qw ut k),zGI h hi (Qw su (Qw ut k)),Jl z];grind
theorem zCC{ws cs:List Int}(h:Wt ws cs){s t u:Rat}(n:zPh ws cs s t)(su:s<=u)(ut:u<=t):QQ ws cs u-QQ ws cs s=jG (sl ws cs s) (List.range cs.length)*(u-s):=by
 unfold QQ;rw[<-zFR,eS (g:=fun i=>sl ws cs s i*(u-s)) fun i hi=>zBQ h n su ut (Qj.mp hi)];rw[eA];grind
theorem mD{ws cs:List Int}(h:Wt ws cs){s t:Rat}(l:s<=t):QQ ws cs s<=QQ ws cs t:=sK fun i hi=>nR (h.pos (Qj.mp hi)) l
theorem zSj{ws cs:List Int}(h:Wt ws cs){s t:Rat}(e:QQ ws cs s=QQ ws cs t){i:Nat}(hi:i<cs.length):eE (cR cs) (cR ws) s i=eE (cR cs) (cR ws) t i:=zAA (fun i hi=>h.pos (Qj.mp hi)) e i (Qj.mpr hi)
theorem zQk{ws cs:List Int}(h:Wt ws cs){s t:Rat}(st:s<=t)(n:zPh ws cs s t){i:Nat}(hi:i<cs.length){f:Rat->Rat}(hf:∀ x,QQ ws cs s<=x->x<=QQ ws cs t->∃ u,QQ ws cs u=x/\f x=eE (cR cs) (cR ws) u i):Lin f (QQ ws cs s) (QQ ws cs t):=by
 have ab:=mD h st
 have at':∀ v,s<=v->v<=t->f (QQ ws cs v)=eE (cR cs) (cR ws) v i:=fun v h1 h2=>by
  obtain⟨u,e1,e2⟩:=hf _ (mD h h1) (mD h h2);rw[e2,zSj h e1 hi]
 have fa:=at' s Qe st;have fb:=at' t st Qe;intro x h1 h2;obtain⟨u,e1,e2⟩:=hf x h1 h2;rcases Vz (a:=u) (b:=s) with z | z
 ·have q:=mD h z
  have ex:x=QQ ws cs s:=by grind
  subst ex;grind
 rcases Vz (a:=t) (b:=u) with z' | z'
 ·have q:=mD h z'
  have ex:x=QQ ws cs t:=by grind
  subst ex;grind
 have d1:=zCC h n z z';have d2:=zCC h n st Qe;have g1:=zBQ h n z z' hi;have g2:=zBQ h n st Qe hi;rw[e1] at d1;rw[e2,fa,fb,g1,g2,d1,d2];grind
theorem zIs{ws cs:List Int}(h:Wt ws cs){q:Rat}:∀ {l:List Rat} {s:Rat},Cn (fun s t=>s<=t/\zPh ws cs s t) (s::l)->QQ ws cs s<=q->q<=QQ ws cs ((s::l).getLast (by simp))->∃ u,s<=u/\QQ ws cs u=q
 | [],s,_,h1,h2=>⟨s,Qe,by
  have h2':q<=QQ ws cs s:=h2
  grind⟩
 | t::l,s,hc,h1,h2=>by
  obtain⟨⟨st,n⟩,hc'⟩:=hc;rcases Vz (a:=QQ ws cs t) (b:=q) with z | z
  ·obtain⟨u,u1,u2⟩:=zIs h hc' z (by simpa using h2)
   exact⟨u,Qw st u1,u2⟩
  ·by_cases e:QQ ws cs s=QQ ws cs t
   ·exact⟨s,Qe,by grind⟩
   have d2:=zCC h n st Qe;generalize jG (sl ws cs s) (List.range cs.length)=W at d2;have lt:QQ ws cs s<QQ ws cs t:=by have:=mD h st;grind
   have p:0<QQ ws cs t-QQ ws cs s:=by grind
   have nz:QQ ws cs t-QQ ws cs s≠0:=by grind
   have lam:0<=(q-QQ ws cs s) / (QQ ws cs t-QQ ws cs s)/\(q-QQ ws cs s) / (QQ ws cs t-QQ ws cs s)<=1:=by
    refine⟨tV p ?_,tV p ?_⟩
    ·rw[V0 nz];grind
    ·rw[V0 nz];grind
   have le:(q-QQ ws cs s) / (QQ ws cs t-QQ ws cs s)*(QQ ws cs t-QQ ws cs s)=q-QQ ws cs s:=V0 nz;generalize (q-QQ ws cs s) / (QQ ws cs t-QQ ws cs s)=k at lam le;have ts:0<=t-s:=by grind
   have m1:=Ug lam.1 ts;have m2:=Vv lam.2 ts;refine⟨s+k*(t-s),by grind,?_⟩
   have d1:=zCC h n (u:=s+k*(t-s)) (by grind) (by grind)
   have d2':=zCC h n st Qe;grind
theorem zIv:∀(n:Nat)(g:Nat->Rat),∃ M,∀ i,i<n->Sz M (g i)
 | 0,_=>⟨0,fun i h=>by omega⟩
 | n+1,g=>by
  obtain⟨M,h⟩:=zIv n g;refine⟨M+((g n).num.natAbs+(g n).den),fun i hi=>?_⟩
  by_cases z:i=n
  ·rw[z];exact(zPD (g n)).mono (by omega)
  ·exact(h i (by omega)).mono (by omega)
theorem zRT{ws cs:List Int}(h:Wt ws cs)(hc:Cl cs){q:Rat}(q0:0<=q)(q1:q<=(cs.sum:Rat)):∃ u,0<=u/\QQ ws cs u=q:=by
 generalize hA:(List.range cs.length).map (lv ws cs)=A;have pm:(A.mergeSort fun a b=>decide (a<=b)).Perm A:=Qac A _
 have so:(A.mergeSort fun a b=>decide (a<=b)).Pairwise (·<=·):=by
  have:=Qad (le:=fun a b:Rat=>decide (a<=b)) (fun a b c h1 h2=>by
   have h1':=J8 h1;have h2':=J8 h2
   exact J6 (Qw h1' h2')) (fun a b=>by
   rcases Vz (a:=a) (b:=b) with z | z
   ·simp[z]
   ·simp[z]) A
  exact this.imp fun h=>J8 h
 generalize A.mergeSort (fun a b=>decide (a<=b))=L at pm so
 have nn:∀ x∈L,0<=x:=fun x hx=>by
  have hx':=pm.mem_iff.mp hx;rw[<-hA] at hx';obtain⟨i,hi,rfl⟩:=Qp.mp hx';exact zJi h hc (Qj.mp hi)
 have so':(0::L).Pairwise (·<=·):=Qr.mpr ⟨nn,so⟩;have cn:=vO (A:=A) so' fun x hx=>.inl (Qc _ (pm.mem_iff.mpr hx))
 have cn':Cn (fun s t=>s<=t/\zPh ws cs s t) (0::L):=cn.imp fun a b hab=>⟨hab.1,fun i hi=>hab.2 _ (by rw[<-hA];exact Qp.mpr ⟨i,Qj.mpr hi,rfl⟩)⟩
 have z0:QQ ws cs 0=0:=by
  unfold QQ;rw[eS (g:=fun i=>cR ws i*0) fun i hi=>zGI h (Qj.mp hi) (zJi h hc (Qj.mp hi)),eA];grind
 have zl:QQ ws cs ((0::L).getLast (by simp))=(cs.sum:Rat):=by
  unfold QQ;rw[eS (g:=cR cs) fun i hi=>zGN h (Qj.mp hi) ?_]
  ·exact tT cs
  ·have m:lv ws cs i∈L:=pm.mem_iff.mpr (by rw[<-hA];exact Qp.mpr ⟨i,hi,rfl⟩)
   have key:∀ {l:List Rat} (ne:l≠[]),l.Pairwise (·<=·)->∀ x∈l,x<=l.getLast ne:=by
    intro l
    induction l with
    | nil=>intro ne;exact absurd rfl ne
    | cons a r ih=>
     intro ne hp x hx;obtain⟨p1,p2⟩:=Qr.mp hp
     cases r with
     | nil=>rw[Qt.mp hx];exact Qe
     | cons b r=>
      rw[List.getLast_cons (by simp)];rcases Qd.mp hx with rfl | hx
      ·exact Qw (p1 b Qb) (ih (by simp) p2 b Qb)
      ·exact ih (by simp) p2 x hx
   exact key (by simp) so' _ (Qc _ m)
 exact zIs h cn' (by rw[z0];exact q0) (by rw[zl];exact q1)
theorem zGd{ws cs:List Int}(h:Wt ws cs)(hc:Cl cs){q:Rat}(q0:0<=q)(q1:q<=(cs.sum:Rat)):∃ M t,Lvl M ws cs q t:=by
 obtain⟨u,u0,e⟩:=zRT h hc q0 q1;obtain⟨M,hM⟩:=zIv cs.length (eE (cR cs) (cR ws) u);exact⟨M,u,u0,e,hM⟩
theorem zPy{w:Wy}{ws cs:List Int}(hw:w.due ws cs)(hc:Cl cs){q:Rat}(q0:0<=q)(q1:q<=(cs.sum:Rat)):∃ f M,Al M ws cs q f w:=by
 cases w with
 | row=>exact⟨_,0,fun i _=>rfl⟩
 | back=>exact⟨_,0,fun i _=>rfl⟩
 | part=>exact⟨_,0,fun i _=>rfl⟩
 | even=>
  obtain⟨M,t,tl⟩:=zGd hw hc q0 q1;exact⟨_,M,t,tl,fun i _=>rfl⟩
 | lack=>
  obtain⟨M,t,tl⟩:=zGd hw hc (q:=(cs.sum:Rat)-q) (by grind) (by grind)
  exact⟨_,M,t,tl,fun i _=>rfl⟩
 | half=>
  by_cases z:(cs.sum:Rat)<q+q
  ·obtain⟨M,t,tl⟩:=zGd (fM cs) hc (q:=((cs.sum:Rat)-q)+((cs.sum:Rat)-q)) (by grind) (by grind)
   exact⟨_,M,t,.inr ⟨z,tl,fun i _=>rfl⟩⟩
  ·have z':=Vf.mp z
   obtain⟨M,t,tl⟩:=zGd (fM cs) hc (q:=q+q) (by grind) z'
   exact⟨_,M,t,.inl ⟨z',tl,fun i _=>rfl⟩⟩
open Classical in
def FF(w:Wy)(ws cs:List Int)(q:Rat):Nat->Rat:=if h:∃ f M,Al M ws cs q f w then Classical.choose h else fun _=>0
theorem yG{w:Wy}{ws cs:List Int}(hw:w.due ws cs)(hc:Cl cs){q:Rat}(q0:0<=q)(q1:q<=(cs.sum:Rat)):∃ M,Al M ws cs q (FF w ws cs q) w:=by
 unfold FF;rw[J7 (zPy hw hc q0 q1)];exact Ui (zPy hw hc q0 q1)
theorem zDC{M:Nat}{w:Wy}{ws cs:List Int}(hw:w.due ws cs)(hc:Cl cs){q:Rat}{f:Nat->Rat}(q0:0<=q)(q1:q<=(cs.sum:Rat))(a:Al M ws cs q f w){i:Nat}(hi:i<cs.length):f i=FF w ws cs q i:=by
 obtain⟨M',b⟩:=yG hw hc q0 q1;exact zQv hw a b hi
theorem zLK{w:Wy}{ws cs:List Int}(hw:w.due ws cs)(hc:Cl cs){q:Rat}(q0:0<=q)(q1:q<=(cs.sum:Rat)):(∀ i,i<cs.length->0<=FF w ws cs q i/\FF w ws cs q i<=cR cs i)/\((List.range cs.length).map (FF w ws cs q)).sum=q:=by
 obtain⟨M,b⟩:=yG hw hc q0 q1;exact zRi hw hc q0 q1 b
theorem zNQ{w:Wy}{ws cs:List Int}(hw:w.due ws cs)(hc:Cl cs){q q':Rat}(q0:0<=q)(l:q<=q')(q1:q'<=(cs.sum:Rat)){i:Nat}(hi:i<cs.length):FF w ws cs q i<=FF w ws cs q' i:=by
 obtain⟨M,a⟩:=yG hw hc q0 (Qw l q1);obtain⟨M',b⟩:=yG hw hc (Qw q0 l) q1;exact zND hw hc a b l hi
theorem zMb{w:Wy}{ws cs:List Int}(hw:w.due ws cs)(hc:Cl cs){q:Rat}(q0:0<=q)(q1:q<=(cs.sum:Rat)){i:Nat}(hi:i<cs.length):FF w.con ws cs ((cs.sum:Rat)-q) i=cR cs i-FF w ws cs q i:=by
 obtain⟨M,a⟩:=yG hw hc q0 q1;obtain⟨M',b⟩:=yG (zNZ hw) hc (q:=(cs.sum:Rat)-q) (by grind) (by grind)
 exact zQP hw hc q0 q1 a b hi
theorem zCy{f:Nat->Rat}:∀ {l:List Nat},(∀ i∈l,0<=f i)->jG f l=0->∀ i∈l,f i=0
 | [],_,_,i,h=>by cases h
 | a::l,hn,e,i,h=>by
  have p:0<=jG f l:=by
   have:∀ {l:List Nat},(∀ i∈l,0<=f i)->0<=jG f l:=by
    intro l
    induction l with
    | nil=>intro _;rw[jF];exact Qe
    | cons b l ih=>intro hl;rw[bH];have:=hl b Qb;have:=ih fun x hx=>hl x (Qc _ hx);grind
   exact this fun x hx=>hn x (Qc _ hx)
  have a0:=hn a Qb;rw[bH] at e;rcases Qd.mp h with rfl | h
  ·grind
  ·exact zCy (fun x hx=>hn x (Qc _ hx)) (by grind) i h
theorem zJl{w:Wy}{ws cs:List Int}(hw:w.due ws cs)(hc:Cl cs){i:Nat}(hi:i<cs.length):FF w ws cs 0 i=0:=by
 have s0:(0:Rat)<=(cs.sum:Rat):=by exact_mod_cast hc.sum.1
 obtain⟨b,s⟩:=zLK hw hc Qe s0;exact zCy (fun i hi=>(b i (Qj.mp hi)).1) s i (Qj.mpr hi)
theorem zEH{w:Wy}{ws cs:List Int}(hw:w.due ws cs)(hc:Cl cs){i:Nat}(hi:i<cs.length):FF w ws cs (cs.sum:Rat) i=cR cs i:=by
 have s0:(0:Rat)<=(cs.sum:Rat):=by exact_mod_cast hc.sum.1
 obtain⟨b,s⟩:=zLK hw hc s0 Qe
 have e:=sH (f:=FF w ws cs (cs.sum:Rat)) (g:=cR cs) (l:=List.range cs.length) (fun i hi=>(b i (Qj.mp hi)).2) (by
  show((List.range cs.length).map _).sum=_
  rw[s]
  exact(tT cs).symm)
 exact e i (Qj.mpr hi)
theorem zBg:∀ {cs:List Int} {i j:Nat},(∀ c∈cs,0<=c)->i<j->j<=cs.length->(cs.take i).sum+cs.getD i 0<=(cs.take j).sum/\0<=(cs.take i).sum
 | [],i,j,_,h,h'=>by simp at h';omega
 | c::r,i,0,_,h,_=>by omega
 | c::r,0,j+1,hn,_,_=>by
  have hr:∀ l:List Int,(∀ c∈l,0<=c)->0<=l.sum:=by
   intro l
   induction l with
   | nil=>intro _;decide
   | cons a l ih=>intro hl;rw[Q8];have:=hl a Qb;have:=ih fun x hx=>hl x (Qc _ hx);omega
  have:=hr (r.take j) fun x hx=>hn x (Qc _ (Yq hx))
  rw[Uh,Q8];simp
  omega
 | c::r,i+1,j+1,hn,h,h'=>by
  have ih:=zBg (cs:=r) (i:=i) (j:=j) (fun x hx=>hn x (Qc _ hx)) (by omega) (by simpa using h')
  have:=hn c Qb
  rw[Uh,Q8,Uh,Q8];show c+_+r.getD i 0<=_/\_
  omega
def Jt(w:Wy)(ws cs:List Int)(a b:Rat):Prop:=0<=a/\a<=b/\b<=(cs.sum:Rat)/\∀ i,i<cs.length->Lin (fun x=>FF w ws cs x i) a b
theorem Lin.const{f:Rat->Rat}{a b k:Rat}(hab:a<=b)(h:∀ x,a<=x->x<=b->f x=k):Lin f a b:=fun x h1 h2=>by
 rw[h x h1 h2,h a Qe hab,h b hab Qe];grind
theorem Lin.line{f:Rat->Rat}{a b m k:Rat}(hab:a<=b)(h:∀ x,a<=x->x<=b->f x=m*x+k):Lin f a b:=fun x h1 h2=>by
 rw[h x h1 h2,h a Qe hab,h b hab Qe];grind
def rj:List Int->Int->List Rat
 | [],a=>[(a:Rat)]
 | c::r,a=>(a:Rat)::rj r (a+c)
theorem zEh(r:List Int)(a:Int):∃ t,rj r a=(a:Rat)::t:=by cases r<;>exact⟨_,rfl⟩
theorem zIC{cs:List Int}(hc:Cl cs):∀(post pre:List Int),cs=pre++post->Cn (Jt .row [] cs) (rj post pre.sum)
 | [],_,_=>trivial
 | c::r,pre,e=>by
  have ih:=zIC hc r (pre++[c]) (by rw[e];simp)
  rw[Xl,show([c]:List Int).sum=c by simp] at ih;obtain⟨t,et⟩:=zEh r (pre.sum+c);rw[rj,et];rw[et] at ih;refine⟨?_,ih⟩
  have hk:pre.length<cs.length:=by rw[e];simp
  have tk:cs.take pre.length=pre:=by rw[e];exact List.take_left
  have ck:cs.getD pre.length 0=c:=by rw[e,Qy,Vn (Qh _)];simp
  have c0:0<=c:=hc.nn c (by rw[e];simp)
  have p0:0<=pre.sum:=by
   have:∀ l:List Int,(∀ c∈l,0<=c)->0<=l.sum:=by
    intro l
    induction l with
    | nil=>intro _;decide
    | cons a l ih=>intro hl;rw[Q8];have:=hl a Qb;have:=ih fun x hx=>hl x (Qc _ hx);omega
   exact this pre fun x hx=>hc.nn x (by rw[e];exact Xo _ hx)
  have r0:0<=r.sum:=by
   have:∀ l:List Int,(∀ c∈l,0<=c)->0<=l.sum:=by
    intro l
    induction l with
    | nil=>intro _;decide
    | cons a l ih=>intro hl;rw[Q8];have:=hl a Qb;have:=ih fun x hx=>hl x (Qc _ hx);omega
   exact this r fun x hx=>hc.nn x (by rw[e];exact Q2 _ (Qc _ hx))
  have se:cs.sum=pre.sum+c+r.sum:=by rw[e,Xl,Q8];omega
  have ab:(pre.sum:Rat)<=((pre.sum+c:Int):Rat):=Xm.mpr (by omega)
  have bS:((pre.sum+c:Int):Rat)<=(cs.sum:Rat):=Xm.mpr (by omega)
  have a0:(0:Rat)<=(pre.sum:Rat):=by exact_mod_cast p0
  refine⟨a0,ab,bS,fun i hi=>?_⟩
  have fx:∀ x,(pre.sum:Rat)<=x->x<=((pre.sum+c:Int):Rat)->FF .row [] cs x i=mn (ps0 (x-((0+(cs.take i).sum:Int):Rat))) (cR cs i):=fun x h1 h2=>by
   rw[<-zDC (M:=0) (w:=.row) (ws:=[]) (f:=zFH cs x) rfl hc (Qw a0 h1) (Qw h2 bS) (fun i _=>rfl) hi];exact zAv cs 0 x i hi
  have ci:=(zHY hc hi).1;rcases Ua i pre.length with z | z | z
  ·have tu:=(zBg hc.nn z (Vs hk)).1
   rw[tk] at tu;refine Lin.const ab (k:=cR cs i) fun x h1 h2=>?_
   rw[fx x h1 h2]
   have tu':((0+(cs.take i).sum:Int):Rat)+cR cs i<=(pre.sum:Rat):=by
    unfold cR;rw[<-Vq];exact Xm.mpr (by omega)
   unfold mn ps0;grind
  ·subst z
   refine Lin.line ab (m:=1) (k:=-(pre.sum:Rat)) fun x h1 h2=>?_
   rw[fx x h1 h2,tk,Int.zero_add];have:cR cs pre.length=(c:Rat):=by unfold cR;rw[ck]
   rw[this];rw[Vq] at h2;unfold mn ps0;grind
  ·have tu:=(zBg hc.nn z (Vs hi)).1
   rw[tk,ck] at tu;refine Lin.const ab (k:=0) fun x h1 h2=>?_
   rw[fx x h1 h2];have tu':((pre.sum+c:Int):Rat)<=((0+(cs.take i).sum:Int):Rat):=Xm.mpr (by omega)
   unfold mn ps0;grind
theorem zQw{cs:List Int}(hc:Cl cs):Cn (Jt .row [] cs) (rj cs 0):=zIC hc cs [] rfl
theorem zOO{cs:List Int}(hc:Cl cs):Cn (Jt .part [] cs) [0,(cs.sum:Rat)]:=by
 have s0:(0:Rat)<=(cs.sum:Rat):=by exact_mod_cast hc.sum.1
 refine⟨⟨Qe,s0,Qe,fun i hi=>?_⟩,trivial⟩
 have fx:∀ x,0<=x->x<=(cs.sum:Rat)->FF .part [] cs x i*(cs.sum:Rat)=x*cR cs i:=fun x h1 h2=>by
  rw[<-zDC (M:=0) (w:=.part) (ws:=[]) (f:=kM cs x) rfl hc h1 h2 (fun i _=>rfl) hi];exact(jN hc hi).1
 intro x h1 h2;have e0:=zJl (w:=.part) (ws:=[]) rfl hc hi;have e1:=fx x h1 h2;have e2:=zEH (w:=.part) (ws:=[]) rfl hc hi;show(FF .part [] cs x i-FF .part [] cs 0 i)*_=_*(FF .part [] cs (cs.sum:Rat) i-FF .part [] cs 0 i)
 rw[e0,e2];generalize FF Wy.part [] cs x i=y at *;generalize (cs.sum:Rat)=S at *;generalize cR cs i=c at *;grind
theorem zHE{R R':Rat->Rat->Prop}{g:Rat->Rat}(h:∀ a b,R a b->R' (g a) (g b)):∀ {l:List Rat},Cn R l->Cn R' (l.map g)
 | [],_=>trivial
 | [_],_=>trivial
 | a::b::l,k=>⟨h a b k.1,zHE h k.2⟩
theorem zJO{R:Rat->Rat->Prop}:∀ {l l':List Rat},Cn R l->Cn R l'->(∀ x y,l.getLast?=some x->l'.head?=some y->R x y)->Cn R (l++l')
 | [],_,_,h,_=>h
 | [a],[],_,_,_=>trivial
 | [a],b::l',_,h,k=>⟨k a b rfl rfl,h⟩
 | a::b::l,l',h,h',k=>⟨h.1,zJO h.2 h' fun x y hx hy=>k x y (by simpa using hx) hy⟩
theorem zJV{R R':Rat->Rat->Prop}{g:Rat->Rat}(h:∀ a b,R a b->R' (g b) (g a)):∀ {l:List Rat},Cn R l->Cn R' (l.reverse.map g)
 | [],_=>trivial
 | [_],_=>trivial
 | a::b::l,k=>by
  have ih:=zJV (l:=b::l) h k.2;rw[List.reverse_cons,Vb];refine zJO ih trivial fun x y hx hy=>?_
  rw[Xu,Wo] at hx;cases hx;cases hy;exact h a b k.1
theorem Lin.mir{f g:Rat->Rat}{a b S c:Rat}(hab:a<=b)(h:Lin f a b)(hg:∀ x,a<=x->x<=b->g (S-x)=c-f x):Lin g (S-b) (S-a):=fun x h1 h2=>by
 have k:=h (S-x) (by grind) (by grind)
 have e:=hg (S-x) (by grind) (by grind)
 rw[show S-(S-x)=x by grind] at e;rw[e,hg a Qe hab,hg b hab Qe];grind
theorem zMA{w:Wy}{ws cs:List Int}(hw:w.due ws cs)(hc:Cl cs){a b:Rat}(h:Jt w ws cs a b):Jt w.con ws cs ((cs.sum:Rat)-b) ((cs.sum:Rat)-a):=by
 obtain⟨h1,h2,h3,h4⟩:=h;refine⟨by grind,by grind,by grind,fun i hi=>?_⟩
 exact Lin.mir h2 (h4 i hi) (c:=cR cs i) fun x x1 x2=>zMb hw hc (Qw h1 x1) (Qw x2 h3) hi
theorem zRY{ws cs:List Int}(h:Wt ws cs)(hc:Cl cs){s t:Rat}(s0:0<=s)(st:s<=t)(n:zPh ws cs s t):Jt .even ws cs (QQ ws cs s) (QQ ws cs t):=by
 have g0:∀ i,i<cs.length->∀ t,0<=t->0<=eE (cR cs) (cR ws) t i/\eE (cR cs) (cR ws) t i<=cR cs i:=fun i hi t t0=>pQ h hc t0 hi
 have q0:0<=QQ ws cs s:=by
  have:jG (fun i=>cR ws i*0) (List.range cs.length)<=QQ ws cs s:=sK fun i hi=>by
   have:=(g0 i (Qj.mp hi) s s0).1
   grind
  rw[eA] at this;grind
 have q1:QQ ws cs t<=(cs.sum:Rat):=by
  have:QQ ws cs t<=jG (cR cs) (List.range cs.length):=sK fun i hi=>(g0 i (Qj.mp hi) t (Qw s0 st)).2
  have e:jG (cR cs) (List.range cs.length)=(cs.sum:Rat):=tT cs;rw[e] at this;exact this
 refine⟨q0,mD h st,q1,fun i hi=>zQk h st n hi fun x x1 x2=>?_⟩
 obtain⟨M,u,tl,e⟩:=yG (w:=.even) h hc (Qw q0 x1) (Qw x2 q1);exact⟨u,tl.sum,e i hi⟩
theorem zMY{ws cs:List Int}(h:Wt ws cs)(hc:Cl cs){ls:List Rat}(so:ls.Pairwise (·<=·))(hm:∀ i,i<cs.length->lv ws cs i∈ls)(h0:∀ x∈ls,0<=x):Cn (Jt .even ws cs) ((0::ls).map (QQ ws cs)):=by
 have so':(0::ls).Pairwise (·<=·):=Qr.mpr ⟨h0,so⟩;have cn:=vO (A:=0::ls) so' fun x hx=>.inl hx
 have pos:∀ {l:List Rat},(∀ x∈l,0<=x)->Cn (fun s t=>s<=t/\∀ x∈0::ls,x<=s∨t<=x) l->Cn (fun s t=>0<=s/\s<=t/\∀ x∈0::ls,x<=s∨t<=x) l:=by
  intro l
  induction l with
  | nil=>intro _ _;trivial
  | cons a r ih=>
   intro hp k
   cases r with
   | nil=>trivial
   | cons b r=>exact⟨⟨hp a Qb,k.1⟩,ih (fun x hx=>hp x (Qc _ hx)) k.2⟩
 refine zHE (fun a b hab=>?_) (pos (fun x hx=>?_) cn)
 ·exact zRY h hc hab.1 hab.2.1 fun i hi=>hab.2.2 _ (Qc _ (hm i hi))
 ·rcases Qd.mp hx with rfl | hx
  ·exact Qe
  ·exact h0 x hx
theorem vK{cs:List Int}(hc:Cl cs){q:Rat}(q0:0<=q)(q1:q+q<=(cs.sum:Rat)){i:Nat}(hi:i<cs.length):FF .half [] cs q i=FF .even (ones cs) cs (q+q) i*hf:=by
 have s0:(0:Rat)<=(cs.sum:Rat):=by exact_mod_cast hc.sum.1
 obtain⟨M,t,tl,e⟩:=yG (w:=.even) (ws:=ones cs) (fM cs) hc (q:=q+q) (by grind) q1
 rw[<-zDC (M:=M) (w:=.half) (ws:=[]) (f:=fun i=>eE (cR cs) (cR (ones cs)) t i*hf) rfl hc q0 (by grind) ⟨t,.inl ⟨q1,tl,fun i _=>rfl⟩⟩ hi,e i hi]
theorem zOb{cs:List Int}(hc:Cl cs){a b:Rat}(h:Jt .even (ones cs) cs a b):Jt .half [] cs (a*hf) (b*hf):=by
 obtain⟨h1,h2,h3,h4⟩:=h;have tw:∀ x:Rat,x*hf+x*hf=x:=fun x=>by rw[iP];grind
 have ta:=tw a;have tb:=tw b;have p:(0:Rat)<hf:=by rw[iP];grind
 have l1:=Vv h1 (Qf p);have l2:=Vv h2 (Qf p);refine⟨by grind,l2,by grind,fun i hi x x1 x2=>?_⟩
 have fx:∀ y,a*hf<=y->y<=b*hf->FF .half [] cs y i=FF .even (ones cs) cs (y+y) i*hf:=fun y y1 y2=>vK hc (by grind) (by grind) hi
 show(FF .half [] cs x i-FF .half [] cs (a*hf) i)*_=_*(FF .half [] cs (b*hf) i-FF .half [] cs (a*hf) i)
 rw[fx x x1 x2,fx (a*hf) Qe l2,fx (b*hf) l2 Qe,ta,tb];have k:=h4 i hi (x+x) (by grind) (by grind)
 have k':(FF .even (ones cs) cs (x+x) i-FF .even (ones cs) cs a i)*(b-a)=(x+x-a)*(FF .even (ones cs) cs b i-FF .even (ones cs) cs a i):=k;rw[show b*hf-a*hf=(b-a)*hf by grind];have hh:hf*(1+1)=1:=by rw[iP];grind
 generalize FF Wy.even (ones cs) cs (x+x) i=u at *;generalize FF Wy.even (ones cs) cs a i=v at *;generalize FF Wy.even (ones cs) cs b i=z at *;generalize hf=H at *;grind
structure JL (w:Wy) (ws cs:List Int) (l:List Rat):Prop where
 cn:Cn (Jt w ws cs) l
 hd:l.head?=some 0
 la:l.getLast?=some (cs.sum:Rat)
def ddR:Rat->List Rat->List Rat
 | _,[]=>[]
 | k,x::l=>if k<x then x::ddR x l else ddR k l
theorem zNh{w:Wy}{ws cs:List Int}:∀ {l:List Rat} {k:Rat},Cn (Jt w ws cs) (k::l)->Cn (fun a b=>a<b/\Jt w ws cs a b) (k::ddR k l)/\(k::ddR k l).getLast?=(k::l).getLast?
 | [],k,_=>⟨trivial,rfl⟩
 | x::l,k,h=>by
  rw[ddR];by_cases z:k<x
  ·rw[Jk z]
   obtain⟨i1,i2⟩:=zNh h.2;refine⟨⟨⟨z,h.1⟩,i1⟩,?_⟩
   rw[Yr,Yr];exact i2
  ·rw[Jl z]
   have e:k=x:=by have:=h.1.2.1;grind
   subst e;obtain⟨i1,i2⟩:=zNh h.2;refine⟨i1,?_⟩
   rw[i2,Yr]
theorem zKo:∀(l:List Rat)(k:Rat),(ddR k l).Sublist l
 | [],_=>List.Sublist.refl _
 | x::l,k=>by
  rw[ddR];split
  ·exact(zKo l x).cons₂ x
  ·exact(zKo l k).cons x
structure JS (w:Wy) (ws cs:List Int) (l:List Rat):Prop where
 cn:Cn (fun a b=>a<b/\Jt w ws cs a b) l
 hd:l.head?=some 0
 la:l.getLast?=some (cs.sum:Rat)
theorem JL.js{w:Wy}{ws cs:List Int}{l:List Rat}(h:JL w ws cs (0::l)):JS w ws cs (0::ddR 0 l):=by
 obtain⟨a,b⟩:=zNh h.cn;exact⟨a,rfl,by rw[b];exact h.la⟩
theorem zNy{R:Rat->Rat->Prop}:∀ {l:List Rat},Cn (fun a b=>a<b/\R a b) l->l.Pairwise (· < ·)
 | [],_=>.nil
 | [a],_=>Uj ..
 | a::b::l,h=>by
  have ih:=zNy h.2;refine Qr.mpr ⟨fun x hx=>?_,ih⟩
  rcases Qd.mp hx with rfl | hx
  ·exact h.1.1
  ·have z1:=h.1.1
   have z2:=(Qr.mp ih).1 x hx;grind
theorem zPH{R:Rat->Rat->Prop}:∀ {l:List Rat} {k:Nat} {a b:Rat},Cn R l->l[k]?=some a->l[k+1]?=some b->R a b
 | x::y::l,0,a,b,h,e1,e2=>by cases e1;cases e2;exact h.1
 | x::y::l,k+1,a,b,h,e1,e2=>zPH (k:=k) h.2 (by simpa using e1) (by simpa using e2)
 | [x],0,a,b,h,e1,e2=>by simp at e2
 | [x],k+1,a,b,h,e1,e2=>by simp at e2
 | [],k,a,b,h,e1,e2=>by simp at e1
def jpt(w:Wy)(ws cs:List Int)(l:List Rat)(i:Nat):List Pt:=l.map fun q=>(q,FF w ws cs q i)
theorem JS.bd{w:Wy}{ws cs:List Int}{l:List Rat}(h:JS w ws cs l):∀ x∈l,0<=x/\x<=(cs.sum:Rat):=by
 have p:=zNy h.cn;intro x hx;obtain⟨hd,la⟩:=(⟨h.hd,h.la⟩:_/\_)
 cases l with
 | nil=>cases hx
 | cons a r=>
  cases hd;refine⟨?_,?_⟩
  ·rcases Qd.mp hx with rfl | hx
   ·exact Qe
   ·exact Qf ((Qr.mp p).1 x hx)
  ·have key:∀ {l:List Rat} {e x:Rat},l.Pairwise (· < ·)->l.getLast?=some e->x∈l->x<=e:=by
    intro l
    induction l with
    | nil=>intro e x _ _ hx;cases hx
    | cons a r ih=>
     intro e x hp he hx;obtain⟨p1,p2⟩:=Qr.mp hp
     cases r with
     | nil=>rw[Qt.mp hx];cases he;exact Qe
     | cons b r=>
      rw[Yr] at he;rcases Qd.mp hx with rfl | hx
      ·exact Qw (Qf (p1 b Qb)) (ih p2 he Qb)
      ·exact ih p2 he hx
   exact key p la hx
theorem zFt{w:Wy}{ws cs:List Int}{l:List Rat}(hw:w.due ws cs)(hc:Cl cs)(h:JS w ws cs l){i:Nat}(hi:i<cs.length):Ok (jpt w ws cs l i)/\(jpt w ws cs l i).getLast?=some ((cs.sum:Rat),cR cs i):=by
 have b:=h.bd;refine⟨⟨?_,?_⟩,?_⟩
 ·unfold jpt
  rw[Yz,h.hd];show some ((0:Rat),FF w ws cs 0 i)=_
  rw[zJl hw hc hi]
 ·unfold jpt
  rw[Xt];refine Yj (fun {x y} hx hy hxy=>?_) (zNy h.cn)
  exact⟨hxy,zNQ hw hc (b x hx).1 (Qf hxy) (b y hy).2 hi⟩
 ·unfold jpt
  rw[Xu,h.la];show some ((cs.sum:Rat),FF w ws cs (cs.sum:Rat) i)=_
  rw[zEH hw hc hi]
theorem zNt{w:Wy}{ws cs:List Int}{l:List Rat}(hw:w.due ws cs)(hc:Cl cs)(h:JS w ws cs l){i:Nat}(hi:i<cs.length){x:Rat}(x0:0<=x)(x1:x<=(cs.sum:Rat)):bF (jpt w ws cs l i) x=FF w ws cs x i:=by
 obtain⟨ok,la⟩:=zFt hw hc h hi
 have pt:∀ {k:Nat} {p:Pt},(jpt w ws cs l i)[k]?=some p->l[k]?=some p.1/\p.2=FF w ws cs p.1 i:=fun {k p} e=>by
  unfold jpt at e;rw[Qs] at e
  cases hk:l[k]? with
  | none=>rw[hk] at e;cases e
  | some a=>rw[hk] at e;cases e;exact⟨rfl,rfl⟩
 rcases tW ok.2 la (fun p hp=>by rw[ok.1] at hp;cases hp;exact x0) x1 with⟨k,p,e1,e2⟩ | ⟨k,p,q,e1,e2,e3,e4⟩
 ·have v:=bR ok.2 e1
  rw[(pt e1).2,e2] at v;exact v
 ·rw[cB ok.2 e1 e2 (Qf e3) (Qf e4)]
  obtain⟨a1,a2⟩:=pt e1;obtain⟨b1,b2⟩:=pt e2;obtain⟨lt,j⟩:=zPH h.cn a1 b1;have k:=j.2.2.2 i hi x (Qf e3) (Qf e4);have k':(FF w ws cs x i-FF w ws cs p.1 i)*(q.1-p.1)=(x-p.1)*(FF w ws cs q.1 i-FF w ws cs p.1 i):=k;unfold itp;rw[a2,b2];generalize FF w ws cs x i=u at *;generalize FF w ws cs p.1 i=v at *;generalize FF w ws cs q.1 i=z at *;have nz:q.1-p.1≠0:=by grind
  refine mJ nz ?_
  have e:(x-p.1) / (q.1-p.1)*(q.1-p.1)=x-p.1:=V0 nz;generalize (x-p.1) / (q.1-p.1)=r at *;grind
def wln(w:Wy)(ws cs:List Int)(l:List Rat)(i:Nat):List Pt:=mI (jpt w ws cs l i)
theorem zMh{w:Wy}{ws cs:List Int}{l:List Rat}(hw:w.due ws cs)(hc:Cl cs)(h:JS w ws cs l){i:Nat}(hi:i<cs.length):zPn (wln w ws cs l i)/\(wln w ws cs l i).getLast?=some ((cs.sum:Rat),cR cs i)/\(∀ p∈wln w ws cs l i,p.1∈l/\p.2=FF w ws cs p.1 i)/\∀ x,0<=x->x<=(cs.sum:Rat)->bF (wln w ws cs l i) x=FF w ws cs x i:=by
 obtain⟨ok,la⟩:=zFt hw hc h hi;unfold wln;refine⟨lQ ok,by rw[uW ok.2];exact la,fun p hp=>?_,fun x x0 x1=>by rw[zH ok.2];exact zNt hw hc h hi x0 x1⟩
 have m:=(oM ok.2).subset hp;unfold jpt at m;obtain⟨q,hq,rfl⟩:=Qp.mp m;exact⟨hq,rfl⟩
theorem vU:∀ {l m:List Rat},l.Perm m->l.Pairwise (·<=·)->m.Pairwise (·<=·)->l=m
 | [],m,p,_,_=>(List.nil_perm.mp p).symm
 | a::l,[],p,_,_=>by cases (List.perm_nil.mp p)
 | a::l,b::m,p,h,k=>by
  obtain⟨h1,h2⟩:=Qr.mp h;obtain⟨k1,k2⟩:=Qr.mp k
  have e:a=b:=by
   have x:a<=b:=by
    rcases Qd.mp (p.mem_iff.mpr Qb) with e | e
    ·rw[e];exact Qe
    ·exact h1 b e
   have y:b<=a:=by
    rcases Qd.mp (p.mem_iff.mp Qb) with e | e
    ·rw[e];exact Qe
    ·exact k1 a e
   grind
  subst e;rw[vU (List.perm_cons a |>.mp p) h2 k2]
theorem zBY{cs:List Int}{cd:D}(sc:Sq cd cs)(hc:Cl cs):fV [cd]=.ok (.f ((rj cs 0).map dq)):=by
 have hi:=hc.hi
 have lp:∀(r:List Int)(a:Int)(acc:List D)(s:Sl),acc.length+r.length<=1000->∃ a' s',iC (gName 3) oZ (r.map D.int) [.val cd,.val (.int a),.own (acc++[dq (a:Rat)]),s]=.ok (.nx [.val cd,a',.own (acc++(rj r a).map dq),s']):=by
  intro r
  induction r with
  | nil=>intro a acc s _;exact⟨_,s,rfl⟩
  | cons c r ih=>
   intro a acc s hl;rw[Qm] at hl;obtain⟨a',s',e⟩:=ih (a+c) (acc++[dq (a:Rat)]) (.val (.int c)) (by rw[Ql];simp;omega)
   refine⟨a',s',?_⟩
   rw[Qu,dE (ρ1:=[.val cd,.val (.int a),.own (acc++[dq (a:Rat)]),.val (.int c)]) (ρ2:=[.val cd,.val (.int (a+c)),.own (acc++[dq (a:Rat)]++[dq ((a+c:Int):Rat)]),.val (.int c)]) rfl (by
    symm;rw[bZ];symm
    rw[Jk (by rw[Ql];simp;omega)]),e,rj,Qu,V3]
   rfl
 obtain⟨a',s',e⟩:=lp cs 0 [] .un (by simp;omega)
 rw[Xr,Xr] at e;unfold fV;symm;rw[sc.seq];symm;have e0:dq ((0:Int):Rat)=dq 0:=rfl;rw[e0] at e;rw[e];symm
theorem zIz{ws cs:List Int}(h:Wt ws cs){i:Nat}{pre post:List Nat}(hm:∀ j∈pre++i::post,j<cs.length)(so:(pre++i::post).Pairwise fun a b=>lv ws cs a<=lv ws cs b)(p:(pre++i::post).Perm (List.range cs.length)):QQ ws cs (lv ws cs i)=((wS cs pre:Int):Rat)+lv ws cs i*((wS ws (i::post):Int):Rat):=by
 unfold QQ;rw[<-vB p]
 have app:∀(f:Nat->Rat)(a b:List Nat),jG f (a++b)=jG f a+jG f b:=by
  intro f a b
  induction a with
  | nil=>rw[Xr,jF,Rat.zero_add]
  | cons x a ih=>rw[Ud,bH,bH,ih];grind
 obtain⟨s1,s2,s3⟩:=Wp.mp so;rw[app,eS (g:=cR cs) (l:=pre) fun j hj=>zGN h (hm j (Xo _ hj)) (s3 j hj i Qb),nQ]
 rw[eS (g:=fun j=>cR ws j*lv ws cs i) (l:=i::post) fun j hj=>zGI h (hm j (Q2 _ hj)) (by
  rcases Qd.mp hj with rfl | hj
  ·exact Qe
  ·exact(Qr.mp s2).1 j hj),eA,nQ]
theorem zQO{ws cs:List Int}(h:Wt ws cs)(hc:Cl cs){i:Nat}(hi:i<cs.length):Sz 104 (lv ws cs i)/\Dn (ws.getD i 0) (lv ws cs i):=by
 have w:=h.at hi;have c1:=hc.nn _ (Qi (bL hi));have c2:=hc.up _ (Qi (bL hi));refine⟨?_,cs.getD i 0,?_⟩
 ·unfold lv cR
  rw[<-Xs];exact Sz.of (by omega) (by omega) (by omega)
 ·have e:=zN h hi
  have e':((ws.getD i 0:Int):Rat)*lv ws cs i=((cs.getD i 0:Int):Rat):=e;rw[<-e'];grind
theorem zNS{cs:List Int}(hn:∀ c∈cs,0<=c):∀ {π:List Nat},(∀ i∈π,i<cs.length)->0<=wS cs π
 | [],_=>by show(0:Int)<=0;decide
 | i::π,h=>by
  rw[oA];have a:=hn _ (Qi (bL (h i Qb)));have b:=zNS hn fun j hj=>h j (Qc _ hj)
  omega
theorem zMI(cs:List Int)(a b:List Nat):wS cs (a++b)=wS cs a+wS cs b:=by unfold wS;rw[Vb,Xl]
theorem rX{ws cs:List Int}{wd cd:D}(sw:Sq wd ws)(sc:Sq cd cs)(h:Wt ws cs)(hc:Cl cs):∃ ls:List Rat,dR [wd,cd]=.ok (.f (((0::ls).map (QQ ws cs)).map dq))/\ls.Pairwise (·<=·)/\ls.Perm ((List.range cs.length).map (lv ws cs))/\QQ ws cs 0=0:=by
 have hcc:∀ c∈cs,0<=c/\c<10^30:=fun c h=>⟨hc.nn c h,hc.up c h⟩
 have hi:=hc.hi;have sm:=hc.sum;have hw:=h.len;have hkr:=zB (zMJ h hcc) (by rw[zBN hw];exact hi)
 generalize hkz:(lvs ws cs).map (zKt (uN (lvs ws cs)))=kz at hkr;have lz:kz.length=cs.length:=by rw[<-hkz,Qg,zBN hw]
 have B0:(0:Rat)<(uN (lvs ws cs):Rat):=by exact_mod_cast zBt (lvs ws cs)
 have kat:∀ i,i<cs.length->((kz.getD i 0:Int):Rat)=lv ws cs i*(uN (lvs ws cs):Rat):=fun i h=>by
  have e:=zJo hw h;have e2:kz.getD i 0=zKt (uN (lvs ws cs)) (cR cs i / cR ws i):=by rw[<-hkz,Qy,Qs,e];rfl
  rw[e2];exact zLW (Qi e)
 have z0:QQ ws cs 0=0:=by
  unfold QQ;rw[eS (g:=fun i=>cR ws i*0) fun i hi=>zGI h (Qj.mp hi) (zJi h hc (Qj.mp hi)),eA];grind
 have ord:∀ π,iO kz π->π.Perm (List.range cs.length)/\(∀ i∈π,i<cs.length)/\π.Pairwise fun a b=>lv ws cs a<=lv ws cs b:=by
  intro π hπ;obtain⟨hp,ho⟩:=hπ;rw[lz] at hp;have hm:∀ i∈π,i<cs.length:=fun i h=>Qj.mp (hp.mem_iff.mp h)
  refine⟨hp,hm,Yj (fun {i j} h1 h2 h3=>?_) ho⟩
  have h4:((kz.getD i 0:Int):Rat)<=((kz.getD j 0:Int):Rat):=Xm.mpr h3;rw[kat i (hm i h1),kat j (hm j h2)] at h4;exact X5 h4 B0
 obtain⟨π0,hπ0⟩:=zDX kz;obtain⟨p0,m0,s0⟩:=ord π0 hπ0
 have key:∀ π,iO kz π->π.map (lv ws cs)=π0.map (lv ws cs):=fun π hπ=>by
  obtain⟨p1,m1,s1⟩:=ord π hπ;exact vU ((p1.trans p0.symm).map _) (Xt.mpr s1) (Xt.mpr s0)
 refine⟨π0.map (lv ws cs),?_,Xt.mpr s0,p0.map _,z0⟩
 have lp:∀(π:List Nat)(hπ:π.Perm (List.range cs.length))(so:π.Pairwise fun a b=>lv ws cs a<=lv ws cs b)(post pre:List Nat)(acc:List D)(s:Sl),π=pre++post->acc.length+post.length<=100->∃ a' b' s',iC (gName 6) gE (kU post) [.val wd,.val cd,.val (.int (wS cs pre)),.val (.int (wS ws post)),.val (.lst ((lvs ws cs).map dq)),.own acc,s]=.ok (.nx [.val wd,.val cd,a',b',.val (.lst ((lvs ws cs).map dq)),.own (acc++post.map fun i=>dq (QQ ws cs (lv ws cs i))),s']):=by
  intro π hπ so post
  induction post with
  | nil=>intro pre acc s _ _;exact⟨_,_,s,by rw[Xg,Vg];rfl⟩
  | cons i post ih=>
   intro pre acc s e hl;have hm:∀ j∈pre++i::post,j<cs.length:=fun j hj=>Qj.mp (hπ.mem_iff.mp (by rw[e];exact hj))
   have hii:=hm i (by simp)
   have ss:=zIz h hm (by rw[<-e];exact so) (by rw[<-e];exact hπ)
   have W:=h.sum (π:=i::post) fun j hj=>hm j (Q2 _ hj)
   have ln:(pre++i::post).length=cs.length:=by rw[<-e,hπ.length_eq,Q3]
   rw[Ql,Qm] at ln;rw[Qm] at W hl;have F0:=zNS hc.nn (π:=pre) fun j hj=>hm j (Xo _ hj)
   have F1:wS cs pre<=cs.sum:=by
    have t:=zBG (ws:=cs) (π:=pre++i::post) (by rw[<-e];exact hπ)
    rw[zMI] at t;have:=zNS hc.nn (π:=i::post) fun j hj=>hm j (Q2 _ hj)
    omega
   obtain⟨a',b',s',e'⟩:=ih (pre++[i]) (acc++[dq (QQ ws cs (lv ws cs i))]) (.val (.int (i:Nat))) (by rw[e];simp) (by rw[Ql];simp;omega)
   refine⟨a',b',s',?_⟩
   have zl:=(zQO h hc hii).1;have zW:Sz 24 ((wS ws (i::post):Int):Rat):=dB (by omega) (by decide)
   have zF:Sz 105 ((wS cs pre:Int):Rat):=dB (by omega) (by decide)
   have ixl:oIx (.lst ((lvs ws cs).map dq)) (.int (i:Int))=.ok (dq (lv ws cs i)):=oY (Xa i) (zJo hw hii);show iC _ _ (.int (i:Nat)::kU post) _=_
   rw[dE (ρ1:=[.val wd,.val cd,.val (.int (wS cs pre)),.val (.int (wS ws (i::post))),.val (.lst ((lvs ws cs).map dq)),.own acc,.val (.int (i:Nat))]) (ρ2:=[.val wd,.val cd,.val (.int (wS cs (pre++[i]))),.val (.int (wS ws post)),.val (.lst ((lvs ws cs).map dq)),.own (acc++[dq (QQ ws cs (lv ws cs i))]),.val (.int (i:Nat))]) rfl (by
    symm;rw[bZ];symm;rw[ixl];symm;rw[bZ];symm;rw[nY zl zW (by decide)];symm;rw[zDa zF (zl.mul zW) (by decide),<-ss];symm;rw[Jk (by omega)];symm;rw[sc.ix hii];symm;rw[sw.ix (by omega)];symm
    rw[zMI,oA ws,show wS cs [i]=cs.getD i 0 by unfold wS;simp,show ws.getD i 0+wS ws post-ws.getD i 0=wS ws post by omega]),e',V3]
   rfl
 have one:∀ π,iO kz π->aZ (fun ρ=>iC (gName 6) gE (kU π) ρ) nJ [.val wd,.val cd,.val (.int 0),.val (.int ws.sum),.val (.lst ((lvs ws cs).map dq)),.own [dq 0],.un]=.ok (.ret (.f (((0::π0.map (lv ws cs)).map (QQ ws cs)).map dq))):=by
  intro π hπ;obtain⟨p1,m1,s1⟩:=ord π hπ;have lπ:π.length=cs.length:=by rw[p1.length_eq,Q3]
  obtain⟨a',b',s',e⟩:=lp π p1 s1 π [] [dq 0] .un rfl (by simp;omega)
  rw[show wS cs []=0 from rfl,zBG (ws:=ws) (π:=π) (by rw[hw];exact p1)] at e;refine(zMo (a:=fun ρ=>iC (gName 6) gE (kU π) ρ) e).trans ?_
  rw[<-key π hπ,Qu,z0,Qu,Qv,Qv];rfl
 unfold dR;symm;rw[sw.sum];symm;rw[xE sw sc h hi];symm;unfold nN;rw[zIk (kz:=kz) (by symm; exact hkr) one];rfl
theorem tH{l:List Rat}{S:Int}(hl:l.length<=1000)(hz:∀ x∈l,Sz 300 x)(hS:S.natAbs<2^105):hZ [.lst (l.map dq),dq (S:Rat)]=.ok (.f ((l.reverse.map fun x=>(S:Rat)-x).map dq)):=by
 have zS:Sz 105 (S:Rat):=dB hS (by decide)
 unfold hZ;symm;rw[show(l.map dq).reverse=l.reverse.map dq by rw[List.map_reverse]]
 rw[fH (u:=dq) (g:=fun x=>dq ((S:Rat)-x)) (by rw[Vx];omega) (fun x hx=>by
  symm;rw[eV zS (hz x (Wq.mp hx)) (by decide)]
  symm)]
 symm;rw[Qv];rfl
theorem sX{l:List Rat}(hl:l.length<=900)(hz:∀ x∈0::l,Sz 300 x):dG [.lst ((0::l).map dq)]=.ok (.f ((0::ddR 0 l).map dq)):=by
 have lp:∀(r:List Rat)(acc:List Rat)(k:Rat)(d:Sl)(s:Sl),(∀ x∈r,Sz 300 x)->Sz 300 k->acc.length+r.length<=1000->∃ s',iC (gName 2) jU (r.map dq) [d,.own ((acc++[k]).map dq),s]=.ok (.nx [d,.own ((acc++k::ddR k r).map dq),s']):=by
  intro r
  induction r with
  | nil=>intro acc k d s _ _ _;exact⟨s,rfl⟩
  | cons x r ih=>
   intro acc k d s hr hk hl;rw[Qm] at hl;have hx:=hr x Qb;have ixk:oIx (.lst ((acc++[k]).map dq)) (.int (-1))=.ok (dq k):=zEy (k:=1) rfl (by decide) (by rw[Ql];simp) (by rw[Ql];simp)
   have hr':∀ y∈r,Sz 300 y:=fun y hy=>hr y (Qc _ hy)
   rw[Qu,ddR];by_cases z:k<x
   ·obtain⟨s',e⟩:=ih (acc++[k]) x d (.val (dq x)) hr' hx (by rw[Ql];simp;omega)
    refine⟨s',?_⟩
    rw[Jk z,dE (ρ1:=[d,.own ((acc++[k]).map dq),.val (dq x)]) (ρ2:=[d,.own ((acc++[k]++[x]).map dq),.val (dq x)]) rfl (by
     cases d<;>(
      symm;rw[ixk];symm;rw[kK hk hx (by decide),J6 z];symm;rw[Jk (by rw[Ql];simp;omega),Vb (l₁:=acc++[k])]
      rfl)),e,V3]
    rfl
   ·obtain⟨s',e⟩:=ih acc k d (.val (dq x)) hr' hk (by omega)
    refine⟨s',?_⟩
    rw[Jl z,dE (ρ1:=[d,.own ((acc++[k]).map dq),.val (dq x)]) (ρ2:=[d,.own ((acc++[k]).map dq),.val (dq x)]) rfl (by
     cases d<;>(
      symm;rw[ixk];symm;rw[kK hk hx (by decide),Jj z]
      symm)),e]
 obtain⟨s',e⟩:=lp (0::l) [] 0 (.val (.lst ((0::l).map dq))) .un hz ⟨by decide,by decide⟩ (by simp;omega)
 rw[Xr,Xr,ddR,Jl (by decide)] at e;unfold dG;symm;rw[zLk (by decide),show((1:Int).toNat)=1 from rfl,show List.take 1 (dq 0::l.map dq)=[0].map dq from rfl];rw[Qu] at e;rw[e];rfl
theorem zRP{B S:Int}{x:Rat}(h:Dn B x)(hB:0<B)(hB':B<2^30)(h0:0<=x)(h1:x<=(S:Rat))(hS:S<2^104):Sz 300 x:=(h.sz (a:=104) (b:=30) hB hB' h0 h1 hS).mono (by decide)
def Jd(cs:List Int)(l:List Rat):Prop:=l.length<=30/\∀ x∈l,∃ B:Int,0<B/\B<=2*10^6/\Dn B x
theorem zOF{w:Wy}{ws cs:List Int}:∀ {l:List Rat},Cn (Jt w ws cs) l->2<=l.length->∀ x∈l,0<=x/\x<=(cs.sum:Rat)
 | [],_,h,x,hx=>by cases hx
 | [a],_,h,x,hx=>by simp at h
 | [a,b],h,_,x,hx=>by
  obtain⟨h1,h2,h3,_⟩:=h.1;rcases Qd.mp hx with rfl | hx
  ·exact⟨h1,Qw h2 h3⟩
  ·rw[Qt.mp hx];exact⟨Qw h1 h2,h3⟩
 | a::b::c::l,h,_,x,hx=>by
  obtain⟨h1,h2,h3,_⟩:=h.1;rcases Qd.mp hx with rfl | hx
  ·exact⟨h1,Qw h2 h3⟩
  ·exact zOF h.2 (by simp) x hx
theorem zMP:∀(r:List Int)(a:Int),∀ x∈rj r a,∃ k:Int,x=(k:Rat)
 | [],a,x,h=>⟨a,Qt.mp h⟩
 | c::r,a,x,h=>by
  rcases Qd.mp h with rfl | h
  ·exact⟨a,rfl⟩
  ·exact zMP r (a+c) x h
theorem zMi:∀(r:List Int)(a:Int),(rj r a).length=r.length+1/\(rj r a).getLast?=some ((a+r.sum:Int):Rat)
 | [],a=>⟨rfl,by show some (a:Rat)=_;rw[Wm,Int.add_zero]⟩
 | c::r,a=>by
  obtain⟨h1,h2⟩:=zMi r (a+c);refine⟨by rw[rj,Qm,h1,Qm],?_⟩
  obtain⟨t,et⟩:=zEh r (a+c);rw[rj,et,Yr,<-et,h2,Q8,Wn]
theorem zOW{ws cs:List Int}(h:Wt ws cs)(hc:Cl cs){ls:List Rat}(so:ls.Pairwise (·<=·))(pm:ls.Perm ((List.range cs.length).map (lv ws cs))):∀ x∈(0::ls).map (QQ ws cs),∃ B:Int,0<B/\B<=10^6/\Dn B x:=by
 have gd:∀(t:Rat)(B:Int),Dn B t->Dn B (QQ ws cs t):=fun t B hB=>by
  have all:∀ l:List Nat,Dn B (jG (eE (cR cs) (cR ws) t) l):=by
   intro l
   induction l with
   | nil=>exact Dn.zero B
   | cons i l ih=>
    rw[bH];refine Dn.add (Dn.mn ?_ (Dn.int _ _)) ih
    obtain⟨k,hk⟩:=hB;refine⟨ws.getD i 0*k,?_⟩
    rw[Vi,<-hk];show cR ws i*t*_=cR ws i*_
    grind
  exact all _
 intro x hx;obtain⟨t,ht,rfl⟩:=Qp.mp hx;rcases Qd.mp ht with rfl | ht
 ·exact⟨1,by decide,by decide,gd 0 1 (Dn.zero 1)⟩
 ·obtain⟨i,hi,rfl⟩:=Qp.mp (pm.mem_iff.mp ht)
  have hi':=Qj.mp hi;have w:=h.at hi';exact⟨ws.getD i 0,by omega,w.2,gd _ _ (zQO h hc hi').2⟩
theorem zHV(w:Wy):aW.lookup w.s=some w.con.s:=by
 cases w
 ·exact zIr
 ·exact zAO
 ·exact zGc
 ·exact zBi
 ·exact zFT
 ·exact zAr
theorem zJK(w:Wy):dY [.str w.s]=.ok (.v (.str w.con.s)):=by
 have e:wZ aW (.str w.s)=.ok (.str w.con.s):=by show zPm (aW.lookup w.s)=_;rw[zHV];rfl
 unfold dY;symm;rw[vI (zHV w)];symm;rw[e];symm
theorem zAx:∀ {l:List Rat} {e x:Rat},l.Pairwise (·<=·)->l.getLast?=some e->x∈l->x<=e
 | [],_,_,_,h,_=>by cases h
 | [a],e,x,_,h,hx=>by rw[Qt.mp hx];cases h;exact Qe
 | a::b::r,e,x,hp,h,hx=>by
  obtain⟨p1,p2⟩:=Qr.mp hp;rw[Yr] at h;rcases Qd.mp hx with rfl | hx
  ·exact Qw (p1 b Qb) (zAx p2 h Qb)
  ·exact zAx p2 h hx
theorem zNA{ws cs:List Int}(h:Wt ws cs)(hc:Cl cs){ls:List Rat}(so:ls.Pairwise (·<=·))(pm:ls.Perm ((List.range cs.length).map (lv ws cs)))(z0:QQ ws cs 0=0):JL .even ws cs ((0::ls).map (QQ ws cs)):=by
 have hm:∀ i,i<cs.length->lv ws cs i∈ls:=fun i hi=>pm.mem_iff.mpr (Qp.mpr ⟨i,Qj.mpr hi,rfl⟩)
 have h0:∀ x∈ls,0<=x:=fun x hx=>by
  obtain⟨i,hi,rfl⟩:=Qp.mp (pm.mem_iff.mp hx);exact zJi h hc (Qj.mp hi)
 refine⟨zMY h hc so hm h0,by rw[Qu,z0];rfl,?_⟩
 rw[Xu];obtain⟨e,he⟩:∃ e,(0::ls).getLast?=some e:=⟨_,List.getLast?_eq_some_getLast (by simp)⟩
 rw[he];have so':(0::ls).Pairwise (·<=·):=Qr.mpr ⟨h0,so⟩;refine congrArg some ?_
 unfold QQ;rw[eS (g:=cR cs) fun i hi=>zGN h (Qj.mp hi) (zAx so' he (Qc _ (hm i (Qj.mp hi))))];exact tT cs
theorem zLT{w:Wy}{ws cs:List Int}(hw:w.due ws cs)(hc:Cl cs){l:List Rat}(h:JL w ws cs l):JL w.con ws cs (l.reverse.map fun x=>(cs.sum:Rat)-x):=by
 refine⟨zJV (fun a b k=>zMA hw hc k) h.cn,?_,?_⟩
 ·rw[Yz,List.head?_reverse,h.la]
  show some ((cs.sum:Rat)-(cs.sum:Rat))=some 0
  rw[show(cs.sum:Rat)-(cs.sum:Rat)=0 by grind]
 ·rw[Xu,Wo,h.hd]
  show some ((cs.sum:Rat)-0)=_
  rw[show(cs.sum:Rat)-0=(cs.sum:Rat) by grind]
theorem zNu{cs:List Int}(hc:Cl cs){l:List Rat}(h:JL .even (ones cs) cs l):JL .half [] cs (l.map (· * hf)++(l.map (· * hf)).reverse.map fun x=>(cs.sum:Rat)-x):=by
 have c1:Cn (Jt .half [] cs) (l.map (· * hf)):=zHE (fun a b k=>zOb hc k) h.cn
 have c2:Cn (Jt .half [] cs) ((l.map (· * hf)).reverse.map fun x=>(cs.sum:Rat)-x):=zJV (fun a b k=>zMA (w:=.half) (ws:=[]) rfl hc k) c1
 have s0:(0:Rat)<=(cs.sum:Rat):=by exact_mod_cast hc.sum.1
 have hh:hf+hf=1:=by rw[iP];grind
 have h0:(0:Rat)<=hf:=by rw[iP];grind
 have m0:=Ug s0 h0;refine⟨zJO c1 c2 fun x y hx hy=>?_,?_,?_⟩
 ·rw[Xu,h.la] at hx
  rw[Yz,List.head?_reverse,Xu,h.la] at hy;cases hx;cases hy
  have e:(cs.sum:Rat)-(cs.sum:Rat)*hf=(cs.sum:Rat)*hf:=by
   generalize (cs.sum:Rat)=S at *;generalize hf=H at *;grind
  show Jt .half [] cs ((cs.sum:Rat)*hf) ((cs.sum:Rat)-(cs.sum:Rat)*hf)
  rw[e];refine⟨m0,Qe,by grind,fun i hi x x1 x2=>?_⟩
  have:x=(cs.sum:Rat)*hf:=by grind
  subst this;grind
 ·cases l with
  | nil=>cases h.hd
  | cons a l=>
   cases h.hd
   show some ((0:Rat)*hf)=some 0
   rw[U6]
 ·have ne:((l.map (· * hf)).reverse.map fun x=>(cs.sum:Rat)-x).getLast?=some (cs.sum:Rat):=by
   rw[Xu,Wo,Yz,h.hd];show some ((cs.sum:Rat)-0*hf)=_
   rw[show(cs.sum:Rat)-0*hf=(cs.sum:Rat) by grind]
  rw[List.getLast?_append,ne];rfl
theorem zPb{w:Wy}{ws cs:List Int}(hc:Cl cs){l:List Rat}(h:JL w ws cs l)(h2:2<=l.length)(d:Jd cs l):∀ x∈l,Sz 300 x:=fun x hx=>by
 obtain⟨b0,b1⟩:=zOF h.cn h2 x hx;obtain⟨B,B0,B1,dn⟩:=d.2 x hx;exact zRP dn B0 (by omega) b0 b1 hc.sum.2
theorem zNi{w:Wy}{ws cs:List Int}{l:List Rat}(h:JL w ws cs l):∃ t,l=0::t:=by
 cases l with
 | nil=>cases h.hd
 | cons a t=>cases h.hd;exact⟨t,rfl⟩
section
variable{n:Nat}{ws cs:List Int}{wd cd e:D}
theorem zRw(sc:Sq cd cs)(hc:Cl cs):bN (n+1) [.str (Str.ofString "row"),e,cd]=.ok (.f ((rj cs 0).map dq)):=by
 show cG (bN n) _=_
 unfold cG;symm;rw[sc.sum];symm;rw[bZ];symm;rw[zBY sc hc];symm
theorem zMw(sw:Sq wd ws)(sc:Sq cd cs)(h:Wt ws cs)(hc:Cl cs):∃ ls:List Rat,bN (n+1) [.str (Str.ofString "even"),wd,cd]=.ok (.f (((0::ls).map (QQ ws cs)).map dq))/\ls.Pairwise (·<=·)/\ls.Perm ((List.range cs.length).map (lv ws cs))/\QQ ws cs 0=0:=by
 obtain⟨ls,e1,e2,e3,e4⟩:=rX sw sc h hc;refine⟨ls,?_,e2,e3,e4⟩
 show cG (bN n) _=_
 unfold cG;symm;rw[sc.sum];symm;rw[bZ];symm;rw[zTj];symm;rw[e1];symm
theorem zQs(sc:Sq cd cs):bN (n+1) [.str (Str.ofString "part"),e,cd]=.ok (.f ([0,(cs.sum:Rat)].map dq)):=by
 show cG (bN n) _=_
 unfold cG;symm;rw[sc.sum];symm;rw[bZ];symm;rw[zSW];symm;rw[zTm];symm
theorem zQo(sc:Sq cd cs)(hc:Cl cs):∃ ls:List Rat,bN (n+1) [.str (Str.ofString "half"),e,cd]=.ok (.f ((((0::ls).map (QQ (ones cs) cs)).map (· * hf)++(((0::ls).map (QQ (ones cs) cs)).map (· * hf)).reverse.map fun x=>(cs.sum:Rat)-x).map dq))/\ls.Pairwise (·<=·)/\ls.Perm ((List.range cs.length).map (lv (ones cs) cs))/\QQ (ones cs) cs 0=0:=by
 obtain⟨ls,e1,e2,e3,e4⟩:=rX (wd:=.lst ((ones cs).map D.int)) (.inl rfl) sc (fM cs) hc;have hi:=hc.hi;have sm:=hc.sum;have W:=fM cs;have jl:=zNA W hc e2 e3 e4;have ll:((0::ls).map (QQ (ones cs) cs)).length=cs.length+1:=by rw[Qg,Qm,e3.length_eq,Qg,Q3]
 have bd:=zOF jl.cn (by rw[ll];have:=hc.lo;omega)
 have dn:=zOW W hc e2 e3;refine⟨ls,?_,e2,e3,e4⟩
 generalize (0::ls).map (QQ (ones cs) cs)=l at *
 have zl:∀ x∈l,Sz 134 x:=fun x hx=>by
  obtain⟨B,B0,B1,d⟩:=dn x hx;exact d.sz (a:=104) (b:=30) B0 (by omega) (bd x hx).1 (bd x hx).2 sm.2
 have eo:(ones cs).map D.int=List.replicate cs.length (.int 1):=by unfold ones;rw[List.map_replicate]
 rw[eo] at e1;have hh:=zPz;unfold d_HALF at hh;show cG (bN n) _=_
 unfold cG;symm;rw[sc.sum];symm;rw[bZ];symm;rw[zSc];symm;rw[zSo];symm;rw[zSD];symm;rw[sc.len];symm;rw[zFi (by omega)];symm;rw[e1];symm
 rw[fH (u:=dq) (g:=fun x=>dq (x*hf)) (by omega) (fun x hx=>by
  symm;rw[hh,nY (zl x hx) zEK (by decide)]
  symm)]
 symm;have lm:l.map (fun x=>dq (x*hf))=(l.map (· * hf)).map dq:=by rw[Qv];rfl
 rw[lm,tH (S:=cs.sum) (by rw[Qg];omega) (fun x hx=>by
  obtain⟨y,hy,rfl⟩:=Qp.mp hx
  exact((zl y hy).mul zEK).mono (by decide)) (by omega)]
 symm;rw[Jk (by simp only[Vx,Qg];omega),Vb];symm
end
def SzQ(a b:Nat)(p:Pt):Prop:=Sz a p.1/\Sz b p.2
theorem zDw{a b c:Pt}{n m:Nat}(ha:SzQ n m a)(hb:SzQ n m b)(hc:SzQ n m c)(h:2*n+2*m+2<=8999):iM [dp a,dp b,dp c]=.ok (.v (.bl (btw a b c))):=by
 unfold iM;symm;rw[eV hb.2 ha.2 (by omega)];symm;rw[eV hc.2 hb.2 (by omega)];symm;rw[eV hb.1 ha.1 (by omega)];symm;rw[eV hc.1 hb.1 (by omega)];symm;rw[nY (hb.2.sub ha.2) (hc.1.sub hb.1) (by omega)];symm;rw[nY (hc.2.sub hb.2) (hb.1.sub ha.1) (by omega)];symm;rfl
theorem zCl{d:D}{ps:List Pt}{n m:Nat}(hd:d=.lst (ps.map dp)∨d=.tup (ps.map dp))(hl:ps.length<=100000)(hs:∀ p∈ps,SzQ n m p)(hn:2*n+2*m+2<=8999)(hk:Ok ps):iF [d]=.ok (.v .non):=by
 obtain⟨hh,hp⟩:=hk;have ln:mP [d]=.ok (.int (ps.length:Int)):=by rcases hd with rfl | rfl<;>simp[bLen_l,bLen_t]
 have ix:∀(i:Int)(k:Nat)(a:Pt),i=(k:Int)->ps[k]?=some a->oIx d (.int i)=.ok (dp a):=by
  intro i k a hi ha;subst hi;rcases hd with rfl | rfl
  ·exact oY (by omega) (by simpa using ha)
  ·exact pP (by omega) (by simpa using ha)
 clear hd
 have hpos:0<ps.length:=by cases ps with
  | nil=>cases hh
  | cons a r=>exact Ys _
 have h0:ps[0]?=some (0,0):=by rw[<-Xk];exact hh
 unfold iF;symm;rw[ln];symm;rw[Jj (by omega)];symm;rw[ix 0 0 _ rfl h0];symm;rw[ln];symm;rw[zOu (by omega) (by omega) (by omega) (by omega)];symm;refine pE (Q:=fun r=>r=Res.ok (Rt.v D.non)) (fun i ρ=>∃ a b c,ρ=[.val d,a,b,c]) ⟨_,_,_,rfl⟩ ?_ ?_
 ·rintro i e ρ hd ⟨a,b,c,rfl⟩
  obtain⟨hi,rfl⟩:=zMs hd;have h1:ps[i]?=some ps[i]:=Qo _;have h2:ps[i+1]?=some ps[i+1]:=Qo _;have z1:=hs _ (Qi h1);have z2:=hs _ (Qi h2);have za:=iW hp (Vm i) h1 h2;generalize ps[i]=u at h1 z1 za;generalize ps[i+1]=v at h2 z2 za;symm;rw[ix _ i _ (by omega) h1];symm;rw[ix _ (i+1) _ (by omega) h2];symm;rw[kK z1.1 z2.1 (by omega)];symm;rw[J6 za.1];symm;rw[kK z2.2 z1.2 (by omega)];symm;rw[Jj (by rw[Vf];exact za.2)];symm;exact⟨_,rfl,_,_,_,rfl⟩
 ·rintro ρ' ⟨a,b,c,rfl⟩
  rfl
theorem qY{d:D}{ps:List Pt}{n m:Nat}(hd:d=.lst (ps.map dp)∨d=.tup (ps.map dp))(hl:ps.length<=100000)(hs:∀ p∈ps,SzQ n m p)(hn:2*n+2*m+2<=8999)(hk:Ok ps):fE [d]=.ok (.v (.tup ((mI ps).map dp))):=by
 have sq:zLS d=.ok (ps.map dp):=by rcases hd with rfl | rfl<;>rfl
 unfold fE;symm;rw[zCl hd hl hs hn hk];symm;rw[sq];symm;refine pE (Q:=fun r=>r.bind fin=.ok (.v (.tup ((mI ps).map dp)))) (fun i ρ=>∃ a,ρ=[.val d,.own (((ps.take i).foldl push []).reverse.map dp),a]/\(∀ p∈(ps.take i).foldl push [],SzQ n m p)/\((ps.take i).foldl push []).length<=i) ⟨_,rfl,fun p hp=>by(rw[Wf] at hp;cases hp),by rw[Wf];exact Qh _⟩ ?_ ?_
 ·rintro i e ρ hd ⟨a,rfl,hz,hlen⟩
  rw[Qs] at hd
  cases hq:ps[i]? with
  | none=>rw[hq] at hd;cases hd
  | some p=>
   rw[hq] at hd;cases hd;have hi:i<ps.length:=(Qx.mp hq).1;have zp:=hs _ (Qi hq);rw[oB hq,List.foldl_append,Ur,List.foldl_nil];generalize (ps.take i).foldl push []=s at hz hlen;generalize hK:(xB:Sv)=K;symm;by_cases hc:1<s.length
   case neg=>
    rw[Vx,Jj (by omega)];subst hK;symm;rw[Jk (by rw[Vx];omega),zGC hc];exact⟨_,rfl,.val (dp p),by simp,by intro q hq;rcases Qd.mp hq with rfl | hq;exact zp;exact hz q hq,by simp;omega⟩
   match s,hz,hlen,hc with
   | [],_,_,hc=>exact absurd hc (by decide)
   | [b],_,_,hc=>exact absurd hc (by simp)
   | b::a::s,hz,hlen,_=>
    have za:=hz a (Qc _ Qb);have zb:=hz b Qb;have zs:∀ q∈s,SzQ n m q:=fun q hq=>hz q (Qc _ (Qc _ hq))
    have e1:((b::a::s).reverse)[(b::a::s).reverse.length-1]?=some b:=by simp
    have e2:((b::a::s).reverse)[(b::a::s).reverse.length-2]?=some a:=by simp
    rw[Qm,Qm] at hlen;have hll:(b::a::s).reverse.length=s.length+2:=by simp
    rw[hll];rw[J6 (by omega)];symm;rw[zEy (i:=-2) (k:=2) rfl (by decide) (by rw[hll];omega) e2];symm;rw[zEy (i:=-1) (k:=1) rfl (by decide) (by rw[hll];omega) e1];symm;rw[zDw za zb zp hn];symm
    cases hb:btw a b p with
    | false=>
     subst hK;symm;rw[hll,Jk (by omega)];refine⟨_,rfl,.val (dp p),?_,?_,?_⟩
     ·rw[push,hb]
      simp
     ·rw[push,hb]
      intro q hq;rcases Qd.mp hq with rfl | hq
      ·exact zp
      ·exact hz q hq
     ·rw[push,hb]
      simp;omega
    | true=>
     subst hK;symm;rw[hll,Jl (by omega)];symm;rw[Jk (by simp;omega)];refine⟨_,rfl,.val (dp p),?_,?_,?_⟩
     ·rw[push,hb]
      simp
     ·rw[push,hb]
      intro q hq;rcases Qd.mp hq with rfl | hq
      ·exact zp
      ·exact hz q (Qc _ hq)
     ·rw[push,hb]
      simp;omega
 ·rintro ρ' ⟨a,rfl,_,_⟩
  rw[Qg,V8];symm;rfl
theorem zPQ{w:Wy}{ws cs:List Int}{wd cd:D}{l:List Rat}(hw:w=.back∨w=.lack)(sc:Sq cd cs)(hc:Cl cs)(hl:l.length<=30)(hz:∀ x∈l,Sz 300 x)(e:bN 1 [.str w.con.s,wd,cd]=.ok (.f (l.map dq))):bN 2 [.str w.s,wd,cd]=.ok (.f ((l.reverse.map fun x=>(cs.sum:Rat)-x).map dq)):=by
 have sm:=hc.sum;have c:=zJK w;show cG (bN 1) _=_
 unfold cG;symm;rw[sc.sum];symm;rw[bZ];symm;rcases hw with rfl | rfl
 ·rw[show Wy.back.s=Str.ofString "back" from rfl,zTh]
  symm;rw[zSP];symm;rw[zTa];symm;rw[zTe];symm;rw[show Str.ofString "back" = Wy.back.s from rfl,c];symm;rw[e];symm;rw[tH (by omega) hz (by omega)];symm
 ·rw[show Wy.lack.s=Str.ofString "lack" from rfl,zTf]
  symm;rw[zTb];symm;rw[zTl];symm;rw[zTk];symm;rw[show Str.ofString "lack" = Wy.lack.s from rfl,c];symm;rw[e];symm;rw[tH (by omega) hz (by omega)];symm
theorem zMU{cs:List Int}{l:List Rat}(h:Jd cs l):Jd cs (l.reverse.map fun x=>(cs.sum:Rat)-x):=by
 refine⟨by rw[Qg,Vx];exact h.1,fun x hx=>?_⟩
 obtain⟨y,hy,rfl⟩:=Qp.mp hx;obtain⟨B,b0,b1,d⟩:=h.2 y (Wq.mp hy);exact⟨B,b0,b1,(Dn.int B cs.sum).sub d⟩
theorem zLv{w:Wy}{ws cs:List Int}{wd cd:D}(sw:Sq wd ws)(sc:Sq cd cs)(hw:w.due ws cs)(hc:Cl cs):∃ l:List Rat,bN 2 [.str w.s,wd,cd]=.ok (.f (l.map dq))/\JL w ws cs l/\Jd cs l/\2<=l.length:=by
 have hi:=hc.hi;have lo:=hc.lo
 have row:JL .row [] cs (rj cs 0)/\Jd cs (rj cs 0)/\2<=(rj cs 0).length:=by
  obtain⟨l1,l2⟩:=zMi cs 0;refine⟨⟨zQw hc,?_,by rw[l2,Int.zero_add]⟩,⟨by omega,fun x hx=>?_⟩,by omega⟩
  ·obtain⟨t,et⟩:=zEh cs 0
   rw[et];rfl
  ·obtain⟨k,rfl⟩:=zMP cs 0 x hx
   exact⟨1,by decide,by decide,Dn.int 1 k⟩
 have evn:∀ ls:List Rat,Wt ws cs->ls.Pairwise (·<=·)->ls.Perm ((List.range cs.length).map (lv ws cs))->QQ ws cs 0=0->JL .even ws cs ((0::ls).map (QQ ws cs))/\Jd cs ((0::ls).map (QQ ws cs))/\2<=((0::ls).map (QQ ws cs)).length:=fun ls W e2 e3 e4=>by
  have ll:((0::ls).map (QQ ws cs)).length=cs.length+1:=by rw[Qg,Qm,e3.length_eq,Qg,Q3]
  refine⟨zNA W hc e2 e3 e4,⟨by omega,fun x hx=>?_⟩,by omega⟩
  obtain⟨B,b0,b1,d⟩:=zOW W hc e2 e3 x hx;exact⟨B,b0,by omega,d⟩
 cases w with
 | row=>
  have e:ws=[]:=hw;subst e;exact⟨_,zRw (n:=1) (e:=wd) sc hc,row⟩
 | part=>
  have e:ws=[]:=hw;subst e;refine⟨_,zQs (n:=1) (e:=wd) sc,⟨zOO hc,rfl,rfl⟩,⟨by show 2<=30;decide,fun x hx=>?_⟩,Qh 2⟩
  rcases Qd.mp hx with rfl | hx
  ·exact⟨1,by decide,by decide,Dn.zero 1⟩
  ·rw[Qt.mp hx];exact⟨1,by decide,by decide,Dn.int 1 _⟩
 | even=>
  obtain⟨ls,e1,e2,e3,e4⟩:=zMw (n:=1) sw sc hw hc;exact⟨_,e1,evn ls hw e2 e3 e4⟩
 | back=>
  have e:ws=[]:=hw;subst e;have k:=zPQ (w:=.back) (ws:=[]) (.inl rfl) sc hc row.2.1.1 (zPb hc row.1 row.2.2 row.2.1) (zRw (n:=0) (e:=wd) sc hc);exact⟨_,k,zLT (w:=.row) rfl hc row.1,zMU row.2.1,by rw[Qg,Vx];exact row.2.2⟩
 | lack=>
  obtain⟨ls,e1,e2,e3,e4⟩:=zMw (n:=0) sw sc hw hc;obtain⟨r1,r2,r3⟩:=evn ls hw e2 e3 e4;have k:=zPQ (w:=.lack) (ws:=ws) (.inr rfl) sc hc r2.1 (zPb hc r1 r3 r2) e1;exact⟨_,k,zLT (w:=.even) hw hc r1,zMU r2,by rw[Qg,Vx];exact r3⟩
 | half=>
  have e:ws=[]:=hw;subst e;obtain⟨ls,e1,e2,e3,e4⟩:=zQo (n:=1) (e:=wd) sc hc;have W:=fM cs;have ll:((0::ls).map (QQ (ones cs) cs)).length=cs.length+1:=by rw[Qg,Qm,e3.length_eq,Qg,Q3]
  have jl:=zNA W hc e2 e3 e4;have dn:=zOW W hc e2 e3;generalize (0::ls).map (QQ (ones cs) cs)=l at *;refine⟨_,e1,zNu hc jl,⟨?_,fun x hx=>?_⟩,?_⟩
  ·simp only[Ql,Qg,Vx];omega
  ·have early:∀ y∈l.map (· * hf),∃ B:Int,0<B/\B<=2*10^6/\Dn B y:=fun y hy=>by
    obtain⟨z,hz,rfl⟩:=Qp.mp hy;obtain⟨B,b0,b1,d⟩:=dn z hz;exact⟨B*2,by omega,by omega,zIl d⟩
   rcases Va.mp hx with hx | hx
   ·exact early x hx
   ·obtain⟨y,hy,rfl⟩:=Qp.mp hx
    obtain⟨B,b0,b1,d⟩:=early y (Wq.mp hy);exact⟨B,b0,b1,(Dn.int B cs.sum).sub d⟩
  ·simp only[Ql,Qg,Vx];omega
theorem zFe{α:Type}:∀ l:List α,l.zip l=l.map fun x=>(x,x)
 | []=>rfl
 | a::l=>by rw[List.zip_cons_cons,zFe l,Qu]
theorem zDP{w:Wy}{ws cs:List Int}{wd cd:D}(sw:Sq wd ws)(sc:Sq cd cs)(hw:w.due ws cs)(hc:Cl cs):∃ J:List Rat,gT [.str w.s,wd,cd]=.ok (.f ((List.range cs.length).map fun i=>.tup ((wln w ws cs J i).map dp)))/\JS w ws cs J/\J.length<=30/\(∀ x∈J,Sz 300 x/\∀ i,i<cs.length->Sz 670 (FF w ws cs x i))/\Jd cs J:=by
 obtain⟨l,e1,jl,jd,l2⟩:=zLv sw sc hw hc;have zl:=zPb hc jl l2 jd;obtain⟨t,rfl⟩:=zNi jl;have js:=jl.js;have hi:=hc.hi;have lt:=jd.1;rw[Qm] at lt;have e2:=sX (l:=t) (by omega) zl
 have sub:=zKo t 0;have ln:(0::ddR 0 t).length<=30:=by rw[Qm];have:=sub.length_le;omega
 have zj:∀ x∈0::ddR 0 t,Sz 300 x:=fun x hx=>zl x (by
  rcases Qd.mp hx with rfl | hx
  ·exact Qb
  ·exact Qc _ (sub.subset hx))
 have dj:Jd cs (0::ddR 0 t):=⟨ln,fun x hx=>jd.2 x (by
  rcases Qd.mp hx with rfl | hx
  ·exact Qb
  ·exact Qc _ (sub.subset hx))⟩
 generalize 0::ddR 0 t=J at *;have bd:=js.bd
 have rd:∀ q∈J,aQ 2 [.str w.s,wd,cd,dq q]=.ok (.f (((List.range cs.length).map (FF w ws cs q)).map dq))/\∀ i,i<cs.length->Sz 670 (FF w ws cs q i):=fun q hq=>by
  have ha:Haul 300 q cs.sum:=⟨(bd q hq).1,(bd q hq).2,zj q hq⟩;obtain⟨f,ef,af⟩:=zDc sw sc (by decide) hw hc ha
  have df:=zMX hw hc ha af;have eq:∀ i,i<cs.length->f i=FF w ws cs q i:=fun i hi=>zDC hw hc (bd q hq).1 (bd q hq).2 af hi
  refine⟨by rw[ef,Vy (g:=FF w ws cs q) fun i hi=>eq i (Qj.mp hi)],fun i hi=>by rw[<-eq i hi];exact(df.bd i hi).2.2⟩
 refine⟨J,?_,js,ln,fun x hx=>⟨zj x hx,(rd x hx).2⟩,dj⟩
 unfold gT;symm;rw[zFo sw sc hw hc];symm;rw[e1];symm;rw[Qu] at e2;rw[e2];symm
 rw[fH (u:=dq) (g:=fun q=>D.lst (((List.range cs.length).map (FF w ws cs q)).map dq)) (by omega) (fun q hq=>by
  symm;rw[(rd q hq).1]
  symm)]
 symm;rw[sc.len];symm;rw[zEl (by omega) (by omega)];symm;rw[show rng 0 ((cs.length:Int)).toNat 1=(List.range cs.length).map fun j:Nat=>D.int (j:Int) by unfold rng;rw[Vp];exact Vy fun j _=>by rw[show(0:Int)+(j:Int)*1=(j:Int) by omega]]
 rw[fH (u:=fun j:Nat=>D.int (j:Int)) (g:=fun i=>D.tup ((wln w ws cs J i).map dp)) (by rw[Q3];omega) (fun i hi=>by
  have hi':=Qj.mp hi
  have fl:nE [.lst (J.map dq),.lst (J.map fun q=>D.lst (((List.range cs.length).map (FF w ws cs q)).map dq)),.int (i:Int)]=.ok (.v (.tup ((wln w ws cs J i).map dp))):=by
   obtain⟨ok,la⟩:=zFt hw hc js hi';unfold nE;symm;rw[pH rfl rfl];symm
   rw[nD (u:=dq) (v:=fun q=>D.lst (((List.range cs.length).map (FF w ws cs q)).map dq)) (g:=fun x y=>dp (x,FF w ws cs y i)) (by omega) (fun p hp=>by
    have e:oIx (.lst (((List.range cs.length).map (FF w ws cs p.2)).map dq)) (.int (i:Int))=.ok (dq (FF w ws cs p.2 i)):=by
     rw[Qv];exact oY (Xa i) (show(List.range cs.length)[i]?=some i from V7 hi')
    symm;rw[e]
    symm)]
   symm;rw[zFe,Qv,show(J.map ((fun p:Rat×Rat=>dp (p.1,FF w ws cs p.2 i)) ∘ fun x=>(x,x)))=(jpt w ws cs J i).map dp by unfold jpt;rw[Qv];rfl]
   rw[qY (n:=300) (m:=670) (.inl rfl) (by unfold jpt;rw[Qg];omega) (fun p hp=>by
    unfold jpt at hp;obtain⟨q,hq,rfl⟩:=Qp.mp hp
    exact⟨zj q hq,(rd q hq).2 i hi'⟩) (by decide) ok]
   symm;rfl
  symm;rw[fl]
  symm)]
 symm
theorem zFP{ps:List Pt}{p:Pt}(h:ps.getLast?=some p):mC [.tup (ps.map dp)]=.ok (.v (dq p.1)):=by
 have h0:0<ps.length:=by cases ps with
  | nil=>cases h
  | cons a r=>exact Ys _
 unfold mC;symm;rw[zJJ (i:=-1) (k:=1) rfl (by decide) h0 (by rw[<-Xd];exact h)];symm
theorem zBf{ps:List Pt}{p:Pt}(h:ps.getLast?=some p):lS [.tup (ps.map dp)]=.ok (.v (dq p.2)):=by
 have h0:0<ps.length:=by cases ps with
  | nil=>cases h
  | cons a r=>exact Ys _
 unfold lS;symm;rw[zJJ (i:=-1) (k:=1) rfl (by decide) h0 (by rw[<-Xd];exact h)];symm
theorem zJu(b:Bool)(p:Pt):oIx (dp p) (.int (axi b))=.ok (dq (ax b p)):=by cases b<;>rfl
theorem zFM(b:Bool)(p:Pt):oIx (dp p) (.int (1-axi b))=.ok (dq (ax (!b) p)):=by cases b<;>rfl
theorem zDt{x l:Rat}{m n:Nat}(hx:Sz m x)(hl:Sz n l)(h:m+n<=99990):eN [dq x,dq l]=.ok (.v (.bl (decide (x<0) || decide (l<x)))):=by
 unfold eN;symm;rw[kK (n:=1) hx ⟨by decide,by decide⟩ (by omega)];symm;by_cases c:x<0
 ·rw[J6 c]
  symm
 ·rw[Jj c]
  symm;rw[kK hl hx (by omega)];symm
theorem zU{x l:Rat}{m n:Nat}(hx:Sz m x)(hl:Sz n l)(h:m+n<=99990)(h0:0<=x)(h1:x<=l):aU [dq x,dq l]=.ok (.v .non):=by
 unfold aU;symm;rw[zDt hx hl h,Jj (by grind),Jj (by grind)];symm
theorem mK{ps:List Pt}{n m:Nat}(b:Bool){y:Rat}(h0:0<ps.length)(hl:ps.length<=100000)(hs:∀ p∈ps,Sz n (ax b p))(hy:Sz m y)(hn:n+m<=99999)(hp:ps.Pairwise asc):
  ∃ k:Nat,bW [.tup (ps.map dp),.int (axi b),dq y]=.ok (.v (.int (k:Int)))/\k<ps.length/\(∀ j p,j<k->ps[j]?=some p->ax b p<y)/\(k+1=ps.length∨∃ p,ps[k]?=some p/\y<=ax b p):=by
 unfold bW;symm
 refine zFq (fun ρ=>∃(u v:Nat)(r:Sl),ρ=[.val (.tup (ps.map dp)),.val (.int (axi b)),.val (dq y),.val (.int (u:Int)),.val (.int (v:Int)),r]/\u<=v/\v<ps.length/\(∀ j p,j<u->ps[j]?=some p->ax b p<y)/\(v+1=ps.length∨∃ p,ps[v]?=some p/\y<=ax b p))
  (fun ρ=>(slI 4 ρ-slI 3 ρ).toNat)
  (fun r=>∃ k:Nat,(r.bind (zLP kE)).bind fin=.ok (.v (.int (k:Int)))/\k<ps.length/\(∀ j p,j<k->ps[j]?=some p->ax b p<y)/\(k+1=ps.length∨∃ p,ps[k]?=some p/\y<=ax b p))
  ⟨0,ps.length-1,_,by rw[show((ps.length-1:Nat):Int)=(ps.length:Int)-1 by omega];rfl,by omega,by omega,fun j p h=>absurd h (by omega),.inl (by omega)⟩ ?_
 rintro ρ ⟨u,v,r,rfl,h1,h2,h3,h4⟩
 by_cases c:u<v
 ·refine .inr ⟨?_,?_⟩
  ·symm
   rw[J6 (by omega)]
  ·obtain⟨mid,e,b1,b2⟩:∃ mid:Nat,((u:Int)+(v:Int)) / 2=(mid:Int)/\u<=mid/\mid<v:=⟨(u+v) / 2,by omega,by omega,by omega⟩
   have hm:mid<ps.length:=Nat.lt_trans b2 h2;have hq:ps[mid]?=some ps[mid]:=Qo hm;have hz:=hs _ (Qi hq);generalize ps[mid]=q at hq hz;symm;rw[e,pP (Xa _) (by rw[Vp];exact hq)];symm;rw[zJu];symm;rw[kK hz hy hn];symm;by_cases d:ax b q<y
   ·rw[J6 d]
    symm;refine⟨_,rfl,⟨mid+1,v,_,rfl,b2,h2,?_,h4⟩,?_⟩
    ·intro j p hj hpj
     have:=kY hp b (Nat.le_of_lt_succ hj) hpj hq
     grind
    ·show((v:Int)-((mid:Int)+1)).toNat<((v:Int)-(u:Int)).toNat
     omega
   ·rw[Jj d]
    symm;refine⟨_,rfl,⟨u,mid,_,rfl,b1,hm,h3,.inr ⟨q,hq,by grind⟩⟩,?_⟩
    show((mid:Int)-(u:Int)).toNat<((v:Int)-(u:Int)).toNat
    omega
 ·have e:u=v:=by omega
  subst e;refine .inl ⟨?_,u,?_,h2,h3,h4⟩
  ·symm
   rw[Jj (by omega)]
  ·symm
theorem zPf{ps:List Pt}{n l m:Nat}(b:Bool){y:Rat}(h0:0<ps.length)(hl:ps.length<=100000)(hs:∀ p∈ps,Sz n (ax b p)/\Sz l (ax (!b) p))(hy:Sz m y)(hn:m+3*n+3*l+4<=8999)(hp:ps.Pairwise asc)(hlo:∀ p,ps[0]?=some p->ax b p<=y)(hhi:∀ p,ps.getLast?=some p->y<=ax b p):
  ∃ r:Rat,qN [.tup (ps.map dp),.int (axi b),dq y]=.ok (.v (dq r))/\∃(k:Nat)(q:Pt),ps[k]?=some q/\(∀ j p,j<k->ps[j]?=some p->ax b p<y)/\
   ((ax b q=y/\r=ax (!b) q)∨(0<k/\y<ax b q/\∃ p,ps[k-1]?=some p/\ax b p<y/\r=ax (!b) p+(y-ax b p) / (ax b q-ax b p)*(ax (!b) q-ax (!b) p))):=by
 obtain⟨k,e,hk,h1,h2⟩:=mK b h0 hl (fun p h=>(hs p h).1) hy (by omega) hp
 have hq:ps[k]?=some ps[k]:=Qo hk;have zq:=hs _ (Qi hq);generalize ps[k]=q at hq zq
 have hyq:y<=ax b q:=by
  rcases h2 with h2 | ⟨p,hp,h2⟩
  ·refine hhi q ?_
   rw[Xd,show ps.length-1=k by omega];exact hq
  ·rw[hq] at hp
   cases hp;exact h2
 unfold qN;symm;rw[e];symm;rw[pP (by omega) (by rw[Vp];exact hq)];symm;rw[zJu];symm;by_cases c:ax b q=y
 ·rw[J6 c]
  symm;rw[zFM];symm;exact⟨_,rfl,k,q,hq,h1,.inl ⟨c,rfl⟩⟩
 ·have c2:y<ax b q:=by grind
  have k0:0<k:=by
   rcases U8 k with z | z
   ·subst z
    have:=hlo q hq
    grind
   ·exact z
  have hp1:ps[k-1]?=some ps[k-1]:=Qo _;have zp:=hs _ (Qi hp1);generalize ps[k-1]=p at hp1 zp;have lp:=h1 _ p (show k-1<k by omega) hp1
  have nz:ax b q-ax b p≠0:=by grind
  rw[Jj c];symm;rw[pP (by omega) (by rw[show((k:Int)-1).toNat=k-1 by omega];exact hp1)];symm;rw[zJu];symm;rw[eV hy (zp.1) (by omega)];symm;rw[zJu];symm;rw[zJu];symm;rw[eV (zq.1) (zp.1) (by omega)];symm;have z1:=hy.sub (zp.1);have z2:=(zq.1).sub (zp.1);have z3:=z1.div z2 nz;have z4:=(zq.2).sub (zp.2);rw[zHM z1 z2 nz (by omega)];symm;rw[zFM];symm;rw[zFM];symm;rw[zFM];symm;rw[eV (zq.2) (zp.2) (by omega)];symm;rw[nY z3 z4 (by omega)];symm;rw[zDa (zp.2) (z3.mul z4) (by omega)];symm;exact⟨_,rfl,k,q,hq,h1,.inr ⟨k0,c2,p,hp1,lp,rfl⟩⟩
theorem zJs{ps:List Pt}{a b m:Nat}{x:Rat}{e:Pt}(hl:ps.length<=100000)(hs:∀ p∈ps,SzQ a b p)(hx:Sz m x)(hn:m+3*a+3*b+4<=8999)(hk:Ok ps)(he:ps.getLast?=some e)(h0:0<=x)(h1:x<=e.1):
  sF [.tup (ps.map dp),dq x]=.ok (.v (dq (bF ps x))):=by
 obtain⟨hh,hp⟩:=hk
 have hpos:0<ps.length:=by cases ps with
  | nil=>cases hh
  | cons a r=>exact Ys _
 have ze:SzQ a b e:=hs e (Y9 he)
 obtain⟨r,e1,k,q,hq,hj,h⟩:=zPf false hpos hl (n:=a) (l:=b) hs hx hn hp (fun p hp=>by
  rw[<-Xk,hh] at hp;cases hp;exact h0) (fun p hp=>by rw[he] at hp;cases hp;exact h1)
 have er:r=bF ps x:=by
  rcases h with⟨c,rfl⟩ | ⟨k0,c,p,hp1,lp,rfl⟩
  ·have:q.1=x:=c
   rw[<-this];exact(bR hp hq).symm
  ·exact(cB hp hp1 (by rw[show k-1+1=k by omega];exact hq) (Qf lp) (Qf c)).symm
 subst er;unfold sF;symm;rw[zFP he];symm;rw[zU hx ze.1 (by omega) h0 h1];symm;rw[show(0:Int)=axi false from rfl,e1];symm
theorem zGg{ps:List Pt}(hl:ps.length<=100000):oQ [.tup (ps.map dp)]=.ok (.f ((ps.map Prod.fst).map dq)):=by
 unfold oQ;symm;rw[zDy (h:=fun d=>match d with | .tup [x,_]=>x | _=>.non) (by rw[Qg];omega) ?_]
 ·symm
  rw[Qv,Qv];rfl
 ·intro d hd
  obtain⟨p,_,rfl⟩:=Qp.mp hd;symm;rfl
structure Mg (A B:List Rat) (i s:Nat) (C:List Rat):Prop where
 asc:C.Pairwise (· < ·)
 mem:∀ y,y∈C ↔ y∈A.take i∨y∈B.take s
 below:∀(j:Nat)(b:Rat),s<=j->B[j]?=some b->∀ c∈C,c<b
 under:∀(j:Nat)(a:Rat),i<=j->A[j]?=some a->∀ c∈C,c<a
 le:s<=B.length
 len:C.length<=i+s
theorem zGl{C:List Rat}{x:Rat}(h:C.Pairwise (· < ·))(hx:∀ c∈C,c<x):(C++[x]).Pairwise (· < ·):=by
 refine Wp.mpr ⟨h,Uj _ _,fun a ha b hb=>?_⟩
 rcases Qd.mp hb with rfl | hb
 ·exact hx a ha
 ·cases hb
theorem zDs{A:List Rat}(h:A.Pairwise (· < ·)){i j:Nat}{a b:Rat}(l:i<j)(ha:A[i]?=some a)(hb:A[j]?=some b):a<b:=by
 obtain⟨hi,rfl⟩:=Qx.mp ha;obtain⟨hj,rfl⟩:=Qx.mp hb;exact Y8.mp h i j hi hj l
theorem gF{A:List Rat}{i:Nat}{a y:Rat}(h:A[i]?=some a):y∈A.take (i+1) ↔ y∈A.take i∨y=a:=by
 rw[oB h,Va,Qt]
theorem zLe{A B:List Rat}{m:Nat}(ha:A.Pairwise (· < ·))(hb:B.Pairwise (· < ·))(la:A.length<=100000)(lb:B.length<=100000)(za:∀ x∈A,Sz m x)(zb:∀ x∈B,Sz m x)(hm:m<=40000):
  ∃ C:List Rat,rM [.lst (A.map dq),.lst (B.map dq)]=.ok (.f (C.map dq))/\C.Pairwise (· < ·)/\(∀ y,y∈C ↔ y∈A∨y∈B)/\C.length<=A.length+B.length:=by
 have ix:∀(k:Nat)(a:Rat),B[k]?=some a->oIx (.lst (B.map dq)) (.int (k:Int))=.ok (dq a):=by
  intro k a h;exact oY (by omega) (by simpa using h)
 unfold rM;symm
 refine pE (Q:=fun r=>∃ C:List Rat,r.bind fin=.ok (.f (C.map dq))/\C.Pairwise (· < ·)/\(∀ y,y∈C ↔ y∈A∨y∈B)/\C.length<=A.length+B.length)
  (fun i ρ=>∃(s:Nat)(C:List Rat)(a:Sl),ρ=[.val (.lst (A.map dq)),.val (.lst (B.map dq)),.own (C.map dq),.val (.int (s:Int)),a]/\Mg A B i s C)
  ⟨0,[],_,rfl,⟨List.Pairwise.nil,by simp,by simp,by simp,by omega,by simp⟩⟩ ?_ ?_
 ·rintro i d ρ hd ⟨s,C,a,rfl,g⟩
  rw[Qs] at hd
  cases hq:A[i]? with
  | none=>rw[hq] at hd;cases hd
  | some x=>
   rw[hq] at hd;cases hd;have hi:i<A.length:=(Qx.mp hq).1;have zx:=za x (Qi hq);symm
   refine zFq (fun ρ=>∃(s:Nat)(C:List Rat),ρ=[.val (.lst (A.map dq)),.val (.lst (B.map dq)),.own (C.map dq),.val (.int (s:Int)),.val (dq x)]/\Mg A B i s C)
    (fun ρ=>B.length-(slI 3 ρ).toNat)
    (fun r=>∃ ρ2,r.bind (zLP sW)=.ok (.nx ρ2)/\∃(s:Nat)(C:List Rat)(a:Sl),ρ2=[.val (.lst (A.map dq)),.val (.lst (B.map dq)),.own (C.map dq),.val (.int (s:Int)),a]/\Mg A B (i+1) s C) ⟨s,C,rfl,g⟩ ?_
   rintro ρ ⟨s,C,rfl,g⟩
   have fin1:(s<B.length->∃ b,B[s]?=some b/\¬ b<x)->∃ ρ2,sW [.val (.lst (A.map dq)),.val (.lst (B.map dq)),.own (C.map dq),.val (.int (s:Int)),.val (dq x)]=.ok (.nx ρ2)/\∃(s:Nat)(C:List Rat)(a:Sl),ρ2=[.val (.lst (A.map dq)),.val (.lst (B.map dq)),.own (C.map dq),.val (.int (s:Int)),a]/\Mg A B (i+1) s C:=by
    intro hs
    have base:∀ s':Nat,s'<=B.length->s'<=s+1->(∀ y,(y∈A.take i∨y∈B.take s)∨y=x ↔ y∈A.take (i+1)∨y∈B.take s')->(∀(j:Nat)(b:Rat),s'<=j->B[j]?=some b->x<b/\s<=j)->C.length+1<=i+1+s'->Mg A B (i+1) s' (C++[x]):=by
     intro s' h1 h1' h2 h3 h4;have cx:∀ c∈C,c<x:=g.under i x (Qh _) hq;refine⟨zGl g.asc cx,fun y=>?_,fun j b hj hb' c hc=>?_,fun j a hj ha' c hc=>?_,h1,by rw[Ql];exact h4⟩
     ·rw[Va,Qt,g.mem y]
      exact h2 y
     ·have h5:=h3 j b hj hb'
      rcases Va.mp hc with hc | hc
      ·exact g.below j b h5.2 hb' c hc
      ·rw[Qt.mp hc]
       exact h5.1
     ·have h5:=zDs ha (show i<j by omega) hq ha'
      rcases Va.mp hc with hc | hc
      ·have:=cx c hc
       grind
      ·rw[Qt.mp hc]
       exact h5
    have len:=g.len;have le:=g.le;symm;by_cases c1:s<B.length
    ·obtain⟨b,hb1,hb2⟩:=hs c1
     rw[J6 (by omega)];symm;rw[ix s b hb1];symm;by_cases c2:b=x
     ·rw[J6 c2]
      symm;rw[Jk (by omega)];refine⟨_,rfl,s+1,C++[x],_,by rw[Vb];rfl,base (s+1) (by omega) (by omega) (fun y=>?_) (fun j b' hj hb'=>?_) (by omega)⟩
      ·rw[gF hq,gF hb1,c2]
       constructor
       ·rintro ((h | h) | h)
        ·exact .inl (.inl h)
        ·exact .inr (.inl h)
        ·exact .inl (.inr h)
       ·rintro ((h | h) | (h | h))
        ·exact .inl (.inl h)
        ·exact .inr h
        ·exact .inl (.inr h)
        ·exact .inr h
      ·have:=zDs hb (show s<j by omega) hb1 hb'
       rw[c2] at this;exact⟨this,by omega⟩
     ·rw[Jj c2]
      symm;rw[Jk (by omega)];refine⟨_,rfl,s,C++[x],_,by rw[Vb];rfl,base s le (by omega) (fun y=>?_) (fun j b' hj hb'=>?_) (by omega)⟩
      ·rw[gF hq]
       grind
      ·rcases Xj hj with l | l
       ·have:=zDs hb l hb1 hb'
        exact⟨by grind,hj⟩
       ·subst l
        rw[hb1] at hb';cases hb'
        exact⟨by grind,hj⟩
    ·rw[Jj (by omega)]
     symm;rw[Jk (by omega)];refine⟨_,rfl,s,C++[x],_,by rw[Vb];rfl,base s le (by omega) (fun y=>?_) (fun j b' hj hb'=>?_) (by omega)⟩
     ·rw[gF hq]
      grind
     ·have:=(Qx.mp hb').1
      omega
   by_cases c1:s<B.length
   ·have hb1:B[s]?=some B[s]:=Qo c1
    have zb1:=zb _ (Qi hb1);generalize B[s]=b at hb1 zb1;by_cases c2:b<x
    ·refine .inr ⟨?_,?_⟩
     ·symm
      rw[J6 (by omega)];symm;rw[ix s b hb1];symm;rw[kK zb1 zx (by omega),J6 c2];symm
     ·have len:=g.len
      symm;rw[ix s b hb1];symm;rw[Jk (by omega)];symm;refine⟨_,rfl,⟨s+1,C++[b],by rw[Vb];rfl,⟨zGl g.asc (g.below s b (Qh _) hb1),fun y=>?_,fun j b' hj hb' c hc=>?_,fun j a' hj ha' c hc=>?_,c1,by rw[Ql,Us];omega⟩⟩,?_⟩
      ·rw[Va,Qt,g.mem y,gF hb1]
       grind
      ·have:=zDs hb (show s<j by omega) hb1 hb'
       rcases Va.mp hc with hc | hc
       ·exact g.below j b' (by omega) hb' c hc
       ·rw[Qt.mp hc]
        exact this
      ·rcases Va.mp hc with hc | hc
       ·exact g.under j a' hj ha' c hc
       ·rw[Qt.mp hc]
        rcases Xj hj with l | l
        ·have:=zDs ha l hq ha'
         grind
        ·subst l
         rw[hq] at ha';cases ha'
         exact c2
      ·show B.length-(s+1)<B.length-s
       exact Nat.sub_lt_sub_left c1 (Vm s)
    ·refine .inl ⟨?_,?_⟩
     ·symm
      rw[J6 (by omega)];symm;rw[ix s b hb1];symm;rw[kK zb1 zx (by omega),Jj c2];symm
     ·exact fin1 fun _=>⟨b,hb1,c2⟩
   ·refine .inl ⟨?_,?_⟩
    ·symm
     rw[Jj (by omega)];symm
    ·exact fin1 fun h=>absurd h c1
 ·rintro ρ' ⟨s,C,a,rfl,g⟩
  have len:=g.len;have le:=g.le;rw[Qg] at g len;symm;rw[zGA (by omega),<-List.map_drop,Jk (by rw[Qg,Vu];omega)];symm;refine⟨C++B.drop s,by rw[Vb,Vp],?_,fun y=>?_,by rw[Ql,Vu];omega⟩
  ·refine Wp.mpr ⟨g.asc,hb.sublist (List.drop_sublist _ _),fun c hc b hb'=>?_⟩
   obtain⟨j,hj⟩:=Yi.mp hb';rw[Wr] at hj;exact g.below (s+j) b (by omega) hj c hc
  ·rw[Va,g.mem y,V8]
   constructor
   ·rintro ((h | h) | h)
    ·exact .inl h
    ·exact .inr (Yq h)
    ·exact .inr (Qag h)
   ·rintro (h | h)
    ·exact .inl (.inl h)
    ·rw[<-Ws s B,Va] at h
     rcases h with h | h
     ·exact .inl (.inr h)
     ·exact .inr h
theorem zLn{ps:List Pt}{a b m:Nat}{y:Rat}{e:Pt}(hl:ps.length<=100000)(hs:∀ p∈ps,SzQ a b p)(hy:Sz m y)(hn:m+3*a+3*b+4<=8999)(hk:Ok ps)(he:ps.getLast?=some e)(h0:0<=y)(h1:y<=e.2):
  ∃ r:Rat,qN [.tup (ps.map dp),.int 1,dq y]=.ok (.v (dq r))/\zDF ps y r:=by
 have hpos:0<ps.length:=by cases ps with
  | nil=>cases he
  | cons a r=>exact Ys _
 obtain⟨r,e1,k,q,hq,hj,h⟩:=zPf true hpos hl (n:=b) (l:=a) (fun p hp=>⟨(hs p hp).2,(hs p hp).1⟩) hy (by omega) hk.2 (fun p hp=>by rw[<-Xk,hk.1] at hp;cases hp;exact h0) (fun p hp=>by rw[he] at hp;cases hp;exact h1)
 exact⟨r,e1,k,q,hq,hj,h⟩
theorem zLC{ps qs:List Pt}{e f:Pt}(a b c d n m z:Nat)(hp:Ok ps)(hq:Ok qs)(he:ps.getLast?=some e)(hf:qs.getLast?=some f)(hL:e.1=f.2)(lp:ps.length<=40000)(lq:qs.length<=40000)
  (zp:∀ p∈ps,SzQ a b p) (zq:∀ p∈qs,SzQ c d p) (n1:a+3*c+3*d+4<=8999) (cm:c<=m) (n2:m+3*c+3*d+4<=8999) (n3:n+3*a+3*b+4<=8999) (n4:2*m+2*z+2<=8999)
  (hb:∀ p∈ps,∀ r,zDF qs p.1 r->Sz m r) (hv:∀ y,(∃ q∈qs,y=q.2)∨(∃ p∈ps,y=p.1)->Sz n y/\Sz z (bF ps y)):
  ∃ R:List Pt,iB [.tup (ps.map dp),.tup (qs.map dp)]=.ok (.v (.tup (R.map dp)))/\zPn R/\R.getLast?=some (f.1,e.2)/\R.length<=ps.length+qs.length/\(∀ x,0<=x->x<=f.1->bF R x=bF ps (bF qs x))/\(∀ r∈R,SzQ m z r/\((∃ q∈qs,r.1=q.1)∨∃ p∈ps,zDF qs p.1 r.1)):=by
 have bp:∀ p∈ps,0<=p.1/\p.1<=f.2:=fun p h=>by have:=dJ hp he h;exact⟨this.1,by rw[<-hL];exact this.2.1⟩
 have up:∀ p∈ps,∃ r,qN [.tup (qs.map dp),.int 1,dq p.1]=.ok (.v (dq r))/\zDF qs p.1 r:=fun p h=>zLn (by omega) zq (zp p h).1 n1 hq hf (bp p h).1 (bp p h).2
 obtain⟨bf,hbf⟩:∃ bf:Pt->Rat,∀ p∈ps,qN [.tup (qs.map dp),.int 1,dq p.1]=.ok (.v (dq (bf p)))/\zDF qs p.1 (bf p):=
  ⟨fun p=>if h:p∈ps then Classical.choose (up p h) else 0,fun p h=>by simp only[J7 h];exact Ui (up p h)⟩
 have hval:∀ p∈ps,bF qs (bf p)=p.1/\0<=bf p/\bf p<=f.1:=fun p h=>(hbf p h).2.val hq hf
 have hasc:(ps.map bf).Pairwise (· < ·):=by
  refine Xt.mpr (Yj ?_ hp.2)
  intro a b ha hb' hab;have h1:=hval a ha;have h2:=hval b hb';rcases (Vz:bf b<=bf a∨bf a<=bf b) with l | l
  ·have:=eI hq hf h2.2.1 l h1.2.2
   have:=hab.1
   grind
  ·have:bf a≠bf b:=by
    intro z;have:=hab.1
    rw[<-h1.1,<-h2.1,z] at this;grind
   grind
 have zb:∀ x∈ps.map bf,Sz m x:=fun x hx=>by
  obtain⟨p,h,rfl⟩:=Qp.mp hx;exact hb p h _ (hbf p h).2
 have zx:∀ x∈qs.map Prod.fst,Sz m x:=fun x hx=>by
  obtain⟨p,h,rfl⟩:=Qp.mp hx;exact(zq p h).1.mono cm
 obtain⟨C,h1,h2,h3,h4⟩:=zLe (zOi hq.2) hasc (by rw[Qg];omega) (by rw[Qg];omega) zx zb (by omega)
 rw[Qg,Qg] at h4;have zC:∀ t∈C,Sz m t:=fun t ht=>((h3 t).mp ht).elim (zx t) (zb t)
 have from':∀ t∈C,(∃ q∈qs,t=q.1)∨∃ p∈ps,t=bf p:=by
  intro t ht;rcases (h3 t).mp ht with h | h
  ·obtain⟨q,h5,rfl⟩:=Qp.mp h
   exact .inl ⟨q,h5,rfl⟩
  ·obtain⟨q,h5,rfl⟩:=Qp.mp h
   exact .inr ⟨q,h5,rfl⟩
 have J:Joints ps qs f C:=by
  refine⟨h2,fun q h=>(h3 _).mpr (.inl (Qp.mpr ⟨q,h,rfl⟩)),fun p h=>⟨bf p,(h3 _).mpr (.inr (Qp.mpr ⟨p,h,rfl⟩)),(hval p h).1⟩,fun t ht=>?_⟩
  rcases from' t ht with⟨q,h,rfl⟩ | ⟨p,h,rfl⟩
  ·have:=dJ hq hf h
   exact⟨this.1,this.2.1⟩
  ·exact(hval p h).2
 have v2:∀ t∈C,(∃ q∈qs,bF qs t=q.2)∨∃ p∈ps,bF qs t=p.1:=by
  intro t ht;rcases from' t ht with⟨q,h,rfl⟩ | ⟨p,h,rfl⟩
  ·obtain⟨i,hi⟩:=Yi.mp h
   exact .inl ⟨q,h,bR hq.2 hi⟩
  ·exact .inr ⟨p,h,(hval p h).1⟩
 have sz:∀ t∈C,Sz n (bF qs t)/\Sz z (bF ps (bF qs t)):=fun t ht=>hv _ (v2 t ht)
 obtain⟨ok,la⟩:=zGk hp hq he hf hL J;refine⟨mI (sY ps qs C),?_,lQ ok,by rw[uW ok.2];exact la,Q5 (oM ok.2).length_le (by unfold sY;rw[Qg];omega),fun x h0 h1=>by rw[zH ok.2,zHW hp hq he hf hL J h0 h1],fun r hr=>?_⟩
 rotate_left
 ·obtain⟨t,ht,rfl⟩:=Qp.mp ((oM ok.2).subset hr)
  exact⟨⟨zC t ht,(sz t ht).2⟩,(from' t ht).imp id fun ⟨p,h,e⟩=>⟨p,h,e ▸ (hbf p h).2⟩⟩
 unfold iB;symm;rw[zFP he];symm;rw[zBf hf];symm;rw[hL];symm;rw[zGg (by omega)];symm
 rw[Qv,fH (u:=dq ∘ Prod.fst) (g:=fun p=>dq (bf p)) (by omega) (fun p h=>by
  show aN qN _ [_,_,_,_,.val (dq p.1)]=_
  symm;rw[(hbf p h).1]
  symm)]
 symm;rw[zGg (by omega)];symm;rw[show(ps.map fun p=>dq (bf p))=(ps.map bf).map dq by rw[Qv];rfl,h1];symm
 rw[fH (u:=dq) (g:=fun t=>dp (t,bF ps (bF qs t))) (by omega) (fun t ht=>by
  have b2:=tX hq hf (J.bd t ht).1 (J.bd t ht).2;symm;rw[zJs (by omega) zq (zC t ht) n2 hq hf (J.bd t ht).1 (J.bd t ht).2];symm;rw[zJs (by omega) zp (sz t ht).1 n3 hp he b2.1 (by rw[hL];exact b2.2)]
  symm)]
 symm;rw[show(C.map fun t=>dp (t,bF ps (bF qs t)))=(sY ps qs C).map dp by unfold sY;rw[Qv];rfl];rw[qY (n:=m) (m:=z) (.inl rfl) (by unfold sY;rw[Qg];omega) ?_ n4 ok]
 ·symm
 ·intro p hp1
  obtain⟨t,ht,rfl⟩:=Qp.mp hp1;exact⟨zC t ht,(sz t ht).2⟩
def zDG(ps:List Pt)(y a b:Rat):Prop:=∃(k:Nat)(q:Pt),ps[k]?=some q/\(∀(j:Nat)(p:Pt),j<k->ps[j]?=some p->p.2<y)/\(∀(j:Nat)(p:Pt),k+2<=j->ps[j]?=some p->y<p.2)/\
  ((q.2=y/\a=q.1/\((∃ u:Pt,ps[k+1]?=some u/\u.2=y/\b=u.1)∨((∀ u:Pt,ps[k+1]?=some u->y<u.2)/\b=q.1)))∨
   (0<k/\y<q.2/\(∃ p:Pt,ps[k-1]?=some p/\p.2<y/\a=itp (p.2,p.1) (q.2,q.1) y)/\b=a))
theorem zIT{ps:List Pt}{e:Pt}{y:Rat}{u v m:Nat}(h:zPn ps)(hl:ps.length<=100000)(hs:∀ p∈ps,SzQ u v p)(hy:Sz m y)(hn:m+3*u+3*v+4<=8999)(he:ps.getLast?=some e)(h0:0<=y)(h1:y<=e.2):
  ∃ a b,iE [.tup (ps.map dp),dq y]=.ok (.v (.tup [dq a,dq b]))/\zDG ps y a b:=by
 have hpos:0<ps.length:=by cases ps with
  | nil=>cases he
  | cons a r=>exact Ys _
 have hla:ps[ps.length-1]?=some e:=by rw[<-Xd];exact he
 have ze:=hs e (Y9 he);have hp:=h.1.2;obtain⟨a,e1,k,q,hq,hj,c⟩:=zPf true hpos hl (n:=v) (l:=u) (fun p hp=>⟨(hs p hp).2,(hs p hp).1⟩) hy (by omega) hp (fun p hp=>by rw[<-Xk,h.1.1] at hp;cases hp;exact h0) (fun p hp=>by rw[he] at hp;cases hp;exact h1)
 obtain⟨k',e2,hk',hj',c'⟩:=mK true (n:=v) hpos hl (fun p hp=>(hs p hp).2) hy (by omega) hp
 have hkl:=(Qx.mp hq).1
 have yq:y<=q.2:=by
  rcases c with⟨c,_⟩ | ⟨_,c,_⟩
  ·rw[show q.2=y from c];exact Qe
  ·exact Qf c
 have kk:k'=k:=by
  rcases Ua k' k with l | l | l
  ·have hq':ps[k']?=some ps[k']:=Qo hk'
   have l1:=hj _ _ l hq';rcases c' with c' | ⟨p,hp',c'⟩
   ·omega
   ·rw[hq'] at hp'
    cases hp'
    exact absurd l1 (by show ¬ ax true _<y;grind)
  ·exact l
  ·exact absurd (hj' _ _ l hq) (by show ¬ q.2<y;grind)
 subst kk;have far:∀(j:Nat)(p:Pt),k'+1<=j->ps[j]?=some p->q.2<=p.2:=fun j p l hpj=>kY hp true (show k'<=j by omega) hq hpj
 have far2:∀(j:Nat)(p:Pt),k'+2<=j->ps[j]?=some p->y<p.2:=by
  intro j p l hpj;have hjl:=(Qx.mp hpj).1;have h1':ps[k'+1]?=some ps[k'+1]:=Qo (by omega)
  have h2':ps[k'+2]?=some ps[k'+2]:=Qo (by omega)
  have m1:q.2<=ps[k'+1].2:=far _ _ (Qh _) h1';have m2:ps[k'+1].2<=ps[k'+2].2:=kY hp true (show k'+1<=k'+2 by omega) h1' h2'
  have m3:ps[k'+2].2<=p.2:=kY hp true l h2' hpj;have nb:=zFS h.2 hq h1' h2'
  have:¬ (q.2=ps[k'+1].2/\ps[k'+1].2=ps[k'+2].2):=by
   rintro⟨z1,z2⟩
   rw[btw,z1,z2] at nb;have nb:=of_decide_eq_false nb;apply nb
   grind
  grind
 unfold iE;symm;rw[zBf he];symm;rw[zU hy ze.2 (by omega) h0 h1];symm;have e1':qN [.tup (ps.map dp),.int 1,dq y]=.ok (.v (dq a)):=e1;have e2':bW [.tup (ps.map dp),.int 1,dq y]=.ok (.v (.int (k':Int))):=e2;rw[e1'];symm;rw[e2'];symm;by_cases last:k'+1<ps.length
 ·have hu:ps[k'+1]?=some ps[k'+1]:=Qo last
  have zu:=hs _ (Qi hu);have fu:q.2<=ps[k'+1].2:=far _ _ (Qh _) hu;generalize ps[k'+1]=u at hu zu fu;rw[show min ((k':Int)+1) ((ps.length:Int)-1)=((k'+1:Nat):Int) by omega,pP (by omega) (by rw[Vp];exact hu)];symm;by_cases cu:u.2=y
  ·rw[J6 cu]
   symm;have qy:q.2=y:=by grind
   have aq:a=q.1:=by
    rcases c with⟨_,c⟩ | ⟨_,c,_⟩
    ·exact c
    ·exact absurd (show y<q.2 from c) (by grind)
   exact⟨a,u.1,rfl,⟨k',q,hq,hj,far2,.inl ⟨qy,aq,.inl ⟨u,hu,cu,rfl⟩⟩⟩⟩
  ·rw[Jj cu]
   symm;refine⟨a,a,rfl,⟨k',q,hq,hj,far2,?_⟩⟩
   rcases c with⟨c1,c2⟩ | ⟨k0,c1,p,c2,c3,c4⟩
   ·refine .inl ⟨c1,c2,.inr ⟨fun v hv=>?_,c2⟩⟩
    rw[hu] at hv;cases hv;have:q.2=y:=c1
    grind
   ·exact .inr ⟨k0,c1,⟨p,c2,c3,c4⟩,rfl⟩
 ·have ek:k'=ps.length-1:=by omega
  have qe:q=e:=by rw[ek,hla] at hq;cases hq;rfl
  rw[show min ((k':Int)+1) ((ps.length:Int)-1)=((k':Nat):Int) by omega,pP (by omega) (by rw[Vp];exact hq)];have no:∀ v:Pt,ps[k'+1]?=some v->y<v.2:=fun v hv=>by have:=(Qx.mp hv).1;omega
  symm;by_cases qy:q.2=y
  ·rw[J6 qy]
   symm
   have aq:a=q.1:=by
    rcases c with⟨_,c⟩ | ⟨_,c,_⟩
    ·exact c
    ·exact absurd (show y<q.2 from c) (by grind)
   exact⟨a,q.1,rfl,⟨k',q,hq,hj,far2,.inl ⟨qy,aq,.inr ⟨no,rfl⟩⟩⟩⟩
  ·rw[Jj qy]
   symm;refine⟨a,a,rfl,⟨k',q,hq,hj,far2,?_⟩⟩
   rcases c with⟨c1,c2⟩ | ⟨k0,c1,p,c2,c3,c4⟩
   ·exact absurd c1 qy
   ·exact .inr ⟨k0,c1,⟨p,c2,c3,c4⟩,rfl⟩
def wys:List Str:=["row","back","even","lack","part","half"]
def wOK(w:Str)(ws:List Int)(m:Nat):Prop:=(w = "even" ∨ w = "lack")/\ws.length=m/\(∀ x∈ws,1<=x/\x<=10^6)∨¬ (w = "even" ∨ w = "lack")/\ws=[]
def IsC:Nat->D->Prop
 | 0,_=>False
 | n+1,d=>(∃ c:Int,d=.tup [.str "boat", .int c])∨∃(w:Str)(ws:List Int)(ks:List D),d=.tup [.str w,.tup (ws.map D.int),.tup ks]/\(w == "boat")=false/\0<ks.length/\ks.length<=100/\ws.length<=100/\(w∈wys/\wOK w ws ks.length)/\∀ k∈ks,IsC n k
def clm:Nat->D->List Int
 | 0,_=>[]
 | n+1,d=>match d with
  | .tup [_,.int c]=>[c]
  | .tup [_,_,.tup ks]=>ks.flatMap (clm n)
  | _=>[]
def dpt:Nat->D->Int
 | 0,_=>0
 | n+1,d=>match d with
  | .tup [_,_,.tup ks]=>1+mx0 (ks.map (dpt n))
  | _=>1
theorem tK{c:Int}:cI [.tup [.str "boat", .int c]]=.ok (.v (.bl true)):=by
 unfold cI;symm
theorem oC{w:Str}{a b:D}(h:(w == "boat")=false):cI [.tup [.str w,a,b]]=.ok (.v (.bl false)):=by
 unfold cI;symm;rw[h]
theorem oF{w:Str}{a b:D}(h:(w == "boat")=false):dA [.tup [.str w,a,b]]=.ok (.v b):=by
 unfold dA;symm;rw[oC h];symm
theorem zHZ{ks:List D}{n i:Nat}:((ks.take i).flatMap (clm n)).length<=(ks.flatMap (clm n)).length:=by
 conv=>rhs;rw[<-Ws i ks,Xn,Ql]
 exact Nat.le_add_right _ _
theorem zIo{ks:List D}{n:Nat}{k:D}(h:k∈ks):(clm n k).length<=(ks.flatMap (clm n)).length:=by
 obtain⟨a,b,rfl⟩:=List.append_of_mem h;rw[Xn,Xf,Ql,Ql];omega
theorem vA:∀(n:Nat)(d:D),IsC n d->(clm n d).length<=1000->gQ n [d]=.ok (.f ((clm n d).map D.int))
 | 0,d,h,_=>h.elim
 | n+1,d,h,hl=>by
  show lR (gQ n) [d]=_
  unfold lR;symm;rcases h with⟨c,rfl⟩ | ⟨w,ws,ks,rfl,hw,k0,k1,w1,hy,hk⟩
  ·rw[tK]
   symm;rfl
  ·rw[oC hw]
   symm;rw[oF hw];symm;refine pE (Q:=fun r=>r.bind fin=.ok (.f ((ks.flatMap (clm n)).map D.int))) (fun i ρ=>∃ a,ρ=[.val (.tup [.str w,.tup (ws.map D.int),.tup ks]),.own (((ks.take i).flatMap (clm n)).map D.int),a]) ⟨_,rfl⟩ ?_ ?_
   ·rintro i e ρ he ⟨a,rfl⟩
    have hm:=Qi he;have hl':(ks.flatMap (clm n)).length<=1000:=hl;have l1:=zIo (n:=n) hm;have l2:=zHZ (ks:=ks) (n:=n) (i:=i);symm;rw[vA n e (hk e hm) (by omega)];symm;rw[Jk (by omega)];refine⟨_,rfl,.val e,?_⟩
    rw[oB he,Xn,Vb];simp[List.flatMap]
   ·rintro ρ' ⟨a,rfl⟩
    symm;rw[V8]
theorem zX:∀(n:Nat)(d:D),IsC n d->eD n [d]=.ok (.v (.int (dpt n d)))
 | 0,d,h=>h.elim
 | n+1,d,h=>by
  show oK (eD n) [d]=_
  unfold oK;symm;rcases h with⟨c,rfl⟩ | ⟨w,ws,ks,rfl,hw,k0,k1,w1,hy,hk⟩
  ·symm
   rfl
  ·symm
   rw[hw];symm
   have e:=fH (u:=fun k=>k) (g:=fun k=>.int (dpt n k)) (l:=ks) (f:=aN (eD n) (aD (aG 1) aNil)) (ρ:=[.val (.tup [.str w,.tup (ws.map D.int),.tup ks])]) (by omega) (fun k hm=>by
    symm;rw[zX n k (hk k hm)]
    symm)
   rw[List.map_id'] at e;rw[e];symm;rw[zCu k0];symm;rfl
def dOK:Nat->D->Prop
 | 0,_=>False
 | n+1,d=>(∃ i,d=.int i)∨(∃ x,d=.str x)∨∃ ds,d=.tup ds/\ds.length<=1000/\∀ e∈ds,dOK n e
theorem zLp:∀ {n m:Nat} {d:D},dOK n d->n<=m->dOK m d
 | 0,_,_,h,_=>h.elim
 | n+1,0,_,_,l=>absurd l (by omega)
 | n+1,m+1,d,h,l=>by
  rcases h with h | h | ⟨ds,rfl,hl,he⟩
  ·exact .inl h
  ·exact .inr (.inl h)
  ·exact .inr (.inr ⟨ds,rfl,hl,fun e h=>zLp (he e h) (by omega)⟩)
theorem zKq:∀(n:Nat)(d:D),IsC n d->dOK (2*n+1) d
 | 0,d,h=>h.elim
 | n+1,d,h=>by
  rcases h with⟨c,rfl⟩ | ⟨w,ws,ks,rfl,hw,k0,k1,w1,hy,hk⟩
  ·refine .inr (.inr ⟨_,rfl,by simp,fun e he=>?_⟩)
   rcases Qd.mp he with rfl | he
   ·exact .inr (.inl ⟨_,rfl⟩)
   ·rw[Qt.mp he];exact .inl ⟨_,rfl⟩
  ·refine .inr (.inr ⟨_,rfl,by simp,fun e he=>?_⟩)
   rcases Qd.mp he with rfl | he
   ·exact .inr (.inl ⟨_,rfl⟩)
   ·rcases Qd.mp he with rfl | he
    ·refine .inr (.inr ⟨_,rfl,by rw[Qg];omega,fun x hx=>?_⟩)
     obtain⟨i,_,rfl⟩:=Qp.mp hx;exact .inl ⟨_,rfl⟩
    ·rw[Qt.mp he]
     exact .inr (.inr ⟨_,rfl,by omega,fun x hx=>zKq n x (hk x hx)⟩)
theorem zDU:∀(n:Nat)(d:D),dOK n d->noL d=true
 | 0,d,h=>h.elim
 | n+1,d,h=>by
  rcases h with⟨i,rfl⟩ | ⟨x,rfl⟩ | ⟨ds,rfl,hl,he⟩
  ·simp[noL]
  ·simp[noL]
  ·rw[noL]
   clear hl
   induction ds with
   | nil=>rfl
   | cons a r ih=>rw[noLs,zDU n a (he a Qb),ih fun e h=>he e (Qc _ h)];rfl
theorem rC:∀ {n m:Nat} {d:D},IsC n d->n<=m->IsC m d
 | 0,_,_,h,_=>h.elim
 | n+1,0,_,_,l=>absurd l (by omega)
 | n+1,m+1,d,h,l=>by
  rcases h with h | ⟨w,ws,ks,rfl,hw,k0,k1,w1,hy,hk⟩
  ·exact .inl h
  ·exact .inr ⟨w,ws,ks,rfl,hw,k0,k1,w1,hy,fun k h=>rC (hk k h) (by omega)⟩
theorem oH:∀ {n m:Nat} {d:D},IsC n d->n<=m->clm m d=clm n d
 | 0,_,_,h,_=>h.elim
 | n+1,0,_,_,l=>absurd l (by omega)
 | n+1,m+1,d,h,l=>by
  rcases h with⟨c,rfl⟩ | ⟨w,ws,ks,rfl,hw,k0,k1,w1,hy,hk⟩
  ·rfl
  ·show ks.flatMap (clm m)=ks.flatMap (clm n)
   rw[Uk,Uk];congr 1
   exact Vy fun k h=>oH (hk k h) (by omega)
theorem zGp:∀ {n m:Nat} {d:D},IsC n d->n<=m->dpt m d=dpt n d
 | 0,_,_,h,_=>h.elim
 | n+1,0,_,_,l=>absurd l (by omega)
 | n+1,m+1,d,h,l=>by
  rcases h with⟨c,rfl⟩ | ⟨w,ws,ks,rfl,hw,k0,k1,w1,hy,hk⟩
  ·rfl
  ·show 1+mx0 (ks.map (dpt m))=1+mx0 (ks.map (dpt n))
   rw[Vy fun k h=>zGp (hk k h) (by omega)]
theorem zRp:∀ {l:List Int} {b:Int},0<=b->(∀ x∈l,x<=b)->mx0 l<=b
 | [],b,h,_=>h
 | a::r,b,_,h=>by
  have key:∀(r:List Int)(a:Int),a<=b->(∀ x∈r,x<=b)->zBo a r<=b:=by
   intro r
   induction r with
   | nil=>intro a ha _;exact ha
   | cons c r ih=>
    intro a ha hr;rw[zBo];refine ih _ ?_ fun x hx=>hr x (Qc _ hx)
    split
    ·exact hr c Qb
    ·exact ha
  exact key r a (h a Qb) fun x hx=>h x (Qc _ hx)
theorem zKe:∀ {l:List Int} {x:Int},x∈l->x<=mx0 l
 | [],_,h=>by cases h
 | a::r,x,h=>by
  have key:∀(r:List Int)(a:Int),a<=zBo a r/\∀ x∈r,x<=zBo a r:=by
   intro r
   induction r with
   | nil=>intro a;exact⟨Yn _,fun x h=>by cases h⟩
   | cons c r ih=>
    intro a;rw[zBo];have h1:=ih (if c > a then c else a);refine⟨Vl ?_ h1.1,fun x hx=>?_⟩
    ·split<;>omega
    ·rcases Qd.mp hx with rfl | hx
     ·refine Vl ?_ h1.1;split<;>omega
     ·exact h1.2 x hx
  rcases Qd.mp h with rfl | h
  ·exact(key r x).1
  ·exact(key r a).2 x h
theorem zIZ:∀ {n:Nat} {d:D},IsC n d->1<=dpt n d/\dpt n d<=n
 | 0,_,h=>h.elim
 | n+1,d,h=>by
  rcases h with⟨c,rfl⟩ | ⟨w,ws,ks,rfl,hw,k0,k1,w1,hy,hk⟩
  ·exact⟨by show(1:Int)<=1;omega,by show(1:Int)<=_;omega⟩
  ·have h1:mx0 (ks.map (dpt n))<=n:=zRp (by omega) fun x hx=>by
    obtain⟨k,hk',rfl⟩:=Qp.mp hx;exact(zIZ (hk k hk')).2
   have h2:0<=mx0 (ks.map (dpt n)):=by
    cases ks with
    | nil=>cases k0
    | cons k r=>exact Vl (by have:=(zIZ (hk k Qb)).1;omega) (zKe (x:=dpt n k) (by simp))
   exact⟨by show 1<=1+mx0 (ks.map (dpt n));omega,by show 1+mx0 (ks.map (dpt n))<=((n+1:Nat):Int);omega⟩
theorem zNl{w:Str}(h:w∈wys):(aW.lookup w).isSome=true/\(w == "boat")=false:=by
 simp only[wys,Qd,X4,or_false] at h;rcases h with rfl | rfl | rfl | rfl | rfl | rfl<;>decide
theorem zSm{w:Str}:oIn (.str w) (.tup [.str "even", .str "lack"])=.ok (.bl (decide (w = "even" ∨ w = "lack"))):=by
 show(if depS [D.str "even", D.str "lack"]<=50 then Res.ok (D.bl (((Str.ofString "even")==w) || (((Str.ofString "lack")==w) || false))) else .no)=_
 rw[Jk (by decide),Y1];congr 2
 by_cases h1:w = "even"
 ·subst h1;decide
 ·by_cases h2:w = "lack"
  ·subst h2;decide
  ·rw[Jj (fun h=>h.elim h1 h2),beq_eq_false_iff_ne.mpr (Ne.symm h1),beq_eq_false_iff_ne.mpr (Ne.symm h2)];rfl
structure Pl (L:List (D×Int)) (boats:Int):Prop where
 each:∀ p∈L,1<=p.2/\p.2<=7/\IsC p.2.toNat p.1
 few:((L.flatMap fun p=>clm 7 p.1).length:Int)<=boats
 most:boats<=12
 rng:∀ c∈(L.flatMap fun p=>clm 7 p.1),0<=c/\c<=10^9
theorem zJj:∀ {l:List D},(∀ d∈l,noL d=true)->noLs l=true
 | [],_=>rfl
 | a::r,h=>by rw[noLs,h a Qb,zJj fun d hd=>h d (Qc _ hd)];rfl
theorem zMV:∀ {n:Nat} {d:D},dOK n d->dep d<=n
 | 0,_,h=>h.elim
 | n+1,d,h=>by
  rcases h with⟨i,rfl⟩ | ⟨x,rfl⟩ | ⟨ds,rfl,hl,he⟩
  ·simp[dep]
  ·simp[dep]
  ·rw[dep]
   clear hl
   have:depS ds<=n:=by
    induction ds with
    | nil=>simp[depS]
    | cons a r ih=>
     rw[depS];exact Nat.max_le.mpr ⟨zMV (he a Qb),ih fun e h=>he e (Qc _ h)⟩
   omega
theorem zIM{n:Nat}:∀ {ds:List D},(∀ d∈ds,dOK n d)->depS ds<=n
 | [],_=>by simp[depS]
 | a::r,h=>by rw[depS];exact Nat.max_le.mpr ⟨zMV (h a Qb),zIM fun e he=>h e (Qc _ he)⟩
theorem zMM{l:List D}(h:∀ d∈l,dOK 15 d):oEq (.lst l) (.lst [])=.ok (.bl (decide (l.length=0)))/\oNe (.lst l) (.lst [])=.ok (.bl (!decide (l.length=0))):=by
 have hd:dep (.lst l)<=50:=by rw[dep];have:=zIM h;omega
 have e:eqD (.lst l) (.lst [])=decide (l.length=0):=by cases l<;>simp[eqD,zHn]
 unfold oEq oNe;rw[Jk hd,Jk hd,e];exact⟨rfl,rfl⟩
theorem zOl{w:Str}(h:w∈wys):∃ v:Wy,v.s=w:=by
 unfold wys at h;rcases Qd.mp h with rfl | h
 ·exact⟨.row,rfl⟩
 rcases Qd.mp h with rfl | h
 ·exact⟨.back,rfl⟩
 rcases Qd.mp h with rfl | h
 ·exact⟨.even,rfl⟩
 rcases Qd.mp h with rfl | h
 ·exact⟨.lack,rfl⟩
 rcases Qd.mp h with rfl | h
 ·exact⟨.part,rfl⟩
 ·rw[Qt.mp h];exact⟨.half,rfl⟩
theorem zMN{v:Wy}{ws cs:List Int}(h:wOK v.s ws cs.length):v.due ws cs:=by
 have k:¬ (v.s = "even" ∨ v.s = "lack")->ws=[]:=fun hn=>by
  rcases h with⟨a,_⟩ | ⟨_,b⟩
  ·exact absurd a hn
  ·exact b
 have k2:(v.s = "even" ∨ v.s = "lack")->Wt ws cs:=fun hy=>by
  rcases h with⟨_,b,c⟩ | ⟨a,_⟩
  ·exact⟨b,fun x hx=>(c x hx).1,fun x hx=>(c x hx).2⟩
  ·exact absurd hy a
 cases v with
 | even=>exact k2 (.inl rfl)
 | lack=>exact k2 (.inr rfl)
 | row=>exact k (by decide)
 | back=>exact k (by decide)
 | part=>exact k (by decide)
 | half=>exact k (by decide)
def Gc(n:Nat)(d:D):Prop:=IsC n d/\(clm n d).length<=12/\∀ c∈clm n d,0<=c/\c<=10^9
theorem zMj:∀ {l:List Int},(∀ c∈l,0<=c/\c<=10^9)->0<=l.sum/\l.sum<=l.length*10^9
 | [],_=>by decide
 | c::r,h=>by
  have ih:=zMj fun x hx=>h x (Qc _ hx)
  have a:=h c Qb;rw[Q8,Qm];have:((r.length+1:Nat):Int)*10^9=(r.length:Int)*10^9+10^9:=by rw[Yo,Yp];rfl
  omega
theorem Gc.sum{n:Nat}{d:D}(h:Gc n d):0<=(clm n d).sum/\(clm n d).sum<=12*10^9:=by
 have:=zMj h.2.2
 have:=h.2.1
 omega
theorem zGb{n:Nat}:∀ ks:List D,(ks.map fun k=>(clm n k).sum).sum=(ks.flatMap (clm n)).sum
 | []=>rfl
 | k::r=>by rw[Qu,Q8,zGb r,Xf,Xl]
theorem zEk:∀ {n:Nat} {d:D},IsC n d->1<=(clm n d).length
 | 0,_,h=>h.elim
 | n+1,d,h=>by
  rcases h with⟨c,rfl⟩ | ⟨w,ws,ks,rfl,hw,k0,k1,w1,hy,hk⟩
  ·exact Qh 1
  ·cases ks with
   | nil=>simp at k0
   | cons k r=>
    have:=zEk (hk k Qb)
    show 1<=((k::r).flatMap (clm n)).length
    rw[Xf,Ql];omega
theorem zGm{n:Nat}:∀ {ks:List D},(∀ k∈ks,IsC n k)->ks.length<=(ks.flatMap (clm n)).length
 | [],_=>V9 _
 | k::r,h=>by
  have a:=zEk (h k Qb);have b:=zGm fun x hx=>h x (Qc _ hx)
  rw[Qm,Xf,Ql];omega
theorem zQC{n:Nat}{ks:List D}{k:D}(hk:k∈ks){c:Int}(hc:c∈clm n k):c∈ks.flatMap (clm n):=List.mem_flatMap.mpr ⟨k,hk,hc⟩
theorem Gc.kid{n:Nat}{w:D}{a ks:List D}(h:Gc (n+1) (.tup [w,.tup a,.tup ks]))(hi:∀ k∈ks,IsC n k){k:D}(hk:k∈ks):Gc n k:=
 ⟨hi k hk,Q5 (zIo hk) h.2.1,fun c hc=>h.2.2 c (zQC hk hc)⟩
def kcl(n:Nat)(ks:List D):List Int:=ks.map fun k=>(clm n k).sum
theorem kQ(n:Nat)(ks:List D):(kcl n ks).length=ks.length:=Qg ..
theorem Gc.cl{n:Nat}{w:D}{a ks:List D}(h:Gc (n+1) (.tup [w,.tup a,.tup ks]))(hi:∀ k∈ks,IsC n k)(h0:0<ks.length):Cl (kcl n ks):=by
 have b:∀ c∈kcl n ks,0<=c/\c<=12*10^9:=fun c hc=>by
  obtain⟨k,hk,rfl⟩:=Qp.mp hc;exact(h.kid hi hk).sum
 have l:(ks.flatMap (clm n)).length<=12:=h.2.1;have:=zGm hi
 exact⟨fun c hc=>(b c hc).1,fun c hc=>by have:=(b c hc).2;omega,by rw[kQ];omega,by rw[kQ];omega⟩
def ShL(P:D->Rat->List Rat->Prop):List D->(Nat->Rat)->Nat->List Rat->Prop
 | [],_,_,xs=>xs=[]
 | k::ks,f,i,xs=>∃ a b,xs=a++b/\P k (f i) a/\ShL P ks f (i+1) b
def Sh:Nat->D->Rat->List Rat->Prop
 | 0,_,_,_=>False
 | n+1,d,q,xs=>(∃ c:Int,d=.tup [.str "boat", .int c]/\xs=[q])∨∃(v:Wy)(ws:List Int)(ks:List D)(f:Nat->Rat),d=.tup [.str v.s,.tup (ws.map D.int),.tup ks]/\v.due ws (kcl n ks)/\Al 3000 ws (kcl n ks) q f v/\ShL (Sh n) ks f 0 xs
theorem zHR{P:D->Rat->List Rat->Prop}{n:Nat}{f:Nat->Rat}:∀ {ks:List D} {i:Nat} {xs:List Rat},(∀ k∈ks,∀ q xs,P k q xs->xs.length=(clm n k).length)->ShL P ks f i xs->xs.length=(ks.flatMap (clm n)).length
 | [],i,xs,_,h=>by rw[show xs=[] from h];rfl
 | k::r,i,xs,hp,h=>by
  obtain⟨a,b,rfl,ha,hb⟩:=h;rw[Ql,hp k Qb _ _ ha,zHR (fun x hx=>hp x (Qc _ hx)) hb,Xf,Ql]
theorem zMQ:∀ {n:Nat} {d:D} {q:Rat} {xs:List Rat},Sh n d q xs->xs.length=(clm n d).length
 | 0,_,_,_,h=>h.elim
 | n+1,d,q,xs,h=>by
  rcases h with⟨c,rfl,rfl⟩ | ⟨v,ws,ks,f,rfl,hd,al,hs⟩
  ·rfl
  ·exact zHR (fun k _ q xs h=>zMQ h) hs
theorem zFs{a:D}{l:List D}:jD [.tup (a::l)]=.ok (.v a):=by
 unfold jD;symm
theorem tR{a b:D}{l:List D}:cZ [.tup (a::b::l)]=.ok (.v b):=by
 unfold cZ;symm
theorem sG{n:Nat}{d:D}(h:IsC n d)(hn:n<=10)(hl:(clm n d).length<=1000):dZ [d]=.ok (.v (.int (clm n d).sum)):=by
 have e:=oH h hn;unfold dZ;symm;rw[vA 10 d (rC h hn) (by rw[e];exact hl)];symm;rw[e]
theorem uB{n:Nat}{w:Str}{a:D}{ks:List D}(hw:(w == "boat")=false)(hi:∀ k∈ks,IsC n k)(hn:n<=10)(hl:(ks.flatMap (clm n)).length<=1000):cY [.tup [.str w,a,.tup ks]]=.ok (.f ((kcl n ks).map D.int)):=by
 unfold cY;symm;rw[oF hw];symm
 rw[zDy (h:=fun k=>D.int (clm n k).sum) (by have:=zGm hi;omega) (fun k hk=>by
  symm;rw[sG (hi k hk) hn (Q5 (zIo hk) hl)]
  symm)]
 symm;unfold kcl;rw[Qv];rfl
theorem zMH(cs:List Int):Sq (.lst (cs.map D.int)) cs:=.inl rfl
theorem zY:∀(n N m:Nat)(d:D)(q:Rat),Gc n d->n<=N->n<=9->0<=q->q<=((clm n d).sum:Rat)->(q.den:Int)<2^m->m+34*n<=2000->∃ xs,fT N [d,dq q]=.ok (.f (xs.map dq))/\Sh n d q xs
 | 0,_,_,_,_,h,_,_,_,_,_,_=>h.1.elim
 | n+1,0,_,_,_,_,hN,_,_,_,_,_=>by omega
 | n+1,N+1,m,d,q,g,hN,hn,q0,q1,qd,hm=>by
  rcases g.1 with⟨c,rfl⟩ | ⟨w,ws,ks,rfl,hw,k0,k1,w1,hy,hk⟩
  ·refine⟨[q],?_,.inl ⟨c,rfl,rfl⟩⟩
   show jH (fT N) _=_
   unfold jH;symm;rw[tK];symm
  ·obtain⟨v,rfl⟩:=zOl hy.1
   have cl:=g.cl hk k0;have l12:(ks.flatMap (clm n)).length<=12:=g.2.1;have hs:(kcl n ks).sum=(clm (n+1) (.tup [.str v.s,.tup (ws.map D.int),.tup ks])).sum:=zGb ks;have gs:=g.sum;have due:v.due ws (kcl n ks):=zMN (by rw[kQ];exact hy.2)
   have sq:Sz (34+m) q:=(Dn.den q).sz (eU q) qd q0 q1 (by omega)
   have hl:Haul (34+m) q (kcl n ks).sum:=⟨q0,by rw[hs];exact q1,sq⟩
   obtain⟨f,ef,af⟩:=zOh (wd:=.tup (ws.map D.int)) (.inr rfl) (zMH (kcl n ks)) (by omega) due cl hl
   have df:=zMX due cl hl af;have hS:(kcl n ks).sum<2^34:=by rw[hs];omega
   obtain⟨E,e0,e1,e2⟩:=zQE due cl hS af (Dn.den q)
   have dk:∀ i,i<ks.length->((f i).den:Int)<2^(m+34):=fun i hi=>by
    have a:=(e2 i (by rw[kQ];exact hi)).le (Uf (eU q) e0)
    have b:(q.den:Int)*E<2^m*2^34:=Int.mul_lt_mul qd (X1 e1) e0 (X1 (Yu (by decide)))
    rw[Wu];omega
   have loopOk:∀(js:List D)(i:Nat)(acc:List Rat)(s t:Sl),(∀ k∈js,k∈ks)->i+js.length=ks.length->ks.drop i=js->acc.length+(js.flatMap (clm n)).length<=12->∃ xs s' t',ShL (Sh n) js f i xs/\
     iC (zHq (mO (gName 4) (mO (gName 5) zHp))) (tQ (fT N)) (kT js ((List.range' i js.length).map fun j=>dq (f j))) [.val (.tup [.str v.s,.tup (ws.map D.int),.tup ks]),.val (dq q),.val (.lst (((List.range (kcl n ks).length).map f).map dq)),.own (acc.map dq),s,t]=
      .ok (.nx [.val (.tup [.str v.s,.tup (ws.map D.int),.tup ks]),.val (dq q),.val (.lst (((List.range (kcl n ks).length).map f).map dq)),.own ((acc++xs).map dq),s',t']):=by
    intro js
    induction js with
    | nil=>intro i acc s t _ _ _ _;exact⟨[],s,t,rfl,by rw[Vg];rfl⟩
    | cons k r ih=>
     intro i acc s t hm' hl' hd' ha;have hik:i<ks.length:=by rw[Qm] at hl';omega
     have ik:k∈ks:=hm' k Qb;have gk:=g.kid hk ik;have fk:=df.bd i (by rw[kQ];exact hik)
     have ck:cR (kcl n ks) i=((clm n k).sum:Rat):=by
      unfold cR kcl
      have:ks[i]?=some k:=by
       have:=Wr (xs:=ks) (i:=i) (j:=0)
       rw[hd'] at this;simpa using this.symm
      rw[Qy,Qs,this];rfl
     obtain⟨xs,ex,sx⟩:=zY n N (m+34) k (f i) gk (by omega) (by omega) fk.1 (by rw[<-ck];exact fk.2.1) (dk i hik) (by omega)
     have lx:=zMQ sx;rw[Xf,Ql] at ha;obtain⟨ys,s',t',sy,ey⟩:=ih (i+1) (acc++xs) (.val k) (.val (dq (f i))) (fun x hx=>hm' x (Qc _ hx)) (by rw[Qm] at hl';omega) (by rw[<-List.drop_drop,hd'];rfl) (by rw[Ql];omega)
     refine⟨xs++ys,s',t',⟨xs,ys,rfl,sx,sy⟩,?_⟩
     rw[Qm,List.range'_succ,Qu,show kT (k::r) (dq (f i)::(List.range' (i+1) r.length).map fun j=>dq (f j))=.tup [k,dq (f i)]::kT r ((List.range' (i+1) r.length).map fun j=>dq (f j)) from rfl]
     rw[dE (ρ1:=[.val (.tup [.str v.s,.tup (ws.map D.int),.tup ks]),.val (dq q),.val (.lst (((List.range (kcl n ks).length).map f).map dq)),.own (acc.map dq),.val k,.val (dq (f i))]) (ρ2:=[.val (.tup [.str v.s,.tup (ws.map D.int),.tup ks]),.val (dq q),.val (.lst (((List.range (kcl n ks).length).map f).map dq)),.own ((acc++xs).map dq),.val k,.val (dq (f i))]) (by symm) (by
      symm;rw[ex];symm
      rw[Jk (by omega),Vb]),ey,V3]
   obtain⟨xs,s',t',sx,ex⟩:=loopOk ks 0 [] .un .un (fun k h=>h) (by omega) rfl (by rw[Yw];omega)
   refine⟨xs,?_,.inr ⟨v,ws,ks,f,rfl,due,af.mono (by omega),sx⟩⟩
   show jH (fT N) _=_
   unfold jH;symm;rw[oC hw];symm;rw[zFs];symm;rw[tR];symm;rw[uB hw hk (by omega) (by omega)];symm;rw[ef];symm;rw[oF hw];symm;rw[pH rfl rfl,show((List.range (kcl n ks).length).map f).map dq=(List.range' 0 ks.length).map fun j=>dq (f j) by rw[Qv,kQ,Wv];rfl];symm;rw[show((List.range (kcl n ks).length).map f).map dq=(List.range' 0 ks.length).map fun j=>dq (f j) by rw[Qv,kQ,Wv];rfl] at ex;rw[Xg] at ex;rw[ex];rfl
theorem zLi{n m:Nat}{d:D}{q:Rat}(g:Gc n d)(hn:n<=9)(q0:0<=q)(q1:q<=((clm n d).sum:Rat))(qd:(q.den:Int)<2^m)(hm:m+34*n<=2000):∃ xs,kF [d,dq q]=.ok (.f (xs.map dq))/\Sh n d q xs:=by
 have gs:=g.sum;obtain⟨xs,ex,sx⟩:=zY n 10 m d q g (by omega) hn q0 q1 qd hm
 refine⟨xs,?_,sx⟩
 have sq:Sz (34+m) q:=(Dn.den q).sz (eU q) qd q0 q1 (by omega)
 unfold kF;symm;rw[sG g.1 (by omega) (by have:=g.2.1;omega)];symm;rw[bZ];symm;rw[mH (by omega) ⟨q0,q1,sq⟩ (by omega)];symm;rw[ex];symm
theorem lE{t b:Int}{n:Nat}(hb0:b≠0)(hn:b.natAbs<2^n)(h:n<=8999):cN [.int t,.int b]=.ok (.v (dq (Rat.divInt t b))):=by
 have hd:mM (dv t b)=true:=uS (zPX hb0) (Xh (zQM hb0) hn) h;unfold cN;symm
 refine zFq (fun ρ=>∃(x y:Int)(r:Sl),ρ=[.val (.int t),.val (.int b),.val (.int x),.val (.int y),r]/\0<=x/\0<=y/\Int.gcd x y=Int.gcd t b) (fun ρ=>(slI 3 ρ).toNat)
  (fun r=>(r.bind (zLP tO)).bind fin=.ok (.v (dq (Rat.divInt t b)))) ⟨_,_,_,rfl,by omega,by omega,by simp[Int.gcd]⟩ ?_
 rintro ρ ⟨x,y,r,rfl,hx,hy,hg⟩
 by_cases c:y=0
 ·subst c
  have e2:x=(Int.gcd t b:Int):=by
   rw[Int.gcd_zero_right] at hg;omega
  subst e2;refine .inl ⟨rfl,?_⟩
  symm;by_cases c:b<0
  ·have e:0-(Int.gcd t b:Int)=dv t b:=by unfold dv;rw[Jk c];omega
   rw[J6 c];symm;rw[e,oDiv_i hd];symm;rw[oDiv_i hd];symm;rw[zG hb0,zD hb0];rfl
  ·have e:(Int.gcd t b:Int)=dv t b:=by unfold dv;rw[Jl c]
   rw[Jj c];symm;rw[e,oDiv_i hd];symm;rw[oDiv_i hd];symm;rw[zG hb0,zD hb0];rfl
 ·have hp:0<y:=by omega
  refine .inr ⟨?_,[.val (.int t),.val (.int b),.val (.int y),.val (.int (x % y)),.val (.int (x % y))],?_,⟨y,x % y,_,rfl,hy,Vc _ c,(zFl hx hp).trans hg⟩,?_⟩
  ·symm
   rw[J6 hp]
  ·symm
   rw[oMod_i c,fmod_pos _ hp];symm
  ·have:=Ve x hp
   show(x % y).toNat<y.toNat
   omega
theorem sA{p q:Rat}{m n:Nat}(hp:Sz m p)(hq:Sz n q)(h:m+n<=8999):fQ [dq p,dq q]=.ok (.v (dq (p+q))):=by
 unfold fQ;symm;rw[oMul_i (bP hp.1 hq.d (by omega))];symm;rw[oMul_i (bP hq.1 hp.d (by omega))];symm;rw[oMul_i (bP hp.d hq.d (by omega))];symm;rw[lE (V6 (dX p) (dX q)) (fA hp.d hq.d) h,zKh];symm
theorem wY{p q:Rat}{m n:Nat}(hp:Sz m p)(hq:Sz n q)(h:m+n<=8999):fJ [dq p,dq q]=.ok (.v (dq (p-q))):=by
 unfold fJ;symm;rw[oMul_i (bP hp.1 hq.d (by omega))];symm;rw[oMul_i (bP hq.1 hp.d (by omega))];symm;rw[oMul_i (bP hp.d hq.d (by omega))];symm;rw[lE (V6 (dX p) (dX q)) (fA hp.d hq.d) h,zJL];symm
theorem zEg{p q:Rat}{m n:Nat}(hp:Sz m p)(hq:Sz n q)(h:m+n<=8999):jP [dq p,dq q]=.ok (.v (dq (p*q))):=by
 unfold jP;symm;rw[oMul_i (bP hp.1 hq.1 (by omega))];symm;rw[oMul_i (bP hp.d hq.d (by omega))];symm;rw[lE (V6 (dX p) (dX q)) (fA hp.d hq.d) h,zHD];symm
theorem gW{p q:Rat}{m n:Nat}(hp:Sz m p)(hq:Sz n q)(h:m+n<=99999):dF [dq p,dq q]=.ok (.v (.bl (decide (p<q)))):=by
 unfold dF;symm;rw[oMul_i (bP hp.1 hq.d (by omega))];symm;rw[oMul_i (bP hq.1 hp.d (by omega))];symm;simp only[lt_iff]
theorem lB{q:Rat}{n:Nat}(hq:Sz n q)(h:n<=8999):cS [dq q]=.ok (.v (.bl true)):=by
 unfold cS;symm;show((((Res.ok [D.int q.num,D.int (q.den:Int)]).bind _).bind _).bind _)=_
 symm;refine zEw (Q:=fun r=>r.bind fin=.ok (.v (.bl true))) (fun ρ=>∃ a,ρ=[.val (dq q),a]) ⟨_,rfl⟩ ?_ ?_
 ·rintro d ρ hd ⟨a,rfl⟩
  have hi:∃ i,d=.int i:=by
   rcases Qd.mp hd with rfl | hd
   ·exact⟨_,rfl⟩
   ·rcases Qd.mp hd with rfl | hd
    ·exact⟨_,rfl⟩
    ·cases hd
  obtain⟨i,rfl⟩:=hi;symm;exact⟨_,rfl,_,rfl⟩
 ·rintro ρ' ⟨a,rfl⟩
  symm;rw[J6 (eU q)];symm;rw[lE (dX q) hq.d h,V5];symm
theorem zSb{v v':Wy}(h:v.s=v'.s):v=v':=by cases v<;>cases v'<;>first | rfl | exact absurd h (by decide)
open Classical in
def wyS(w:Str):Wy:=if h:∃ v:Wy,v.s=w then Classical.choose h else .row
theorem zRL(v:Wy):wyS v.s=v:=by
 have h:∃ u:Wy,u.s=v.s:=⟨v,rfl⟩;unfold wyS;rw[J7 h];exact zSb (Ui h)
def zRI(l:List D):List Int:=l.map fun d=>match d with | .int i=>i | _=>0
theorem zKO(ws:List Int):zRI (ws.map D.int)=ws:=by
 unfold zRI;rw[Qv];exact List.map_id _
def SFL(g:D->Rat->List Rat)(f:Nat->Rat):List D->Nat->List Rat
 | [],_=>[]
 | k::ks,i=>g k (f i)++SFL g f ks (i+1)
def SF:Nat->D->Rat->List Rat
 | 0,_,_=>[]
 | n+1,d,q=>match d with
  | .tup [.str w,.tup a,.tup ks]=>SFL (SF n) (FF (wyS w) (zRI a) (kcl n ks) q) ks 0
  | _=>[q]
theorem zEJ(n:Nat)(v:Wy)(ws:List Int)(ks:List D)(q:Rat):SF (n+1) (.tup [.str v.s,.tup (ws.map D.int),.tup ks]) q=SFL (SF n) (FF v ws (kcl n ks) q) ks 0:=by
 show SFL (SF n) (FF (wyS v.s) (zRI (ws.map D.int)) (kcl n ks) q) ks 0=_
 rw[zRL,zKO]
theorem zKf(g:D->Rat->List Rat)(f:Nat->Rat):∀(a b:List D)(i:Nat),SFL g f (a++b) i=SFL g f a i++SFL g f b (i+a.length)
 | [],b,i=>rfl
 | k::a,b,i=>by
  show g k (f i)++SFL g f (a++b) (i+1)=(g k (f i)++SFL g f a (i+1))++_
  rw[zKf g f a b (i+1),V3,Qm,show i+1+a.length=i+(a.length+1) by omega]
theorem zDL{n:Nat}{f:Nat->Rat}:∀ {ks:List D} {i:Nat},(∀ k∈ks,∀ q,(SF n k q).length=(clm n k).length)->(SFL (SF n) f ks i).length=(ks.flatMap (clm n)).length
 | [],i,_=>rfl
 | k::r,i,h=>by
  show(SF n k (f i)++SFL (SF n) f r (i+1)).length=_
  rw[Ql,h k Qb,zDL fun x hx=>h x (Qc _ hx),Xf,Ql]
theorem zJv:∀ {n:Nat} {d:D},IsC n d->∀ q:Rat,(SF n d q).length=(clm n d).length
 | 0,_,h,_=>h.elim
 | n+1,d,h,q=>by
  rcases h with⟨c,rfl⟩ | ⟨w,ws,ks,rfl,hw,k0,k1,w1,hy,hk⟩
  ·rfl
  ·obtain⟨v,rfl⟩:=zOl hy.1
   rw[zEJ];exact zDL fun k hm q=>zJv (hk k hm) q
theorem zMe{n:Nat}{ks:List D}{j:Nat}{k:D}(h:ks[j]?=some k):j<(kcl n ks).length/\cR (kcl n ks) j=((clm n k).sum:Rat):=by
 have hj:=(Qx.mp h).1;refine⟨by rw[kQ];exact hj,?_⟩
 unfold cR kcl;rw[Qy,Qs,h];rfl
theorem zLY{P:D->Rat->List Rat->Prop}{n:Nat}{f g:Nat->Rat}:∀ {ks:List D} {i:Nat} {xs:List Rat},(∀ k∈ks,∀ q xs,P k q xs->0<=q->q<=((clm n k).sum:Rat)->xs=SF n k q)->(∀ j k,ks[j]?=some k->f (i+j)=g (i+j)/\0<=f (i+j)/\f (i+j)<=((clm n k).sum:Rat))->ShL P ks f i xs->xs=SFL (SF n) g ks i
 | [],i,xs,_,_,h=>h
 | k::r,i,xs,hp,hf,h=>by
  obtain⟨a,b,rfl,ha,hb⟩:=h;have f0:=hf 0 k rfl;rw[Nat.add_zero] at f0
  rw[hp k Qb _ _ ha f0.2.1 f0.2.2,zLY (fun x hx=>hp x (Qc _ hx)) (fun j k' hj=>by
   have:=hf (j+1) k' (by simpa using hj)
   rw[show i+1+j=i+(j+1) by omega];exact this) hb,f0.1]
  rfl
theorem zQJ:∀ {n:Nat} {d:D} {q:Rat} {xs:List Rat},Gc n d->Sh n d q xs->0<=q->q<=((clm n d).sum:Rat)->xs=SF n d q
 | 0,_,_,_,g,_,_,_=>g.1.elim
 | n+1,d,q,xs,g,h,q0,q1=>by
  rcases h with⟨c,rfl,rfl⟩ | ⟨v,ws,ks,f,rfl,hd,al,hs⟩
  ·rfl
  ·rcases g.1 with⟨c,e⟩ | ⟨w,ws',ks',e,hw,k0,k1,w1,hy,hk⟩
   ·simp at e
   simp only[D.tup.injEq,List.cons.injEq,and_true] at e;obtain⟨e1,e2,rfl⟩:=e;have cl:=g.cl hk k0;have se:(kcl n ks).sum=(clm (n+1) (.tup [.str v.s,.tup (ws.map D.int),.tup ks])).sum:=zGb ks;have q1':q<=((kcl n ks).sum:Rat):=by rw[se];exact q1
   obtain⟨b1,b2⟩:=zRi hd cl q0 q1' al;rw[zEJ];refine zLY (P:=Sh n) (fun k hm q xs h1 h2 h3=>zQJ (g.kid hk hm) h1 h2 h3) (fun j k hj=>?_) hs
   obtain⟨j1,j2⟩:=zMe (n:=n) hj;rw[Yd,<-j2];exact⟨zDC hd cl q0 q1' al j1,b1 j j1⟩
theorem zQA{ws cs:List Int}(h:Wt ws cs){t y:Rat}{i:Nat}(hi:i<cs.length)(e:cR ws i*t=y){B:Int}(hB:Dn B y):Dn (B*ws.getD i 0) (QQ ws cs t):=by
 obtain⟨F,W,e1,w0,w1,w2⟩:=wB (c:=cR cs) (w:=cR ws) (ci:=fun i=>cs.getD i 0) (wi:=fun i=>ws.getD i 0) (t:=t) (fun _=>rfl) (fun _=>rfl) (List.range cs.length) (fun j hj=>h.at (Qj.mp hj))
 obtain⟨k,hk⟩:=hB;refine⟨W*k+F*(B*ws.getD i 0),?_⟩
 have q:QQ ws cs t=(W:Rat)*t+(F:Rat):=e1;rw[q,Vq,Vi,Vi,Vi,<-hk,<-e];unfold cR;grind
theorem zHI{cs:List Int}(hc:Cl cs){q y:Rat}(q0:0<=q)(q1:q<=(cs.sum:Rat)){i:Nat}(hi:i<cs.length)(e:FF .row [] cs q i=y)(y0:0<y)(y1:y<cR cs i){B:Int}(hB:Dn B y):Dn B q:=by
 rw[<-zDC (M:=0) (w:=.row) (ws:=[]) (f:=zFH cs q) rfl hc q0 q1 (fun i _=>rfl) hi] at e;have f:zFH cs q i=mn (ps0 (q-((0+(cs.take i).sum:Int):Rat))) (cR cs i):=zAv cs 0 q i hi;rw[f] at e
 have:q=y+((0+(cs.take i).sum:Int):Rat):=by
  unfold mn ps0 at e;grind
 rw[this];exact hB.add (Dn.int B _)
theorem zOC{ws cs:List Int}(h:Wt ws cs)(hc:Cl cs){t:Rat}(t0:0<=t)(q1:QQ ws cs t<=(cs.sum:Rat))(q0:0<=QQ ws cs t){i:Nat}(hi:i<cs.length):FF .even ws cs (QQ ws cs t) i=eE (cR cs) (cR ws) t i:=by
 obtain⟨M,hM⟩:=zIv cs.length (eE (cR cs) (cR ws) t);exact(zDC (M:=M) (w:=.even) h hc q0 q1 ⟨t,⟨t0,rfl,hM⟩,fun _ _=>rfl⟩ hi).symm
theorem zFy{ws cs:List Int}(h:Wt ws cs)(hc:Cl cs){q:Rat}(q0:0<=q)(q1:q<=(cs.sum:Rat)):∃ t,0<=t/\QQ ws cs t=q/\∀ i,i<cs.length->FF .even ws cs q i=eE (cR cs) (cR ws) t i:=by
 obtain⟨M,t,tl,e⟩:=yG (w:=.even) h hc q0 q1;exact⟨t,tl.nn,tl.sum,e⟩
theorem zAJ{ws cs:List Int}(h:Wt ws cs)(hc:Cl cs){q y:Rat}(q0:0<=q)(q1:q<=(cs.sum:Rat)){i:Nat}(hi:i<cs.length)(e:FF .even ws cs q i=y)(y1:y<cR cs i){B:Int}(hB:Dn B y):Dn (B*ws.getD i 0) q:=by
 obtain⟨t,t0,tq,ef⟩:=zFy h hc q0 q1;rw[ef i hi] at e;rw[<-tq];refine zQA h hi ?_ hB
 unfold eE mn at e;grind
theorem vR(q:Rat):(q+q)*hf=q:=by rw[iP];grind
theorem zEt{cs:List Int}{i:Nat}(hi:i<cs.length):(ones cs).getD i 0=1:=by
 unfold ones;rw[Qy,Y6,Jk hi];rfl
theorem zIO{cs:List Int}(hc:Cl cs){q y:Rat}(q0:0<=q)(q1:q+q<=(cs.sum:Rat)){i:Nat}(hi:i<cs.length)(e:FF .half [] cs q i=y)(y1:y+y<cR cs i){B:Int}(hB:Dn B y):Dn (B*2) q:=by
 rw[vK hc q0 q1 hi] at e
 have e':FF .even (ones cs) cs (q+q) i=y+y:=by
  have:=vR (FF .even (ones cs) cs (q+q) i)
  rw[<-e];grind
 have d:=zAJ (fM cs) hc (by grind) q1 hi e' y1 (hB.add hB)
 rw[zEt hi,Vt] at d;have:=zIl d
 rw[vR] at this;exact this
theorem zMf{cs:List Int}(hc:Cl cs){i:Nat}(hi:i<cs.length):cs.getD i 0<=cs.sum:=by
 have t:=zBg hc.nn hi (Qh _);rw[V8] at t
 have:0<=(cs.take i).sum:=by
  have:∀ l:List Int,(∀ c∈l,0<=c)->0<=l.sum:=by
   intro l
   induction l with
   | nil=>intro _;decide
   | cons a l ih=>intro hl;rw[Q8];have:=hl a Qb;have:=ih fun x hx=>hl x (Qc _ hx);omega
  exact this _ fun x hx=>hc.nn x (Yq hx)
 have:=t.1
 omega
theorem zQd{w:Wy}{ws cs:List Int}(hw:w.due ws cs)(hc:Cl cs)(hS:cs.sum<2^34){q y:Rat}(q0:0<=q)(q1:q<=(cs.sum:Rat)){i:Nat}(hi:i<cs.length)(e:FF w ws cs q i=y)(y0:0<y)(y1:y<cR cs i)(least:∀ t,0<=t->t<q->FF w ws cs t i<y){B:Int}(hB:Dn B y):∃ E:Int,0<E/\E<=2^34/\Dn (B*E) q:=by
 have dc:Dn B (cR cs i-y):=(Dn.int B _).sub hB;have S0:(0:Rat)<=(cs.sum:Rat):=by exact_mod_cast hc.sum.1
 have back:∀ {E:Int},Dn (B*E) ((cs.sum:Rat)-q)->Dn (B*E) q:=fun {E} d=>by
  have:=(Dn.int (B*E) cs.sum).sub d
  rw[show(cs.sum:Rat)-((cs.sum:Rat)-q)=q by grind] at this;exact this
 have con:=zMb hw hc q0 q1 hi;rw[e] at con
 cases w with
 | row=>
  have z:ws=[]:=hw;subst z;exact⟨1,by decide,by decide,by rw[Vt];exact zHI hc q0 q1 hi e y0 y1 hB⟩
 | back=>
  have z:ws=[]:=hw;subst z;refine⟨1,by decide,by decide,back ?_⟩
  rw[Vt];exact zHI hc (by grind) (by grind) hi con (by grind) (by grind) dc
 | even=>
  have wi:=Wt.at hw hi;exact⟨ws.getD i 0,by omega,by omega,zAJ hw hc q0 q1 hi e y1 hB⟩
 | lack=>
  have wi:=Wt.at hw hi;exact⟨ws.getD i 0,by omega,by omega,back (zAJ (ws:=ws) hw hc (by grind) (by grind) hi con (by grind) dc)⟩
 | part=>
  have z:ws=[]:=hw;subst z;rw[<-zDC (M:=0) (w:=.part) (ws:=[]) (f:=kM cs q) rfl hc q0 q1 (fun i _=>rfl) hi] at e;have p:=(jN (q:=q) hc hi).1;rw[e] at p
  have c0:0<cs.getD i 0:=by
   have:(0:Rat)<cR cs i:=by grind
   unfold cR at this;exact_mod_cast this
  have:=zMf hc hi
  obtain⟨k,hk⟩:=hB;refine⟨cs.getD i 0,c0,by omega,k*cs.sum,?_⟩
  unfold cR at p;rw[Vi,Vi,<-hk];grind
 | half=>
  have z:ws=[]:=hw;subst z;have W:=fM cs;refine⟨2,by decide,by decide,?_⟩
  by_cases h:q+q<=(cs.sum:Rat)
  ·by_cases l:y+y<cR cs i
   ·exact zIO hc q0 h hi e l hB
   ·have e0:=e
    rw[vK hc q0 h hi] at e;obtain⟨t,t0,tq,ef⟩:=zFy W hc (q:=q+q) (by grind) h
    have g1:=ef i hi
    have g2:FF .even (ones cs) cs (q+q) i=y+y:=by
     have:=vR (FF .even (ones cs) cs (q+q) i)
     rw[<-e];grind
    rw[g2] at g1
    have yc:y+y=cR cs i:=by
     unfold eE mn at g1;grind
    have lt:lv (ones cs) cs i<=t:=by
     rcases (Vz:t<=lv (ones cs) cs i∨lv (ones cs) cs i<=t) with u | u
     ·have:=zGI W hi u
      rw[<-g1,yc,<-zN W hi] at this;have o:cR (ones cs) i=1:=by unfold cR;rw[zEt hi];rfl
      rw[o] at this;grind
     ·exact u
    have m1:=mD W lt;rw[tq] at m1;have l0:=zJi W hc hi
    have Q0:0<=QQ (ones cs) cs (lv (ones cs) cs i):=by
     have:=mD (cs:=cs) W l0
     have z:QQ (ones cs) cs 0=0:=by
      have:∀ j∈List.range cs.length,eE (cR cs) (cR (ones cs)) 0 j=0:=fun j hj=>by
       have:=zHY hc (Qj.mp hj)
       unfold eE mn;grind
      unfold QQ jG;rw[Vy (g:=fun _=>(0:Rat)) this]
      induction (List.range cs.length) with
      | nil=>rfl
      | cons a r ih=>rw[Qu,Q8,ih];grind
     grind
    have eq:QQ (ones cs) cs (lv (ones cs) cs i)=q+q:=by
     rcases Rat.le_iff_lt_or_eq.mp m1 with u | u
     ·exfalso
      have hh:QQ (ones cs) cs (lv (ones cs) cs i)*hf+QQ (ones cs) cs (lv (ones cs) cs i)*hf=QQ (ones cs) cs (lv (ones cs) cs i):=by rw[iP];grind
      have v:=least (QQ (ones cs) cs (lv (ones cs) cs i)*hf) (by rw[iP];grind) (by rw[iP];grind)
      rw[vK hc (by rw[iP];grind) (by rw[hh];grind) hi,hh,zOC W hc l0 (by grind) Q0 hi,zGN W hi Qe,<-yc,vR] at v;grind
     ·exact u
    have d:=zQA (cs:=cs) W hi (zN W hi) (Dn.int B (cs.getD i 0));rw[eq,zEt hi,Vt] at d;have:=zIl d
    rw[vR] at this;exact this
  ·have h':((cs.sum:Rat)-q)+((cs.sum:Rat)-q)<=(cs.sum:Rat):=by grind
   have con':FF .half [] cs ((cs.sum:Rat)-q) i=cR cs i-y:=con;by_cases l:(cR cs i-y)+(cR cs i-y)<cR cs i
   ·exact back (zIO hc (by grind) h' hi con' l dc)
   ·exfalso
    have hh:(cs.sum:Rat)*hf+(cs.sum:Rat)*hf=(cs.sum:Rat):=by rw[iP];grind
    have v:=least ((cs.sum:Rat)*hf) (by rw[iP];grind) (by rw[iP];grind)
    rw[vK hc (by rw[iP];grind) (by rw[hh];exact Qe) hi,hh,zEH (w:=.even) W hc hi,iP] at v;grind
theorem zKp{x:Rat}{B E:Int}{m:Nat}(h:Dn (B*E) x)(b0:0<B)(e0:0<E)(hb:B<=2^m)(he:E<=2^34):(x.den:Int)<=2^(m+34):=by
 have a:=h.le (Uf b0 e0);have b:B*E<=2^m*2^34:=Int.mul_le_mul hb he (X1 e0) (X1 (Yu (by decide)))
 rw[Wu];omega
theorem gU(m:Nat):(1:Int)<=2^m:=by
 have:(0:Int)<2^m:=Yu (by decide)
 omega
theorem rP{a b:Nat}(h:a<=b):(2:Int)^a<=2^b:=by
 have e:(2:Int)^b=2^a*2^(b-a):=by rw[<-Wu,Nat.add_sub_cancel' h]
 have p:(0:Int)<2^a:=Yu (by decide)
 have:=Qah (gU (b-a)) (X1 p)
 rw[e];omega
theorem zNq{w:Wy}{ws cs:List Int}{J:List Rat}(hw:w.due ws cs)(hc:Cl cs)(hS:cs.sum<2^34)(js:JS w ws cs J)(jd:Jd cs J){i:Nat}(hi:i<cs.length){y r:Rat}(u:zDF (wln w ws cs J i) y r){m:Nat}(hy:(y.den:Int)<=2^m):(r.den:Int)<=2^(m+34):=by
 obtain⟨ln,la,pts,val⟩:=zMh hw hc js hi;obtain⟨u1,u2,u3⟩:=u.val ln.1 la;have le:=fun t (t0:0<=t) (l:t<r)=>u.least ln.1 la t0 l
 obtain⟨k,q,hq,hj,h⟩:=u;have hqm:=Qi hq;rcases h with⟨e,rfl⟩ | ⟨k0,hlt,p,hp,hp2,e⟩
 ·obtain⟨B,b0,b1,d⟩:=jd.2 _ (pts q hqm).1
  have:=d.le b0
  have:=rP (show 34<=m+34 by omega)
  omega
 ·have bp:=dJ ln.1 la (Qi hp)
  have bq:=dJ ln.1 la hqm;have y0:0<y:=by have:=bp.2.2.1;grind
  have y1:y<cR cs i:=by have:=bq.2.2.2;grind
  rw[val r u2 u3] at u1
  obtain⟨E,e0,e1,d⟩:=zQd hw hc hS u2 u3 hi u1 y0 y1 (fun t t0 l=>by
   have:=le t t0 l
   rw[val t t0 (by grind)] at this
   exact this) (Dn.den y)
  exact zKp d (eU y) e0 hy e1
theorem zQW{w:Wy}{ws cs:List Int}(hw:w.due ws cs)(hc:Cl cs)(hS:cs.sum<2^34){q:Rat}(q0:0<=q)(q1:q<=(cs.sum:Rat)){i:Nat}(hi:i<cs.length){m:Nat}(hq:(q.den:Int)<=2^m):((FF w ws cs q i).den:Int)<=2^(m+34):=by
 obtain⟨M,al⟩:=yG hw hc q0 q1;obtain⟨E,e0,e1,e2⟩:=zQE hw hc hS al (Dn.den q);exact zKp (e2 i hi) (eU q) e0 hq (X1 e1)
theorem zKU{P:Nat->Prop}:∀ n,P n->∃ k,P k/\∀ j,j<k->¬ P j:=by
 intro n
 induction n using Nat.strongRecOn with
 | ind n ih=>
  intro h;by_cases c:∃ j,j<n/\P j
  ·obtain⟨j,l,hj⟩:=c
   exact ih j l hj
  ·exact⟨n,h,fun j l hj=>c ⟨j,l,hj⟩⟩
theorem zQX{ps:List Pt}{e:Pt}{y:Rat}(h:Ok ps)(he:ps.getLast?=some e)(y0:0<=y)(y1:y<=e.2):∃ r,zDF ps y r:=by
 obtain⟨k,⟨q,hq,hy⟩,hm⟩:=zKU (P:=fun k=>∃ q:Pt,ps[k]?=some q/\y<=q.2) (ps.length-1) ⟨e,by rw[<-Xd];exact he,y1⟩
 have lt:∀(j:Nat)(p:Pt),j<k->ps[j]?=some p->p.2<y:=fun j p l hp=>Rat.not_le.mp fun z=>hm j l ⟨p,hp,z⟩
 by_cases c:q.2=y
 ·exact⟨q.1,k,q,hq,lt,.inl ⟨c,rfl⟩⟩
 ·have k0:0<k:=by
   rcases U8 k with z | z
   ·subst z
    rw[<-Xk,h.1] at hq;cases hq
    have:(0:Rat)=y:=by
     have:y<=(0:Rat):=hy
     grind
    exact absurd this c
   ·exact z
  have kl:=(Qx.mp hq).1;have hp:ps[k-1]?=some (ps[k-1]'(by omega)):=Qo _
  exact⟨_,k,q,hq,lt,.inr ⟨k0,by grind,_,hp,lt _ _ (by omega) hp,rfl⟩⟩
structure CL (S c:Int) (g:Rat->Rat) (m k:Nat) (l:List Pt):Prop where
 ln:zPn l
 la:l.getLast?=some ((S:Rat),(c:Rat))
 val:∀ x,0<=x->x<=(S:Rat)->bF l x=g x
 len:l.length<=k
 den:∀ p∈l,(p.1.den:Int)<=2^m
 yd:∀(x:Rat)(e:Nat),0<=x->x<=(S:Rat)->(x.den:Int)<=2^e->((g x).den:Int)<=2^(e+m)
 inv:∀(y r:Rat)(e:Nat),0<=y->y<=(c:Rat)->(y.den:Int)<=2^e->zDF l y r->(r.den:Int)<=2^(e+m)
theorem nX{x:Rat}{S:Int}{m:Nat}(x0:0<=x)(x1:x<=(S:Rat))(hS:S<2^34)(h:(x.den:Int)<=2^m):Sz (35+m) x:=by
 have:=(Dn.den x).sz (a:=34) (b:=m+1) (eU x) (by rw[Int.pow_succ];have:=gU m;omega) x0 x1 hS
 exact this.mono (by omega)
theorem CL.pt{S c:Int}{g:Rat->Rat}{m k:Nat}{l:List Pt}(h:CL S c g m k l){p:Pt}(hp:p∈l):p.2=g p.1/\0<=p.1/\p.1<=(S:Rat)/\0<=p.2/\p.2<=(c:Rat):=by
 have b:=dJ h.ln.1 h.la hp;obtain⟨i,hi⟩:=Yi.mp hp;exact⟨by rw[<-h.val _ b.1 b.2.1];exact(bR h.ln.1.2 hi).symm,b⟩
theorem CL.sz{S c:Int}{g:Rat->Rat}{m k:Nat}{l:List Pt}(h:CL S c g m k l)(hS:S<2^34)(hc:c<2^34):∀ p∈l,SzQ (35+m) (35+2*m) p:=fun p hp=>by
 obtain⟨e,a,b,c0,d⟩:=h.pt hp;refine⟨nX a b hS (h.den p hp),?_⟩
 have:=h.yd _ m a b (h.den p hp)
 rw[<-e] at this;exact(nX c0 d hc this).mono (by omega)
def lnD(l:List Pt):D:=.tup (l.map dp)
theorem zJk{w:Wy}{ws cs:List Int}{J:List Rat}(hw:w.due ws cs)(hc:Cl cs)(hS:cs.sum<2^34)(js:JS w ws cs J)(lJ:J.length<=30)(zJ:∀ x∈J,Sz 300 x/\∀ i,i<cs.length->Sz 670 (FF w ws cs x i))(jd:Jd cs J){i:Nat}(hi:i<cs.length){c:Int}{g:Rat->Rat}{m k:Nat}{l:List Pt}(hc2:c<2^34)(h:CL (cs.getD i 0) c g m k l)(hm:m<=272)(hk:k<=1000):
  ∃ R,iB [lnD l,lnD (wln w ws cs J i)]=.ok (.v (lnD R))/\CL cs.sum c (fun x=>g (FF w ws cs x i)) (m+34) (k+30) R:=by
 obtain⟨ln,la,pts,val⟩:=zMh hw hc js hi;have cs1:=zMf hc hi;have zl:=h.sz (by omega) hc2
 have bl:∀ p∈l,p.1<=cR cs i:=fun p hp=>(h.pt hp).2.2.1
 have wl:(wln w ws cs J i).length<=30:=by
  have:=(oM (zFt hw hc js hi).1.2).length_le
  unfold wln;unfold jpt at this ⊢
  rw[Qg] at this;omega
 have S0:(0:Rat)<=(cs.sum:Rat):=by exact_mod_cast hc.sum.1
 obtain⟨R,e,r1,r2,r3,r4,r5⟩:=zLC (ps:=l) (qs:=wln w ws cs J i) (35+m) (35+2*m) 300 670 670 400 1000 h.ln.1 ln.1 h.la la rfl (by have:=h.len;omega) (by omega) zl
  (fun p hp=>⟨(zJ _ (pts p hp).1).1,by rw[(pts p hp).2];exact(zJ _ (pts p hp).1).2 i hi⟩) (by omega) (by decide) (by omega) (by omega) (by omega)
  (fun p hp r u=>by
   have d:=zNq hw hc hS js jd hi u (h.den p hp);obtain⟨_,v2,v3⟩:=u.val ln.1 la
   exact(nX v2 v3 hS d).mono (by omega))
  (fun y hy=>by
   have key:0<=y/\y<=cR cs i/\Sz 670 y:=by
    rcases hy with⟨q,hq,rfl⟩ | ⟨p,hp,rfl⟩
    ·have b:=dJ ln.1 la hq
     exact⟨b.2.2.1,b.2.2.2,by rw[(pts q hq).2];exact(zJ _ (pts q hq).1).2 i hi⟩
    ·exact⟨(h.pt hp).2.1,bl p hp,(zl p hp).1.mono (by omega)⟩
   obtain⟨y0,y1,y2⟩:=key;refine⟨y2,?_⟩
   have v:=tX h.ln.1 h.la y0 y1;rw[h.val y y0 y1] at v ⊢
   have d:=h.yd y 670 y0 y1 (by have:=y2.2;omega)
   exact(nX v.1 v.2 hc2 d).mono (by omega))
 refine⟨R,e,r1,r2,fun x x0 x1=>?_,by have:=h.len;omega,fun p hp=>?_,fun x e x0 x1 xd=>?_,fun y r e y0 y1 yd u=>?_⟩
 ·have b:=zLK hw hc x0 x1
  rw[r4 x x0 x1,val x x0 x1,h.val _ (b.1 i hi).1 (b.1 i hi).2]
 ·rcases (r5 p hp).2 with⟨q,hq,e⟩ | ⟨q,hq,u⟩
  ·obtain⟨B,b0,b1,d⟩:=jd.2 _ (pts q hq).1
   rw[e];have:=d.le b0
   have:=rP (show 34<=m+34 by omega)
   omega
  ·exact zNq hw hc hS js jd hi u (h.den q hq)
 ·have b:=zLK hw hc x0 x1
  have:=h.yd _ (e+34) (b.1 i hi).1 (b.1 i hi).2 (zQW hw hc hS x0 x1 hi xd)
  rw[show e+(m+34)=e+34+m by omega];exact this
 ·obtain⟨z,uz⟩:=zQX h.ln.1 h.la y0 y1
  have dz:=h.inv y z e y0 y1 yd uz;obtain⟨z1,z2,z3⟩:=uz.val h.ln.1 h.la;obtain⟨x,ux⟩:=zQX ln.1 la z2 z3;have dx:=zNq hw hc hS js jd hi ux dz;obtain⟨x1,x2,x3⟩:=ux.val ln.1 la
  have er:r=x:=u.uniq r1.1 r2 (by rw[r4 x x2 x3,x1,z1]) x2 fun t t0 l=>by
   have t1:t<=(cs.sum:Rat):=Qw (Qf l) x3;rw[r4 t t0 t1];exact uz.least h.ln.1 h.la (tX ln.1 la t0 t1).1 (ux.least ln.1 la t0 l)
  rw[er,show e+(m+34)=e+m+34 by omega];exact dx
theorem zBz(ns:List Int)(k:Int)(h:0<=k):fZ [.lst (ns.map D.int),.int k]=.ok (.v (.int (ns.getD k.toNat 0))):=by
 unfold fZ;symm;by_cases c:k<(ns.length:Int)
 ·rw[J6 c]
  symm;have hk:k.toNat<ns.length:=by omega
  rw[oY h (Qo hk),Qy,Qo hk];rfl
 ·rw[Jj c]
  symm;rw[Qy,Qz (by omega)];rfl
theorem zHk{c:Int}(c0:0<=c)(c1:c<2^34):∃ l,gP [.int c]=.ok (.v (lnD l))/\CL c c (fun x=>x) 34 32 l/\l=if c=0 then [(0,0)] else [(0,0),((c:Rat),(c:Rat))]:=by
 have yd:∀(x:Rat)(e:Nat),0<=x->x<=(c:Rat)->(x.den:Int)<=2^e->(x.den:Int)<=2^(e+34):=fun x e _ _ h=>Vl h (rP (by omega))
 have z0:SzQ 40 40 ((0:Rat),(0:Rat)):=by
  have:=(Dn.zero 1).sz (a:=34) (b:=1) (c:=0) (by decide) (by decide) Qe Qe (by decide)
  exact⟨this.mono (by decide),this.mono (by decide)⟩
 by_cases h:c=0
 ·subst h
  have ok:Ok [((0:Rat),(0:Rat))]:=⟨rfl,Uj _ _⟩;have le:mI [((0:Rat),(0:Rat))]=[((0:Rat),(0:Rat))]:=rfl;refine⟨[(0,0)],?_,⟨le ▸ lQ ok,rfl,fun x x0 x1=>?_,by show 1<=32;decide,fun p hp=>?_,yd,fun y r e y0 y1 yd u=>?_⟩,by rw[Jk rfl]⟩
  ·unfold gP
   symm;rw[show D.lst [dp (0,0)]=.lst ([((0:Rat),(0:Rat))].map dp) from rfl,qY (n:=40) (m:=40) (.inl rfl) (by show 1<=100000;decide) (fun p hp=>by rw[Qt.mp hp];exact z0) (by decide) ok];symm;rfl
  ·have:x=0:=by rw[show((0:Int):Rat)=0 from rfl] at x1;grind
   subst this;exact bR ok.2 (i:=0) rfl
  ·rw[Qt.mp hp]
   exact gU 34
  ·obtain⟨_,r0,r1⟩:=u.val ok (e:=(0,0)) rfl
   have:r=0:=by
    have r1':r<=(0:Rat):=r1;grind
   rw[this];exact gU _
 ·have cp:(0:Rat)<(c:Rat):=by exact_mod_cast (show 0<c by omega)
  have ok:Ok [((0:Rat),(0:Rat)),((c:Rat),(c:Rat))]:=⟨rfl,Qr.mpr ⟨fun p hp=>by rw[Qt.mp hp];exact⟨cp,Qf cp⟩,Uj _ _⟩⟩
  have le:mI [((0:Rat),(0:Rat)),((c:Rat),(c:Rat))]=[((0:Rat),(0:Rat)),((c:Rat),(c:Rat))]:=rfl
  have zc:Sz 40 (c:Rat):=by
   have:=(Dn.int 1 c).sz (a:=34) (b:=1) (by decide) (by decide) (Qf cp) Qe c1
   exact this.mono (by decide)
  have val:∀ x:Rat,0<=x->x<=(c:Rat)->bF [((0:Rat),(0:Rat)),((c:Rat),(c:Rat))] x=x:=fun x x0 x1=>by
   rw[cB ok.2 (i:=0) rfl rfl x0 x1];unfold itp;show(0:Rat)+(x-0) / ((c:Rat)-0)*((c:Rat)-0)=x
   have:(x-0) / ((c:Rat)-0)*((c:Rat)-0)=x-0:=V0 (by grind)
   rw[this];grind
  refine⟨[(0,0),((c:Rat),(c:Rat))],?_,⟨le ▸ lQ ok,rfl,fun x x0 x1=>?_,by show 2<=32;decide,fun p hp=>?_,yd,fun y r e y0 y1 yd u=>?_⟩,by rw[Jl h]⟩
  ·unfold gP
   symm;rw[Jj h];symm;rw[bZ];symm;rw[bZ];symm
   rw[show D.lst [dp (0,0),dp ((c:Rat),(c:Rat))]=.lst ([((0:Rat),(0:Rat)),((c:Rat),(c:Rat))].map dp) from rfl,qY (n:=40) (m:=40) (.inl rfl) (by show 2<=100000;decide) (fun p hp=>by
    rcases Qd.mp hp with rfl | hp
    ·exact z0
    ·rw[Qt.mp hp];exact⟨zc,zc⟩) (by decide) ok]
   symm;rfl
  ·exact val x x0 x1
  ·rcases Qd.mp hp with rfl | hp
   ·exact gU 34
   ·rw[Qt.mp hp];exact gU 34
  ·obtain⟨r2,r0,r1⟩:=u.val ok (e:=((c:Rat),(c:Rat))) rfl
   rw[val r r0 r1] at r2;rw[r2];exact Vl yd (rP (by omega))
def LLg(S:Int)(A:List Int)(f:Rat->List Rat)(m k:Nat)(ls:List (List Pt)):Prop:=ls.length=A.length/\∀ j,j<A.length->CL S (A.getD j 0) (fun x=>(f x).getD j 0) m k (ls.getD j [])
theorem zIK{α:Type}{a b:List α}{j:Nat}{z:α}(h:j<a.length):(a++b).getD j z=a.getD j z:=by
 rw[Qy,Qy,Vk h]
theorem zIY{α:Type}{a b:List α}{j:Nat}{z:α}(h:a.length<=j):(a++b).getD j z=b.getD (j-a.length) z:=by
 rw[Qy,Qy,Vn h]
theorem zRl{S:Int}{A B:List Int}{f g:Rat->List Rat}{m k:Nat}{la lb:List (List Pt)}(ha:LLg S A f m k la)(hb:LLg S B g m k lb)(fl:∀ x,(f x).length=A.length):LLg S (A++B) (fun x=>f x++g x) m k (la++lb):=by
 refine⟨by rw[Ql,Ql,ha.1,hb.1],fun j hj=>?_⟩
 by_cases h:j<A.length
 ·have e:(fun x=>(f x++g x).getD j 0)=fun x=>(f x).getD j 0:=funext fun x=>zIK (by rw[fl];exact h)
  rw[e,zIK h,zIK (by rw[ha.1];exact h)];exact ha.2 j h
 ·have e:(fun x=>(f x++g x).getD j 0)=fun x=>(g x).getD (j-A.length) 0:=funext fun x=>by rw[zIY (by rw[fl];omega),fl]
  rw[e,zIY (by omega),zIY (by rw[ha.1];omega),ha.1];rw[Ql] at hj;exact hb.2 _ (by omega)
theorem zKF{α:Type}(l:List α)(a:α):l=(List.range l.length).map fun j=>l.getD j a:=by
 refine Ym fun j=>?_
 rw[Qs];by_cases h:j<l.length
 ·rw[V7 h,Option.map_some,Qy,Qo h]
  rfl
 ·rw[Qz (by omega),Qz (l:=List.range l.length) (by rw[Q3];omega)]
  rfl
theorem zIV{w:Wy}{ws cs:List Int}{J:List Rat}(hw:w.due ws cs)(hc:Cl cs)(hS:cs.sum<2^34)(js:JS w ws cs J)(lJ:J.length<=30)(zJ:∀ x∈J,Sz 300 x/\∀ i,i<cs.length->Sz 670 (FF w ws cs x i))(jd:Jd cs J){i:Nat}(hi:i<cs.length){A:List Int}{f:Rat->List Rat}{m k:Nat}{ls:List (List Pt)}(hA:∀ c∈A,c<2^34)(h:LLg (cs.getD i 0) A f m k ls)(hm:m<=272)(hk:k<=1000):
  ∃ bf:Nat->List Pt,(∀ j,j<A.length->iB [lnD (ls.getD j []),lnD (wln w ws cs J i)]=.ok (.v (lnD (bf j))))/\LLg cs.sum A (fun x=>f (FF w ws cs x i)) (m+34) (k+30) ((List.range A.length).map bf):=by
 have each:∀ j,j<A.length->∃ R,iB [lnD (ls.getD j []),lnD (wln w ws cs J i)]=.ok (.v (lnD R))/\CL cs.sum (A.getD j 0) (fun x=>(f (FF w ws cs x i)).getD j 0) (m+34) (k+30) R:=fun j hj=>
  zJk hw hc hS js lJ zJ jd hi (hA _ (Qi (bL hj))) (h.2 j hj) hm hk
 let bf:Nat->List Pt:=fun j=>if hj:j<A.length then Classical.choose (each j hj) else []
 have hb:∀ j (hj:j<A.length),iB [lnD (ls.getD j []),lnD (wln w ws cs J i)]=.ok (.v (lnD (bf j)))/\CL cs.sum (A.getD j 0) (fun x=>(f (FF w ws cs x i)).getD j 0) (m+34) (k+30) (bf j):=fun j hj=>by
  have e:bf j=Classical.choose (each j hj):=J7 hj;rw[e];exact Ui (each j hj)
 refine⟨bf,fun j hj=>(hb j hj).1,by rw[Qg,Q3],fun j hj=>?_⟩
 have e:((List.range A.length).map bf).getD j []=bf j:=by rw[Qy,Qs,V7 hj];rfl
 rw[e];exact(hb j hj).2
theorem lC:∀(n N:Nat)(d:D),Gc n d->n<=N->n<=9->∃ Ls:List (List Pt),fN N [d]=.ok (.f (Ls.map lnD))/\LLg (clm n d).sum (clm n d) (SF n d) (34*n) (2+30*n) Ls
 | 0,_,_,h,_,_=>h.1.elim
 | n+1,0,_,_,hN,_=>by omega
 | n+1,N+1,d,g,hN,hn=>by
  rcases g.1 with⟨c,rfl⟩ | ⟨w,ws,ks,rfl,hw,k0,k1,w1,hy,hk⟩
  ·have c01:0<=c/\c<=10^9:=g.2.2 c Qb
   obtain⟨l,el,cl,_⟩:=zHk c01.1 (by omega)
   have se:(clm (n+1) (.tup [.str "boat", .int c])).sum=c:=by show([c]:List Int).sum=c;simp
   refine⟨[l],?_,rfl,fun j hj=>?_⟩
   ·show jI (fN N) _=_
    unfold jI;symm;rw[tK];symm;rw[sG g.1 (by omega) (by show 1<=1000;decide),se];symm;rw[el];symm
   ·have hj':j<1:=hj
    have j0:j=0:=by omega
    subst j0;rw[se];exact⟨cl.ln,cl.la,cl.val,Q5 cl.len (by omega),fun p hp=>Vl (cl.den p hp) (rP (by omega)),fun x e x0 x1 xd=>Vl (cl.yd x e x0 x1 xd) (rP (by omega)),fun y r e y0 y1 yd u=>Vl (cl.inv y r e y0 y1 yd u) (rP (by omega))⟩
  ·obtain⟨v,rfl⟩:=zOl hy.1
   have cl:=g.cl hk k0;have l12:(ks.flatMap (clm n)).length<=12:=g.2.1;have hs:(kcl n ks).sum=(clm (n+1) (.tup [.str v.s,.tup (ws.map D.int),.tup ks])).sum:=zGb ks;have gs:=g.sum;have due:v.due ws (kcl n ks):=zMN (by rw[kQ];exact hy.2)
   have hS:(kcl n ks).sum<2^34:=by rw[hs];omega
   obtain⟨J,eJ,js,lJ,zJ,jd⟩:=zDP (wd:=.tup (ws.map D.int)) (.inr rfl) (zMH (kcl n ks)) due cl;have ew:((List.range (kcl n ks).length).map fun i=>D.tup ((wln v ws (kcl n ks) J i).map dp))=(List.range' 0 ks.length).map fun i=>lnD (wln v ws (kcl n ks) J i):=by rw[kQ,Wv];rfl
   rw[ew] at eJ
   have loopOk:∀(js':List D)(i:Nat)(acc:List (List Pt))(s t:Sl),(∀ k∈js',k∈ks)->i+js'.length=ks.length->ks.drop i=js'->LLg (kcl n ks).sum ((ks.take i).flatMap (clm n)) (fun x=>SFL (SF n) (FF v ws (kcl n ks) x) (ks.take i) 0) (34*n+34) (2+30*n+30) acc->∃ xs s' t',LLg (kcl n ks).sum (ks.flatMap (clm n)) (fun x=>SFL (SF n) (FF v ws (kcl n ks) x) ks 0) (34*n+34) (2+30*n+30) xs/\
     iC (zHq (mO (gName 3) (mO (gName 4) zHp))) (tY (fN N)) (kT js' ((List.range' i js'.length).map fun i=>lnD (wln v ws (kcl n ks) J i))) [.val (.tup [.str v.s,.tup (ws.map D.int),.tup ks]),.val (.lst ((List.range' 0 ks.length).map fun i=>lnD (wln v ws (kcl n ks) J i))),.own (acc.map lnD),s,t]=
      .ok (.nx [.val (.tup [.str v.s,.tup (ws.map D.int),.tup ks]),.val (.lst ((List.range' 0 ks.length).map fun i=>lnD (wln v ws (kcl n ks) J i))),.own (xs.map lnD),s',t']):=by
    intro js'
    induction js' with
    | nil=>
     intro i acc s t _ h1 _ h2;rw[Yw,Nat.add_zero] at h1;rw[h1,V8] at h2;exact⟨acc,s,t,h2,rfl⟩
    | cons k r ih=>
     intro i acc s t hm' hl' hd' ha;have hik:i<ks.length:=by rw[Qm] at hl';omega
     have ik:k∈ks:=hm' k Qb;have gk:=g.kid hk ik
     have ki:ks[i]?=some k:=by
      have:=Wr (xs:=ks) (i:=i) (j:=0)
      rw[hd'] at this;simpa using this.symm
     obtain⟨i1,i2⟩:=zMe (n:=n) ki
     have ci:(kcl n ks).getD i 0=(clm n k).sum:=by
      unfold kcl;rw[Qy,Qs,ki];rfl
     obtain⟨lk,ek,sk⟩:=lC n N k gk (by omega) (by omega)
     rw[<-ci] at sk;obtain⟨bf,b1,b2⟩:=zIV due cl hS js lJ zJ jd i1 (fun c hc=>by have:=(gk.2.2 c hc).2;omega) sk (by omega) (by omega)
     have tk:ks.take (i+1)=ks.take i++[k]:=by rw[List.take_add_one,ki];rfl
     have lt:(ks.take i).length=i:=by rw[Yc];omega
     have nx:LLg (kcl n ks).sum ((ks.take (i+1)).flatMap (clm n)) (fun x=>SFL (SF n) (FF v ws (kcl n ks) x) (ks.take (i+1)) 0) (34*n+34) (2+30*n+30) (acc++(List.range (clm n k).length).map bf):=by
      have q:=zRl ha b2 fun x=>zDL fun k' hk' q=>zJv (hk k' (Yq hk')) q
      rw[tk,Xn,Xf,Ww,Vg]
      have e:(fun x=>SFL (SF n) (FF v ws (kcl n ks) x) (ks.take i++[k]) 0)=fun x=>SFL (SF n) (FF v ws (kcl n ks) x) (ks.take i) 0++SF n k (FF v ws (kcl n ks) x i):=funext fun x=>by
       rw[zKf,lt,Yd];show _++(SF n k (FF v ws (kcl n ks) x i)++[])=_
       rw[Vg]
      rw[e];exact q
     obtain⟨xs,s',t',sy,ey⟩:=ih (i+1) (acc++(List.range (clm n k).length).map bf) (.val k) (.val (lnD (wln v ws (kcl n ks) J i))) (fun x hx=>hm' x (Qc _ hx)) (by rw[Qm] at hl';omega) (by rw[<-List.drop_drop,hd'];rfl) nx
     refine⟨xs,s',t',sy,?_⟩
     have la:=nx.1;have lf:((ks.take (i+1)).flatMap (clm n)).length<=(ks.flatMap (clm n)).length:=zHZ;rw[Ql,Qg,Q3] at la;have lk':lk.length=(clm n k).length:=sk.1;rw[zKF lk [],lk',Qv] at ek;rw[Qm,List.range'_succ,Qu,show kT (k::r) (lnD (wln v ws (kcl n ks) J i)::(List.range' (i+1) r.length).map fun i=>lnD (wln v ws (kcl n ks) J i))=.tup [k,lnD (wln v ws (kcl n ks) J i)]::kT r ((List.range' (i+1) r.length).map fun i=>lnD (wln v ws (kcl n ks) J i)) from rfl]
     rw[dE (ρ1:=[.val (.tup [.str v.s,.tup (ws.map D.int),.tup ks]),.val (.lst ((List.range' 0 ks.length).map fun i=>lnD (wln v ws (kcl n ks) J i))),.own (acc.map lnD),.val k,.val (lnD (wln v ws (kcl n ks) J i))]) (ρ2:=[.val (.tup [.str v.s,.tup (ws.map D.int),.tup ks]),.val (.lst ((List.range' 0 ks.length).map fun i=>lnD (wln v ws (kcl n ks) J i))),.own ((acc++(List.range (clm n k).length).map bf).map lnD),.val k,.val (lnD (wln v ws (kcl n ks) J i))]) (by symm) (by
      symm;rw[ek];symm
      rw[fH (u:=lnD ∘ fun j=>lk.getD j []) (g:=fun j=>lnD (bf j)) (by rw[Q3];omega) (fun j hj=>by
       symm;rw[show(lnD ∘ fun j=>lk.getD j []) j=lnD (lk.getD j []) from rfl,b1 j (Qj.mp hj)]
       symm)]
      symm;rw[Jk (by simp only[Qg,Q3];omega),Vb,Qv]
      rfl),ey]
   obtain⟨xs,s',t',sx,ex⟩:=loopOk ks 0 [] .un .un (fun k h=>h) (by omega) rfl ⟨rfl,fun j hj=>absurd hj (Nat.not_lt_zero j)⟩
   refine⟨xs,?_,?_⟩
   ·show jI (fN N) _=_
    unfold jI;symm;rw[oC hw];symm;rw[zFs];symm;rw[tR];symm;rw[uB hw hk (by omega) (by omega)];symm;rw[eJ];symm;rw[oF hw];symm;rw[pH rfl rfl];symm;rw[Xg] at ex;rw[ex];rfl
   ·have e:(fun x=>SFL (SF n) (FF v ws (kcl n ks) x) ks 0)=SF (n+1) (.tup [.str v.s,.tup (ws.map D.int),.tup ks]):=funext fun x=>(zEJ n v ws ks x).symm
    rw[e,hs] at sx;exact sx
theorem uX{ds:List D}{a:Int}(h:a<0):fY ds (some a) none=ds.drop (ds.length-(-a).toNat):=by
 unfold fY cut;simp only[Jl (show ¬ 0<=a by omega)];rw[show((ds.length:Int)+a).toNat=ds.length-(-a).toNat by omega];exact Yh (by rw[Vu];omega)
theorem zJY{ds:List D}{a:Int}(h:a<0):fY ds none (some a)=ds.take (ds.length-(-a).toNat):=by
 unfold fY cut;simp only[Jl (show ¬ 0<=a by omega),Yf,Nat.sub_zero];rw[show((ds.length:Int)+a).toNat=ds.length-(-a).toNat by omega]
theorem uZ:∀(n:Nat)(d:D),IsC n d->(clm n d).length<=1000->gN n [d]=.ok (.f ((clm n d).map D.int))
 | 0,d,h,_=>h.elim
 | n+1,d,h,hl=>by
  show lO (gN n) [d]=_
  unfold lO;rcases h with⟨c,rfl⟩ | ⟨w,ws,ks,rfl,hw,k0,k1,w1,hy,hk⟩
  ·symm
   rfl
  ·symm
   rw[hw];symm;refine pE (Q:=fun r=>r.bind fin=.ok (.f ((ks.flatMap (clm n)).map D.int))) (fun i ρ=>∃ a,ρ=[.val (.tup [.str w,.tup (ws.map D.int),.tup ks]),.own (((ks.take i).flatMap (clm n)).map D.int),a]) ⟨_,rfl⟩ ?_ ?_
   ·rintro i e ρ he ⟨a,rfl⟩
    have hm:=Qi he;have hl':(ks.flatMap (clm n)).length<=1000:=hl;have h1:=uZ n e (hk e hm) (Q5 (zIo hm) hl');have h2:((ks.take i).flatMap (clm n)).length<=(ks.flatMap (clm n)).length:=zHZ;have h3:=zIo (n:=n) hm;symm;rw[h1];symm;rw[Jk (by omega)];refine⟨_,rfl,.val e,?_⟩
    rw[oB he,Xn,Vb,Xf,Ww,Vg]
   ·rintro ρ' ⟨a,rfl⟩
    rw[V8];symm
theorem zJU:∀ {n m:Nat} {d:D},IsC n d->dpt n d<=(m:Int)->IsC m d
 | 0,_,_,h,_=>h.elim
 | n+1,0,d,h,l=>by have:=(zIZ h).1;omega
 | n+1,m+1,d,h,l=>by
  rcases h with⟨c,rfl⟩ | ⟨w,ws,ks,rfl,hw,k0,k1,w1,hy,hk⟩
  ·exact .inl ⟨c,rfl⟩
  ·have l':1+mx0 (ks.map (dpt n))<=((m+1:Nat):Int):=l
   exact .inr ⟨w,ws,ks,rfl,hw,k0,k1,w1,hy,fun k hm=>zJU (hk k hm) (by
    have:=zKe (l:=ks.map (dpt n)) (Qp.mpr ⟨k,hm,rfl⟩)
    omega)⟩
theorem zKl(c k:Int)(hk:0<=k)(hk2:k<=1000):∃ x:Int,nO [.int c,.int k]=.ok (.v (.int x))/\0<=x/\x<2147483647:=by
 refine⟨_,?_,Vc (c*48271+7919*k+23) (b:=2147483647) (by decide),Ve _ (by decide)⟩
 unfold nO;symm
abbrev zTL:D:=.lst [.str "row", .str "back", .str "even", .str "lack", .str "part", .str "half"]
theorem zOw(k:Int)(h0:0<=k)(h1:k<6):∃ w∈wys,oIx zTL (.int k)=.ok (.str w):=by
 have hk:k=0∨k=1∨k=2∨k=3∨k=4∨k=5:=by omega
 rcases hk with rfl | rfl | rfl | rfl | rfl | rfl
 all_goals exact⟨_,by simp[wys],rfl⟩
theorem zLq{x:Int}{m:Nat}(h:x.natAbs<2^m){a:Int}(ha:a.natAbs<2^30):(x+a).natAbs<2^(m+31):=by
 have e:(2:Nat)^(m+31)=2^m*2^31:=Nat.pow_add ..;have p:1<=(2:Nat)^m:=Nat.one_le_two_pow;have:2^m*2^30+2^m*2^30=(2:Nat)^m*2^31:=by rw[<-Nat.mul_add]
 have q:2^m*1<=(2:Nat)^m*2^30:=Nat.mul_le_mul_left _ (by decide)
 have r:1*2^30<=(2:Nat)^m*2^30:=Nat.mul_le_mul_right _ p;rw[e];omega
theorem zE{ks:List D}{mix plan:Int}{m:Nat}(hm:mix.natAbs<2^m)(m20:m<=1048576)(k1:ks.length<=100):∃(w:Str)(ws:List Int),eT [.lst ks,.int mix,.int plan]=.ok (.v (.tup [.str w,.tup (ws.map D.int),.tup ks]))/\w∈wys/\wOK w ws ks.length/\ws.length<=100:=by
 have q6:0<=mix / 7 % 6/\mix / 7 % 6<6:=⟨Vc _ (by decide),Ve _ (by decide)⟩
 obtain⟨w,hw,ew⟩:=zOw _ q6.1 q6.2
 have key:∀ r,eT [.lst ks,.int mix,.int plan]=r->∃(w:Str)(ws:List Int),r=.ok (.v (.tup [.str w,.tup (ws.map D.int),.tup ks]))/\w∈wys/\wOK w ws ks.length/\ws.length<=100:=by
  intro r hr;rw[<-hr];unfold eT;symm;rw[ew];symm;rw[zSm];symm;by_cases c:w = "even" ∨ w = "lack"
  ·rw[J6 c]
   symm
   have g3:0<=plan / 3 % 3 / 2/\plan / 3 % 3 / 2<2:=by
    have a:=Vc (plan / 3) (b:=3) (by decide)
    have b:=Ve (plan / 3) (b:=3) (by decide)
    omega
   obtain⟨gr,hg,eg⟩:∃ g:Int,(1<=g/\g<=10^6)/\oIx (.lst [.int 5,.int (10^6)]) (.int (plan / 3 % 3 / 2))=.ok (.int g):=by
    generalize plan / 3 % 3 / 2=k at g3;have hk:k=0∨k=1:=by omega
    rcases hk with rfl | rfl
    ·exact⟨5,by omega,rfl⟩
    ·exact⟨10^6,by omega,rfl⟩
   rw[oPow_i (by decide)];symm;rw[eg];symm;rw[zEl (by omega) (by omega)];symm;rw[show rng 0 ((ks.length:Int)).toNat 1=(List.range ks.length).map fun j:Nat=>D.int (j:Int) by unfold rng;rw[Vp];exact Vy fun j _=>by rw[show(0:Int)+(j:Int)*1=(j:Int) by omega]]
   rw[fH (u:=fun j:Nat=>D.int (j:Int)) (g:=fun j:Nat=>D.int (1+(mix+40692*(j:Int)+1)^2 % 998244353 / 7 % gr)) (by rw[Q3];omega) (fun j hj=>by
    have hj':=Qj.mp hj
    have ab:(mix+40692*(j:Int)+1).natAbs<2^(m+31):=by
     rw[Wn];exact zLq hm (by omega)
    symm;rw[oPow_i (zLm ab (by decide) (by omega))];symm;rw[oMod_i (by omega),zAi _ (by omega)]
    symm)]
   symm;refine⟨w,(List.range ks.length).map fun j:Nat=>1+(mix+40692*(j:Int)+1)^2 % 998244353 / 7 % gr,?_,hw,.inl ⟨c,by rw[Qg,Q3],fun x hx=>?_⟩,by rw[Qg,Q3];exact k1⟩
   ·rw[Qv]
    rfl
   ·obtain⟨j,_,rfl⟩:=Qp.mp hx
    have a:=Vc ((mix+40692*(j:Int)+1)^2 % 998244353 / 7) (b:=gr) (by omega)
    have b:=Ve ((mix+40692*(j:Int)+1)^2 % 998244353 / 7) (b:=gr) (by omega)
    omega
  ·rw[Jj c]
   symm;exact⟨w,[],rfl,hw,.inr ⟨c,rfl⟩,by decide⟩
 exact key _ rfl
structure Pq (L:List D) (many:Int):Prop where
 each:∀ p∈L,IsC 7 p
 few:((L.flatMap (clm 7)).length:Int)<=many
 most:many<=12
 rng:∀ c∈L.flatMap (clm 7),0<=c/\c<=10^9
 start:L=[]->many=0
theorem Pq.ok{L:List D}{b:Int}(h:Pq L b):∀ d∈L,dOK 15 d:=fun d hd=>zKq _ _ (h.each d hd)
theorem Pq.len{L:List D}{b:Int}(h:Pq L b):L.length<=12:=by
 have:=zGm h.each
 have:=h.few
 have:=h.most
 omega
theorem Pq.knot{L:List D}{b:Int}(h:Pq L b){k:Nat}{w:Str}{ws:List Int}(hd:0<(L.drop k).length)(hw:w∈wys)(hs:wOK w ws (L.drop k).length)(hl:ws.length<=100){n:Nat}(hn:n<=7)(hk:∀ d∈L.drop k,IsC n d):IsC (n+1) (.tup [.str w,.tup (ws.map D.int),.tup (L.drop k)])/\clm (n+1) (.tup [.str w,.tup (ws.map D.int),.tup (L.drop k)])=(L.drop k).flatMap (clm 7):=by
 have:=h.len
 refine⟨.inr ⟨w,ws,_,rfl,(zNl hw).2,hd,by rw[Vu];omega,hl,⟨hw,hs⟩,hk⟩,?_⟩
 show(L.drop k).flatMap (clm n)=_
 rw[Uk,Uk];congr 1
 exact Vy fun d hd=>(oH (hk d hd) hn).symm
def PqS(cs:List Int)(plan most:Int)(i:Nat)(ρ:Rho):Prop:=∃(L:List D)(many:Int)(a5 a6 a7:Sl),ρ=[.val (.lst (cs.map D.int)),.val (.int plan),.val (.int most),.own L,.val (.int many),a5,a6,a7]/\Pq L many
theorem zRe{cs:List Int}{plan most:Int}{L:List D}{many:Int}{a6 a7:Sl}(pq:Pq L many)(hm:most<=12){i:Nat}(hi:i<cs.length)(hc:cs.length<=100):∃ ρ2,pA [.val (.lst (cs.map D.int)),.val (.int plan),.val (.int most),.own L,.val (.int many),.val (.int (i:Int)),a6,a7]=.ok (.nx ρ2)/\PqS cs plan most (i+1) ρ2:=by
 obtain⟨mix,em,x0,x1⟩:=zKl (cs.getD i 0) (i:Int) (by omega) (by omega)
 have len:=pq.len;symm;rw[zGh hi];symm;rw[em];symm;have q0:=Vc (mix / 5) (b:=4) (by decide)
 have q1:=Ve (mix / 5) (b:=4) (by decide)
 generalize mix / 5 % 4=q at q0 q1
 have bt:many<12->∃ ρ2,(aZ (cT 4 (eOp tZ (aG 4) (eC (.int 1)))) kR) [.val (.lst (cs.map D.int)),.val (.int plan),.val (.int most),.own L,.val (.int many),.val (.int (i:Int)),.val (.int mix),.val (.int (1+q))]=.ok (.nx ρ2)/\PqS cs plan most (i+1) ρ2:=fun c=>by
  symm;have p1:(0:Int)<=mix / 13 % 13/\mix / 13 % 13<13:=⟨Vc _ (by decide),Ve _ (by decide)⟩
  have p2:(0:Int)<=mix / 89 % 4/\mix / 89 % 4<4:=⟨Vc _ (by decide),Ve _ (by decide)⟩
  have p3:(0:Int)<=mix / 17 % 10^9/\mix / 17 % 10^9<10^9:=⟨Vc _ (by decide),Ve _ (by decide)⟩
  have p4:(0:Int)<=plan % 3/\plan % 3<3:=⟨Vc _ (by decide),Ve _ (by decide)⟩
  obtain⟨u,hu,e⟩:∃ u:Int,(0<=u/\u<=10^9)/\oIx (.lst [.int (mix / 13 % 13),.int (mix / 89 % 4),.int (mix / 17 % 10^9)]) (.int (plan % 3))=.ok (.int u):=by
   generalize plan % 3=k at p4;have hk:k=0∨k=1∨k=2:=by omega
   rcases hk with rfl | rfl | rfl
   ·exact⟨_,by omega,rfl⟩
   ·exact⟨_,by omega,rfl⟩
   ·exact⟨_,by omega,rfl⟩
  rw[e];symm;rw[Jk (by omega)];refine⟨_,rfl,L++[.tup [.str "boat", .int u]],many+1,_,_,_,rfl,⟨fun p hp=>?_,?_,by omega,fun c hc=>?_,fun z=>by simp at z⟩⟩
  ·rcases Va.mp hp with hp | hp
   ·exact pq.each p hp
   ·rw[Qt.mp hp];exact .inl ⟨u,rfl⟩
  ·have:=pq.few
   rw[Xn,Ql];show((_+1:Nat):Int)<=_
   omega
  ·rw[Xn] at hc
   rcases Va.mp hc with hc | hc
   ·exact pq.rng c hc
   ·have hc':c∈[u]:=hc
    rw[Qt.mp hc'];exact hu
 have kt:0<L.length->∃ ρ2,(sIf (tFrzB (cU (eOp oLt (eB zCt (aD (eF (jW (qT (eF (fSl (aG 3) (oS (eUn zAB (aG 7))) oN))) jO (aN (eD 10) (aD (aG 8) aNil)))) aNil)) (eC (.int 7))))) (zAM 3 (zPk (zOx (eF (fSl (aG 3) oN (oS (eUn zAB (aG 7))))) (eF (kD (aD (aN eT (aD (eF (fSl (aG 3) (oS (eUn zAB (aG 7))) oN)) (aD (eOp oX (aG 6) (eC (.int 31))) (aD (aG 1) aNil)))) aNil)))))) sNext) [.val (.lst (cs.map D.int)),.val (.int plan),.val (.int most),.own L,.val (.int many),.val (.int (i:Int)),.val (.int mix),.val (.int (1+q))]=.ok (.nx ρ2)/\PqS cs plan most (i+1) ρ2:=fun l0=>by
  have sub:∀ k:Nat,∀ d∈L.drop k,d∈L:=fun k d hd=>Qag hd
  have lp:0<(L.drop (L.length-(- -(1+q)).toNat)).length:=by rw[Vu];omega
  symm;rw[uX (by omega)];generalize hk:L.length-(- -(1+q)).toNat=k at lp
  have e:=fH (u:=fun d:D=>d) (g:=fun d=>.int (dpt 7 d)) (l:=L.drop k) (f:=aN (eD 10) (aD (aG 8) aNil)) (ρ:=[.val (.lst (cs.map D.int)),.val (.int plan),.val (.int most),.val (.lst L),.val (.int many),.val (.int (i:Int)),.val (.int mix),.val (.int (1+q))]) (by rw[Vu];omega) (fun d hd=>by
   have c7:=pq.each d (sub k d hd);symm;rw[zX 10 d (rC c7 (by decide)),zGp c7 (by decide)]
   symm)
  rw[List.map_id'] at e;rw[e];symm;rw[zCu lp];symm;by_cases c:mx0 ((L.drop k).map (dpt 7))<7
  ·rw[J6 c]
   obtain⟨w,ws,ew,hw,hs,hl⟩:=zE (ks:=L.drop k) (mix:=mix / 31) (plan:=plan) (m:=31) (by omega) (by decide) (by rw[Vu];omega)
   have hn:∀ d∈L.drop k,IsC 6 d:=fun d hd=>zJU (pq.each d (sub k d hd)) (by
    have:=zKe (l:=(L.drop k).map (dpt 7)) (Qp.mpr ⟨d,hd,rfl⟩)
    omega)
   obtain⟨k1,k2⟩:=pq.knot lp hw hs hl (by decide) hn
   have nl:noLs (L.take k++[.tup [.str w,.tup (ws.map D.int),.tup (L.drop k)]])=true:=zJj fun d hd=>by
    rcases Va.mp hd with h | h
    ·exact zDU _ _ (pq.ok d (Yq h))
    ·rw[Qt.mp h];exact zDU _ _ (zKq _ _ k1)
   symm;rw[zJY (by omega),uX (by omega),hk];rw[ew];symm;rw[Jk (by rw[Yc];omega)];symm;rw[Jk nl]
   have fm:(L.take k++[D.tup [.str w,.tup (ws.map D.int),.tup (L.drop k)]]).flatMap (clm 7)=L.flatMap (clm 7):=by
    rw[Xn,Xf,Ww,Vg]
    conv=>rhs;rw[<-Ws k L,Xn]
    rw[show clm 7 (D.tup [.str w,.tup (ws.map D.int),.tup (L.drop k)])=(L.drop k).flatMap (clm 7) from k2]
   refine⟨_,rfl,_,many,_,_,_,rfl,⟨fun p hp=>?_,by rw[fm];exact pq.few,pq.most,by rw[fm];exact pq.rng,fun z=>by simp at z⟩⟩
   rcases Va.mp hp with h | h
   ·exact pq.each p (Yq h)
   ·rw[Qt.mp h];exact k1
  ·rw[Jj c]
   symm;exact⟨_,rfl,L,many,_,_,_,rfl,pq⟩
 generalize hB:(aZ (cT 4 (eOp tZ (aG 4) (eC (.int 1)))) kR:Sv)=BB at bt;generalize hK:(sIf (tFrzB (cU (eOp oLt (eB zCt (aD (eF (jW (qT (eF (fSl (aG 3) (oS (eUn zAB (aG 7))) oN))) jO (aN (eD 10) (aD (aG 8) aNil)))) aNil)) (eC (.int 7))))) (zAM 3 (zPk (zOx (eF (fSl (aG 3) oN (oS (eUn zAB (aG 7))))) (eF (kD (aD (aN eT (aD (eF (fSl (aG 3) (oS (eUn zAB (aG 7))) oN)) (aD (eOp oX (aG 6) (eC (.int 31))) (aD (aG 1) aNil)))) aNil)))))) sNext:Sv)=KK at kt
 have rest:∀ b:Bool,(b=true->many<12)->∃ ρ2,(((Res.ok b:Res Bool).bind (zRD (cU (eOp oEq (aG 3) (eF (kD aNil)))) [.val (.lst (cs.map D.int)),.val (.int plan),.val (.int most),.val (.lst L),.val (.int many),.val (.int (i:Int)),.val (.int mix),.val (.int (1+q))])).bind (ifF BB KK [.val (.lst (cs.map D.int)),.val (.int plan),.val (.int most),.own L,.val (.int many),.val (.int (i:Int)),.val (.int mix),.val (.int (1+q))]))=.ok (.nx ρ2)/\PqS cs plan most (i+1) ρ2:=by
  intro b hb
  cases b with
  | true=>exact bt (hb rfl)
  | false=>
   symm;rw[(zMM pq.ok).1];symm;by_cases c:L.length=0
   ·rw[J6 c]
    exact bt (by have:=pq.start (Wa c);omega)
   ·rw[Jj c]
    exact kt (by omega)
 by_cases c1:mix / 11 % 3<2
 ·rw[J6 c1]
  symm;exact rest _ fun z=>by have:=J8 z;omega
 ·rw[Jj c1]
  exact rest false fun z=>by cases z
theorem zDu{cs:List Int}{plan most:Int}{m:Nat}(hc:cs.length<=100)(hm:plan.natAbs<2^m)(m20:m<=1048576)(h1:0<=most)(h2:most<=12):∃ d:D,iG [.lst (cs.map D.int),.int plan,.int most]=.ok (.v d)/\Gc 8 d:=by
 unfold iG;symm;rw[zEl (by omega) (by omega)];symm;refine pE (Q:=fun r=>∃ d:D,r.bind fin=.ok (.v d)/\Gc 8 d) (PqS cs plan most) ⟨[],0,_,_,_,rfl,⟨fun p h=>(by cases h),by decide,by decide,fun p h=>(by cases h),fun _=>rfl⟩⟩ ?_ ?_
 ·rintro i e ρ he ⟨L,many,a5,a6,a7,rfl,pq⟩
  obtain⟨hi,rfl⟩:=zMs he;rw[show(0:Int)+(i:Int)*1=(i:Int) by omega];exact zRe pq h2 (by omega) hc
 ·rintro ρ ⟨L,many,a5,a6,a7,rfl,pq⟩
  have len:=pq.len;symm;rw[(zMM pq.ok).1];symm;by_cases c0:L.length=0
  ·rw[J6 c0]
   symm;have p7:(0:Int)<=plan % 7/\plan % 7<7:=⟨Vc _ (by decide),Ve _ (by decide)⟩
   exact⟨_,rfl,.inl ⟨_,rfl⟩,by show 1<=12;decide,fun c hc=>by have hc':c∈[plan % 7]:=hc;rw[Qt.mp hc'];omega⟩
  ·rw[Jj c0]
   symm;by_cases c1:L.length=1
   ·rw[J6 (by omega)]
    obtain⟨x,rfl⟩:∃ x,L=[x]:=by
     match L,c1 with
     | [x],_=>exact⟨x,rfl⟩
    have cx:=pq.each x Qb;have e7:clm 8 x=clm 7 x:=oH cx (by decide)
    have fm:([x]:List D).flatMap (clm 7)=clm 7 x:=by simp
    symm;refine⟨x,rfl,rC cx (by decide),?_,?_⟩
    ·rw[e7,<-fm];have:=pq.few;have:=pq.most;omega
    ·rw[e7,<-fm];exact pq.rng
   ·rw[Jj (by omega)]
    symm;obtain⟨w,ws,ew,hw,hs,hl⟩:=zE (ks:=L) (mix:=plan / 9) (plan:=plan) (m:=m) (Xh (by omega) hm) m20 (by omega)
    rw[ew];symm;obtain⟨k1,k2⟩:=pq.knot (k:=0) (w:=w) (ws:=ws) (by rw[Yf];omega) hw (by rw[Yf];exact hs) hl (by decide) (fun d hd=>pq.each d (by rw[Yf] at hd;exact hd))
    rw[Yf] at k1 k2;refine⟨_,rfl,k1,?_,?_⟩
    ·rw[k2];have:=pq.few;have:=pq.most;omega
    ·rw[k2];exact pq.rng
abbrev Big(ns:List Int):Prop:=∃ m,m<=1048576/\∀ n∈ns,n.natAbs<2^m
theorem Big.at{ns:List Int}(h:Big ns)(k:Nat):∃ m,m<=1048576/\(ns.getD k 0).natAbs<2^m:=by
 obtain⟨m,m1,m2⟩:=h;by_cases c:k<ns.length
 ·exact⟨m,m1,m2 _ (Qi (bL c))⟩
 ·refine⟨0,by decide,?_⟩
  rw[Qy,Qz (by omega)];decide
theorem zNR{b:Bool}:zRa [.bl b]=.ok (.int (if b then 1 else 0)):=by cases b<;>rfl
theorem zAh{b:Bool}{x y:Int}:oIx (.lst [.int x,.int y]) (.int (if b then 1 else 0))=.ok (.int (if b then y else x)):=by cases b<;>rfl
theorem zM(ns:List Int)(a b:Int)(ha:0<=a)(hb:0<=b):∃ cs:List Int,fY (ns.map D.int) (some a) (some b)=cs.map D.int/\cs.length<=ns.length:=by
 refine⟨(ns.drop a.toNat).take (b.toNat-a.toNat),by rw[zJE ha hb,List.map_take,List.map_drop],?_⟩
 rw[Yc,Vu];omega
theorem zMn{ls:List (List Pt)}{j:Nat}(h:j<ls.length):oIx (.lst (ls.map lnD)) (.int (j:Int))=.ok (lnD (ls.getD j [])):=oY (Xa j) (by rw[Vp,Qy,Qo h];rfl)
theorem zIH{ps:List Pt}{e p0:Pt}{y:Rat}{i0:Nat}(h:Ok ps)(he:ps.getLast?=some e)(hp:ps[i0]?=some p0)(hy:p0.2=y)(far:∀ (j:Nat) (p:Pt),i0<j->ps[j]?=some p->y<p.2){x:Rat}(l:p0.1<x)(x1:x<=e.1):y<bF ps x:=by
 have x0:0<=x:=by have:=dJ h he (Qi hp);grind
 rcases tW h.2 he (fun p hp=>by rw[h.1] at hp;cases hp;exact x0) x1 with⟨i,p,hi,rfl⟩ | ⟨i,p,q,hi,hq,l1,l2⟩
 ·rw[bR h.2 hi]
  have:i0<i:=by
   rcases Ua i0 i with z | z | z
   ·exact z
   ·subst z;rw[hp] at hi;cases hi;grind
   ·have:=(iW h.2 z hi hp).1;grind
  exact far i p this hi
 ·rw[cB h.2 hi hq (Qf l1) (Qf l2)]
  have a:=iW h.2 (Vm i) hi hq
  have lt:i0<i+1:=by
   rcases U7 i0 (i+1) with z | z
   ·exact z
   ·rcases Xj z with z | z
    ·have:=(iW h.2 z hq hp).1;grind
    ·subst z;rw[hp] at hq;cases hq;grind
  have yq:=far _ q lt hq;rcases Xj (Nat.le_of_lt_succ lt) with z | z
  ·have yp:=far i p z hi
   have:=(pN a (Qf l1) (Qf l2)).1
   grind
  ·subst z
   rw[hp] at hi;cases hi;have:=zKa a.1 (show p0.2<q.2 by grind) l
   rw[zKJ] at this;grind
theorem zLl{ps:List Pt}{e:Pt}{y a b:Rat}(h:zPn ps)(he:ps.getLast?=some e)(E:zDG ps y a b):zDF ps y a/\a<=b/\b<=e.1/\(b=a∨∃ p∈ps,b=p.1)/\bF ps b=y/\(∀ x,x<=e.1->b<x->y<bF ps x):=by
 obtain⟨k,q,hq,hj,far,c⟩:=E
 have up:zDF ps y a:=⟨k,q,hq,hj,by
  rcases c with⟨c1,c2,_⟩ | ⟨k0,c1,c2,_⟩
  ·exact .inl ⟨c1,c2⟩
  ·exact .inr ⟨k0,c1,c2⟩⟩
 obtain⟨v1,v2,v3⟩:=up.val h.1 he;rcases c with⟨c1,c2,⟨u,hu,c3,c4⟩ | ⟨c3,c4⟩⟩ | ⟨k0,c1,⟨p,hp,c2,c3⟩,c4⟩
 ·have um:=Qi hu
  have:=iW h.1.2 (Vm k) hq hu
  refine⟨up,by rw[c2,c4];exact Qf this.1,by rw[c4];exact(dJ h.1 he um).2.1,.inr ⟨u,um,c4⟩,by rw[c4,bR h.1.2 hu,c3],fun x x1 l=>?_⟩
  exact zIH h.1 he hu c3 (fun j p l hp=>far j p (by omega) hp) (by rw[<-c4];exact l) x1
 ·refine⟨up,by rw[c2,c4];exact Qe,by rw[c4,<-c2];exact v3,.inl (by rw[c2,c4]),by rw[c4,<-c2];exact v1,fun x x1 l=>?_⟩
  refine zIH h.1 he hq c1 (fun j p l hp=>?_) (by rw[<-c4];exact l) x1
  rcases Xj (Nat.succ_le_of_lt l) with z | z
  ·exact far j p (by omega) hp
  ·subst z;exact c3 p hp
 ·subst c4
  refine⟨up,Qe,v3,.inl rfl,v1,fun x x1 l=>?_⟩
  have kk:k-1+1=k:=by omega
  have as:=iW h.1.2 (show k-1<k by omega) hp hq
  have bq:=dJ h.1 he (Qi hq);rcases (Vz:q.1<=x∨x<=q.1) with z | z
  ·have m:=eI h.1 he bq.1 z x1
   rw[bR h.1.2 hq] at m;grind
  ·have pb:p.1<=b:=by
    rcases (Vz:p.1<=b∨b<=p.1) with w | w
    ·exact w
    ·have bp:=dJ h.1 he (Qi hp)
     have m:=eI h.1 he v2 w bp.2.1;rw[v1,bR h.1.2 hp] at m;grind
   have e1:=cB h.1.2 hp (by rw[kk];exact hq) (show p.1<=x by grind) z
   have e2:=cB h.1.2 hp (by rw[kk];exact hq) pb (by grind)
   have:=zKa as.1 (show p.2<q.2 by grind) l
   rw[<-e1,<-e2,v1] at this;exact this
structure Ca (S:Int) (g:Rat->Rat) (y a b:Rat) (e:Nat):Prop where
 lo:0<=a
 le:a<=b
 hi:b<=(S:Rat)
 iff:∀ x,0<=x->x<=(S:Rat)->(g x=y ↔ a<=x/\x<=b)
 dn:(a.den:Int)<=2^e/\(b.den:Int)<=2^e
 lt:∀ x,0<=x->x<a->g x<y
 gt:∀ x,x<=(S:Rat)->b<x->y<g x
theorem zIE{d:D}(g:Gc 8 d){j:Nat}(hj:j<(clm 8 d).length){y:Rat}{e:Nat}(y0:0<=y)(y1:y<=(((clm 8 d).getD j 0:Int):Rat))(yd:(y.den:Int)<=2^e)(he:e<=3000):∃ a b,bY [d,.int (j:Int),dq y]=.ok (.v (.tup [dq a,dq b]))/\Ca (clm 8 d).sum (fun x=>(SF 8 d x).getD j 0) y a b (e+272):=by
 obtain⟨Ls,eL,ll,lg⟩:=lC 8 10 d g (by decide) (by decide)
 have gs:=g.sum;have hS:(clm 8 d).sum<2^34:=by omega
 have h:=lg j hj;have ci:=g.2.2 _ (Qi (bL hj));have zl:=h.sz hS (by omega)
 have zy:Sz (35+e) y:=nX y0 y1 (by omega) yd
 obtain⟨a,b,es,E⟩:=zIT (u:=307) (v:=579) (m:=35+e) h.ln (by have:=h.len;omega) zl zy (by omega) h.la y0 y1
 obtain⟨up,ab,bS,bd,vb,gt⟩:=zLl h.ln h.la E;obtain⟨v1,v2,v3⟩:=up.val h.ln.1 h.la;have da:=h.inv y a e y0 y1 yd up;have ab':0<=b:=Qw v2 ab
 have ltv:∀ x,0<=x->x<a->(SF 8 d x).getD j 0<y:=fun x x0 l=>by
  have:=up.least h.ln.1 h.la x0 l
  rw[h.val x x0 (by grind)] at this;exact this
 have gtv:∀ x,x<=((clm 8 d).sum:Rat)->b<x->y<(SF 8 d x).getD j 0:=fun x x1 l=>by
  have:=gt x x1 l
  rw[h.val x (by grind) x1] at this;exact this
 refine⟨a,b,?_,v2,ab,bS,fun x x0 x1=>⟨fun z=>?_,fun z=>?_⟩,⟨da,?_⟩,ltv,gtv⟩
 ·unfold bY
  symm;rw[eL];symm;rw[Jj (by omega)];symm;rw[Jj (by omega)];symm;rw[zMn (show j<Ls.length by omega)];symm;rw[show iE [lnD (Ls.getD j []),dq y]=_ from es];symm
 ·refine⟨Vf.mp fun l=>?_,Vf.mp fun l=>?_⟩
  ·have:=ltv x x0 l;grind
  ·have:=gtv x x1 l;grind
 ·have m1:=eI h.ln.1 h.la v2 z.1 x1
  have m2:=eI h.ln.1 h.la x0 z.2 bS;rw[v1] at m1;rw[vb] at m2;rw[h.val x x0 x1] at m1 m2;grind
 ·rcases bd with z | ⟨p,hp,z⟩
  ·rw[z];exact da
  ·rw[z];exact Vl (h.den p hp) (rP (by omega))
theorem zNO{d:D}(g:Gc 8 d){j:Nat}(hj:j<(clm 8 d).length):∃ l,CL (clm 8 d).sum ((clm 8 d).getD j 0) (fun x=>(SF 8 d x).getD j 0) 272 242 l:=by
 obtain⟨Ls,eL,ll,lg⟩:=lC 8 10 d g (by decide) (by decide)
 exact⟨_,lg j hj⟩
theorem zPu{d:D}(g:Gc 8 d){j:Nat}(hj:j<(clm 8 d).length){x:Rat}{e:Nat}(x0:0<=x)(x1:x<=((clm 8 d).sum:Rat))(xd:(x.den:Int)<=2^e):0<=(SF 8 d x).getD j 0/\(SF 8 d x).getD j 0<=(((clm 8 d).getD j 0:Int):Rat)/\(((SF 8 d x).getD j 0).den:Int)<=2^(e+272):=by
 obtain⟨l,h⟩:=zNO g hj;have v:=tX h.ln.1 h.la x0 x1;rw[h.val x x0 x1] at v;exact⟨v.1,v.2,h.yd x e x0 x1 xd⟩
theorem zSx{d:D}(g:Gc 8 d){x:Rat}{e:Nat}(x0:0<=x)(x1:x<=((clm 8 d).sum:Rat))(xd:(x.den:Int)<=2^e)(he:e<=1700):kF [d,dq x]=.ok (.f ((SF 8 d x).map dq)):=by
 obtain⟨xs,es,sh⟩:=zLi (m:=e+1) g (by decide) x0 x1 (Int.lt_of_le_of_lt xd (by rw[Int.pow_succ];have:=gU e;omega)) (by omega)
 rw[es,zQJ g sh x0 x1]
theorem zOG{d:D}(g:Gc 8 d){j:Nat}(hj:j<(clm 8 d).length)(x:Rat):oIx (.lst ((SF 8 d x).map dq)) (.int (j:Int))=.ok (dq ((SF 8 d x).getD j 0)):=
 oY (Xa j) (by rw[Vp,Qy,Qo (by rw[zJv g.1];exact hj)];rfl)
theorem zHQ{S t b:Int}(S0:0<=S)(t0:0<=t)(tb:t<=b)(b0:0<b):0<=Rat.divInt (S*t) b/\Rat.divInt (S*t) b<=(S:Rat)/\Dn b (Rat.divInt (S*t) b):=by
 have bp:(0:Rat)<(b:Rat):=by exact_mod_cast b0
 have e:Rat.divInt (S*t) b*(b:Rat)=((S*t:Int):Rat):=by rw[Xs,V0 (by grind)]
 refine⟨zHx (Ue S0 t0) b0,tV bp ?_,S*t,e⟩
 rw[e,<-Vi];exact Xm.mpr (Qah tb S0)
theorem zHS{x l:Rat}{m n:Nat}(hx:Sz m x)(hl:Sz n l)(h:m+n<=99990)(hb:x<0∨l<x):aU [dq x,dq l]=.err "Outside" := by
 unfold aU;symm;rw[zDt hx hl h,show(decide (x<0) || decide (l<x))=true by rcases hb with h | h<;>simp[h]];symm
theorem zJm{d y:D}(g:Gc 8 d){b:Int}(hb:b<0∨((clm 8 d).length:Int)<=b):bY [d,.int b,y]=.err "NoBoat" := by
 obtain⟨Ls,eL,ll,lg⟩:=lC 8 10 d g (by decide) (by decide)
 unfold bY;symm;rw[eL];symm;by_cases c:b<0
 ·rw[J6 c]
  symm
 ·rw[Jj c]
  symm;rw[J6 (by omega)];symm
theorem zLg{d:D}(g:Gc 8 d){j:Nat}(hj:j<(clm 8 d).length){y:Rat}{m:Nat}(zy:Sz m y)(hm:m<=9000)(hb:y<0∨(((clm 8 d).getD j 0:Int):Rat)<y):bY [d,.int (j:Int),dq y]=.err "Outside" := by
 obtain⟨Ls,eL,ll,lg⟩:=lC 8 10 d g (by decide) (by decide)
 have gs:=g.sum;have hS:(clm 8 d).sum<2^34:=by omega
 have h:=lg j hj;have ci:=g.2.2 _ (Qi (bL hj));have zl:=h.sz hS (by omega)
 have es:iE [lnD (Ls.getD j []),dq y]=.err "Outside" := by
  unfold iE lnD;symm;rw[zBf h.la];symm;rw[zHS zy (zl _ (Y9 h.la)).2 (by omega) hb];symm
 unfold bY;symm;rw[eL];symm;rw[Jj (by omega)];symm;rw[Jj (by omega)];symm;rw[zMn (show j<Ls.length by omega)];symm;rw[es];symm
theorem zKR{claim:Int}(cell:Int)(c0:0<=claim)(c1:claim<=10^9):∃ y:Rat,iL [.int cell,.int claim]=.ok (.v (dq y))/\Sz 200 y/\(y<0∨(claim:Rat)<y∨(0<=y/\y<=(claim:Rat)/\(y.den:Int)<=2^5)):=by
 have C0:(0:Rat)<=(claim:Rat):=by exact_mod_cast c0
 have zc:Sz 40 (claim:Rat):=((Dn.int 1 claim).sz (a:=34) (b:=1) (by decide) (by decide) C0 Qe (by omega)).mono (by decide)
 unfold iL;symm;generalize (cell*69697+13) % 2147483647=mix;have b1:0<=mix / 7 % 30:=Vc _ (by decide)
 have b2:mix / 7 % 30<30:=Ve _ (by decide)
 generalize mix / 7 % 30=bo at b1 b2;have e1:0<=mix / 11 % 2/\mix / 11 % 2<2:=⟨Vc _ (by decide),Ve _ (by decide)⟩
 obtain⟨z,ez,zz,z0⟩:∃ z:Rat,oIx (.lst [.tup [.int 1,.int 1],.tup [.int 1,.int (10^20)]]) (.int (mix / 11 % 2))=.ok (dq z)/\Sz 80 z/\0<z:=by
  generalize mix / 11 % 2=k at e1;have hk:k=0∨k=1:=by omega
  rcases hk with rfl | rfl
  ·exact⟨1,rfl,(Sz.of (n:=80) (t:=1) (b:=1) (by decide) (by decide) (by decide)),by decide⟩
  ·exact⟨Rat.divInt 1 (10^20),rfl,Sz.of (n:=80) (by decide) (by decide) (by decide),sD (by decide) (by decide)⟩
 rw[ez];symm;by_cases k1:mix / 13 % 8=1
 ·rw[J6 k1]
  symm;have s0:Sz 2 (0:Rat):=Sz.of (n:=2) (t:=0) (b:=1) (by decide) (by decide) (by decide)
  rw[show D.tup [D.int 0,D.int 1]=dq 0 from rfl,wY s0 zz (by decide)];symm;exact⟨_,rfl,(s0.sub zz).mono (by decide),.inl (by grind)⟩
 ·rw[Jj k1]
  symm;by_cases k2:mix / 13 % 8=2
  ·rw[J6 k2]
   symm;rw[show D.tup [D.int claim,D.int 1]=dq (claim:Rat) from rfl,sA zc zz (by decide)];symm;exact⟨_,rfl,(zc.add zz).mono (by decide),.inr (.inl (by grind))⟩
  ·rw[Jj k2]
   symm;have t0:=Vc (mix / 311) (show 1+bo+1≠0 by omega)
   have t1:=Ve (mix / 311) (show 0<1+bo+1 by omega)
   rw[oMod_i (by omega),fmod_pos _ (by omega)];symm;generalize mix / 311 % (1+bo+1)=tp at t0 t1;rw[oMul_i (bP (m:=34) (n:=10) (by omega) (by omega) (by decide))];symm;rw[lE (n:=10) (by omega) (by omega) (by decide)];symm;obtain⟨p0,p1,pd⟩:=zHQ c0 t0 (show tp<=1+bo by omega) (by omega)
   have dd:((Rat.divInt (claim*tp) (1+bo)).den:Int)<=2^5:=Vl (pd.le (by omega)) (by omega)
   exact⟨_,rfl,(nX p0 p1 (by omega) dd).mono (by decide),.inr (.inr ⟨p0,p1,dd⟩)⟩
theorem zGx{d:D}{j y v:D}(e:bY [d,j,y]=.ok (.v v)):dO [d,j,y]=.ok (.v (.tup [.lst [],v])):=by
 unfold dO;symm;rw[e];symm
theorem zGO{d:D}{j y:D}(e:bY [d,j,y]=.err "NoBoat"):dO [d,j,y]=.ok (.v (.tup [.lst [.bl true,.bl true,.bl false,.bl false],.non])):=by
 unfold dO;symm;rw[e];symm;rw[show tbT.contains (Str.ofString "NoBoat")=true from rfl];symm;rw[show zKz zFw [Str.ofString "ValueError"] (some (Sl.exc (Str.ofString "NoBoat")))=.ok (.bl true) from rfl];symm;rw[show zKz zFw [Str.ofString "NoBoat"] (some (Sl.exc (Str.ofString "NoBoat")))=.ok (.bl true) from rfl];symm;rw[show zKz zFw [Str.ofString "Outside"] (some (Sl.exc (Str.ofString "NoBoat")))=.ok (.bl false) from rfl];symm;rw[show zKz zFw ["BadCatch","BadClaim","BadLine","BadWay","BadWeights","NoFraction","NoText","TooMany","Unlike"] (some (Sl.exc (Str.ofString "NoBoat")))=.ok (.bl false) from rfl];symm
theorem zEc{d:D}{j y:D}(e:bY [d,j,y]=.err "Outside"):dO [d,j,y]=.ok (.v (.tup [.lst [.bl true,.bl false,.bl true,.bl false],.non])):=by
 unfold dO;symm;rw[e];symm;rw[show tbT.contains (Str.ofString "Outside")=true from rfl];symm;rw[show zKz zFw [Str.ofString "ValueError"] (some (Sl.exc (Str.ofString "Outside")))=.ok (.bl true) from rfl];symm;rw[show zKz zFw [Str.ofString "NoBoat"] (some (Sl.exc (Str.ofString "Outside")))=.ok (.bl false) from rfl];symm;rw[show zKz zFw [Str.ofString "Outside"] (some (Sl.exc (Str.ofString "Outside")))=.ok (.bl true) from rfl];symm;rw[show zKz zFw ["BadCatch","BadClaim","BadLine","BadWay","BadWeights","NoFraction","NoText","TooMany","Unlike"] (some (Sl.exc (Str.ofString "Outside")))=.ok (.bl false) from rfl];symm
theorem zNC{d:D}(g:Gc 8 d){j:Nat}(hj:j<(clm 8 d).length){y a b:Rat}(y0:0<=y)(y1:y<=(((clm 8 d).getD j 0:Int):Rat))(yd:(y.den:Int)<=2^5)(ca:Ca (clm 8 d).sum (fun x=>(SF 8 d x).getD j 0) y a b (5+272)):jR [d,.lst ((clm 8 d).map D.int),.int (j:Int),dq y,dp (a,b)]=.ok (.v (.bl true)):=by
 have gs:=g.sum;have hS:(clm 8 d).sum<2^34:=by omega
 have S0:(0:Rat)<=((clm 8 d).sum:Rat):=by exact_mod_cast gs.1
 have lo:=ca.lo;have le:=ca.le;have hi:=ca.hi;have ci:=g.2.2 _ (Qi (bL hj));have zS:Sz 40 ((clm 8 d).sum:Rat):=((Dn.int 1 _).sz (a:=34) (b:=1) (by decide) (by decide) S0 Qe hS).mono (by decide)
 have zy:Sz 100 y:=(nX y0 y1 (by omega) yd).mono (by decide)
 have za:Sz 320 a:=(nX lo (Qw le hi) hS ca.dn.1).mono (by decide)
 have zb:Sz 320 b:=(nX (Qw lo le) hi hS ca.dn.2).mono (by decide)
 have zn:Sz 50 (Rat.divInt 1 (10^12)):=Sz.of (n:=50) (by decide) (by decide) (by decide)
 have n0:0<Rat.divInt 1 (10^12):=sD (by decide) (by decide)
 have den2:∀ {u v:Rat} {m n:Nat},Sz m u->Sz n v->((u+v).den:Int)<=2^(m+n+1)/\((u-v).den:Int)<=2^(m+n+1):=fun hu hv=>by
  have p:=(hu.add hv).2;have q:=(hu.sub hv).2;constructor
  ·exact_mod_cast Vs p
  ·exact_mod_cast Vs q
 have h0:0<=hf*(a+b):=by rw[iP];grind
 have ha:a<=hf*(a+b):=by rw[iP];grind
 have hb:hf*(a+b)<=b:=by rw[iP];grind
 have hd:((hf*(a+b)).den:Int)<=2^700:=by
  have p:=(zEK.mul (za.add zb)).2;have:(hf*(a+b)).den<=2^700:=Vs (Qn p (Vo (by decide) (by decide)))
  exact_mod_cast this
 have mid:∀ x,a<=x->x<=b->(x.den:Int)<=2^700->∀ s5 s6 s7 s8 s9:Sl,qD [.val d,.val (.lst ((clm 8 d).map D.int)),.val (.int (j:Int)),.val (dq y),.val (dp (a,b)),s5,.val (dq x),s7,s8,s9]=.ok (.nx [.val d,.val (.lst ((clm 8 d).map D.int)),.val (.int (j:Int)),.val (dq y),.val (dp (a,b)),s5,.val (dq x),s7,s8,s9]):=fun x xa xb xd s5 s6 s7 s8 s9=>by
  have x0:0<=x:=Qw lo xa;have x1:x<=((clm 8 d).sum:Rat):=Qw xb hi;have e:(SF 8 d x).getD j 0=y:=(ca.iff x x0 x1).mpr ⟨xa,xb⟩;symm;rw[zSx g x0 x1 xd (by decide)];symm;rw[zOG g hj,e];symm
 have lt0:decide ((0:Rat)<0)=false:=by decide
 unfold jR;symm;rw[lB za (by decide)];symm;rw[lB zb (by decide)];symm;rw[gW zb za (by decide)];symm;rw[Jj (Vf.mpr le)];symm;rw[sA za zb (by decide)];symm;rw[show D.tup [D.int 1,D.int 2]=dq hf from rfl,zEg zEK (za.add zb) (by decide)];symm;have an:0<=a.num:=Y2.mpr lo;rw[Jj (by omega)];symm;rw[show D.tup [D.int (clm 8 d).sum,D.int 1]=dq ((clm 8 d).sum:Rat) from rfl,gW zS zb (by decide)];symm;rw[Jj (Vf.mpr hi)];symm;have up:(2:Int)^(5+272)<=2^700:=rP (by decide)
 rw[dE rfl (mid a Qe le (Vl ca.dn.1 up) _ .un _ _ _),dE rfl (mid _ ha hb hd _ .un _ _ _),dE rfl (mid b le Qe (Vl ca.dn.2 up) _ .un _ _ _),iC];symm;rw[show D.tup [D.int 1,D.int (10^12)]=dq (Rat.divInt 1 (10^12)) from rfl,wY za zn (by decide)];symm;rw[sA zb zn (by decide)];symm;have zlo:=za.sub zn;have zhi:=zb.add zn;have dlo:=(den2 za zn).2;have dhi:=(den2 zb zn).1
 have rest:((kX [.val d,.val (.lst ((clm 8 d).map D.int)),.val (.int (j:Int)),.val (dq y),.val (dp (a,b)),.val (dq (hf*(a+b))),.val (dq b),.val (dq (Rat.divInt 1 (10^12))),.val (dq (a-Rat.divInt 1 (10^12))),.val (dq (b+Rat.divInt 1 (10^12)))]).bind fin)=.ok (.v (.bl true)):=by
  symm;rw[show D.tup [D.int (clm 8 d).sum,D.int 1]=dq ((clm 8 d).sum:Rat) from rfl,gW zS zhi (by decide)];symm;by_cases c:((clm 8 d).sum:Rat)<b+Rat.divInt 1 (10^12)
  ·rw[J6 c]
   symm
  ·rw[Jj c]
   symm;have h1:b+Rat.divInt 1 (10^12)<=((clm 8 d).sum:Rat):=Vf.mp c;have h2:0<=b+Rat.divInt 1 (10^12):=by grind
   have w:=zPu g hj h2 h1 dhi;have l:y<(SF 8 d (b+Rat.divInt 1 (10^12))).getD j 0:=ca.gt _ h1 (by grind)
   rw[zSx g h2 h1 dhi (by decide)];symm;rw[zOG g hj];symm;rw[gW zy (nX w.1 w.2.1 (by omega) w.2.2) (by decide),J6 l];symm
 generalize hK:(kX:Sv)=K at rest ⊢;by_cases c:0<=(a-Rat.divInt 1 (10^12)).num
 ·rw[J6 c]
  symm;have h1:0<=a-Rat.divInt 1 (10^12):=Y2.mp c;have h2:a-Rat.divInt 1 (10^12)<=((clm 8 d).sum:Rat):=by grind
  have w:=zPu g hj h1 h2 dlo;have l:(SF 8 d (a-Rat.divInt 1 (10^12))).getD j 0<y:=ca.lt _ h1 (by grind)
  rw[zSx g h1 h2 dlo (by decide)];symm;rw[zOG g hj];symm;rw[gW (nX w.1 w.2.1 (by omega) w.2.2) zy (by decide),J6 l];symm;exact rest
 ·rw[Jj c]
  symm;exact rest
abbrev R31(ns:List Int)(plan wd bg:Int)(d:D)(s6 s7 s8 s9 s10 s11:Sl):Rho:=[.val (.lst (ns.map D.int)),.val (.int plan),.val (.int wd),.val (.int bg),.val d,.val (.lst ((clm 8 d).map D.int)),s6,s7,s8,s9,s10,s11]
theorem zOV{ns:List Int}{plan wd bg cell:Int}{d:D}{s10 s11:Sl}(g:Gc 8 d){j:Nat}(hj:j<(clm 8 d).length){y:Rat}(zy:Sz 200 y)(hy:y<0∨(((clm 8 d).getD j 0:Int):Rat)<y∨(0<=y/\y<=(((clm 8 d).getD j 0:Int):Rat)/\(y.den:Int)<=2^5)){b:Int}(hb:(b<0∨((clm 8 d).length:Int)<=b)∨b=(j:Int)):∃ t10 t11,qI (R31 ns plan wd bg d (.val (.int cell)) (.val (.int (j:Int))) (.val (dq y)) (.val (.int b)) s10 s11)=.ok (.nx (R31 ns plan wd bg d (.val (.int cell)) (.val (.int (j:Int))) (.val (dq y)) (.val (.int b)) t10 t11)):=by
 have ci:=g.2.2 _ (Qi (bL hj));have C0:(0:Rat)<=(((clm 8 d).getD j 0:Int):Rat):=by exact_mod_cast ci.1
 have zc:Sz 40 (((clm 8 d).getD j 0:Int):Rat):=((Dn.int 1 _).sz (a:=34) (b:=1) (by decide) (by decide) C0 Qe (by omega)).mono (by decide)
 have dp4:∀ p q r s:Bool,dep (.lst [.bl p,.bl q,.bl r,.bl s])<=50:=fun p q r s=>by simp[dep,depS]
 rcases hb with hb | rfl
 ·have e:=zGO (zJm (y:=dq y) g hb)
  symm;rw[e];symm;by_cases c:b<0
  ·rw[J6 c]
   symm;rw[vE (dp4 _ _ _ _)];symm;exact⟨_,_,rfl⟩
  ·rw[Jj c]
   symm;rw[J6 (by omega)];symm;rw[vE (dp4 _ _ _ _)];symm;exact⟨_,_,rfl⟩
 ·have nlt:¬ ((j:Int)<0):=by omega
  have nge:¬ (((clm 8 d).length:Int)<=(j:Int)):=by omega
  have bad:y<0∨(((clm 8 d).getD j 0:Int):Rat)<y->∃ t10 t11,qI (R31 ns plan wd bg d (.val (.int cell)) (.val (.int (j:Int))) (.val (dq y)) (.val (.int (j:Int))) s10 s11)=.ok (.nx (R31 ns plan wd bg d (.val (.int cell)) (.val (.int (j:Int))) (.val (dq y)) (.val (.int (j:Int))) t10 t11)):=fun h=>by
   have e:=zEc (zLg g hj zy (by decide) h)
   symm;rw[e];symm;rw[Jj nlt];symm;rw[Jj nge];symm;by_cases c:y.num<0
   ·rw[J6 c]
    symm;rw[vE (dp4 _ _ _ _)];symm;exact⟨_,_,rfl⟩
   ·rw[Jj c]
    symm;rw[zGh hj];symm
    have l:(((clm 8 d).getD j 0:Int):Rat)<y:=by
     rcases h with h | h
     ·have:0<=y:=Y2.mp (by omega)
      grind
     ·exact h
    rw[show D.tup [D.int ((clm 8 d).getD j 0),D.int 1]=dq (((clm 8 d).getD j 0:Int):Rat) from rfl,gW zc zy (by decide),J6 l];symm;rw[vE (dp4 _ _ _ _)];symm;exact⟨_,_,rfl⟩
  rcases hy with h | h | ⟨y0,y1,yd⟩
  ·exact bad (.inl h)
  ·exact bad (.inr h)
  ·obtain⟨a,b,ec,ca⟩:=zIE g hj y0 y1 yd (by decide)
   have e:=zGx ec;have yn:0<=y.num:=Y2.mpr y0;symm;rw[e];symm;rw[Jj nlt];symm;rw[Jj nge];symm;rw[Jj (by omega)];symm;rw[zGh hj];symm;rw[show D.tup [D.int ((clm 8 d).getD j 0),D.int 1]=dq (((clm 8 d).getD j 0:Int):Rat) from rfl,gW zc zy (by decide),Jj (Vf.mpr y1)];symm;rw[vE (by simp[dep,depS])];symm;rw[zNC g hj y0 y1 yd ca];symm;exact⟨_,_,rfl⟩
theorem zLt{ns:List Int}{plan wd bg cell:Int}{d:D}{s7 s8 s9 s10 s11:Sl}(g:Gc 8 d):∃ t7 t8 t9 t10 t11,zIp (R31 ns plan wd bg d (.val (.int cell)) s7 s8 s9 s10 s11)=.ok (.nx (R31 ns plan wd bg d (.val (.int cell)) t7 t8 t9 t10 t11)):=by
 have l1:=zEk g.1;have m0:=Vc (cell / 3) (show((clm 8 d).length:Int)≠0 by omega)
 have m1:=Ve (cell / 3) (show 0<((clm 8 d).length:Int) by omega)
 symm;rw[oMod_i (by omega),fmod_pos _ (by omega)];generalize cell / 3 % ((clm 8 d).length:Int)=j at m0 m1;obtain⟨j,rfl⟩:=Uw m0;have hj:j<(clm 8 d).length:=by omega
 have ci:=g.2.2 _ (Qi (bL hj));obtain⟨y,ey,zy,hy⟩:=zKR (cell / 5) ci.1 ci.2;symm;rw[zGh hj];symm;rw[ey];symm
 have fin':∀ b:Int,((b<0∨((clm 8 d).length:Int)<=b)∨b=(j:Int))->∃ t7 t8 t9 t10 t11,qI (R31 ns plan wd bg d (.val (.int cell)) (.val (.int (j:Int))) (.val (dq y)) (.val (.int b)) s10 s11)=.ok (.nx (R31 ns plan wd bg d (.val (.int cell)) t7 t8 t9 t10 t11)):=fun b hb=>by
  obtain⟨t10,t11,e⟩:=zOV (ns:=ns) (plan:=plan) (wd:=wd) (bg:=bg) (cell:=cell) (s10:=s10) (s11:=s11) g hj zy hy hb;exact⟨_,_,_,_,_,e⟩
 generalize hK:(qI:Sv)=K at fin' ⊢;by_cases c:cell % 9=4
 ·rw[J6 c]
  symm;have q5:=Vc (cell / 9) (b:=5) (by decide)
  have q4:0<=cell / 45 % 4/\cell / 45 % 4<4:=⟨Vc _ (by decide),Ve _ (by decide)⟩
  generalize cell / 9 % 5=q at q5
  obtain⟨b,eb,hb⟩:∃ b:Int,oIx (.lst [.int (((clm 8 d).length:Int)+q),.int (-1),.int (10^30),.int (-1-(j:Int))]) (.int (cell / 45 % 4))=.ok (.int b)/\(b<0∨((clm 8 d).length:Int)<=b):=by
   have l12:=g.2.1;generalize cell / 45 % 4=k at q4;have hk:k=0∨k=1∨k=2∨k=3:=by omega
   rcases hk with rfl | rfl | rfl | rfl
   ·exact⟨_,rfl,.inr (by omega)⟩
   ·exact⟨_,rfl,.inl (by decide)⟩
   ·exact⟨_,rfl,.inr (by omega)⟩
   ·exact⟨_,rfl,.inl (by omega)⟩
  rw[eb];symm;exact fin' b (.inl hb)
 ·rw[Jj c]
  symm;exact fin' _ (.inr rfl)
theorem law_true:∀ ns:List Int,ns.length<=63->Big ns->zNp [.lst (ns.map D.int)]=.ok (.v (.bl true)):=by
 intro ns hl hb;obtain⟨m,m1,m2⟩:=hb.at 0;unfold zNp;symm;rw[zBz ns 0 (by decide),show((0:Int).toNat)=0 from rfl];generalize ns.getD 0 0=plan at m2;symm;rw[zNR];symm;rw[zAh];symm;rw[zAh];symm;have bg:0<=(if decide (plan / 7 % 4=3)=true then 30 else 14:Int):=by split<;>decide
 obtain⟨cs,ec,lc⟩:=zM ns 1 ((if decide (plan / 7 % 4=3)=true then 30 else 14)+1) (by decide) (by omega)
 obtain⟨d,ed,g⟩:=zDu (cs:=cs) (plan:=plan) (most:=if decide (plan / 7 % 4=3)=true then 12 else 8) (by omega) m2 m1 (by split<;>decide) (by split<;>decide)
 have l12:=g.2.1;rw[ec,ed];symm;rw[uZ 10 d (rC g.1 (by decide)) (by rw[oH (m:=10) g.1 (by decide)];omega),oH (m:=10) g.1 (by decide)];symm;rw[zAh];symm;obtain⟨ms,em,lm⟩:=zM ns ((if decide (plan / 7 % 4=3)=true then 30 else 14)+1) ((if decide (plan / 7 % 4=3)=true then 30 else 14)+if decide (plan / 7 % 4=3)=true then 9 else 19) (by omega) (by split<;>decide)
 rw[em];symm;rw[Jk (by omega),show D.int 0::ms.map D.int=(0::ms).map D.int from rfl];symm;refine pE (Q:=fun r=>r.bind fin=.ok (.v (.bl true))) (k:=zLP zFC) (fun i ρ=>∃ s6 s7 s8 s9 s10 s11:Sl,ρ=R31 ns plan (if decide (plan / 7 % 4=3)=true then 1 else 0) (if decide (plan / 7 % 4=3)=true then 30 else 14) d s6 s7 s8 s9 s10 s11) ⟨_,_,_,_,_,_,rfl⟩ ?_ ?_
 ·rintro i e ρ he ⟨s6,s7,s8,s9,s10,s11,rfl⟩
  have he':((0::ms).map D.int)[i]?=some e:=he;obtain⟨c,hc,rfl⟩:=Qp.mp (Qi he');obtain⟨t7,t8,t9,t10,t11,e⟩:=zLt (ns:=ns) (plan:=plan) (wd:=if decide (plan / 7 % 4=3)=true then 1 else 0) (bg:=if decide (plan / 7 % 4=3)=true then 30 else 14) (cell:=c) (s7:=s7) (s8:=s8) (s9:=s9) (s10:=s10) (s11:=s11) g;exact⟨_,e,_,_,_,_,_,_,rfl⟩
 ·rintro ρ ⟨s6,s7,s8,s9,s10,s11,rfl⟩
  rfl
end Lw
namespace Lw
open PySem PySem.Spec PyProof.Rows L2 L3
local macro_rules | `(tactic| walk_at "b")=>`(tactic| (intro _ _ _ _ _ _ us hl; first | (obtain ⟨_,e⟩:=L3.ln1 hl;subst e;rfl) | (obtain ⟨_,_,e⟩:=L3.ln2 hl;subst e;rfl) | (obtain ⟨_,_,_,e⟩:=L3.ln3 hl;subst e;rfl) | (obtain ⟨_,_,_,_,e⟩:=L3.ln4 hl;subst e;rfl) | (obtain ⟨_,_,_,_,_,e⟩:=L3.ln5 hl;subst e;rfl)))
theorem _root_.L3.CanM.mo{P:Jf}{w:Jg}{K:Fg_}{mg:Str->Option Ja}{base:Je}{j k:Nat}{x:Str}{ps:List Str}{m:Mir}(c:CanM P w K mg base j x ps m)(h:j<=k:=by decide):CanM P w K mg base k x ps m:=c.mono h
local macro_rules | `(tactic| walk_at "s")=>`(tactic| exact⟨rfl,rfl,rfl,by decide +kernel,rfl,by decide +kernel,by decide +kernel⟩)
def top(i:Nat):Ji:=PySem.Challenge.pw_catchhall_k31_catches_by_amount.main.body.getD i (.Pass ⟨0,0,0,0⟩)
abbrev iQ:Ji:=top 15
theorem cP:FnScope ["one","two","rest"] ["one","two"] (aH iQ):=by walk_at "s"
abbrev zHv:Ji:=top 16
theorem zEO:FnScope ["top","bottom","divisor"] ["top","bottom"] (aH zHv):=by walk_at "s"
abbrev zDV:Ji:=top 17
theorem zKP:FnScope ["number"] ["number"] (aH zDV):=by walk_at "s"
abbrev zJQ:Ji:=top 18
theorem zNB:FnScope ["one","two"] ["one","two"] (aH zJQ):=by walk_at "s"
abbrev zEr:Ji:=top 19
theorem zLJ:FnScope ["one","two"] ["one","two"] (aH zEr):=by walk_at "s"
abbrev zDM:Ji:=top 20
theorem zKM:FnScope ["one","two"] ["one","two"] (aH zDM):=by walk_at "s"
abbrev zIB:Ji:=top 21
theorem zOD:FnScope ["one","two"] ["one","two"] (aH zIB):=by walk_at "s"
abbrev zJt:Ji:=top 22
theorem zNE:FnScope ["one","two"] ["one","two"] (aH zJt):=by walk_at "s"
abbrev zAt:Ji:=top 23
theorem zHw:FnScope ["one","two"] ["one","two"] (aH zAt):=by walk_at "s"
abbrev nI:Ji:=top 24
theorem zBM:FnScope ["amount","most"] ["amount","most"] (aH nI):=by walk_at "s"
abbrev iU:Ji:=top 25
theorem sO:FnScope ["amount","most"] ["amount","most"] (aH iU):=by walk_at "s"
abbrev jA:Ji:=top 26
theorem rA:FnScope ["some","bottom","each"] ["some"] (aH jA):=by walk_at "s"
abbrev zAZ:Ji:=top 31
theorem zKs:FnScope ["way","weights","claims"] ["way","weights","claims"] (aH zAZ):=by walk_at "s"
abbrev nM:Ji:=top 32
theorem zAF:FnScope ["way"] ["way"] (aH nM):=by walk_at "s"
abbrev jQ:Ji:=top 33
theorem mE:FnScope ["claims","claim"] ["claims"] (aH jQ):=by walk_at "s"
abbrev iS:Ji:=top 34
theorem gY:FnScope ["way","weights","many","due","weight"] ["way","weights","many"] (aH iS):=by walk_at "s"
abbrev kO:Ji:=top 35
theorem wK:FnScope ["way"] ["way"] (aH kO):=by walk_at "s"
abbrev zEU:Ji:=top 36
theorem zLB:FnScope ["way","weights","claims","catch"] ["way","weights","claims","catch"] (aH zEU):=by walk_at "s"
abbrev eM:Ji:=top 37
theorem fG:FnScope ["way","weights","claims","catch","most","lacking"] ["way","weights","claims","catch"] (aH eM):=by walk_at "s"
abbrev qA:Ji:=top 38
theorem fW:FnScope ["claims","catch","left","amounts","claim","amount"] ["claims","catch"] (aH qA):=by walk_at "s"
abbrev mT:Ji:=top 39
theorem dC:FnScope ["weights","claims","catch","left","weight","amounts","spot","by_weight"] ["weights","claims","catch"] (aH mT):=by walk_at "s"
abbrev lT:Ji:=top 40
theorem zCA:FnScope ["weights","claims"] ["weights","claims"] (aH lT):=by walk_at "s"
abbrev kB:Ji:=top 41
theorem iX:FnScope ["claims","catch","most","part"] ["claims","catch"] (aH kB):=by walk_at "s"
abbrev kJ:Ji:=top 42
theorem lU:FnScope ["claims","catch","ones"] ["claims","catch"] (aH kJ):=by walk_at "s"
abbrev wR:Ji:=top 45
theorem zGR:FnScope ["custom"] ["custom"] (aH wR):=by walk_at "s"
abbrev zAk:Ji:=top 46
theorem zHA:FnScope ["custom"] ["custom"] (aH zAk):=by walk_at "s"
abbrev mV:Ji:=top 47
theorem zBa:FnScope ["custom"] ["custom"] (aH mV):=by walk_at "s"
abbrev vM:Ji:=top 48
theorem zGS:FnScope ["custom"] ["custom"] (aH vM):=by walk_at "s"
abbrev lM:Ji:=top 49
theorem kH:FnScope ["custom","claims","kid"] ["custom"] (aH lM):=by walk_at "s"
abbrev sC:Ji:=top 50
theorem zEL:FnScope ["custom"] ["custom"] (aH sC):=by walk_at "s"
abbrev kG:Ji:=top 51
theorem qK:FnScope ["custom"] ["custom"] (aH kG):=by walk_at "s"
abbrev zAV:Ji:=top 52
theorem zIa:FnScope ["custom","catch"] ["custom","catch"] (aH zAV):=by walk_at "s"
abbrev oE:Ji:=top 53
theorem hG:FnScope ["custom","catch","amounts","told","kid","amount"] ["custom","catch"] (aH oE):=by walk_at "s"
abbrev wN:Ji:=top 57
theorem sN:FnScope ["points","kept","point"] ["points"] (aH wN):=by walk_at "s"
abbrev nS:Ji:=top 58
theorem iZ:FnScope ["points","spot","ahead","point"] ["points"] (aH nS):=by walk_at "s"
abbrev nH:Ji:=top 59
theorem fX:FnScope ["ahead","point","later","rise","later_rise","run","later_run"] ["ahead","point","later"] (aH nH):=by walk_at "s"
abbrev zBm:Ji:=top 60
theorem zHz:FnScope ["line"] ["line"] (aH zBm):=by walk_at "s"
abbrev zBc:Ji:=top 61
theorem zHP:FnScope ["line"] ["line"] (aH zBc):=by walk_at "s"
abbrev zDY:Ji:=top 62
theorem zLu:FnScope ["line","x"] ["line","x"] (aH zDY):=by walk_at "s"
abbrev vH:Ji:=top 63
theorem tI:FnScope ["line","y","least","end"] ["line","y"] (aH vH):=by walk_at "s"
abbrev iR:Ji:=top 64
theorem cO:FnScope ["line","axis","amount","low","high","middle"] ["line","axis","amount"] (aH iR):=by walk_at "s"
abbrev zNc:Ji:=top 65
theorem zQ:FnScope ["line","axis","amount","other","spot","there","here","part"] ["line","axis","amount"] (aH zNc):=by walk_at "s"
abbrev qQ:Ji:=top 66
theorem nL:FnScope ["one","two","bends","joints"] ["one","two"] (aH qQ):=by walk_at "s"
abbrev uO:Ji:=top 67
theorem zDe:FnScope ["line"] ["line"] (aH uO):=by walk_at "s"
abbrev zBC:Ji:=top 68
theorem kZ:FnScope ["one","two","both","spot","x"] ["one","two"] (aH zBC):=by walk_at "s"
abbrev jL:Ji:=top 70
theorem iN:FnScope ["way","weights","claims","joints","dealings"] ["way","weights","claims"] (aH jL):=by walk_at "s"
abbrev qE:Ji:=top 71
theorem zGU:FnScope ["joints","dealings","spot"] ["joints","dealings","spot"] (aH qE):=by walk_at "s"
abbrev jT:Ji:=top 72
theorem iK:FnScope ["way","weights","claims","most","early"] ["way","weights","claims"] (aH jT):=by walk_at "s"
abbrev nU:Ji:=top 73
theorem gD:FnScope ["claims","filled","joints","claim"] ["claims"] (aH nU):=by walk_at "s"
abbrev lX:Ji:=top 74
theorem cM:FnScope ["weights","claims","filled","weight","levels","joints","spot"] ["weights","claims"] (aH lX):=by walk_at "s"
abbrev oP:Ji:=top 75
theorem wG:FnScope ["joints","most"] ["joints","most"] (aH oP):=by walk_at "s"
abbrev gX:Ji:=top 76
theorem gC:FnScope ["joints","kept","joint"] ["joints"] (aH gX):=by walk_at "s"
abbrev lF:Ji:=top 78
theorem fK:FnScope ["custom","ways","told","kid","way_line"] ["custom"] (aH lF):=by walk_at "s"
abbrev sV:Ji:=top 79
theorem vW:FnScope ["claim","start"] ["claim"] (aH sV):=by walk_at "s"
abbrev nF:Ji:=top 80
theorem rO:FnScope ["custom","boat","amount","told"] ["custom","boat","amount"] (aH nF):=by walk_at "s"
abbrev lY:Ji:=top 82
theorem xO:FnScope ["script","k"] ["script","k"] (aH lY):=by walk_at "s"
abbrev tL:Ji:=top 83
theorem fL:FnScope ["top","bottom","one","other","rest"] ["top","bottom"] (aH tL):=by walk_at "s"
abbrev sE:Ji:=top 84
theorem zFa:FnScope ["one","two"] ["one","two"] (aH sE):=by walk_at "s"
abbrev pG:Ji:=top 85
theorem zCq:FnScope ["one","two"] ["one","two"] (aH pG):=by walk_at "s"
abbrev pM:Ji:=top 86
theorem zCb:FnScope ["one","two"] ["one","two"] (aH pM):=by walk_at "s"
abbrev sL:Ji:=top 87
theorem zDQ:FnScope ["one","two"] ["one","two"] (aH sL):=by walk_at "s"
abbrev gZ:Ji:=top 88
theorem kL:FnScope ["found","number"] ["found"] (aH gZ):=by walk_at "s"
abbrev xF:Ji:=top 89
theorem zGG:FnScope ["cell","k"] ["cell","k"] (aH xF):=by walk_at "s"
abbrev oJ:Ji:=top 90
theorem hU:FnScope ["kids","mix","plan","way","weights","great"] ["kids","mix","plan"] (aH oJ):=by walk_at "s"
abbrev lA:Ji:=top 91
theorem pJ:FnScope ["custom"] ["custom"] (aH lA):=by walk_at "s"
abbrev jX:Ji:=top 92
theorem cK:FnScope ["cells","plan","most","pile","many","k","mix","few"] ["cells","plan","most"] (aH jX):=by walk_at "s"
abbrev lI:Ji:=top 93
theorem kI:FnScope ["custom","told","kid"] ["custom"] (aH lI):=by walk_at "s"
abbrev pK:Ji:=top 94
theorem eP:FnScope ["custom","boat_at","amount","kept","found","e","others"] ["custom","boat_at","amount"] (aH pK):=by walk_at "s"
abbrev qB:Ji:=top 95
theorem fP:FnScope ["custom","claims","boat_at","amount","found","half","x","near","low","high"] ["custom","claims","boat_at","amount","found"] (aH qB):=by walk_at "s"
abbrev mY:Ji:=top 96
theorem jE:FnScope ["cell","claim","mix","bottom","by"] ["cell","claim"] (aH mY):=by walk_at "s"
abbrev wF:Ji:=top 97
theorem lG:FnScope ["script","plan","wide","begin","custom","claims","cell","at","amount","boat_at","kept","found"] ["script"] (aH wF):=by walk_at "s"
structure Bt (mg:Str->Option Ja):Prop where
 abs:mg "abs" = none
 sorted:mg "sorted" = none
 range:mg "range" = none
 len:mg "len" = none
 sum:mg "sum" = none
 zip:mg "zip" = none
 tuple:mg "tuple" = none
 min:mg "min" = none
 reversed:mg "reversed" = none
 isinstance:mg "isinstance" = none
 bool:mg "bool" = none
 int:mg "int" = none
 max:mg "max" = none
structure Kt (K:PySem.W.Frag):Prop where
 bool:Kit K "bool"
 int:Kit K "int"
 tuple:Kit K "tuple"
structure Ct (K:PySem.W.Frag) (mg:Str->Option Ja):Prop where
 ACROSS:∃ v u,mg "ACROSS" = some u/\dH v u/\IsD K (fun _=>none) v d_ACROSS
 BOAT:∃ v u,mg "BOAT" = some u/\dH v u/\IsD K (fun _=>none) v d_BOAT
 HALF:∃ v u,mg "HALF" = some u/\dH v u/\IsD K (fun _=>none) v d_HALF
 NOUGHT:∃ v u,mg "NOUGHT" = some u/\dH v u/\IsD K (fun _=>none) v fF
 UP:∃ v u,mg "UP" = some u/\dH v u/\IsD K (fun _=>none) v d_UP
 WEIGHTED:∃ v u,mg "WEIGHTED" = some u/\dH v u/\IsD K (fun _=>none) v d_WEIGHTED
 CONTRARY:∃ a,IsTab K mg "CONTRARY" aW a
structure Rt (K:PySem.W.Frag) (mg:Str->Option Ja):Prop where
 BadClaim:∃ C,Err K mg "BadClaim" C
 BadLine:∃ C,Err K mg "BadLine" C
 BadWay:∃ C,Err K mg "BadWay" C
 BadWeights:∃ C,Err K mg "BadWeights" C
 NoBoat:∃ C,Err K mg "NoBoat" C
 NoFraction:∃ C,Err K mg "NoFraction" C
 Outside:∃ C,Err K mg "Outside" C
 Unlike:∃ C,Err K mg "Unlike" C
structure Et (K:PySem.W.Frag) (mg:Str->Option Ja):Prop where
 cat:∀ c,tbT.contains c=true->Cat K mg "CatchError" c
 ek:EK K mg zFw ["Outside","NoBoat","ValueError","Unlike","TooMany","NoText","NoFraction","BadWeights","BadWay","BadLine","BadClaim","BadCatch"]
theorem zSt{K:Fg_}{h:Je}{mg:Str->Option Ja}{t0 t1 t2 t3 t4 t5 t6 t7 t8:Tok}{pHALF0:Jc}{o_pHALF0:Option Jc}{n_pHALF0:Nat}{s_pHALF0:Array (Option Ja)}{pNOUGHT1:Jc}{o_pNOUGHT1:Option Jc}{n_pNOUGHT1:Nat}{s_pNOUGHT1:Array (Option Ja)}{pWEIGHTED2:Jc}{o_pWEIGHTED2:Option Jc}{n_pWEIGHTED2:Nat}{s_pWEIGHTED2:Array (Option Ja)}{a_CONTRARY:Jc}(X:K.In h)(G:h.Ns mainGlobals mg)(n_ACROSS:PySem.W.nsIn K mainGlobals "ACROSS" = some (some (.int (0) t0)))(n_BOAT:PySem.W.nsIn K mainGlobals "BOAT" = some (some (.str "boat" t1)))(n_HALF:PySem.W.nsIn K mainGlobals "HALF" = some (some (.ref pHALF0)))(pHALF0_l:K.lookup pHALF0=some ⟨.type "tuple", o_pHALF0,.seq #[.int (1) t2,.int (2) t3] n_pHALF0,s_pHALF0⟩)(n_NOUGHT:PySem.W.nsIn K mainGlobals "NOUGHT" = some (some (.ref pNOUGHT1)))(pNOUGHT1_l:K.lookup pNOUGHT1=some ⟨.type "tuple", o_pNOUGHT1,.seq #[.int (0) t4,.int (1) t5] n_pNOUGHT1,s_pNOUGHT1⟩)(n_UP:PySem.W.nsIn K mainGlobals "UP" = some (some (.int (1) t6)))(n_WEIGHTED:PySem.W.nsIn K mainGlobals "WEIGHTED" = some (some (.ref pWEIGHTED2)))(pWEIGHTED2_l:K.lookup pWEIGHTED2=some ⟨.type "tuple", o_pWEIGHTED2,.seq #[.str "even" t7,.str "lack" t8] n_pWEIGHTED2,s_pWEIGHTED2⟩)(n_CONTRARY:PySem.W.nsIn K mainGlobals "CONTRARY" = some (some (.ref a_CONTRARY)))(aW:PyProof.Rows.KTD.tabLook (PyProof.Rows.KTD.datLooks fun a=>K.lookup a) (fun a=>K.lookup a) a_CONTRARY (zLA Lw.aW)=true):Ct K mg:=⟨⟨.int (0),_,Vd X G n_ACROSS,⟨_,rfl⟩,(.int _)⟩,⟨.str "boat", _,Vd X G n_BOAT,⟨_,rfl⟩,(.str _)⟩,⟨.ref pHALF0,_,Vd X G n_HALF,rfl,(.tup (.inr ⟨_,_,_,pHALF0_l,rfl,rfl,Wx rfl,(.cons (show dH (.int (1)) _ from ⟨_,rfl⟩) (.cons (show dH (.int (2)) _ from ⟨_,rfl⟩) .nil))⟩) (.cons (.int _) (.cons (.int _) .nil)))⟩,⟨.ref pNOUGHT1,_,Vd X G n_NOUGHT,rfl,(.tup (.inr ⟨_,_,_,pNOUGHT1_l,rfl,rfl,Wx rfl,(.cons (show dH (.int (0)) _ from ⟨_,rfl⟩) (.cons (show dH (.int (1)) _ from ⟨_,rfl⟩) .nil))⟩) (.cons (.int _) (.cons (.int _) .nil)))⟩,⟨.int (1),_,Vd X G n_UP,⟨_,rfl⟩,(.int _)⟩,⟨.ref pWEIGHTED2,_,Vd X G n_WEIGHTED,rfl,(.tup (.inr ⟨_,_,_,pWEIGHTED2_l,rfl,rfl,Wx rfl,(.cons (show dH (.str "even") _ from ⟨_,rfl⟩) (.cons (show dH (.str "lack") _ from ⟨_,rfl⟩) .nil))⟩) (.cons (.str _) (.cons (.str _) .nil)))⟩,⟨a_CONTRARY,Vd X G n_CONTRARY,fun h X=>PyProof.Rows.KTD.text_of_look X aW⟩⟩
theorem zSB{K:Fg_}{h:Je}{mg:Str->Option Ja}{Mk:Jc}{Ml:Jc}{Mm:Jc}{Mn:Jc}{Mp:Jc}{Mq:Jc}{Ms:Jc}{Mu:Jc}(X:K.In h)(G:h.Ns mainGlobals mg)(n_BadClaim:PySem.W.nsIn K mainGlobals "BadClaim" = some (some (.ref Mk)))(x_BadClaim:PySem.W.excIn K Mk [.type "ValueError", .type "Exception", .type "BaseException", .type "object"] "ValueError.__new__" = true)(n_BadLine:PySem.W.nsIn K mainGlobals "BadLine" = some (some (.ref Ml)))(x_BadLine:PySem.W.excIn K Ml [.type "ValueError", .type "Exception", .type "BaseException", .type "object"] "ValueError.__new__" = true)(n_BadWay:PySem.W.nsIn K mainGlobals "BadWay" = some (some (.ref Mm)))(x_BadWay:PySem.W.excIn K Mm [.type "ValueError", .type "Exception", .type "BaseException", .type "object"] "ValueError.__new__" = true)(n_BadWeights:PySem.W.nsIn K mainGlobals "BadWeights" = some (some (.ref Mn)))(x_BadWeights:PySem.W.excIn K Mn [.type "ValueError", .type "Exception", .type "BaseException", .type "object"] "ValueError.__new__" = true)(n_NoBoat:PySem.W.nsIn K mainGlobals "NoBoat" = some (some (.ref Mp)))(x_NoBoat:PySem.W.excIn K Mp [.type "ValueError", .type "Exception", .type "BaseException", .type "object"] "ValueError.__new__" = true)(n_NoFraction:PySem.W.nsIn K mainGlobals "NoFraction" = some (some (.ref Mq)))(x_NoFraction:PySem.W.excIn K Mq [.type "ValueError", .type "Exception", .type "BaseException", .type "object"] "ValueError.__new__" = true)(n_Outside:PySem.W.nsIn K mainGlobals "Outside" = some (some (.ref Ms)))(x_Outside:PySem.W.excIn K Ms [.type "ValueError", .type "Exception", .type "BaseException", .type "object"] "ValueError.__new__" = true)(n_Unlike:PySem.W.nsIn K mainGlobals "Unlike" = some (some (.ref Mu)))(x_Unlike:PySem.W.excIn K Mu [.type "ValueError", .type "Exception", .type "BaseException", .type "object"] "ValueError.__new__" = true):Rt K mg:=⟨uC X G n_BadClaim x_BadClaim Xx,uC X G n_BadLine x_BadLine Xx,uC X G n_BadWay x_BadWay Xx,uC X G n_BadWeights x_BadWeights Xx,uC X G n_NoBoat x_NoBoat Xx,uC X G n_NoFraction x_NoFraction Xx,uC X G n_Outside x_Outside Xx,uC X G n_Unlike x_Unlike Xx⟩
theorem zSz{K:Fg_}{h:Je}{mg:Str->Option Ja}{Mo:Jc}{Mp:Jc}{Ms:Jc}{Mu:Jc}{Mt:Jc}{Mr:Jc}{Mq:Jc}{Mn:Jc}{Mm:Jc}{Ml:Jc}{Mk:Jc}{Mj:Jc}(X:K.In h)(G:h.Ns mainGlobals mg)
  (n_CatchError:PySem.W.nsIn K mainGlobals "CatchError" = some (some (.ref Mo)))
  (n_NoBoat:PySem.W.nsIn K mainGlobals "NoBoat" = some (some (.ref Mp)))
  (n_Outside:PySem.W.nsIn K mainGlobals "Outside" = some (some (.ref Ms)))
  (n_Unlike:PySem.W.nsIn K mainGlobals "Unlike" = some (some (.ref Mu)))
  (n_TooMany:PySem.W.nsIn K mainGlobals "TooMany" = some (some (.ref Mt)))
  (n_NoText:PySem.W.nsIn K mainGlobals "NoText" = some (some (.ref Mr)))
  (n_NoFraction:PySem.W.nsIn K mainGlobals "NoFraction" = some (some (.ref Mq)))
  (n_BadWeights:PySem.W.nsIn K mainGlobals "BadWeights" = some (some (.ref Mn)))
  (n_BadWay:PySem.W.nsIn K mainGlobals "BadWay" = some (some (.ref Mm)))
  (n_BadLine:PySem.W.nsIn K mainGlobals "BadLine" = some (some (.ref Ml)))
  (n_BadClaim:PySem.W.nsIn K mainGlobals "BadClaim" = some (some (.ref Mk)))
  (n_BadCatch:PySem.W.nsIn K mainGlobals "BadCatch" = some (some (.ref Mj)))
  (z_ValueError:PySem.W.nsIn K mainGlobals "ValueError" = some none)
  (ce1:PySem.W.typeIn K (.ref Mo)=some (.type "type"))
  (ce2:PySem.W.hasDictIn K Mo=true)
  (ce3:PySem.W.mroIn K Mo (.type "BaseException")=some true)
  (g5:PySem.W.specialIn K (.builtin "object.__class__") "__get__" = some (some (.builtin "getset_descriptor.__get__")))
  (g6:PySem.W.takesIn K (.builtin "object.__class__")=some true)
  (e1_NoBoat:PySem.W.hasDictIn K Mp=true)
  (e2_NoBoat:PySem.W.findIn K (.ref Mp) "__getattribute__" = some (some (.builtin "BaseException.__getattribute__")))
  (e3_NoBoat:PySem.W.findIn K (.ref Mp) "__getattr__" = some none)
  (e4_NoBoat:PySem.W.findIn K (.ref Mp) "__class__" = some (some (.builtin "object.__class__")))
  (e7_NoBoat:PySem.W.mroIn K Mp (.type "object")=some true)
  (e8_NoBoat:PySem.W.mroIn K Mp (.type "BaseException")=some true)
  (em_NoBoat:PySem.W.mroIn K Mp (.ref Mo)=some true)
  (k_NoBoat_Outside:PySem.W.kitOne K (.ref Mp) (.ref Ms)=some false)
  (k_NoBoat_NoBoat:PySem.W.kitOne K (.ref Mp) (.ref Mp)=some true)
  (k_NoBoat_ValueError:PySem.W.kitOne K (.ref Mp) (.type "ValueError")=some true)
  (k_NoBoat_Unlike:PySem.W.kitOne K (.ref Mp) (.ref Mu)=some false)
  (k_NoBoat_TooMany:PySem.W.kitOne K (.ref Mp) (.ref Mt)=some false)
  (k_NoBoat_NoText:PySem.W.kitOne K (.ref Mp) (.ref Mr)=some false)
  (k_NoBoat_NoFraction:PySem.W.kitOne K (.ref Mp) (.ref Mq)=some false)
  (k_NoBoat_BadWeights:PySem.W.kitOne K (.ref Mp) (.ref Mn)=some false)
  (k_NoBoat_BadWay:PySem.W.kitOne K (.ref Mp) (.ref Mm)=some false)
  (k_NoBoat_BadLine:PySem.W.kitOne K (.ref Mp) (.ref Ml)=some false)
  (k_NoBoat_BadClaim:PySem.W.kitOne K (.ref Mp) (.ref Mk)=some false)
  (k_NoBoat_BadCatch:PySem.W.kitOne K (.ref Mp) (.ref Mj)=some false)
  (e1_Outside:PySem.W.hasDictIn K Ms=true)
  (e2_Outside:PySem.W.findIn K (.ref Ms) "__getattribute__" = some (some (.builtin "BaseException.__getattribute__")))
  (e3_Outside:PySem.W.findIn K (.ref Ms) "__getattr__" = some none)
  (e4_Outside:PySem.W.findIn K (.ref Ms) "__class__" = some (some (.builtin "object.__class__")))
  (e7_Outside:PySem.W.mroIn K Ms (.type "object")=some true)
  (e8_Outside:PySem.W.mroIn K Ms (.type "BaseException")=some true)
  (em_Outside:PySem.W.mroIn K Ms (.ref Mo)=some true)
  (k_Outside_Outside:PySem.W.kitOne K (.ref Ms) (.ref Ms)=some true)
  (k_Outside_NoBoat:PySem.W.kitOne K (.ref Ms) (.ref Mp)=some false)
  (k_Outside_ValueError:PySem.W.kitOne K (.ref Ms) (.type "ValueError")=some true)
  (k_Outside_Unlike:PySem.W.kitOne K (.ref Ms) (.ref Mu)=some false)
  (k_Outside_TooMany:PySem.W.kitOne K (.ref Ms) (.ref Mt)=some false)
  (k_Outside_NoText:PySem.W.kitOne K (.ref Ms) (.ref Mr)=some false)
  (k_Outside_NoFraction:PySem.W.kitOne K (.ref Ms) (.ref Mq)=some false)
  (k_Outside_BadWeights:PySem.W.kitOne K (.ref Ms) (.ref Mn)=some false)
  (k_Outside_BadWay:PySem.W.kitOne K (.ref Ms) (.ref Mm)=some false)
  (k_Outside_BadLine:PySem.W.kitOne K (.ref Ms) (.ref Ml)=some false)
  (k_Outside_BadClaim:PySem.W.kitOne K (.ref Ms) (.ref Mk)=some false)
  (k_Outside_BadCatch:PySem.W.kitOne K (.ref Ms) (.ref Mj)=some false):Et K mg:=by
 refine⟨fun c hc=>?_,fun c l hl=>?_⟩
 ·simp only[tbT,Wz,W3,Y1,Xc,beq_iff_eq] at hc
  rcases hc with rfl | rfl
  ·exact⟨Mp,Mo,Vd X G n_NoBoat,Vd X G n_CatchError,(zFr e1_NoBoat e2_NoBoat e3_NoBoat e4_NoBoat g5 g6 e7_NoBoat e8_NoBoat),zMt ce1 ce2 ce3,em_NoBoat⟩
  ·exact⟨Ms,Mo,Vd X G n_Outside,Vd X G n_CatchError,(zFr e1_Outside e2_Outside e3_Outside e4_Outside g5 g6 e7_Outside e8_Outside),zMt ce1 ce2 ce3,em_Outside⟩
 ·have hm:=zP hl
  simp only[zFw,Qd,X4,or_false,Prod.mk.injEq] at hm;rcases hm with⟨rfl,rfl⟩ | ⟨rfl,rfl⟩
  ·refine⟨Mp,Vd X G n_NoBoat,(zFr e1_NoBoat e2_NoBoat e3_NoBoat e4_NoBoat g5 g6 e7_NoBoat e8_NoBoat),fun x hx=>?_⟩
   simp only[Wz,W3,Y1,Xc,beq_iff_eq] at hx;rcases hx with rfl | rfl | rfl | rfl | rfl | rfl | rfl | rfl | rfl | rfl | rfl | rfl
   ·exact⟨_,_,cA X G n_Outside,⟨_,.inl rfl⟩,k_NoBoat_Outside⟩
   ·exact⟨_,_,cA X G n_NoBoat,⟨_,.inl rfl⟩,k_NoBoat_NoBoat⟩
   ·exact⟨_,_,zFu X G z_ValueError PyProof.Rows.Boot.«ValueError» (by decide),⟨0,.inr ⟨_,rfl⟩⟩,k_NoBoat_ValueError⟩
   ·exact⟨_,_,cA X G n_Unlike,⟨_,.inl rfl⟩,k_NoBoat_Unlike⟩
   ·exact⟨_,_,cA X G n_TooMany,⟨_,.inl rfl⟩,k_NoBoat_TooMany⟩
   ·exact⟨_,_,cA X G n_NoText,⟨_,.inl rfl⟩,k_NoBoat_NoText⟩
   ·exact⟨_,_,cA X G n_NoFraction,⟨_,.inl rfl⟩,k_NoBoat_NoFraction⟩
   ·exact⟨_,_,cA X G n_BadWeights,⟨_,.inl rfl⟩,k_NoBoat_BadWeights⟩
   ·exact⟨_,_,cA X G n_BadWay,⟨_,.inl rfl⟩,k_NoBoat_BadWay⟩
   ·exact⟨_,_,cA X G n_BadLine,⟨_,.inl rfl⟩,k_NoBoat_BadLine⟩
   ·exact⟨_,_,cA X G n_BadClaim,⟨_,.inl rfl⟩,k_NoBoat_BadClaim⟩
   ·exact⟨_,_,cA X G n_BadCatch,⟨_,.inl rfl⟩,k_NoBoat_BadCatch⟩
  ·refine⟨Ms,Vd X G n_Outside,(zFr e1_Outside e2_Outside e3_Outside e4_Outside g5 g6 e7_Outside e8_Outside),fun x hx=>?_⟩
   simp only[Wz,W3,Y1,Xc,beq_iff_eq] at hx;rcases hx with rfl | rfl | rfl | rfl | rfl | rfl | rfl | rfl | rfl | rfl | rfl | rfl
   ·exact⟨_,_,cA X G n_Outside,⟨_,.inl rfl⟩,k_Outside_Outside⟩
   ·exact⟨_,_,cA X G n_NoBoat,⟨_,.inl rfl⟩,k_Outside_NoBoat⟩
   ·exact⟨_,_,zFu X G z_ValueError PyProof.Rows.Boot.«ValueError» (by decide),⟨0,.inr ⟨_,rfl⟩⟩,k_Outside_ValueError⟩
   ·exact⟨_,_,cA X G n_Unlike,⟨_,.inl rfl⟩,k_Outside_Unlike⟩
   ·exact⟨_,_,cA X G n_TooMany,⟨_,.inl rfl⟩,k_Outside_TooMany⟩
   ·exact⟨_,_,cA X G n_NoText,⟨_,.inl rfl⟩,k_Outside_NoText⟩
   ·exact⟨_,_,cA X G n_NoFraction,⟨_,.inl rfl⟩,k_Outside_NoFraction⟩
   ·exact⟨_,_,cA X G n_BadWeights,⟨_,.inl rfl⟩,k_Outside_BadWeights⟩
   ·exact⟨_,_,cA X G n_BadWay,⟨_,.inl rfl⟩,k_Outside_BadWay⟩
   ·exact⟨_,_,cA X G n_BadLine,⟨_,.inl rfl⟩,k_Outside_BadLine⟩
   ·exact⟨_,_,cA X G n_BadClaim,⟨_,.inl rfl⟩,k_Outside_BadClaim⟩
   ·exact⟨_,_,cA X G n_BadCatch,⟨_,.inl rfl⟩,k_Outside_BadCatch⟩
section
variable(P:Jf)(w:Jg){K:Fg_}{mg:Str->Option Ja}(base:Je)(k:Nat){f:Jc}{fd:FuncData}
theorem zIu:RankDef jA:=⟨rfl,rfl,rfl,rfl,rfl,fun _ _ _=>⟨_,_,rfl,rfl,rfl⟩⟩
section
variable(B:Bt mg)(KT:Kt K)(C:Ct K mg)(R:Rt K mg)(ET:Et K mg)
include B KT C R ET
theorem sT(F:Fn K mg "common_divisor" iQ ["one","two"] f fd):CanM P w K mg base (k+1) "common_divisor" ["one","two"] dU:=
  aM F cP fun cdv A outer s H E G W WR=>(aF (bD (i:=0) cP.nd rfl (Or.inl rfl) (aT uP zGo rfl B.abs Mf (aA (aJ 0) aE aB)))
 (aF (bD (i:=1) cP.nd rfl (Or.inl rfl) (aT uP zGo rfl B.abs Mf (aA (aJ 1) aE aB)))
 (aF (zAn W.own (tst (neA W.u) zKA (aJ 1) bI (aX _)) (aF (bD (i:=2) cP.nd rfl (Or.inl rfl) (aS cH iV (aJ 0) (aJ 1)))
 (aF (bD (i:=0) cP.nd rfl (Or.inl rfl) (aJ 1))
 (aK (bD (i:=1) cP.nd rfl (Or.inl rfl) (aJ 2))))))
 (aK (bQ (aJ 0))))))
theorem zLx(F:Fn K mg "whole" zDV ["number"] f fd):CanM P w K mg base (k+1) "whole" ["number"] bM:=
 aM F zKP fun cdv A outer s H E G W WR=>(aK (bQ (dM (aA (aJ 0) (aA bI aE bE) aB))))
theorem zON(F:Fn K mg "less" zJt ["one","two"] f fd):CanM P w K mg base (k+1) "less" ["one","two"] fU:=
 aM F zNE fun cdv A outer s H E G W WR=>(aK (bQ (wJ nV zCx (aS bV gJ (eG 0) (eG 1)) (aS bV gJ (eG 1) (eG 0)) (aX _))))
theorem zHt(F:Fn K mg "ranked" jA ["some"] f fd){T:Jc}(hT:rE K mg T)(hB:BMn base mg):CanR P w K mg base (k+1) kC:=
 zNd F rA zIu hT hB B.sorted B.range B.len rfl fun cdv A outer s H E G W WR=>⟨(bD (i:=1) rA.nd rfl (Or.inr rfl) bI),(nG W.own W.calm (jB (aJ 0)) (eO (i:=2) rA.nd rfl (Or.inl rfl)) bT (aK (bD (i:=1) rA.nd rfl (Or.inr rfl) (aS bV gJ (aJ 1) (eG 2)))))⟩
theorem zBu(F:Fn K mg "refuse_way" nM ["way"] f fd):CanM P w K mg base (k+1) "refuse_way" ["way"] eQ:=
 aM F zAF fun cdv A outer s H E G W WR=>(aK (gI (zLw C.CONTRARY.choose_spec rfl (aJ 0) (by with_unfolding_all rfl)) (aK (hJ W WR R.BadWay rfl (aA (gM cJ fun _=>.str _) aE bE))) bG))
theorem uE(F:Fn K mg "refuse_claims" jQ ["claims"] f fd):CanM P w K mg base (k+1) "refuse_claims" ["claims"] eK:=
  aM F mE fun cdv A outer s H E G W WR=>(aF (gI (tst (eqA W.u) rZ (aT aR dW rfl B.len Q4 (aA (aJ 0) aE aB)) bI (aX _)) (aK (hJ W WR R.BadClaim rfl (aA (gM cJ fun _=>.str _) aE bE))) bG)
 (aK (nG W.own W.calm (jB (aJ 0)) (eO (i:=1) mE.nd rfl (Or.inl rfl)) bT (aK (gI (tst nV zCx (aJ 1) bI (aX _)) (aK (hJ W WR R.BadClaim rfl (aA (gM cJ fun _=>.str _) aE bE))) bG)))))
theorem sQ(F:Fn K mg "refuse_weights" iS ["way","weights","many"] f fd):CanM P w K mg base (k+1) "refuse_weights" ["way","weights","many"] bX:=
  aM F gY fun cdv A outer s H E G W WR=>(aF (bD (i:=3) gY.nd rfl (Or.inl rfl) (zOL (tst (inA W.u) zSO (aJ 0) (bK rfl C.WEIGHTED) (by with_unfolding_all rfl)) (aJ 2) bI))
 (aF (gI (tst (neA W.u) zKA (aT aR dW rfl B.len Q4 (aA (aJ 1) aE aB)) (aJ 3) (aX _)) (aK (hJ W WR R.BadWeights rfl (aA (gM cJ fun _=>.str _) aE bE))) bG)
 (aK (nG W.own W.calm (jB (aJ 1)) (eO (i:=4) gY.nd rfl (Or.inl rfl)) bT (aK (gI (PWd.pt (zHo (tst nV zCx (aJ 4) bI (aX _)) (uT (tst zLN zRy (aJ 4) (aS pC zES bI bI) (aX _))))) (aK (hJ W WR R.BadWeights rfl (aA (gM cJ fun _=>.str _) aE bE))) bG))))))
theorem zHd(F:Fn K mg "is_boat" wR ["custom"] f fd):CanM P w K mg base (k+1) "is_boat" ["custom"] cI:=
 aM F zGR fun cdv A outer s H E G W WR=>(aK (bQ (wJ (eqA W.u) rZ (eG 0) (bK rfl C.BOAT) (aX _))))
theorem zJy(F:Fn K mg "way_of" zAk ["custom"] f fd):CanM P w K mg base (k+1) "way_of" ["custom"] jD:=
 aM F zHA fun cdv A outer s H E G W WR=>(aK (bQ (eG 0)))
theorem zAf(F:Fn K mg "weights_of" mV ["custom"] f fd):CanM P w K mg base (k+1) "weights_of" ["custom"] cZ:=
 aM F zBa fun cdv A outer s H E G W WR=>(aK (bQ (eG 0)))
theorem zHN(F:Fn K mg "length" zBm ["line"] f fd):CanM P w K mg base (k+1) "length" ["line"] mC:=
 aM F zHz fun cdv A outer s H E G W WR=>(aK (bQ (bO aO eZ (bO aO eZ (aJ 0) (nZ bI) (fun _ _=>rfl)) (bK rfl C.ACROSS) (fun _ _=>rfl))))
theorem zHK(F:Fn K mg "height" zBc ["line"] f fd):CanM P w K mg base (k+1) "height" ["line"] lS:=
 aM F zHP fun cdv A outer s H E G W WR=>(aK (bQ (bO aO eZ (bO aO eZ (aJ 0) (nZ bI) (fun _ _=>rfl)) (bK rfl C.UP) (fun _ _=>rfl))))
theorem zIt(F:Fn K mg "places" uO ["line"] f fd):CanM P w K mg base (k+1) "places" ["line"] oQ:=
 aM F zDe fun cdv A outer s H E G W WR=>(aK (eH (fI W zDe.nd rfl (sc:=aH uO) rfl rfl (by decide +kernel) (jB (aJ 0)) (fun C2 s2 H2 fp2 G W=>⟨jZ,(bO aO eZ (aJ 1) (bK rfl C.ACROSS) (fun _ _=>rfl))⟩))))
theorem yN(F:Fn K mg "_law_cell_at" lY ["script","k"] f fd):CanM P w K mg base (k+1) "_law_cell_at" ["script","k"] fZ:=
  aM F xO fun cdv A outer s H E G W WR=>(aF (gI (tst nV zCx (aJ 1) (aT aR dW rfl B.len Q4 (aA (aJ 0) aE aB)) (aX _)) (aK (bQ (bO aO eZ (aJ 0) (aJ 1) (fun _ _=>rfl)))) bG)
 (aK (bQ bI)))
theorem zDJ(F:Fn K mg "_law_made" tL ["top","bottom"] f fd):CanM P w K mg base (k+1) "_law_made" ["top","bottom"] cN:=
  aM F fL fun cdv A outer s H E G W WR=>(aF (bD (i:=2) fL.nd rfl (Or.inl rfl) (aT uP zGo rfl B.abs Mf (aA (aJ 0) aE aB)))
 (aF (bD (i:=3) fL.nd rfl (Or.inl rfl) (aT uP zGo rfl B.abs Mf (aA (aJ 1) aE aB)))
 (aF (zAn W.own (tst zLN zRy (aJ 3) bI (aX _)) (aF (bD (i:=4) fL.nd rfl (Or.inl rfl) (aS cH iV (aJ 2) (aJ 3)))
 (aF (bD (i:=2) fL.nd rfl (Or.inl rfl) (aJ 3))
 (aK (bD (i:=3) fL.nd rfl (Or.inl rfl) (aJ 4))))))
 (aF (gI (tst nV zCx (aJ 1) bI (aX _)) (aK (bD (i:=2) fL.nd rfl (Or.inl rfl) (aS qL zAY bI (aJ 2)))) bG)
 (aK (bQ (dM (aA (aS cD iJ (aJ 0) (aJ 2)) (aA (aS cD iJ (aJ 1) (aJ 2)) aE bA) bA))))))))
theorem zEp(F:Fn K mg "_law_less" sL ["one","two"] f fd):CanM P w K mg base (k+1) "_law_less" ["one","two"] dF:=
 aM F zDQ fun cdv A outer s H E G W WR=>(aK (bQ (wJ nV zCx (aS bV gJ (eG 0) (eG 1)) (aS bV gJ (eG 1) (eG 0)) (aX _))))
theorem zGr(F:Fn K mg "_law_mix" xF ["cell","k"] f fd):CanM P w K mg base (k+1) "_law_mix" ["cell","k"] nO:=
 aM F zGG fun cdv A outer s H E G W WR=>(aK (bQ (aS cH iV (aS dL lH (aS dL lH (aS bV gJ (aJ 0) bI) (aS bV gJ bI (aJ 1))) bI) bI)))
theorem zEe(F:Fn K mg "_law_knot" oJ ["kids","mix","plan"] f fd):CanM P w K mg base (k+1) "_law_knot" ["kids","mix","plan"] eT:=
  aM F hU fun cdv A outer s H E G W WR=>(aF (bD (i:=3) hU.nd rfl (Or.inl rfl) (bO aO eZ (PEf.d (bU (aA (gM cJ fun _=>.str _) (aA (gM cJ fun _=>.str _) (aA (gM cJ fun _=>.str _) (aA (gM cJ fun _=>.str _) (aA (gM cJ fun _=>.str _) (aA (gM cJ fun _=>.str _) aE bE) bE) bE) bE) bE) bE))) (aS cH iV (aS cD iJ (aJ 1) bI) bI) (fun _ _=>rfl)))
 (aF (bD (i:=4) hU.nd rfl (Or.inl rfl) (dM aE))
 (aF (gI (tst (inA W.u) zSO (aJ 3) (dM (aA (gM cJ fun _=>.str _) (aA (gM cJ fun _=>.str _) aE bE) bE)) (by with_unfolding_all rfl)) (aF (bD (i:=5) hU.nd rfl (Or.inr rfl) (bO aO eZ (PEf.d (bU (aA bI (aA (aS pC zES bI bI) aE bA) bE))) (aS cD iJ (aS cH iV (aS cD iJ (aJ 2) bI) bI) bI) (fun _ _=>rfl)))
 (aK (bD (i:=4) hU.nd rfl (Or.inl rfl) (rN lK zKk rfl B.tuple Mh (aA (PEf.d (fI W hU.nd rfl (sc:=aH oJ) rfl rfl (by decide +kernel) (zHs rfl B.range (aA (aT aR dW rfl B.len Q4 (aA (aJ 0) aE aB)) aE aL)) (fun C2 s2 H2 fp2 G W=>⟨jZ,(aS dL lH bI (aS cH iV (aS cD iJ (aS cH iV (aS pC zES (aS dL lH (aS dL lH (aJ 1) (aS bV gJ bI (aJ 6))) bI) bI) bI) bI) (aJ 5)))⟩))) aE))))) bG)
 (aK (bQ (dM (aA (aJ 3) (aA (aJ 4) (aA (rN lK zKk rfl B.tuple Mh (aA (aJ 0) aE aB)) aE aL) aB) aB)))))))
theorem zOH(F:Fn K mg "made" zHv ["top","bottom"] f fd)(Qam:CanM P w K mg base k "common_divisor" ["one","two"] dU):CanM P w K mg base (k+1) "made" ["top","bottom"] jM:=
  aM F zEO fun cdv A outer s H E G W WR=>(aF (gI (tst (eqA W.u) rZ (aJ 1) bI (aX _)) (aK (hJ W WR R.NoFraction rfl (aA (gM cJ fun _=>.str _) aE bE))) bG)
 (aF (bD (i:=2) zEO.nd rfl (Or.inl rfl) (aI W Qam rfl (aA (aJ 0) (aA (aJ 1) aE aB) aB)))
 (aF (gI (tst nV zCx (aJ 1) bI (aX _)) (aK (bD (i:=2) zEO.nd rfl (Or.inl rfl) (nZ (aJ 2)))) bG)
 (aK (bQ (dM (aA (aS cD iJ (aJ 0) (aJ 2)) (aA (aS cD iJ (aJ 1) (aJ 2)) aE bA) bA)))))))
theorem zIQ(F:Fn K mg "lesser" zAt ["one","two"] f fd)(Qcd:CanM P w K mg base k "less" ["one","two"] fU):CanM P w K mg base (k+1) "lesser" ["one","two"] lN:=
 aM F zHw fun cdv A outer s H E G W WR=>(aK (bQ (zOL (uH (aI W Qcd rfl (aA (aJ 0) (aA (aJ 1) aE aB) aB))) (aJ 0) (aJ 1))))
theorem zBq(F:Fn K mg "is_outside" nI ["amount","most"] f fd)(Qcd:CanM P w K mg base k "less" ["one","two"] fU):CanM P w K mg base (k+1) "is_outside" ["amount","most"] eN:=
 aM F zBM fun cdv A outer s H E G W WR=>(aK (bQ (zSI (aI W Qcd rfl (aA (aJ 0) (aA (bK rfl C.NOUGHT) aE aB) aB)) (zMq (aI W Qcd rfl (aA (aJ 1) (aA (aJ 0) aE aB) aB))))))
theorem zIq(F:Fn K mg "looked" zAZ ["way","weights","claims"] f fd)(Qaz:CanM P w K mg base k "refuse_way" ["way"] eQ)(Qao:CanM P w K mg base k "refuse_claims" ["claims"] eK)(Qak:CanM P w K mg base k "refuse_weights" ["way","weights","many"] bX):CanM P w K mg base (k+1) "looked" ["way","weights","claims"] lW:=
  aM F zKs fun cdv A outer s H E G W WR=>(aF (mU (aI W Qaz rfl (aA (aJ 0) aE aB)))
 (aF (mU (aI W Qao rfl (aA (aJ 2) aE aB)))
 (aK (mU (aI W Qak rfl (aA (aJ 0) (aA (aJ 1) (aA (aT aR dW rfl B.len Q4 (aA (aJ 2) aE aB)) aE aL) aB) aB))))))
theorem vC(F:Fn K mg "contrary_way" kO ["way"] f fd)(Qaz:CanM P w K mg base k "refuse_way" ["way"] eQ):CanM P w K mg base (k+1) "contrary_way" ["way"] dY:=
  aM F wK fun cdv A outer s H E G W WR=>(aF (mU (aI W Qaz rfl (aA (aJ 0) aE aB)))
 (aK (bQ (zMG C.CONTRARY.choose_spec rfl (aJ 0) (fun _ _=>rfl)))))
theorem zGu(F:Fn K mg "kids_of" vM ["custom"] f fd)(Qbq:CanM P w K mg base k "is_boat" ["custom"] cI):CanM P w K mg base (k+1) "kids_of" ["custom"] dA:=
 aM F zGS fun cdv A outer s H E G W WR=>(aK (bQ (zOL (uH (aI W Qbq rfl (aA (aJ 0) aE aB))) (dM aE) (eG 0))))
theorem zBE(F:Fn K mg "refuse_bad" nS ["points"] f fd)(Qcd:CanM P w K mg base k "less" ["one","two"] fU):CanM P w K mg base (k+1) "refuse_bad" ["points"] iF:=
  aM F iZ fun cdv A outer s H E G W WR=>(aF (gI (tst (eqA W.u) rZ (aT aR dW rfl B.len Q4 (aA (aJ 0) aE aB)) bI (aX _)) (aK (hJ W WR R.BadLine rfl (aA (gM cJ fun _=>.str _) aE bE))) bG)
 (aF (gI (tst (neA W.u) zKA (eG 0) (dM (aA (bK rfl C.NOUGHT) (aA (bK rfl C.NOUGHT) aE aB) aB)) (aX _)) (aK (hJ W WR R.BadLine rfl (aA (gM cJ fun _=>.str _) aE bE))) bG)
 (aK (nG W.own W.calm (zPW rfl B.range (aA bI (aA (aT aR dW rfl B.len Q4 (aA (aJ 0) aE aB)) aE aL) bE)) (eO (i:=1) iZ.nd rfl (Or.inl rfl)) bT (aF (bD (i:=2) iZ.nd rfl (Or.inl rfl) (bO aO eZ (aJ 0) (aS qL zAY (aJ 1) bI) (fun _ _=>rfl)))
 (aF (bD (i:=3) iZ.nd rfl (Or.inl rfl) (bO aO eZ (aJ 0) (aJ 1) (fun _ _=>rfl)))
 (aF (gI (zLr (uH (aI W Qcd rfl (aA (bO aO eZ (aJ 2) (bK rfl C.ACROSS) (fun _ _=>rfl)) (aA (bO aO eZ (aJ 3) (bK rfl C.ACROSS) (fun _ _=>rfl)) aE aP) aP)))) (aK (hJ W WR R.BadLine rfl (aA (gM cJ fun _=>.str _) aE bE))) bG)
 (aK (gI (uH (aI W Qcd rfl (aA (bO aO eZ (aJ 3) (bK rfl C.UP) (fun _ _=>rfl)) (aA (bO aO eZ (aJ 2) (bK rfl C.UP) (fun _ _=>rfl)) aE aP) aP))) (aK (hJ W WR R.BadLine rfl (aA (gM cJ fun _=>.str _) aE bE))) bG)))))))))
theorem tE(F:Fn K mg "first_reaching" iR ["line","axis","amount"] f fd)(Qcd:CanM P w K mg base k "less" ["one","two"] fU):CanM P w K mg base (k+1) "first_reaching" ["line","axis","amount"] bW:=
  aM F cO fun cdv A outer s H E G W WR=>(aF (bD (i:=3) cO.nd rfl (Or.inl rfl) bI)
 (aF (bD (i:=4) cO.nd rfl (Or.inl rfl) (aS qL zAY (aT aR dW rfl B.len Q4 (aA (aJ 0) aE aB)) bI))
 (aF (zAn W.own (tst nV zCx (aJ 3) (aJ 4) (aX _)) (aF (bD (i:=5) cO.nd rfl (Or.inl rfl) (aS cD iJ (aS dL lH (aJ 3) (aJ 4)) bI))
 (aK (gI (uH (aI W Qcd rfl (aA (bO aO eZ (bO aO eZ (aJ 0) (aJ 5) (fun _ _=>rfl)) (aJ 1) (fun _ _=>rfl)) (aA (aJ 2) aE aB) aP))) (aK (bD (i:=3) cO.nd rfl (Or.inl rfl) (aS dL lH (aJ 5) bI))) (aK (bD (i:=4) cO.nd rfl (Or.inl rfl) (aJ 5)))))))
 (aK (bQ (aJ 3))))))
theorem zKd(F:Fn K mg "merged" zBC ["one","two"] f fd)(Qcd:CanM P w K mg base k "less" ["one","two"] fU):CanM P w K mg base (k+1) "merged" ["one","two"] rM:=
  aM F kZ fun cdv A outer s H E G W WR=>(aF (pI (i:=2) kZ.nd rfl (Or.inl rfl) (bU aE))
 (aF (bD (i:=3) kZ.nd rfl (Or.inl rfl) bI)
 (aF (nG W.own W.calm (jB (aJ 0)) (eO (i:=4) kZ.nd rfl (Or.inl rfl)) bT (aF (zAn W.own (PWd.pt (zHb (tst nV zCx (aJ 3) (aT aR dW rfl B.len Q4 (aA (aJ 1) aE aB)) (aX _)) (zI (uH (aI W Qcd rfl (aA (bO aO eZ (aJ 1) (aJ 3) (fun _ _=>rfl)) (aA (aJ 4) aE aB) aP)))))) (aF (zBL (i:=2) (pv 2) (bO aO eZ (aJ 1) (aJ 3) (fun _ _=>rfl)))
 (aK (zGD (i:=3) kZ.nd rfl (Or.inl rfl) bI zFZ zBh uM))))
 (aF (gI (PWd.pt (zHb (tst nV zCx (aJ 3) (aT aR dW rfl B.len Q4 (aA (aJ 1) aE aB)) (aX _)) (zI (tst (eqA W.u) rZ (bO aO eZ (aJ 1) (aJ 3) (fun _ _=>rfl)) (aJ 4) (aX _))))) (aK (zGD (i:=3) kZ.nd rfl (Or.inl rfl) bI zFZ zBh uM)) bG)
 (aK (zBL (i:=2) (pv 2) (aJ 4))))))
 (aF (zHO (i:=2) (pv 2) (lL (aJ 1) (lP (aJ 3)) xC))
 (aK (iA 2 (pv 2)))))))
theorem zAU(F:Fn K mg "row_joints" nU ["claims"] f fd)(Qb7:CanM P w K mg base k "whole" ["number"] bM):CanM P w K mg base (k+1) "row_joints" ["claims"] fV:=
  aM F gD fun cdv A outer s H E G W WR=>(aF (bD (i:=1) gD.nd rfl (Or.inl rfl) bI)
 (aF (pI (i:=2) gD.nd rfl (Or.inl rfl) (bU (aA (bK rfl C.NOUGHT) aE aB)))
 (aF (nG W.own W.calm (jB (aJ 0)) (eO (i:=3) gD.nd rfl (Or.inl rfl)) bT (aF (zGD (i:=1) gD.nd rfl (Or.inl rfl) (aJ 3) zFZ zBh uM)
 (aK (zBL (i:=2) (pv 2) (aI W Qb7 rfl (aA (aJ 1) aE aB))))))
 (aK (iA 2 (pv 2))))))
theorem rH(F:Fn K mg "without_doubles" gX ["joints"] f fd)(Qcd:CanM P w K mg base k "less" ["one","two"] fU):CanM P w K mg base (k+1) "without_doubles" ["joints"] dG:=
  aM F gC fun cdv A outer s H E G W WR=>(aF (pI (i:=1) gC.nd rfl (Or.inl rfl) (lL (aJ 0) xC (lP bI)))
 (aF (nG W.own W.calm (jB (aJ 0)) (eO (i:=2) gC.nd rfl (Or.inl rfl)) bT (aK (gI (PTd.frz (uH (aI W Qcd rfl (aA (bO aO eZ (aJ 1) (nZ bI) (fun _ _=>rfl)) (aA (aJ 2) aE aB) aP)))) (aK (zBL (i:=1) (pv 1) (aJ 2))) bG)))
 (aK (iA 1 (pv 1)))))
theorem zDN(F:Fn K mg "_law_plus" sE ["one","two"] f fd)(Qbo:CanM P w K mg base k "_law_made" ["top","bottom"] cN):CanM P w K mg base (k+1) "_law_plus" ["one","two"] fQ:=
 aM F zFa fun cdv A outer s H E G W WR=>(aK (bQ (aI W Qbo rfl (aA (aS dL lH (aS bV gJ (eG 0) (eG 1)) (aS bV gJ (eG 1) (eG 0))) (aA (aS bV gJ (eG 0) (eG 1)) aE bA) bA))))
theorem zCm(F:Fn K mg "_law_minus" pG ["one","two"] f fd)(Qbo:CanM P w K mg base k "_law_made" ["top","bottom"] cN):CanM P w K mg base (k+1) "_law_minus" ["one","two"] fJ:=
 aM F zCq fun cdv A outer s H E G W WR=>(aK (bQ (aI W Qbo rfl (aA (aS qL zAY (aS bV gJ (eG 0) (eG 1)) (aS bV gJ (eG 1) (eG 0))) (aA (aS bV gJ (eG 0) (eG 1)) aE bA) bA))))
theorem zCI(F:Fn K mg "_law_times" pM ["one","two"] f fd)(Qbo:CanM P w K mg base k "_law_made" ["top","bottom"] cN):CanM P w K mg base (k+1) "_law_times" ["one","two"] jP:=
 aM F zCb fun cdv A outer s H E G W WR=>(aK (bQ (aI W Qbo rfl (aA (aS bV gJ (eG 0) (eG 1)) (aA (aS bV gJ (eG 0) (eG 1)) aE bA) bA))))
theorem rK(F:Fn K mg "_law_is_fraction" gZ ["found"] f fd)(Qbo:CanM P w K mg base k "_law_made" ["top","bottom"] cN):CanM P w K mg base (k+1) "_law_is_fraction" ["found"] cS:=
  aM F kL fun cdv A outer s H E G W WR=>(aF (gI (PWd.pt (zHo (zLr (uH (zFn KT.tuple rfl B.isinstance (aJ 0) (vJ (v:=.ty "tuple") rfl B.tuple Mh rfl)))) (uT (tst (neA W.u) zKA (aT aR dW rfl B.len Q4 (aA (aJ 0) aE aB)) bI (aX _))))) (aK (bQ (gM lD fun _=>.bl _))) bG)
 (aF (nG W.own W.calm (jB (aJ 0)) (eO (i:=1) kL.nd rfl (Or.inl rfl)) bT (aK (gI (PWd.pt (zHo (zLr (uH (zFn KT.int rfl B.isinstance (aJ 1) (vJ (v:=.ty "int") rfl B.int boot_int rfl)))) (uT (uH (zFn KT.bool rfl B.isinstance (aJ 1) (vJ (v:=.ty "bool") rfl B.bool boot_bool rfl)))))) (aK (bQ (gM lD fun _=>.bl _))) bG)))
 (aK (bQ (zQh (wJ zLN zRy (eG 0) bI (aX _)) (zMq (wJ (eqA W.u) rZ (aI W Qbo rfl (aA (eG 0) (aA (eG 0) aE aP) aP)) (aJ 0) (aX _))))))))
theorem zOy(F:Fn K mg "plus" zJQ ["one","two"] f fd)(Qce:CanM P w K mg base k "made" ["top","bottom"] jM):CanM P w K mg base (k+1) "plus" ["one","two"] mG:=
 aM F zNB fun cdv A outer s H E G W WR=>(aK (bQ (aI W Qce rfl (aA (aS dL lH (aS bV gJ (eG 0) (eG 1)) (aS bV gJ (eG 1) (eG 0))) (aA (aS bV gJ (eG 0) (eG 1)) aE bA) bA))))
theorem zKX(F:Fn K mg "minus" zEr ["one","two"] f fd)(Qce:CanM P w K mg base k "made" ["top","bottom"] jM):CanM P w K mg base (k+1) "minus" ["one","two"] cV:=
 aM F zLJ fun cdv A outer s H E G W WR=>(aK (bQ (aI W Qce rfl (aA (aS qL zAY (aS bV gJ (eG 0) (eG 1)) (aS bV gJ (eG 1) (eG 0))) (aA (aS bV gJ (eG 0) (eG 1)) aE bA) bA))))
theorem zLM(F:Fn K mg "times" zDM ["one","two"] f fd)(Qce:CanM P w K mg base k "made" ["top","bottom"] jM):CanM P w K mg base (k+1) "times" ["one","two"] dP:=
 aM F zKM fun cdv A outer s H E G W WR=>(aK (bQ (aI W Qce rfl (aA (aS bV gJ (eG 0) (eG 1)) (aA (aS bV gJ (eG 0) (eG 1)) aE bA) bA))))
theorem zNX(F:Fn K mg "over" zIB ["one","two"] f fd)(Qce:CanM P w K mg base k "made" ["top","bottom"] jM):CanM P w K mg base (k+1) "over" ["one","two"] qU:=
 aM F zOD fun cdv A outer s H E G W WR=>(aK (bQ (aI W Qce rfl (aA (aS bV gJ (eG 0) (eG 1)) (aA (aS bV gJ (eG 0) (eG 1)) aE bA) bA))))
theorem sJ(F:Fn K mg "refuse_outside" iU ["amount","most"] f fd)(Qat:CanM P w K mg base k "is_outside" ["amount","most"] eN):CanM P w K mg base (k+1) "refuse_outside" ["amount","most"] aU:=
 aM F sO fun cdv A outer s H E G W WR=>(aK (gI (uH (aI W Qat rfl (aA (aJ 0) (aA (aJ 1) aE aB) aB))) (aK (hJ W WR R.Outside rfl (aA (gM cJ fun _=>.str _) aE bE))) bG))
theorem zDp(F:Fn K mg "levels_of" lT ["weights","claims"] f fd)(Qce:CanM P w K mg base k "made" ["top","bottom"] jM):CanM P w K mg base (k+1) "levels_of" ["weights","claims"] eR:=
 aM F zCA fun cdv A outer s H E G W WR=>(aK (eH (vD (N:=["weights","claims"]) W (by decide +kernel) rfl (sc:=aH lT) rfl rfl (by decide +kernel) (zJP rfl B.zip (aA (aJ 1) (aA (aJ 0) aE aB) aB)) (fun C2 s2 H2 fp2 G W=>(aI W Qce rfl (aA (aJ 2) (aA (aJ 3) aE aB) aB))))))
theorem zBD(F:Fn K mg "_law_amount" mY ["cell","claim"] f fd)(Qbo:CanM P w K mg base k "_law_made" ["top","bottom"] cN)(Qbf:CanM P w K mg base k "_law_minus" ["one","two"] fJ)(Qbp:CanM P w K mg base k "_law_plus" ["one","two"] fQ):CanM P w K mg base (k+1) "_law_amount" ["cell","claim"] iL:=
  aM F jE fun cdv A outer s H E G W WR=>(aF (bD (i:=2) jE.nd rfl (Or.inl rfl) (aS cH iV (aS dL lH (aS bV gJ (aJ 0) bI) bI) bI))
 (aF (bD (i:=3) jE.nd rfl (Or.inl rfl) (aS dL lH bI (aS cH iV (aS cD iJ (aJ 2) bI) bI)))
 (aF (bD (i:=4) jE.nd rfl (Or.inl rfl) (bO aO eZ (PEf.d (bU (aA (dM (aA bI (aA bI aE bE) bE)) (aA (dM (aA bI (aA (aS pC zES bI bI) aE bA) bE)) aE iY) iY))) (aS cH iV (aS cD iJ (aJ 2) bI) bI) (fun _ _=>rfl)))
 (aF (gI (tst (eqA W.u) rZ (aS cH iV (aS cD iJ (aJ 2) bI) bI) bI (aX _)) (aK (bQ (aI W Qbf rfl (aA (dM (aA bI (aA bI aE bE) bE)) (aA (aJ 4) aE aB) iY)))) bG)
 (aF (gI (tst (eqA W.u) rZ (aS cH iV (aS cD iJ (aJ 2) bI) bI) bI (aX _)) (aK (bQ (aI W Qbp rfl (aA (dM (aA (aJ 1) (aA bI aE bE) aB)) (aA (aJ 4) aE aB) iY)))) bG)
 (aK (bQ (aI W Qbo rfl (aA (aS bV gJ (aJ 1) (aS cH iV (aS cD iJ (aJ 2) bI) (aS dL lH (aJ 3) bI))) (aA (aJ 3) aE aB) bA)))))))))
theorem zDi(F:Fn K mg "row_dealt" qA ["claims","catch"] f fd)(Qb4:CanM P w K mg base k "lesser" ["one","two"] lN)(Qb8:CanM P w K mg base k "minus" ["one","two"] cV)(Qb7:CanM P w K mg base k "whole" ["number"] bM):CanM P w K mg base (k+1) "row_dealt" ["claims","catch"] gO:=
  aM F fW fun cdv A outer s H E G W WR=>(aF (bD (i:=2) fW.nd rfl (Or.inl rfl) (aJ 1))
 (aF (pI (i:=3) fW.nd rfl (Or.inl rfl) (bU aE))
 (aF (nG W.own W.calm (jB (aJ 0)) (eO (i:=4) fW.nd rfl (Or.inl rfl)) bT (aF (bD (i:=5) fW.nd rfl (Or.inl rfl) (aI W Qb4 rfl (aA (aJ 2) (aA (aI W Qb7 rfl (aA (aJ 4) aE aB)) aE aL) aB)))
 (aF (zBL (i:=3) (pv 3) (aJ 5))
 (aK (bD (i:=2) fW.nd rfl (Or.inl rfl) (aI W Qb8 rfl (aA (aJ 2) (aA (aJ 5) aE aB) aB)))))))
 (aK (iA 3 (pv 3))))))
theorem zAP(F:Fn K mg "even_dealt" mT ["weights","claims","catch"] f fd)(Qb2:CanR P w K mg base k kC)(Qa7:CanM P w K mg base k "levels_of" ["weights","claims"] eR)(Qcc:CanM P w K mg base k "over" ["one","two"] qU)(Qb4:CanM P w K mg base k "lesser" ["one","two"] lN)(Qb8:CanM P w K mg base k "minus" ["one","two"] cV)(Qb9:CanM P w K mg base k "times" ["one","two"] dP)(Qb7:CanM P w K mg base k "whole" ["number"] bM):CanM P w K mg base (k+1) "even_dealt" ["weights","claims","catch"] dN:=
  aM F dC fun cdv A outer s H E G W WR=>(aF (bD (i:=3) dC.nd rfl (Or.inl rfl) (aJ 2))
 (aF (bD (i:=4) dC.nd rfl (Or.inl rfl) (aT (jC W.calm) qJ rfl B.sum gH (aA (aJ 0) aE aB)))
 (aF (pI (i:=5) dC.nd rfl (Or.inl rfl) (zFI (bU (aA (bK rfl C.NOUGHT) aE aB)) (aT aR dW rfl B.len Q4 (aA (aJ 1) aE aB))))
 (zJa W Qb2 zQT zMS rfl (aA (PEf.d (bJ W Qa7 rfl (aA (aJ 0) (aA (aJ 1) aE aB) aB))) aE aL) (eO (i:=6) dC.nd rfl (Or.inl rfl)) bT (aF (bD (i:=7) dC.nd rfl (Or.inl rfl) (aI W Qcc rfl (aA (aI W Qb9 rfl (aA (aJ 3) (aA (aI W Qb7 rfl (aA (bO aO eZ (aJ 0) (aJ 6) (fun _ _=>rfl)) aE aP)) aE aL) aB)) (aA (aI W Qb7 rfl (aA (aJ 4) aE aB)) aE aL) aL)))
 (aF (zSE (i:=5) (pv 5) (aJ 6) (aI W Qb4 rfl (aA (aJ 7) (aA (aI W Qb7 rfl (aA (bO aO eZ (aJ 1) (aJ 6) (fun _ _=>rfl)) aE aP)) aE aL) aB)))
 (aF (bD (i:=3) dC.nd rfl (Or.inl rfl) (PEd.frz (aI W Qb8 rfl (aA (aJ 3) (aA (bO aO eZ (aJ 5) (aJ 6) (fun _ _=>rfl)) aE aP) aB))))
 (aK (zGD (i:=4) dC.nd rfl (Or.inl rfl) (bO aO eZ (aJ 0) (aJ 6) (fun _ _=>rfl)) zMK zJq zFO))))) (aK (iA 5 (pv 5)))))))
theorem zBS(F:Fn K mg "part_dealt" kB ["claims","catch"] f fd)(Qcc:CanM P w K mg base k "over" ["one","two"] qU)(Qb7:CanM P w K mg base k "whole" ["number"] bM)(Qb9:CanM P w K mg base k "times" ["one","two"] dP):CanM P w K mg base (k+1) "part_dealt" ["claims","catch"] fS:=
  aM F iX fun cdv A outer s H E G W WR=>(aF (bD (i:=2) iX.nd rfl (Or.inl rfl) (aT (jC W.calm) qJ rfl B.sum gH (aA (aJ 0) aE aB)))
 (aF (gI (tst (eqA W.u) rZ (aJ 2) bI (aX _)) (aK (eH (zFI (bU (aA (bK rfl C.NOUGHT) aE aB)) (aT aR dW rfl B.len Q4 (aA (aJ 0) aE aB))))) bG)
 (aF (bD (i:=3) iX.nd rfl (Or.inr rfl) (aI W Qcc rfl (aA (aJ 1) (aA (aI W Qb7 rfl (aA (aJ 2) aE aB)) aE aL) aB)))
 (aK (eH (fI W iX.nd rfl (sc:=aH kB) rfl rfl (by decide +kernel) (jB (aJ 0)) (fun C2 s2 H2 fp2 G W=>⟨jZ,(aI W Qb9 rfl (aA (aJ 3) (aA (aI W Qb7 rfl (aA (aJ 4) aE aB)) aE aL) aB))⟩)))))))
theorem zBH(F:Fn K mg "is_between" nH ["ahead","point","later"] f fd)(Qb8:CanM P w K mg base k "minus" ["one","two"] cV)(Qb9:CanM P w K mg base k "times" ["one","two"] dP):CanM P w K mg base (k+1) "is_between" ["ahead","point","later"] iM:=
  aM F fX fun cdv A outer s H E G W WR=>(aF (bD (i:=3) fX.nd rfl (Or.inl rfl) (aI W Qb8 rfl (aA (bO aO eZ (aJ 1) (bK rfl C.UP) (fun _ _=>rfl)) (aA (bO aO eZ (aJ 0) (bK rfl C.UP) (fun _ _=>rfl)) aE aP) aP)))
 (aF (bD (i:=4) fX.nd rfl (Or.inl rfl) (aI W Qb8 rfl (aA (bO aO eZ (aJ 2) (bK rfl C.UP) (fun _ _=>rfl)) (aA (bO aO eZ (aJ 1) (bK rfl C.UP) (fun _ _=>rfl)) aE aP) aP)))
 (aF (bD (i:=5) fX.nd rfl (Or.inl rfl) (aI W Qb8 rfl (aA (bO aO eZ (aJ 1) (bK rfl C.ACROSS) (fun _ _=>rfl)) (aA (bO aO eZ (aJ 0) (bK rfl C.ACROSS) (fun _ _=>rfl)) aE aP) aP)))
 (aF (bD (i:=6) fX.nd rfl (Or.inl rfl) (aI W Qb8 rfl (aA (bO aO eZ (aJ 2) (bK rfl C.ACROSS) (fun _ _=>rfl)) (aA (bO aO eZ (aJ 1) (bK rfl C.ACROSS) (fun _ _=>rfl)) aE aP) aP)))
 (aK (bQ (wJ (eqA W.u) rZ (aI W Qb9 rfl (aA (aJ 3) (aA (aJ 6) aE aB) aB)) (aI W Qb9 rfl (aA (aJ 4) (aA (aJ 5) aE aB) aB)) (aX _))))))))
theorem zPM(F:Fn K mg "met" zNc ["line","axis","amount"] f fd)(Qan:CanM P w K mg base k "first_reaching" ["line","axis","amount"] bW)(Qcc:CanM P w K mg base k "over" ["one","two"] qU)(Qcb:CanM P w K mg base k "plus" ["one","two"] mG)(Qb8:CanM P w K mg base k "minus" ["one","two"] cV)(Qb9:CanM P w K mg base k "times" ["one","two"] dP):CanM P w K mg base (k+1) "met" ["line","axis","amount"] qN:=
  aM F zQ fun cdv A outer s H E G W WR=>(aF (bD (i:=3) zQ.nd rfl (Or.inl rfl) (aS qL zAY bI (aJ 1)))
 (aF (bD (i:=4) zQ.nd rfl (Or.inl rfl) (aI W Qan rfl (aA (aJ 0) (aA (aJ 1) (aA (aJ 2) aE aB) aB) aB)))
 (aF (bD (i:=5) zQ.nd rfl (Or.inl rfl) (bO aO eZ (aJ 0) (aJ 4) (fun _ _=>rfl)))
 (aF (gI (tst (eqA W.u) rZ (bO aO eZ (aJ 5) (aJ 1) (fun _ _=>rfl)) (aJ 2) (aX _)) (aK (bQ (bO aO eZ (aJ 5) (aJ 3) (fun _ _=>rfl)))) bG)
 (aF (bD (i:=6) zQ.nd rfl (Or.inl rfl) (bO aO eZ (aJ 0) (aS qL zAY (aJ 4) bI) (fun _ _=>rfl)))
 (aF (bD (i:=7) zQ.nd rfl (Or.inl rfl) (aI W Qcc rfl (aA (aI W Qb8 rfl (aA (aJ 2) (aA (bO aO eZ (aJ 6) (aJ 1) (fun _ _=>rfl)) aE aP) aB)) (aA (aI W Qb8 rfl (aA (bO aO eZ (aJ 5) (aJ 1) (fun _ _=>rfl)) (aA (bO aO eZ (aJ 6) (aJ 1) (fun _ _=>rfl)) aE aP) aP)) aE aL) aL)))
 (aK (bQ (aI W Qcb rfl (aA (bO aO eZ (aJ 6) (aJ 3) (fun _ _=>rfl)) (aA (aI W Qb9 rfl (aA (aJ 7) (aA (aI W Qb8 rfl (aA (bO aO eZ (aJ 5) (aJ 3) (fun _ _=>rfl)) (aA (bO aO eZ (aJ 6) (aJ 3) (fun _ _=>rfl)) aE aP) aP)) aE aL) aB)) aE aL) aP))))))))))
theorem xZ(F:Fn K mg "even_joints" lX ["weights","claims"] f fd)(Qa7:CanM P w K mg base k "levels_of" ["weights","claims"] eR)(Qb2:CanR P w K mg base k kC)(Qcb:CanM P w K mg base k "plus" ["one","two"] mG)(Qb7:CanM P w K mg base k "whole" ["number"] bM)(Qb9:CanM P w K mg base k "times" ["one","two"] dP):CanM P w K mg base (k+1) "even_joints" ["weights","claims"] dR:=
  aM F cM fun cdv A outer s H E G W WR=>(aF (bD (i:=2) cM.nd rfl (Or.inl rfl) bI)
 (aF (bD (i:=3) cM.nd rfl (Or.inl rfl) (aT (jC W.calm) qJ rfl B.sum gH (aA (aJ 0) aE aB)))
 (aF (bD (i:=4) cM.nd rfl (Or.inl rfl) (PEf.d (bJ W Qa7 rfl (aA (aJ 0) (aA (aJ 1) aE aB) aB))))
 (aF (pI (i:=5) cM.nd rfl (Or.inl rfl) (bU (aA (bK rfl C.NOUGHT) aE aB)))
 (zJa W Qb2 zQT zMS rfl (aA (aJ 4) aE aB) (eO (i:=6) cM.nd rfl (Or.inl rfl)) bT (aF (zBL (i:=5) (pv 5) (aI W Qcb rfl (aA (aI W Qb7 rfl (aA (aJ 2) aE aB)) (aA (aI W Qb9 rfl (aA (bO aO eZ (aJ 4) (aJ 6) (fun _ _=>rfl)) (aA (aI W Qb7 rfl (aA (aJ 3) aE aB)) aE aL) aP)) aE aL) aL)))
 (aF (zGD (i:=2) cM.nd rfl (Or.inl rfl) (bO aO eZ (aJ 1) (aJ 6) (fun _ _=>rfl)) zFZ zBh uM)
 (aK (zGD (i:=3) cM.nd rfl (Or.inl rfl) (bO aO eZ (aJ 0) (aJ 6) (fun _ _=>rfl)) zMK zJq zFO)))) (aK (iA 5 (pv 5))))))))
theorem zEX(F:Fn K mg "mirrored" oP ["joints","most"] f fd)(Qb8:CanM P w K mg base k "minus" ["one","two"] cV):CanM P w K mg base (k+1) "mirrored" ["joints","most"] hZ:=
 aM F wG fun cdv A outer s H E G W WR=>(aK (eH (fI W wG.nd rfl (sc:=aH oP) rfl rfl (by decide +kernel) (zPL rfl B.reversed (aJ 0)) (fun C2 s2 H2 fp2 G W=>⟨jZ,(aI W Qb8 rfl (aA (aJ 1) (aA (aJ 2) aE aB) aB))⟩))))
theorem zAg(F:Fn K mg "half_dealt" kJ ["claims","catch"] f fd)(Qb9:CanM P w K mg base k "times" ["one","two"] dP)(Qay:CanM P w K mg base k "even_dealt" ["weights","claims","catch"] dN)(Qcb:CanM P w K mg base k "plus" ["one","two"] mG):CanM P w K mg base (k+1) "half_dealt" ["claims","catch"] fR:=
  aM F lU fun cdv A outer s H E G W WR=>(aF (bD (i:=2) lU.nd rfl (Or.inl rfl) (PEf.d (zFI (bU (aA bI aE bE)) (aT aR dW rfl B.len Q4 (aA (aJ 0) aE aB)))))
 (aK (eH (fI W lU.nd rfl (sc:=aH kJ) rfl rfl (by decide +kernel) (jB (PEf.d (bJ W Qay rfl (aA (aJ 2) (aA (aJ 0) (aA (aI W Qcb rfl (aA (aJ 1) (aA (aJ 1) aE aB) aB)) aE aL) aB) aB)))) (fun C2 s2 H2 fp2 G W=>⟨jZ,(aI W Qb9 rfl (aA (aJ 3) (aA (bK rfl C.HALF) aE aB) aB))⟩)))))
theorem zGM(F:Fn K mg "line_of" wN ["points"] f fd)(Qa1:CanM P w K mg base k "refuse_bad" ["points"] iF)(Qav:CanM P w K mg base k "is_between" ["ahead","point","later"] iM):CanM P w K mg base (k+1) "line_of" ["points"] fE:=
  aM F sN fun cdv A outer s H E G W WR=>(aF (mU (aI W Qa1 rfl (aA (aJ 0) aE aB)))
 (aF (pI (i:=1) sN.nd rfl (Or.inl rfl) (bU aE))
 (aF (nG W.own W.calm (jB (aJ 0)) (eO (i:=2) sN.nd rfl (Or.inl rfl)) bT (aF (gI (PTd.frz (PWd.pt (zHb (tst zLN zRy (aT aR dW rfl B.len Q4 (aA (aJ 1) aE aB)) bI (aX _)) (zI (uH (aI W Qav rfl (aA (bO aO eZ (aJ 1) (nZ bI) (fun _ _=>rfl)) (aA (bO aO eZ (aJ 1) (nZ bI) (fun _ _=>rfl)) (aA (aJ 2) aE aB) aP) aP))))))) (aK (zRO (i:=1) (pv 1))) bG)
 (aK (zBL (i:=1) (pv 1) (aJ 2)))))
 (aK (bQ (rN lK zKk rfl B.tuple Mh (aA (aJ 1) aE aB)))))))
theorem zLz(F:Fn K mg "value" zDY ["line","x"] f fd)(Qal:CanM P w K mg base k "refuse_outside" ["amount","most"] aU)(Qcg:CanM P w K mg base k "met" ["line","axis","amount"] qN)(Qbz:CanM P w K mg base k "length" ["line"] mC):CanM P w K mg base (k+1) "value" ["line","x"] sF:=
  aM F zLu fun cdv A outer s H E G W WR=>(aF (mU (aI W Qal rfl (aA (aJ 1) (aA (aI W Qbz rfl (aA (aJ 0) aE aB)) aE aL) aB)))
 (aK (bQ (aI W Qcg rfl (aA (aJ 0) (aA (bK rfl C.ACROSS) (aA (aJ 1) aE aB) aB) aB)))))
theorem zHh(F:Fn K mg "stretch" vH ["line","y"] f fd)(Qal:CanM P w K mg base k "refuse_outside" ["amount","most"] aU)(Qcg:CanM P w K mg base k "met" ["line","axis","amount"] qN)(Qby:CanM P w K mg base k "height" ["line"] lS)(Qan:CanM P w K mg base k "first_reaching" ["line","axis","amount"] bW):CanM P w K mg base (k+1) "stretch" ["line","y"] iE:=
  aM F tI fun cdv A outer s H E G W WR=>(aF (mU (aI W Qal rfl (aA (aJ 1) (aA (aI W Qby rfl (aA (aJ 0) aE aB)) aE aL) aB)))
 (aF (bD (i:=2) tI.nd rfl (Or.inl rfl) (aI W Qcg rfl (aA (aJ 0) (aA (bK rfl C.UP) (aA (aJ 1) aE aB) aB) aB)))
 (aF (bD (i:=3) tI.nd rfl (Or.inl rfl) (bO aO eZ (aJ 0) (aT (zKr W.calm) zQI rfl B.min boot_min (aA (aS dL lH (aI W Qan rfl (aA (aJ 0) (aA (bK rfl C.UP) (aA (aJ 1) aE aB) aB) aB)) bI) (aA (aS qL zAY (aT aR dW rfl B.len Q4 (aA (aJ 0) aE aB)) bI) aE bA) bA)) (fun _ _=>rfl)))
 (aF (gI (tst (eqA W.u) rZ (bO aO eZ (aJ 3) (bK rfl C.UP) (fun _ _=>rfl)) (aJ 1) (aX _)) (aK (bQ (dM (aA (aJ 2) (aA (bO aO eZ (aJ 3) (bK rfl C.ACROSS) (fun _ _=>rfl)) aE aP) aB)))) bG)
 (aK (bQ (dM (aA (aJ 2) (aA (aJ 2) aE aB) aB))))))))
theorem zIN(F:Fn K mg "behind" qQ ["one","two"] f fd)(Qb3:CanM P w K mg base k "merged" ["one","two"] rM)(Qbr:CanM P w K mg base k "line_of" ["points"] fE)(Qbz:CanM P w K mg base k "length" ["line"] mC)(Qby:CanM P w K mg base k "height" ["line"] lS)(Qcg:CanM P w K mg base k "met" ["line","axis","amount"] qN)(Qbw:CanM P w K mg base k "places" ["line"] oQ)(Qb6:CanM P w K mg base k "value" ["line","x"] sF):CanM P w K mg base (k+1) "behind" ["one","two"] iB:=
  aM F nL fun cdv A outer s H E G W WR=>(aF (gI (tst (neA W.u) zKA (aI W Qbz rfl (aA (aJ 0) aE aB)) (aI W Qby rfl (aA (aJ 1) aE aB)) (aX _)) (aK (hJ W WR R.Unlike rfl (aA (gM cJ fun _=>.str _) aE bE))) bG)
 (aF (zMR (i:=2) nL.nd rfl (Or.inl rfl) (PCf.d (zFN W nL.nd rfl (sc:=aH qQ) rfl rfl (by decide +kernel) (jB (PEf.d (bJ W Qbw rfl (aA (aJ 0) aE aB)))) (fun C2 s2 H2 fp2 G W=>⟨jZ,(aI W Qcg rfl (aA (aJ 1) (aA (bK rfl C.UP) (aA (aJ 4) aE aB) aB) aB))⟩))) rfl)
 (aF (bD (i:=3) nL.nd rfl (Or.inl rfl) (PEf.d (bJ W Qb3 rfl (aA (PEf.d (bJ W Qbw rfl (aA (aJ 1) aE aB))) (aA (aJ 2) aE aB) aL))))
 (aK (bQ (aI W Qbr rfl (aA (PEf.d (fI W nL.nd rfl (sc:=aH qQ) rfl rfl (by decide +kernel) (jB (aJ 3)) (fun C2 s2 H2 fp2 G W=>⟨jZ,(dM (aA (aJ 4) (aA (aI W Qb6 rfl (aA (aJ 0) (aA (aI W Qb6 rfl (aA (aJ 1) (aA (aJ 4) aE aB) aB)) aE aL) aB)) aE aL) aB))⟩))) aE)))))))
theorem zHi(F:Fn K mg "line_at" qE ["joints","dealings","spot"] f fd)(Qbr:CanM P w K mg base k "line_of" ["points"] fE):CanM P w K mg base (k+1) "line_at" ["joints","dealings","spot"] nE:=
 aM F zGU fun cdv A outer s H E G W WR=>(aK (bQ (aI W Qbr rfl (aA (PEf.d (vD (N:=["joints","dealings","spot"]) W (by decide +kernel) rfl (sc:=aH qE) rfl rfl (by decide +kernel) (zJP rfl B.zip (aA (aJ 0) (aA (aJ 1) aE aB) aB)) (fun C2 s2 H2 fp2 G W=>(dM (aA (aJ 3) (aA (bO aO eZ (aJ 4) (aJ 2) (fun _ _=>rfl)) aE aP) aB))))) aE))))
theorem zEB(F:Fn K mg "straight" sV ["claim"] f fd)(Qbr:CanM P w K mg base k "line_of" ["points"] fE)(Qb7:CanM P w K mg base k "whole" ["number"] bM):CanM P w K mg base (k+1) "straight" ["claim"] gP:=
  aM F vW fun cdv A outer s H E G W WR=>(aF (bD (i:=1) vW.nd rfl (Or.inl rfl) (dM (aA (bK rfl C.NOUGHT) (aA (bK rfl C.NOUGHT) aE aB) aB)))
 (aF (gI (tst (eqA W.u) rZ (aJ 0) bI (aX _)) (aK (bQ (aI W Qbr rfl (aA (PEf.d (bU (aA (aJ 1) aE aB))) aE zFx)))) bG)
 (aK (bQ (aI W Qbr rfl (aA (PEf.d (bU (aA (aJ 1) (aA (dM (aA (aI W Qb7 rfl (aA (aJ 0) aE aB)) (aA (aI W Qb7 rfl (aA (aJ 0) aE aB)) aE aL) aL)) aE iY) aB))) aE zFx))))))
theorem zCo{r:Mir}(F:Fn K mg "joints_of" jT ["way","weights","claims"] f fd)(Qb7:CanM P w K mg base k "whole" ["number"] bM)(Qbg:CanM P w K mg base k "mirrored" ["joints","most"] hZ)(Qaw:CanM P w K mg base k "row_joints" ["claims"] fV)(Qar:CanM P w K mg base k "even_joints" ["weights","claims"] dR)(Qb9:CanM P w K mg base k "times" ["one","two"] dP)(Qaq:CanM P w K mg base k "contrary_way" ["way"] dY)(Qbe:CanM P w K mg base k "joints_of" ["way","weights","claims"] r):CanM P w K mg base (k+1) "joints_of" ["way","weights","claims"] (cG r):=
  aM F iK fun cdv A outer s H E G W WR=>(aF (bD (i:=3) iK.nd rfl (Or.inl rfl) (aI W Qb7 rfl (aA (aT (jC W.calm) qJ rfl B.sum gH (aA (aJ 2) aE aB)) aE aL)))
 (aF (gI (tst (eqA W.u) rZ (aJ 0) (gM cJ fun _=>.str _) (aX _)) (aK (eH (bJ W Qaw rfl (aA (aJ 2) aE aB)))) bG)
 (aF (gI (tst (eqA W.u) rZ (aJ 0) (gM cJ fun _=>.str _) (aX _)) (aK (eH (bJ W Qar rfl (aA (aJ 1) (aA (aJ 2) aE aB) aB)))) bG)
 (aF (gI (tst (eqA W.u) rZ (aJ 0) (gM cJ fun _=>.str _) (aX _)) (aK (eH (bU (aA (bK rfl C.NOUGHT) (aA (aJ 3) aE aB) aB)))) bG)
 (aF (gI (tst (eqA W.u) rZ (aJ 0) (gM cJ fun _=>.str _) (aX _)) (aF (zMR (i:=4) iK.nd rfl (Or.inl rfl) (PCf.d (zFN W iK.nd rfl (sc:=aH jT) rfl rfl (by decide +kernel) (jB (PEf.d (bJ W Qar rfl (aA (PEf.d (zFI (bU (aA bI aE bE)) (aT aR dW rfl B.len Q4 (aA (aJ 2) aE aB)))) (aA (aJ 2) aE aB) bA)))) (fun C2 s2 H2 fp2 G W=>⟨jZ,(aI W Qb9 rfl (aA (aJ 5) (aA (bK rfl C.HALF) aE aB) aB))⟩))) rfl)
 (aK (eH (zJH (aJ 4) (PEf.d (bJ W Qbg rfl (aA (aJ 4) (aA (aJ 3) aE aB) aB))))))) bG)
 (aK (eH (bJ W Qbg rfl (aA (PEf.d (bJ W Qbe rfl (aA (aI W Qaq rfl (aA (aJ 0) aE aB)) (aA (aJ 1) (aA (aJ 2) aE aB) aB) aL))) (aA (aJ 3) aE aB) aL)))))))))
theorem tU(F:Fn K mg "joints_of" jT ["way","weights","claims"] f fd)(Qb7:CanM P w K mg base k "whole" ["number"] bM)(Qbg:CanM P w K mg base k "mirrored" ["joints","most"] hZ)(Qaw:CanM P w K mg base k "row_joints" ["claims"] fV)(Qar:CanM P w K mg base k "even_joints" ["weights","claims"] dR)(Qb9:CanM P w K mg base k "times" ["one","two"] dP)(Qaq:CanM P w K mg base k "contrary_way" ["way"] dY):∀ n:Nat,CanM P w K mg base (k+1+n) "joints_of" ["way","weights","claims"] (bN n)
 | 0=>aM F iK fun cdv A outer s H E G W WR=>zFb
 | n+1=>zCo _ _ _ (k+1+n) B KT C R ET F (Qb7:=Qb7.mono (by omega)) (Qbg:=Qbg.mono (by omega)) (Qaw:=Qaw.mono (by omega)) (Qar:=Qar.mono (by omega)) (Qb9:=Qb9.mono (by omega)) (Qaq:=Qaq.mono (by omega)) (Qbe:=tU F (Qb7:=Qb7) (Qbg:=Qbg) (Qaw:=Qaw) (Qar:=Qar) (Qb9:=Qb9) (Qaq:=Qaq) n)
theorem uJ{r:Mir}(F:Fn K mg "rightly_dealt" eM ["way","weights","claims","catch"] f fd)(Qb7:CanM P w K mg base k "whole" ["number"] bM)(Qbc:CanM P w K mg base k "row_dealt" ["claims","catch"] gO)(Qay:CanM P w K mg base k "even_dealt" ["weights","claims","catch"] dN)(Qa4:CanM P w K mg base k "part_dealt" ["claims","catch"] fS)(Qax:CanM P w K mg base k "half_dealt" ["claims","catch"] fR)(Qb8:CanM P w K mg base k "minus" ["one","two"] cV)(Qcd:CanM P w K mg base k "less" ["one","two"] fU)(Qcb:CanM P w K mg base k "plus" ["one","two"] mG)(Qap:CanM P w K mg base k "rightly_dealt" ["way","weights","claims","catch"] r):CanM P w K mg base (k+1) "rightly_dealt" ["way","weights","claims","catch"] (aV r):=
  aM F fG fun cdv A outer s H E G W WR=>(aF (bD (i:=4) fG.nd rfl (Or.inl rfl) (aI W Qb7 rfl (aA (aT (jC W.calm) qJ rfl B.sum gH (aA (aJ 2) aE aB)) aE aL)))
 (aF (gI (tst (eqA W.u) rZ (aJ 0) (gM cJ fun _=>.str _) (aX _)) (aK (eH (bJ W Qbc rfl (aA (aJ 2) (aA (aJ 3) aE aB) aB)))) bG)
 (aF (gI (tst (eqA W.u) rZ (aJ 0) (gM cJ fun _=>.str _) (aX _)) (aK (eH (bJ W Qay rfl (aA (aJ 1) (aA (aJ 2) (aA (aJ 3) aE aB) aB) aB)))) bG)
 (aF (gI (tst (eqA W.u) rZ (aJ 0) (gM cJ fun _=>.str _) (aX _)) (aK (eH (bJ W Qa4 rfl (aA (aJ 2) (aA (aJ 3) aE aB) aB)))) bG)
 (aF (gI (PWd.pt (zHb (tst (eqA W.u) rZ (aJ 0) (gM cJ fun _=>.str _) (aX _)) (zI (zLr (uH (aI W Qcd rfl (aA (aJ 4) (aA (aI W Qcb rfl (aA (aJ 3) (aA (aJ 3) aE aB) aB)) aE aL) aB))))))) (aK (eH (bJ W Qax rfl (aA (aJ 2) (aA (aJ 3) aE aB) aB)))) bG)
 (aF (bD (i:=5) fG.nd rfl (Or.inl rfl) (PEf.d (bJ W Qap rfl (aA (zMG C.CONTRARY.choose_spec rfl (aJ 0) (fun _ _=>rfl)) (aA (aJ 1) (aA (aJ 2) (aA (aI W Qb8 rfl (aA (aJ 4) (aA (aJ 3) aE aB) aB)) aE aL) aB) aB) aP))))
 (aK (eH (vD (N:=["way","weights","claims","catch","most","lacking"]) W (by decide +kernel) rfl (sc:=aH eM) rfl rfl (by decide +kernel) (zJP rfl B.zip (aA (aJ 2) (aA (aJ 5) aE aB) aB)) (fun C2 s2 H2 fp2 G W=>(aI W Qb8 rfl (aA (aI W Qb7 rfl (aA (aJ 6) aE aB)) (aA (aJ 7) aE aB) aL))))))))))))
theorem mF(F:Fn K mg "rightly_dealt" eM ["way","weights","claims","catch"] f fd)(Qb7:CanM P w K mg base k "whole" ["number"] bM)(Qbc:CanM P w K mg base k "row_dealt" ["claims","catch"] gO)(Qay:CanM P w K mg base k "even_dealt" ["weights","claims","catch"] dN)(Qa4:CanM P w K mg base k "part_dealt" ["claims","catch"] fS)(Qax:CanM P w K mg base k "half_dealt" ["claims","catch"] fR)(Qb8:CanM P w K mg base k "minus" ["one","two"] cV)(Qcd:CanM P w K mg base k "less" ["one","two"] fU)(Qcb:CanM P w K mg base k "plus" ["one","two"] mG):∀ n:Nat,CanM P w K mg base (k+1+n) "rightly_dealt" ["way","weights","claims","catch"] (aQ n)
 | 0=>aM F fG fun cdv A outer s H E G W WR=>zFb
 | n+1=>uJ _ _ _ (k+1+n) B KT C R ET F (Qb7:=Qb7.mono (by omega)) (Qbc:=Qbc.mono (by omega)) (Qay:=Qay.mono (by omega)) (Qa4:=Qa4.mono (by omega)) (Qax:=Qax.mono (by omega)) (Qb8:=Qb8.mono (by omega)) (Qcd:=Qcd.mono (by omega)) (Qcb:=Qcb.mono (by omega)) (Qap:=mF F (Qb7:=Qb7) (Qbc:=Qbc) (Qay:=Qay) (Qa4:=Qa4) (Qax:=Qax) (Qb8:=Qb8) (Qcd:=Qcd) (Qcb:=Qcb) n)
theorem zLO(F:Fn K mg "dealt" zEU ["way","weights","claims","catch"] f fd)(Qb5:CanM P w K mg base k "looked" ["way","weights","claims"] lW)(Qal:CanM P w K mg base k "refuse_outside" ["amount","most"] aU)(Qap:CanM P w K mg base k "rightly_dealt" ["way","weights","claims","catch"] (aQ 2))(Qb7:CanM P w K mg base k "whole" ["number"] bM):CanM P w K mg base (k+1) "dealt" ["way","weights","claims","catch"] tG:=
  aM F zLB fun cdv A outer s H E G W WR=>(aF (mU (aI W Qb5 rfl (aA (aJ 0) (aA (aJ 1) (aA (aJ 2) aE aB) aB) aB)))
 (aF (mU (aI W Qal rfl (aA (aJ 3) (aA (aI W Qb7 rfl (aA (aT (jC W.calm) qJ rfl B.sum gH (aA (aJ 2) aE aB)) aE aL)) aE aL) aB)))
 (aK (eH (bJ W Qap rfl (aA (aJ 0) (aA (aJ 1) (aA (aJ 2) (aA (aJ 3) aE aB) aB) aB) aB))))))
theorem zBZ(F:Fn K mg "way_lines" jL ["way","weights","claims"] f fd)(Qb5:CanM P w K mg base k "looked" ["way","weights","claims"] lW)(Qaj:CanM P w K mg base k "without_doubles" ["joints"] dG)(Qbe:CanM P w K mg base k "joints_of" ["way","weights","claims"] (bN 2))(Qap:CanM P w K mg base k "rightly_dealt" ["way","weights","claims","catch"] (aQ 2))(Qbv:CanM P w K mg base k "line_at" ["joints","dealings","spot"] nE):CanM P w K mg base (k+1) "way_lines" ["way","weights","claims"] gT:=
  aM F iN fun cdv A outer s H E G W WR=>(aF (mU (aI W Qb5 rfl (aA (aJ 0) (aA (aJ 1) (aA (aJ 2) aE aB) aB) aB)))
 (aF (bD (i:=3) iN.nd rfl (Or.inr rfl) (PEf.d (bJ W Qaj rfl (aA (PEf.d (bJ W Qbe rfl (aA (aJ 0) (aA (aJ 1) (aA (aJ 2) aE aB) aB) aB))) aE aL))))
 (aF (bD (i:=4) iN.nd rfl (Or.inr rfl) (PEf.d (fI W iN.nd rfl (sc:=aH jL) rfl rfl (by decide +kernel) (jB (aJ 3)) (fun C2 s2 H2 fp2 G W=>⟨jZ,(PEf.d (bJ W Qap rfl (aA (aJ 0) (aA (aJ 1) (aA (aJ 2) (aA (aJ 5) aE aB) aB) aB) aB)))⟩))))
 (aK (eH (fI W iN.nd rfl (sc:=aH jL) rfl rfl (by decide +kernel) (zHs rfl B.range (aA (aT aR dW rfl B.len Q4 (aA (aJ 2) aE aB)) aE aL)) (fun C2 s2 H2 fp2 G W=>⟨jZ,(aI W Qbv rfl (aA (aJ 3) (aA (aJ 4) (aA (aJ 5) aE aB) aB) aB))⟩)))))))
theorem zEE{r:Mir}(F:Fn K mg "_law_deep" lA ["custom"] f fd)(Qbl:CanM P w K mg base k "_law_deep" ["custom"] r):CanM P w K mg base (k+1) "_law_deep" ["custom"] (oK r):=
  aM F pJ fun cdv A outer s H E G W WR=>(aF (gI (tst (eqA W.u) rZ (eG 0) (gM cJ fun _=>.str _) (aX _)) (aK (bQ bI)) bG)
 (aK (bQ (aS dL lH bI (aT (zCk W.calm) zJS rfl B.max boot_max (aA (PEf.d (fI W pJ.nd rfl (sc:=aH lA) rfl rfl (by decide +kernel) (jB (eG 0)) (fun C2 s2 H2 fp2 G W=>⟨jZ,(aI W Qbl rfl (aA (aJ 1) aE aB))⟩))) aE))))))
theorem wV(F:Fn K mg "_law_deep" lA ["custom"] f fd)  : ∀ n:Nat,CanM P w K mg base (k+1+n) "_law_deep" ["custom"] (eD n)
 | 0=>aM F pJ fun cdv A outer s H E G W WR=>zFb
 | n+1=>zEE _ _ _ (k+1+n) B KT C R ET F  (Qbl:=wV F  n)
theorem zCF{r:Mir}(F:Fn K mg "_law_boats" lI ["custom"] f fd)(Qa6:CanM P w K mg base k "_law_boats" ["custom"] r):CanM P w K mg base (k+1) "_law_boats" ["custom"] (lO r):=
  aM F kI fun cdv A outer s H E G W WR=>(aF (gI (tst (eqA W.u) rZ (eG 0) (gM cJ fun _=>.str _) (aX _)) (aK (eH (bU (aA (eG 0) aE aP)))) bG)
 (aF (pI (i:=1) kI.nd rfl (Or.inl rfl) (bU aE))
 (aF (nG W.own W.calm (jB (eG 0)) (eO (i:=2) kI.nd rfl (Or.inl rfl)) bT (aK (zHO (i:=1) (pv 1) (bJ W Qa6 rfl (aA (aJ 2) aE aB)))))
 (aK (iA 1 (pv 1))))))
theorem uA(F:Fn K mg "_law_boats" lI ["custom"] f fd)  : ∀ n:Nat,CanM P w K mg base (k+1+n) "_law_boats" ["custom"] (gN n)
 | 0=>aM F kI fun cdv A outer s H E G W WR=>zFb
 | n+1=>zCF _ _ _ (k+1+n) B KT C R ET F  (Qa6:=uA F  n)
theorem zAc(F:Fn K mg "_law_custom" jX ["cells","plan","most"] f fd)(Qbk:CanM P w K mg base k "_law_knot" ["kids","mix","plan"] eT)(Qbt:CanM P w K mg base k "_law_mix" ["cell","k"] nO)(Qbl:CanM P w K mg base k "_law_deep" ["custom"] (eD 10)):CanM P w K mg base (k+1) "_law_custom" ["cells","plan","most"] iG:=
  aM F cK fun cdv A outer s H E G W WR=>(aF (pI (i:=3) cK.nd rfl (Or.inl rfl) (bU aE))
 (aF (bD (i:=4) cK.nd rfl (Or.inl rfl) bI)
 (aF (nG W.own W.calm (zHs rfl B.range (aA (aT aR dW rfl B.len Q4 (aA (aJ 0) aE aB)) aE aL)) (eO (i:=5) cK.nd rfl (Or.inl rfl)) bT (aF (bD (i:=6) cK.nd rfl (Or.inl rfl) (aI W Qbt rfl (aA (bO aO eZ (aJ 0) (aJ 5) (fun _ _=>rfl)) (aA (aJ 5) aE aB) aP)))
 (aF (bD (i:=7) cK.nd rfl (Or.inl rfl) (aS dL lH bI (aS cH iV (aS cD iJ (aJ 6) bI) bI)))
 (aK (gI (PTd.frz (PWd.pt (zHo (PWd.pt (zHb (tst nV zCx (aS cH iV (aS cD iJ (aJ 6) bI) bI) bI (aX _)) (zI (tst nV zCx (aJ 4) (aJ 2) (aX _))))) (uT (tst (eqA W.u) rZ (aJ 3) (PEf.d (bU aE)) (aX _)))))) (aF (bD (i:=4) cK.nd rfl (Or.inl rfl) (aS dL lH (aJ 4) bI))
 (aK (zBL (i:=3) (pv 3) (dM (aA (gM cJ fun _=>.str _) (aA (bO aO eZ (PEf.d (bU (aA (aS cH iV (aS cD iJ (aJ 6) bI) bI) (aA (aS cH iV (aS cD iJ (aJ 6) bI) bI) (aA (aS cH iV (aS cD iJ (aJ 6) bI) (aS pC zES bI bI)) aE bA) bA) bA))) (aS cH iV (aJ 1) bI) (fun _ _=>rfl)) aE aP) bE))))) (aK (gI (PTd.frz (tst nV zCx (aT (zCk W.calm) zJS rfl B.max boot_max (aA (PEf.d (fI W cK.nd rfl (sc:=aH jX) rfl rfl (by decide +kernel) (jB (PEf.d (lL (aJ 3) (lP (nZ (aJ 7))) xC))) (fun C2 s2 H2 fp2 G W=>⟨jZ,(aI W Qbl rfl (aA (aJ 8) aE aB))⟩))) aE)) bI (aX _))) (aK (pI (i:=3) cK.nd rfl (Or.inl rfl) (PEf.frz (zJH (PEf.d (lL (aJ 3) xC (lP (nZ (aJ 7))))) (PEf.d (bU (aA (aI W Qbk rfl (aA (PEf.d (lL (aJ 3) (lP (nZ (aJ 7))) xC)) (aA (aS cD iJ (aJ 6) bI) (aA (aJ 1) aE aB) bA) aP)) aE aL))))))) bG)))))))
 (eX.frzAt 3 (aF (gI (tst (eqA W.u) rZ (aJ 3) (PEf.d (bU aE)) (aX _)) (aK (bQ (dM (aA (gM cJ fun _=>.str _) (aA (aS cH iV (aJ 1) bI) aE bA) bE)))) bG)
 (aF (gI (tst (eqA W.u) rZ (aT aR dW rfl B.len Q4 (aA (aJ 3) aE aB)) bI (aX _)) (aK (bQ (eG 3))) bG)
 (aK (bQ (aI W Qbk rfl (aA (aJ 3) (aA (aS cD iJ (aJ 1) bI) (aA (aJ 1) aE aB) bA) aB))))))))))
theorem zDz{r:Mir}(F:Fn K mg "claims_of" lM ["custom"] f fd)(Qbq:CanM P w K mg base k "is_boat" ["custom"] cI)(Qbu:CanM P w K mg base k "kids_of" ["custom"] dA)(Qa8:CanM P w K mg base k "claims_of" ["custom"] r):CanM P w K mg base (k+1) "claims_of" ["custom"] (lR r):=
  aM F kH fun cdv A outer s H E G W WR=>(aF (gI (uH (aI W Qbq rfl (aA (aJ 0) aE aB))) (aK (eH (bU (aA (eG 0) aE aP)))) bG)
 (aF (pI (i:=1) kH.nd rfl (Or.inl rfl) (bU aE))
 (aF (nG W.own W.calm (jB (aI W Qbu rfl (aA (aJ 0) aE aB))) (eO (i:=2) kH.nd rfl (Or.inl rfl)) bT (aK (zHO (i:=1) (pv 1) (bJ W Qa8 rfl (aA (aJ 2) aE aB)))))
 (aK (iA 1 (pv 1))))))
theorem tP(F:Fn K mg "claims_of" lM ["custom"] f fd)(Qbq:CanM P w K mg base k "is_boat" ["custom"] cI)(Qbu:CanM P w K mg base k "kids_of" ["custom"] dA):∀ n:Nat,CanM P w K mg base (k+1+n) "claims_of" ["custom"] (gQ n)
 | 0=>aM F kH fun cdv A outer s H E G W WR=>zFb
 | n+1=>zDz _ _ _ (k+1+n) B KT C R ET F (Qbq:=Qbq.mono (by omega)) (Qbu:=Qbu.mono (by omega)) (Qa8:=tP F (Qbq:=Qbq) (Qbu:=Qbu) n)
theorem zEb(F:Fn K mg "claim_of" sC ["custom"] f fd)(Qa8:CanM P w K mg base k "claims_of" ["custom"] (gQ 10)):CanM P w K mg base (k+1) "claim_of" ["custom"] dZ:=
 aM F zEL fun cdv A outer s H E G W WR=>(aK (bQ (aT (jC W.calm) qJ rfl B.sum gH (aA (PEf.d (bJ W Qa8 rfl (aA (aJ 0) aE aB))) aE aL))))
theorem zBv(F:Fn K mg "kid_claims" kG ["custom"] f fd)(Qbj:CanM P w K mg base k "claim_of" ["custom"] dZ)(Qbu:CanM P w K mg base k "kids_of" ["custom"] dA):CanM P w K mg base (k+1) "kid_claims" ["custom"] cY:=
 aM F qK fun cdv A outer s H E G W WR=>(aK (eH (fI W qK.nd rfl (sc:=aH kG) rfl rfl (by decide +kernel) (jB (aI W Qbu rfl (aA (aJ 0) aE aB))) (fun C2 s2 H2 fp2 G W=>⟨jZ,(aI W Qbj rfl (aA (aJ 1) aE aB))⟩))))
theorem zDW{r:Mir}(F:Fn K mg "dealt_on" oE ["custom","catch"] f fd)(Qbq:CanM P w K mg base k "is_boat" ["custom"] cI)(Qca:CanM P w K mg base k "dealt" ["way","weights","claims","catch"] tG)(Qb0:CanM P w K mg base k "way_of" ["custom"] jD)(Qa3:CanM P w K mg base k "weights_of" ["custom"] cZ)(Qa2:CanM P w K mg base k "kid_claims" ["custom"] cY)(Qbu:CanM P w K mg base k "kids_of" ["custom"] dA)(Qbn:CanM P w K mg base k "dealt_on" ["custom","catch"] r):CanM P w K mg base (k+1) "dealt_on" ["custom","catch"] (jH r):=
  aM F hG fun cdv A outer s H E G W WR=>(aF (gI (uH (aI W Qbq rfl (aA (aJ 0) aE aB))) (aK (eH (bU (aA (aJ 1) aE aB)))) bG)
 (aF (bD (i:=2) hG.nd rfl (Or.inl rfl) (PEf.d (bJ W Qca rfl (aA (aI W Qb0 rfl (aA (aJ 0) aE aB)) (aA (aI W Qa3 rfl (aA (aJ 0) aE aB)) (aA (PEf.d (bJ W Qa2 rfl (aA (aJ 0) aE aB))) (aA (aJ 1) aE aB) aL) aL) aL))))
 (aF (pI (i:=3) hG.nd rfl (Or.inl rfl) (bU aE))
 (aF (nG W.own W.calm (zJP rfl B.zip (aA (aI W Qbu rfl (aA (aJ 0) aE aB)) (aA (aJ 2) aE aB) aL)) (zOk W.calm (sB (eO (i:=4) hG.nd rfl (Or.inl rfl)) (sB (eO (i:=5) hG.nd rfl (Or.inl rfl)) zID)) (sS (sS zJT))) (zEz (oR bT (oR bT zEj))) (aK (zHO (i:=3) (pv 3) (bJ W Qbn rfl (aA (aJ 4) (aA (aJ 5) aE aB) aB)))))
 (aK (iA 3 (pv 3)))))))
theorem wH(F:Fn K mg "dealt_on" oE ["custom","catch"] f fd)(Qbq:CanM P w K mg base k "is_boat" ["custom"] cI)(Qca:CanM P w K mg base k "dealt" ["way","weights","claims","catch"] tG)(Qb0:CanM P w K mg base k "way_of" ["custom"] jD)(Qa3:CanM P w K mg base k "weights_of" ["custom"] cZ)(Qa2:CanM P w K mg base k "kid_claims" ["custom"] cY)(Qbu:CanM P w K mg base k "kids_of" ["custom"] dA):∀ n:Nat,CanM P w K mg base (k+1+n) "dealt_on" ["custom","catch"] (fT n)
 | 0=>aM F hG fun cdv A outer s H E G W WR=>zFb
 | n+1=>zDW _ _ _ (k+1+n) B KT C R ET F (Qbq:=Qbq.mono (by omega)) (Qca:=Qca.mono (by omega)) (Qb0:=Qb0.mono (by omega)) (Qa3:=Qa3.mono (by omega)) (Qa2:=Qa2.mono (by omega)) (Qbu:=Qbu.mono (by omega)) (Qbn:=wH F (Qbq:=Qbq) (Qca:=Qca) (Qb0:=Qb0) (Qa3:=Qa3) (Qa2:=Qa2) (Qbu:=Qbu) n)
theorem zEV{r:Mir}(F:Fn K mg "lines_of" lF ["custom"] f fd)(Qbq:CanM P w K mg base k "is_boat" ["custom"] cI)(Qa9:CanM P w K mg base k "way_lines" ["way","weights","claims"] gT)(Qb0:CanM P w K mg base k "way_of" ["custom"] jD)(Qa3:CanM P w K mg base k "weights_of" ["custom"] cZ)(Qa2:CanM P w K mg base k "kid_claims" ["custom"] cY)(Qbu:CanM P w K mg base k "kids_of" ["custom"] dA)(Qbi:CanM P w K mg base k "straight" ["claim"] gP)(Qbj:CanM P w K mg base k "claim_of" ["custom"] dZ)(Qbx:CanM P w K mg base k "behind" ["one","two"] iB)(Qbm:CanM P w K mg base k "lines_of" ["custom"] r):CanM P w K mg base (k+1) "lines_of" ["custom"] (jI r):=
  aM F fK fun cdv A outer s H E G W WR=>(aF (gI (uH (aI W Qbq rfl (aA (aJ 0) aE aB))) (aK (eH (bU (aA (aI W Qbi rfl (aA (aI W Qbj rfl (aA (aJ 0) aE aB)) aE aL)) aE aL)))) bG)
 (aF (bD (i:=1) fK.nd rfl (Or.inl rfl) (PEf.d (bJ W Qa9 rfl (aA (aI W Qb0 rfl (aA (aJ 0) aE aB)) (aA (aI W Qa3 rfl (aA (aJ 0) aE aB)) (aA (PEf.d (bJ W Qa2 rfl (aA (aJ 0) aE aB))) aE aL) aL) aL))))
 (aF (pI (i:=2) fK.nd rfl (Or.inl rfl) (bU aE))
 (aF (nG W.own W.calm (zJP rfl B.zip (aA (aI W Qbu rfl (aA (aJ 0) aE aB)) (aA (aJ 1) aE aB) aL)) (zOk W.calm (sB (eO (i:=3) fK.nd rfl (Or.inl rfl)) (sB (eO (i:=4) fK.nd rfl (Or.inr rfl)) zID)) (sS (sS zJT))) (zEz (oR bT (oR bT zEj))) (aK (zHO (i:=2) (pv 2) (fI W fK.nd rfl (sc:=aH lF) rfl rfl (by decide +kernel) (jB (PEf.d (bJ W Qbm rfl (aA (aJ 3) aE aB)))) (fun C2 s2 H2 fp2 G W=>⟨jZ,(aI W Qbx rfl (aA (aJ 5) (aA (aJ 4) aE aB) aB))⟩)))))
 (aK (iA 2 (pv 2)))))))
theorem wA(F:Fn K mg "lines_of" lF ["custom"] f fd)(Qbq:CanM P w K mg base k "is_boat" ["custom"] cI)(Qa9:CanM P w K mg base k "way_lines" ["way","weights","claims"] gT)(Qb0:CanM P w K mg base k "way_of" ["custom"] jD)(Qa3:CanM P w K mg base k "weights_of" ["custom"] cZ)(Qa2:CanM P w K mg base k "kid_claims" ["custom"] cY)(Qbu:CanM P w K mg base k "kids_of" ["custom"] dA)(Qbi:CanM P w K mg base k "straight" ["claim"] gP)(Qbj:CanM P w K mg base k "claim_of" ["custom"] dZ)(Qbx:CanM P w K mg base k "behind" ["one","two"] iB):∀ n:Nat,CanM P w K mg base (k+1+n) "lines_of" ["custom"] (fN n)
 | 0=>aM F fK fun cdv A outer s H E G W WR=>zFb
 | n+1=>zEV _ _ _ (k+1+n) B KT C R ET F (Qbq:=Qbq.mono (by omega)) (Qa9:=Qa9.mono (by omega)) (Qb0:=Qb0.mono (by omega)) (Qa3:=Qa3.mono (by omega)) (Qa2:=Qa2.mono (by omega)) (Qbu:=Qbu.mono (by omega)) (Qbi:=Qbi.mono (by omega)) (Qbj:=Qbj.mono (by omega)) (Qbx:=Qbx.mono (by omega)) (Qbm:=wA F (Qbq:=Qbq) (Qa9:=Qa9) (Qb0:=Qb0) (Qa3:=Qa3) (Qa2:=Qa2) (Qbu:=Qbu) (Qbi:=Qbi) (Qbj:=Qbj) (Qbx:=Qbx) n)
theorem zHH(F:Fn K mg "shares" zAV ["custom","catch"] f fd)(Qal:CanM P w K mg base k "refuse_outside" ["amount","most"] aU)(Qbn:CanM P w K mg base k "dealt_on" ["custom","catch"] (fT 10))(Qb7:CanM P w K mg base k "whole" ["number"] bM)(Qbj:CanM P w K mg base k "claim_of" ["custom"] dZ):CanM P w K mg base (k+1) "shares" ["custom","catch"] kF:=
  aM F zIa fun cdv A outer s H E G W WR=>(aF (mU (aI W Qal rfl (aA (aJ 1) (aA (aI W Qb7 rfl (aA (aI W Qbj rfl (aA (aJ 0) aE aB)) aE aL)) aE aL) aB)))
 (aK (eH (bJ W Qbn rfl (aA (aJ 0) (aA (aJ 1) aE aB) aB)))))
theorem zAp(F:Fn K mg "catches_of" nF ["custom","boat","amount"] f fd)(Qbm:CanM P w K mg base k "lines_of" ["custom"] (fN 10))(Qbs:CanM P w K mg base k "stretch" ["line","y"] iE):CanM P w K mg base (k+1) "catches_of" ["custom","boat","amount"] bY:=
  aM F rO fun cdv A outer s H E G W WR=>(aF (bD (i:=3) rO.nd rfl (Or.inl rfl) (PEf.d (bJ W Qbm rfl (aA (aJ 0) aE aB))))
 (aF (gI (PWd.pt (zHo (tst nV zCx (aJ 1) bI (aX _)) (uT (tst zNj zSd (aJ 1) (aT aR dW rfl B.len Q4 (aA (aJ 3) aE aB)) (aX _))))) (aK (hJ W WR R.NoBoat rfl (aA (gM cJ fun _=>.str _) aE bE))) bG)
 (aK (bQ (aI W Qbs rfl (aA (bO aO eZ (aJ 3) (aJ 1) (fun _ _=>rfl)) (aA (aJ 2) aE aB) aP))))))
theorem zCw(F:Fn K mg "_law_asked" pK ["custom","boat_at","amount"] f fd)(Qa5:CanM P w K mg base k "catches_of" ["custom","boat","amount"] bY):CanM P w K mg base (k+1) "_law_asked" ["custom","boat_at","amount"] dO:=
  aM F eP fun cdv A outer s H E G W WR=>(aF (pI (i:=3) eP.nd rfl (Or.inl rfl) (bU aE))
 (aF (bD (i:=4) eP.nd rfl (Or.inl rfl) (gM zPv fun _=>.non))
 (aF (zSi W zKj ET.cat rfl eP.nd (i:=5) rfl rfl (zRK (zSK (i:=4) eP.nd rfl (Or.inl rfl) W Qa5 rfl (aA (aJ 0) (aA (aJ 1) (aA (aJ 2) aE aB) aB) aB))) (fun ea W=>(aF (pI (i:=3) eP.nd rfl (Or.inl rfl) (bU (aA (zIU ET.ek rfl rfl B.isinstance (pv 5) rfl) (aA (zIU ET.ek rfl rfl B.isinstance (pv 5) rfl) (aA (zIU ET.ek rfl rfl B.isinstance (pv 5) rfl) aE aL) aL) aL)))
 (aF (bD (i:=6) eP.nd rfl (Or.inl rfl) (zNH ET.ek (.cons rfl rfl (by decide) rfl (.cons rfl rfl (by decide) rfl (.cons rfl rfl (by decide) rfl (.cons rfl rfl (by decide) rfl (.cons rfl rfl (by decide) rfl (.cons rfl rfl (by decide) rfl (.cons rfl rfl (by decide) rfl (.cons rfl rfl (by decide) rfl (.cons rfl rfl (by decide) rfl .nil))))))))) rfl B.isinstance (pv 5) (by decide)))
 (aK (zBL (i:=3) (pv 3) (aJ 6)))))))
 (eX.frzAt 3 (aK (bQ (dM (aA (aJ 3) (aA (aJ 4) aE aB) aB))))))))
theorem zCM(F:Fn K mg "_law_right" qB ["custom","claims","boat_at","amount","found"] f fd)(Qba:CanM P w K mg base k "_law_times" ["one","two"] jP)(Qbf:CanM P w K mg base k "_law_minus" ["one","two"] fJ)(Qbp:CanM P w K mg base k "_law_plus" ["one","two"] fQ)(Qbh:CanM P w K mg base k "_law_less" ["one","two"] dF)(Qai:CanM P w K mg base k "_law_is_fraction" ["found"] cS)(Qb1:CanM P w K mg base k "shares" ["custom","catch"] kF):CanM P w K mg base (k+1) "_law_right" ["custom","claims","boat_at","amount","found"] jR:=
  aM F fP fun cdv A outer s H E G W WR=>(aF (gI (PWd.pt (zHo (zLr (uH (zFn KT.tuple rfl B.isinstance (aJ 4) (vJ (v:=.ty "tuple") rfl B.tuple Mh rfl)))) (uT (tst (neA W.u) zKA (aT aR dW rfl B.len Q4 (aA (aJ 4) aE aB)) bI (aX _))))) (aK (bQ (gM lD fun _=>.bl _))) bG)
 (aF (gI (PWd.pt (zHo (zLr (uH (aI W Qai rfl (aA (eG 4) aE aP)))) (zHo (zLr (uH (aI W Qai rfl (aA (eG 4) aE aP)))) (uT (uH (aI W Qbh rfl (aA (eG 4) (aA (eG 4) aE aP) aP))))))) (aK (bQ (gM lD fun _=>.bl _))) bG)
 (aF (bD (i:=5) fP.nd rfl (Or.inl rfl) (aI W Qba rfl (aA (dM (aA bI (aA bI aE bE) bE)) (aA (aI W Qbp rfl (aA (eG 4) (aA (eG 4) aE aP) aP)) aE aL) iY)))
 (aF (gI (PWd.pt (zHo (tst nV zCx (bO aO eZ (eG 4) bI (fun _ _=>rfl)) bI (aX _)) (uT (uH (aI W Qbh rfl (aA (dM (aA (aT (jC W.calm) qJ rfl B.sum gH (aA (aJ 1) aE aB)) (aA bI aE bE) aL)) (aA (eG 4) aE aP) iY)))))) (aK (bQ (gM lD fun _=>.bl _))) bG)
 (aF (nG W.own W.calm (jB (PEf.d (bU (aA (eG 4) (aA (aJ 5) (aA (eG 4) aE aP) aB) aP)))) (eO (i:=6) fP.nd rfl (Or.inl rfl)) bT (aK (gI (tst (neA W.u) zKA (bO aO eZ (PEf.d (bJ W Qb1 rfl (aA (aJ 0) (aA (aJ 6) aE aB) aB))) (aJ 2) (fun _ _=>rfl)) (aJ 3) (aX _)) (aK (bQ (gM lD fun _=>.bl _))) bG)))
 (aF (bD (i:=7) fP.nd rfl (Or.inl rfl) (dM (aA bI (aA (aS pC zES bI bI) aE bA) bE)))
 (aF (bD (i:=8) fP.nd rfl (Or.inl rfl) (aI W Qbf rfl (aA (eG 4) (aA (aJ 7) aE aB) aP)))
 (aF (bD (i:=9) fP.nd rfl (Or.inl rfl) (aI W Qbp rfl (aA (eG 4) (aA (aJ 7) aE aB) aP)))
 (aF (gI (PWd.pt (zHb (tst zNj zSd (eG 8) bI (aX _)) (zI (zLr (uH (aI W Qbh rfl (aA (bO aO eZ (PEf.d (bJ W Qb1 rfl (aA (aJ 0) (aA (aJ 8) aE aB) aB))) (aJ 2) (fun _ _=>rfl)) (aA (aJ 3) aE aB) aP))))))) (aK (bQ (gM lD fun _=>.bl _))) bG)
 (aF (gI (uH (aI W Qbh rfl (aA (dM (aA (aT (jC W.calm) qJ rfl B.sum gH (aA (aJ 1) aE aB)) (aA bI aE bE) aL)) (aA (aJ 9) aE aB) iY))) (aK (bQ (gM lD fun _=>.bl _))) bG)
 (aK (bQ (aI W Qbh rfl (aA (aJ 3) (aA (bO aO eZ (PEf.d (bJ W Qb1 rfl (aA (aJ 0) (aA (aJ 9) aE aB) aB))) (aJ 2) (fun _ _=>rfl)) aE aP) aB))))))))))))))
theorem zRt(F:Fn K mg "law" wF ["script"] f fd)(Qas:CanM P w K mg base k "_law_cell_at" ["script","k"] fZ)(Qa0:CanM P w K mg base k "_law_custom" ["cells","plan","most"] iG)(Qa6:CanM P w K mg base k "_law_boats" ["custom"] (gN 10))(Qau:CanM P w K mg base k "_law_amount" ["cell","claim"] iL)(Qbd:CanM P w K mg base k "_law_asked" ["custom","boat_at","amount"] dO)(Qbh:CanM P w K mg base k "_law_less" ["one","two"] dF)(Qbb:CanM P w K mg base k "_law_right" ["custom","claims","boat_at","amount","found"] jR):FnOk P w K mg base (CX1 P w) (k+1) f fd ["script"] (spM K mg 1 zNp):=
  zQQ F lG fun cdv A outer s H E G W WR=>(aF (bD (i:=1) lG.nd rfl (Or.inl rfl) (aI W Qas rfl (aA (aJ 0) (aA bI aE bE) aB)))
 (aF (bD (i:=2) lG.nd rfl (Or.inl rfl) (rN zHJ zRv rfl B.int boot_int (aA (wJ (eqA W.u) rZ (aS cH iV (aS cD iJ (aJ 1) bI) bI) bI (aX _)) aE)))
 (aF (bD (i:=3) lG.nd rfl (Or.inl rfl) (bO aO eZ (PEf.d (bU (aA bI (aA bI aE bE) bE))) (aJ 2) (fun _ _=>rfl)))
 (aF (bD (i:=4) lG.nd rfl (Or.inl rfl) (aI W Qa0 rfl (aA (PEf.d (lL (aJ 0) (lP bI) (lP (aS dL lH (aJ 3) bI)))) (aA (aJ 1) (aA (bO aO eZ (PEf.d (bU (aA bI (aA bI aE bE) bE))) (aJ 2) (fun _ _=>rfl)) aE aP) aB) aP)))
 (aF (bD (i:=5) lG.nd rfl (Or.inl rfl) (PEf.d (bJ W Qa6 rfl (aA (aJ 4) aE aB))))
 (aF (nG W.own W.calm (jB (PEf.d (zJH (PEf.d (bU (aA bI aE bE))) (PEf.d (lL (aJ 0) (lP (aS dL lH (aJ 3) bI)) (lP (aS dL lH (aJ 3) (bO aO eZ (PEf.d (bU (aA bI (aA bI aE bE) bE))) (aJ 2) (fun _ _=>rfl))))))))) (eO (i:=6) lG.nd rfl (Or.inl rfl)) bT (aF (bD (i:=7) lG.nd rfl (Or.inl rfl) (aS cH iV (aS cD iJ (aJ 6) bI) (aT aR dW rfl B.len Q4 (aA (aJ 5) aE aB))))
 (aF (bD (i:=8) lG.nd rfl (Or.inl rfl) (aI W Qau rfl (aA (aS cD iJ (aJ 6) bI) (aA (bO aO eZ (aJ 5) (aJ 7) (fun _ _=>rfl)) aE aP) bA)))
 (aF (bD (i:=9) lG.nd rfl (Or.inl rfl) (aJ 7))
 (aF (gI (tst (eqA W.u) rZ (aS cH iV (aJ 6) bI) bI (aX _)) (aK (bD (i:=9) lG.nd rfl (Or.inl rfl) (bO aO eZ (PEf.d (bU (aA (aS dL lH (aT aR dW rfl B.len Q4 (aA (aJ 5) aE aB)) (aS cH iV (aS cD iJ (aJ 6) bI) bI)) (aA (nZ bI) (aA (aS pC zES bI bI) (aA (aS qL zAY (nZ bI) (aJ 7)) aE bA) bA)) bA))) (aS cH iV (aS cD iJ (aJ 6) bI) bI) (fun _ _=>rfl)))) bG)
 (aF (zSL (aI W Qbd rfl (aA (aJ 4) (aA (aJ 9) (aA (aJ 8) aE aB) aB) aB)) (zOk W.calm (sB (eO (i:=10) lG.nd rfl (Or.inl rfl)) (sB (eO (i:=11) lG.nd rfl (Or.inl rfl)) zID)) (sS (sS zJT))) (zEz (oR bT (oR bT zEj))))
 (aK (gI (PWd.pt (zHo (tst nV zCx (aJ 9) bI (aX _)) (uT (tst zNj zSd (aJ 9) (aT aR dW rfl B.len Q4 (aA (aJ 5) aE aB)) (aX _))))) (aK (gI (tst (neA W.u) zKA (aJ 10) (PEf.d (bU (aA (gM lD fun _=>.bl _) (aA (gM lD fun _=>.bl _) (aA (gM lD fun _=>.bl _) (aA (gM lD fun _=>.bl _) aE bE) bE) bE) bE))) (aX _)) (aK (bQ (gM lD fun _=>.bl _))) bG)) (aK (gI (PWd.pt (zHo (tst nV zCx (eG 8) bI (aX _)) (uT (uH (aI W Qbh rfl (aA (dM (aA (bO aO eZ (aJ 5) (aJ 7) (fun _ _=>rfl)) (aA bI aE bE) aP)) (aA (aJ 8) aE aB) iY)))))) (aK (gI (tst (neA W.u) zKA (aJ 10) (PEf.d (bU (aA (gM lD fun _=>.bl _) (aA (gM lD fun _=>.bl _) (aA (gM lD fun _=>.bl _) (aA (gM lD fun _=>.bl _) aE bE) bE) bE) bE))) (aX _)) (aK (bQ (gM lD fun _=>.bl _))) bG)) (aK (gI (PWd.pt (zHo (tst (neA W.u) zKA (aJ 10) (PEf.d (bU aE)) (aX _)) (uT (zLr (uH (aI W Qbb rfl (aA (aJ 4) (aA (aJ 5) (aA (aJ 9) (aA (aJ 8) (aA (aJ 11) aE aB) aB) aB) aB) aB))))))) (aK (bQ (gM lD fun _=>.bl _))) bG))))))))))))
 (aK (bQ (gM lD fun _=>.bl _)))))))))
end
end
def FnK(K:PySem.W.Frag)(x:Str)(st:Ji):Prop:=∃ f oc od sl kV dc pm an cd ct,PySem.W.nsIn K mainGlobals x=some (some (.ref f))/\K.lookup f=some ⟨oc,od,.func (PySem.W.fnOf x x (kP st) (gG st) (aH st) .none kV dc pm an cd ct),sl⟩/\PySem.W.codeIn K cd x=true/\PySem.W.keepIn K (.ref f)=true
theorem fk{K:Fg_}{h:Je}{mg:Str->Option Ja}{x:Str}{st:Ji}(X:K.In h)(G:h.Ns mainGlobals mg)(d:FnK K x st)(ps:List Str)(hb:∀ (kV doc pm:Ja) (an:Option Jc) (cdv ct:Ja) (us:List Ja),us.length=ps.length->bindArgs (PySem.W.fnOf x x (kP st) (gG st) (aH st) .none kV doc pm an cdv ct) ⟨us,[]⟩=pure (ps.zip us)):∃ f fd,Fn K mg x st ps f fd:=by
 obtain⟨f,oc,od,sl,kV,dc,pm,an,cd,ct,a,l,c,k⟩:=d;exact⟨f,_,zR (st:=st) l c k,(zR (st:=st) l c k).binds (ps:=ps) hb,k,Vd X G a⟩
theorem fkm{K:Fg_}{x:Str}{st:Ji}{f:Jc}{oc:Ja}{od an:Option Jc}{sl:Array (Option Ja)}{kV dc pm cd ct:Ja}(a:PySem.W.nsIn K mainGlobals x=some (some (.ref f)))(l:K.lookup f=some ⟨oc,od,.func (PySem.W.fnOf x x (kP st) (gG st) (aH st) .none kV dc pm an cd ct),sl⟩)(c:PySem.W.codeIn K cd x=true)(k:PySem.W.keepIn K (.ref f)=true):FnK K x st:=⟨f,oc,od,sl,kV,dc,pm,an,cd,ct,a,l,c,k⟩
theorem zRg{l:PySem.W.OpenLaw}{w:Jg}{K:Fg_}{h:Je}{mg:Str->Option Ja}{fa f11 f70:Jc}(X:K.In h)(G:h.Ns mainGlobals mg)(hfa:mg "law" = some (.ref fa))
  {od11 an11:Option Jc} {sl11:Array (Option Ja)} {oc11 kV11 dc11 pm11 ct11:Ja}
  {od70 an70:Option Jc} {sl70:Array (Option Ja)} {oc70 kV70 dc70 pm70 cd70 ct70:Ja}
  (d0:FnK K "common_divisor" iQ)
  (d1:FnK K "made" zHv)
  (d2:FnK K "whole" zDV)
  (d3:FnK K "plus" zJQ)
  (d4:FnK K "minus" zEr)
  (d5:FnK K "times" zDM)
  (d6:FnK K "over" zIB)
  (d7:FnK K "less" zJt)
  (d8:FnK K "lesser" zAt)
  (d9:FnK K "is_outside" nI)
  (d10:FnK K "refuse_outside" iU)
  {cR T:Jc}
  (a11:PySem.W.nsIn K mainGlobals "ranked" = some (some (.ref f11))) (l11:K.lookup f11=some ⟨oc11,od11,.func (PySem.W.fnOf "ranked" "ranked" (kP jA) (gG jA) (aH jA) .none kV11 dc11 pm11 an11 (.ref cR) ct11),sl11⟩) (c11:PySem.W.codeIn K (.ref cR) "ranked" = true) (k11:PySem.W.keepIn K (.ref f11)=true)
  (tq:PySem.W.codeHdIn K cR T=true) (tn:K.lookup T=none)
  (d12:FnK K "looked" zAZ)
  (d13:FnK K "refuse_way" nM)
  (d14:FnK K "refuse_claims" jQ)
  (d15:FnK K "refuse_weights" iS)
  (d16:FnK K "contrary_way" kO)
  (d17:FnK K "dealt" zEU)
  (d18:FnK K "rightly_dealt" eM)
  (d19:FnK K "row_dealt" qA)
  (d20:FnK K "even_dealt" mT)
  (d21:FnK K "levels_of" lT)
  (d22:FnK K "part_dealt" kB)
  (d23:FnK K "half_dealt" kJ)
  (d24:FnK K "is_boat" wR)
  (d25:FnK K "way_of" zAk)
  (d26:FnK K "weights_of" mV)
  (d27:FnK K "kids_of" vM)
  (d28:FnK K "claims_of" lM)
  (d29:FnK K "claim_of" sC)
  (d30:FnK K "kid_claims" kG)
  (d31:FnK K "shares" zAV)
  (d32:FnK K "dealt_on" oE)
  (d33:FnK K "line_of" wN)
  (d34:FnK K "refuse_bad" nS)
  (d35:FnK K "is_between" nH)
  (d36:FnK K "length" zBm)
  (d37:FnK K "height" zBc)
  (d38:FnK K "value" zDY)
  (d39:FnK K "stretch" vH)
  (d40:FnK K "first_reaching" iR)
  (d41:FnK K "met" zNc)
  (d42:FnK K "behind" qQ)
  (d43:FnK K "places" uO)
  (d44:FnK K "merged" zBC)
  (d45:FnK K "way_lines" jL)
  (d46:FnK K "line_at" qE)
  (d47:FnK K "joints_of" jT)
  (d48:FnK K "row_joints" nU)
  (d49:FnK K "even_joints" lX)
  (d50:FnK K "mirrored" oP)
  (d51:FnK K "without_doubles" gX)
  (d52:FnK K "lines_of" lF)
  (d53:FnK K "straight" sV)
  (d54:FnK K "catches_of" nF)
  (d55:FnK K "_law_cell_at" lY)
  (d56:FnK K "_law_made" tL)
  (d57:FnK K "_law_plus" sE)
  (d58:FnK K "_law_minus" pG)
  (d59:FnK K "_law_times" pM)
  (d60:FnK K "_law_less" sL)
  (d61:FnK K "_law_is_fraction" gZ)
  (d62:FnK K "_law_mix" xF)
  (d63:FnK K "_law_knot" oJ)
  (d64:FnK K "_law_deep" lA)
  (d65:FnK K "_law_custom" jX)
  (d66:FnK K "_law_boats" lI)
  (d67:FnK K "_law_asked" pK)
  (d68:FnK K "_law_right" qB)
  (d69:FnK K "_law_amount" mY)
  (a70:PySem.W.nsIn K mainGlobals "law" = some (some (.ref f70))) (l70:K.lookup f70=some ⟨oc70,od70,.func (PySem.W.fnOf "law" "law" (kP wF) (gG wF) (aH wF) .none kV70 dc70 pm70 an70 cd70 ct70),sl70⟩) (c70:PySem.W.codeIn K cd70 "law" = true) (k70:PySem.W.keepIn K (.ref f70)=true)
  (z_abs:PySem.W.nsIn K mainGlobals "abs" = some none)
  (z_sorted:PySem.W.nsIn K mainGlobals "sorted" = some none)
  (z_range:PySem.W.nsIn K mainGlobals "range" = some none)
  (z_len:PySem.W.nsIn K mainGlobals "len" = some none)
  (z_sum:PySem.W.nsIn K mainGlobals "sum" = some none)
  (z_zip:PySem.W.nsIn K mainGlobals "zip" = some none)
  (z_tuple:PySem.W.nsIn K mainGlobals "tuple" = some none)
  (z_min:PySem.W.nsIn K mainGlobals "min" = some none)
  (z_reversed:PySem.W.nsIn K mainGlobals "reversed" = some none)
  (z_isinstance:PySem.W.nsIn K mainGlobals "isinstance" = some none)
  (z_bool:PySem.W.nsIn K mainGlobals "bool" = some none)
  (z_int:PySem.W.nsIn K mainGlobals "int" = some none)
  (z_max:PySem.W.nsIn K mainGlobals "max" = some none)
  (KT:Kt K) (CC:∀(h:Je)(mg:Str->Option Ja),K.In h->h.Ns mainGlobals mg->Ct K mg) (RR:∀(h:Je)(mg:Str->Option Ja),K.In h->h.Ns mainGlobals mg->Rt K mg) (EE:∀(h:Je)(mg:Str->Option Ja),K.In h->h.Ns mainGlobals mg->Et K mg)
  : K.lookup T=none/\rE K mg T/\∃ fd:FuncData,(∀(s:Jb)(v:Ja),BindsTo s fd ⟨[v],[]⟩ [("script", v)])/\∀ base:Je,K.In base->base.Ns mainGlobals mg->BMn base mg->FnOk l.prog w K mg base (CX1 l.prog w) 29 fa fd ["script"] (zRA K mg):=by
 have e:=hfa.symm.trans (Vd X G a70);cases e;have B:Bt mg:=⟨Vr X G z_abs,Vr X G z_sorted,Vr X G z_range,Vr X G z_len,Vr X G z_sum,Vr X G z_zip,Vr X G z_tuple,Vr X G z_min,Vr X G z_reversed,Vr X G z_isinstance,Vr X G z_bool,Vr X G z_int,Vr X G z_max⟩;have C:Ct K mg:=CC h mg X G;have R:Rt K mg:=RR h mg X G;have ET:Et K mg:=EE h mg X G;have hT:rE K mg T:=⟨f11,_,_,_,_,cR,Vd X G a11,l11,rfl,fun h X=>PySem.W.codeHd_of_K X tq⟩
 refine⟨tn,hT,?_⟩
 refine⟨PySem.W.fnOf "law" "law" (kP wF) (gG wF) (aH wF) .none kV70 dc70 pm70 an70 cd70 ct70,fun s v=>.of_eq rfl,fun base _ _ hB=>?_⟩
 obtain⟨_,_,F0⟩:=fk X G d0 ["one","two"] (by walk_at "b")
 have Qam:=sT l.prog w base 0 B KT C R ET F0;obtain⟨_,_,F2⟩:=fk X G d2 ["number"] (by walk_at "b")
 have Qb7:=zLx l.prog w base 0 B KT C R ET F2;obtain⟨_,_,F7⟩:=fk X G d7 ["one","two"] (by walk_at "b")
 have Qcd:=zON l.prog w base 0 B KT C R ET F7;have F11:Fn K mg "ranked" jA ["some"] _ _:=⟨zR (st:=jA) l11 c11 k11,(zR (st:=jA) l11 c11 k11).binds (ps:=["some"]) (by walk_at "b"),k11,Vd X G a11⟩
 have Qb2:=zHt l.prog w base 0 B KT C R ET F11 hT hB;obtain⟨_,_,F13⟩:=fk X G d13 ["way"] (by walk_at "b")
 have Qaz:=zBu l.prog w base 0 B KT C R ET F13;obtain⟨_,_,F14⟩:=fk X G d14 ["claims"] (by walk_at "b")
 have Qao:=uE l.prog w base 0 B KT C R ET F14;obtain⟨_,_,F15⟩:=fk X G d15 ["way","weights","many"] (by walk_at "b")
 have Qak:=sQ l.prog w base 0 B KT C R ET F15;obtain⟨_,_,F24⟩:=fk X G d24 ["custom"] (by walk_at "b")
 have Qbq:=zHd l.prog w base 0 B KT C R ET F24;obtain⟨_,_,F25⟩:=fk X G d25 ["custom"] (by walk_at "b")
 have Qb0:=zJy l.prog w base 0 B KT C R ET F25;obtain⟨_,_,F26⟩:=fk X G d26 ["custom"] (by walk_at "b")
 have Qa3:=zAf l.prog w base 0 B KT C R ET F26;obtain⟨_,_,F36⟩:=fk X G d36 ["line"] (by walk_at "b")
 have Qbz:=zHN l.prog w base 0 B KT C R ET F36;obtain⟨_,_,F37⟩:=fk X G d37 ["line"] (by walk_at "b")
 have Qby:=zHK l.prog w base 0 B KT C R ET F37;obtain⟨_,_,F43⟩:=fk X G d43 ["line"] (by walk_at "b")
 have Qbw:=zIt l.prog w base 0 B KT C R ET F43;obtain⟨_,_,F55⟩:=fk X G d55 ["script","k"] (by walk_at "b")
 have Qas:=yN l.prog w base 0 B KT C R ET F55;obtain⟨_,_,F56⟩:=fk X G d56 ["top","bottom"] (by walk_at "b")
 have Qbo:=zDJ l.prog w base 0 B KT C R ET F56;obtain⟨_,_,F60⟩:=fk X G d60 ["one","two"] (by walk_at "b")
 have Qbh:=zEp l.prog w base 0 B KT C R ET F60;obtain⟨_,_,F62⟩:=fk X G d62 ["cell","k"] (by walk_at "b")
 have Qbt:=zGr l.prog w base 0 B KT C R ET F62;obtain⟨_,_,F63⟩:=fk X G d63 ["kids","mix","plan"] (by walk_at "b")
 have Qbk:=zEe l.prog w base 0 B KT C R ET F63;obtain⟨_,_,F1⟩:=fk X G d1 ["top","bottom"] (by walk_at "b")
 have Qce:=zOH l.prog w base 1 B KT C R ET F1 (Qam:=Qam.mo);obtain⟨_,_,F8⟩:=fk X G d8 ["one","two"] (by walk_at "b")
 have Qb4:=zIQ l.prog w base 1 B KT C R ET F8 (Qcd:=Qcd.mo);obtain⟨_,_,F9⟩:=fk X G d9 ["amount","most"] (by walk_at "b")
 have Qat:=zBq l.prog w base 1 B KT C R ET F9 (Qcd:=Qcd.mo);obtain⟨_,_,F12⟩:=fk X G d12 ["way","weights","claims"] (by walk_at "b")
 have Qb5:=zIq l.prog w base 1 B KT C R ET F12 (Qaz:=Qaz.mo) (Qao:=Qao.mo) (Qak:=Qak.mo);obtain⟨_,_,F16⟩:=fk X G d16 ["way"] (by walk_at "b")
 have Qaq:=vC l.prog w base 1 B KT C R ET F16 (Qaz:=Qaz.mo);obtain⟨_,_,F27⟩:=fk X G d27 ["custom"] (by walk_at "b")
 have Qbu:=zGu l.prog w base 1 B KT C R ET F27 (Qbq:=Qbq.mo);obtain⟨_,_,F34⟩:=fk X G d34 ["points"] (by walk_at "b")
 have Qa1:=zBE l.prog w base 1 B KT C R ET F34 (Qcd:=Qcd.mo);obtain⟨_,_,F40⟩:=fk X G d40 ["line","axis","amount"] (by walk_at "b")
 have Qan:=tE l.prog w base 1 B KT C R ET F40 (Qcd:=Qcd.mo);obtain⟨_,_,F44⟩:=fk X G d44 ["one","two"] (by walk_at "b")
 have Qb3:=zKd l.prog w base 1 B KT C R ET F44 (Qcd:=Qcd.mo);obtain⟨_,_,F48⟩:=fk X G d48 ["claims"] (by walk_at "b")
 have Qaw:=zAU l.prog w base 1 B KT C R ET F48 (Qb7:=Qb7.mo);obtain⟨_,_,F51⟩:=fk X G d51 ["joints"] (by walk_at "b")
 have Qaj:=rH l.prog w base 1 B KT C R ET F51 (Qcd:=Qcd.mo);obtain⟨_,_,F57⟩:=fk X G d57 ["one","two"] (by walk_at "b")
 have Qbp:=zDN l.prog w base 1 B KT C R ET F57 (Qbo:=Qbo.mo);obtain⟨_,_,F58⟩:=fk X G d58 ["one","two"] (by walk_at "b")
 have Qbf:=zCm l.prog w base 1 B KT C R ET F58 (Qbo:=Qbo.mo);obtain⟨_,_,F59⟩:=fk X G d59 ["one","two"] (by walk_at "b")
 have Qba:=zCI l.prog w base 1 B KT C R ET F59 (Qbo:=Qbo.mo);obtain⟨_,_,F61⟩:=fk X G d61 ["found"] (by walk_at "b")
 have Qai:=rK l.prog w base 1 B KT C R ET F61 (Qbo:=Qbo.mo);obtain⟨_,_,F3⟩:=fk X G d3 ["one","two"] (by walk_at "b")
 have Qcb:=zOy l.prog w base 2 B KT C R ET F3 (Qce:=Qce.mo);obtain⟨_,_,F4⟩:=fk X G d4 ["one","two"] (by walk_at "b")
 have Qb8:=zKX l.prog w base 2 B KT C R ET F4 (Qce:=Qce.mo);obtain⟨_,_,F5⟩:=fk X G d5 ["one","two"] (by walk_at "b")
 have Qb9:=zLM l.prog w base 2 B KT C R ET F5 (Qce:=Qce.mo);obtain⟨_,_,F6⟩:=fk X G d6 ["one","two"] (by walk_at "b")
 have Qcc:=zNX l.prog w base 2 B KT C R ET F6 (Qce:=Qce.mo);obtain⟨_,_,F10⟩:=fk X G d10 ["amount","most"] (by walk_at "b")
 have Qal:=sJ l.prog w base 2 B KT C R ET F10 (Qat:=Qat.mo);obtain⟨_,_,F21⟩:=fk X G d21 ["weights","claims"] (by walk_at "b")
 have Qa7:=zDp l.prog w base 2 B KT C R ET F21 (Qce:=Qce.mo);obtain⟨_,_,F69⟩:=fk X G d69 ["cell","claim"] (by walk_at "b")
 have Qau:=zBD l.prog w base 2 B KT C R ET F69 (Qbo:=Qbo.mo) (Qbf:=Qbf.mo) (Qbp:=Qbp.mo);obtain⟨_,_,F19⟩:=fk X G d19 ["claims","catch"] (by walk_at "b")
 have Qbc:=zDi l.prog w base 3 B KT C R ET F19 (Qb4:=Qb4.mo) (Qb8:=Qb8.mo) (Qb7:=Qb7.mo);obtain⟨_,_,F20⟩:=fk X G d20 ["weights","claims","catch"] (by walk_at "b")
 have Qay:=zAP l.prog w base 3 B KT C R ET F20 (Qb2:=Qb2.mono (by decide)) (Qa7:=Qa7.mo) (Qcc:=Qcc.mo) (Qb4:=Qb4.mo) (Qb8:=Qb8.mo) (Qb9:=Qb9.mo) (Qb7:=Qb7.mo)
 obtain⟨_,_,F22⟩:=fk X G d22 ["claims","catch"] (by walk_at "b")
 have Qa4:=zBS l.prog w base 3 B KT C R ET F22 (Qcc:=Qcc.mo) (Qb7:=Qb7.mo) (Qb9:=Qb9.mo);obtain⟨_,_,F35⟩:=fk X G d35 ["ahead","point","later"] (by walk_at "b")
 have Qav:=zBH l.prog w base 3 B KT C R ET F35 (Qb8:=Qb8.mo) (Qb9:=Qb9.mo);obtain⟨_,_,F41⟩:=fk X G d41 ["line","axis","amount"] (by walk_at "b")
 have Qcg:=zPM l.prog w base 3 B KT C R ET F41 (Qan:=Qan.mo) (Qcc:=Qcc.mo) (Qcb:=Qcb.mo) (Qb8:=Qb8.mo) (Qb9:=Qb9.mo);obtain⟨_,_,F49⟩:=fk X G d49 ["weights","claims"] (by walk_at "b")
 have Qar:=xZ l.prog w base 3 B KT C R ET F49 (Qa7:=Qa7.mo) (Qb2:=Qb2.mono (by decide)) (Qcb:=Qcb.mo) (Qb7:=Qb7.mo) (Qb9:=Qb9.mo)
 obtain⟨_,_,F50⟩:=fk X G d50 ["joints","most"] (by walk_at "b")
 have Qbg:=zEX l.prog w base 3 B KT C R ET F50 (Qb8:=Qb8.mo);obtain⟨_,_,F23⟩:=fk X G d23 ["claims","catch"] (by walk_at "b")
 have Qax:=zAg l.prog w base 4 B KT C R ET F23 (Qb9:=Qb9.mo) (Qay:=Qay.mo) (Qcb:=Qcb.mo);obtain⟨_,_,F33⟩:=fk X G d33 ["points"] (by walk_at "b")
 have Qbr:=zGM l.prog w base 4 B KT C R ET F33 (Qa1:=Qa1.mo) (Qav:=Qav.mo);obtain⟨_,_,F38⟩:=fk X G d38 ["line","x"] (by walk_at "b")
 have Qb6:=zLz l.prog w base 4 B KT C R ET F38 (Qal:=Qal.mo) (Qcg:=Qcg.mo) (Qbz:=Qbz.mo);obtain⟨_,_,F39⟩:=fk X G d39 ["line","y"] (by walk_at "b")
 have Qbs:=zHh l.prog w base 4 B KT C R ET F39 (Qal:=Qal.mo) (Qcg:=Qcg.mo) (Qby:=Qby.mo) (Qan:=Qan.mo);obtain⟨_,_,F42⟩:=fk X G d42 ["one","two"] (by walk_at "b")
 have Qbx:=zIN l.prog w base 5 B KT C R ET F42 (Qb3:=Qb3.mo) (Qbr:=Qbr.mo) (Qbz:=Qbz.mo) (Qby:=Qby.mo) (Qcg:=Qcg.mo) (Qbw:=Qbw.mo) (Qb6:=Qb6.mo);obtain⟨_,_,F46⟩:=fk X G d46 ["joints","dealings","spot"] (by walk_at "b")
 have Qbv:=zHi l.prog w base 5 B KT C R ET F46 (Qbr:=Qbr.mo);obtain⟨_,_,F53⟩:=fk X G d53 ["claim"] (by walk_at "b")
 have Qbi:=zEB l.prog w base 5 B KT C R ET F53 (Qbr:=Qbr.mo) (Qb7:=Qb7.mo);obtain⟨_,_,F47⟩:=fk X G d47 ["way","weights","claims"] (by walk_at "b")
 have Qbe:=tU l.prog w base 4 B KT C R ET F47 (Qb7:=Qb7.mo) (Qbg:=Qbg.mo) (Qaw:=Qaw.mo) (Qar:=Qar.mo) (Qb9:=Qb9.mo) (Qaq:=Qaq.mo) 2;obtain⟨_,_,F18⟩:=fk X G d18 ["way","weights","claims","catch"] (by walk_at "b")
 have Qap:=mF l.prog w base 5 B KT C R ET F18 (Qb7:=Qb7.mo) (Qbc:=Qbc.mo) (Qay:=Qay.mo) (Qa4:=Qa4.mo) (Qax:=Qax.mo) (Qb8:=Qb8.mo) (Qcd:=Qcd.mo) (Qcb:=Qcb.mo) 2;obtain⟨_,_,F17⟩:=fk X G d17 ["way","weights","claims","catch"] (by walk_at "b")
 have Qca:=zLO l.prog w base 8 B KT C R ET F17 (Qb5:=Qb5.mo) (Qal:=Qal.mo) (Qap:=Qap.mo) (Qb7:=Qb7.mo);obtain⟨_,_,F45⟩:=fk X G d45 ["way","weights","claims"] (by walk_at "b")
 have Qa9:=zBZ l.prog w base 8 B KT C R ET F45 (Qb5:=Qb5.mo) (Qaj:=Qaj.mo) (Qbe:=Qbe.mo) (Qap:=Qap.mo) (Qbv:=Qbv.mo);obtain⟨_,_,F64⟩:=fk X G d64 ["custom"] (by walk_at "b")
 have Qbl:=wV l.prog w base 0 B KT C R ET F64  10;obtain⟨_,_,F66⟩:=fk X G d66 ["custom"] (by walk_at "b")
 have Qa6:=uA l.prog w base 0 B KT C R ET F66  10;obtain⟨_,_,F65⟩:=fk X G d65 ["cells","plan","most"] (by walk_at "b")
 have Qa0:=zAc l.prog w base 11 B KT C R ET F65 (Qbk:=Qbk.mo) (Qbt:=Qbt.mo) (Qbl:=Qbl.mo);obtain⟨_,_,F28⟩:=fk X G d28 ["custom"] (by walk_at "b")
 have Qa8:=tP l.prog w base 2 B KT C R ET F28 (Qbq:=Qbq.mo) (Qbu:=Qbu.mo) 10;obtain⟨_,_,F29⟩:=fk X G d29 ["custom"] (by walk_at "b")
 have Qbj:=zEb l.prog w base 13 B KT C R ET F29 (Qa8:=Qa8.mo);obtain⟨_,_,F30⟩:=fk X G d30 ["custom"] (by walk_at "b")
 have Qa2:=zBv l.prog w base 14 B KT C R ET F30 (Qbj:=Qbj.mo) (Qbu:=Qbu.mo);obtain⟨_,_,F32⟩:=fk X G d32 ["custom","catch"] (by walk_at "b")
 have Qbn:=wH l.prog w base 15 B KT C R ET F32 (Qbq:=Qbq.mo) (Qca:=Qca.mo) (Qb0:=Qb0.mo) (Qa3:=Qa3.mo) (Qa2:=Qa2.mo) (Qbu:=Qbu.mo) 10;obtain⟨_,_,F52⟩:=fk X G d52 ["custom"] (by walk_at "b")
 have Qbm:=wA l.prog w base 15 B KT C R ET F52 (Qbq:=Qbq.mo) (Qa9:=Qa9.mo) (Qb0:=Qb0.mo) (Qa3:=Qa3.mo) (Qa2:=Qa2.mo) (Qbu:=Qbu.mo) (Qbi:=Qbi.mo) (Qbj:=Qbj.mo) (Qbx:=Qbx.mo) 10;obtain⟨_,_,F31⟩:=fk X G d31 ["custom","catch"] (by walk_at "b")
 have Qb1:=zHH l.prog w base 26 B KT C R ET F31 (Qal:=Qal.mo) (Qbn:=Qbn.mo) (Qb7:=Qb7.mo) (Qbj:=Qbj.mo);obtain⟨_,_,F54⟩:=fk X G d54 ["custom","boat","amount"] (by walk_at "b")
 have Qa5:=zAp l.prog w base 26 B KT C R ET F54 (Qbm:=Qbm.mo) (Qbs:=Qbs.mo);obtain⟨_,_,F67⟩:=fk X G d67 ["custom","boat_at","amount"] (by walk_at "b")
 have Qbd:=zCw l.prog w base 27 B KT C R ET F67 (Qa5:=Qa5.mo);obtain⟨_,_,F68⟩:=fk X G d68 ["custom","claims","boat_at","amount","found"] (by walk_at "b")
 have Qbb:=zCM l.prog w base 27 B KT C R ET F68 (Qba:=Qba.mo) (Qbf:=Qbf.mo) (Qbp:=Qbp.mo) (Qbh:=Qbh.mo) (Qai:=Qai.mo) (Qb1:=Qb1.mo);have F70:Fn K mg "law" wF ["script"] _ _:=⟨zR (st:=wF) l70 c70 k70,(zR (st:=wF) l70 c70 k70).binds (ps:=["script"]) (by walk_at "b"),k70,Vd X G a70⟩
 have Qcf:=zRt l.prog w base 28 B KT C R ET F70 (Qas:=Qas.mo) (Qa0:=Qa0.mo) (Qa6:=Qa6.mo) (Qau:=Qau.mo) (Qbd:=Qbd.mo) (Qbh:=Qbh.mo) (Qbb:=Qbb.mo);exact zNV Qcf law_true
end Lw
open PySem PySem.W PyProof.Rows
local macro_rules | `(tactic| walk_at "fk")=>`(tactic| (refine' Lw.fkm ?a ?l ?c ?k;(case a=>k_is);(case l=>k_is);(case c=>k_is);(case k=>k_is)))
set_option maxRecDepth 100000 in
set_option maxHeartbeats 0 in
theorem PySem.Challenge.cw_catchhall_k31_catches_by_amount_holds : PySem.Challenge.rw_catchhall_k31_catches_by_amount.Holds := by
 w_on;o_law;k_head;(case hw=>w_witness2)
 k_fill
 refine L3.zSr (l:=PySem.Challenge.rw_catchhall_k31_catches_by_amount) (k:=29) rfl rfl ⟨rfl,by decide,by decide⟩ (fun w h Y=>PySem.W.km_in_of Y) (fun w h Y=>PySem.W.km_tabs_of Y _ (.head _)) ?F
 case F=>
  intro w mg fa h KX G hmg
  refine' Lw.zRg KX G hmg ?d0 ?d1 ?d2 ?d3 ?d4 ?d5 ?d6 ?d7 ?d8 ?d9 ?d10 ?a11 ?l11 ?c11 ?k11 ?tq ?tn ?d12 ?d13 ?d14 ?d15 ?d16 ?d17 ?d18 ?d19 ?d20 ?d21 ?d22 ?d23 ?d24 ?d25 ?d26 ?d27 ?d28 ?d29 ?d30 ?d31 ?d32 ?d33 ?d34 ?d35 ?d36 ?d37 ?d38 ?d39 ?d40 ?d41 ?d42 ?d43 ?d44 ?d45 ?d46 ?d47 ?d48 ?d49 ?d50 ?d51 ?d52 ?d53 ?d54 ?d55 ?d56 ?d57 ?d58 ?d59 ?d60 ?d61 ?d62 ?d63 ?d64 ?d65 ?d66 ?d67 ?d68 ?d69 ?a70 ?l70 ?c70 ?k70 ?z_abs ?z_sorted ?z_range ?z_len ?z_sum ?z_zip ?z_tuple ?z_min ?z_reversed ?z_isinstance ?z_bool ?z_int ?z_max ?KT ?CC ?RR ?EE
  (case a11=>k_is)
  (case l11=>k_is)
  (case c11=>k_is)
  (case k11=>k_is)
  (case tq=>first | k_is | kernel_rfl | kn_code | decide +kernel)
  (case tn=>first | k_is | kernel_rfl | kn_code | decide +kernel)
  (case a70=>k_is)
  (case l70=>k_is)
  (case c70=>k_is)
  (case k70=>k_is)
  (case d0=>walk_at "fk")
  (case d1=>walk_at "fk")
  (case d2=>walk_at "fk")
  (case d3=>walk_at "fk")
  (case d4=>walk_at "fk")
  (case d5=>walk_at "fk")
  (case d6=>walk_at "fk")
  (case d7=>walk_at "fk")
  (case d8=>walk_at "fk")
  (case d9=>walk_at "fk")
  (case d10=>walk_at "fk")
  (case d12=>walk_at "fk")
  (case d13=>walk_at "fk")
  (case d14=>walk_at "fk")
  (case d15=>walk_at "fk")
  (case d16=>walk_at "fk")
  (case d17=>walk_at "fk")
  (case d18=>walk_at "fk")
  (case d19=>walk_at "fk")
  (case d20=>walk_at "fk")
  (case d21=>walk_at "fk")
  (case d22=>walk_at "fk")
  (case d23=>walk_at "fk")
  (case d24=>walk_at "fk")
  (case d25=>walk_at "fk")
  (case d26=>walk_at "fk")
  (case d27=>walk_at "fk")
  (case d28=>walk_at "fk")
  (case d29=>walk_at "fk")
  (case d30=>walk_at "fk")
  (case d31=>walk_at "fk")
  (case d32=>walk_at "fk")
  (case d33=>walk_at "fk")
  (case d34=>walk_at "fk")
  (case d35=>walk_at "fk")
  (case d36=>walk_at "fk")
  (case d37=>walk_at "fk")
  (case d38=>walk_at "fk")
  (case d39=>walk_at "fk")
  (case d40=>walk_at "fk")
  (case d41=>walk_at "fk")
  (case d42=>walk_at "fk")
  (case d43=>walk_at "fk")
  (case d44=>walk_at "fk")
  (case d45=>walk_at "fk")
  (case d46=>walk_at "fk")
  (case d47=>walk_at "fk")
  (case d48=>walk_at "fk")
  (case d49=>walk_at "fk")
  (case d50=>walk_at "fk")
  (case d51=>walk_at "fk")
  (case d52=>walk_at "fk")
  (case d53=>walk_at "fk")
  (case d54=>walk_at "fk")
  (case d55=>walk_at "fk")
  (case d56=>walk_at "fk")
  (case d57=>walk_at "fk")
  (case d58=>walk_at "fk")
  (case d59=>walk_at "fk")
  (case d60=>walk_at "fk")
  (case d61=>walk_at "fk")
  (case d62=>walk_at "fk")
  (case d63=>walk_at "fk")
  (case d64=>walk_at "fk")
  (case d65=>walk_at "fk")
  (case d66=>walk_at "fk")
  (case d67=>walk_at "fk")
  (case d68=>walk_at "fk")
  (case d69=>walk_at "fk")
  (case z_abs=>k_is)
  (case z_sorted=>k_is)
  (case z_range=>k_is)
  (case z_len=>k_is)
  (case z_sum=>k_is)
  (case z_zip=>k_is)
  (case z_tuple=>k_is)
  (case z_min=>k_is)
  (case z_reversed=>k_is)
  (case z_isinstance=>k_is)
  (case z_bool=>k_is)
  (case z_int=>k_is)
  (case z_max=>k_is)
  (case KT=>refine' ⟨⟨?t0_0,?t0_1,?t0_2,?t0_3,?t0_4,?t0_5⟩,⟨?t1_0,?t1_1,?t1_2,?t1_3,?t1_4,?t1_5⟩,⟨?t2_0,?t2_1,?t2_2,?t2_3,?t2_4,?t2_5⟩⟩<;>(first | kit_is | (show _=some true;kit_is) | (show _=some false;kit_is) | rfl | decide +kernel))
  (case CC=>
   intro h mg X G
   refine' Lw.zSt X G ?n_ACROSS ?n_BOAT ?n_HALF ?pHALF0_l ?n_NOUGHT ?pNOUGHT1_l ?n_UP ?n_WEIGHTED ?pWEIGHTED2_l ?n_CONTRARY ?aW<;>try first | k_is | kit_is | k_exc | rfl | decide +kernel | kernel_rfl)
  (case RR=>
   intro h mg X G
   refine' Lw.zSB X G ?n_BadClaim ?x_BadClaim ?n_BadLine ?x_BadLine ?n_BadWay ?x_BadWay ?n_BadWeights ?x_BadWeights ?n_NoBoat ?x_NoBoat ?n_NoFraction ?x_NoFraction ?n_Outside ?x_Outside ?n_Unlike ?x_Unlike<;>try first | k_is | kit_is | k_exc | rfl | decide +kernel | kernel_rfl)
  (case EE=>
   intro h mg X G
   refine' Lw.zSz X G ?n_CatchError ?n_NoBoat ?n_Outside ?n_Unlike ?n_TooMany ?n_NoText ?n_NoFraction ?n_BadWeights ?n_BadWay ?n_BadLine ?n_BadClaim ?n_BadCatch ?z_ValueError ?ce1 ?ce2 ?ce3 ?g5 ?g6 ?e1_NoBoat ?e2_NoBoat ?e3_NoBoat ?e4_NoBoat ?e7_NoBoat ?e8_NoBoat ?em_NoBoat ?k_NoBoat_Outside ?k_NoBoat_NoBoat ?k_NoBoat_ValueError ?k_NoBoat_Unlike ?k_NoBoat_TooMany ?k_NoBoat_NoText ?k_NoBoat_NoFraction ?k_NoBoat_BadWeights ?k_NoBoat_BadWay ?k_NoBoat_BadLine ?k_NoBoat_BadClaim ?k_NoBoat_BadCatch ?e1_Outside ?e2_Outside ?e3_Outside ?e4_Outside ?e7_Outside ?e8_Outside ?em_Outside ?k_Outside_Outside ?k_Outside_NoBoat ?k_Outside_ValueError ?k_Outside_Unlike ?k_Outside_TooMany ?k_Outside_NoText ?k_Outside_NoFraction ?k_Outside_BadWeights ?k_Outside_BadWay ?k_Outside_BadLine ?k_Outside_BadClaim ?k_Outside_BadCatch<;>try first | k_is | kit_is | k_exc | rfl | decide +kernel | kernel_rfl)
