
import PyProof.Rows.All
import Wide.All
import OpenK.AllK
import Wide.FinOn
import Lean
import PyProof.EqAt
import PyProof.EqKinds
import PyProof.TupleCall
import PyProof.NeKinds
import KE.KRevIter
import PyProof.Rows.SumAny
import PySem.Challenge.RW_catchhall_k50_whole_lacks_found
noncomputable section
set_option Elab.async false
set_option linter.all false
set_option maxRecDepth 100000
def Qb:=@List.mem_cons_self
def Qc:=@List.mem_cons_of_mem
def Qd:=@Nat.le_refl
def Qe:=@List.mem_cons
def Qf:=@List.length_map
def Qg:=@List.mem_of_getElem?
def Qh:=@List.size_toArray
def Qi:=@List.length_append
def Qj:=@List.getElem?_eq_getElem
def Qk:=@List.sum_cons
def Ql:=@List.map_cons
def Qm:=@List.length_cons
def Qn:=@Nat.le_trans
def Qo:=@Nat.lt_of_lt_of_le
def Qp:=@Nat.ne_of_lt
def Qq:=@List.getD_eq_getElem?_getD
def Qr:=@List.getElem?_map
def Qs:=@List.mem_range
def Qt:=@List.mem_map
def Qu:=@List.mem_singleton
def Qv:=@Rat.intCast_add
def Qw:=@List.map_map
def Qx:=@Int.emod_nonneg
def Qy:=@List.map_congr_left
def Qz:=@Rat.le_refl
def Q0:=@List.mem_append_right
def Q2:=@Nat.zero_add
def Q3:=@List.getElem?_eq_none
def Q4:=@List.map_append
def Q5:=@Rat.intCast_le_intCast
def Q6:=@PySem.boot_len
def Q7:=@List.not_mem_nil
def Q8:=@List.flatMap_cons
def Q9:=@List.length_range
def Va:=@Int.emod_lt_of_pos
def Vb:=@Rat.not_lt
def Vc:=@PySem.W.mg_of
def Vd:=@Option.some.inj
def Ve:=@List.getElem?_eq_some_iff
def Vf:=@List.length_set
def Vg:=@Int.natCast_nonneg
def Vh:=@Bool.and_eq_true
def Vi:=@List.getElem?_set_self
def Vj:=@List.getElem?_set_ne
def Vk:=@List.getElem?_append_left
def Vl:=@Nat.zero_le
def Vm:=@Rat.intCast_mul
def Vn:=@List.append_nil
def Vo:=@List.length_drop
def Vp:=@Int.toNat_natCast
def Vq:=@Rat.le_of_lt
def Vr:=@Rat.div_mul_cancel
def Vs:=@List.sum_nil
def Vt:=@Nat.lt_irrefl
def Vu:=@List.getElem?_append_right
def Vv:=@List.map_nil
def Vw:=@Nat.pow_le_pow_right
def Vx:=@List.flatMap_append
def Vy:=@List.flatMap_def
def Vz:=@Rat.not_le
def V0:=@Int.mul_one
def V3:=@List.append_assoc
def V4:=@List.length_nil
def V5:=@List.lookup_cons
def V6:=@List.take_length
def V7:=@Rat.le_trans
def V8:=@List.sum_append
def V9:=@PySem.W.mg_none_of
def Xa:=@List.mem_append
def Xb:=@List.length_take
def Xc:=@Bool.or_eq_true
def Xd:=@Rat.num_divInt_den
def Xe:=@Nat.lt_of_le_of_lt
def Xf:=@List.all_eq_true
def Xg:=@Int.mul_pos
def Xh:=@List.getElem_mem
def Xi:=@Nat.succ_le_succ
def Xj:=@Bool.false_eq_true
def Xk:=@Nat.lt_succ_of_lt
def Xl:=@Int.le_refl
def Xm:=@Rat.mul_le_mul_of_nonneg_right
def Xn:=@Nat.lt_or_eq_of_le
def Xo:=@Array.length_toList
def Xp:=@PySem.mem_of_lookup
def Xq:=@List.replicate_succ
def Xr:=@Nat.le_succ
def Xs:=@Int.le_of_lt
def Xt:=@Int.mul_ne_zero
def Xu:=@List.getElem?_range
def Xv:=@Int.le_trans
def Xw:=@Int.natCast_add
def Xx:=@Rat.mul_le_mul_of_nonneg_left
def Xy:=@Int.mul_assoc
def Xz:=@List.take_append_drop
def X0:=@List.cons.injEq
def X1:=@Nat.not_lt_zero
def X2:=@Nat.le_of_lt
def X3:=@Bool.false_ne_true
def X4:=@List.nodup_cons
def X5:=@List.length_replicate
def X6:=@List.flatten_cons
def X7:=@List.length_singleton
def X8:=@Nat.sub_self
def X9:=@Nat.lt_succ_self
def Yc:=@Nat.le_of_eq
def Yd:=@Int.add_mul
def Yf:=@Int.mul_comm
def Yg:=@Rat.le_total
def Yh:=@Rat.divInt_eq_div
def Yi:=@Rat.add_zero
def Yj:=@PySem.F.excBase_ValueError
def Yk:=@Nat.ne_of_gt
def Ym:=@PyProof.Rows.callWith_type1
def Yn:=@List.of_mem_zip
def Yo:=@Nat.min_self
def Yp:=@Nat.succ_pos
def Yq:=@Rat.le_of_mul_le_mul_right
def Yr:=@Rat.intCast_nonneg
def Ys:=@List.mem_append_left
def Yt:=@List.nil_append
def Yu:=@Int.pow_pos
def Yv:=@List.drop_eq_nil_of_le
def Yw:=@List.take_of_length_le
def Yy:=@PySem.F.plainAttrs_list
def Yz:=@List.range_succ
def Y0:=@List.ext_getElem?
def Y1:=@List.map_id
def Y2:=@List.pairwise_cons
def Y3:=@Rat.mul_nonneg
def Y4:=@List.mem_of_mem_take
def Y5:=@List.map_id'
def Y6:=@List.filterMap_cons
def Y7:=@PyProof.Rows.slot_tuple_getitem
def Y8:=@Nat.le_total
def Y9:=@Int.eq_ofNat_of_zero_le
def Ua:=@Int.gcd_dvd_left
def Ub:=@Int.gcd_dvd_right
def Uc:=@Rat.div_def
def Ud:=@List.take_succ
def Ue:=@List.eq_nil_of_length_eq_zero
def Uf:=@List.any_toArray
def Ug:=@List.drop_eq_getElem_cons
def Uh:=@List.forIn_cons
def Ui:=@Nat.succ.inj
def Uj:=@List.cons_append
def Uk:=@Nat.add_zero
def Ul:=@Int.mul_nonneg
def Um:=@List.take_succ_cons
def Uo:=@Rat.intCast_sub
def Uq:=@Int.zero_add
def Ur:=@List.mem_flatMap
def Us:=@List.mem_of_mem_drop
def Ut:=@Int.natAbs_neg
def Uu:=@Int.ediv_nonneg
def Uv:=@Rat.mul_lt_mul_right
def Uw:=@Nat.le_of_ble_eq_true
def Ux:=@PySem.W.hideAll_get
def Uy:=@List.mem_filterMap
def Uz:=@List.getElem?_replicate
def U0:=@PySem.F.slot_tuple_add
def U1:=@PySem.F.entry_tuple_add
def U2:=@PySem.F.args_tuple_add_2
def U3:=@Bool.and_false
def U5:=@Array.getElem?_toList
def U6:=@Nat.add_comm
def U7:=@Int.one_mul
def U8:=@Rat.divInt_mul_divInt
def U9:=@Int.fdiv_eq_ediv_of_nonneg
def Wa:=@Nat.min_eq_left
def Wb:=@Rat.mul_assoc
def Wc:=@PySem.intBits_le_iff
def Wd:=@List.set_append_right
def We:=@Nat.succ_ne_self
def Wf:=@Nat.add_sub_cancel
def Wg:=@Nat.sub_zero
def Wh:=@List.toList_toArray
def Wj:=@List.pairwise_map
def Wk:=@Array.size_zip
def Wl:=@List.length_zip
def Wm:=@List.Pairwise.imp_of_mem
def Wn:=@Bool.and_true
def Wo:=@Bool.not_false
def Wp:=@Bool.or_false
def Wq:=@Int.dvd_trans
def Wr:=@Int.add_assoc
def Ws:=@Int.add_zero
def Wu:=@Int.pow_add
def Wv:=@List.range_eq_range'
def Ww:=@Nat.mul_add
def Wx:=@Int.ne_of_gt
def Wz:=@Int.lt_of_le_of_lt
def W3:=@Nat.lt_trichotomy
def W4:=@List.flatMap_map
def W5:=@Int.le_of_dvd
def W6:=@PySem.W.cellsFrom_some
def W7:=@Option.isSome_iff_exists
def W8:=@List.pairwise_mergeSort
def W9:=@List.mergeSort_perm
def Qaa:=@Int.neg_ediv_of_dvd
def Qab:=@Int.fmod_eq_emod_of_nonneg
def Qac:=@PySem.F.slot_list_append
def Qad:=@PySem.F.type_list_append
def Qae:=@PySem.F.slot_list_extend
def Qaf:=@PySem.F.type_list_extend
def Qag:=@Array.getElem?_eq_some_iff
def Qah:=@Nat.add_sub_cancel_left
def Qai:=@PySem.F.plain_list_iadd
def Qaj:=@List.getElem?_zip_eq_some
def Qak:=@Nat.lt_two_pow_self
def Qal:=@Int.mul_le_mul_of_nonneg_left
def Qam:=@Classical.not_forall
def Qan:=@Classical.choose_spec
abbrev Fg_:=PySem.W.Frag
abbrev Ja:=PySem.Value
abbrev Jb:=PySem.Shared
abbrev Jc:=PySem.Addr
abbrev Jd:=PySem.Heap
abbrev Je:=PySem.Program
abbrev Jf:=PySem.World
abbrev Jg:=PySem.Around
abbrev Jh:=PySem.Stmt
def Ji:=@decide_eq_false
def Jj:=@if_pos
def Jk:=@if_neg
def Jl:=@PySem.wpAny_Name
def Jm:=@PySem.wpAny_isTrue_Compare1
def Jn:=@PySem.wpAny_execs_nil
def Jo:=@PySem.wpAny_execs_cons
def Jp:=@PySem.wpAny_assign_Name
def Jq:=@PySem.wpAny_bind
def Jr:=@PySem.wpAny_Assign_Name
def Js:=@PySem.wpAny_passesOwn
def Jt:=@PySem.wpAny_pure
def Ju:=@PyProof.Rows.boot_range
def Jv:=@PySem.sizeLine_eq
def Jw:=@PySem.wpAny_call
def Jx:=@PySem.wpAny_Call_Name_kw
def Jy:=@PySem.concat_meets
def Jz:=@PySem.noFill_tuple_add
def J0:=@PySem.seq_tuple_add
def J1:=@PyProof.Rows.entry_tuple_getitem
def J2:=@PySem.seqIndex_of
def J3:=@PySem.seqIndex_neg
def J4:=@PyProof.Rows.subscriptTail_builtinR
def J5:=@decide_eq_true
def J6:=@dif_pos
def J7:=@PySem.wpAny_comprehension_free
def J8:=@PySem.lookup_relabel_local
def J9:=@PySem.codeAny_compStart_list
def Ma:=@PySem.wpAny_pyIter_enum
def Mb:=@PyProof.Rows.wpS_bind
def Mc:=@of_decide_eq_true
namespace L2
open PySem PySem.Spec PyProof.Rows
abbrev Key:=Sum Int Str
def zNV:Key->Ja->Bool
 | .inl k,v=>Value.isInt k v
 | .inr x,v=>Value.isStrOf x v
def zSr(w:Jf):Key->Int
 | .inl k=>hashInt k
 | .inr x=>hashStr w x
def dE:∀ {k:Key} {v:Ja},zNV k v=true->(∃ i t,k=Sum.inl i/\v=Value.int i t)∨(∃ x t,k=Sum.inr x/\v=Value.str x t)
 | .inl i,v,h=>by
  obtain⟨t,e⟩:=Value.isInt_shape (k:=i) (v:=v) h;exact .inl ⟨i,t,rfl,e⟩
 | .inr x,v,h=>by
  obtain⟨t,e⟩:=Value.isStrOf_shape (x:=x) (v:=v) h;exact .inr ⟨x,t,rfl,e⟩
def zOa(a b:Int):decide ((Sum.inl a:Key)=Sum.inl b)=(a==b):=by
 by_cases e:a=b
 ·subst e;simp
 ·have h:¬ (Sum.inl a:Key)=Sum.inl b:=fun q=>e (Sum.inl.inj q)
  rw[Ji h];exact(beq_eq_false_iff_ne.mpr e).symm
def zPa(a b:Str):decide ((Sum.inr a:Key)=Sum.inr b)=decide (a=b):=by
 by_cases e:a=b
 ·subst e;simp
 ·have h:¬ (Sum.inr a:Key)=Sum.inr b:=fun q=>e (Sum.inr.inj q)
  rw[Ji h,Ji e]
def zPf(a:Int)(b:Str):decide ((Sum.inl a:Key)=Sum.inr b)=false:=Ji (fun q=>nomatch q)
def zPx(a:Str)(b:Int):decide ((Sum.inr a:Key)=Sum.inl b)=false:=Ji (fun q=>nomatch q)
def zHv(prog:Je)(w:Jf):PySem.KeyKind prog w Key where
 is:=zNV
 hash:=zSr w
 inj:=fun v a b ha hb=>by
  rcases dE ha with⟨i,t,rfl,rfl⟩ | ⟨x,t,rfl,rfl⟩
  ·rcases dE hb with⟨j,u,rfl,e⟩ | ⟨y,u,rfl,e⟩
   ·injection e with e1 _;rw[e1]
   ·exact nomatch e
  ·rcases dE hb with⟨j,u,rfl,e⟩ | ⟨y,u,rfl,e⟩
   ·exact nomatch e
   ·injection e with e1 _;rw[e1]
 byValue:=fun k v h=>by
  rcases dE h with⟨i,t,rfl,rfl⟩ | ⟨x,t,rfl,rfl⟩<;>rfl
 pyHash:=fun hv h=>by
  rcases dE hv with⟨i,t,rfl,rfl⟩ | ⟨x,t,rfl,rfl⟩
  ·exact wpAny_pyHash_int h
  ·exact wpAny_pyHash_str h
 eqBool:=fun hu hv h=>by
  rcases dE hu with⟨i,t,rfl,rfl⟩ | ⟨x,t,rfl,rfl⟩
  ·rcases dE hv with⟨j,u,rfl,rfl⟩ | ⟨y,u,rfl,rfl⟩
   ·rw[zOa] at h;exact wpAny_eqBool_int h
   ·rw[zPf] at h;exact SeqAt.EqAt.int_str i t y u _ _ _ _ h
  ·rcases dE hv with⟨j,u,rfl,rfl⟩ | ⟨y,u,rfl,rfl⟩
   ·rw[zPx] at h;exact SeqAt.EqAt.str_int x t j u _ _ _ _ h
   ·rw[zPa] at h;exact wpAny_eqBool_str h
 «strs» := fun k x t v h=>by
  rcases dE h with⟨i,u,rfl,e⟩ | ⟨y,u,rfl,e⟩
  ·exact nomatch e
  ·injection e with e1 _
   subst e1;cases v<;>rfl
inductive V where
 | non | bl (b:Bool) | int (i:Int) | str (x:Str) | byt (b:Array UInt8) | flt (b:UInt64) | ref (a:Jc) | ty (n:String)
 deriving DecidableEq
def cU:V->Ja->Prop
 | .non,u=>u=Value.none
 | .bl b,u=>u=Value.bool b
 | .int i,u=>∃ t,u=Value.int i t
 | .str x,u=>∃ t,u=Value.str x t
 | .byt b,u=>∃ t,u=Value.bytes b t
 | .flt b,u=>∃ t,u=Value.float b t
 | .ref a,u=>u=Value.ref a
 | .ty n,u=>u=Value.type n
abbrev dN:List V->List Ja->Prop:=Paired cU
def dN.length{xs:List V}{us:List Ja}(r:dN xs us):xs.length=us.length:=Paired.length r
def dN.get:∀ {xs:List V} {us:List Ja} {i:Nat} {x:V},dN xs us->xs[i]?=some x->∃ u,us[i]?=some u/\cU x u
 | _,_,_,_,.nil,e=>by simp at e
 | _,_,0,_,.cons r _,e=>by simp at e;subst e;exact⟨_,rfl,r⟩
 | _,_,i+1,x,.cons _ t,e=>by
  obtain⟨u,h1,h2⟩:=dN.get (i:=i) (x:=x) t (by simpa using e)
  exact⟨u,by simpa using h1,h2⟩
def dN.set{x:V}{u:Ja}(r:cU x u):∀ {xs:List V} {us:List Ja} (i:Nat),dN xs us->dN (xs.set i x) (us.set i u)
 | _,_,_,.nil=>.nil
 | _,_,0,.cons _ t=>.cons r t
 | _,_,i+1,.cons q t=>.cons q (dN.set r i t)
def dN.append:∀ {xs ys:List V} {us ws:List Ja},dN xs us->dN ys ws->dN (xs++ys) (us++ws)
 | _,_,_,_,.nil,s=>s
 | _,_,_,_,.cons r t,s=>.cons r (dN.append t s)
def dN.take:∀ {xs:List V} {us:List Ja} (n:Nat),dN xs us->dN (xs.take n) (us.take n)
 | _,_,0,_=>.nil
 | _,_,_+1,.nil=>.nil
 | _,_,n+1,.cons r t=>.cons r (dN.take n t)
def dN.drop:∀ {xs:List V} {us:List Ja} (n:Nat),dN xs us->dN (xs.drop n) (us.drop n)
 | _,_,0,r=>r
 | _,_,_+1,.nil=>.nil
 | _,_,n+1,.cons _ t=>dN.drop n t
def zRH:Option V->Option Ja->Prop
 | some v,some u=>cU v u
 | none,none=>True
 | _,_=>False
def KV{r:Type}:List (r×V)->List (r×Ja)->Prop:=Paired fun(p:r×V) (q:r×Ja)=>p.1=q.1/\cU p.2 q.2
def kV:Key->V
 | .inl i=>.int i
 | .inr x=>.str x
inductive HO where
 | lst (xs:List V)
 | tup (xs:List V)
 | dK (kvs:List (Key×V)) | dT (kvs:List (List Key×V))
 | set (S:Int->Bool) (n:Nat)
 | ins (C dx:Jc) (fs:List (Str×V))
 | own (x:Jc)
 | xd (fs:List (Str×V))
 | met (f x:Jc)
 | rng (lo hi:Int)
 | frz (o:Obj) (u:HO)
 | tbl (ps:Array Ja)
 | ext (φ:Jd->Prop)
abbrev Hp:=Jc->Option HO
def upd(H:Hp)(a:Jc)(o:HO):Hp:=fun b=>if b=a then some o else H b
def aW{H:Hp}{a:Jc}{o:HO}:upd H a o a=some o:=by unfold upd;rw[Jj rfl]
def aY{H:Hp}{a b:Jc}{o:HO}(h:b≠a):upd H a o b=H b:=by unfold upd;rw[Jk h]
def zPB{H:Hp}{a b:Jc}{o u:HO}(h:H a=some o)(h':H b=some u)(d:o≠u):a≠b:=by
 intro e;subst e;rw[h] at h';exact d (Vd h')
def bB{H:Hp}{a b:Jc}{o:HO}(h:H a=some o)(h':H b=none):a≠b:=by
 intro e;subst e;rw[h] at h';cases h'
section
variable(P:Je)(w:Jf)
def lH(H:Hp)(h:Jd)(a:Jc):HO->Prop
 | .lst xs=>xs.length<=sizeLine/\∃(its:List Ja)(n:Nat),dN xs its/\h.get? a=some { cls:=.type "list", data:=.seq its.toArray n }
 | .tup xs=>xs.length<=sizeLine/\∃ its:List Ja,dN xs its/\IsTup h a its.toArray
 | .dK kvs=>kvs.length<=sizeLine/\(a==sysModules)=false/\∃ vs,KV kvs vs/\h.DictOf (zHv P w) a vs
 | .dT kvs=>kvs.length<=sizeLine/\(a==sysModules)=false/\∃ xs:List (List Key×Jc×Ja),
   Paired (fun(p:List Key×V) (q:List Key×Jc×Ja)=>p.1=q.1/\H q.2.1=some (.tup (p.1.map kV))/\cU p.2 q.2.2) kvs xs/\
   ∃ o es ep,h.get? a=some o/\o.ExactDict/\o.data=.dict es ep/\es.toList=xs.map (entryOfKey (tupleKind (zHv P w)))/\(xs.map (·.1)).Nodup
 | .set S n=>h.SetOf (intKind P w) a S n
 | .ins C dx fs=>H dx=some (.own a)/\fs.length<=1000/\dx≠a/\h.get? a=some (PySem.W.instObj C dx)/\
   ∃ mA,h.Ns1 dx mA/\(∀ f,zRH (fs.lookup f) (mA f))/\PySem.Within mA (fs.map (·.1))
 | .own _=>∃ o,h.get? a=some o
 | .xd fs=>∃ mA,h.Ns1 a mA/\∀ f,zRH (fs.lookup f) (mA f)
 | .rng lo hi=>∃ t u v,h.get? a=some { cls:=.type "range", data:=.fields #[.int lo t,.int hi u,.int 1 v] }
 | .frz o u=>h.get? a=some o/\lH H h a u
 | .tbl ps=>h.get? a=some { cls:=.none,data:=.fields ps }
 | .met f x=>h.get? a=some (PySem.W.methodObj (.ref f) (.ref x))
 | .ext r=>r h/\(∃ o,h.get? a=some o)/\∀ h1 h2:Jd,r h1->(∀ o,h1.get? a=some o->h2.get? a=some o)->r h2
def HOk(H:Hp)(h:Jd):Prop:=∀ a o,H a=some o->lH P w H h a o
end
section
variable{P:Je}{w:Jf}{H H':Hp}{h h':Jd}{a:Jc}{o:HO}
def lH.lt(x:lH P w H h a o):a<h.objs.size:=by
 cases o with
 | lst xs=>obtain⟨_,_,_,_,e⟩:=x;exact Heap.lt_size e
 | tup xs=>obtain⟨_,_,_,p⟩:=x;exact p.lt
 | dK kvs=>obtain⟨_,_,_,_,o,_,_,e,_⟩:=x;exact Heap.lt_size e
 | dT kvs=>obtain⟨_,_,_,_,o,_,_,e,_⟩:=x;exact Heap.lt_size e
 | set S n=>obtain⟨o,_,_,_,e,_⟩:=x;exact Heap.lt_size e
 | ins C dx fs=>obtain⟨_,_,_,e,_⟩:=x;exact Heap.lt_size e
 | own y=>obtain⟨_,e⟩:=x;exact Heap.lt_size e
 | xd fs=>obtain⟨_,⟨_,_,_,e,_⟩,_⟩:=x;exact Heap.lt_size e
 | rng lo hi=>obtain⟨_,_,_,e⟩:=x;exact Heap.lt_size e
 | frz ob u=>obtain⟨e,_⟩:=x;exact Heap.lt_size e
 | tbl ps=>exact Heap.lt_size (show h.get? a=some _ from x)
 | met f y=>exact Heap.lt_size (show h.get? a=some _ from x)
 | ext i=>obtain⟨_,⟨_,e⟩,_⟩:=x;exact Heap.lt_size e
def Paired.mapP{s g:Type}{F G:s->g->Prop}:∀ {l₁:List s} {l₂:List g},Paired F l₁ l₂->(∀ a b,F a b->G a b)->Paired G l₁ l₂
 | _,_,.nil,_=>.nil
 | _,_,.cons r t,f=>.cons (f _ _ r) (Paired.mapP t f)
def lH.stay(x:lH P w H h a o)(k:∀ b u,(b=a∨H b=some (.own a))->h.get? b=some u->h'.get? b=some u)
  (ho:∀ b,H b=some (.own a)->H' b=some (.own a)) (ht:∀ b xs,H b=some (.tup xs)->H' b=some (.tup xs)):lH P w H' h' a o:=by
 induction o with
 | lst xs=>obtain⟨z,its,n,r,e⟩:=x;exact⟨z,its,n,r,k _ _ (.inl rfl) e⟩
 | tup xs=>obtain⟨z,its,r,ob,e,c⟩:=x;exact⟨z,its,r,ob,k _ _ (.inl rfl) e,c⟩
 | dK kvs=>obtain⟨z,y,vs,r,ob,es,ep,e,c⟩:=x;exact⟨z,y,vs,r,ob,es,ep,k _ _ (.inl rfl) e,c⟩
 | dT kvs=>
  obtain⟨z,y,xs,r,ob,es,ep,e,c⟩:=x;exact⟨z,y,xs,Paired.mapP r fun p q z=>⟨z.1,ht _ _ z.2.1,z.2.2⟩,ob,es,ep,k _ _ (.inl rfl) e,c⟩
 | set S n=>obtain⟨ob,es,ep,t,e,c⟩:=x;exact⟨ob,es,ep,t,k _ _ (.inl rfl) e,c⟩
 | ins C dx fs=>
  obtain⟨d,z,ne,e,mA,⟨od,es,ep,e2,c⟩,r⟩:=x;exact⟨ho _ d,z,ne,k _ _ (.inl rfl) e,mA,⟨od,es,ep,k _ _ (.inr d) e2,c⟩,r⟩
 | own y=>obtain⟨ob,e⟩:=x;exact⟨ob,k _ _ (.inl rfl) e⟩
 | xd fs=>obtain⟨mA,⟨od,es,ep,e,c⟩,r⟩:=x;exact⟨mA,⟨od,es,ep,k _ _ (.inl rfl) e,c⟩,r⟩
 | rng lo hi=>obtain⟨t,u,v,e⟩:=x;exact⟨t,u,v,k _ _ (.inl rfl) e⟩
 | frz ob u ih=>obtain⟨e,q⟩:=x;exact⟨k _ _ (.inl rfl) e,ih q⟩
 | tbl ps=>
  have e:h.get? a=some { cls:=.none,data:=.fields ps }:=x;show h'.get? a=some { cls:=.none,data:=.fields ps }
  exact k a _ (.inl rfl) e
 | met f y=>
  have e:h.get? a=some (PySem.W.methodObj (.ref f) (.ref y)):=x;show h'.get? a=some (PySem.W.methodObj (.ref f) (.ref y))
  exact k a _ (.inl rfl) e
 | ext i=>obtain⟨p,⟨o,e⟩,st⟩:=x;exact⟨st _ _ p fun o q=>k _ _ (.inl rfl) q,⟨o,k _ _ (.inl rfl) e⟩,st⟩
def HOk.lt(x:HOk P w H h)(e:H a=some o):a<h.objs.size:=(x a o e).lt
def HOk.fresh(x:HOk P w H h)(e:h.objs.size<=a):H a=none:=by
 cases q:H a with
 | none=>rfl
 | some u=>exact absurd (Qo (x.lt q) e) (Vt _)
def HOk.kept(x:HOk P w H h)(k:∀ b u,h.get? b=some u->h'.get? b=some u):HOk P w H h':=fun a o e=>
 (x a o e).stay (fun b u _ q=>k b u q) (fun _ q=>q) fun _ _ q=>q
def HOk.laid(x:HOk P w H h)(k:∀ b u,h.get? b=some u->h'.get? b=some u)(hp:h.objs.size<=a)(new:lH P w (upd H a o) h' a o):HOk P w (upd H a o) h':=fun b u e=>by
 have hn:=x.fresh hp;by_cases hb:b=a
 ·subst hb;rw[aW] at e;cases e;exact new
 ·rw[aY hb] at e
  exact(x b u e).stay (fun c v _ q=>k c v q) (fun c q=>by rw[aY (bB q hn)];exact q) fun c xs q=>by rw[aY (bB q hn)];exact q
end
def Rd(H:Hp)(a:Jc)(u:HO):Prop:=H a=some u∨∃ o,H a=some (.frz o u)
def Rd.ok{P:Je}{w:Jf}{H:Hp}{h:Jd}{a:Jc}{u:HO}(r:Rd H a u)(x:HOk P w H h):lH P w H h a u:=by
 rcases r with r | ⟨o,r⟩
 ·exact x a u r
 ·obtain⟨_,q⟩:=x a _ r
  exact q
def Mut:Option HO->Prop
 | some (.lst _)=>True
 | some (.dK _)=>True
 | some (.dT _)=>True
 | some (.set _ _)=>True
 | some (.ins _ _ _)=>True
 | some (.ext _)=>True
 | _=>False
section
variable{P:Je}{w:Jf}{H:Hp}{h h':Jd}{x e:Jc}{o':HO}
def HOk.write(ok:HOk P w H h)(mu:Mut (H x))(he:e=x∨H e=some (.own x))(k:∀ b u,b≠e->h.get? b=some u->h'.get? b=some u)(heo:∃ u,h'.get? e=some u)
  (new:lH P w (upd H x o') h' x o'):HOk P w (upd H x o') h':=fun b u q=>by
 have nown:∀ c y,H c=some (.own y)->c≠x:=fun c y r z=>by subst z;rw[r] at mu;exact mu
 have ntup:∀ c xs,H c=some (.tup xs)->c≠x:=fun c xs r z=>by subst z;rw[r] at mu;exact mu
 by_cases hb:b=x
 ·subst hb;rw[aW] at q;cases q;exact new
 ·rw[aY hb] at q
  by_cases hbe:b=e
  ·have q':H b=some (.own x):=by
    rcases he with z | z
    ·exact absurd (hbe.trans z) hb
    ·rw[hbe];exact z
   rw[q] at q';cases q'
   obtain⟨v,hv⟩:=heo;exact⟨v,by rw[hbe];exact hv⟩
  ·refine(ok b u q).stay (fun c v hc r=>k c v ?_ r) (fun c r=>by rw[aY (nown c b r)];exact r) fun c xs r=>by rw[aY (ntup c xs r)];exact r
   rcases hc with rfl | hc
   ·exact hbe
   ·rintro rfl
    rcases he with z | z
    ·exact nown c b hc z
    ·rw[hc] at z;cases z;exact hb rfl
end
structure Un (fs ex:List Jc) (H H':Hp) (h h':Jd):Prop where
 keep:∀ b o,h.get? b=some o->H b=none->b∉fs->b∉ex->h'.get? b=some o
 slot:∀ b o,h.get? b=some o->H b=none->b∈fs->b∉ex->∃ sl,h'.get? b=some { o with slots:=sl }
 free:∀ b o,h.get? b=some o->H b=none->b∉ex->H' b=none
 there:∀ b o,h.get? b=some o->b∉ex->∃ o',h'.get? b=some o'
 tups:∀ b xs,H b=some (.tup xs)->H' b=some (.tup xs)
 frzs:∀ b o u,H b=some (.frz o u)->H' b=some (.frz o u)
 tbls:∀ b ps,H b=some (.tbl ps)->∃ more,H' b=some (.tbl (ps++more))
section
variable{fs fs' ex ex':List Jc}{H H1 H2:Hp}{h h1 h2 h':Jd}{a x e:Jc}{o:HO}
def Un.any(u:Un fs ex H H1 h h1){b:Jc}{ob:Obj}(q:h.get? b=some ob)(n:H b=none)(hx:b∉ex):∃ sl,h1.get? b=some { ob with slots:=sl }:=by
 by_cases hb:b∈fs
 ·exact u.slot b ob q n hb hx
 ·exact⟨ob.slots,u.keep b ob q n hb hx⟩
def Un.kept(k:∀ b u,h.get? b=some u->h'.get? b=some u):Un fs ex H H h h':=
 ⟨fun b ob q _ _ _=>k b ob q,fun b ob q _ _ _=>⟨ob.slots,k b ob q⟩,fun _ _ _ n _=>n,fun b ob q _=>⟨ob,k b ob q⟩,fun _ _ q=>q,fun _ _ _ q=>q,fun _ ps q=>⟨#[],by rw[q];simp⟩⟩
def Un.refl:Un fs ex H H h h:=Un.kept fun _ _ q=>q
def Un.laid(k:∀ b u,h.get? b=some u->h'.get? b=some u)(hp:h.objs.size<=a)(hn:H a=none):Un fs ex H (upd H a o) h h' where
 keep:=fun b u q _ _ _=>k b u q
 slot:=fun b u q _ _ _=>⟨u.slots,k b u q⟩
 free:=fun b u q n _=>by rw[aY (Qp (Qo (Heap.lt_size q) hp))];exact n
 there:=fun b u q _=>⟨u,k b u q⟩
 tups:=fun b xs q=>by rw[aY (bB q hn)];exact q
 frzs:=fun b u xs q=>by rw[aY (bB q hn)];exact q
 tbls:=fun b ps q=>⟨#[],by rw[aY (bB q hn),q];simp⟩
def Un.write(mu:Mut (H x))(he:e=x∨H e=some (.own x))(k:∀ b u,b≠e->h.get? b=some u->h'.get? b=some u)(heo:∃ u,h'.get? e=some u):Un fs ex H (upd H x o) h h':=by
 have hx:∀ b,H b=none->b≠x:=fun b n z=>by subst z;rw[n] at mu;exact mu
 have hb:∀ b,H b=none->b≠e:=fun b n z=>by
  subst z;rcases he with r | r
  ·exact hx b n r
  ·rw[n] at r;cases r
 have hm:∀ b u,H b=some u->¬ Mut (some u)->b≠x:=fun b u q nm z=>by subst z;rw[q] at mu;exact nm mu
 refine⟨fun b u q n _ _=>k b u (hb b n) q,fun b u q n _ _=>⟨u.slots,k b u (hb b n) q⟩,fun b u q n _=>by rw[aY (hx b n)];exact n,fun b u q _=>?_,
  fun b xs q=>by rw[aY (hm b _ q fun z=>z)];exact q,fun b u xs q=>by rw[aY (hm b _ q fun z=>z)];exact q,fun b ps q=>⟨#[],by rw[aY (hm b _ q fun z=>z),q];simp⟩⟩
 by_cases hbe:b=e
 ·subst hbe;exact heo
 ·exact⟨u,k b u hbe q⟩
end
def trk(h:Jd)(H:Hp):List Jc:=(List.range h.objs.size).filter fun a=>(H a).isSome
def zIz(h:Jd)(H:Hp):Jd:=PySem.W.hideAll h (trk h H)
def zIm(h:Jd)(H:Hp):(zIz h H).objs.size=h.objs.size:=PySem.W.hideAll_size _ _
def zJU{h:Jd}{H:Hp}{b:Jc}{o:Obj}(e:h.get? b=some o)(n:H b=none):(zIz h H).get? b=some o:=
 Ux _ e fun hm=>by
  have q:(H b).isSome=true:=(List.mem_filter.mp hm).2;rw[n] at q;simp at q
def zNl{h:Jd}{H:Hp}{b:Jc}{o:Obj}(e:(zIz h H).get? b=some o):h.get? b=some o/\H b=none:=by
 have e':h.get? b=some o:=PySem.W.of_hideAll (trk h H) e;refine⟨e',?_⟩
 cases q:H b with
 | none=>rfl
 | some x=>
  have hm:b∈trk h H:=List.mem_filter.mpr ⟨Qs.mpr (Heap.lt_size e'),by simp[q]⟩
  have z:(zIz h H).get? b=none:=PySem.W.hideAll_none (trk h H) hm;rw[z] at e;cases e
def zMg(g h:Jd)(L:Jc):List (Jc×Obj):=(List.range h.objs.size).filterMap fun a=>if a=L∨(g.get? a).isSome=true then none else (h.get? a).map fun o=>(a,o)
def rest(g h:Jd)(L d:Jc):List (Jc×Obj):=(zMg g h L).filter fun p=>decide (p.1≠d)
structure Mod (K:PySem.W.Frag) (mg:Str->Option Ja) (base:Jd):Prop where
 kin:K.In base
 glob:base.Ns mainGlobals mg
 blt:∃ mb,base.Ns builtinsNs mb/\∀ x:Str,x ≠ "__name__" -> mb x=bootBuiltins x
 nolimit:base.NoLimit
structure Cx where
 prog:Je
 w:Jf
 K:PySem.W.Frag
 mg:Str->Option Ja
 base:Jd
 A:Jg
 N:List Str
 s₀:Jb
 H₀:Hp
 env:Env
 outer:List Env
 stack:List Env
 ex:List Jc
 fn:Str->Bool
 calm:Bool
 pn:List (Jc×Obj)
 xe:Ja->Jb->Prop
def frs(l:List Env):List Jc:=l.filterMap (·.frame)
abbrev Cx.fs(X:Cx):List Jc:=frs X.outer
def Vis(sc:Scope)(x:Str):Prop:=sc.names.lookup x=some .local∨sc.names.lookup x=some .cell∨sc.names.lookup x=some .free
def Loc(sc:Scope)(x:Str):Prop:=sc.names.lookup x=some .local∨sc.names.lookup x=some .cell
def zSp(env:Env)(h:Jd)(m:Str->Option Ja)(x:Str)(u:Ja):Prop:=
 (env.kindOf x=some .local/\m x=some u)∨((env.kindOf x=some .cell∨env.kindOf x=some .free)/\∃ c,env.cells.lookup x=some c/\h.IsCell c (some u))
structure Cx.Ok (X:Cx):Prop where
 mod:Mod X.K X.mg X.base
 kind:X.env.scope.kind=.function
 glob:X.env.globals=mainGlobals
 blt:X.env.builtins=builtinsNs
 above:X.s₀.heap.objs.size<=X.env.locals
 inj:∀ x y c,X.env.cells.lookup x=some c->X.env.cells.lookup y=some c->x=y
 has:∀ x,(X.env.kindOf x=some .cell∨X.env.kindOf x=some .free)->∃ c,X.env.cells.lookup x=some c
 cab:∀ x c,X.fn x=true->X.env.cells.lookup x=some c->X.s₀.heap.objs.size<=c
 hd:X.calm=true->X.A.handled=none
 frames:X.A.frames=some X.stack
 stk:X.stack=X.outer∨(X.stack=X.env::X.outer/\X.env.frame=some X.env.locals)
 exf:∀ b∈X.ex,b≠X.env.locals/\∀ x c,X.env.cells.lookup x=some c->c≠b
 bs:∀ b o,X.base.get? b=some o->X.s₀.heap.get? b=some o/\X.H₀ b=none
 bsz:X.base.objs.size<=X.s₀.heap.objs.size
 noex:∀ b o,X.base.get? b=some o->b∉X.ex
 exfs:∀ b∈X.ex,b∉X.fs
 funs:X.s₀.heap.FunFrames X.base X.outer
 frf:∀ b∈X.fs,X.H₀ b=none
structure Inv (X:Cx) (Md:List (Jc×Obj)) (σ:List (Option V)) (H:Hp) (s:Jb):Prop where
 ok:X.Ok
 os:s.os=X.s₀.os
 bare:AllBare s.gens
 base:Un X.fs X.ex X.H₀ H X.s₀.heap s.heap
 loc:∃ m,s.heap.Ns X.env.locals m/\∀(i:Nat)(x:Str)(v:V),X.N[i]?=some x->σ[i]?=some (some v)->Vis X.env.scope x->∃ u,cU v u/\zSp X.env s.heap m x u
 cell:∀ x c,X.env.cells.lookup x=some c->∃ v,s.heap.IsCell c v
 free:H X.env.locals=none
 freeC:∀ x c,X.env.cells.lookup x=some c->H c=none
 pin:∀ p∈X.pn++Md,s.heap.get? p.1=some p.2/\H p.1=none/\p.1≠X.env.locals/\p.1∉X.fs/\∀ v,p.2.data≠.cell v
 hok:HOk X.prog X.w H s.heap
 len:σ.length=X.N.length
section
variable{X:Cx}{Md:List (Jc×Obj)}{σ:List (Option V)}{H H':Hp}{s:Jb}{h':Jd}
def Cx.Ok.nofr(ok:X.Ok){b:Jc}{o:Obj}(e:X.base.get? b=some o):b∉X.fs:=fun hb=>by
 have:=(ok.funs.mem hb).1
 rw[e] at this;cases this
def Inv.bs(I:Inv X Md σ H s):∀ b o,X.base.get? b=some o->s.heap.get? b=some o/\H b=none:=fun b o e=>
 ⟨I.base.keep b o (I.ok.bs b o e).1 (I.ok.bs b o e).2 (I.ok.nofr e) (I.ok.noex b o e),I.base.free b o (I.ok.bs b o e).1 (I.ok.bs b o e).2 (I.ok.noex b o e)⟩
def Inv.bk(I:Inv X Md σ H s):∀ b o,X.base.get? b=some o->s.heap.get? b=some o:=fun b o e=>(I.bs b o e).1
def Inv.mod(I:Inv X Md σ H s):Mod X.K X.mg X.base:=I.ok.mod
def Inv.kIn(I:Inv X Md σ H s):X.K.In s.heap:=I.ok.mod.kin.keeps I.bk
def Inv.lt(I:Inv X Md σ H s):X.env.locals<s.heap.objs.size:=let ⟨_,hn,_⟩:=I.loc;hn.lt
def Inv.sz(I:Inv X Md σ H s):X.s₀.heap.objs.size<=s.heap.objs.size:=Qn I.ok.above (X2 I.lt)
def Inv.nofs(I:Inv X Md σ H s){a:Jc}(h:s.heap.objs.size<=a):a∉X.fs:=fun hb=>by
 obtain⟨_,o,ho,_⟩:=I.ok.funs.mem hb;exact absurd (Qo (Heap.lt_size ho) (Qn I.sz h)) (Vt _)
def Inv.cne(I:Inv X Md σ H s):∀ x c,X.env.cells.lookup x=some c->c≠X.env.locals:=fun x c e z=>by
 obtain⟨v,o,ho,hd⟩:=I.cell x c e;obtain⟨m,⟨o',es,ep,ho',hd',_⟩,_⟩:=I.loc;rw[z,ho'] at ho;cases ho;rw[hd'] at hd;cases hd
def Inv.funs(I:Inv X Md σ H s):s.heap.FunFrames X.base X.outer:=by
 have all:∀(l:List Env),(∀ b∈frs l,b∈X.fs)->X.s₀.heap.FunFrames X.base l->s.heap.FunFrames X.base l:=by
  intro l
  induction l with
  | nil=>intro _ _;trivial
  | cons env r ih=>
   intro hs hl;obtain⟨hk,⟨L,o,hf,hn,ho,hd⟩,hr⟩:=hl;have hL:L∈X.fs:=hs L (by unfold frs;rw[Y6,hf];exact Qb)
   obtain⟨sl,e⟩:=I.base.slot L o ho (I.ok.frf L hL) hL fun z=>I.ok.exfs L z hL
   exact⟨hk,⟨L,_,hf,hn,e,hd⟩,ih (fun b hb=>hs b (by unfold frs;rw[Y6,hf];exact Qc _ hb)) hr⟩
 exact all X.outer (fun _ hb=>hb) I.ok.funs
def Inv.stack(I:Inv X Md σ H s):s.heap.FunFrames X.base X.stack:=by
 rcases I.ok.stk with e | ⟨e,hf⟩
 ·rw[e];exact I.funs
 ·rw[e]
  obtain⟨m,hn,_⟩:=I.loc;refine .cons (by rw[I.ok.kind];decide) hf hn ?_ I.funs
  exact Heap.get?_none_of_le (Qn I.ok.bsz I.ok.above)
def Inv.stkSub(I:Inv X Md σ H s):∀ b∈frs X.stack,b∈X.env.locals::X.fs:=fun b hb=>by
 rcases I.ok.stk with e | ⟨e,hf⟩
 ·rw[e] at hb;exact Qc _ hb
 ·rw[e] at hb
  unfold frs at hb;rw[Y6,hf] at hb;exact hb
def Inv.stkFree(I:Inv X Md σ H s):∀ b∈frs X.stack,H b=none:=fun b hb=>by
 rcases Qe.mp (I.stkSub b hb) with e | hb
 ·rw[e];exact I.free
 ·obtain⟨_,o,ho,_⟩:=I.ok.funs.mem hb
  exact I.base.free b o ho (I.ok.frf b hb) fun z=>I.ok.exfs b z hb
def Inv.step{g':Array GenState}{t':Nat}{d':Drawn}{ch:List Jc}(I:Inv X Md σ H s)
  (hch:∀ b∈ch,(b∈X.ex∨X.s₀.heap.objs.size<=b)/\b≠X.env.locals/\(∀ x c,X.env.cells.lookup x=some c->c≠b)/\∀ p∈X.pn++Md,p.1≠b)
  (keep:∀ b o,b≠X.env.locals->b∉X.fs->b∉ch->s.heap.get? b=some o->H b=none->h'.get? b=some o)
  (slot:∀ b o,b≠X.env.locals->b∈X.fs->b∉ch->s.heap.get? b=some o->H b=none->∃ sl,h'.get? b=some { o with slots:=sl }) (free:∀ b o,b∉ch->s.heap.get? b=some o->H b=none->H' b=none)
  (there:∀ b o,b∉ch->s.heap.get? b=some o->∃ o',h'.get? b=some o')
  (tups:∀ b xs,H b=some (.tup xs)->H' b=some (.tup xs)) (frzs:∀ b o u,H b=some (.frz o u)->H' b=some (.frz o u)) (tbls:∀ b ps,H b=some (.tbl ps)->∃ more,H' b=some (.tbl (ps++more)))
  (ns:∀ m,s.heap.Ns X.env.locals m->h'.Ns X.env.locals m) (hok:HOk X.prog X.w H' h') (hg:AllBare g'):
  Inv X Md σ H' { s with heap:=h',gens:=g',drawn:=d',toks:=t' }:=by
 have neL:∀ b o,X.s₀.heap.get? b=some o->b≠X.env.locals:=fun b o e=>Qp (Qo (Heap.lt_size e) I.ok.above)
 have neC:∀ b o,X.s₀.heap.get? b=some o->b∉X.ex->b∉ch:=fun b o e hx hb=>by
  rcases (hch b hb).1 with z | z
  ·exact hx z
  ·exact absurd (Qo (Heap.lt_size e) z) (Vt _)
 have cellK:∀ x c,X.env.cells.lookup x=some c->∀ v,s.heap.IsCell c v->h'.IsCell c v:=fun x c e v ⟨o,ho,hd⟩=>by
  have nch:c∉ch:=fun z=>(hch c z).2.2.1 x c e rfl
  by_cases hc:c∈X.fs
  ·obtain⟨sl,q⟩:=slot c o (I.cne x c e) hc nch ho (I.freeC x c e)
   exact⟨_,q,hd⟩
  ·exact⟨o,keep c o (I.cne x c e) hc nch ho (I.freeC x c e),hd⟩
 refine⟨I.ok,I.os,hg,⟨fun b o e n hb hx=>?_,fun b o e n hb hx=>?_,fun b o e n hx=>?_,fun b o e hx=>?_,fun b xs e=>tups b xs (I.base.tups b xs e),fun b o xs e=>frzs b o xs (I.base.frzs b o xs e),fun b ps e=>?_⟩,?_,fun x c e=>?_,?_,fun x c e=>?_,fun p hp=>?_,hok,I.len⟩
 ·exact keep b o (neL b o e) hb (neC b o e hx) (I.base.keep b o e n hb hx) (I.base.free b o e n hx)
 ·obtain⟨sl,e1⟩:=I.base.slot b o e n hb hx
  obtain⟨sl',e2⟩:=slot b _ (neL b o e) hb (neC b o e hx) e1 (I.base.free b o e n hx);exact⟨sl',e2⟩
 ·obtain⟨o',e1⟩:=I.base.there b o e hx
  exact free b o' (neC b o e hx) e1 (I.base.free b o e n hx)
 ·obtain⟨o',e1⟩:=I.base.there b o e hx
  exact there b o' (neC b o e hx) e1
 ·obtain⟨m1,e1⟩:=I.base.tbls b ps e
  obtain⟨m2,e2⟩:=tbls b _ e1;exact⟨m1++m2,by rw[e2,Array.append_assoc]⟩
 ·obtain⟨m,hn,hl⟩:=I.loc
  refine⟨m,ns m hn,fun i x v e1 e2 e3=>?_⟩
  obtain⟨u,r,l⟩:=hl i x v e1 e2 e3;refine⟨u,r,?_⟩
  rcases l with l | ⟨k,c,e,z⟩
  ·exact .inl l
  ·exact .inr ⟨k,c,e,cellK x c e _ z⟩
 ·obtain⟨v,z⟩:=I.cell x c e
  exact⟨v,cellK x c e v z⟩
 ·obtain⟨m,⟨o,_,_,ho,_⟩,_⟩:=I.loc
  exact free _ o (fun z=>(hch _ z).2.1 rfl) ho I.free
 ·obtain⟨v,o,ho,hd⟩:=I.cell x c e
  exact free c o (fun z=>(hch c z).2.2.1 x c e rfl) ho (I.freeC x c e)
 ·obtain⟨e,n,ne,nf,d⟩:=I.pin p hp
  have nch:p.1∉ch:=fun z=>(hch p.1 z).2.2.2 p hp rfl
  exact⟨keep p.1 p.2 ne nf nch e n,free p.1 p.2 nch e n,ne,nf,d⟩
def Inv.un{t':Nat}(I:Inv X Md σ H s)(u:Un X.fs [] H H' s.heap h')(hok:HOk X.prog X.w H' h'):Inv X Md σ H' { s with heap:=h',toks:=t' }:=by
 obtain⟨m,⟨o,es,ep,ho,r⟩,_⟩:=id I.loc;obtain⟨sl,hL⟩:=u.any ho I.free (by simp)
 exact I.step (g':=s.gens) (d':=s.drawn) (ch:=[]) (fun _ z=>nomatch z) (fun b o _ hb _ e n=>u.keep b o e n hb (by simp)) (fun b o _ hb _ e n=>u.slot b o e n hb (by simp)) (fun b o _ e n=>u.free b o e n (by simp)) (fun b o _ e=>u.there b o e (by simp)) u.tups u.frzs u.tbls (fun m' hm=>by
  obtain⟨o',es',ep',ho',r'⟩:=hm;rw[ho] at ho';cases ho'
  exact⟨_,es',ep',hL,r'⟩) hok I.bare
def Inv.call{g':Array GenState}{t':Nat}{d':Drawn}{ch:List Jc}(I:Inv X Md σ H s)(u:Un (frs X.stack) ch H H' s.heap h')(hok:HOk X.prog X.w H' h')(hg:AllBare g')
  (hch:∀ b∈ch,(b∈X.ex∨X.s₀.heap.objs.size<=b)/\b≠X.env.locals/\(∀ x c,X.env.cells.lookup x=some c->c≠b)/\∀ p∈X.pn++Md,p.1≠b):
  Inv X Md σ H' { s with heap:=h',gens:=g',drawn:=d',toks:=t' }:=by
 obtain⟨m,⟨o,es,ep,ho,r⟩,_⟩:=id I.loc;obtain⟨sl,hL⟩:=u.any ho I.free fun z=>(hch _ z).2.1 rfl
 exact I.step (ch:=ch) hch (fun b o hL hb hc e n=>u.keep b o e n (fun z=>(Qe.mp (I.stkSub b z)).elim hL hb) hc) (fun b o _ _ hc e n=>u.any e n hc) (fun b o hc e n=>u.free b o e n hc) (fun b o hc e=>u.there b o e hc) u.tups u.frzs u.tbls (fun m' hm=>by
  obtain⟨o',es',ep',ho',r'⟩:=hm;rw[ho] at ho';cases ho'
  exact⟨_,es',ep',hL,r'⟩) hok hg
def Inv.turned{t':Nat}{it:Jc}(I:Inv X Md σ H s)(k:∀ b o,b≠it->s.heap.get? b=some o->h'.get? b=some o)(hn:H it=none)(hL:it≠X.env.locals)
  (h1:it∈X.ex∨X.s₀.heap.objs.size<=it) (h2:∀ x c,X.env.cells.lookup x=some c->c≠it) (h3:∀ p∈X.pn++Md,p.1≠it):Inv X Md σ H { s with heap:=h',toks:=t' }:=by
 have nit:∀ b u,H b=some u->b≠it:=fun b u e z=>by rw[z,hn] at e;cases e
 refine I.step (g':=s.gens) (d':=s.drawn) (ch:=[it]) (fun b hb=>?_) (fun b o _ _ hc e _=>k b o (fun z=>hc (by simp[z])) e) (fun b o _ _ hc e _=>⟨o.slots,k b o (fun z=>hc (by simp[z])) e⟩) (fun _ _ _ _ n=>n)
  (fun b o hc e=>⟨o,k b o (fun z=>hc (by simp[z])) e⟩) (fun _ _ e=>e) (fun _ _ _ e=>e) (fun b ps e=>⟨#[],by rw[e];simp⟩) (fun m hm=>?_) (fun b u e=>?_) I.bare
 ·have e:b=it:=by simpa using hb
  subst e;exact⟨h1,hL,h2,h3⟩
 ·obtain⟨o,es,ep,ho,r⟩:=hm
  exact⟨o,es,ep,k _ o (Ne.symm hL) ho,r⟩
 ·refine(I.hok b u e).stay (fun c v hc q=>k c v ?_ q) (fun _ q=>q) fun _ _ q=>q
  rcases hc with z | z
  ·rw[z];exact nit b u e
  ·exact nit c _ z
def Inv.tok(I:Inv X Md σ H s)(t:Nat):Inv X Md σ H { s with toks:=t }:=I.un (h':=s.heap) (t':=t) Un.refl I.hok
def Inv.kept{t':Nat}(I:Inv X Md σ H s)(k:∀ b u,s.heap.get? b=some u->h'.get? b=some u):Inv X Md σ H { s with heap:=h',toks:=t' }:=I.un (Un.kept k) (I.hok.kept k)
def Inv.laid{a:Jc}{o:HO}{t':Nat}(I:Inv X Md σ H s)(k:∀ b u,s.heap.get? b=some u->h'.get? b=some u)(hp:s.heap.objs.size<=a)(new:lH X.prog X.w (upd H a o) h' a o):
  Inv X Md σ (upd H a o) { s with heap:=h',toks:=t' }:=I.un (Un.laid k hp (I.hok.fresh hp)) (I.hok.laid k hp new)
def Inv.write{x e:Jc}{o:HO}{t':Nat}(I:Inv X Md σ H s)(mu:Mut (H x))(he:e=x∨H e=some (.own x))(k:∀ b u,b≠e->s.heap.get? b=some u->h'.get? b=some u)(heo:∃ u,h'.get? e=some u)
  (new:lH X.prog X.w (upd H x o) h' x o):Inv X Md σ (upd H x o) { s with heap:=h',toks:=t' }:=I.un (Un.write mu he k heo) (I.hok.write mu he k heo new)
def Inv.pins_of{pins':List (Jc×Obj)}(I:Inv X Md σ H s)(h:∀ p∈pins',s.heap.get? p.1=some p.2/\H p.1=none/\p.1≠X.env.locals/\p.1∉X.fs/\∀ v,p.2.data≠.cell v):Inv X pins' σ H s:=
 ⟨I.ok,I.os,I.bare,I.base,I.loc,I.cell,I.free,I.freeC,fun p hp=>(Xa.mp hp).elim (fun z=>I.pin p (Ys _ z)) (h p),I.hok,I.len⟩
def zEm{N:List Str}(hN:N.Nodup){i j:Nat}{x:Str}(a:N[i]?=some x)(b:N[j]?=some x):i=j:=by
 obtain⟨h1,e1⟩:=Ve.mp a;obtain⟨h2,e2⟩:=Ve.mp b;exact(List.getElem_inj hN).mp (e1.trans e2.symm)
def zAA{M:Model}{A:Jg}{E:Ja->Jb->Prop}{i:Nat}{x:Str}{v:V}{u:Ja}{Q:Unit->Jb->Prop}(I:Inv X Md σ H s)(hN:X.N.Nodup)(hi:X.N[i]?=some x)(hx:Loc X.env.scope x)(r:cU v u)
  (h:∀ s',Inv X Md (σ.set i (some v)) H s'->(∃ a,Heap.SameBut a s.heap s'.heap/\(a=X.env.locals∨X.env.cells.lookup x=some a))->Q () s') (hf:X.fn x=true∨X.env.scope.names.lookup x=some .local:=by first | exact .inl rfl | exact .inr rfl | assumption):wpAny M A (storeName X.env x u) Q E s:=by
 obtain⟨m,hn,hl⟩:=id I.loc;have hcls:(X.env.scope.kind==.class || (X.env.scope.kind==.module && X.env.locals != X.env.globals))=false:=by rw[I.ok.kind];rfl
 have hiσ:i<σ.length:=by rw[I.len];exact(Ve.mp hi).1
 have cne:=I.cne
 have tracked:∀ {a:Jc} {h':Jd},(∃ o,s.heap.get? a=some o/\H a=none)->Heap.SameBut a s.heap h'->HOk X.prog X.w H h':=fun {a h'} ha hs b ob e=>by
  obtain⟨_,_,hfree⟩:=ha;refine(I.hok b ob e).stay (fun c w' hc q=>(hs.2 c ?_).trans q) (fun _ q=>q) fun _ _ q=>q
  rintro rfl
  rcases hc with rfl | hc
  ·rw[hfree] at e;cases e
  ·rw[hfree] at hc;cases hc
 rcases hx with hk | hk
 ·refine wpAny_storeName_local hk hn (fun h' hn' hs=>?_) hcls
  obtain⟨oL,_,_,hoL,_⟩:=id hn;refine h _ ⟨I.ok,I.os,I.bare,⟨fun b o e n hb hx=>?_,fun b o e n hb hx=>?_,I.base.free,fun b o e hx=>?_,I.base.tups,I.base.frzs,I.base.tbls⟩,⟨_,hn',fun j y v' e1 e2 e3=>?_⟩,fun y c e=>?_,I.free,I.freeC,fun p hp=>?_,tracked ⟨oL,hoL,I.free⟩ hs,by simpa using I.len⟩ ⟨_,hs,.inl rfl⟩
  ·exact(hs.2 b (Qp (Qo (Heap.lt_size e) I.ok.above))).trans (I.base.keep b o e n hb hx)
  ·obtain⟨sl,e1⟩:=I.base.slot b o e n hb hx
   exact⟨sl,(hs.2 b (Qp (Qo (Heap.lt_size e) I.ok.above))).trans e1⟩
  ·obtain⟨o',e1⟩:=I.base.there b o e hx
   exact⟨o',(hs.2 b (Qp (Qo (Heap.lt_size e) I.ok.above))).trans e1⟩
  ·by_cases hj:j=i
   ·subst hj
    rw[hi] at e1;cases e1
    rw[Vi hiσ] at e2;cases e2;exact⟨u,r,.inl ⟨hk,by simp⟩⟩
   ·rw[Vj (Ne.symm hj)] at e2
    obtain⟨u',r',q⟩:=hl j y v' e1 e2 e3;refine⟨u',r',?_⟩
    rcases q with⟨k,e⟩ | ⟨k,c,e,z⟩
    ·refine .inl ⟨k,?_⟩
     have:y≠x:=fun e=>hj (zEm hN e1 (e ▸ hi))
     simp[this,e]
    ·exact .inr ⟨k,c,e,z.sameBut hs (cne y c e)⟩
  ·obtain⟨w',z⟩:=I.cell y c e
   exact⟨w',z.sameBut hs (cne y c e)⟩
  ·obtain⟨e,n,ne,nf,d⟩:=I.pin p hp
   exact⟨(hs.2 p.1 ne).trans e,n,ne,nf,d⟩
 ·have hfn:X.fn x=true:=by
   rcases hf with z | z
   ·exact z
   ·rw[z] at hk;cases hk
  obtain⟨c,hc⟩:=I.ok.has x (.inl hk);obtain⟨w',z⟩:=I.cell x c hc;refine wpAny_storeName_cell I.ok.kind hk hc z (fun h' hc' hs=>?_)
  obtain⟨oc,hoc,hocd⟩:=id z;refine h { s with heap:=h' } ⟨I.ok,I.os,I.bare,⟨fun b o e n hb hx=>?_,fun b o e n hb hx=>?_,I.base.free,fun b o e hx=>?_,I.base.tups,I.base.frzs,I.base.tbls⟩,⟨m,hn.sameBut hs (Ne.symm (cne x c hc)),fun j y v' e1 e2 e3=>?_⟩,fun y c' e=>?_,I.free,I.freeC,fun p hp=>?_,tracked ⟨oc,hoc,I.freeC x c hc⟩ hs,by simpa using I.len⟩ ⟨c,hs,.inr hc⟩
  ·exact(hs.2 b (Qp (Qo (Heap.lt_size e) (I.ok.cab x c hfn hc)))).trans (I.base.keep b o e n hb hx)
  ·obtain⟨sl,e1⟩:=I.base.slot b o e n hb hx
   exact⟨sl,(hs.2 b (Qp (Qo (Heap.lt_size e) (I.ok.cab x c hfn hc)))).trans e1⟩
  ·obtain⟨o',e1⟩:=I.base.there b o e hx
   exact⟨o',(hs.2 b (Qp (Qo (Heap.lt_size e) (I.ok.cab x c hfn hc)))).trans e1⟩
  ·by_cases hj:j=i
   ·subst hj
    rw[hi] at e1;cases e1
    rw[Vi hiσ] at e2;cases e2;exact⟨u,r,.inr ⟨.inl hk,c,hc,hc'⟩⟩
   ·rw[Vj (Ne.symm hj)] at e2
    obtain⟨u',r',q⟩:=hl j y v' e1 e2 e3;refine⟨u',r',?_⟩
    rcases q with q | ⟨k,c',e,z'⟩
    ·exact .inl q
    ·refine .inr ⟨k,c',e,z'.sameBut hs ?_⟩
     rintro rfl
     exact hj (zEm hN e1 (I.ok.inj _ _ _ e hc ▸ hi))
  ·by_cases hcc:c'=c
   ·subst hcc;exact⟨_,hc'⟩
   ·obtain⟨w2,z2⟩:=I.cell y c' e
    exact⟨w2,z2.sameBut hs hcc⟩
  ·obtain⟨e,n,ne,nf,d⟩:=I.pin p hp
   refine⟨(hs.2 p.1 ?_).trans e,n,ne,nf,d⟩
   intro q;rw[q,hoc] at e;have q':oc=p.2:=Vd e;exact d w' (by rw[<-q'];exact hocd)
def pY{M:Model}{A:Jg}{E:Ja->Jb->Prop}{i:Nat}{x:Str}{v:V}{u:Ja}{Q:Unit->Jb->Prop}(I:Inv X Md σ H s)(hN:X.N.Nodup)(hi:X.N[i]?=some x)(hx:Loc X.env.scope x)(r:cU v u)
  (h:∀ s',Inv X Md (σ.set i (some v)) H s'->Q () s') (hf:X.fn x=true∨X.env.scope.names.lookup x=some .local:=by first | exact .inl rfl | exact .inr rfl | assumption):wpAny M A (storeName X.env x u) Q E s:=
 zAA I hN hi hx r (fun s' I' _=>h s' I') hf
def Inv.call'{s':Jb}{ch:List Jc}(I:Inv X Md σ H s)(ho:s'.os=s.os)(u:Un (frs X.stack) ch H H' s.heap s'.heap)(hok:HOk X.prog X.w H' s'.heap)(hg:AllBare s'.gens)
  (hch:∀ b∈ch,(b∈X.ex∨X.s₀.heap.objs.size<=b)/\b≠X.env.locals/\(∀ x c,X.env.cells.lookup x=some c->c≠b)/\∀ p∈X.pn++Md,p.1≠b):Inv X Md σ H' s':=by
 obtain⟨h',g',d',t',o'⟩:=s';have e:o'=s.os:=ho;subst e;exact I.call (g':=g') (t':=t') (d':=d') u hok hg hch
end
abbrev XK:=Ja->Option Jc->Hp->Prop
abbrev St:=List (Option V)
abbrev VK:=V->Hp->Prop
abbrev TE:=St->Hp->VK->Prop
abbrev TT:=St->Hp->(Bool->Hp->Prop)->Prop
abbrev TA:=St->Hp->(List V->Hp->Prop)->Prop
structure Ends where
 nx:St->Hp->Prop
 rt:VK
 bk:St->Hp->Prop:=fun _ _=>False
 ct:St->Hp->Prop:=fun _ _=>False
abbrev TS:=Ends->St->Hp->Prop
def EP(X:Cx)(Md:List (Jc×Obj))(r:St)(Q:VK)(u:Ja)(s':Jb):Prop:=∃ v H',Inv X Md r H' s'/\cU v u/\Q v H'
def TP(X:Cx)(Md:List (Jc×Obj))(r:St)(Q:Bool->Hp->Prop)(b:Bool)(s':Jb):Prop:=∃ H',Inv X Md r H' s'/\Q b H'
def AP(X:Cx)(Md:List (Jc×Obj))(r:St)(Q:List V->Hp->Prop)(us:List Ja)(s':Jb):Prop:=∃ vs H',Inv X Md r H' s'/\dN vs us/\Q vs H'
def SP(X:Cx)(Md:List (Jc×Obj))(D:Ends)(f:Flow)(s':Jb):Prop:=
 match f with
 | .next=>∃ r' H',Inv X Md r' H' s'/\D.nx r' H'
 | .brk=>∃ r' H',Inv X Md r' H' s'/\D.bk r' H'
 | .cont=>∃ r' H',Inv X Md r' H' s'/\D.ct r' H'
 | .ret u=>∃ v r' H',Inv X Md r' H' s'/\cU v u/\D.rt v H'
def PE(X:Cx)(e:Expr)(t:TE):Prop:=
 ∀(Md:List (Jc×Obj))(s:Jb)(r:St)(H:Hp)(Q:VK),Inv X Md r H s->t r H Q->wpAny (model X.prog X.w) X.A (eval e X.env) (EP X Md r Q) X.xe s
def PT(X:Cx)(e:Expr)(t:TT):Prop:=
 ∀(Md:List (Jc×Obj))(s:Jb)(r:St)(H:Hp)(Q:Bool->Hp->Prop),Inv X Md r H s->t r H Q->wpAny (model X.prog X.w) X.A (isTrue e X.env (eval e X.env)) (TP X Md r Q) X.xe s
def PW(X:Cx)(e:Expr)(t:TT):Prop:=
 ∀(whole:Sem Ja)(Md:List (Jc×Obj))(s:Jb)(r:St)(H:Hp)(Q:Bool->Hp->Prop),Inv X Md r H s->t r H Q->wpAny (model X.prog X.w) X.A (isTrue e X.env whole) (TP X Md r Q) X.xe s
def PW.pt{X:Cx}{e:Expr}{t:TT}(h:PW X e t):PT X e t:=h _
def PA(X:Cx)(es:List Expr)(t:TA):Prop:=
 ∀(pos:Pos)(Md:List (Jc×Obj))(s:Jb)(r:St)(H:Hp)(Q:List V->Hp->Prop),Inv X Md r H s->t r H Q->wpAny (model X.prog X.w) X.A (spliced (backTo pos (starEach es X.env))) (AP X Md r Q) X.xe s
def PS(X:Cx)(st:Jh)(t:TS):Prop:=
 ∀(Md:List (Jc×Obj))(s:Jb)(r:St)(H:Hp)(D:Ends),Inv X Md r H s->t D r H->wpAny (model X.prog X.w) X.A (exec st X.env) (SP X Md D) X.xe s
def PSs(X:Cx)(st:List Jh)(t:TS):Prop:=
 ∀(Md:List (Jc×Obj))(s:Jb)(r:St)(H:Hp)(D:Ends),Inv X Md r H s->t D r H->wpAny (model X.prog X.w) X.A (execs st X.env) (SP X Md D) X.xe s
def thn{r:Type}{t:Sem r}{Q Q':r->Jb->Prop}{M:Model}{A:Jg}{E:Ja->Jb->Prop}{s:Jb}(h:wpAny M A t Q E s)(hQ:∀ a s,Q a s->Q' a s):wpAny M A t Q' E s:=wpAny_mono h hQ fun _ _ x=>x
section
variable{X:Cx}
def bin{a b:Expr}{ta tb:TE}(ha:PE X a ta)(hb:PE X b tb){Md:List (Jc×Obj)}{s:Jb}{p:St}{H:Hp}{R:V->V->Hp->Prop}(I:Inv X Md p H s)(h:ta p H fun x H1=>tb p H1 fun y H2=>R x y H2)
  {g:Type} {Q:g->Jb->Prop} {f:Ja->Ja->Sem g}
  (hf:∀ v u s2 x y H2,Inv X Md p H2 s2->cU x v->cU y u->R x y H2->wpAny (model X.prog X.w) X.A (f v u) Q X.xe s2):
  wpAny (model X.prog X.w) X.A (eval a X.env) (fun v s₁=>wpAny (model X.prog X.w) X.A (eval b X.env) (fun u s₂=>wpAny (model X.prog X.w) X.A (f v u) Q X.xe s₂) X.xe s₁) X.xe s:=by
 refine thn (ha Md s p H _ I h) fun v s1 ⟨x,H1,I1,r1,q1⟩=>?_
 refine thn (hb Md s1 p H1 _ I1 q1) fun u s2 ⟨y,H2,I2,r2,q2⟩=>?_
 exact hf v u s2 x y H2 I2 r1 r2 q2
abbrev zBV(i:Nat):TE:=fun p H Q=>∃ v,p[i]?=some (some v)/\Q v H
abbrev tC(v:V):TE:=fun _ H Q=>Q v H
def uD{i:Nat}{x:Str}{pos:Pos}(hN:X.N[i]?=some x)(hv:Vis X.env.scope x)(hd:(x==("__debug__" : Str))=false:=by decide)(hcd:(x==("__classdict__" : Str))=false:=by decide):PE X (.Name x pos) (zBV i):=by
 intro Md s p H Q I h;obtain⟨v,e,h⟩:=h;obtain⟨m,hn,hl⟩:=I.loc;obtain⟨u,r,l⟩:=hl i x v hN e hv;have fin:EP X Md p Q u s:=⟨v,H,I,r,h⟩;rcases l with⟨hk,hm⟩ | ⟨hk,c,hc,hcell⟩
 ·exact Jl (wpAny_loadName_local I.ok.kind hk hn hm fin) hd
 ·rcases hk with hk | hk
  ·exact Jl (wpAny_loadName_cell I.ok.kind hk hc hcell fin) hd
  ·exact Jl (wpAny_loadName_free I.ok.kind hk hc hcell fin hcd) hd
def zGq{i j pos}:PE X (.Constant (.int i) j pos) (tC (.int i)):=fun _ _ _ H _ I h=>wpAny_Constant_int ⟨.int i,H,I.tok _,⟨_,rfl⟩,h⟩
def zGp{b j pos}:PE X (.Constant (.bool b) j pos) (tC (.bl b)):=fun _ _ _ H _ I h=>Constant_bool ⟨.bl b,H,I,rfl,h⟩
def wO{j pos}:PE X (.Constant .none j pos) (tC .non):=fun _ _ _ H _ I h=>Constant_none ⟨.non,H,I,rfl,h⟩
def gC{x j pos}:PE X (.Constant (.str x) j pos) (tC (.str x)):=fun _ _ _ H _ I h=>Calls.Constant_str ⟨.str x,H,I.tok _,⟨_,rfl⟩,h⟩
def Gl(X:Cx)(x:Str):Prop:=X.env.kindOf x=some .globalImplicit
def tI{E:Ja->Jb->Prop}{Md:List (Jc×Obj)}{s:Jb}{p:St}{H:Hp}{x:Str}{u:Ja}{pos:Pos}{Q:Ja->Jb->Prop}(I:Inv X Md p H s)(hg:Gl X x)(hm:X.mg x=some u)(h:Q u s)
  (hd:(x==("__debug__" : Str))=false:=by decide):wpAny (model X.prog X.w) X.A (eval (.Name x pos) X.env) Q E s:=
 Calls.Name_function_global I.ok.kind hg (Calls.loadGlobal_global (by rw[I.ok.glob];exact I.mod.glob.keeps I.bk) hm h) hd
def oW{E:Ja->Jb->Prop}{Md:List (Jc×Obj)}{s:Jb}{p:St}{H:Hp}{x:Str}{u:Ja}{pos:Pos}{Q:Ja->Jb->Prop}(I:Inv X Md p H s)(hg:Gl X x)(hm:X.mg x=none)(hv:bootBuiltins x=some u)(h:Q u s)
  (hn:x ≠ "__name__" := by decide) (hd:(x==("__debug__" : Str))=false:=by decide):wpAny (model X.prog X.w) X.A (eval (.Name x pos) X.env) Q E s:=by
 obtain⟨mb,h1,h2⟩:=I.mod.blt;exact Calls.Name_function_global I.ok.kind hg (Calls.loadGlobal_builtin (by rw[I.ok.glob];exact I.mod.glob.keeps I.bk) hm (by rw[I.ok.blt];exact h1.keeps I.bk) ((h2 x hn).trans hv) h) hd
def zGZ{x:Str}{v:V}{u:Ja}{pos:Pos}(hg:Gl X x)(hm:X.mg x=some u)(r:cU v u)(hd:(x==("__debug__" : Str))=false:=by decide):PE X (.Name x pos) (tC v):=
 fun _ _ _ H _ I h=>tI I hg hm ⟨v,H,I,r,h⟩ hd
variable{a b:Expr}{ta tb:TE}{pos:Pos}
def PC(X:Cx)(op:CmpOp)(a b:Expr)(t:TE):Prop:=
 ∀(Md:List (Jc×Obj))(s:Jb)(p:St)(H:Hp)(Q:VK),Inv X Md p H s->t p H Q->
  wpAny (model X.prog X.w) X.A (eval a X.env) (fun v s₁=>wpAny (model X.prog X.w) X.A (eval b X.env) (fun u s₂=>wpAny (model X.prog X.w) X.A (compareOp op v u) (EP X Md p Q) X.xe s₂) X.xe s₁) X.xe s
def zJz(b:Expr){op:CmpOp}(h:op≠.In)(h2:op≠.NotIn):behindInMarks op b=false:=by
 have e1:(op==CmpOp.In)=false:=by cases op<;>first | rfl | exact absurd rfl h
 have e2:(op==CmpOp.NotIn)=false:=by cases op<;>first | rfl | exact absurd rfl h2
 cases b<;>simp[behindInMarks,e1,e2]
abbrev tB(t:TE):TT:=fun p H Q=>t p H fun x H1=>∃ c,x=.bl c/\Q c H1
def zRI{op:CmpOp}{t:TE}(h:PC X op a b t)(h1:behindInMarks op b=false:=by first | exact zJz _ (by decide) (by decide) | rfl):PT X (.Compare a [op] [b] pos) (tB t):=by
 intro Md s p H Q I hw;refine Jm (thn (h Md s p H _ I hw) fun v s1 h1=>thn h1 fun u s2 h2=>thn h2 fun c s3 ⟨x,H1,I1,r1,q1⟩=>?_) h1
 obtain⟨d,rfl,q⟩:=q1;cases r1;exact wpAny_truthy_bool ⟨H1,I1,q⟩
def zOd{e:Expr}{t:TE}(h:PE X e t)(he:∀ whole,isTrue e X.env whole=(do let v <-whole;standAt e.pos;holding [v] (truthy v)):=by intro _;rfl):PT X e (tB t):=by
 intro Md s p H Q I hw;refine isTrue_plain (thn (h Md s p H _ I hw) fun v s1 ⟨x,H1,I1,r1,q1⟩=>?_) (he _)
 obtain⟨d,rfl,q⟩:=q1;cases r1;exact wpAny_truthy_bool ⟨H1,I1,q⟩
variable{tA tB':TT}{rest:List Expr}
abbrev zRU(t u:TT):TT:=fun p H Q=>t p H fun c H1=>if c=true then u p H1 Q else Q false H1
abbrev tOr(t u:TT):TT:=fun p H Q=>t p H fun c H1=>if c=true then Q true H1 else u p H1 Q
abbrev zSi(t:TT):TT:=fun p H Q=>t p H fun c H1=>Q (!c) H1
def zMB(ha:PT X a tA):PW X (.BoolOp .And [a] pos) tA:=by
 intro wh Md s p H Q I h;refine isTrue_and (thn (ha Md s p H Q I h) fun c s1 e=>?_)
 cases c with
 | true=>exact isTrue_and_nil e
 | false=>exact e
def zOc(ha:PT X a tA):PW X (.BoolOp .Or [a] pos) tA:=by
 intro wh Md s p H Q I h;refine isTrue_or (thn (ha Md s p H Q I h) fun c s1 e=>?_)
 cases c with
 | false=>exact isTrue_or_nil e
 | true=>exact e
def zPV(ha:PT X a tA)(hb:PW X (.BoolOp .And (b::rest) pos) tB'):PW X (.BoolOp .And (a::b::rest) pos) (zRU tA tB'):=by
 intro wh Md s p H Q I h;refine isTrue_and (thn (ha Md s p H _ I h) fun c s1 ⟨H1,I1,q1⟩=>?_)
 cases c with
 | true=>exact hb wh Md s1 p H1 Q I1 q1
 | false=>exact⟨H1,I1,q1⟩
def zRj(ha:PT X a tA)(hb:PW X (.BoolOp .Or (b::rest) pos) tB'):PW X (.BoolOp .Or (a::b::rest) pos) (tOr tA tB'):=by
 intro wh Md s p H Q I h;refine isTrue_or (thn (ha Md s p H _ I h) fun c s1 ⟨H1,I1,q1⟩=>?_)
 cases c with
 | true=>exact⟨H1,I1,q1⟩
 | false=>exact hb wh Md s1 p H1 Q I1 q1
def zPY(ha:PT X a tA):PT X (.UnaryOp .Not a pos) (zSi tA):=by
 intro Md s p H Q I h;exact isTrue_not (ha Md s p H (fun c H1=>Q (!c) H1) I h)
abbrev zSl(ta tb:TE):TE:=fun p H Q=>ta p H fun x H1=>∃ c,x=.bl c/\if c=true then Q (.bl true) H1 else tb p H1 Q
def zOu{op}{t:TE}(h:PE X a t):PE X (.BoolOp op [a] pos) t:=fun Md s p H Q I hw=>BoolOp_one (h Md s p H Q I hw)
def zRq(ha:PE X a ta)(hb:PE X (.BoolOp .Or (b::rest) pos) tb):PE X (.BoolOp .Or (a::b::rest) pos) (zSl ta tb):=by
 intro Md s p H Q I h;refine BoolOp_or (thn (ha Md s p H _ I h) fun v s1 ⟨x,H1,I1,r1,q1⟩=>?_)
 obtain⟨c,rfl,q1⟩:=q1;cases r1;refine wpAny_truthy_bool ?_
 cases c with
 | false=>exact hb Md s1 p H1 Q I1 q1
 | true=>exact⟨.bl true,H1,I1,rfl,q1⟩
abbrev tIf(t:TT)(ta tb:TE):TE:=fun p H Q=>t p H fun c H1=>if c=true then ta p H1 Q else tb p H1 Q
def zIZ{c:Expr}(hc:PT X c tA)(ha:PE X a ta)(hb:PE X b tb):PE X (.IfExp c a b pos) (tIf tA ta tb):=by
 intro Md s p H Q I h;refine wpAny_IfExp (thn (hc Md s p H _ I h) fun d s1 ⟨H1,I1,q1⟩=>?_)
 cases d with
 | true=>exact ha Md s1 p H1 Q I1 q1
 | false=>exact hb Md s1 p H1 Q I1 q1
end
def SqL(K:PySem.W.Frag)(H:Hp)(a:Jc)(xs:List V):Prop:=
 Rd H a (.lst xs)∨
  ∃(o:Obj)(its:Array Ja)(n:Nat),K.lookup a=some o/\o.cls=.type "list" /\ o.dict=none/\o.data=.seq its n/\its.size<=sizeLine/\dN xs its.toList
def SqT(K:PySem.W.Frag)(H:Hp)(a:Jc)(xs:List V):Prop:=
 Rd H a (.tup xs)∨
  ∃(o:Obj)(its:Array Ja)(n:Nat),K.lookup a=some o/\o.cls=.type "tuple" /\ o.data=.seq its n/\its.size<=sizeLine/\dN xs its.toList
def zRZ:Ja->Option V
 | .none=>some .non
 | .bool b=>some (.bl b)
 | .int i _=>some (.int i)
 | .str x _=>some (.str x)
 | .bytes b _=>some (.byt b)
 | .float b _=>some (.flt b)
 | .ref a=>some (.ref a)
 | .type n=>some (.ty n)
 | _=>none
def cU.abs{x:V}{u:Ja}(r:cU x u):zRZ u=some x:=by
 cases x with
 | non=>cases r;rfl
 | bl _=>cases r;rfl
 | int _=>obtain⟨t,rfl⟩:=r;rfl
 | str _=>obtain⟨t,rfl⟩:=r;rfl
 | byt _=>obtain⟨t,rfl⟩:=r;rfl
 | flt _=>obtain⟨t,rfl⟩:=r;rfl
 | ref _=>cases r;rfl
 | ty _=>cases r;rfl
def cU.inj{x y:V}{u:Ja}(r:cU x u)(q:cU y u):x=y:=Vd (r.abs.symm.trans q.abs)
def dN.inj:∀ {xs ys:List V} {us:List Ja},dN xs us->dN ys us->xs=ys
 | _,_,_,.nil,.nil=>rfl
 | _,_,_,.cons r t,.cons r' t'=>by rw[r.inj r',dN.inj t t']
section
variable{X:Cx}{Md:List (Jc×Obj)}{b:St}{H:Hp}{s:Jb}{a:Jc}{xs ys:List V}
def SqL.of{K:Fg_}(h:H a=some (.lst xs)):SqL K H a xs:=.inl (.inl h)
def SqT.of{K:Fg_}(h:H a=some (.tup xs)):SqT K H a xs:=.inl (.inl h)
def Inv.list(I:Inv X Md b H s)(h:SqL X.K H a xs):∃ its:List Ja,dN xs its/\PlainL s.heap a its.toArray/\xs.length<=sizeLine:=by
 rcases h with h | ⟨o,its,n,hk,hc,hd,hs,hz,r⟩
 ·obtain⟨z,its,n,r,e⟩:=h.ok I.hok
  exact⟨its,r,⟨_,n,e,rfl,rfl,rfl⟩,z⟩
 ·refine⟨its.toList,r,⟨o,n,I.kIn a o hk,hc,hd,by simpa using hs⟩,?_⟩
  have e:=r.length;simp only[Xo] at e;omega
def Inv.tuple(I:Inv X Md b H s)(h:SqT X.K H a xs):∃ its:List Ja,dN xs its/\IsTup s.heap a its.toArray/\xs.length<=sizeLine:=by
 rcases h with h | ⟨o,its,n,hk,hc,hs,hz,r⟩
 ·obtain⟨z,its,r,p⟩:=h.ok I.hok
  exact⟨its,r,p,z⟩
 ·refine⟨its.toList,r,⟨o,I.kIn a o hk,hc,n,by simpa using hs⟩,?_⟩
  have e:=r.length;simp only[Xo] at e;omega
def Inv.list_inj(I:Inv X Md b H s)(h:SqL X.K H a xs)(h':SqL X.K H a ys):xs=ys:=by
 obtain⟨its,r,⟨o,n,e,_,_,d⟩,_⟩:=I.list h;obtain⟨its',r',⟨o',n',e',_,_,d'⟩,_⟩:=I.list h';rw[e] at e';cases e'
 rw[d] at d';injection d' with d1 _
 have:its=its':=by simpa using congrArg Array.toList d1
 subst this;exact r.inj r'
def Inv.tuple_inj(I:Inv X Md b H s)(h:SqT X.K H a xs)(h':SqT X.K H a ys):xs=ys:=by
 obtain⟨its,r,⟨o,e,_,n,d⟩,_⟩:=I.tuple h;obtain⟨its',r',⟨o',e',_,n',d'⟩,_⟩:=I.tuple h';rw[e] at e';cases e'
 rw[d] at d';injection d' with d1 _
 have:its=its':=by simpa using congrArg Array.toList d1
 subst this;exact r.inj r'
end
abbrev Cx.wish(X:Cx)(E:Ja->Jb->Prop):Cx:={ X with xe:=E }
abbrev Cx.nox(X:Cx):Cx:=X.wish fun _ _=>False
def Cx.Ok.wish{X:Cx}(ok:X.Ok)(E:Ja->Jb->Prop):(X.wish E).Ok:=
 ⟨ok.mod,ok.kind,ok.glob,ok.blt,ok.above,ok.inj,ok.has,ok.cab,ok.hd,ok.frames,ok.stk,ok.exf,ok.bs,ok.bsz,ok.noex,ok.exfs,ok.funs,ok.frf⟩
def Cx.Ok.unwish{X:Cx}{E:Ja->Jb->Prop}(ok:(X.wish E).Ok):X.Ok:=
 ⟨ok.mod,ok.kind,ok.glob,ok.blt,ok.above,ok.inj,ok.has,ok.cab,ok.hd,ok.frames,ok.stk,ok.exf,ok.bs,ok.bsz,ok.noex,ok.exfs,ok.funs,ok.frf⟩
section
variable{X:Cx}{Md:List (Jc×Obj)}{r:St}{H:Hp}{s:Jb}{E:Ja->Jb->Prop}
def Inv.wish(I:Inv X Md r H s)(E:Ja->Jb->Prop):Inv (X.wish E) Md r H s:=⟨I.ok.wish E,I.os,I.bare,I.base,I.loc,I.cell,I.free,I.freeC,I.pin,I.hok,I.len⟩
def Inv.unwish(I:Inv (X.wish E) Md r H s):Inv X Md r H s:=⟨I.ok.unwish,I.os,I.bare,I.base,I.loc,I.cell,I.free,I.freeC,I.pin,I.hok,I.len⟩
end
section
variable{X:Cx}{st:Jh}{rest:List Jh}{t u:TS}{e:Expr}{te:TE}{pos:Pos}
abbrev zRi:TS:=fun D r H=>D.nx r H
abbrev zQw(t u:TS):TS:=fun D r H=>t { D with nx:=u D } r H
def zMn:PSs X [] zRi:=fun _ _ r H _ I h=>Jn ⟨r,H,I,h⟩
def sR(h1:PS X st t)(h2:PSs X rest u):PSs X (st::rest) (zQw t u):=by
 intro Md s r H D I h;refine Jo (thn (h1 Md s r H { D with nx:=u D } I h) fun f s1 q=>?_)
 cases f with
 | next=>
  obtain⟨r',H',I',q⟩:=q;exact h2 Md s1 r' H' D I' q
 | ret v=>exact q
 | brk=>exact q
 | cont=>exact q
def zDe(h1:PS X st t):PSs X [st] t:=by
 intro Md s r H D I h;refine Jo (thn (h1 Md s r H D I h) fun f s1 q=>?_)
 cases f with
 | next=>exact Jn q
 | ret v=>exact q
 | brk=>exact q
 | cont=>exact q
def Inv.quiet{Md:List (Jc×Obj)}{r:St}{H:Hp}{s:Jb}(I:Inv X Md r H s):interactive X.env=false:=by simp[interactive,I.ok.kind]
abbrev zQv(te:TE):TS:=fun D r H=>te r H fun _ H1=>D.nx r H1
def tH(he:PE X e te)(hs:swapsWith e none pos.line X.env=pure false:=by rfl):PS X (.Expr e pos) (zQv te):=by
 intro Md s r H D I h;exact wpAny_Expr_any (thn (he Md s r H _ I h) fun v s1 ⟨x,H1,I1,r1,q1⟩=>⟨r,H1,I1,q1⟩) I.quiet hs
abbrev zRJ(te:TE):TS:=fun D r H=>te r H D.rt
def zDr(he:PE X e te):PS X (.Return (some e) pos) (zRJ te):=by
 intro Md s r H D I h;exact wpAny_Return_some (thn (he Md s r H _ I h) fun v s1 ⟨x,H1,I1,r1,q1⟩=>⟨x,r,H1,I1,r1,q1⟩)
abbrev zSk(c:TT)(t u:TS):TS:=fun D r H=>c r H fun b H1=>if b=true then t D r H1 else u D r H1
def zRp{c:Expr}{a b:List Jh}{tc:TT}(hc:PT X c tc)(ha:PSs X a t)(hb:PSs X b u):PS X (.If c a b pos) (zSk tc t u):=by
 intro Md s r H D I h;refine wpAny_If (thn (hc Md s r H _ I h) fun d s1 ⟨H1,I1,q1⟩=>?_)
 cases d with
 | true=>exact ha Md s1 r H1 D I1 q1
 | false=>exact hb Md s1 r H1 D I1 q1
end
abbrev TG:=V->St->Hp->(St->Hp->Prop)->Prop
abbrev TGs:=List V->St->Hp->(St->Hp->Prop)->Prop
def PG(X:Cx)(target:Expr)(t:TG):Prop:=
 ∀(Md:List (Jc×Obj))(s:Jb)(r:St)(H:Hp)(v:V)(u:Ja)(Q:St->Hp->Prop),Inv X Md r H s->cU v u->t v r H Q->
  wpAny (model X.prog X.w) X.A (assign target X.env u) (fun _ s'=>∃ r' H',Inv X Md r' H' s'/\Q r' H') X.xe s
def PGs(X:Cx)(ts:List Expr)(t:TGs):Prop:=
 ∀(Md:List (Jc×Obj))(s:Jb)(r:St)(H:Hp)(vs:List V)(us:List Ja)(Q:St->Hp->Prop),Inv X Md r H s->dN vs us->t vs r H Q->
  wpAny (model X.prog X.w) X.A (assignInOrder ((assignEach ts X.env).map (·.2)) us) (fun _ s'=>∃ r' H',Inv X Md r' H' s'/\Q r' H') X.xe s
abbrev zQR:=V->V->V->Hp->(Hp->Prop)->Prop
def zRL(X:Cx)(t:zQR):Prop:=
 ∀(Md:List (Jc×Obj))(s:Jb)(r:St)(H:Hp)(o i v:V)(ov iv u:Ja)(Q:Hp->Prop),Inv X Md r H s->cU o ov->cU i iv->cU v u->t o i v H Q->
  wpAny (model X.prog X.w) X.A (setItem ov iv u) (fun _ s'=>∃ H',Inv X Md r H' s'/\Q H') X.xe s
abbrev TIp:=V->V->Hp->VK->Prop
def PIp(X:Cx)(op:Operator)(t:TIp):Prop:=
 ∀(Md:List (Jc×Obj))(s:Jb)(r:St)(H:Hp)(x y:V)(v u:Ja)(Q:VK),Inv X Md r H s->cU x v->cU y u->t x y H Q->
  wpAny (model X.prog X.w) X.A (inplaceOp op v u) (EP X Md r Q) X.xe s
section
variable{X:Cx}{pos:Pos}
abbrev gName(i:Nat):TG:=fun v p H Q=>Q (p.set i (some v)) H
def zCD{i:Nat}{x:Str}(hN:X.N.Nodup)(hi:X.N[i]?=some x)(hx:Loc X.env.scope x)(hf:X.fn x=true∨X.env.scope.names.lookup x=some .local:=by first | exact .inl rfl | exact .inr rfl | assumption):PG X (.Name x pos) (gName i):=by
 intro Md s p H v u Q I r h;exact Jp (pY I hN hi hx r (fun s' I'=>⟨_,H,I',h⟩) hf)
def xK:TGs:=fun vs p H Q=>vs=[]/\Q p H
def eE(t:TG)(u:TGs):TGs:=fun vs p H Q=>∃ v r,vs=v::r/\t v p H fun p' H'=>u r p' H' Q
def zGb:PGs X [] xK:=by
 intro Md s p H vs us Q I r h;obtain⟨e,h⟩:=h;subst e;cases r;exact assignInOrder_nil ⟨p,H,I,h⟩
def yH{e:Expr}{es:List Expr}{t:TG}{u:TGs}(h1:PG X e t)(h2:PGs X es u)
  (hs:(assignEach (e::es) X.env).map (·.2)=assign e X.env::(assignEach es X.env).map (·.2):=by rfl):PGs X (e::es) (eE t u):=by
 intro Md s p H vs us Q I r h;obtain⟨v,vr,e1,h⟩:=h;subst e1
 cases r with
 | cons r rr=>
  rw[hs];refine assignInOrder_cons (thn (h1 Md s p H _ _ _ I r h) fun _ s1 ⟨p1,H1,I1,q1⟩=>?_)
  exact h2 Md s1 p1 H1 _ _ Q I1 rr q1
def zAd(K:PySem.W.Frag)(n:Nat)(t:TGs):TG:=fun v p H Q=>∃ a xs,v=.ref a/\SqT K H a xs/\xs.length=n/\t xs p H Q
def zKe{es:List Expr}{k:Nat}{t:TGs}{n:Nat}(hc:X.calm=true)(h:PGs X es t)
  (hn:(assignEach es X.env).length=n:=by rfl) (hst:(assignEach es X.env).findIdx? (·.1)=none:=by rfl):PG X (.Tuple es k pos) (zAd X.K n t):=by
 intro Md s p H v u Q I r hw;obtain⟨a,xs,e1,hq,hl,hw⟩:=hw;subst e1;cases r;obtain⟨its,rv,ht,hz⟩:=I.tuple hq;refine assign_Tuple_tuple (I.ok.hd hc) ht (by simp[hn,<-hl,rv.length]) hst fun h' hx=>?_
 have I1:Inv X Md p H { s with heap:=h' }:=I.kept (t':=s.toks) fun b o e=>hx b o (Qp (Heap.lt_size e)) e
 exact h Md _ p H xs _ Q I1 (by simpa using rv) hw
def zSy(to ti:TE)(t:zQR):TG:=fun v p H Q=>to p H fun o H1=>ti p H1 fun i H2=>t o i v H2 fun H3=>Q p H3
def zOM{o i:Expr}{to ti:TE}{t:zQR}(ho:PE X o to)(hi:PE X i ti)(hs:zRL X t)
  (ha:∀ v,assign (.Subscript o i pos) X.env v=(do
   let ov <-holding [v] (eval o X.env)
   let iv <-holding [v,ov] (eval i X.env)
   standAt pos
   holding [v,ov,iv] (setItem ov iv v)
   release [v,ov,iv] []):=by intro _;rfl):PG X (.Subscript o i pos) (zSy to ti t):=by
 intro Md s p H v u Q I r h;rw[ha];refine Jq (wpAny_holding (thn (ho Md s p H _ I h) fun ov s1 ⟨x,H1,I1,r1,q1⟩=>?_))
 refine Jq (wpAny_holding (thn (hi Md s1 p H1 _ I1 q1) fun iv s2 ⟨y,H2,I2,r2,q2⟩=>?_))
 refine Jq (wpAny_standAt (Jq (wpAny_holding (thn (hs Md s2 p H2 x y v ov iv u _ I2 r1 r2 r q2) fun _ s3 ⟨H3,I3,q3⟩=>?_))))
 exact wpAny_release ⟨p,H3,I3,q3⟩
abbrev zRd(te:TE)(g:TG):TS:=fun D p H=>te p H fun x H1=>g x p H1 D.nx
def zOm{tg e:Expr}{te:TE}{g:TG}(he:PE X e te)(hg:PG X tg g)(hs:swapsWithSole [tg] e pos.line X.env=pure false:=by rfl)(hw:swappedStores [tg] e X.env=pure none:=by rfl)
  (h1:(assignEach [tg] X.env).map (·.2)=[assign tg X.env]:=by rfl):PS X (.Assign [tg] e pos) (zRd te g):=by
 intro Md s p H D I h;refine wpAny_Assign_stores (thn (he Md s p H _ I h) fun v s1 ⟨x,H1,I1,r1,q1⟩=>?_) hs hw
 rw[h1];exact thn (hg Md s1 p H1 x v _ I1 r1 q1) fun _ s2 q=>q
def zKS{i:Nat}{x:Str}{e:Expr}{te:TE}{pos':Pos}(hN:X.N.Nodup)(hi:X.N[i]?=some x)(hx:Loc X.env.scope x)(he:PE X e te)(hs:swapsWith e (some (.Name x pos')) pos.line X.env=pure false:=by rfl)(hf:X.fn x=true∨X.env.scope.names.lookup x=some .local:=by first | exact .inl rfl | exact .inr rfl | assumption):
  PS X (.Assign [.Name x pos'] e pos) (zRd te (gName i)):=by
 intro Md s p H D I h;refine Jr (thn (he Md s p H _ I h) fun v s1 ⟨y,H1,I1,r1,q1⟩=>?_) hs
 exact pY I1 hN hi hx r1 (fun s2 I2=>⟨_,H1,I2,q1⟩) hf
abbrev zRT(i:Nat)(te:TE)(ti:TIp):TS:=fun D p H=>∃ x,p[i]?=some (some x)/\te p H fun y H1=>ti x y H1 fun z H2=>D.nx (p.set i (some z)) H2
def zOQ{i:Nat}{x:Str}{e:Expr}{te:TE}{op:Operator}{ti:TIp}{pos':Pos}(hN:X.N.Nodup)(hi:X.N[i]?=some x)(hx:Loc X.env.scope x)(he:PE X e te)(ho:PIp X op ti)(hf:X.fn x=true∨X.env.scope.names.lookup x=some .local:=by first | exact .inl rfl | exact .inr rfl | assumption):
  PS X (.AugAssign (.Name x pos') op e pos) (zRT i te ti):=by
 intro Md s p H D I h;obtain⟨v,e1,h⟩:=h;obtain⟨m,hn,hl⟩:=I.loc;have vis:Vis X.env.scope x:=by rcases hx with k | k;exact .inl k;exact .inr (.inl k)
 obtain⟨u,r,l⟩:=hl i x v hi e1 vis;refine wpAny_AugAssign_Name ?_
 have go:wpAny (model X.prog X.w) X.A (eval e X.env) (fun w s₂=>wpAny (model X.prog X.w) X.A (inplaceOp op u w) (fun r s₃=>wpAny (model X.prog X.w) X.A (storeName X.env x r) (fun _=>SP X Md D .next) X.xe s₃) X.xe s₂) X.xe s:=by
  refine thn (he Md s p H _ I h) fun w s1 ⟨y,H1,I1,r1,q1⟩=>?_
  refine thn (ho Md s1 p H1 v y u w _ I1 r r1 q1) fun z s2 ⟨zv,H2,I2,r2,q2⟩=>?_
  exact pY I2 hN hi hx r2 (fun s3 I3=>⟨_,H2,I3,q2⟩) hf
 rcases l with⟨hk,hm⟩ | ⟨hk,c,hc,hcell⟩
 ·exact wpAny_loadName_local I.ok.kind hk hn hm go
 ·rcases hk with hk | hk
  ·exact wpAny_loadName_cell I.ok.kind hk hc hcell go
  ·rcases hx with k | k
   ·have:X.env.scope.names.lookup x=some .free:=hk
    rw[k] at this;cases this
   ·have:X.env.scope.names.lookup x=some .free:=hk
    rw[k] at this;cases this
def ipI(f:Int->Int->Int):TIp:=fun x y H Q=>∃ i j,x=.int i/\y=.int j/\Q (.int (f i j)) H
def zNU:PIp X .Sub (ipI fun i j=>i-j):=by
 intro Md s p H x y v u Q I r1 r2 h;obtain⟨i,j,e1,e2,q⟩:=h;subst e1;subst e2
 obtain⟨t,rfl⟩:=r1;obtain⟨t',rfl⟩:=r2;exact isub_int ⟨.int _,H,I.tok _,⟨_,rfl⟩,q⟩
end
section
variable{X:Cx}{pos:Pos}
def zOk(c:TT)(tb:TS):TS:=fun D r H=>∃ W:Nat->St->Hp->Prop,(∃ m,W m r H)/\∀ m r H,W m r H->
 c r H fun b H1=>if b=true then ∃ N:St->Hp->Prop,(∀ r' H',N r' H'->∃ m',m' < m/\W m' r' H')/\tb { D with nx:=N,ct:=N,bk:=D.nx } r H1 else D.nx r H1
def zJc{c:Expr}{body:List Jh}{tc:TT}{tb:TS}(hp:PassesOwn (model X.prog X.w) X.A X.env X.xe)(hc:PT X c tc)(hb:PSs X body tb):PS X (.While c body [] pos) (zOk tc tb):=by
 intro Md s r H D I h;obtain⟨W,⟨m0,w0⟩,turn⟩:=h;refine wpAny_While (codeAny_whileLoop (fun n s'=>∃ r' H',Inv X Md r' H' s'/\W n r' H') ?_ m0 ⟨r,H,I,w0⟩)
 rintro n s1 ⟨r1,H1,I1,w1⟩
 refine Js hp (thn (hc Md s1 r1 H1 _ I1 (turn n r1 H1 w1)) fun b s2 ⟨H2,I2,q2⟩=>?_)
 cases b with
 | true=>
  obtain⟨N,hN,q2⟩:=q2;rw[Jj rfl];refine Js hp (thn (hb Md s2 r1 H2 _ I2 q2) fun f s3 q3=>?_)
  cases f with
  | next=>
   obtain⟨r3,H3,I3,n3⟩:=q3;obtain⟨m',hm,w3⟩:=hN r3 H3 n3;exact⟨m',hm,r3,H3,I3,w3⟩
  | cont=>
   obtain⟨r3,H3,I3,n3⟩:=q3;obtain⟨m',hm,w3⟩:=hN r3 H3 n3;exact⟨m',hm,r3,H3,I3,w3⟩
  | brk=>exact q3
  | ret v=>exact q3
 | false=>
  rw[Jk X3];exact Jn ⟨r1,H2,I2,q2⟩
end
structure It where
 go:Nat->Hp->Prop
 yld:Nat->Hp->V->Hp->Prop
 stop:Nat->Hp->Prop
def sM(X:Cx)(Md:List (Jc×Obj))(H:Hp)(b:Jc):Prop:=
 H b=none/\b≠X.env.locals/\b∉X.fs/\(b∈X.ex∨X.s₀.heap.objs.size<=b)/\(∀ x c,X.env.cells.lookup x=some c->c≠b)/\∀ p∈X.pn++Md,p.1≠b
def Inv.fpOk{X:Cx}{Md:List (Jc×Obj)}{r:St}{H H':Hp}{s:Jb}{b:Jc}(I:Inv X Md r H s)(hb:s.heap.objs.size<=b)(hn:H' b=none):sM X Md H' b:=by
 refine⟨hn,Yk (Qo I.lt hb),I.nofs hb,.inr (Qn I.sz hb),fun x c e z=>?_,fun p hp z=>?_⟩
 ·obtain⟨v,q⟩:=I.cell x c e
  exact absurd (Qo q.lt (by rw[z];exact hb)) (Vt _)
 ·exact absurd (Qo (Heap.lt_size (I.pin p hp).1) (by rw[z];exact hb)) (Vt _)
structure Turn (P:Je) (w:Jf) (K:PySem.W.Frag) (tg:Expr) (J:It) (fp:List Jc) (it:Jc) (tn:Nat->Jd->Prop):Prop where
 mem:it∈fp
 obj:∀ i h,tn i h->∀ b∈fp,∃ o,h.get? b=some o/\∀ v,o.data≠.cell v
 keep:∀ i h h',tn i h->(∀ b∈fp,∀ o,h.get? b=some o->h'.get? b=some o)->tn i h'
 item:∀(X:Cx),X.prog=P->X.w=w->X.K=K->X.calm=true->∀(i:Nat)(Md:List (Jc×Obj))(s:Jb)(σ:St)(H:Hp)(E:Ja->Jb->Prop),Inv X Md σ H s->(∀ b∈fp,sM X Md H b)->tn i s.heap->J.go i H->
  wpAny (model P w) X.A (pyNext (.ref it)) (fun r s1=>∃ u,r=some u/\
   wpAny (model P w) X.A (letOwnedTupleGo tg (.ref it) u) (fun _ s2=>∃ x H',Inv X Md σ H' s2/\cU x u/\J.yld i H x H'/\tn (i+1) s2.heap/\∀ b∈fp,H' b=none) E s1) E s
 done:∀(X:Cx),X.prog=P->X.w=w->X.K=K->X.calm=true->∀(i:Nat)(Md:List (Jc×Obj))(s:Jb)(σ:St)(H:Hp)(E:Ja->Jb->Prop),Inv X Md σ H s->(∀ b∈fp,sM X Md H b)->tn i s.heap->J.stop i H->
  wpAny (model P w) X.A (pyNext (.ref it)) (fun r s1=>r=none/\Inv X Md σ H s1) E s
 self:∀(A:Jg)(i:Nat)(s:Jb)(Q:Ja->Jb->Prop)(E:Ja->Jb->Prop),tn i s.heap->Q (.ref it) s->wpAny (model P w) A (pyIter (.ref it)) Q E s
abbrev TI:=St->Hp->(It->Hp->Prop)->Prop
def PIE(X:Cx)(Md:List (Jc×Obj))(r:St)(tg:Expr)(R:It->Hp->Prop)(itv:Ja)(s2:Jb):Prop:=
 ∃(it:Jc)(fp:List Jc)(tn:Nat->Jd->Prop)(J:It)(H':Hp),itv=.ref it/\Inv X Md r H' s2/\Turn X.prog X.w X.K tg J fp it tn/\tn 0 s2.heap/\(∀ b∈fp,sM X Md H' b)/\R J H'
def PI(X:Cx)(tg iter:Expr)(wi:TI):Prop:=
 ∀(Md:List (Jc×Obj))(s:Jb)(r:St)(H:Hp)(R:It->Hp->Prop),Inv X Md r H s->wi r H R->
  wpAny (model X.prog X.w) X.A (eval iter X.env) (fun v s1=>wpAny (model X.prog X.w) X.A (pyIter v) (PIE X Md r tg R) X.xe s1) X.xe s
def zMJ{M:Model}{A:Jg}{E:Ja->Jb->Prop}{s:Jb}{tg:Expr}{it:Jc}{u:Ja}{o:Obj}{n:String}{vs:Array Ja}{Q:Unit->Jb->Prop}(ho:s.heap.get? it=some o)(hc:o.cls=.type n)(hd:o.data=.fields vs)
    (hn:["enumerate","zip","dict_itemiterator","dict_reverseitemiterator","odict_iterator","itertools.zip_longest","itertools.pairwise"].contains n=false) (hQ:Q () s):wpAny M A (letOwnedTupleGo tg (.ref it) u) Q E s:=by
  unfold letOwnedTupleGo
  cases tg<;>first
    | exact Jt hQ
    | (cases u<;>first
        | exact Jt hQ
        | (refine Jq (wpAny_load ho ?_)
           rw[hc,hd];show wpAny M A (if (["enumerate","zip","dict_itemiterator","dict_reverseitemiterator","odict_iterator","itertools.zip_longest","itertools.pairwise"].contains n && vs[0]?==some (rawInt _))=true then _ else _) Q E s
           rw[Jk (by intro h;rw[hn,Bool.false_and] at h;cases h)]
           exact Jt hQ))
def Itl(K:PySem.W.Frag)(a:Jc):It:=
 ⟨fun i H=>∃ xs x,SqL K H a xs/\xs[i]?=some x,fun i H x H'=>H'=H/\∀ xs,SqL K H a xs->xs[i]?=some x,fun i H=>∃ xs,SqL K H a xs/\xs.length<=i⟩
def Itt(K:PySem.W.Frag)(a:Jc):It:=
 ⟨fun i H=>∃ xs x,SqT K H a xs/\xs[i]?=some x,fun i H x H'=>H'=H/\∀ xs,SqT K H a xs->xs[i]?=some x,fun i H=>∃ xs,SqT K H a xs/\xs.length<=i⟩
def Itr(lo:Int)(n:Nat):It:=⟨fun i _=>i<n,fun i H x H'=>H'=H/\x=.int (lo+i),fun i _=>n<=i⟩
def zBL{P:Je}{w:Jf}{K:Fg_}{tg:Expr}(a it:Jc):Turn P w K tg (Itl K a) [it] it (fun i h=>h.IsListIter it a i) where
 mem:=by simp
 obj:=fun i h st b hb=>by
  have e:b=it:=by simpa using hb
  subst e;obtain⟨o,e,c,d⟩:=st;exact⟨o,e,fun v z=>by rw[d] at z;cases z⟩
 keep:=fun i h h' st k=>st.at fun o e=>k it (by simp) o e
 item:=by
  intro X hP hw hK hc i Md s r H E I hf st hg;subst hP hw hK;obtain⟨xs,x,hq,hx⟩:=hg;obtain⟨its,rv,p,hz⟩:=I.list hq;obtain⟨u,hu,ru⟩:=rv.get hx;obtain⟨f0,f1,f2,f3,f4,f5⟩:=hf it (by simp)
  refine wpAny_pyNext_list_item st p.isList (x:=u) (by simpa using hu) fun h' st' sb=>?_
  have I1:Inv X Md r H { s with heap:=h' }:=I.turned (t':=s.toks) (fun b o hb e=>(sb.2 b hb).trans e) f0 f1 f3 f4 f5
  obtain⟨o,e,c,d⟩:=id st';exact⟨u,rfl,zMJ (s:={ s with heap:=h' }) e c d (by decide) ⟨x,H,I1,ru,⟨rfl,fun ys hy=>by rw[I.list_inj hy hq];exact hx⟩,st',fun b hb=>(hf b hb).1⟩⟩
 done:=by
  intro X hP hw hK hc i Md s r H E I hf st hg;subst hP hw hK;obtain⟨xs,hq,hx⟩:=hg;obtain⟨its,rv,p,hz⟩:=I.list hq;obtain⟨f0,f1,f2,f3,f4,f5⟩:=hf it (by simp)
  have hl:=rv.length;exact wpAny_pyNext_list_end (I.ok.hd hc) st p.isList (by simp;omega) fun h' eb=>⟨rfl,I.turned (t':=s.toks) (fun b o hb e=>eb b o hb e) f0 f1 f3 f4 f5⟩
 self:=fun _ _ _ _ _ st h=>wpAny_pyIter_listiter st h
def zER{P:Je}{w:Jf}{K:Fg_}{tg:Expr}(a it:Jc):Turn P w K tg (Itt K a) [it] it (fun i h=>h.IsTupleIter it a i) where
 mem:=by simp
 obj:=fun i h st b hb=>by
  have e:b=it:=by simpa using hb
  subst e;obtain⟨o,e,c,d⟩:=st;exact⟨o,e,fun v z=>by rw[d] at z;cases z⟩
 keep:=fun i h h' st k=>st.at fun o e=>k it (by simp) o e
 item:=by
  intro X hP hw hK hc i Md s r H E I hf st hg;subst hP hw hK;obtain⟨xs,x,hq,hx⟩:=hg;obtain⟨its,rv,p,hz⟩:=I.tuple hq;obtain⟨u,hu,ru⟩:=rv.get hx;obtain⟨f0,f1,f2,f3,f4,f5⟩:=hf it (by simp)
  refine wpAny_pyNext_tuple_item st (show s.heap.IsTuple a its.toArray from p) (x:=u) (by simpa using hu) fun h' st' sb=>?_
  have I1:Inv X Md r H { s with heap:=h' }:=I.turned (t':=s.toks) (fun b o hb e=>(sb.2 b hb).trans e) f0 f1 f3 f4 f5
  obtain⟨o,e,c,d⟩:=id st';exact⟨u,rfl,zMJ (s:={ s with heap:=h' }) e c d (by decide) ⟨x,H,I1,ru,⟨rfl,fun ys hy=>by rw[I.tuple_inj hy hq];exact hx⟩,st',fun b hb=>(hf b hb).1⟩⟩
 done:=by
  intro X hP hw hK hc i Md s r H E I hf st hg;subst hP hw hK;obtain⟨xs,hq,hx⟩:=hg;obtain⟨its,rv,p,hz⟩:=I.tuple hq;obtain⟨f0,f1,f2,f3,f4,f5⟩:=hf it (by simp)
  have hl:=rv.length;exact wpAny_pyNext_tuple_end (I.ok.hd hc) st (show s.heap.IsTuple a its.toArray from p) (by simp;omega) fun h' eb=>⟨rfl,I.turned (t':=s.toks) (fun b o hb e=>eb b o hb e) f0 f1 f3 f4 f5⟩
 self:=fun _ _ _ _ _ st h=>wpAny_pyIter_tupleiter st h
def zET{P:Je}{w:Jf}{K:Fg_}{tg:Expr}(it:Jc)(lo:Int)(n:Nat):Turn P w K tg (Itr lo n) [it] it (fun i h=>IsRangeIter h it (lo+(i:Nat)*1) ((n:Int)-(i:Nat)) 1) where
 mem:=by simp
 obj:=fun i h st b hb=>by
  have e:b=it:=by simpa using hb
  subst e
  exact⟨_,st,fun v z=>by
   have z':Data.fields _=Data.cell v:=z
   cases z'⟩
 keep:=fun i h h' st k=>k it (by simp) _ st
 item:=by
  intro X hP hw hK hc i Md s r H E I hf st hg;subst hP hw hK;obtain⟨f0,f1,f2,f3,f4,f5⟩:=hf it (by simp)
  have W:=Walks.range (prog:=X.prog) (w:=X.w) (I.ok.hd hc) it lo 1 n;refine W.item i s _ _ hg st fun v h' tk hv st' kk=>?_
  obtain⟨t,rfl⟩:=hv;have I1:Inv X Md r H { s with heap:=h',toks:=tk }:=I.turned (fun b o hb e=>kk b o (by simpa using hb) e) f0 f1 f3 f4 f5
  refine⟨_,rfl,zMJ (s:={ s with heap:=h',toks:=tk }) (n := "range_iterator") st' rfl rfl (by decide) ⟨.int (lo+i),H,I1,⟨t,?_⟩,⟨rfl,rfl⟩,st',fun b hb=>(hf b hb).1⟩⟩
  rw[V0]
 done:=by
  intro X hP hw hK hc i Md s r H E I hf st hg;subst hP hw hK;obtain⟨f0,f1,f2,f3,f4,f5⟩:=hf it (by simp)
  exact wpAny_pyNext_range_end (I.ok.hd hc) st (by have:n<=i:=hg;omega) fun h' eb=>⟨rfl,I.turned (t':=s.toks) (fun b o hb e=>eb b o hb e) f0 f1 f3 f4 f5⟩
 self:=fun _ _ _ _ _ st h=>wpAny_pyIter_rangeiter st h
section
variable{X:Cx}{tg:Expr}
abbrev zRb(K:PySem.W.Frag)(tl:TE):TI:=fun c H R=>tl c H fun x H1=>∃ a,x=.ref a/\(∃ xs,SqL K H1 a xs)/\R (Itl K a) H1
def zLL{l:Expr}{tl:TE}(hl:PE X l tl):PI X tg l (zRb X.K tl):=by
 intro Md s c H R I h;refine thn (hl Md s c H _ I h) fun v s1 ⟨x,H1,I1,r1,q1⟩=>?_
 obtain⟨a,e,⟨xs,hq⟩,q⟩:=q1;subst e;cases r1;obtain⟨its,rv,p,hz⟩:=I1.list hq;refine wpAny_pyIter_list p.isList ?_
 refine⟨s1.heap.objs.size,[s1.heap.objs.size],_,_,H1,rfl,I1.kept (t':=s1.toks) fun b o e=>Heap.get?_push_of_some _ e,zBL a _,⟨_,Heap.get?_push_size _ rfl,rfl,rfl⟩,fun b hb=>?_,q⟩
 have e:b=s1.heap.objs.size:=by simpa using hb
 subst e;exact I1.fpOk (Qd _) (I1.hok.fresh (Qd _))
def zDU{Md:List (Jc×Obj)}{c:St}{H:Hp}{s:Jb}{R:It->Hp->Prop}{E:Ja->Jb->Prop}{lo hi:Int}{t u v:Tok}{tk:Nat}(I:Inv X Md c H s)(h1:-(2^62)<=lo)(h2:lo<2^62)(h3:-(2^62)<=hi)(h4:hi<2^62)
  (q:R (Itr lo (hi-lo).toNat) H):wpAny (model X.prog X.w) X.A (pyIter (.ref s.heap.objs.size)) (PIE X Md c tg R) E { s with heap:=s.heap.push { cls:=.type "range", data:=.fields #[.int lo t,.int hi u,.int 1 v] },toks:=tk }:=by
 refine wpAny_pyIter_range (IsRange.new ..) (small_one h1 h2 h3 h4) ?_
 have I1:Inv X Md c H { s with heap:=s.heap.push { cls:=.type "range", data:=.fields #[.int lo t,.int hi u,.int 1 v] },toks:=tk }:=I.kept fun b o e=>Heap.get?_push_of_some _ e
 refine⟨(s.heap.push { cls:=.type "range", data:=.fields #[.int lo t,.int hi u,.int 1 v] }).objs.size,[(s.heap.push { cls:=.type "range", data:=.fields #[.int lo t,.int hi u,.int 1 v] }).objs.size],_,_,H,rfl,
  I1.kept (t':=tk) fun b o e=>Heap.get?_push_of_some _ e,zET _ lo (hi-lo).toNat,?_,fun b hb=>?_,q⟩
 ·have e1:lo+((0:Nat):Int)*1=lo:=by simp
  have e2:(((hi-lo).toNat:Nat):Int)-((0:Nat):Int)=Builtin.Range.rangeSize lo hi 1:=by rw[rangeSize_one];split<;>omega
  show IsRangeIter _ _ (lo+((0:Nat):Int)*1) ((((hi-lo).toNat:Nat):Int)-((0:Nat):Int)) 1
  rw[e1,e2];exact Heap.get?_push_size _ rfl
 ·have e:b=(s.heap.push { cls:=.type "range", data:=.fields #[.int lo t,.int hi u,.int 1 v] }).objs.size:=by simpa using hb
  subst e;exact I1.fpOk (Qd _) (I1.hok.fresh (Qd _))
abbrev zCv(ta:TA):TI:=fun c H R=>ta c H fun vs H1=>∃ j:Int,vs=[.int j]/\-(2^62)<=j/\j<2^62/\R (Itr 0 j.toNat) H1
abbrev zFu(ta:TA):TI:=fun c H R=>ta c H fun vs H1=>∃ i j:Int,vs=[.int i,.int j]/\(-(2^62)<=i/\i<2^62/\-(2^62)<=j/\j<2^62)/\R (Itr i (j-i).toNat) H1
def zHn{a:Expr}{ta:TA}{p pos:Pos}(hg:Gl X "range")(hm:X.mg "range" = none)(ha:PA X [a] ta)(hs:starEach [a] X.env=[(false,eval a X.env)]:=by rfl):PI X tg (.Call (.Name "range" p) [a] [] pos) (zCv ta):=by
 intro Md s c H R I h;refine Call_ (oW I hg hm Ju (Ym (thn (ha pos Md s c H _ I h) fun us s1 ⟨vs,H1,I1,r1,q1⟩=>?_) hs rfl))
 obtain⟨j,e,q1,q2,q⟩:=q1;subst e
 cases r1 with
 | cons r rr=>
  cases rr;obtain⟨t,rfl⟩:=r;exact call_range_1 (zDU I1 (by omega) (by omega) q1 q2 (by simpa using q))
def zHI{a b:Expr}{ta:TA}{p pos:Pos}(hg:Gl X "range")(hm:X.mg "range" = none)(ha:PA X [a,b] ta)(hs:starEach [a,b] X.env=[(false,eval a X.env),(false,eval b X.env)]:=by rfl)(hs2:starEach [b] X.env=[(false,eval b X.env)]:=by rfl):
  PI X tg (.Call (.Name "range" p) [a,b] [] pos) (zFu ta):=by
 intro Md s c H R I h;refine Call_ (oW I hg hm Ju (Ym (thn (ha pos Md s c H _ I h) fun us s1 ⟨vs,H1,I1,r1,q1⟩=>?_) (by rw[hs,hs2]) (by rw[hs2];rfl)))
 obtain⟨i,j,e,⟨q1,q2,q3,q4⟩,q⟩:=q1;subst e
 cases r1 with
 | cons r rr=>
  cases rr with
  | cons r' rr=>
   cases rr;obtain⟨t,rfl⟩:=r;obtain⟨t',rfl⟩:=r';exact call_range_2 (zDU I1 q1 q2 q3 q4 q)
abbrev zRs(wi:TI)(g:TG)(tb:TS):TS:=fun D c H=>wi c H fun J H1=>∃ W:Nat->Nat->St->Hp->Prop,(∃ m,W 0 m c H1)/\∀ i m c H,W i m c H->
 (J.stop i H/\D.nx c H)∨(J.go i H/\∃ N:St->Hp->Prop,(∀ c' H',N c' H'->∃ m',m' < m/\W (i+1) m' c' H')/\∀ x H',J.yld i H x H'->g x c H' fun c2 H2=>tb { D with nx:=N,ct:=N,bk:=D.nx } c2 H2)
def tO(fp:List Jc)(h:Jd):List (Jc×Obj):=fp.filterMap fun b=>(h.get? b).map fun o=>(b,o)
def eR{fp:List Jc}{h:Jd}{b:Jc}{o:Obj}(hb:b∈fp)(e:h.get? b=some o):(b,o)∈tO fp h:=Uy.mpr ⟨b,hb,by rw[e];rfl⟩
def zFJ{fp:List Jc}{h:Jd}{p:Jc×Obj}(hp:p∈tO fp h):p.1∈fp/\h.get? p.1=some p.2:=by
 obtain⟨b,hb,e⟩:=Uy.mp hp
 cases q:h.get? b with
 | none=>rw[q] at e;cases e
 | some o=>
  rw[q] at e;have e':(b,o)=p:=Vd e;subst e';exact⟨hb,q⟩
def Inv.pinned{Md:List (Jc×Obj)}{c:St}{H:Hp}{s:Jb}{fp:List Jc}(I:Inv X Md c H s)(hf:∀ b∈fp,sM X Md H b)(ho:∀ b∈fp,∃ o,s.heap.get? b=some o/\∀ v,o.data≠.cell v):Inv X (Md++tO fp s.heap) c H s:=
 I.pins_of fun p hp=>(Xa.mp hp).elim (fun z=>I.pin p (Q0 _ z)) fun z=>by
  obtain⟨hb,e⟩:=zFJ z;obtain⟨f0,f1,f2,_⟩:=hf p.1 hb;obtain⟨o,e',d⟩:=ho p.1 hb;rw[e] at e';cases e'
  exact⟨e,f0,f1,f2,d⟩
def Inv.unpinned{Md pl:List (Jc×Obj)}{c:St}{H:Hp}{s:Jb}(I:Inv X (Md++pl) c H s):Inv X Md c H s:=I.pins_of fun p hp=>I.pin p (Q0 _ (Ys _ hp))
def zKk{iter:Expr}{body:List Jh}{wi:TI}{g:TG}{tb:TS}{pos:Pos}(hp:PassesOwn (model X.prog X.w) X.A X.env X.xe)(hc:X.calm=true)(hi:PI X tg iter wi)(hg:PG X tg g)(hb:PSs X body tb)
  (hs:∀ x,foldedSetIterable iter X.env x=pure x:=by intro _;rfl):PS X (.For tg iter body [] pos) (zRs wi g tb):=by
 intro Md s c H D I h;refine wpAny_For (thn (hi Md s c H _ I h) fun v s1 h1=>thn h1 fun itv s2 h2=>?_) hs
 obtain⟨it,fp,tn,J,H2,e,I2,T,st2,f2,W,⟨m0,w0⟩,turn⟩:=h2;subst e;have stat:∀ {H':Hp},(∀ b∈fp,H' b=none)->∀ b∈fp,sM X Md H' b:=fun hn b hb=>⟨hn b hb,(f2 b hb).2⟩
 refine codeAny_forLoop_any (fun n s'=>∃ i c' H',Inv X Md c' H' s'/\tn i s'.heap/\(∀ b∈fp,H' b=none)/\W i n c' H') ?_ m0 ⟨0,c,H2,I2,st2,fun b hb=>(f2 b hb).1,w0⟩
 rintro n s3 ⟨i,c3,H3,I3,st3,fr3,w3⟩
 rcases turn i n c3 H3 w3 with⟨stop,qn⟩ | ⟨go,N,hN,step⟩
 ·refine Js hp (thn (T.done X rfl rfl rfl hc i Md s3 c3 H3 X.xe I3 (stat fr3) st3 stop) fun r s4 ⟨hr,I4⟩=>?_)
  subst hr;exact Jn ⟨c3,H3,I4,qn⟩
 ·refine Js hp (thn (T.item X rfl rfl rfl hc i Md s3 c3 H3 X.xe I3 (stat fr3) st3 go) fun r s4 ⟨u,hr,h4⟩=>?_)
  subst hr;refine Js hp (thn h4 fun _ s5 ⟨x,H5,I5,r5,y5,st5,fr5⟩=>?_)
  have I5':=I5.pinned (stat fr5) (T.obj _ _ st5);refine Js hp (thn (hg _ s5 c3 H5 x u _ I5' r5 (step x H5 y5)) fun _ s6 ⟨c6,H6,I6,q6⟩=>?_)
  refine Js hp (thn (hb _ s6 c6 H6 _ I6 q6) fun f s7 q7=>?_)
  have again:∀ {c7:St} {H7:Hp},Inv X (Md++tO fp s5.heap) c7 H7 s7->N c7 H7->∃ m,m<n/\∃ i c' H',Inv X Md c' H' s7/\tn i s7.heap/\(∀ b∈fp,H' b=none)/\W i m c' H':=fun {c7 H7} I7 n7=>by
   obtain⟨m',hm,w7⟩:=hN c7 H7 n7;refine⟨m',hm,i+1,c7,H7,I7.unpinned,T.keep _ _ _ st5 fun b hb o e=>(I7.pin (b,o) (Q0 _ (Q0 _ (eR hb e)))).1,fun b hb=>?_,w7⟩
   obtain⟨o,e,d⟩:=T.obj _ _ st5 b hb;exact(I7.pin (b,o) (Q0 _ (Q0 _ (eR hb e)))).2.1
  cases f with
  | next=>obtain⟨c7,H7,I7,n7⟩:=q7;exact again I7 n7
  | cont=>obtain⟨c7,H7,I7,n7⟩:=q7;exact again I7 n7
  | brk=>obtain⟨c7,H7,I7,q7⟩:=q7;exact⟨c7,H7,I7.unpinned,q7⟩
  | ret v=>obtain⟨x7,c7,H7,I7,r7,q7⟩:=q7;exact⟨x7,c7,H7,I7.unpinned,r7,q7⟩
end
abbrev R2:=V->V->Hp->VK->Prop
def OpR(X:Cx)(f:Ja->Ja->Sem Ja)(r:R2):Prop:=
 ∀(Md:List (Jc×Obj))(s:Jb)(p:St)(H:Hp)(x y:V)(v u:Ja)(Q:VK),Inv X Md p H s->cU x v->cU y u->r x y H Q->
  wpAny (model X.prog X.w) X.A (f v u) (EP X Md p Q) X.xe s
def UnR(X:Cx)(f:Ja->Sem Ja)(r:V->Hp->VK->Prop):Prop:=
 ∀(Md:List (Jc×Obj))(s:Jb)(p:St)(H:Hp)(x:V)(v:Ja)(Q:VK),Inv X Md p H s->cU x v->r x H Q->
  wpAny (model X.prog X.w) X.A (f v) (EP X Md p Q) X.xe s
def vH(X:Cx)(f:Ja)(r:List V->Hp->VK->Prop):Prop:=
 ∀(Md:List (Jc×Obj))(s:Jb)(p:St)(H:Hp)(xs:List V)(us:List Ja)(Q:VK),Inv X Md p H s->dN xs us->r xs H Q->
  wpAny (model X.prog X.w) X.A (call f us) (EP X Md p Q) X.xe s
abbrev tOp(r:R2)(ta tb:TE):TE:=fun s H Q=>ta s H fun x H1=>tb s H1 fun y H2=>r x y H2 Q
abbrev tUn(r:V->Hp->VK->Prop)(ta:TE):TE:=fun s H Q=>ta s H fun x H1=>r x H1 Q
def rI(C:Int->Int->Prop)(g:Int->Int->V):R2:=fun x y H Q=>∃ i j,x=.int i/\y=.int j/\C i j/\Q (g i j) H
def rI0(g:Int->Int->V):R2:=fun x y H Q=>∃ i j,x=.int i/\y=.int j/\Q (g i j) H
def rU(g:Int->V):V->Hp->VK->Prop:=fun x H Q=>∃ i,x=.int i/\Q (g i) H
section
variable{X:Cx}{a b c:Expr}{ta tb tc:TE}{pos:Pos}
def zQW(ha:PE X a ta)(hb:PE X b tb){Md:List (Jc×Obj)}{s:Jb}{p:St}{H:Hp}{R:V->V->Hp->Prop}(I:Inv X Md p H s)
  (h:ta p H fun x H1=>tb p H1 fun y H2=>R x y H2) {Q:Ja->Jb->Prop} {f:Ja->Ja->Sem Ja}
  (hf:∀ v u s2 x y H2,Inv X Md p H2 s2->cU x v->cU y u->R x y H2->wpAny (model X.prog X.w) X.A (f v u) Q X.xe s2):
  wpAny (model X.prog X.w) X.A (eval a X.env) (fun v s₁=>wpAny (model X.prog X.w) X.A (eval b X.env) (fun u s₂=>wpAny (model X.prog X.w) X.A (f v u) Q X.xe s₂) X.xe s₁) X.xe s:=by
 refine thn (ha Md s p H _ I h) fun v s1 ⟨x,H1,I1,r1,q1⟩=>?_
 refine thn (hb Md s1 p H1 _ I1 q1) fun u s2 ⟨y,H2,I2,r2,q2⟩=>?_
 exact hf v u s2 x y H2 I2 r1 r2 q2
def zAE{op:Operator}{r:R2}(ho:OpR X (binaryOp op) r)(ha:PE X a ta)(hb:PE X b tb):PE X (.BinOp a op b pos) (tOp r ta tb):=by
 intro Md s p H Q I h;exact wpAny_BinOp (zQW ha hb I h fun v u s2 x y H2 I2 rx ry q=>ho Md s2 p H2 x y v u Q I2 rx ry q)
def zQS{op:UnaryOp}{r:V->Hp->VK->Prop}(ho:UnR X (unaryOp op) r)(ha:PE X a ta):PE X (.UnaryOp op a pos) (tUn r ta):=by
 intro Md s p H Q I h;exact UnaryOp_ (thn (ha Md s p H _ I h) fun v s1 ⟨x,H1,I1,r1,q1⟩=>ho Md s1 p H1 x v Q I1 r1 q1)
def opI{f:Ja->Ja->Sem Ja}{C:Int->Int->Prop}{g:Int->Int->Int}
  (rule:∀(i j:Int)(t u:Tok)(s:Jb)(Q:Ja->Jb->Prop)(E:Ja->Jb->Prop),C i j->Q (.int (g i j) s.toks) { s with toks:=s.toks+1 }->wpAny (model X.prog X.w) X.A (f (.int i t) (.int j u)) Q E s):
  OpR X f (rI C fun i j=>.int (g i j)):=by
 intro Md s p H x y v u Q I rx ry h;obtain⟨i,j,rfl,rfl,hc,q⟩:=h;obtain⟨t,rfl⟩:=rx;obtain⟨t',rfl⟩:=ry;exact rule i j t t' s _ _ hc ⟨.int (g i j),H,I.tok _,⟨_,rfl⟩,q⟩
def zRC{f:Ja->Ja->Sem Ja}{g:Int->Int->Int}
  (rule:∀(i j:Int)(t u:Tok)(s:Jb)(Q:Ja->Jb->Prop)(E:Ja->Jb->Prop),Q (.int (g i j) s.toks) { s with toks:=s.toks+1 }->wpAny (model X.prog X.w) X.A (f (.int i t) (.int j u)) Q E s):
  OpR X f (rI0 fun i j=>.int (g i j)):=by
 intro Md s p H x y v u Q I rx ry h;obtain⟨i,j,rfl,rfl,q⟩:=h;obtain⟨t,rfl⟩:=rx;obtain⟨t',rfl⟩:=ry;exact rule i j t t' s _ _ ⟨.int (g i j),H,I.tok _,⟨_,rfl⟩,q⟩
def zRy{f:Ja->Ja->Sem Ja}{g:Int->Int->Bool}
  (rule:∀(i j:Int)(t u:Tok)(s:Jb)(Q:Ja->Jb->Prop)(E:Ja->Jb->Prop),Q (.bool (g i j)) s->wpAny (model X.prog X.w) X.A (f (.int i t) (.int j u)) Q E s):
  OpR X f (rI0 fun i j=>.bl (g i j)):=by
 intro Md s p H x y v u Q I rx ry h;obtain⟨i,j,rfl,rfl,q⟩:=h;obtain⟨t,rfl⟩:=rx;obtain⟨t',rfl⟩:=ry;exact rule i j t t' s _ _ ⟨.bl (g i j),H,I,rfl,q⟩
def zQn(i j:Int):Prop:=(-(2^64)<i/\i<2^64)∨(-(2^64)<j/\j<2^64)
def zQn.ok{i j:Int}(h:zQn i j):IntMulOk i j:=by
 rcases h with⟨h1,h2⟩ | ⟨h1,h2⟩
 ·exact .of_left (intBits_le_64 h1 h2)
 ·exact .of_right (intBits_le_64 h1 h2)
def zPZ:OpR X (binaryOp .Add) (rI0 fun i j=>.int (i+j)):=zRC fun _ _ _ _ _ _ _ q=>add_int q
def zBO:OpR X (binaryOp .Sub) (rI0 fun i j=>.int (i-j)):=zRC fun _ _ _ _ _ _ _ q=>sub_int q
def bL:OpR X (binaryOp .Mod) (rI (fun _ j=>j≠0) fun i j=>.int (i.fmod j)):=opI fun _ _ _ _ _ _ _ hc q=>mod_int' hc q
def unI{f:Ja->Sem Ja}{g:Int->Int}
  (rule:∀(i:Int)(t:Tok)(s:Jb)(Q:Ja->Jb->Prop)(E:Ja->Jb->Prop),Q (.int (g i) s.toks) { s with toks:=s.toks+1 }->wpAny (model X.prog X.w) X.A (f (.int i t)) Q E s):
  UnR X f (rU fun i=>.int (g i)):=by
 intro Md s p H x v Q I rx h;obtain⟨i,rfl,q⟩:=h;obtain⟨t,rfl⟩:=rx;exact rule i t s _ _ ⟨.int (g i),H,I.tok _,⟨_,rfl⟩,q⟩
def zPM:UnR X (unaryOp .USub) (rU fun i=>.int (-i)):=unI fun _ _ _ _ _ q=>neg_int q
end
section
variable{X:Cx}{a b c:Expr}{ta tb tc:TE}{pos:Pos}
def zPi{Md:List (Jc×Obj)}{p:St}{H:Hp}{s:Jb}{Q:VK}{k k':Bool}(I:Inv X Md p H s)(q:Q (.bl k) H)(e:k=k'):EP X Md p Q (.bool k') s:=by
 subst e;exact⟨.bl k,H,I,rfl,q⟩
def zBd:OpR X (compareOp .Lt) (rI0 fun i j=>.bl (decide (i<j))):=zRy fun _ _ _ _ _ _ _ q=>lt_int q
def zAl:OpR X (compareOp .Gt) (rI0 fun i j=>.bl (decide (j<i))):=zRy fun _ _ _ _ _ _ _ q=>gt_int q
def zMj:OpR X (compareOp .IsNot) (fun x y H Q=>y=.non/\Q (.bl (!decide (x=.non))) H):=by
 intro Md s p H x y v u Q I rx ry h;obtain⟨rfl,q⟩:=h;cases ry;refine isnot_none_gen (zPi I q ?_)
 cases x<;>first
  | (cases rx;rfl)
  | (obtain⟨t,rfl⟩:=rx;rfl)
def OpR.or{f:Ja->Ja->Sem Ja}{r r':R2}(h:OpR X f r)(h':OpR X f r'):OpR X f (fun x y H Q=>r x y H Q∨r' x y H Q):=by
 intro Md s p H x y v u Q I rx ry q;rcases q with q | q
 ·exact h Md s p H x y v u Q I rx ry q
 ·exact h' Md s p H x y v u Q I rx ry q
def bG(b:Expr){op:CmpOp}(h:op≠.In:=by decide)(h2:op≠.NotIn:=by decide):behindInMarks op b=false:=by
 have e1:(op==CmpOp.In)=false:=by cases op<;>first | rfl | exact absurd rfl h
 have e2:(op==CmpOp.NotIn)=false:=by cases op<;>first | rfl | exact absurd rfl h2
 cases b<;>simp[behindInMarks,e1,e2]
def zLo{op:CmpOp}{r:R2}(ho:OpR X (compareOp op) r)(ha:PE X a ta)(hb:PE X b tb)(hm:behindInMarks op b=false):PE X (.Compare a [op] [b] pos) (tOp r ta tb):=by
 intro Md s p H Q I h;exact wpAny_Compare1 (zQW ha hb I h fun v u s2 x y H2 I2 rx ry q=>ho Md s2 p H2 x y v u Q I2 rx ry q) hm
abbrev zOI(t:TE):TT:=fun p H Q=>t p H fun x H'=>∃ k,x=.bl k/\Q k H'
def zCp{op:CmpOp}{r:R2}(ho:OpR X (compareOp op) r)(ha:PE X a ta)(hb:PE X b tb)(hm:behindInMarks op b=false):PT X (.Compare a [op] [b] pos) (zOI (tOp r ta tb)):=by
 intro Md s p H Q I h
 refine Jm (thn (ha Md s p H _ I h) fun v s1 ⟨x,H1,I1,r1,q1⟩=>thn (hb Md s1 p H1 _ I1 q1) fun u s2 ⟨y,H2,I2,r2,q2⟩=>
  thn (ho Md s2 p H2 x y v u _ I2 r1 r2 q2) fun c s3 ⟨z,H3,I3,r3,k,e,q3⟩=>?_) hm
 subst e;cases r3;exact wpAny_truthy_bool ⟨H3,I3,q3⟩
def zDV:(sizeLine:Nat)<2^63:=by rw[Jv];decide
def zAn{x:V}{us:List Ja}(r:dN [x] us):∃ u,us=[u]/\cU x u:=by
 cases r with
 | cons r1 r2=>cases r2;exact⟨_,rfl,r1⟩
def zQQ{x y:V}{us:List Ja}(r:dN [x,y] us):∃ u w',us=[u,w']/\cU x u/\cU y w':=by
 cases r with
 | cons r1 r2=>
  cases r2 with
  | cons r3 r4=>cases r4;exact⟨_,_,rfl,r1,r3⟩
def zP:vH X (.builtin "abs") (fun xs H Q=>∃ i,xs=[.int i]/\Q (.int (if i<0 then -i else i)) H):=by
 intro Md s p H xs us Q I r h;obtain⟨i,rfl,q⟩:=h;obtain⟨u,rfl,t,rfl⟩:=zAn r;exact call_abs_int fun u tk=>⟨.int (if i<0 then -i else i),H,I.tok _,⟨_,rfl⟩,q⟩
def zHw(hc:X.calm=true):vH X (.builtin "min") (fun xs H Q=>∃ i j,xs=[.int i,.int j]/\Q (.int (if j<i then j else i)) H):=by
 intro Md s p H xs us Q I r h;obtain⟨i,j,rfl,q⟩:=h;obtain⟨u,w',rfl,⟨t,rfl⟩,⟨t',rfl⟩⟩:=zQQ r;refine min_two_ints (I.ok.hd hc) fun h' tk k=>⟨_,H,I.kept k,?_,q⟩
 by_cases hj:j<i
 ·rw[Jj hj,Jj hj];exact⟨_,rfl⟩
 ·rw[Jk hj,Jk hj];exact⟨_,rfl⟩
end
structure Room (k:Nat) (A:Jg):Prop where
 hd:A.handled=none
 dp:A.depth+3*k+5<recursionLimit
 un:A.units+16*k+200<cLine
def Room.mono{j k:Nat}{A:Jg}(r:Room k A)(h:j<=k):Room j A:=⟨r.hd,by have:=r.dp;omega,by have:=r.un;omega⟩
def Room.deeper{k:Nat}{A:Jg}(r:Room (k+1) A)(env:Env):Room k (A.deeper env):=
 ⟨r.hd,by have:=r.dp;show A.depth+1+3*k+5<_;omega,by have:=r.un;show A.units+3+16*k+200<_;omega⟩
def Room.depth{k:Nat}{A:Jg}(r:Room k A):A.depth<recursionLimit:=by have:=r.dp;omega
def Room.units{k:Nat}{A:Jg}(r:Room k A):A.units+64<cLine:=by have:=r.un;omega
abbrev zSt:TA:=fun _ H Q=>Q [] H
abbrev zQM(ta:TE)(tr:TA):TA:=fun r H Q=>ta r H fun x H1=>tr r H1 fun xs H2=>Q (x::xs) H2
section
variable{X:Cx}{e:Expr}{es:List Expr}{te:TE}{t:TA}{pos:Pos}
def mT:PA X [] zSt:=fun _ _ _ _ H Q I h=>Calls.spliced_nil ⟨[],H,I,.nil,h⟩
def gY(ha:PE X e te)(hr:PA X es t)(hs:starEach (e::es) X.env=(false,eval e X.env)::starEach es X.env:=by rfl):PA X (e::es) (zQM te t):=by
 intro pos Md s a H Q I h;rw[hs];show wpAny _ _ (spliced ((false,eval e X.env)::backTo pos (starEach es X.env))) _ _ s
 refine Calls.spliced_cons (thn (ha Md s a H _ I h) fun u s1 ⟨x,H1,I1,r1,q1⟩=>?_)
 exact thn (hr pos Md s1 a H1 _ I1 q1) fun us s2 ⟨xs,H2,I2,r2,q2⟩=>⟨x::xs,H2,I2,.cons r1 r2,q2⟩
abbrev zSm(t:TA):TE:=fun a H Q=>t a H fun xs H1=>xs.length<=sizeLine/\∀ p,H1 p=none->Q (.ref p) (upd H1 p (.tup xs))
abbrev zSh(t:TA):TE:=fun a H Q=>t a H fun xs H1=>xs.length<=sizeLine/\∀ p,H1 p=none->Q (.ref p) (upd H1 p (.lst xs))
def zPj{x1}(h:PA X es t):PE X (.Tuple es x1 pos) (zSm t):=by
 intro Md s a H Q I hq;refine wpAny_Tuple_spliced (thn (h pos Md s a H _ I hq) fun us s1 ⟨xs,H1,I1,r,z,q⟩=>⟨by rw[<-r.length];exact z,?_⟩)
 have hf:H1 s1.heap.objs.size=none:=I1.hok.fresh (Qd _);refine⟨.ref s1.heap.objs.size,upd H1 s1.heap.objs.size (.tup xs),I1.laid (t':=s1.toks) (fun b u e=>Heap.get?_push_of_some _ e) (Qd _) ?_,rfl,q _ hf⟩
 exact⟨z,us,r,⟨_,Heap.get?_push_size _ rfl,rfl,_,rfl⟩⟩
def zOV(h:PA X es t):PE X (.List es pos) (zSh t):=by
 intro Md s a H Q I hq;refine wpAny_List_spliced (thn (h pos Md s a H _ I hq) fun us s1 ⟨xs,H1,I1,r,z,q⟩=>⟨by rw[<-r.length];exact z,?_⟩)
 have hf:H1 s1.heap.objs.size=none:=I1.hok.fresh (Qd _);refine⟨.ref s1.heap.objs.size,upd H1 s1.heap.objs.size (.lst xs),I1.laid (t':=s1.toks) (fun b u e=>Heap.get?_push_of_some _ e) (Qd _) ?_,rfl,q _ hf⟩
 exact⟨z,us,0,r,Heap.get?_push_size _ rfl⟩
end
abbrev Sp:=List V->Hp->VK->XK->Prop
abbrev CXT:=List Env->Hp->Jb->XK->Ja->Jb->Prop
structure Env0 (P:Je) (w:Jf) (K:PySem.W.Frag) (mg:Str->Option Ja) (base:Jd) (A:Jg) (outer:List Env) (s:Jb) (H:Hp):Prop where
 frames:A.frames=some outer
 mod:Mod K mg base
 bs:∀ b o,base.get? b=some o->s.heap.get? b=some o/\H b=none
 bsz:base.objs.size<=s.heap.objs.size
 funs:s.heap.FunFrames base outer
 frf:∀ b∈frs outer,H b=none
 hok:HOk P w H s.heap
 bare:AllBare s.gens
def CE(outer:List Env)(P:Je)(w:Jf)(H:Hp)(s:Jb)(Q:VK)(u:Ja)(s':Jb):Prop:=
 ∃ v H',s'.os=s.os/\AllBare s'.gens/\Un (frs outer) [] H H' s.heap s'.heap/\HOk P w H' s'.heap/\cU v u/\Q v H'
def CR(CX:CXT)(outer:List Env)(P:Je)(w:Jf)(H:Hp)(s:Jb)(Q:VK)(E:XK)(r:Result)(s':Jb):Prop:=
 match r with
 | .ok (.ret u)=>CE outer P w H s Q u s'
 | .ok _=>False
 | .error e=>CX outer H s E e s'
structure FnOk (P:Je) (w:Jf) (K:PySem.W.Frag) (mg:Str->Option Ja) (base:Jd) (CX:CXT) (k:Nat) (f:Jc) (fd:FuncData) (ps:List Str) (sp:Sp):Prop where
 len:∀ vs H Q E,sp vs H Q E->vs.length=ps.length
 run:∀(A:Jg)(outer:List Env)(s:Jb)(H:Hp)(args:Args)(us:List Ja)(vs:List V)(Q:VK)(E:XK),Room k A->Env0 P w K mg base A outer s H->BindsTo s fd args (ps.zip us)->dN vs us->sp vs H Q E->
  codeAny (model P w) A (.call (.ref f) args) (CR CX outer P w H s Q E) s
def FnOk.mono{P:Je}{w:Jf}{K:Fg_}{mg:Str->Option Ja}{base:Jd}{CX:CXT}{j k:Nat}{f:Jc}{fd:FuncData}{ps:List Str}{sp:Sp}(F:FnOk P w K mg base CX j f fd ps sp)(h:j<=k):
  FnOk P w K mg base CX k f fd ps sp:=⟨F.len,fun A outer s H args us vs Q E hr=>F.run A outer s H args us vs Q E (hr.mono h)⟩
def FnOk.imp{P:Je}{w:Jf}{K:Fg_}{mg:Str->Option Ja}{base:Jd}{CX:CXT}{k:Nat}{f:Jc}{fd:FuncData}{ps:List Str}{sp sp':Sp}(F:FnOk P w K mg base CX k f fd ps sp)
  (h:∀ vs H Q E,sp' vs H Q E->sp vs H Q E):FnOk P w K mg base CX k f fd ps sp':=
 ⟨fun vs H Q E q=>F.len vs H Q E (h _ _ _ _ q),fun A outer s H args us vs Q E hr he hb hv hs=>F.run A outer s H args us vs Q E hr he hb hv (h _ _ _ _ hs)⟩
def Env0.in1{P:Je}{w:Jf}{K:Fg_}{mg:Str->Option Ja}{base:Jd}{A:Jg}{outer:List Env}{s:Jb}{H:Hp}(e:Env0 P w K mg base A outer s H):
  Env0 P w K mg base A.in1 outer s H:=⟨e.frames,e.mod,e.bs,e.bsz,e.funs,e.frf,e.hok,e.bare⟩
section
variable{X:Cx}{Md:List (Jc×Obj)}{p:St}{H:Hp}{s s':Jb}
def Inv.env0(I:Inv X Md p H s):Env0 X.prog X.w X.K X.mg X.base X.A X.stack s H:=
 ⟨I.ok.frames,I.ok.mod,I.bs,Qn I.ok.bsz I.sz,I.stack,I.stkFree,I.hok,I.bare⟩
def Inv.after{Q:VK}{u:Ja}(I:Inv X Md p H s)(h:CE X.stack X.prog X.w H s Q u s'):EP X Md p Q u s':=by
 obtain⟨v,H',os,bare,un,hok,r,q⟩:=h;obtain⟨hh,g,d,t,os'⟩:=s';obtain rfl:os'=s.os:=os;exact⟨v,H',I.call (h':=hh) (g':=g) (d':=d) (t':=t) (ch:=[]) un hok bare (fun b z=>absurd z (by simp)),r,q⟩
end
abbrev zMv(sp:Sp)(dvs:List V)(E:XK)(t:TA):TE:=fun r H Q=>t r H fun vs H1=>sp (vs++dvs) H1 Q E
def zBr(K:PySem.W.Frag)(fd:FuncData)(ps:List Str)(ds:List Ja):Prop:=
 ∀(s:Jb)(us:List Ja),K.In s.heap->(us++ds).length=ps.length->BindsTo s fd ⟨us,[]⟩ (ps.zip (us++ds))
def zBr.all{K:Fg_}{fd:FuncData}{ps:List Str}(h:∀ us:List Ja,us.length=ps.length->bindArgs fd ⟨us,[]⟩=pure (ps.zip us)):zBr K fd ps []:=fun s us _ hl=>by
 rw[Vn] at hl ⊢
 exact .of_eq (h us hl)
def zDB(CX:CXT)(X:Cx)(E:XK):Prop:=∀(Md:List (Jc×Obj))(r:St)(H:Hp)(s:Jb)(e:Ja)(s':Jb),Inv X Md r H s->CX X.stack H s E e s'->X.xe e s'
section
variable{X:Cx}{CX:CXT}{k:Nat}{f C:Jc}{fd:FuncData}{ps:List Str}{sp:Sp}{dvs:List V}{ds:List Ja}{E:XK}{x m:Str}{p pos apos:Pos}{e o:Expr}{es:List Expr}{ta:TE}{t:TA}
def zOl{Md:List (Jc×Obj)}{a:St}{H:Hp}{s:Jb}{Q:VK}{us:List Ja}{vs:List V}(F:FnOk X.prog X.w X.K X.mg X.base CX k f fd ps sp)(hr:Room k X.A)(hb:zBr X.K fd ps ds)(hd:dN dvs ds)(hx:zDB CX X E)
  (I:Inv X Md a H s) (r:dN vs us) (h:sp (vs++dvs) H Q E):wpAny (model X.prog X.w) X.A (call (.ref f) us) (EP X Md a Q) X.xe s:=by
 have r2:dN (vs++dvs) (us++ds):=r.append hd;have hl:(us++ds).length=ps.length:=by rw[<-r2.length];exact F.len _ _ _ _ h
 refine Jw (codeAny_mono (F.run X.A X.stack s H ⟨us,[]⟩ (us++ds) (vs++dvs) Q E hr I.env0 (hb s us I.kIn hl) r2 h) fun r s' hq=>?_)
 cases r with
 | error e=>exact hx Md a H s e s' I hq
 | ok fl=>
  cases fl with
  | ret u=>exact I.after hq
  | next=>exact False.elim hq
  | brk=>exact False.elim hq
  | cont=>exact False.elim hq
def zDf(F:FnOk X.prog X.w X.K X.mg X.base CX k f fd ps sp)(hr:Room k X.A)(hg:Gl X x)(hm:X.mg x=some (.ref f))(hk:PySem.W.keepIn X.K (.ref f)=true)(hb:zBr X.K fd ps ds)(hd:dN dvs ds)(hx:zDB CX X E)
  (ha:PA X (e::es) t) (hdb:(x==("__debug__" : Str))=false:=by decide) (he:starEach (e::es) X.env=(false,eval e X.env)::starEach es X.env:=by rfl) (hpl:(backTo pos (starEach es X.env)).any (·.1)=false:=by rfl):
  PE X (.Call (.Name x p) (e::es) [] pos) (zMv sp dvs E t):=by
 intro Md s a H Q I h;refine Jx (tI I hg hm ?_ hdb)
 refine PySem.W.callWith_K (h₀:=X.base) I.ok.mod.kin hk (thn (ha pos Md s a H _ I h) fun us s1 ⟨vs,H1,I1,r,q⟩=>⟨I1.kIn,?_⟩) he hpl
 exact zOl F hr hb hd hx I1 r q
end
structure FnScope (N P:List Str) (sc:Scope):Prop where
 kind:sc.kind=.function
 co:sc.isCoroutine=false
 gen:sc.isGenerator=false
 nd:N.Nodup
 pre:N.take P.length=P
 par:∀ x∈P,sc.names.lookup x=some .local∨sc.names.lookup x=some .cell
 nofree:∀ y∈sc.names,y.2≠.free
def zAs{kindOf:Str->Option NameKind}{x:Str}:∀ {binds:List (Str×Ja)} {m:Str->Option Ja},(∀ v,(x,v)∉binds)->bindL kindOf binds m x=m x
 | [],_,_=>rfl
 | (n,v)::r,m,h=>by
  unfold bindL;rw[zAs fun w hw=>h w (Qc _ hw)];split
  ·have:x≠n:=by rintro rfl;exact h v Qb
   simp[this]
  ·rfl
def zBu{kindOf:Str->Option NameKind}{x:Str}:∀ {binds:List (Str×Ja)} {m:Str->Option Ja},(∀ v,(x,v)∉binds)->bindC kindOf binds m x=m x
 | [],_,_=>rfl
 | (n,v)::r,m,h=>by
  unfold bindC;rw[zBu fun w hw=>h w (Qc _ hw)];split
  ·rfl
  ·have:x≠n:=by rintro rfl;exact h v Qb
   simp[this]
def zAW{kindOf:Str->Option NameKind}{x:Str}{v:Ja}:∀ {P:List Str} {vs:List Ja} {i:Nat} {m:Str->Option Ja},P.Nodup->P[i]?=some x->vs[i]?=some v->kindOf x=some .local->
  bindL kindOf (P.zip vs) m x=some v
 | [],_,_,_,_,h,_,_=>by simp at h
 | _::_,[],_,_,_,_,h,_=>by simp at h
 | p::P,w::vs,0,m,nd,h1,h2,hk=>by
  simp at h1 h2;subst h1;subst h2
  show bindL kindOf ((p,w)::P.zip vs) m p=_
  unfold bindL;rw[zAs fun v hv=>(X4.mp nd).1 (Yn hv).1,Jj hk];simp
 | p::P,w::vs,i+1,m,nd,h1,h2,hk=>by
  show bindL kindOf ((p,w)::P.zip vs) m x=_
  unfold bindL;exact zAW (i:=i) (X4.mp nd).2 (by simpa using h1) (by simpa using h2) hk
def zAH{kindOf:Str->Option NameKind}{x:Str}{v:Ja}:∀ {P:List Str} {vs:List Ja} {i:Nat} {m:Str->Option Ja},P.Nodup->P[i]?=some x->vs[i]?=some v->kindOf x≠some .local->
  bindC kindOf (P.zip vs) m x=some v
 | [],_,_,_,_,h,_,_=>by simp at h
 | _::_,[],_,_,_,_,h,_=>by simp at h
 | p::P,w::vs,0,m,nd,h1,h2,hk=>by
  simp at h1 h2;subst h1;subst h2
  show bindC kindOf ((p,w)::P.zip vs) m p=_
  unfold bindC;rw[zBu fun v hv=>(X4.mp nd).1 (Yn hv).1,Jk hk];simp
 | p::P,w::vs,i+1,m,nd,h1,h2,hk=>by
  show bindC kindOf ((p,w)::P.zip vs) m x=_
  unfold bindC;exact zAH (i:=i) (X4.mp nd).2 (by simpa using h1) (by simpa using h2) hk
def start(N:List Str)(vs:List V):St:=vs.map some++List.replicate (N.length-vs.length) none
def zEo(CX:CXT)(P:Je)(w:Jf)(K:PySem.W.Frag)(mg:Str->Option Ja)(base:Jd)(N:List Str)(qual:Str)(scope:Scope)(f:Jc)(cd:Ja)(A:Jg)(outer:List Env)(s:Jb)(H:Hp)(E:XK):Cx where
 prog:=P
 w:=w
 K:=K
 mg:=mg
 base:=base
 A:=A.deeper (envOfC qual scope s.heap.objs.size f cd)
 N:=N
 s₀:=s
 H₀:=H
 env:=envOfC qual scope s.heap.objs.size f cd
 outer:=outer
 stack:=envOfC qual scope s.heap.objs.size f cd::outer
 ex:=[]
 calm:=true
 fn:=fun _=>true
 pn:=[]
 xe:=fun e s'=>wpAny (model P w) (A.deeper (envOfC qual scope s.heap.objs.size f cd)) (leaving (envOfC qual scope s.heap.objs.size f cd) e) (fun _ s''=>CX outer H s E e s'') (fun e' s''=>CX outer H s E e' s'') s'
def zDt{sc:Scope}{n:Nat}{x:Str}(h:sc.names.lookup x=some .cell):∃ c,(cellsFrom n sc.names []).lookup x=some c:=by
 have q:=W6 sc.names n [] (.inl h);exact W7.mp q
def zHj{CX:CXT}{P:Je}{w:Jf}{K:Fg_}{mg:Str->Option Ja}{base:Jd}{N ps:List Str}{qual:Str}{scope:Scope}{f:Jc}{cd:Ja}{A:Jg}{outer:List Env}{s s1:Jb}{H:Hp}{E:XK}{us:List Ja}{vs:List V}
  (S:FnScope N ps scope) (hd:A.handled=none) (e0:Env0 P w K mg base A outer s H) (hl:vs.length=ps.length) (r:dN vs us)
  (x:InCallC s s.heap.objs.size (bindL (envOfC qual scope s.heap.objs.size f cd).kindOf (ps.zip us) fun _=>none) (cellsFrom (s.heap.objs.size+1) scope.names []) (bindC (envOfC qual scope s.heap.objs.size f cd).kindOf (ps.zip us) fun _=>none) s1):
  Inv (zEo CX P w K mg base N qual scope f cd A outer s H E) [] (start N vs) H s1:=by
 have hpl:ps.length<=N.length:=by have:=congrArg List.length S.pre;rw[Xb] at this;omega
 obtain⟨h1,tk,rfl,hk⟩:=x.done;have noA:∀ b:Jc,b∉(zEo CX P w K mg base N qual scope f cd A outer s H E).ex:=fun b z=>absurd (show b∈([]:List Jc) from z) (by simp)
 refine⟨⟨e0.mod,S.kind,rfl,rfl,Qd _,fun y z c h1 h2=>?_,fun y hy=>?_,fun y c _ h=>?_,fun _=>hd,Around.frames_deeper e0.frames,.inr ⟨rfl,rfl⟩,fun b z=>absurd z (noA b),e0.bs,e0.bsz,fun b _ _=>noA b,fun b z=>absurd z (noA b),e0.funs,e0.frf⟩,
  rfl,e0.bare,Un.kept hk,⟨_,x.toInCall.ns,fun i y v h1 h2 h3=>?_⟩,fun y c h=>⟨_,x.cell y c h⟩,e0.hok.fresh (Qd _),fun y c h=>?_,fun p hp=>absurd (show p∈([]:List (Jc×Obj)) from hp) (by simp),e0.hok.kept hk,?_⟩
 ·exact name_of_addr x.apart (Xp h1) (Xp h2)
 ·have hy:scope.names.lookup y=some .cell∨scope.names.lookup y=some .free:=hy
  rcases hy with hy | hy
  ·exact zDt hy
  ·exact absurd rfl (S.nofree _ (Xp hy))
 ·exact X2 (x.above y c (Xp h))
 ·have hi:i<vs.length:=by
   unfold start at h2;by_cases hi:i<vs.length
   ·exact hi
   ·rw[Vu (by simpa using hi)] at h2
    rw[Uz] at h2;split at h2<;>cases h2
  have ha:vs[i]?=some v:=by
   unfold start at h2;rw[Vk (by simpa using hi),Qr] at h2
   cases e:vs[i]? with
   | none=>rw[e] at h2;cases h2
   | some a=>rw[e] at h2;cases h2;rfl
  obtain⟨u,hu,rv⟩:=r.get ha
  have hp:ps[i]?=some y:=by
   rw[<-S.pre,List.getElem?_take_of_lt (by omega)];exact h1
  have ndP:ps.Nodup:=by rw[<-S.pre];exact S.nd.sublist (List.take_sublist _ _)
  refine⟨u,rv,?_⟩
  rcases S.par y (Qg hp) with k | k
  ·exact .inl ⟨k,zAW ndP hp hu k⟩
  ·obtain⟨c,e⟩:=zDt (n:=s.heap.objs.size+1) k
   refine .inr ⟨.inl k,c,e,?_⟩
   have q:=x.cell y c e;rw[zAH ndP hp hu (by show scope.names.lookup y≠_;rw[k];decide)] at q;exact q
 ·exact e0.hok.fresh (X2 (x.above y c (Xp h)))
 ·unfold start
  show _=N.length
  rw[Qi,Qf,X5];omega
def zOH{CX:CXT}{P:Je}{w:Jf}{K:Fg_}{mg:Str->Option Ja}{base:Jd}{k:Nat}{f:Jc}{name qual:Str}{params:Arguments}{body:List Jh}{scope:Scope}{dV kV doc pm cdv ct oc:Ja}{an od:Option Jc}
  {osl:Array (Option Ja)} {N ps:List Str} {sp:Sp} (lk:K.lookup f=some ⟨oc,od,.func (PySem.W.fnOf name qual params body scope dV kV doc pm an cdv ct),osl⟩) (hcd:PySem.W.codeIn K cdv qual=true) (S:FnScope N ps scope)
  (len:∀ vs H Q E,sp vs H Q E->vs.length=ps.length)
  (hbody:∀(A:Jg)(outer:List Env)(s:Jb)(H:Hp)(vs:List V)(Q:VK)(E:XK),Room k (A.deeper (envOfC qual scope s.heap.objs.size f cdv))->sp vs H Q E->
   ∃ t,PSs (zEo CX P w K mg base N qual scope f cdv A outer s H E) body t/\t { nx:=fun _ H'=>Q .non H',rt:=Q } (start N vs) H):
  FnOk P w K mg base CX (k+1) f (PySem.W.fnOf name qual params body scope dV kV doc pm an cdv ct) ps sp:=by
 refine⟨len,fun A outer s H args us vs Q E hr e0 hb r hsp=>?_⟩
 have hl:=len _ _ _ _ hsp;have KX:K.In s.heap:=e0.mod.kin.keeps fun b o e=>(e0.bs b o e).1
 have lim:s.heap.NoLimit:=e0.mod.nolimit.keeps fun b o e=>(e0.bs b o e).1
 have hkind:∀ y∈ps.zip us,scope.names.lookup y.1=some .local∨(scope.names.lookup y.1=some .cell/\((cellsFrom (s.heap.objs.size+1) scope.names []).lookup y.1).isSome=true):=fun ⟨n,v⟩ hy=>by
  rcases S.par n (Yn hy).1 with q | q
  ·exact .inl q
  ·exact .inr ⟨q,W6 _ _ _ (.inl q)⟩
 refine codeAny_call_function hr.depth (KX _ _ lk) rfl S.co S.gen rfl (PySem.W.codeRec_of KX hcd) (hb _ _ _ _ ?_)
 refine wpAny_newFunctionEnv_cells S.kind hkind fun env he s1 x=>?_
 subst he;refine⟨lim.keeps x.toInCall.keep,codeAny_func ?_⟩
 obtain⟨t,ht,hq⟩:=hbody A outer s H vs Q E (hr.deeper _) hsp;have I:Inv (zEo CX P w K mg base N qual scope f cdv A outer s H E) [] (start N vs) H s1:=zHj S hr.hd e0 hl r x;refine wpAny_mono (ht [] s1 (start N vs) H _ I hq) (fun fl s' hs=>?_) fun e s' hs=>hs
 have fin:∀ {r':St} {H':Hp} {v:V} {u:Ja},Inv (zEo CX P w K mg base N qual scope f cdv A outer s H E) [] r' H' s'->cU v u->Q v H'->CE outer P w H s Q u s':=
  fun {r' H' v u} J rv q=>⟨v,H',J.os,J.bare,J.base,J.hok,rv,q⟩
 cases fl with
 | ret u=>
  obtain⟨v,r',H',J,rv,q⟩:=hs;exact fin J rv q
 | next=>
  obtain⟨r',H',J,q⟩:=hs;exact fin (v:=V.non) (u:=Value.none) J rfl q
 | brk=>
  obtain⟨_,_,_,q⟩:=hs;exact False.elim q
 | cont=>
  obtain⟨_,_,_,q⟩:=hs;exact False.elim q
section
variable{X:Cx}{x:Str}{p pos:Pos}{e:Expr}{es:List Expr}{t:TA}{id T:String}{r:List V->Hp->VK->Prop}
abbrev tCB(r:List V->Hp->VK->Prop)(t:TA):TE:=fun a H Q=>t a H fun vs H1=>r vs H1 Q
def zDM(hc:vH X (.builtin id) r)(hg:Gl X x)(hm:X.mg x=none)(hv:bootBuiltins x=some (.builtin id))(ha:PA X (e::es) t)(hn:x ≠ "__name__" := by decide)(hdb:(x==("__debug__" : Str))=false:=by decide)
  (he:starEach (e::es) X.env=(false,eval e X.env)::starEach es X.env:=by rfl) (hpl:(backTo pos (starEach es X.env)).any (·.1)=false:=by rfl):PE X (.Call (.Name x p) (e::es) [] pos) (tCB r t):=by
 intro Md s a H Q I h;refine Jx (oW I hg hm hv ?_ hn hdb)
 exact PyProof.Rows.callWith_builtin1 (thn (ha pos Md s a H _ I h) fun us s1 ⟨vs,H1,I1,r1,q1⟩=>hc Md s1 a H1 vs us Q I1 r1 q1) he hpl
def zBo(hc:vH X (.type T) r)(hg:Gl X x)(hm:X.mg x=none)(hv:bootBuiltins x=some (.type T))(ha:PA X (e::es) t)(hn:x ≠ "__name__" := by decide)(hdb:(x==("__debug__" : Str))=false:=by decide)
  (he:starEach (e::es) X.env=(false,eval e X.env)::starEach es X.env:=by rfl) (hpl:(backTo pos (starEach es X.env)).any (·.1)=false:=by rfl):PE X (.Call (.Name x p) (e::es) [] pos) (tCB r t):=by
 intro Md s a H Q I h;refine Jx (oW I hg hm hv ?_ hn hdb)
 exact Ym (thn (ha pos Md s a H _ I h) fun us s1 ⟨vs,H1,I1,r1,q1⟩=>hc Md s1 a H1 vs us Q I1 r1 q1) he hpl
end
end L2
namespace HT
open PySem PyProof.Rows
section
open PySem.SeqAt
open PySem.AutoSeq1 (wpAny_loadPart')
open PySem.MeetsSeq PySem.MeetsSeq2 PySem.MeetsSeq3
end
section
variable{prog:Je}{w:Jf}{A:Jg}{E:Ja->Jb->Prop}{s:Jb}
def cat_tup{t b:Jc}{vs ws:List Ja}{Q:Ja->Jb->Prop}(ht:IsTup s.heap t vs.toArray)(hb:IsTup s.heap b ws.toArray)(hv:vs≠[])
  (h1:ws=[]->Q (.ref t) s) (h2:ws≠[]->Q (.ref s.heap.objs.size) { s with heap:=s.heap.push { cls:=.type "tuple", data:=.seq (vs++ws).toArray } })
  (hsz:vs.length+ws.length<=sizeLine):wpAny (model prog w) A (binaryOp .Add (.ref t) (.ref b)) Q E s:=by
 obtain⟨⟨cls,dd,data,sl⟩,ho,hc,n,hd⟩:=id ht;obtain⟨⟨cls2,dd2,data2,sl2⟩,ho2,hc2,n2,hd2⟩:=id hb;simp only at hc hd hc2 hd2
 subst hc hd hc2 hd2;have e:vs.toArray++ws.toArray=(vs++ws).toArray:=by simp
 by_cases hw:ws=[]
 ·exact Jy ⟨_,ho,rfl⟩ ⟨_,ho2,rfl⟩ Jz J0 U0 U1 (U2 _ _)
   (tuple_addW1 t b vs.toArray ws.toArray n n2 dd dd2 sl sl2 (by simpa using hv) (by simp[hw])) ⟨ho,ho2,h1 hw⟩
 ·refine Jy ⟨_,ho,rfl⟩ ⟨_,ho2,rfl⟩ Jz J0 U0 U1 (U2 _ _)
   (tuple_addW2 t b vs.toArray ws.toArray n n2 dd dd2 sl sl2 (by simpa using hv) (by simpa using hw) (by rw[Qh,Qh];exact hsz)) ⟨ho,ho2,?_⟩
  rw[e];exact h2 hw
def sIx(n d:Nat):Option Int->Nat
 | none=>d
 | some v=>if v<0 then (v+(n:Int)).toNat else min v.toNat n
def zPb(n d:Nat)(hd:d<=n)(o:Option Int):sIx n d o<=n:=by
 cases o with
 | none=>exact hd
 | some v=>
  show(if v<0 then (v+(n:Int)).toNat else min v.toNat n)<=n
  by_cases hv:v<0
  ·rw[Jj hv];omega
  ·rw[Jk hv];exact Nat.min_le_right _ _
def zGd(v:Int)(n d:Nat):(if v<0 then max (v+(n:Int)) 0 else min v (n:Int))=((sIx n d (some v):Nat):Int):=by
 show(if v<0 then max (v+(n:Int)) 0 else min v (n:Int))=(((if v<0 then (v+(n:Int)).toNat else min v.toNat n):Nat):Int)
 by_cases hv:v<0
 ·simp only[Jj hv];omega
 ·simp only[Jk hv];omega
def zFc(lo hi:Option Int)(n:Nat):Builtin.Slice.sliceAdjust lo hi 1 (n:Int)=(((sIx n 0 lo:Nat):Int),((sIx n n hi:Nat):Int)):=by
 have h1:¬ ((1:Int)<0):=by omega
 unfold Builtin.Slice.sliceAdjust;simp only[h1,if_false];refine Prod.ext ?_ ?_
 ·cases lo with
  | none=>rfl
  | some v=>exact zGd v n 0
 ·cases hi with
  | none=>rfl
  | some v=>exact zGd v n n
def zEW(i j:Nat):Builtin.Slice.slicePlaces (i:Int) (j:Int) 1=j-i:=by
 unfold Builtin.Slice.slicePlaces;have h1:(1:Int) > 0:=by omega
 simp only[h1,if_true,Int.ediv_one];split<;>omega
def wP{v:Ja}{o:Option Int}{Q:Option Int->Jb->Prop}(p:IsPart v o)(h:Q o s):wpAny (model prog w) A (Builtin.Slice.slicePartIndex v) Q E s:=by
 cases p with
 | none=>exact slicePart_none h
 | int i t=>exact slicePart_int h
def sliceApplied_gen{sl:Jc}{vl vu:Ja}{lo hi:Option Int}{n:Nat}{Q:Int×Int×Nat->Jb->Prop}(hs:s.heap.IsSliceOf sl vl vu .none)(pl:IsPart vl lo)(pu:IsPart vu hi)
  (h:Q (((sIx n 0 lo:Nat):Int),1,sIx n n hi-sIx n 0 lo) s):wpAny (model prog w) A (Builtin.Slice.sliceApplied (.ref sl) (pure (n:Int))) Q E s:=by
 obtain⟨os,hos,hcs,hds⟩:=id hs;unfold Builtin.Slice.sliceApplied Builtin.Slice.sliceFields;refine Jq (Jq (wpAny_field hos hds (x:=vl) rfl (Jq (wpAny_field hos hds (x:=vu) rfl (Jq (wpAny_field hos hds (x:=.none) rfl (Jt ?_)))))))
 refine Jq (slicePart_none ?_)
 show wpAny _ _ (if ((1:Int)==0)=true then _ else _) _ _ s
 rw[Jk (by decide)];refine Jq (wP pl (Jq (wP pu (Jq (Jt ?_)))))
 show wpAny _ _ (match Builtin.Slice.sliceAdjust lo hi 1 (n:Int) with | (lo,hi)=>pure (lo,(1:Int),Builtin.Slice.slicePlaces lo hi 1)) _ _ s
 rw[zFc lo hi n];show wpAny _ _ (pure (((sIx n 0 lo:Nat):Int),(1:Int),Builtin.Slice.slicePlaces ((sIx n 0 lo:Nat):Int) ((sIx n n hi:Nat):Int) 1)) _ _ s
 rw[zEW];exact Jt h
def zJl(xs:Array Ja)(i k:Nat):((List.range k).filterMap fun(m:Nat)=>xs[((i:Int)+(m:Int)*1).toNat]?).toArray=((xs.toList.drop i).take k).toArray:=by
 have e:(fun(m:Nat)=>xs[((i:Int)+(m:Int)*1).toNat]?)=fun m=>xs[i+m]?:=by
  funext m
  have:((i:Int)+(m:Int)*1).toNat=i+m:=by omega
  rw[this]
 rw[e];have:=pick_run xs i k
 rw[List.filterMap_map] at this;have e2:((fun x=>xs[x]?) ∘ fun x=>i+x)=fun m=>xs[i+m]?:=rfl
 rw[e2] at this;rw[this]
def getItem_tuple_cut{t sl:Jc}{items:Array Ja}{vl vu:Ja}{lo hi:Option Int}{Q:Ja->Jb->Prop}(ht:IsTup s.heap t items)(hs:s.heap.IsSliceOf sl vl vu .none)(pl:IsPart vl lo)(pu:IsPart vu hi)
  (hw:¬ (sIx items.size 0 lo=0/\sIx items.size items.size hi=items.size))
  (h:Q (.ref s.heap.objs.size) { s with heap:=s.heap.push { cls:=.type "tuple", data:=.seq ((items.toList.drop (sIx items.size 0 lo)).take (sIx items.size items.size hi-sIx items.size 0 lo)).toArray } })
  (hsz:items.size<=sizeLine):wpAny (model prog w) A (getItem (.ref t) (.ref sl)) Q E s:=by
 have htake:sizeOk (.seq ((items.toList.drop (sIx items.size 0 lo)).take (sIx items.size items.size hi-sIx items.size 0 lo)).toArray):=by
  show((items.toList.drop (sIx items.size 0 lo)).take (sIx items.size items.size hi-sIx items.size 0 lo)).toArray.size<=sizeLine
  rw[Qh,Xb,Vo,Xo];omega
 have hj:sIx items.size items.size hi<=items.size:=zPb _ _ (Qd _) hi;obtain⟨os,hos,hcs,hds⟩:=id hs;have hTs:s.TypeIs (.ref sl) "slice" := ⟨os,hos,hcs⟩;unfold getItem;try with_reducible refine wpAny_holding ?_
 first | refine Jq (Jt ?_) | skip
 refine Jq (wpAny_sequenceKey ht.typeIs (by decide) ?_)
 refine Jq (wpAny_callSpecial?_slot (name:=Str.ofString "__getitem__") ht.typeIs Y7
  (wpAny_call_entry Y7 ht.typeIs J1 ?_ (args_tuple_getitem _ _)))
 show wpAny _ _ (Builtin.Tuple.tupleItemsOf (.ref t) >>= _) _ _ s
 refine Jq (tupleItemsOf_ ht ?_)
 refine Jq (wpAny_typeOf hTs ?_)
 rw[Jj (by decide)];refine Jq (sliceApplied_gen hs pl pu ?_)
 have hno:¬ ((((sIx items.size 0 lo:Nat):Int)==0 && (1:Int)==1 && (sIx items.size items.size hi-sIx items.size 0 lo)==items.size)=true):=by
  intro q;rw[Vh,Vh] at q;have q1:((sIx items.size 0 lo:Nat):Int)=0:=eq_of_beq q.1.1;have q2:sIx items.size items.size hi-sIx items.size 0 lo=items.size:=eq_of_beq q.2;exact hw ⟨by omega,by omega⟩
 show wpAny _ _ (if (((sIx items.size 0 lo:Nat):Int)==0 && (1:Int)==1 && (sIx items.size items.size hi-sIx items.size 0 lo)==items.size)=true then _ else _) _ _ s
 rw[Jk hno,zJl]
 first
  | exact Jq (m:=Builtin.Tuple.tupleExact _) (wpAny_newObj_type (Jt ⟨_,rfl,Jt h⟩) htake)
  | exact Jq (m:=Builtin.Tuple.tupleExact _) (wpAny_newObj_type (Jq (Jt (Jt ⟨_,rfl,Jt h⟩))) htake)
  | exact Jq (Jq (m:=Builtin.Tuple.tupleExact _) (wpAny_newObj_type (Jt (Jt ⟨_,rfl,Jt h⟩)) htake))
  | exact Jq (Jq (m:=Builtin.Tuple.tupleExact _) (wpAny_newObj_type (Jt ⟨_,rfl,Jt h⟩) htake))
end
end HT
namespace L2
open PySem PySem.Spec PyProof.Rows
local macro_rules | `(⋯)=>`(by omega)
abbrev TO:=St->Hp->(Option Int->Hp->Prop)->Prop
def PO(X:Cx)(e:Option Expr)(t:TO):Prop:=
 ∀(Md:List (Jc×Obj))(s:Jb)(r:St)(H:Hp)(Q:Option Int->Hp->Prop),Inv X Md r H s->t r H Q->
  wpAny (model X.prog X.w) X.A (evalPart e X.env) (fun u s'=>∃ o H',Inv X Md r H' s'/\IsPart u o/\Q o H') X.xe s
abbrev zLG:TO:=fun _ H Q=>Q none H
abbrev zRn(t:TE):TO:=fun r H Q=>t r H fun x H1=>∃ i,x=.int i/\Q (some i) H1
section
variable{X:Cx}{e:Expr}{te:TE}{lo hi:Option Expr}{tl th:TO}{pos p2:Pos}
def zMi:PO X none zLG:=by
 intro Md s c H Q I h;rw[evalPart_none];exact Jt ⟨none,H,I,.none,h⟩
def zMs(h:PE X e te):PO X (some e) (zRn te):=by
 intro Md s c H Q I hw;rw[evalPart_some];refine thn (h Md s c H _ I hw) fun u s1 ⟨x,H1,I1,r1,q1⟩=>?_
 obtain⟨i,rfl,q⟩:=q1;obtain⟨t,rfl⟩:=r1;exact⟨some i,H1,I1,.int i t,q⟩
def SlR(X:Cx)(r:V->Option Int->Option Int->Hp->VK->Prop):Prop:=
 ∀(Md:List (Jc×Obj))(s:Jb)(c:St)(H:Hp)(x:V)(v vl vu:Ja)(lo hi:Option Int)(sl:Jc)(Q:VK),Inv X Md c H s->cU x v->s.heap.IsSliceOf sl vl vu .none->IsPart vl lo->IsPart vu hi->r x lo hi H Q->
  ∃ T id,typeLookup (.type T) "__getitem__" = pure (some (.builtin id))/\s.TypeIs v T/\wpAny (model X.prog X.w) X.A (getItem v (.ref sl)) (EP X Md c Q) X.xe s
def SlR.or{r r':V->Option Int->Option Int->Hp->VK->Prop}(h:SlR X r)(h':SlR X r'):SlR X (fun x lo hi H Q=>r x lo hi H Q∨r' x lo hi H Q):=by
 intro Md s c H x v vl vu lo hi sl Q I rx hs pl pu q;rcases q with q | q
 ·exact h Md s c H x v vl vu lo hi sl Q I rx hs pl pu q
 ·exact h' Md s c H x v vl vu lo hi sl Q I rx hs pl pu q
abbrev tSl(r:V->Option Int->Option Int->Hp->VK->Prop)(te:TE)(tl th:TO):TE:=fun c H Q=>te c H fun x H1=>tl c H1 fun l H2=>th c H2 fun u H3=>r x l u H3 Q
def zDX{r:V->Option Int->Option Int->Hp->VK->Prop}(hr:SlR X r)(he:PE X e te)(hl:PO X lo tl)(hu:PO X hi th):PE X (.Subscript e (.Slice lo hi none p2) pos) (tSl r te tl th):=by
 intro Md s c H Q I h;refine Subscript_ (thn (he Md s c H _ I h) fun v s1 ⟨x,H1,I1,r1,q1⟩=>?_)
 refine wpAny_Slice (thn (hl Md s1 c H1 _ I1 q1) fun vl s2 ⟨l,H2,I2,pl,q2⟩=>thn (hu Md s2 c H2 _ I2 q2) fun vu s3 ⟨u,H3,I3,pu,q3⟩=>?_)
 rw[evalPart_none];refine Jt ?_
 have I4:Inv X Md c H3 { s3 with heap:=s3.heap.push { cls:=.type "slice", data:=.fields #[vl,vu,.none] } }:=I3.kept (t':=s3.toks) fun b ob q=>Heap.get?_push_of_some _ q
 obtain⟨T,id,hT,ht,hg⟩:=hr Md { s3 with heap:=s3.heap.push { cls:=.type "slice", data:=.fields #[vl,vu,.none] } } c H3 x v vl vu l u s3.heap.objs.size Q I4 r1 (Heap.IsSliceOf.new ..) pl pu q3;show wpAny (model X.prog X.w) X.A (subscriptTail e (.Slice lo hi none p2) v (.ref s3.heap.objs.size)) (EP X Md c Q) X.xe { s3 with heap:=s3.heap.push { cls:=.type "slice", data:=.fields #[vl,vu,.none] } }
 exact tail_any (ops:=[.ref s3.heap.objs.size,v]) ht hT hg (by with_unfolding_all rfl)
def zIB(xs:List V)(lo hi:Option Int):List V:=(xs.drop (HT.sIx xs.length 0 lo)).take (HT.sIx xs.length xs.length hi-HT.sIx xs.length 0 lo)
def uX(xs:List V)(lo hi:Option Int):(zIB xs lo hi).length<=xs.length:=by
 unfold zIB;rw[Xb,Vo];omega
def zSa(K:PySem.W.Frag):V->Option Int->Option Int->Hp->VK->Prop:=fun x lo hi H Q=>∃ a xs,x=.ref a/\SqT K H a xs/\
 ¬ (HT.sIx xs.length 0 lo=0/\HT.sIx xs.length xs.length hi=xs.length)/\∀ p,H p=none->Q (.ref p) (upd H p (.tup (zIB xs lo hi)))
def zOX:SlR X (zSa X.K):=by
 intro Md s c H x v vl vu lo hi sl Q I rx hs pl pu h;obtain⟨a,xs,rfl,hx,hw,q⟩:=h;cases rx;obtain⟨its,r,ht,hz⟩:=I.tuple hx;have hlen:its.toArray.size=xs.length:=by rw[Qh];exact r.length.symm
 refine⟨"tuple", _,PyProof.Rows.slot_tuple_getitem.lookup,ht.typeIs,?_⟩
 refine HT.getItem_tuple_cut ht hs pl pu (by rw[hlen];exact hw) ?_ (by rw[hlen];exact hz)
 rw[hlen];refine⟨.ref s.heap.objs.size,_,I.laid (t':=s.toks) (o:=.tup (zIB xs lo hi)) (fun b ob q=>Heap.get?_push_of_some _ q) (Qd _) ?_,rfl,q _ (I.hok.fresh (Qd _))⟩
 exact⟨Qn (uX xs lo hi) hz,_,(r.drop (HT.sIx xs.length 0 lo)).take (HT.sIx xs.length xs.length hi-HT.sIx xs.length 0 lo),IsTup.new _ _⟩
def zPd(K:PySem.W.Frag):R2:=fun x y H Q=>∃ a b xs ys,x=.ref a/\y=.ref b/\SqT K H a xs/\SqT K H b ys/\xs≠[]/\xs.length+ys.length<=sizeLine/\
 (ys=[]->Q (.ref a) H)/\(ys≠[]->∀ p,H p=none->Q (.ref p) (upd H p (.tup (xs++ys))))
def dN.nil_iff{xs:List V}{us:List Ja}(r:dN xs us):us=[] ↔ xs=[]:=by
 cases r with
 | nil=>simp
 | cons _ _=>simp
def zLN:OpR X (binaryOp .Add) (zPd X.K):=by
 intro Md s c H x y v u Q I rx ry h;obtain⟨a,b,xs,ys,rfl,rfl,ha,hb,hx,hz,q1,q2⟩:=h;cases rx;cases ry;obtain⟨its,r1,p1,_⟩:=I.tuple ha;obtain⟨its2,r2,p2,_⟩:=I.tuple hb;refine HT.cat_tup p1 p2 (fun z=>hx (r1.nil_iff.mp z)) (fun z=>⟨.ref a,H,I,rfl,q1 (r2.nil_iff.mp z)⟩) (fun z=>?_) (by rw[<-r1.length,<-r2.length];exact hz)
 refine⟨.ref s.heap.objs.size,_,I.laid (t':=s.toks) (o:=.tup (xs++ys)) (fun b ob q=>Heap.get?_push_of_some _ q) (Qd _) ?_,rfl,q2 (fun w=>z (r2.nil_iff.mpr w)) _ (I.hok.fresh (Qd _))⟩
 exact⟨by rw[Qi];exact hz,_,r1.append r2,IsTup.new _ _⟩
end
def ixN(n:Nat)(i:Int):Option Nat:=if 0<=i then (if i<n then some i.toNat else none) else if -(n:Int)<=i then some (i+n).toNat else none
def atI{r:Type}(xs:List r)(i:Int):Option r:=(ixN xs.length i).bind fun j=>xs[j]?
def zFm{n:Nat}{i:Int}{j:Nat}(h:ixN n i=some j):seqIndex? i n=some j/\j<n/\-(n:Int)<=i/\i<n:=by
 unfold ixN at h;by_cases h0:0<=i
 ·rw[Jj h0] at h
  by_cases h1:i<n
  ·rw[Jj h1] at h
   have e:i.toNat=j:=Vd h;exact⟨by rw[J2 h0 h1,e],by omega,by omega,h1⟩
  ·rw[Jk h1] at h;cases h
 ·rw[Jk h0] at h
  by_cases h1:-(n:Int)<=i
  ·rw[Jj h1] at h
   have e:(i+n).toNat=j:=Vd h;exact⟨by rw[J3 ⋯ h1,e],by omega,h1,by omega⟩
  ·rw[Jk h1] at h;cases h
def zHT{r:Type}{xs:List r}{i:Int}{v:r}(h:atI xs i=some v):∃ j,seqIndex? i xs.length=some j/\xs[j]?=some v/\j<xs.length/\-(xs.length:Int)<=i/\i<xs.length:=by
 unfold atI at h
 cases e:ixN xs.length i with
 | none=>rw[e] at h;cases h
 | some j=>
  rw[e] at h;obtain⟨h1,h2,h3,h4⟩:=zFm e;exact⟨j,h1,h,h2,h3,h4⟩
def zCw{r:Type}{xs:List r}{j:Nat}{v:r}(h:xs[j]?=some v):atI xs (j:Int)=some v:=by
 have hj:j<xs.length:=(Ve.mp h).1
 have e:ixN xs.length (j:Int)=some j:=by
  unfold ixN;rw[Jj ⋯,Jj ⋯];simp
 unfold atI;rw[e];exact h
def zBY(b:Expr):Prop:=∀ o i,subscripted b false o i=operate [o,i] (getItem o i)
def IxR(X:Cx)(r:R2):Prop:=
 ∀(value slice:Expr)(Md:List (Jc×Obj))(s:Jb)(p:St)(H:Hp)(x y:V)(v u:Ja)(Q:VK),Inv X Md p H s->cU x v->cU y u->r x y H Q->
  subscripted slice false v u=operate [v,u] (getItem v u)->wpAny (model X.prog X.w) X.A (subscriptTail value slice v u) (EP X Md p Q) X.xe s
def MtR(X:Cx)(id:String)(r:V->List V->Hp->VK->Prop):Prop:=
 ∀(Md:List (Jc×Obj))(s:Jb)(p:St)(H:Hp)(x:V)(xs:List V)(v:Ja)(us:List Ja)(Q:VK),Inv X Md p H s->cU x v->dN xs us->r x xs H Q->
  wpAny (model X.prog X.w) X.A (call (.builtin id) (v::us)) (EP X Md p Q) X.xe s
section
variable{X:Cx}{a b:Expr}{ta tb:TE}{pos:Pos}
def IxR.or{r r':R2}(h:IxR X r)(h':IxR X r'):IxR X (fun x y H Q=>r x y H Q∨r' x y H Q):=by
 intro value slice Md s d H x y v u Q I rx ry q hs;rcases q with q | q
 ·exact h value slice Md s d H x y v u Q I rx ry q hs
 ·exact h' value slice Md s d H x y v u Q I rx ry q hs
def zFg{r:R2}(hr:IxR X r)(ha:PE X a ta)(hb:PE X b tb)(hs:zBY b):PE X (.Subscript a b pos) (tOp r ta tb):=by
 intro Md s d H Q I h;exact Subscript_ (zQW ha hb I h fun v u s2 x y H2 I2 rx ry q=>hr a b Md s2 d H2 x y v u Q I2 rx ry q (hs _ _))
def zQo(K:PySem.W.Frag):R2:=fun x y H Q=>∃ p xs i v,x=.ref p/\y=.int i/\SqL K H p xs/\atI xs i=some v/\Q v H
def zQl(K:PySem.W.Frag):R2:=fun x y H Q=>∃ p xs i v,x=.ref p/\y=.int i/\SqT K H p xs/\atI xs i=some v/\Q v H
def zMw:IxR X (zQo X.K):=by
 intro value slice Md s d H x y v u Q I rx ry h hs;obtain⟨p,xs,i,z,rfl,rfl,hq,he,q⟩:=h;cases rx;obtain⟨t,rfl⟩:=ry;obtain⟨its,r,pl,hz⟩:=I.list hq;obtain⟨j,h1,h2,h3,h4,h5⟩:=zHT he;obtain⟨w,ew,rw'⟩:=r.get h2;have hl:=r.length;have hn:=zDV;have fin:EP X Md d Q w s:=⟨z,H,I,rw',q⟩;by_cases h0:0<=i
 ·have hj:i.toNat=j:=by
   rw[J2 h0 h5] at h1;exact Vd h1
  exact item_listR pl.isList h0 ⋯ (by rw[hj];simpa using ew) fin hs
 ·have hj:(i+(its.toArray.size:Int)).toNat=j:=by
   rw[J3 ⋯ h4] at h1;rw[Qh,<-hl];exact Vd h1
  exact J4 (x:=w) pl.isList.typeIs slot_list_getitem.lookup
   (wpAny_getItem_list_neg (Q:=fun r s'=>r=w/\EP X Md d Q r s') pl.isList ⋯ (by rw[Qh]<;>omega) ⋯ (by rw[hj];simpa using ew) ⟨rfl,fin⟩) hs
def zPl:IxR X (zQl X.K):=by
 intro value slice Md s d H x y v u Q I rx ry h hs;obtain⟨p,xs,i,z,rfl,rfl,hq,he,q⟩:=h;cases rx;obtain⟨t,rfl⟩:=ry;obtain⟨its,r,pl,hz⟩:=I.tuple hq;obtain⟨j,h1,h2,h3,h4,h5⟩:=zHT he;obtain⟨w,ew,rw'⟩:=r.get h2;have hl:=r.length;have hn:=zDV;have fin:EP X Md d Q w s:=⟨z,H,I,rw',q⟩
 exact J4 (x:=w) pl.typeIs slot_tuple_getitem.lookup
  (getItem_tuple (j:=j) (Q:=fun r s'=>r=w/\EP X Md d Q r s') pl ⋯ ⋯ (by rw[Qh,<-hl];exact h1) (by simpa using ew) ⟨rfl,fin⟩) hs
def zEQ(its:List Ja)(n j:Nat)(u:Ja):Obj.mapSeq (·.setIfInBounds j u) { cls:=.type "list", data:=.seq its.toArray n }={ cls:=.type "list", data:=.seq (its.set j u).toArray n }:=by
 simp[Obj.mapSeq]
def Inv.lst{Md:List (Jc×Obj)}{d:St}{H:Hp}{s:Jb}{p:Jc}{xs:List V}(I:Inv X Md d H s)(h:H p=some (.lst xs)):
  ∃(its:List Ja)(n:Nat),dN xs its/\s.heap.get? p=some { cls:=.type "list", data:=.seq its.toArray n }/\xs.length<=sizeLine:=by
 obtain⟨z,its,n,r,e⟩:=I.hok p _ h;exact⟨its,n,r,e,z⟩
def Inv.lstUpd{Md:List (Jc×Obj)}{d:St}{H:Hp}{s:Jb}{p:Jc}{xs ys:List V}{its its':List Ja}{n n':Nat}{f:Obj->Obj}(I:Inv X Md d H s)(h:H p=some (.lst xs))
  (ho:s.heap.get? p=some { cls:=.type "list", data:=.seq its.toArray n }) (hf:f { cls:=.type "list", data:=.seq its.toArray n }={ cls:=.type "list", data:=.seq its'.toArray n' }) (r:dN ys its') (hz:ys.length<=sizeLine) (t:Nat):
  Inv X Md d (upd H p (.lst ys)) { s with heap:=s.heap.update p f,toks:=t }:=by
 have e:(s.heap.update p f).get? p=some { cls:=.type "list", data:=.seq its'.toArray n' }:=by
  rw[Heap.get?_update_self f ho (by rw[hf]<;>rfl),hf]
 refine I.write (x:=p) (e:=p) (by rw[h];trivial) (.inl rfl) (fun b u hb q=>(Heap.get?_update_other _ _ (Ne.symm hb)).trans q) ⟨_,e⟩ ?_
 exact⟨hz,its',n',r,e⟩
def zQy:V->V->V->Hp->(Hp->Prop)->Prop:=fun o i v H Q=>∃ p xs k j,o=.ref p/\i=.int k/\H p=some (.lst xs)/\ixN xs.length k=some j/\Q (upd H p (.lst (xs.set j v)))
def zIQ:zRL X zQy:=by
 intro Md s d H o i v ov iv u Q I ro ri rv h;obtain⟨p,xs,k,j,rfl,rfl,hp,hj,q⟩:=h;cases ro;obtain⟨t,rfl⟩:=ri;obtain⟨its,n,r,ho,hz⟩:=I.lst hp;obtain⟨h1,h2,h3,h4⟩:=zFm hj;have hl:=r.length;have hn:=zDV
 have I':Inv X Md d (upd H p (.lst (xs.set j v))) { s with heap:=s.heap.update p (Obj.mapSeq (·.setIfInBounds j u)) }:=
  I.lstUpd hp ho (zEQ its n j u) (r.set rv j) (by rw[Vf];exact hz) s.toks
 by_cases h0:0<=k
 ·have hk:k.toNat=j:=by
   rw[J2 h0 h4] at h1;exact Vd h1
  exact PySem.W.ki_setAt ho h0 ⋯ (by rw[Qh,<-hl];exact h4) (by rw[hk];exact⟨_,I',q⟩)
 ·have hk:(k+(its.toArray.size:Int)).toNat=j:=by
   rw[J3 ⋯ h3] at h1;rw[Qh,<-hl];exact Vd h1
  exact PySem.W.ki_setBack ho ⋯ (by rw[Qh,<-hl];exact h3) ⋯ (by rw[hk];exact⟨_,I',q⟩)
def zBM(lo hi:Option Int)(n:Nat):(sliceBounds lo hi none n).1=((HT.sIx n 0 lo:Nat):Int)/\(sliceBounds lo hi none n).2.1=((HT.sIx n n hi:Nat):Int)/\(sliceBounds lo hi none n).2.2=1:=by
 refine⟨?_,?_,rfl⟩
 ·cases lo with
  | none=>simp[sliceBounds,HT.sIx]
  | some i=>
   simp only[sliceBounds,HT.sIx,Option.getD_none,show(1:Int) > 0 by decide,if_true];by_cases h:i<0
   ·simp only[h,if_true]<;>omega
   ·simp only[h,if_false]<;>omega
 ·cases hi with
  | none=>simp[sliceBounds,HT.sIx]
  | some i=>
   simp only[sliceBounds,HT.sIx,Option.getD_none,show(1:Int) > 0 by decide,if_true];by_cases h:i<0
   ·simp only[h,if_true]<;>omega
   ·simp only[h,if_false]<;>omega
def yJ(its:List Ja)(lo hi:Option Int):slicePick its.toArray lo hi none=((its.drop (HT.sIx its.length 0 lo)).take (HT.sIx its.length its.length hi-HT.sIx its.length 0 lo)).toArray:=by
 obtain⟨h1,h2,h3⟩:=zBM lo hi its.toArray.size;unfold slicePick;rw[h1,h2,h3];simp only[sliceRange_one,pick_run,Qh]<;>rfl
def zSx(K:PySem.W.Frag):V->Option Int->Option Int->Hp->VK->Prop:=fun x lo hi H Q=>∃ a xs,x=.ref a/\SqL K H a xs/\∀ p,H p=none->Q (.ref p) (upd H p (.lst (zIB xs lo hi)))
def zHH:SlR X (zSx X.K):=by
 intro Md s d H x v vl vu lo hi sl Q I rx hs pl pu h;obtain⟨a,xs,rfl,hx,q⟩:=h;cases rx;obtain⟨its,r,ht,hz⟩:=I.list hx;have hlen:=r.length;refine⟨"list", _,slot_list_getitem.lookup,ht.isList.typeIs,?_⟩
 refine wpAny_getItem_list_slice ht.isList hs pl pu .none (by simp) ?_ (by rw[Qh]<;>omega)
 rw[yJ,<-hlen];refine⟨.ref s.heap.objs.size,_,I.laid (t':=s.toks) (o:=.lst (zIB xs lo hi)) (fun b ob q=>Heap.get?_push_of_some _ q) (Qd _) ?_,rfl,q _ (I.hok.fresh (Qd _))⟩
 exact⟨Qn (uX xs lo hi) hz,_,0,(r.drop (HT.sIx xs.length 0 lo)).take (HT.sIx xs.length xs.length hi-HT.sIx xs.length 0 lo),Heap.get?_push_size _ rfl⟩
def aT:vH X (.builtin "len") (fun xs H Q=>∃ p ys,xs=[.ref p]/\(SqL X.K H p ys∨SqT X.K H p ys)/\Q (.int ys.length) H):=by
 intro Md s d H xs us Q I r h;obtain⟨p,ys,rfl,hq,q⟩:=h;obtain⟨u,rfl,rx⟩:=zAn r;cases rx;have hn:=zDV;rcases hq with hq | hq
 ·obtain⟨its,r',pl,hz⟩:=I.list hq
  have hlen:=r'.length;exact Calls.call_len_list pl.isList (by simp only[Qh]<;>omega) ⟨.int ys.length,H,I.tok _,⟨s.toks+1,by rw[Qh,hlen]⟩,q⟩
 ·obtain⟨its,r',pl,hz⟩:=I.tuple hq
  have hlen:=r'.length;exact len_tuple pl (by simp only[Qh]<;>omega) ⟨.int ys.length,H,I.tok _,⟨s.toks+1,by rw[Qh,hlen]⟩,q⟩
def zAo:vH X (.type "list") (fun xs H Q=>∃ p ys,xs=[.ref p]/\(SqL X.K H p ys∨SqT X.K H p ys)/\∀ l,H l=none->Q (.ref l) (upd H l (.lst ys))):=by
 intro Md s d H xs us Q I r h;obtain⟨p,ys,rfl,hq,q⟩:=h;obtain⟨u,rfl,rx⟩:=zAn r;cases rx
 have fin:∀(its:List Ja),dN ys its->ys.length<=sizeLine->∀(h':Jd)(c':Nat),(∀ b o',s.heap.get? b=some o'->h'.get? b=some o')->
   h'.get? s.heap.objs.size=some { cls:=.type "list", dict:=none,data:=.seq its.toArray c',slots:=#[] }->EP X Md d Q (.ref s.heap.objs.size) { s with heap:=h' }:=fun its r' hz h' c' kp e=>
  ⟨.ref s.heap.objs.size,_,I.laid (t':=s.toks) kp (Qd _) (show lH X.prog X.w _ h' _ (.lst ys) from ⟨hz,its,c',r',e⟩),rfl,q _ (I.hok.fresh (Qd _))⟩
 rcases hq with hq | hq
 ·obtain⟨its,r',pl,hz⟩:=I.list hq
  have hlen:=r'.length;obtain⟨o,ho,hc,n,hd⟩:=pl.isList;exact call_list_seq p (.inl rfl) ho hc hd (fun h' c' kp e=>fin its r' hz h' c' kp e) (by simp only[Qh]<;>omega)
 ·obtain⟨its,r',pl,hz⟩:=I.tuple hq
  have hlen:=r'.length;obtain⟨o,ho,hc,n,hd⟩:=pl;exact call_list_seq p (.inr rfl) ho hc hd (fun h' c' kp e=>fin its r' hz h' c' kp e) (by simp only[Qh]<;>omega)
def oQ:vH X (.type "tuple") (fun xs H Q=>∃ p ys,xs=[.ref p]/\((SqL X.K H p ys/\∀ l,H l=none->Q (.ref l) (upd H l (.tup ys)))∨(SqT X.K H p ys/\Q (.ref p) H))):=by
 intro Md s d H xs us Q I r h;obtain⟨p,ys,rfl,h⟩:=h;obtain⟨u,rfl,rx⟩:=zAn r;cases rx;rcases h with⟨hq,q⟩ | ⟨hq,q⟩
 ·obtain⟨its,r',pl,hz⟩:=I.list hq
  have hlen:=r'.length;refine call_tuple_list pl.isList (fun h' kp=>?_) (by simp only[Qh]<;>omega)
  have I1:Inv X Md d H { s with heap:=h' }:=I.kept (t':=s.toks) kp
  have I2:Inv X Md d (upd H h'.objs.size (.tup ys)) { s with heap:=h'.push { cls:=.type "tuple", data:=.seq its.toArray } }:=
   I1.laid (t':=s.toks) (fun b o e=>Heap.get?_push_of_some _ e) (Qd _) (show lH X.prog X.w _ _ _ (.tup ys) from ⟨hz,its,r',IsTup.new _ _⟩)
  exact⟨.ref h'.objs.size,_,I2,rfl,q _ (I1.hok.fresh (Qd _))⟩
 ·obtain⟨its,r',pl,hz⟩:=I.tuple hq
  exact call_tuple_same pl ⟨.ref p,H,I,rfl,q⟩
def tyV(K:PySem.W.Frag)(T:String)(x:V)(H:Hp):Prop:=match x with
 | .str _=>T = "str"
 | .int _=>T = "int"
 | .ref p=>(T = "list" /\ ∃ xs,SqL K H p xs)∨(T = "tuple" /\ ∃ o,K.lookup p=some o/\o.cls=.type "tuple" /\ o.dict=none)∨
   (T = "dict" /\ ((∃ kvs,H p=some (.dK kvs))∨∃ kvs,H p=some (.dT kvs)))∨(T = "set" /\ ∃ S n,H p=some (.set S n))
 | _=>False
def zPK{Md:List (Jc×Obj)}{d:St}{H:Hp}{s:Jb}{T:String}{x:V}{v:Ja}(I:Inv X Md d H s)(r:cU x v)(ty:tyV X.K T x H):
  s.TypeIs v T/\∀ a,v=.ref a->∃ ob,s.heap.get? a=some ob/\ob.dict=none:=by
 cases x with
 | str z=>
  obtain⟨t,rfl⟩:=r;cases (show T = "str" from ty)
  exact⟨typeIs_str s z t,fun _ e=>nomatch e⟩
 | int i=>
  obtain⟨t,rfl⟩:=r;cases (show T = "int" from ty)
  exact⟨typeIs_int s i t,fun _ e=>nomatch e⟩
 | ref p=>
  cases r;rcases ty with⟨rfl,xs,hq⟩ | ⟨rfl,o,hk,hc,hd⟩ | ⟨rfl,hk⟩ | ⟨rfl,S,n,hk⟩
  ·obtain⟨its,_,pl,_⟩:=I.list hq
   refine⟨pl.isList.typeIs,fun a e=>?_⟩
   cases e;obtain⟨o,n,e,c,hd,_⟩:=pl;exact⟨o,e,hd⟩
  ·refine⟨⟨o,I.kIn p o hk,hc⟩,fun a e=>?_⟩
   cases e;exact⟨o,I.kIn _ o hk,hd⟩
  ·have z:∃ o,s.heap.get? p=some o/\o.ExactDict:=by
    rcases hk with⟨kvs,hk⟩ | ⟨kvs,hk⟩
    ·obtain⟨_,_,_,_,o,_,_,e,ex,_⟩:=I.hok p _ hk
     exact⟨o,e,ex⟩
    ·obtain⟨_,_,_,_,o,_,_,e,ex,_⟩:=I.hok p _ hk
     exact⟨o,e,ex⟩
   obtain⟨o,e,ex⟩:=z;refine⟨⟨o,e,ex.1⟩,fun a e2=>?_⟩
   cases e2;exact⟨o,e,ex.2.1⟩
  ·obtain⟨o,_,_,_,e,ex,_⟩:=I.hok p _ hk
   refine⟨⟨o,e,ex.1⟩,fun a e2=>?_⟩
   cases e2;exact⟨o,e,ex.2.1⟩
 | _=>exact False.elim ty
abbrev tBM(K:PySem.W.Frag)(T:String)(r:V->List V->Hp->VK->Prop)(to:TE)(t:TA):TE:=fun d H Q=>to d H fun x H1=>tyV K T x H1/\t d H1 fun xs H2=>r x xs H2 Q
variable{o e:Expr}{es:List Expr}{to:TE}{t:TA}{name:Str}{apos cpos:Pos}{T id:String}{r:V->List V->Hp->VK->Prop}
def zFG(pa:PlainAttrs T)(slot:Slot T name id)(hty:typeOf (.builtin id)=pure (.type "method_descriptor"))(hm:MtR X id r)(ho:PE X o to)(ha:PA X (e::es) t)
  (hbase:attributeBase o name X.env (eval o X.env)=eval o X.env:=by rfl)
  (hfew:((backTo cpos (starEach (e::es) X.env)).all (fun x=>!x.1) && (backToKw cpos (keywordEach [] X.env)).all (fun x=>x.1.isSome)
   && decide ((e::es).length+([]:List Keyword).length+(if ([]:List Keyword).isEmpty then 0 else 1)<30))=true:=by rfl)
  (hline:(apos.endLine==cpos.line)=true:=by rfl) (hs:starEach (e::es) X.env=(false,eval e X.env)::starEach es X.env:=by rfl) (hplain:(backTo cpos (starEach es X.env)).any (·.1)=false:=by rfl):
  PE X (.Call (.Attribute o name apos) (e::es) [] cpos) (tBM X.K T r to t):=by
 intro Md s d H Q I h;refine wpAny_Call_method_late hbase hfew hline rfl (thn (ho Md s d H _ I h) fun v s1 ⟨x,H1,I1,r1,ty,q1⟩=>?_)
 obtain⟨h1,h2⟩:=zPK I1 r1 ty;refine⟨T,id,pa,slot,hty,h1,h2,?_⟩
 have hA:=ha cpos Md s1 d H1 _ I1 q1;rw[hs] at hA ⊢
 refine Calls.callWith_builtin (by show(false || (backTo cpos (starEach es X.env)).any (·.1))=false;rw[hplain]<;>rfl) (Calls.evalArgs_plain ?_)
 exact thn hA fun us s2 ⟨vs,H2,I2,r2,q2⟩=>hm Md s2 d H2 x vs v us Q I2 r1 r2 q2
end
def MtM(X:Cx)(id:String)(r:V->List V->Hp->VK->Prop):Prop:=
 ∀(Md:List (Jc×Obj))(s:Jb)(p:St)(H:Hp)(x:V)(xs:List V)(v:Ja)(us:List Ja)(Q:VK),Inv X Md p H s->cU x v->dN xs us->r x xs H Q->
  wpAny (model X.prog X.w) X.A (call (.builtin id) (v::us)) (EP X Md p Q) X.xe s
def dN.one:∀ {x:V} {us:List Ja},dN [x] us->∃ u,us=[u]/\cU x u
 | _,_,.cons r .nil=>⟨_,rfl,r⟩
def dN.eraseIdx:∀ {xs:List V} {us:List Ja} (i:Nat),dN xs us->dN (xs.eraseIdx i) (us.eraseIdx i)
 | _,_,_,.nil=>.nil
 | _,_,0,.cons _ t=>t
 | _,_,i+1,.cons r t=>.cons r (dN.eraseIdx i t)
def dN.rep{xs:List V}{us:List Ja}(h:dN xs us):∀ k:Nat,dN (List.replicate k xs).flatten (List.replicate k us).flatten
 | 0=>.nil
 | k+1=>by
  rw[Xq,Xq,X6,X6];exact dN.append h (dN.rep h k)
def zBp{s:Type}:∀(l:List s)(i:Nat),(l.eraseIdx i).length<=l.length
 | [],_=>Qd _
 | _::_,0=>Xr _
 | _::r,i+1=>Xi (zBp r i)
def zAB(its:List Ja):∀(k:Nat)(acc:List Ja),
  List.foldl (fun x1 x2=>x1++x2) acc.toArray (List.replicate k its.toArray)=(acc++(List.replicate k its).flatten).toArray
 | 0,acc=>by simp
 | k+1,acc=>by
  have e:acc.toArray++its.toArray=(acc++its).toArray:=by simp
  have e2:(acc++its)++(List.replicate k its).flatten=acc++(List.replicate (k+1) its).flatten:=by
   rw[Xq,X6,V3]
  rw[<-e2,<-zAB its k (acc++its),<-e,Xq,List.foldl_cons]
section
variable{X:Cx}{Md:List (Jc×Obj)}{p:St}{H:Hp}{s:Jb}{l b:Jc}{xs ys zs:List V}
def Inv.lset{its its':List Ja}{n:Nat}{f:Array Ja->Array Ja}{t':Nat}(I:Inv X Md p H s)(hH:H l=some (.lst xs))
  (e:s.heap.get? l=some { cls:=.type "list", data:=.seq its.toArray n }) (hf:f its.toArray=its'.toArray) (hv:dN ys its') (hz:ys.length<=sizeLine):
  Inv X Md p (upd H l (.lst ys)) { s with heap:=s.heap.update l (Obj.mapSeq f),toks:=t' }:=by
 have q:=PySem.IsL.update e f;rw[hf] at q;refine I.write (x:=l) (e:=l) (by rw[hH];exact trivial) (.inl rfl) (fun b' u hb hu=>(Heap.get?_update_other s.heap (Obj.mapSeq f) (Ne.symm hb)).trans hu) ⟨_,q⟩ ?_
 exact⟨hz,its',_,hv,q⟩
def Inv.lnew{its:List Ja}{t':Nat}(I:Inv X Md p H s)(hv:dN ys its)(hz:ys.length<=sizeLine):
  Inv X Md p (upd H s.heap.objs.size (.lst ys)) { s with heap:=s.heap.push { cls:=.type "list", data:=.seq its.toArray },toks:=t' }:=
 I.laid (fun _ _ q=>Heap.get?_push_of_some _ q) (Qd _) ⟨hz,its,0,hv,Heap.get?_push_size _ rfl⟩
def Inv.fresh(I:Inv X Md p H s):H s.heap.objs.size=none:=I.hok.fresh (Qd _)
def Inv.lstM(I:Inv X Md p H s)(hH:H l=some (.lst xs)):xs.length<=sizeLine/\∃(its:List Ja)(n:Nat),dN xs its/\xs.length=its.length/\s.heap.get? l=some { cls:=.type "list", data:=.seq its.toArray n }:=by
 obtain⟨z,its,n,r,e⟩:=I.hok l _ hH;exact⟨z,its,n,r,r.length,e⟩
def zAf{n:Nat}(h:n<=sizeLine):Builtin.List.listTooLong n=false:=by
 unfold Builtin.List.listTooLong;exact Ji ⋯
end
section
variable{X:Cx}
def zNk:V->List V->Hp->VK->Prop:=fun x vs H Q=>∃ l xs y,x=.ref l/\vs=[y]/\H l=some (.lst xs)/\xs.length<sizeLine/\Q .non (upd H l (.lst (xs++[y])))
def pB:MtM X "list.append" zNk:=by
 intro Md s c H x vs v us Q I rx rv h;obtain⟨l,xs,y,rfl,rfl,hH,hz,q⟩:=h;cases rx;obtain⟨u,rfl,ru⟩:=rv.one;obtain⟨z,its,n,r,hl,e⟩:=I.lstM hH;refine call_meets F.slot_list_append ⟨_,e,rfl⟩ F.entry_list_append (F.args_list_append_2 _ _) (PySem.list_append l its.toArray n u (by rw[Qh];omega)) ⟨e,?_⟩
 refine⟨.non,_,I.lset (its':=its++[u]) hH e (by simp) (r.append (.cons ru .nil)) ?_,rfl,q⟩
 rw[Qi,X7];omega
def zMA:V->List V->Hp->VK->Prop:=fun x vs H Q=>∃ l b xs zs,x=.ref l/\vs=[.ref b]/\H l=some (.lst xs)/\H b=some (.lst zs)/\xs.length+zs.length<=sizeLine/\Q .non (upd H l (.lst (xs++zs)))
def zGH:MtM X "list.extend" zMA:=by
 intro Md s c H x vs v us Q I rx rv h;obtain⟨l,b,xs,zs,rfl,rfl,hH,hB,hz,q⟩:=h;cases rx;obtain⟨u,rfl,ru⟩:=rv.one;cases ru;obtain⟨z,its,n,r,hl,e⟩:=I.lstM hH;obtain⟨z2,its2,n2,r2,hl2,e2⟩:=I.lstM hB;have hsz:its.toArray.size+its2.toArray.size<=sizeLine:=by rw[Qh,Qh];omega
 have hlong:¬ (!its.toArray.isEmpty && Builtin.List.listTooLong (its.toArray.size+its2.toArray.size))=true:=by
  rw[zAf hsz,U3];exact X3
 refine call_meets F.slot_list_extend ⟨_,e,rfl⟩ F.entry_list_extend (F.args_list_extend_2 _ _)
  (AutoSeq1.list_extend_list_list_0 l its.toArray n b its2.toArray n2 hlong (by rw[Qh];omega) ⋯) ⟨e,e2,?_⟩
 refine⟨.non,_,I.lset (its':=its++its2) hH e (by simp) (r.append r2) ?_,rfl,q⟩
 rw[Qi];omega
def zQc:V->List V->Hp->VK->Prop:=fun x vs H Q=>∃ l xs i k y,x=.ref l/\vs=[.int i]/\H l=some (.lst xs)/\-(2^63)<=i/\i<2^63/\seqIndex? i xs.length=some k/\xs[k]?=some y/\Q y (upd H l (.lst (xs.eraseIdx k)))
def zIJ:MtM X "list.pop" zQc:=by
 intro Md s c H x vs v us Q I rx rv h;obtain⟨l,xs,i,k,y,rfl,rfl,hH,h1,h2,hk,hy,q⟩:=h;cases rx;obtain⟨u,rfl,ru⟩:=rv.one;obtain⟨t,rfl⟩:=ru;obtain⟨z,its,n,r,hl,e⟩:=I.lstM hH;obtain⟨w,hw,rw'⟩:=r.get hy
 refine call_meets F.slot_list_pop ⟨_,e,rfl⟩ F.entry_list_pop (F.args_list_pop_2 _ _)
  (MeetsSeq.list_pop_at l its.toArray n i t k w (fitsIndex_both h1 h2) (by rw[Qh,<-hl];exact hk) (by rw[<-U5];exact hw) (by rw[Qh];omega)) ⟨e,?_⟩
 refine⟨y,_,I.lset (its':=its.eraseIdx k) hH e ?_ (r.eraseIdx k) ?_,rw',q⟩
 ·show its.toArray.eraseIdxIfInBounds k=(its.eraseIdx k).toArray
  rw[List.eraseIdxIfInBounds_toArray]
 ·have:=zBp xs k
  omega
def zSz:R2:=fun x y H Q=>∃ l k xs,x=.ref l/\y=.int k/\H l=some (.lst xs)/\-(2^63)<=k/\k<2^63/\xs.length*k.toNat<=sizeLine/\
 ∀ p,H p=none->Q (.ref p) (upd H p (.lst (List.replicate k.toNat xs).flatten))
def zLw{d:Type}(xs:List d)(k:Nat):(List.replicate k xs).flatten.length=k*xs.length:=by
 induction k with
 | zero=>simp
 | succ k ih=>rw[Xq,X6,Qi,ih,Nat.succ_mul,U6]
def zOt:OpR X (binaryOp .Mult) zSz:=by
 intro Md s c H x y v u Q I rx ry h;obtain⟨l,k,xs,rfl,rfl,hH,h1,h2,hz,q⟩:=h;cases rx;obtain⟨t,rfl⟩:=ry;obtain⟨z,its,n,r,hl,e⟩:=I.lstM hH;have hlen:its.toArray.size*k.toNat<=sizeLine:=by rw[Qh,<-hl];exact hz
 have hcap:¬ its.toArray.size*k.toNat > (2^63-1) / 8:=by
  have:(sizeLine:Nat)<=(2^63-1) / 8:=by decide
  omega
 have hfit:¬ (!Builtin.List.listFitsIndex k)=true:=by
  rw[fitsIndex_both h1 h2];exact X3
 have hlong:¬ Builtin.List.listTooLong (its.toArray.size*k.toNat)=true:=by
  rw[zAf hlen];exact X3
 have hnew:List.foldl (fun x1 x2=>x1++x2) #[] (List.replicate (if its.toArray.isEmpty=true then 0 else k.toNat) its.toArray)=(List.replicate k.toNat its).flatten.toArray:=by
  have f0:∀ m:Nat,List.foldl (fun x1 x2=>x1++x2) #[] (List.replicate m its.toArray)=(List.replicate m its).flatten.toArray:=fun m=>by
   have:=zAB its m []
   rw[Yt] at this;exact this
  rw[f0]
  cases its with
  | nil=>simp
  | cons a r'=>rw[Jk (by simp)]
 refine wpAny_binaryOp_repeat_ref (T := "list") (U := "int") (by decide) ⟨_,e,rfl⟩ (fun s'=>typeIs_int s' k t) noFill_list_mul F.fills_int_mul F.slot_int_rmul repeat_list F.slot_int_index.lookup
  (call_meets F.slot_int_rmul (typeIs_int s k t) F.entry_int_rmul (F.args_int_rmul_2 _ _) (int___rmul___int_list k t l its.toArray n)
   ⟨e,rfl,⟨_,e,rfl⟩,call_meets F.slot_list_mul ⟨_,e,rfl⟩ F.entry_list_mul (F.args_list_mul_2 _ _) (AutoListH.list___mul___list_int_3 l its.toArray n k t hfit hcap hlong) ⟨e,?_⟩⟩)
 rw[hnew];exact⟨.ref _,_,I.lnew (t':=s.toks) (r.rep k.toNat) (by rw[zLw,Nat.mul_comm];exact hz),rfl,q _ I.fresh⟩
end
section
variable{prog:Je}{w:Jf}{A:Jg}{E:Ja->Jb->Prop}{s:Jb}
set_option maxRecDepth 100000 in
end
end L2
namespace Att
open PySem PySem.W PySem.Calls PyProof.Rows
def tQ{P:Params}{h:Jd}:∀(ns:List Int)(vs:List Ja),WellAll P h vs (ns.map WData.int)->IntsAre vs ns:=by
 intro ns
 induction ns with
 | nil=>
  intro vs w;rw[Vv] at w;cases w;exact .nil
 | cons n ns ih=>
  intro vs w;rw[Ql] at w
  cases w with
  | cons a b=>
   cases a;exact .cons _ _ (ih _ b)
def script_of{l:OpenLaw}{n:Nat}(hn:l.most=some n){P:Params}{h:Jd}{args:List WData}{vals:List Ja}
  (hpre:l.row.toRowW.claim.pre args=true) (hwl:WellAll P h vals args):
  ∃ a vs ns,vals=[Value.ref a]/\args=[WData.list (ns.map WData.int)]/\h.get? a=some { cls:=.type "list", data:=.seq vs.toArray }/\IntsAre vs ns/\ns.length<=n:=by
 have hsh:WShape.hasAll [] args [.list .int]=true:=(pre_splitW hpre).1;have hc:l.pre.holds [] { args:=args }=true:=(pre_splitW hpre).2;obtain⟨d,r,rfl,h1,h2⟩:=hasAllW_cons hsh;obtain rfl:=hasAllW_nil h2;obtain⟨xs,rfl,h3⟩:=hasW_list h1;obtain⟨ns,rfl⟩:=items_int h3
 have hlen:ns.length<=n:=by
  unfold OpenLaw.pre at hc
  have h4:(WTm.not (.lt (.lit (.int (n:Int))) (.len (.arg 0)))).holds [] { args:=[.list (ns.map .int)] }=true:=by
   have h4:=(holds_andW hc).1;rw[hn] at h4;exact h4
  have h5:=condW_of h4 (w_not (w_lt w_lit (w_len_list (w_arg rfl))));rw[Qf] at h5;refine Nat.le_of_not_lt fun q=>?_
  have q':(n:Int)<((ns.length:Nat):Int):=by omega
  first
   | (rw[J5 q'] at h5;exact absurd h5 (by decide))
   | (simp at h5;omega)
 cases hwl with
 | cons w1 w2=>
  cases w2
  cases w1 with
  | list ho hall=>exact⟨_,_,ns,rfl,rfl,ho,tQ ns _ hall,hlen⟩
def post_true(l:OpenLaw)(args:List WData):l.row.toRowW.claim.post args (.bool true) args=true:=
 postW_of (r:=l.row.toRowW) (X:=(true==true))
  (show WShape.has [] (.bool true) .bool=true by first | rfl | decide | simp[WShape.has,WShape.arms,WShape.armsAll])
  (show(WTm.eq .res (.lit (.bool true))).value [] { args:=args,res:=some (.bool true),after:=args }=some (.bool (true==true)) from w_eq_bool (w_res rfl) w_lit) rfl
end Att
namespace L2
open PySem PySem.Spec PyProof.Rows
def zAQ:∀ {vs:List Ja} {ns:List Int},IntsAre vs ns->dN (ns.map V.int) vs
 | _,_,.nil=>.nil
 | _,_,.cons n t h=>.cons ⟨t,rfl⟩ (zAQ h)
def zSn(H:Hp):Prop:=∀ b,H b=none∨∃ o xs,H b=some (.frz o (.lst xs))
def jD(s:Jh):Arguments:=match s with
 | .FunctionDef _ a _ _ _ _ _ _ _ _=>a
 | _=>{ posonlyargs:=[],args:=[],vararg:=none,kwonlyargs:=[],kw_defaults:=[],kwarg:=none,defaults:=[] }
def eN(s:Jh):List Jh:=match s with
 | .FunctionDef _ _ b _ _ _ _ _ _ _=>b
 | _=>[]
def aG(s:Jh):Scope:=match s with
 | .FunctionDef _ _ _ _ _ _ sc _ _ _=>sc
 | _=>{ kind:=.function,names:=[],isGenerator:=false,isCoroutine:=false }
structure Fun (K:PySem.W.Frag) (x qual:Str) (st:Jh) (f:Jc) (fd:FuncData):Prop where
 ex:∃(oc:Ja)(od:Option Jc)(kV doc pm:Ja)(an:Option Jc)(cdv ct:Ja)(osl:Array (Option Ja)),
  fd=PySem.W.fnOf x qual (jD st) (eN st) (aG st) .none kV doc pm an cdv ct/\K.lookup f=some ⟨oc,od,.func fd,osl⟩/\PySem.W.codeIn K cdv qual=true
 kp:PySem.W.keepIn K (.ref f)=true
section
variable{P:Je}{w:Jf}{K:Fg_}{mg:Str->Option Ja}{base:Jd}
def Fun.binds{x qual:Str}{st:Jh}{f:Jc}{fd:FuncData}{ps:List Str}(F:Fun K x qual st f fd)
  (h:∀(kV doc pm:Ja)(an:Option Jc)(cdv ct:Ja)(us:List Ja),us.length=ps.length->bindArgs (PySem.W.fnOf x qual (jD st) (eN st) (aG st) .none kV doc pm an cdv ct) ⟨us,[]⟩=pure (ps.zip us)):zBr K fd ps []:=by
 obtain⟨oc,od,kV,doc,pm,an,cdv,ct,osl,rfl,lk,hcd⟩:=F.ex;exact .all (h kV doc pm an cdv ct)
def wW{x qual:Str}{st:Jh}{f:Jc}{oc:Ja}{od an:Option Jc}{osl:Array (Option Ja)}{kV doc pm cdv ct:Ja}(l:K.lookup f=some ⟨oc,od,.func (PySem.W.fnOf x qual (jD st) (eN st) (aG st) .none kV doc pm an cdv ct),osl⟩)
  (c:PySem.W.codeIn K cdv qual=true) (k:PySem.W.keepIn K (.ref f)=true):Fun K x qual st f (PySem.W.fnOf x qual (jD st) (eN st) (aG st) .none kV doc pm an cdv ct):=⟨⟨oc,od,kV,doc,pm,an,cdv,ct,osl,rfl,l,c⟩,k⟩
end
section
variable{X:Cx}
def pv(i:Nat){x:Str}{pos:Pos}(hN:X.N[i]?=some x:=by rfl)(hv:Vis X.env.scope x:=by first | exact Or.inl rfl | exact Or.inr (Or.inl rfl) | exact Or.inr (Or.inr rfl))(hd:(x==("__debug__" : Str))=false:=by decide)
  (hcd:(x==("__classdict__" : Str))=false:=by decide):PE X (.Name x pos) (zBV i):=uD hN hv hd hcd
end
def Same(H H':Hp):Prop:=∀ b o,H b=some o->H' b=some o
def Same.refl(H:Hp):Same H H:=fun _ _ h=>h
def Same.trans{H H1 H2:Hp}(a:Same H H1)(b:Same H1 H2):Same H H2:=fun c o h=>b c o (a c o h)
end L2
set_option maxHeartbeats 4000000
set_option exponentiation.threshold 20000
namespace L2
open PySem PySem.Spec PyProof.Rows
section
variable{P:Je}{w:Jf}{H H':Hp}{h:Jd}{a:Jc}{o:HO}
def lH.here(x:lH P w H h a o):∃ ob,h.get? a=some ob:=by
 cases o with
 | lst xs=>obtain⟨_,_,_,_,e⟩:=x;exact⟨_,e⟩
 | tup xs=>obtain⟨_,_,_,e⟩:=x;obtain⟨ob,e,_⟩:=e;exact⟨_,e⟩
 | dK kvs=>obtain⟨_,_,_,_,e⟩:=x;obtain⟨ob,_,_,e,_⟩:=e;exact⟨_,e⟩
 | dT kvs=>obtain⟨_,_,_,_,ob,_,_,e,_⟩:=x;exact⟨_,e⟩
 | set S n=>obtain⟨ob,_,_,_,e,_⟩:=x;exact⟨_,e⟩
 | ins C dx fs=>obtain⟨_,_,_,e,_⟩:=x;exact⟨_,e⟩
 | own y=>exact x
 | xd fs=>obtain⟨_,⟨ob,_,_,e,_⟩,_⟩:=x;exact⟨_,e⟩
 | met f y=>exact⟨_,x⟩
 | rng lo hi=>obtain⟨_,_,_,e⟩:=x;exact⟨_,e⟩
 | frz ob u=>exact⟨_,x.1⟩
 | tbl ps=>exact⟨_,x⟩
 | ext r=>exact x.2.1
def HOk.none_of(ok:HOk P w H h)(e:h.get? a=none):H a=none:=by
 cases q:H a with
 | none=>rfl
 | some o=>
  obtain⟨ob,z⟩:=(ok a o q).here;rw[e] at z;cases z
end
structure Fly (P:Je) (w:Jf) (l:List Env) (H H':Hp) (s:Jb) (ea:Jc) (cls:Ja) (s':Jb):Prop where
 os:s'.os=s.os
 bare:AllBare s'.gens
 un:Un (frs l) [] H H' s.heap s'.heap
 hok:HOk P w H' s'.heap
 ne:H' ea=none
 new:s.heap.get? ea=none
 fly:∃ B a0,Heap.FlyingW B l ea cls a0 s'.heap/\(∀ b o,s'.heap.get? b=some o->((∃ o',s.heap.get? b=some o')∨H' b≠none)->b∉frs l->B.get? b=some o)
def CX1(P:Je)(w:Jf):CXT:=fun outer H s E e s'=>∃ ea cls H',e=.ref ea/\Fly P w outer H H' s ea cls s'/\E cls none H'
structure Own (X:Cx):Prop where
 stk:X.stack=X.env::X.outer
 fr:X.env.frame=some X.env.locals
 ex:X.ex=[]
section
variable{X:Cx}{Md:List (Jc×Obj)}{r:St}{H H':Hp}{s s':Jb}{ea:Jc}{cls:Ja}
def zDE(O:Own X):frs X.stack=X.env.locals::X.fs:=by
 rw[O.stk];show List.filterMap _ (_::_)=_
 rw[Y6,O.fr];rfl
def Inv.there0(I:Inv X Md r H s)(O:Own X){b:Jc}{o:Obj}(e:X.s₀.heap.get? b=some o):∃ o',s.heap.get? b=some o':=I.base.there b o e (by rw[O.ex];simp)
def Inv.ne0(I:Inv X Md r H s){b:Jc}{o:Obj}(e:X.s₀.heap.get? b=some o):b≠X.env.locals:=Qp (Qo (Heap.lt_size e) I.ok.above)
def Fly.leave(I:Inv X Md r H s)(O:Own X)(F:Fly X.prog X.w X.stack H H' s ea cls s'){h':Jd}{B:Jd}{a0:Ja}
  (hf:Heap.FlyingW B X.stack ea cls a0 s'.heap) (cov:∀ b o,s'.heap.get? b=some o->((∃ o',s.heap.get? b=some o')∨H' b≠none)->b∉frs X.stack->B.get? b=some o)
  (hf':Heap.FlyingW B X.outer ea cls a0 h') (up:s'.heap.UpToSlots h'):Fly X.prog X.w X.outer X.H₀ H' X.s₀ ea cls { s' with heap:=h' }:=by
 have fst:frs X.stack=X.env.locals::X.fs:=zDE O;have nin:∀ {b:Jc},b≠X.env.locals->b∉X.fs->b∉frs X.stack:=fun h1 h2=>by rw[fst];simp[h1,h2]
 have trk:∀ {b:Jc},H' b≠none->b∉frs X.stack:=fun {b} hb hm=>by
  have h1:=I.stkFree b hm;obtain⟨_,o,ho,_⟩:=I.stack.mem hm;exact hb (F.un.free b o ho h1 (by simp))
 have keepB:∀ {b:Jc} {o:Obj},s'.heap.get? b=some o->((∃ o',s.heap.get? b=some o')∨H' b≠none)->b∉frs X.stack->h'.get? b=some o:=fun e1 e2 e3=>hf'.1 _ _ (cov _ _ e1 e2 e3)
 have slotOf:∀ {b:Jc} {o:Obj},b∈frs X.stack->s'.heap.get? b=some o->∃ sl,h'.get? b=some { o with slots:=sl }:=fun {b o} hm e=>by
  obtain⟨_,o',ho',hn⟩:=hf.2.2.1.mem hm;rw[e] at ho';cases ho'
  exact up b o e hn
 refine⟨F.os.trans I.os,F.bare,⟨?_,?_,?_,?_,?_,?_,?_⟩,?_,F.ne,?_,⟨B,a0,hf',?_⟩⟩
 ·intro b o e n hb hx
  have e1:=I.base.keep b o e n hb (by rw[O.ex];simp)
  have n1:=I.base.free b o e n (by rw[O.ex];simp)
  have hs:b∉frs X.stack:=nin (I.ne0 e) hb;exact keepB (F.un.keep b o e1 n1 hs (by simp)) (.inl ⟨o,e1⟩) hs
 ·intro b o e n hb hx
  obtain⟨sl,e1⟩:=I.base.slot b o e n hb (by rw[O.ex];simp)
  have n1:=I.base.free b o e n (by rw[O.ex];simp)
  have hs:b∈frs X.stack:=by rw[fst];exact Qc _ hb
  obtain⟨sl2,e2⟩:=F.un.slot b _ e1 n1 hs (by simp)
  obtain⟨sl3,e3⟩:=slotOf hs e2;exact⟨sl3,e3⟩
 ·intro b o e n hx
  obtain⟨o1,e1⟩:=I.there0 O e;exact F.un.free b o1 e1 (I.base.free b o e n (by rw[O.ex];simp)) (by simp)
 ·intro b o e hx
  obtain⟨o1,e1⟩:=I.there0 O e;obtain⟨o2,e2⟩:=F.un.there b o1 e1 (by simp)
  by_cases hs:b∈frs X.stack
  ·obtain⟨sl,e3⟩:=slotOf hs e2
   exact⟨_,e3⟩
  ·exact⟨o2,keepB e2 (.inl ⟨o1,e1⟩) hs⟩
 ·exact fun b xs e=>F.un.tups b xs (I.base.tups b xs e)
 ·exact fun b o u e=>F.un.frzs b o u (I.base.frzs b o u e)
 ·intro b ps e
  obtain⟨m1,e1⟩:=I.base.tbls b ps e;obtain⟨m2,e2⟩:=F.un.tbls b _ e1;exact⟨m1++m2,by rw[e2,Array.append_assoc]⟩
 ·intro a o e
  refine(F.hok a o e).stay (fun b u hb z=>?_) (fun b z=>z) (fun b xs z=>z)
  have hb':H' b≠none:=by
   rcases hb with rfl | hb
   ·rw[e];simp
   ·rw[hb];simp
  exact keepB z (.inr hb') (trk hb')
 ·show X.s₀.heap.get? ea=none
  cases q:X.s₀.heap.get? ea with
  | none=>rfl
  | some o=>
   obtain⟨o1,e1⟩:=I.there0 O q;rw[F.new] at e1;cases e1
 ·intro b o e c hb
  have c':(∃ o',s.heap.get? b=some o')∨H' b≠none:=by
   rcases c with⟨o',c⟩ | c
   ·exact .inl (I.there0 O c)
   ·exact .inr c
  have hs:b∉frs X.stack:=by
   rcases c with⟨o',c⟩ | c
   ·exact nin (I.ne0 c) hb
   ·exact trk c
  have ex:∃ o2,s'.heap.get? b=some o2:=by
   rcases c' with⟨o',c1⟩ | c1
   ·exact F.un.there b o' c1 (by simp)
   ·cases q:H' b with
    | none=>exact absurd q c1
    | some u=>exact(F.hok b u q).here
  obtain⟨o2,e2⟩:=ex;have z:=keepB e2 c' hs;have z':h'.get? b=some o:=e;rw[z] at z';cases z'
  exact cov b o e2 c' hs
end
section
variable{X:Cx}{Md:List (Jc×Obj)}{r:St}{H H':Hp}{s s':Jb}{ea:Jc}{cls:Ja}
def zPR(l:List Env):∀ env∈l,∀ b,env.frame=some b->b∈frs l:=fun env he b hb=>Uy.mpr ⟨env,he,hb⟩
def Fly.made(I:Inv X Md r H s)(O:Own X){vs:List Ja}(hx:Heap.MadeExcOf s.heap s'.heap ea cls vs)(hos:s'.os=s.os)(hg:AllBare s'.gens){h':Jd}{t:Jc}
  (hf':Heap.FlyingW (PySem.W.hideAll s.heap (frs X.stack)) X.outer ea cls (.ref t) h') (up:s'.heap.UpToSlots h'):Fly X.prog X.w X.outer X.H₀ H X.s₀ ea cls { s' with heap:=h' }:=by
 have fst:frs X.stack=X.env.locals::X.fs:=zDE O;have nin:∀ {b:Jc},b≠X.env.locals->b∉X.fs->b∉frs X.stack:=fun h1 h2=>by rw[fst];simp[h1,h2]
 have trk:∀ {b:Jc},H b≠none->b∉frs X.stack:=fun {b} hb hm=>hb (I.stkFree b hm)
 have keepB:∀ {b:Jc} {o:Obj},s.heap.get? b=some o->b∉frs X.stack->h'.get? b=some o:=fun e1 e3=>hf'.1 _ _ (Ux _ e1 e3)
 have slotOf:∀ {b:Jc} {o:Obj},b∈frs X.stack->s.heap.get? b=some o->∃ sl,h'.get? b=some { o with slots:=sl }:=fun {b o} hm e=>by
  obtain⟨_,o',ho',hn⟩:=I.stack.mem hm;rw[e] at ho';cases ho'
  exact up b o (hx.keeps b o e) hn
 refine⟨hos.trans I.os,hg,⟨?_,?_,?_,?_,?_,?_,?_⟩,?_,?_,?_,⟨_,_,hf',?_⟩⟩
 ·intro b o e n hb hx'
  exact keepB (I.base.keep b o e n hb (by rw[O.ex];simp)) (nin (I.ne0 e) hb)
 ·intro b o e n hb hx'
  obtain⟨sl,e1⟩:=I.base.slot b o e n hb (by rw[O.ex];simp)
  have hs:b∈frs X.stack:=by rw[fst];exact Qc _ hb
  obtain⟨sl3,e3⟩:=slotOf hs e1;exact⟨sl3,e3⟩
 ·exact fun b o e n hx'=>I.base.free b o e n (by rw[O.ex];simp)
 ·intro b o e hx'
  obtain⟨o1,e1⟩:=I.there0 O e;by_cases hs:b∈frs X.stack
  ·obtain⟨sl,e3⟩:=slotOf hs e1
   exact⟨_,e3⟩
  ·exact⟨o1,keepB e1 hs⟩
 ·exact fun b xs e=>I.base.tups b xs e
 ·exact fun b o u e=>I.base.frzs b o u e
 ·exact fun b ps e=>I.base.tbls b ps e
 ·intro a o e
  refine(I.hok a o e).stay (fun b u hb z=>?_) (fun b z=>z) (fun b xs z=>z)
  have hb':H b≠none:=by
   rcases hb with rfl | hb
   ·rw[e];simp
   ·rw[hb];simp
  exact keepB z (trk hb')
 ·exact I.hok.none_of hx.new
 ·show X.s₀.heap.get? ea=none
  cases q:X.s₀.heap.get? ea with
  | none=>rfl
  | some o=>
   obtain⟨o1,e1⟩:=I.there0 O q;rw[hx.new] at e1;cases e1
 ·intro b o e c hb
  have hs:b∉frs X.stack:=by
   rcases c with⟨o',c⟩ | c
   ·exact nin (I.ne0 c) hb
   ·exact trk c
  have ex:∃ o2,s.heap.get? b=some o2:=by
   rcases c with⟨o',c1⟩ | c1
   ·exact I.there0 O c1
   ·cases q:H b with
    | none=>exact absurd q c1
    | some u=>exact(I.hok b u q).here
  obtain⟨o2,e2⟩:=ex;have z:=keepB e2 hs;have z':h'.get? b=some o:=e;rw[z] at z';cases z'
  exact Ux _ e2 hs
end
section
variable{CX:CXT}{P:Je}{w:Jf}{K:Fg_}{mg:Str->Option Ja}{base:Jd}{N:List Str}{qual:Str}{scope:Scope}{f:Jc}{cd:Ja}{A:Jg}{outer:List Env}{s₀:Jb}{H₀:Hp}{E:XK}
def zGn:Own (zEo CX P w K mg base N qual scope f cd A outer s₀ H₀ E):=⟨rfl,rfl,rfl⟩
def zQI{E':XK}(h:∀ c H',E' c none H'->E c none H'):zDB (CX1 P w) (zEo (CX1 P w) P w K mg base N qual scope f cd A outer s₀ H₀ E) E':=by
 intro Md r H s e s' I hc;obtain⟨ea,cls,H',rfl,F,q⟩:=hc;obtain⟨B,a0,hf,cov⟩:=F.fly;have O:Own (zEo (CX1 P w) P w K mg base N qual scope f cd A outer s₀ H₀ E):=zGn;exact wpAny_leaves_onW (I.ok.frames.trans (congrArg some O.stk)) O.fr hf fun h' hf' up=>⟨ea,cls,H',rfl,F.leave I O hf cov hf' up,h _ _ q⟩
def zCr{Md:List (Jc×Obj)}{r:St}{H:Hp}{s s':Jb}{ea:Jc}{cls:Ja}{vs:List Ja}(I:Inv (zEo (CX1 P w) P w K mg base N qual scope f cd A outer s₀ H₀ E) Md r H s)
  (hx:Heap.MadeExcOf s.heap s'.heap ea cls vs) (hos:s'.os=s.os) (hg:AllBare s'.gens) (q:E cls none H):(zEo (CX1 P w) P w K mg base N qual scope f cd A outer s₀ H₀ E).xe (.ref ea) s':=by
 have O:Own (zEo (CX1 P w) P w K mg base N qual scope f cd A outer s₀ H₀ E):=zGn;have hst:=O.stk
 exact wpAny_leaves_madeW (base:=PySem.W.hideAll s.heap (frs (zEo (CX1 P w) P w K mg base N qual scope f cd A outer s₀ H₀ E).stack)) (h:=s.heap) (I.ok.frames.trans (congrArg some O.stk)) O.fr (fun b o z=>PySem.W.of_hideAll _ z)
  (PySem.W.funFrames_hide (I.stack) (zPR _)) hx fun h' t hf' _ _ up=>⟨ea,cls,H,rfl,Fly.made I O hx hos hg hf' up,q⟩
end
structure Err (K:PySem.W.Frag) (mg:Str->Option Ja) (x:Str) (C:Jc):Prop where
 own:∀ h:Jd,K.In h->∃ bm newId B initId,OwnCls x C bm newId mg h/\ExcBaseFacts B newId initId bm
end L2
namespace L3
open PySem
inductive D where
 | non | bl (b:Bool) | int (i:Int) | str (x:Str) | tup (ds:List D) | lst (ds:List D)
inductive Res (α:Type) where
 | ok (a:α) | err (c:Str) | no
def Res.bind{r s:Type}(x:Res r)(f:r->Res s):Res s:=match x with
 | .ok a=>f a
 | .err c=>.err c
 | .no=>.no
def Res.ok_bind{r s:Type}{a:r}{f:r->Res s}:(Res.ok a).bind f=f a:=rfl
inductive Sl where
 | un | val (d:D) | own (ds:List D) | exc (c:Str) | tab (T:List (Str×Str))
abbrev Rho:=List Sl
inductive Rt where
 | v (d:D) | f (ds:List D)
def Rt.d:Rt->D
 | .v d=>d
 | .f ds=>.lst ds
inductive Fl where
 | nx (ρ:Rho) | ret (r:Rt) | brk (ρ:Rho) | ctn (ρ:Rho)
abbrev Ev:=Rho->Res D
abbrev Fv:=Rho->Res (List D)
abbrev Tv:=Rho->Res Bool
abbrev Sv:=Rho->Res Fl
abbrev Mir:=List D->Res Rt
mutual
def eqD:D->D->Bool
 | .non,.non=>true
 | .bl a,.bl b=>a==b
 | .bl a,.int b=>(if a then 1 else 0)==b
 | .int a,.bl b=>a==(if b then 1 else 0)
 | .int a,.int b=>a==b
 | .str a,.str b=>a==b
 | .tup ds,.tup es=>zEl ds es
 | .lst ds,.lst es=>zEl ds es
 | _,_=>false
def zEl:List D->List D->Bool
 | [],[]=>true
 | d::ds,e::es=>eqD d e && zEl ds es
 | _,_=>false
end
mutual
def dep:D->Nat
 | .tup ds=>depS ds+1
 | .lst ds=>depS ds+1
 | _=>0
def depS:List D->Nat
 | []=>0
 | d::ds=>max (dep d) (depS ds)
end
mutual
def noL:D->Bool
 | .tup ds=>noLs ds
 | .lst _=>false
 | _=>true
def noLs:List D->Bool
 | []=>true
 | d::ds=>noL d && noLs ds
end
def qA:∀ {ds:List D} {d:D},d∈ds->dep d<=depS ds
 | e::ds,d,h=>by
  rw[depS];rcases Qe.mp h with rfl | h
  ·exact Nat.le_max_left ..
  ·exact Qn (qA h) (Nat.le_max_right ..)
def zIT:∀ {ds:List D},noLs ds=true ↔ ∀ d∈ds,noL d=true
 | []=>by simp[noLs]
 | d::ds=>by rw[noLs,Vh,zIT];simp
def nA:∀(ds es:List D),zEl ds es=((List.range (min ds.length es.length)).all (fun j=>eqD (ds.getD j .non) (es.getD j .non)) && ds.length==es.length)
 | [],[]=>rfl
 | [],e::es=>by simp[zEl]
 | d::ds,[]=>by simp[zEl]
 | d::ds,e::es=>by
  rw[zEl,nA ds es];have h:min (d::ds).length (e::es).length=min ds.length es.length+1:=by simp only[Qm];omega
  rw[h,List.range_succ_eq_map];simp[List.all_map,Function.comp_def,Bool.and_assoc]
mutual
def sP:∀ d:D,eqD d d=true
 | .non=>rfl
 | .bl b=>by simp[eqD]
 | .int i=>by simp[eqD]
 | .str x=>by simp[eqD]
 | .tup ds=>by rw[eqD];exact tR ds
 | .lst ds=>by rw[eqD];exact tR ds
def tR:∀ ds:List D,zEl ds ds=true
 | []=>rfl
 | d::ds=>by rw[zEl,sP d,tR ds];rfl
end
def nb(i:Int):Nat:=i.natAbs.log2+1
def zMr(i:Int):i.natAbs<2^nb i:=Nat.lt_log2_self
def zQY{i:Int}{m:Nat}(h:i.natAbs<2^m)(hm:0<m):nb i<=m:=by
 unfold nb;by_cases h0:i.natAbs=0
 ·rw[h0];exact hm
 ·exact(Nat.log2_lt h0).mpr h
def iJ(i j:Int):Bool:=(decide (-(2^64)<i) && decide (i<2^64)) || (decide (-(2^64)<j) && decide (j<2^64)) || decide (nb i+nb j<=134217728)
def lL(j:Int):Bool:=decide (j≠0) && decide (nb j<=9000)
def rJ(i j:Int):Bool:=decide (0<=j) && decide ((nb i:Int)*j<=2^27)
abbrev Op2:=D->D->Res D
def rA:Op2
 | .int i,.int j=>.ok (.int (i+j))
 | .tup a,.tup b=>if a.length+b.length<=16777216 then .ok (.tup (a++b)) else .no
 | _,_=>.no
def zSv:Op2
 | .int i,.int j=>.ok (.int (i+j))
 | _,_=>.no
def yM:Op2
 | .int i,.int j=>.ok (.int (i-j))
 | _,_=>.no
def qX:Op2
 | .int i,.int j=>if iJ i j=true then .ok (.int (i*j)) else .no
 | _,_=>.no
def lJ:Op2
 | .int i,.int j=>if lL j=true then .ok (.int (i.fdiv j)) else .no
 | _,_=>.no
def kL:Op2
 | .int i,.int j=>if j≠0 then .ok (.int (i.fmod j)) else .no
 | _,_=>.no
def zAK:Op2
 | .int i,.int j=>if rJ i j=true then .ok (.int (i^j.toNat)) else .no
 | _,_=>.no
def oEq(x y:D):Res D:=if dep x<=50 then .ok (.bl (eqD x y)) else .no
def oNe(x y:D):Res D:=if dep x<=50 then .ok (.bl (!eqD x y)) else .no
def oLt:Op2
 | .int i,.int j=>.ok (.bl (decide (i<j)))
 | _,_=>.no
def oLe:Op2
 | .int i,.int j=>.ok (.bl (decide (i<=j)))
 | _,_=>.no
def oGt:Op2
 | .int i,.int j=>.ok (.bl (decide (j<i)))
 | _,_=>.no
def oGe:Op2
 | .int i,.int j=>.ok (.bl (decide (j<=i)))
 | _,_=>.no
def atD(ds:List D)(i:Int):Option D:=if 0<=i then ds[i.toNat]? else if 0<=(ds.length:Int)+i then ds[((ds.length:Int)+i).toNat]? else none
def ofO{r:Type}:Option r->Res r
 | some a=>.ok a
 | none=>.no
def oIx:Op2
 | .tup ds,.int i=>ofO (atD ds i)
 | .lst ds,.int i=>ofO (atD ds i)
 | _,_=>.no
def oIn:Op2
 | d,.lst ds=>if depS ds<=50 then .ok (.bl (ds.any fun e=>eqD e d)) else .no
 | d,.tup ds=>if depS ds<=50 then .ok (.bl (ds.any fun e=>eqD e d)) else .no
 | _,_=>.no
def xB:Op2
 | d,.lst ds=>if depS ds<=50 then .ok (.bl (!(ds.any fun e=>eqD e d))) else .no
 | d,.tup ds=>if depS ds<=50 then .ok (.bl (!(ds.any fun e=>eqD e d))) else .no
 | _,_=>.no
def zNz:D->Res D
 | .int i=>.ok (.int (-i))
 | _=>.no
def zSc:D->Res D
 | .bl b=>.ok (.bl (!b))
 | _=>.no
def aE(i:Nat)(ρ:Rho):Res D:=match ρ[i]? with
 | some (.val d)=>.ok d
 | _=>.no
def eC(d:D)(_ρ:Rho):Res D:=.ok d
def eOp(o:Op2)(a b:Ev)(ρ:Rho):Res D:=(a ρ).bind fun x=>(b ρ).bind fun y=>o x y
def eUn(o:D->Res D)(a:Ev)(ρ:Rho):Res D:=(a ρ).bind o
def zRK(a b:Ev)(ρ:Rho):Res D:=(a ρ).bind fun x=>match x with
 | .bl c=>if c=true then b ρ else .ok (.bl false)
 | _=>.no
def eOr(a b:Ev)(ρ:Rho):Res D:=(a ρ).bind fun x=>match x with
 | .bl c=>if c=true then .ok (.bl true) else b ρ
 | _=>.no
def eIf(t:Tv)(a b:Ev)(ρ:Rho):Res D:=(t ρ).bind fun c=>if c=true then a ρ else b ρ
def aNil(_ρ:Rho):Res (List D):=.ok []
def aB(e:Ev)(r:Fv)(ρ:Rho):Res (List D):=(e ρ).bind fun d=>(r ρ).bind fun ds=>.ok (d::ds)
def qR(a:Fv)(ρ:Rho):Res D:=(a ρ).bind fun ds=>if ds.length<=16777216 then .ok (.tup ds) else .no
def aL(m:Mir)(a:Fv)(ρ:Rho):Res D:=(a ρ).bind fun ds=>(m ds).bind fun r=>.ok r.d
def lM:List D->Res D
 | [.lst ds]=>.ok (.int ds.length)
 | [.tup ds]=>.ok (.int ds.length)
 | _=>.no
def zLD:List D->Res D
 | [.int i]=>.ok (.int (if i<0 then -i else i))
 | _=>.no
def zSC:List D->Res D
 | [.int i,.int j]=>.ok (.int (if j > i then j else i))
 | _=>.no
def zOz:List D->Res D
 | [.int i,.int j]=>.ok (.int (if j<i then j else i))
 | _=>.no
def zKh:List D->Res D
 | [.lst ds]=>.ok (.tup ds)
 | [.tup ds]=>.ok (.tup ds)
 | _=>.no
def eB(b:List D->Res D)(a:Fv)(ρ:Rho):Res D:=(a ρ).bind b
def tyN:D->String
 | .non => "NoneType" | .bl _ => "bool" | .int _ => "int" | .str _ => "str" | .tup _ => "tuple" | .lst _ => "list"
def isT(T:String)(d:D):Bool:=tyN d==T || (T == "int" && tyN d == "bool")
def zRS(T:String)(a:Ev)(ρ:Rho):Res D:=(a ρ).bind fun d=>.ok (.bl (isT T d))
def isNon:D->Bool
 | .non=>true
 | _=>false
def zEs(a:Ev)(ρ:Rho):Res D:=(a ρ).bind fun d=>.ok (.bl (!isNon d))
def Sl.frz:Sl->Sl
 | .own ds=>.val (.lst ds)
 | s=>s
def zEk(e:Ev)(ρ:Rho):Res D:=(e (ρ.map Sl.frz)).bind fun d=>if noL d=true then .ok d else .no
def pL(a:Fv)(ρ:Rho):Res (List D):=(a ρ).bind fun ds=>if ds.length<=16777216 then .ok ds else .no
def fF(m:Mir)(a:Fv)(ρ:Rho):Res (List D):=(a ρ).bind fun ds=>(m ds).bind fun r=>match r with
 | .f ds=>.ok ds
 | .v _=>.no
def zJF(a:Fv)(ρ:Rho):Res (List D):=(a ρ).bind fun ds=>match ds with
 | [.lst ds]=>.ok ds
 | [.tup ds]=>.ok ds
 | _=>.no
def zNy(a b:Ev)(ρ:Rho):Res (List D):=(a ρ).bind fun x=>(b ρ).bind fun y=>match x,y with
 | .lst ds,.lst es=>if ds.length+es.length<=16777216 then .ok (ds++es) else .no
 | _,_=>.no
def eF(f:Fv)(ρ:Rho):Res D:=(f ρ).bind fun ds=>.ok (.lst ds)
def zQi(f:Fv)(ρ:Rho):Res (List D):=(f (ρ.map Sl.frz)).bind fun ds=>if noLs ds=true then .ok ds else .no
def cut(n:Nat)(i:Option Int)(d:Nat):Nat:=match i with
 | none=>d
 | some i=>if 0<=i then min i.toNat n else ((n:Int)+i).toNat
def eG(ds:List D)(lo hi:Option Int):List D:=(ds.drop (cut ds.length lo 0)).take (cut ds.length hi ds.length-cut ds.length lo 0)
abbrev Ov:=Rho->Res (Option Int)
def oN(_ρ:Rho):Res (Option Int):=.ok none
def oS(e:Ev)(ρ:Rho):Res (Option Int):=(e ρ).bind fun d=>match d with
 | .int i=>.ok (some i)
 | _=>.no
def fSl(a:Ev)(lo hi:Ov)(ρ:Rho):Res (List D):=(a ρ).bind fun x=>(lo ρ).bind fun l=>(hi ρ).bind fun h=>match x with
 | .lst ds=>.ok (eG ds l h)
 | _=>.no
def zSE(a:Ev)(lo hi:Ov)(ρ:Rho):Res D:=(a ρ).bind fun x=>(lo ρ).bind fun l=>(hi ρ).bind fun h=>match x with
 | .tup ds=>if (eG ds l h).length<ds.length then .ok (.tup (eG ds l h)) else .no
 | _=>.no
def eD(e:Ev)(ρ:Rho):Res Bool:=(e ρ).bind fun d=>match d with
 | .bl b=>.ok b
 | _=>.no
def tFrzB(t:Tv)(ρ:Rho):Res Bool:=t (ρ.map Sl.frz)
def zLZ(t:Tv)(ρ:Rho):Res Bool:=(t ρ).bind fun b=>.ok (!b)
def zCa(t u:Tv)(ρ:Rho):Res Bool:=(t ρ).bind fun b=>if b=true then u ρ else .ok false
def zKa(t u:Tv)(ρ:Rho):Res Bool:=(t ρ).bind fun b=>if b=true then .ok true else u ρ
def sNext(ρ:Rho):Res Fl:=.ok (.nx ρ)
def bC(a b:Sv)(ρ:Rho):Res Fl:=(a ρ).bind fun f=>match f with
 | .nx ρ'=>b ρ'
 | f=>.ok f
def sIf(t:Tv)(a b:Sv)(ρ:Rho):Res Fl:=(t ρ).bind fun c=>if c=true then a ρ else b ρ
def cX(i:Nat)(e:Ev)(ρ:Rho):Res Fl:=(e ρ).bind fun d=>.ok (.nx (ρ.set i (.val d)))
def zEw(i:Nat)(f:Fv)(ρ:Rho):Res Fl:=(f ρ).bind fun ds=>.ok (.nx (ρ.set i (.own ds)))
def sB(e:Ev)(ρ:Rho):Res Fl:=(e ρ).bind fun _=>.ok (.nx ρ)
def fM(e:Ev)(ρ:Rho):Res Fl:=(e (ρ.map Sl.frz)).bind fun d=>.ok (.ret (.v d))
def lG(f:Fv)(ρ:Rho):Res Fl:=(f (ρ.map Sl.frz)).bind fun ds=>.ok (.ret (.f ds))
def gM(i:Nat)(ρ:Rho):Res Fl:=match ρ[i]? with
 | some (.own ds)=>.ok (.ret (.f ds))
 | _=>.no
def sRetN(_ρ:Rho):Res Fl:=.ok (.ret (.v .non))
def kZ(c:Str)(a:Fv)(ρ:Rho):Res Fl:=(a ρ).bind fun ds=>if ds.length<=16777216 then .err c else .no
def sNo(_ρ:Rho):Res Fl:=.no
def zIA(i:Nat)(e:Ev)(ρ:Rho):Res Fl:=match ρ[i]? with
 | some (.own ds)=>(e ρ).bind fun d=>if ds.length<16777216 then .ok (.nx (ρ.set i (.own (ds++[d])))) else .no
 | _=>.no
def zJq(i:Nat)(e:Fv)(ρ:Rho):Res Fl:=match ρ[i]? with
 | some (.own ds)=>(e ρ).bind fun es=>if ds.length+es.length<=16777216 then .ok (.nx (ρ.set i (.own (ds++es)))) else .no
 | _=>.no
def zEM(i:Nat)(k e:Ev)(ρ:Rho):Res Fl:=(e ρ).bind fun d=>match ρ[i]? with
 | some (.own ds)=>(k ρ).bind fun j=>match j with
  | .int j=>if 0<=j/\j<ds.length then .ok (.nx (ρ.set i (.own (ds.set j.toNat d)))) else if -(ds.length:Int)<=j/\j<0 then .ok (.nx (ρ.set i (.own (ds.set (j+ds.length).toNat d)))) else .no
  | _=>.no
 | _=>.no
def zOO(i:Nat)(o:Op2)(e:Ev)(ρ:Rho):Res Fl:=match ρ[i]? with
 | some (.val x)=>(e ρ).bind fun y=>(o x y).bind fun d=>.ok (.nx (ρ.set i (.val d)))
 | _=>.no
def sFrz(s:Sv)(ρ:Rho):Res Fl:=s (ρ.map Sl.frz)
def frzAt(i:Nat)(ρ:Rho):Rho:=match ρ[i]? with
 | some (.own ds)=>ρ.set i (.val (.lst ds))
 | _=>ρ
def sFrzAt(i:Nat)(s:Sv)(ρ:Rho):Res Fl:=s (frzAt i ρ)
def noErr{s:Type}:Res s->Res s
 | .err _=>.no
 | r=>r
def zQe(i:Nat)(m:Mir)(a:Fv)(ρ:Rho):Res Fl:=(noErr (a ρ)).bind fun ds=>(m ds).bind fun r=>.ok (.nx (ρ.set i (.val r.d)))
abbrev Gv:=D->Rho->Res Rho
def gName(i:Nat)(d:D)(ρ:Rho):Res Rho:=.ok (ρ.set i (.val d))
def zAd(gs:List D->Rho->Res Rho)(d:D)(ρ:Rho):Res Rho:=match d with
 | .tup ds=>gs ds ρ
 | _=>.no
def xK(ds:List D)(ρ:Rho):Res Rho:=match ds with
 | []=>.ok ρ
 | _=>.no
def eE(g:Gv)(r:List D->Rho->Res Rho)(ds:List D)(ρ:Rho):Res Rho:=match ds with
 | d::ds=>(g d ρ).bind fun ρ'=>r ds ρ'
 | []=>.no
def zSu(g:Gv)(f:Ev)(ρ:Rho):Res Fl:=(f ρ).bind fun d=>(g d ρ).bind fun ρ'=>.ok (.nx ρ')
def loop(g:Gv)(b:Sv):List D->Rho->Res Fl
 | [],ρ=>.ok (.nx ρ)
 | d::ds,ρ=>(g d ρ).bind fun ρ1=>(b ρ1).bind fun f=>match f with
  | .nx ρ2=>loop g b ds ρ2
  | .ctn ρ2=>loop g b ds ρ2
  | .brk ρ2=>.ok (.nx ρ2)
  | .ret r=>.ok (.ret r)
def vI(it:Fv)(g:Gv)(b:Sv)(ρ:Rho):Res Fl:=(it ρ).bind fun ds=>loop g b ds ρ
def sT(e:Ev)(ρ:Rho):Res (List D):=(e ρ).bind fun d=>match d with
 | .lst ds=>.ok ds
 | .tup ds=>.ok ds
 | _=>.no
def zNx(e:Ev)(ρ:Rho):Res (List D):=(e ρ).bind fun d=>match d with
 | .tup ds=>.ok ds
 | _=>.no
def rng(lo:Int)(n:Nat)(c:Int):List D:=(List.range n).map fun(i:Nat)=>D.int (lo+(i:Int)*c)
def zCv(a:Fv)(ρ:Rho):Res (List D):=(a ρ).bind fun ds=>match ds with
 | [.int j]=>if -(2^62)<=j/\j<2^62 then .ok (rng 0 j.toNat 1) else .no
 | _=>.no
def zFu(a:Fv)(ρ:Rho):Res (List D):=(a ρ).bind fun ds=>match ds with
 | [.int i,.int j]=>if -(2^62)<=i/\i<2^62/\-(2^62)<=j/\j<2^62 then .ok (rng i (j-i).toNat 1) else .no
 | _=>.no
def wh(t:Tv)(b:Sv):Nat->Rho->Res Fl
 | 0,_=>.no
 | n+1,ρ=>(t ρ).bind fun c=>if c=true then (b ρ).bind fun f=>match f with
   | .nx ρ2=>wh t b n ρ2
   | .ctn ρ2=>wh t b n ρ2
   | .brk ρ2=>.ok (.nx ρ2)
   | .ret r=>.ok (.ret r)
  else .ok (.nx ρ)
open Classical in
def fA(t:Tv)(b:Sv)(ρ:Rho):Res Fl:=if h:∃ n,wh t b n ρ≠.no then wh t b h.choose ρ else .no
def yT{t:Tv}{b:Sv}:∀ {n:Nat} {ρ:Rho} {k:Nat},wh t b n ρ≠.no->n<=k->wh t b k ρ=wh t b n ρ
 | 0,ρ,k,h,_=>absurd rfl h
 | n+1,ρ,0,h,l=>absurd l (by omega)
 | n+1,ρ,k+1,h,l=>by
  rw[wh,wh];rw[wh] at h
  cases ht:t ρ with
  | no=>rfl
  | err c=>rfl
  | ok c=>
   rw[ht] at h;simp only[Res.bind] at h ⊢
   cases c with
   | false=>rfl
   | true=>
    simp only[if_true] at h ⊢
    cases hb:b ρ with
    | no=>rfl
    | err c=>rfl
    | ok f=>
     rw[hb] at h
     cases f with
     | nx ρ2=>exact yT h (by omega)
     | ctn ρ2=>exact yT h (by omega)
     | brk ρ2=>rfl
     | ret r=>rfl
def gB{t:Tv}{b:Sv}{n:Nat}{ρ:Rho}(h:wh t b n ρ≠.no):fA t b ρ=wh t b n ρ:=by
 have hx:∃ n,wh t b n ρ≠.no:=⟨n,h⟩;unfold fA;rw[J6 hx];rcases Y8 n hx.choose with l | l
 ·exact yT h l
 ·exact(yT hx.choose_spec l).symm
def oI{t:Tv}{b:Sv}{ρ:Rho}(h:fA t b ρ≠.no):∃ n,fA t b ρ=wh t b n ρ:=by
 unfold fA at h ⊢
 split
 ·exact⟨_,rfl⟩
 ·rename_i hx;rw[dif_neg hx] at h;exact absurd rfl h
def zBg{t:Tv}{b:Sv}{ρ:Rho}:fA t b ρ=((t ρ).bind fun c=>if c=true then (b ρ).bind fun f=>match f with
   | .nx ρ2=>fA t b ρ2
   | .ctn ρ2=>fA t b ρ2
   | .brk ρ2=>.ok (.nx ρ2)
   | .ret r=>.ok (.ret r)
  else .ok (.nx ρ)):=by
 have key:∀ n,wh t b (n+1) ρ≠.no->wh t b (n+1) ρ=((t ρ).bind fun c=>if c=true then (b ρ).bind fun f=>match f with
   | .nx ρ2=>fA t b ρ2
   | .ctn ρ2=>fA t b ρ2
   | .brk ρ2=>.ok (.nx ρ2)
   | .ret r=>.ok (.ret r)
  else .ok (.nx ρ)):=by
  intro n h;rw[wh] at h ⊢
  cases ht:t ρ with
  | no=>rfl
  | err c=>rfl
  | ok c=>
   rw[ht] at h;simp only[Res.bind] at h ⊢
   cases c with
   | false=>rfl
   | true=>
    simp only[if_true] at h ⊢
    cases hb:b ρ with
    | no=>rfl
    | err c=>rfl
    | ok f=>
     rw[hb] at h
     cases f with
     | nx ρ2=>exact(gB h).symm
     | ctn ρ2=>exact(gB h).symm
     | brk ρ2=>rfl
     | ret r=>rfl
 by_cases h:fA t b ρ=.no
 ·rw[h]
  cases ht:t ρ with
  | no=>rfl
  | err c=>
   exfalso
   have q:wh t b 1 ρ=.err c:=by rw[wh,ht];rfl
   have:=gB (t:=t) (b:=b) (ρ:=ρ) (n:=1) (by rw[q];exact fun z=>by cases z)
   rw[h,q] at this;cases this
  | ok c=>
   simp only[Res.bind]
   cases c with
   | false=>
    exfalso
    have q:wh t b 1 ρ=.ok (.nx ρ):=by rw[wh,ht];rfl
    have:=gB (t:=t) (b:=b) (ρ:=ρ) (n:=1) (by rw[q];exact fun z=>by cases z)
    rw[h,q] at this;cases this
   | true=>
    simp only[if_true]
    cases hb:b ρ with
    | no=>rfl
    | err c=>
     exfalso
     have q:wh t b 1 ρ=.err c:=by rw[wh,ht];simp[Res.bind,hb]
     have:=gB (t:=t) (b:=b) (ρ:=ρ) (n:=1) (by rw[q];exact fun z=>by cases z)
     rw[h,q] at this;cases this
    | ok f=>
     have again:∀ ρ2,(f=.nx ρ2∨f=.ctn ρ2)->fA t b ρ2=.no:=by
      intro ρ2 hf;by_cases h2:fA t b ρ2=.no
      ·exact h2
      ·exfalso
       obtain⟨n,e⟩:=oI h2
       have q:wh t b (n+1) ρ=wh t b n ρ2:=by
        rw[wh,ht];simp only[Res.bind,if_true,hb];rcases hf with rfl | rfl<;>rfl
       have h3:wh t b (n+1) ρ≠.no:=by rw[q,<-e];exact h2
       have:=gB h3
       rw[h] at this;exact h3 this.symm
     cases f with
     | nx ρ2=>exact(again ρ2 (.inl rfl)).symm
     | ctn ρ2=>exact(again ρ2 (.inr rfl)).symm
     | brk ρ2=>
      exfalso
      have q:wh t b 1 ρ=.ok (.nx ρ2):=by rw[wh,ht];simp[Res.bind,hb]
      have:=gB (t:=t) (b:=b) (ρ:=ρ) (n:=1) (by rw[q];exact fun z=>by cases z)
      rw[h,q] at this;cases this
     | ret r=>
      exfalso
      have q:wh t b 1 ρ=.ok (.ret r):=by rw[wh,ht];simp[Res.bind,hb]
      have:=gB (t:=t) (b:=b) (ρ:=ρ) (n:=1) (by rw[q];exact fun z=>by cases z)
      rw[h,q] at this;cases this
 ·obtain⟨n,e⟩:=oI h
  cases n with
  | zero=>rw[e] at h;exact absurd rfl h
  | succ n=>rw[e];exact key n (by rw[<-e];exact h)
def zNt(f:Fv)(g:Ev)(ρ:Rho):Res (List D):=(f ρ).bind fun ds=>(g ρ).bind fun d=>match d with
 | .int k=>if 0<=k/\k<2^62/\ds.length*k.toNat<=16777216 then .ok (List.replicate k.toNat ds).flatten else .no
 | _=>.no
def lO(_ρ:Rho):Res Bool:=.ok true
def fV(t:Tv)(f:Ev)(ρ:Rho):List D->Res (List D)
 | []=>.ok []
 | d::ds=>(noErr (t (ρ++[.val d]))).bind fun c=>if c=true then (noErr (f (ρ++[.val d]))).bind fun e=>(fV t f ρ ds).bind fun es=>.ok (e::es) else fV t f ρ ds
def oA(it:Fv)(t:Tv)(f:Ev)(ρ:Rho):Res (List D):=(it ρ).bind fun ds=>if ds.length<=16777215 then fV t f ρ ds else .no
def start(n:Nat)(ds:List D):Rho:=ds.map Sl.val++List.replicate (n-ds.length) .un
def fin:Fl->Res Rt
 | .nx _=>.ok (.v .non)
 | .ret r=>.ok r
 | .brk _=>.no
 | .ctn _=>.no
def fn(p n:Nat)(b:Sv)(ds:List D):Res Rt:=if ds.length=p then (b (start n ds)).bind fin else .no
def zIx:D->Option (List D)
 | .lst ds=>some ds
 | .tup ds=>some ds
 | _=>none
def lK:List D->List D->List D
 | a::r,b::q=>.tup [a,b]::lK r q
 | _,_=>[]
def zNv(a:Fv)(ρ:Rho):Res (List D):=(a ρ).bind fun ds=>match ds with
 | [x,y]=>match zIx x,zIx y with
  | some xs,some ys=>.ok (lK xs ys)
  | _,_=>.no
 | _=>.no
def iI:Nat->List D->List D
 | _,[]=>[]
 | n,d::r=>.tup [.int n,d]::iI (n+1) r
def zGm(e:Ev)(ρ:Rho):Res (List D):=(e ρ).bind fun d=>match d with
 | .lst ds=>.ok (iI 0 ds)
 | .tup ds=>.ok (iI 0 ds)
 | _=>.no
def fN(f:Ev)(ρ:Rho):List D->Res (List D)
 | []=>.ok []
 | .tup [a,b]::ds=>(noErr (f (ρ++[.val a,.val b]))).bind fun e=>(fN f ρ ds).bind fun es=>.ok (e::es)
 | _::_=>.no
def xD(it:Fv)(f:Ev)(ρ:Rho):Res (List D):=(it ρ).bind fun ds=>if ds.length<=16777215 then fN f ρ ds else .no
def slQ(l h:Option Int):D->Res D
 | .lst ds=>.ok (.lst (eG ds l h))
 | .tup ds=>.ok (.tup (eG ds l h))
 | _=>.no
def zQx(a:Ev)(lo hi:Ov)(ρ:Rho):Res D:=(a ρ).bind fun x=>(lo ρ).bind fun l=>(hi ρ).bind fun h=>slQ l h x
def zSb:D->Option Str
 | .str x=>some x
 | .int i=>if i.natAbs.log2<1920 then some (toString i) else none
 | _=>none
def zSo:Str->List D->Option Str
 | a,[]=>some a
 | a,d::r=>match zSb d with
  | some x=>if x.length<=sizeLine/\(a++x).length<=sizeLine then zSo (a++x) r else none
  | none=>none
def lI:List D->Option (List Int)
 | []=>some []
 | .int i::ds=>match lI ds with
  | some ns=>some (i::ns)
  | none=>none
 | _::_=>none
def zBW:List D->Res D
 | [.lst ds]=>(match lI ds with
  | some ns=>.ok (.int ns.sum)
  | none=>.no)
 | [.tup ds]=>(match lI ds with
  | some ns=>.ok (.int ns.sum)
  | none=>.no)
 | _=>.no
def chO:Option Nat->Res D
 | some c=>.ok (.str ⟨#[c]⟩)
 | none=>.no
def slS(l u:Option Int):D->Res D
 | .str x=>if x.length<=sizeLine then .ok (.str (Txt.slice x l u)) else .no
 | _=>.no
def qB(T:List (Str×Str)):D->Res D
 | .str x=>.ok (.bl (!(T.lookup x).isSome))
 | _=>.no
def zNs:Option Str->Res D
 | some y=>.ok (.str y)
 | none=>.no
def wQ(T:List (Str×Str)):D->Res D
 | .str x=>zNs (T.lookup x)
 | _=>.no
def yZ:Int->List Int->Int
 | a,[]=>a
 | a,b::r=>yZ (if b > a then b else a) r
def zCP:List D->Res D
 | [.lst ds,.int d]=>(match lI ds with | some (a::r)=>.ok (.int (yZ a r)) | some []=>.ok (.int d) | none=>.no)
 | _=>.no
end L3
namespace L3
open PySem
def hG(kz:List Int)(r:List Nat):Prop:=r.Perm (List.range kz.length)/\r.Pairwise (fun i j=>kz.getD i 0<=kz.getD j 0)/\r.Pairwise (fun i j=>kz.getD i 0=kz.getD j 0->i<j)
def zIv(b:Int):D->Res Int
 | .tup [.int t,.int d]=>if lL d && iJ t (b.fdiv d) then .ok (t*b.fdiv d) else .no
 | _=>.no
def oG(b:Int):List D->Res (List Int)
 | []=>.ok []
 | d::r=>(zIv b d).bind fun k=>(oG b r).bind fun ks=>.ok (k::ks)
def mV(r:List Nat):List D:=r.map fun i:Nat=>D.int (i:Int)
def zMt{b k:Int}{d:D}(h:zIv b d=.ok k):∃ t c,d=.tup [.int t,.int c]/\lL c=true/\iJ t (b.fdiv c)=true/\k=t*b.fdiv c:=by
 unfold zIv at h;split at h
 ·rename_i t c
  split at h
  ·rename_i hc
   rw[Vh] at hc;cases h;exact⟨t,c,rfl,hc.1,hc.2,rfl⟩
  ·cases h
 ·cases h
def zC{b:Int}:∀ {rows:List D} {kz:List Int},oG b rows=.ok kz->kz.length=rows.length/\∀(j:Nat)(k:Int),kz[j]?=some k->∃ d,rows[j]?=some d/\zIv b d=.ok k
 | [],kz,h=>by cases h;exact⟨rfl,fun j k z=>by simp at z⟩
 | d::r,kz,h=>by
  unfold oG at h
  cases e:zIv b d with
  | no=>rw[e] at h;cases h
  | err c=>rw[e] at h;cases h
  | ok k0=>
   rw[e] at h;have h':(oG b r).bind (fun ks=>Res.ok (k0::ks))=.ok kz:=h
   cases e2:oG b r with
   | no=>rw[e2] at h';cases h'
   | err c=>rw[e2] at h';cases h'
   | ok ks=>
    rw[e2] at h';cases h'
    obtain⟨h1,h2⟩:=zC e2;refine⟨by rw[Qm,Qm,h1],fun j k z=>?_⟩
    cases j with
    | zero=>simp at z;subst z;exact⟨d,rfl,e⟩
    | succ j=>exact h2 j k (by simpa using z)
def zDl(ρ:Rho):Res (List Int):=match ρ[0]?,ρ[1]? with
 | some (Sl.val (.lst rows)),some (Sl.val (.int b))=>if rows.length<64 then oG b rows else .no
 | _,_=>.no
def yL(sa sb:Sv)(ds:List D):Res (List Int):=if ds.length=1 then (match sa (L3.start 3 ds) with
 | .ok (.nx ρ)=>(match sb ρ with
  | .ok (.nx ρ')=>zDl ρ'
  | _=>.no)
 | _=>.no) else .no
def zDq{b:Int}:∀ {rows:List D} {c:Str},oG b rows≠.err c
 | [],c,h=>by cases h
 | d::r,c,h=>by
  unfold oG at h
  have k0:∀ c,zIv b d≠.err c:=fun c z=>by
   unfold zIv at z;split at z
   ·split at z<;>cases z
   ·cases z
  cases e:zIv b d with
  | no=>rw[e] at h;cases h
  | err c'=>exact k0 _ e
  | ok k=>
   rw[e] at h;have h':(oG b r).bind (fun ks=>Res.ok (k::ks))=.err c:=h
   cases e2:oG b r with
   | no=>rw[e2] at h';cases h'
   | err c'=>exact zDq e2
   | ok ks=>rw[e2] at h';cases h'
def zRo{sa sb:Sv}(ds:List D)(c:Str):yL sa sb ds≠.err c:=fun h=>by
 unfold yL zDl at h;split at h
 ·split at h
  ·split at h
   ·split at h
    ·split at h
     ·exact zDq h
     ·cases h
    ·cases h
   ·cases h
  ·cases h
 ·cases h
def zOn{sa sb:Sv}(ds:List D)(h:yL sa sb ds≠.no):ds.length=1:=by
 unfold yL at h;split at h
 ·assumption
 ·exact absurd rfl h
open Classical in
def oF(kz:List Int)(F:List Nat->Res Fl):Res Fl:=if h:∃ x,∀ r,hG kz r->F r=x then h.choose else .no
def zEv{kz:List Int}{F:List Nat->Res Fl}{π:List Nat}(h:oF kz F≠.no)(hπ:hG kz π):F π=oF kz F:=by
 unfold oF at h ⊢
 split at h
 ·rename_i z;rw[J6 z];exact z.choose_spec π hπ
 ·exact absurd rfl h
def zEn{kz:List Int}{F:List Nat->Res Fl}{x:Res Fl}{π:List Nat}(hπ:hG kz π)(h:∀ π,hG kz π->F π=x):oF kz F=x:=by
 have z:∃ x,∀ π,hG kz π->F π=x:=⟨x,h⟩;unfold oF;rw[J6 z,<-z.choose_spec π hπ];exact h π hπ
def zJR(fs:Fv)(kf:List D->Res (List Int))(g:Gv)(b r:Sv):Sv:=fun ρ=>((fs ρ).bind kf).bind fun kz=>oF kz fun s=>bC (fun ρ=>loop g b (mV s) ρ) r ρ
abbrev Tri:=D×List D×List D
def zOB(kz:List Int)(i j:Nat):Bool:=decide (kz.getD i 0<kz.getD j 0) || decide (kz.getD i 0=kz.getD j 0) && decide (i<=j)
def pD{kz:List Int}{i j:Nat}:zOB kz i j=true ↔ kz.getD i 0<kz.getD j 0∨kz.getD i 0=kz.getD j 0/\i<=j:=by
 unfold zOB;rw[Xc,Vh,decide_eq_true_eq,decide_eq_true_eq,decide_eq_true_eq]
def zDj(kz:List Int):List Nat:=(List.range kz.length).mergeSort (zOB kz)
def zFD(kz:List Int):(zDj kz).Pairwise fun i j=>zOB kz i j=true:=
 W8 (le:=zOB kz) (fun a b c h1 h2=>by rw[pD] at *;omega) (fun a b=>by rw[Xc,pD,pD];omega) _
def zIh(kz:List Int):hG kz (zDj kz):=by
 have p:(zDj kz).Perm (List.range kz.length):=W9 _ _;have nd:(zDj kz).Nodup:=p.nodup_iff.mpr List.nodup_range;have w:=zFD kz;refine⟨p,w.imp fun h=>?_,(List.Pairwise.and w nd).imp fun h=>?_⟩
 ·rw[pD] at h;omega
 ·obtain⟨h1,h2⟩:=h
  rw[pD] at h1;intro e;omega
def zGa(ce:Str)(b h:Sv)(ρ:Rho):Res Fl:=match b ρ with
 | .err c=>if (c==ce)=true then (match h ρ with
   | .ok (.ret r)=>.ok (.ret r)
   | _=>.no) else .no
 | r=>r
def zNw:Res Fl->Res Fl
 | .ok (.ret r)=>.ok (.ret r)
 | _=>.no
def zQj(ce:Str)(h:Sv)(ρ:Rho):Res Fl->Res Fl
 | .err c=>if (c==ce)=true then zNw (h ρ) else .no
 | .ok f=>.ok f
 | .no=>.no
def sTryN_at{ce:Str}{b h:Sv}{ρ:Rho}:zGa ce b h ρ=zQj ce h ρ (b ρ):=by
 unfold zGa zQj
 cases b ρ with
 | ok f=>rfl
 | no=>rfl
 | err c=>
  show(if (c==ce)=true then _ else _)=if (c==ce)=true then _ else _
  congr 1
def tryN_ok{ce:Str}{h:Sv}{ρ:Rho}{f:Fl}:zQj ce h ρ (.ok f)=.ok f:=rfl
def zJN{ce:Str}{h:Sv}{ρ:Rho}:zQj ce h ρ (.err ce)=zNw (h ρ):=by
 show(if (ce==ce)=true then zNw (h ρ) else .no)=_
 rw[Jj (beq_self_eq_true ce)]
def retO_r{r:Rt}:zNw (.ok (.ret r))=.ok (.ret r):=rfl
def zEH(i:Nat)(a b m:Ev)(ρ:Rho):Res Fl:=match ρ[i]? with
 | some (.own (y::r))=>(a (ρ.set i (.own r))).bind fun x=>(qX y x).bind fun u=>(b (ρ.set i (.own r))).bind fun z=>(rA u z).bind fun w=>(m (ρ.set i (.own r))).bind fun k=>(kL w k).bind fun v=>if r.length<16777216 then .ok (.nx (ρ.set i (.own (r++[v])))) else .no
 | _=>.no
end L3
namespace Fq
def zDo{a b:Int}(ha:0<=a)(hb:0<b):Int.gcd b (a % b)=Int.gcd a b:=by
 obtain⟨m,rfl⟩:=Y9 ha;obtain⟨n,rfl⟩:=Y9 (Xs hb);show Nat.gcd n (m % n)=Nat.gcd m n
 rw[Nat.gcd_comm n (m % n),Nat.gcd_comm m n,Nat.gcd_rec n m]
def dv(t b:Int):Int:=if b<0 then -(Int.gcd t b:Int) else (Int.gcd t b:Int)
def zLO{t b:Int}(hb:b≠0):0<(Int.gcd t b:Int):=by
 have h:Int.gcd t b≠0:=fun h=>hb (Int.gcd_eq_zero_iff.mp h).2
 omega
def zND{t b:Int}(hb:b≠0):dv t b≠0:=by
 have:=zLO (t:=t) hb
 unfold dv;split<;>omega
def xZ(t b:Int):dv t b ∣ t:=by
 unfold dv;split
 ·exact Int.neg_dvd.mpr (Ua ..)
 ·exact Ua ..
def zDA(t b:Int):dv t b ∣ b:=by
 unfold dv;split
 ·exact Int.neg_dvd.mpr (Ub ..)
 ·exact Ub ..
def oD{t d:Int}(h:d ∣ t):t.fdiv d=t / d:=by
 rw[Int.fdiv_eq_ediv];simp[h]
def zBK{t b:Int}(hb:b≠0):t.fdiv (dv t b)=(Rat.divInt t b).num:=by
 rw[oD (xZ t b),Rat.num_divInt,Int.gcd_comm b t];unfold dv;rcases Int.lt_trichotomy b 0 with h | h | h
 ·rw[Jj h,Int.sign_eq_neg_one_of_neg h,Int.ediv_neg]
  have:(-1:Int)*t=-t:=by omega
  rw[this,Qaa (Ua ..)]
 ·exact absurd h hb
 ·rw[Jk (by omega),Int.sign_eq_one_of_pos h,U7]
def zBP{t b:Int}(hb:b≠0):b.fdiv (dv t b)=((Rat.divInt t b).den:Int):=by
 rw[oD (zDA t b),Rat.den_divInt,Jk hb,Int.gcd_comm b t];unfold dv;rcases Int.lt_trichotomy b 0 with h | h | h
 ·rw[Jj h,Int.ediv_neg,Int.natCast_ediv]
  have e:((b.natAbs:Nat):Int)=-b:=by omega
  rw[e,Qaa (Ub ..)]
 ·exact absurd h hb
 ·rw[Jk (by omega),Int.natCast_ediv]
  have e:((b.natAbs:Nat):Int)=b:=by omega
  rw[e]
def fL(q:Rat):(q.den:Int)≠0:=by have:=q.den_nz;omega
def dZ(q:Rat):(0:Int)<(q.den:Int):=by have:=q.den_nz;omega
def zFx(p q:Rat):Rat.divInt (p.num*q.den+q.num*p.den) (p.den*q.den)=p+q:=by
 rw[<-Rat.divInt_add_divInt _ _ (fL p) (fL q),Xd,Xd]
def zKn(p q:Rat):Rat.divInt (p.num*q.den-q.num*p.den) (p.den*q.den)=p-q:=by
 rw[<-Rat.divInt_sub_divInt _ _ (fL p) (fL q),Xd,Xd]
def zLa(p q:Rat):Rat.divInt (p.num*q.num) (p.den*q.den)=p*q:=by
 rw[<-U8,Xd,Xd]
def zHX(p q:Rat):Rat.divInt (p.num*q.den) (p.den*q.num)=p / q:=by
 rw[<-U8,Xd,Uc,Rat.inv_def]
def zKB{q:Rat}:q.num≠0 ↔ q≠0:=by
 constructor
 ·intro h e;exact h (by rw[e];rfl)
 ·intro h e;exact h (Rat.num_eq_zero.mp e)
def Sz(n:Nat)(q:Rat):Prop:=q.num.natAbs<2^n/\q.den<2^n
def Sz.mono{m n:Nat}{q:Rat}(h:Sz m q)(l:m<=n):Sz n q:=
 ⟨Qo h.1 (Vw (by decide) l),Qo h.2 (Vw (by decide) l)⟩
def zNQ{t b:Int}(hb:b≠0):(Rat.divInt t b).num.natAbs<=t.natAbs:=by
 rw[<-zBK hb,oD (xZ t b),Int.natAbs_ediv_of_dvd (xZ t b)];exact Nat.div_le_self ..
def zDK{t b:Int}(hb:b≠0):(Rat.divInt t b).den<=b.natAbs:=by
 rw[Rat.den_divInt,Jk hb];exact Nat.div_le_self ..
def Sz.of{n:Nat}{t b:Int}(hb:b≠0)(ht:t.natAbs<2^n)(h:b.natAbs<2^n):Sz n (Rat.divInt t b):=
 ⟨Xe (zNQ hb) ht,Xe (zDK hb) h⟩
def fO{a b:Int}{m n:Nat}(ha:a.natAbs<2^m)(hb:b.natAbs<2^n):(a*b).natAbs<2^(m+n):=by
 rw[Int.natAbs_mul,Nat.pow_add];exact Nat.mul_lt_mul'' ha hb
def zPv{a b:Int}{m:Nat}(ha:a.natAbs<2^m)(hb:b.natAbs<2^m):(a+b).natAbs<2^(m+1):=by
 rw[Nat.pow_succ];omega
def zPE{a b:Int}{m:Nat}(ha:a.natAbs<2^m)(hb:b.natAbs<2^m):(a-b).natAbs<2^(m+1):=by
 rw[Nat.pow_succ];omega
def Sz.d{n:Nat}{q:Rat}(h:Sz n q):((q.den:Int)).natAbs<2^n:=h.2
def Sz.add{m n:Nat}{p q:Rat}(hp:Sz m p)(hq:Sz n q):Sz (m+n+1) (p+q):=by
 rw[<-zFx];refine Sz.of (by have:=dZ p;have:=dZ q;exact Xt (fL p) (fL q)) (zPv (fO hp.1 hq.d) ?_) ?_
 ·rw[U6 m n];exact fO hq.1 hp.d
 ·exact Qo (fO hp.d hq.d) (Vw (by decide) (by omega))
def Sz.sub{m n:Nat}{p q:Rat}(hp:Sz m p)(hq:Sz n q):Sz (m+n+1) (p-q):=by
 rw[<-zKn];refine Sz.of (Xt (fL p) (fL q)) (zPE (fO hp.1 hq.d) ?_) ?_
 ·rw[U6 m n];exact fO hq.1 hp.d
 ·exact Qo (fO hp.d hq.d) (Vw (by decide) (by omega))
def Sz.mul{m n:Nat}{p q:Rat}(hp:Sz m p)(hq:Sz n q):Sz (m+n) (p*q):=by
 rw[<-zLa];exact Sz.of (Xt (fL p) (fL q)) (fO hp.1 hq.1) (fO hp.d hq.d)
def Sz.div{m n:Nat}{p q:Rat}(hp:Sz m p)(hq:Sz n q)(h:q≠0):Sz (m+n) (p / q):=by
 rw[<-zHX];exact Sz.of (Xt (fL p) (zKB.mpr h)) (fO hp.1 hq.d) (fO hp.d hq.1)
end Fq
namespace Fr
open L3 PySem Fq
local macro_rules | `(⋯)=>`(by omega)
def zKO{t:Tv}{b:Sv}{ρ:Rho}(P:Rho->Prop)(r:Rho->Nat)(Q:Res Fl->Prop)(h0:P ρ)
  (step:∀ ρ,P ρ->(t ρ=.ok false/\Q (.ok (.nx ρ)))∨(t ρ=.ok true/\∃ ρ',b ρ=.ok (.nx ρ')/\P ρ'/\r ρ' < r ρ)):Q (fA t b ρ):=by
 have main:∀ n ρ,r ρ<=n->P ρ->Q (fA t b ρ):=by
  intro n
  induction n with
  | zero=>
   intro ρ hn hp;rw[zBg];rcases step ρ hp with⟨h1,h2⟩ | ⟨h1,ρ',h2,h3,h4⟩
   ·rw[h1];exact h2
   ·omega
  | succ n ih=>
   intro ρ hn hp;rw[zBg];rcases step ρ hp with⟨h1,h2⟩ | ⟨h1,ρ',h2,h3,h4⟩
   ·rw[h1];exact h2
   ·rw[h1]
    simp only[Res.bind,if_true,h2];exact ih ρ' ⋯ h3
 exact main _ ρ (Qd _) h0
def zHd{i:Int}{m:Nat}(h:i.natAbs<2^m):nb i<=m+1:=zQY (Qo h (Vw (by decide) ⋯)) ⋯
def cB{i j:Int}{m n:Nat}(hi:i.natAbs<2^m)(hj:j.natAbs<2^n)(h:m+n<=100000000):iJ i j=true:=by
 unfold iJ;have h1:=zHd hi;have h2:=zHd hj;rw[Xc];exact .inr (J5 ⋯)
def zMP{i j:Int}(h1:-(2^64)<j)(h2:j<2^64):iJ i j=true:=by
 unfold iJ;rw[Xc,Xc];exact .inl (.inr (by rw[J5 h1,J5 h2];rfl))
def zMe{i j:Int}(h1:-(2^64)<i)(h2:i<2^64):iJ i j=true:=by
 unfold iJ;rw[Xc,Xc];exact .inl (.inl (by rw[J5 h1,J5 h2];rfl))
def sO{j:Int}{m:Nat}(h0:j≠0)(hj:j.natAbs<2^m)(h:m<=8999):lL j=true:=by
 unfold lL;have h1:=zHd hj;rw[J5 h0,J5 (show nb j<=9000 by omega)];rfl
def okDiv_lit{j:Int}(h0:0<j)(h:j<1000000000000000000):lL j=true:=sO (m:=64) ⋯ ⋯ (by decide)
def okMul_litr{i j:Int}(h1:-1000000000000000000<j)(h2:j<1000000000000000000):iJ i j=true:=zMP ⋯ ⋯
def okMul_litl{i j:Int}(h1:-1000000000000000000<i)(h2:i<1000000000000000000):iJ i j=true:=zMe ⋯ ⋯
def p10(n:Nat):(0:Int)<10^n:=Yu (by decide)
def p10ne(n:Nat):((10:Int)^n=0)=False:=eq_false (by have:=p10 n;omega)
def p10pos2(n:Nat):(0:Int)<2*10^n:=by have:=p10 n;omega
def p10ne2(n:Nat):((2:Int)*10^n=0)=False:=eq_false (by have:=p10 n;omega)
def okp9:rJ 10 9=true:=by decide
def okp30:rJ 10 30=true:=by decide
def okp40:rJ 10 40=true:=by decide
def dq(q:Rat):D:=.tup [.int q.num,.int (q.den:Int)]
def dp(p:Rat×Rat):D:=.tup [dq p.1,dq p.2]
def eq_dq(p q:Rat):eqD (dq p) (dq q)=decide (p=q):=by
 show((p.num==q.num) && (((p.den:Int)==(q.den:Int)) && true))=decide (p=q)
 by_cases h:p=q
 ·subst h;simp
 ·rw[Ji h]
  by_cases h1:p.num=q.num
  ·have h2:p.den≠q.den:=fun e=>h (Rat.ext h1 e)
   have:((p.den:Int)==(q.den:Int))=false:=by simp;omega
   rw[this];simp
  ·simp[h1]
def dep_dq(q:Rat):dep (dq q)=1:=rfl
def ix_dq0(q:Rat):oIx (dq q) (.int 0)=.ok (.int q.num):=rfl
def ix_dq1(q:Rat):oIx (dq q) (.int 1)=.ok (.int (q.den:Int)):=rfl
def ty_dq(q:Rat):tyN (dq q) = "tuple" := rfl
def len_dq(q:Rat):lM [dq q]=.ok (.int 2):=rfl
def oEq_dq(p q:Rat):oEq (dq p) (dq q)=.ok (.bl (decide (p=q))):=by
 rw[<-eq_dq];rfl
def oNe_dq(p q:Rat):oNe (dq p) (dq q)=.ok (.bl (!decide (p=q))):=by
 rw[<-eq_dq];rfl
def noL_dq(q:Rat):noL (dq q)=true:=rfl
def zOs(p q:Rat×Rat):eqD (dp p) (dp q)=decide (p=q):=by
 show(eqD (dq p.1) (dq q.1) && (eqD (dq p.2) (dq q.2) && true))=decide (p=q)
 rw[eq_dq,eq_dq];obtain⟨a,b⟩:=p;obtain⟨c,d⟩:=q;simp
def dp_mk(a b:Rat):(.tup [dq a,dq b]:D)=dp (a,b):=rfl
def ix_dp0(p:Rat×Rat):oIx (dp p) (.int 0)=.ok (dq p.1):=rfl
def ix_dp1(p:Rat×Rat):oIx (dp p) (.int 1)=.ok (dq p.2):=rfl
def ty_dp(p:Rat×Rat):tyN (dp p) = "tuple" := rfl
def len_dp(p:Rat×Rat):lM [dp p]=.ok (.int 2):=rfl
def dep_dp(p:Rat×Rat):dep (dp p)=2:=rfl
def noL_dp(p:Rat×Rat):noL (dp p)=true:=rfl
def oEq_dp(p q:Rat×Rat):oEq (dp p) (dp q)=.ok (.bl (decide (p=q))):=by
 rw[<-zOs];rfl
def oNe_dp(p q:Rat×Rat):oNe (dp p) (dp q)=.ok (.bl (!decide (p=q))):=by
 rw[<-zOs];rfl
def fdiv_pos(a:Int){b:Int}(h:0<b):a.fdiv b=a / b:=U9 a ⋯
def fmod_pos(a:Int){b:Int}(h:0<b):a.fmod b=a % b:=Qab a ⋯
def zMz(a:Int){b:Int}(h:0<=b):a.fdiv b=a / b:=U9 a h
def zCd(a:Int){b:Int}(h:0<=b):a.fmod b=a % b:=Qab a h
def noLs_dps:∀ l:List (Rat×Rat),noLs (l.map dp)=true
 | []=>rfl
 | q::l=>by rw[Ql,noLs,noL_dp,noLs_dps l];rfl
def nE{r:Type}{l:List r}{i:Nat}{a:r}(h:l[i]?=some a):l.take (i+1)=l.take i++[a]:=by rw[Ud,h];rfl
def zPq{b:Int}(h:0<b):(.tup [.int 1,.int b]:D)=dq (Rat.divInt 1 b):=by
 have hb:b≠0:=by omega
 have e:Fq.dv 1 b=1:=by unfold Fq.dv;rw[Jk ⋯];simp
 unfold dq;rw[<-Fq.zBK hb,<-Fq.zBP hb,e];simp
def zPt(k:Int):(.tup [.int k,.int 1]:D)=dq (k:Rat):=rfl
end Fr
namespace L3
open PySem
def zDb(b:Sv):Fl->Res Fl
 | .nx ρ=>b ρ
 | .ret r=>.ok (.ret r)
 | .brk ρ=>.ok (.brk ρ)
 | .ctn ρ=>.ok (.ctn ρ)
def sSeq_at{a b:Sv}{ρ:Rho}:bC a b ρ=(a ρ).bind (zDb b):=by
 unfold bC;congr;funext f;cases f<;>rfl
def ifF(a b:Sv)(ρ:Rho):Bool->Res Fl
 | true=>a ρ
 | false=>b ρ
def sIf_at{t:Tv}{a b:Sv}{ρ:Rho}:sIf t a b ρ=(t ρ).bind (ifF a b ρ):=by
 unfold sIf;congr;funext c;cases c<;>rfl
def zQU(a b:Ev)(ρ:Rho):Bool->Res D
 | true=>a ρ
 | false=>b ρ
def eIf_at{t:Tv}{a b:Ev}{ρ:Rho}:eIf t a b ρ=(t ρ).bind (zQU a b ρ):=by
 unfold eIf;congr;funext c;cases c<;>rfl
def zQG(b:Ev)(ρ:Rho):D->Res D
 | .bl true=>b ρ
 | .bl false=>.ok (.bl false)
 | _=>.no
def eAnd_at{a b:Ev}{ρ:Rho}:zRK a b ρ=(a ρ).bind (zQG b ρ):=by
 unfold zRK;congr;funext c;cases c<;>try rfl
 rename_i c;cases c<;>rfl
def orF(b:Ev)(ρ:Rho):D->Res D
 | .bl true=>.ok (.bl true)
 | .bl false=>b ρ
 | _=>.no
def eOr_at{a b:Ev}{ρ:Rho}:eOr a b ρ=(a ρ).bind (orF b ρ):=by
 unfold eOr;congr;funext c;cases c<;>try rfl
 rename_i c;cases c<;>rfl
def opF(o:Op2)(b:Ev)(ρ:Rho)(x:D):Res D:=(b ρ).bind (o x)
def eOp_at{o:Op2}{a b:Ev}{ρ:Rho}:eOp o a b ρ=(a ρ).bind (opF o b ρ):=rfl
def consG(d:D)(ds:List D):Res (List D):=.ok (d::ds)
def consF(r:Fv)(ρ:Rho)(d:D):Res (List D):=(r ρ).bind (consG d)
def aCons_at{e:Ev}{r:Fv}{ρ:Rho}:aB e r ρ=(e ρ).bind (consF r ρ):=rfl
def tupF(ds:List D):Res D:=if ds.length<=16777216 then .ok (.tup ds) else .no
def eTup_at{a:Fv}{ρ:Rho}:qR a ρ=(a ρ).bind tupF:=rfl
def rtF(r:Rt):Res D:=.ok r.d
def callF(m:Mir)(ds:List D):Res D:=(m ds).bind rtF
def eCall_at{m:Mir}{a:Fv}{ρ:Rho}:aL m a ρ=(a ρ).bind (callF m):=rfl
def isTF(T:String)(d:D):Res D:=.ok (.bl (isT T d))
def eIsT_at{T:String}{a:Ev}{ρ:Rho}:zRS T a ρ=(a ρ).bind (isTF T):=rfl
def notNF(d:D):Res D:=.ok (.bl (!isNon d))
def eNotN_at{a:Ev}{ρ:Rho}:zEs a ρ=(a ρ).bind notNF:=rfl
def frzF(d:D):Res D:=if noL d=true then .ok d else .no
def eFrz_at{e:Ev}{ρ:Rho}:zEk e ρ=(e (ρ.map Sl.frz)).bind frzF:=rfl
def fLstF(ds:List D):Res (List D):=if ds.length<=16777216 then .ok ds else .no
def fLst_at{a:Fv}{ρ:Rho}:pL a ρ=(a ρ).bind fLstF:=rfl
def rtFF:Rt->Res (List D)
 | .f ds=>.ok ds
 | .v _=>.no
def fcallF(m:Mir)(ds:List D):Res (List D):=(m ds).bind rtFF
def fCall_at{m:Mir}{a:Fv}{ρ:Rho}:fF m a ρ=(a ρ).bind (fcallF m):=by
 unfold fF fcallF;congr
def zFl:List D->Res (List D)
 | [.lst ds]=>.ok ds
 | [.tup ds]=>.ok ds
 | _=>.no
def fListF_l{ds:List D}:zFl [.lst ds]=.ok ds:=rfl
def fListF_t{ds:List D}:zFl [.tup ds]=.ok ds:=rfl
def fList_at{a:Fv}{ρ:Rho}:zJF a ρ=(a ρ).bind zFl:=rfl
def catG(x y:D):Res (List D):=match x,y with
 | .lst ds,.lst es=>if ds.length+es.length<=16777216 then .ok (ds++es) else .no
 | _,_=>.no
def catF(b:Ev)(ρ:Rho)(x:D):Res (List D):=(b ρ).bind (catG x)
def fCat_at{a b:Ev}{ρ:Rho}:zNy a b ρ=(a ρ).bind (catF b ρ):=rfl
def efF(ds:List D):Res D:=.ok (.lst ds)
def eF_at{f:Fv}{ρ:Rho}:eF f ρ=(f ρ).bind efF:=rfl
def fFrzF(ds:List D):Res (List D):=if noLs ds=true then .ok ds else .no
def fFrz_at{f:Fv}{ρ:Rho}:zQi f ρ=(f (ρ.map Sl.frz)).bind fFrzF:=rfl
def oSF:D->Res (Option Int)
 | .int i=>.ok (some i)
 | _=>.no
def oS_at{e:Ev}{ρ:Rho}:oS e ρ=(e ρ).bind oSF:=by
 unfold oS;congr
def fSlH(x:D)(l h:Option Int):Res (List D):=match x with
 | .lst ds=>.ok (eG ds l h)
 | _=>.no
def fSlG(hi:Ov)(ρ:Rho)(x:D)(l:Option Int):Res (List D):=(hi ρ).bind (fSlH x l)
def fSlF(lo hi:Ov)(ρ:Rho)(x:D):Res (List D):=(lo ρ).bind (fSlG hi ρ x)
def fSl_at{a:Ev}{lo hi:Ov}{ρ:Rho}:fSl a lo hi ρ=(a ρ).bind (fSlF lo hi ρ):=rfl
def zSF(x:D)(l h:Option Int):Res D:=match x with
 | .tup ds=>if (eG ds l h).length<ds.length then .ok (.tup (eG ds l h)) else .no
 | _=>.no
def blF:D->Res Bool
 | .bl b=>.ok b
 | _=>.no
def tVal_at{e:Ev}{ρ:Rho}:eD e ρ=(e ρ).bind blF:=by
 unfold eD;congr
def notF(b:Bool):Res Bool:=.ok (!b)
def tNotB_at{t:Tv}{ρ:Rho}:zLZ t ρ=(t ρ).bind notF:=rfl
def zLK(u:Tv)(ρ:Rho):Bool->Res Bool
 | true=>u ρ
 | false=>.ok false
def tAndB_at{t u:Tv}{ρ:Rho}:zCa t u ρ=(t ρ).bind (zLK u ρ):=by
 unfold zCa;congr;funext c;cases c<;>rfl
def zRe(u:Tv)(ρ:Rho):Bool->Res Bool
 | true=>.ok true
 | false=>u ρ
def tOrB_at{t u:Tv}{ρ:Rho}:zKa t u ρ=(t ρ).bind (zRe u ρ):=by
 unfold zKa;congr;funext c;cases c<;>rfl
def setF(i:Nat)(ρ:Rho)(d:D):Res Fl:=.ok (.nx (ρ.set i (.val d)))
def sSet_at{i:Nat}{e:Ev}{ρ:Rho}:cX i e ρ=(e ρ).bind (setF i ρ):=rfl
def ownF(i:Nat)(ρ:Rho)(ds:List D):Res Fl:=.ok (.nx (ρ.set i (.own ds)))
def sOwn_at{i:Nat}{f:Fv}{ρ:Rho}:zEw i f ρ=(f ρ).bind (ownF i ρ):=rfl
def dropF(ρ:Rho)(_d:D):Res Fl:=.ok (.nx ρ)
def sDrop_at{e:Ev}{ρ:Rho}:sB e ρ=(e ρ).bind (dropF ρ):=rfl
def retF(d:D):Res Fl:=.ok (.ret (.v d))
def sRet_at{e:Ev}{ρ:Rho}:fM e ρ=(e (ρ.map Sl.frz)).bind retF:=rfl
def retFF(ds:List D):Res Fl:=.ok (.ret (.f ds))
def sRetF_at{f:Fv}{ρ:Rho}:lG f ρ=(f (ρ.map Sl.frz)).bind retFF:=rfl
def raiseF(c:Str)(ds:List D):Res Fl:=if ds.length<=16777216 then .err c else .no
def sRaise_at{c:Str}{a:Fv}{ρ:Rho}:kZ c a ρ=(a ρ).bind (raiseF c):=rfl
def appF(i:Nat)(ρ:Rho)(ds:List D)(d:D):Res Fl:=if ds.length<16777216 then .ok (.nx (ρ.set i (.own (ds++[d])))) else .no
def appS(i:Nat)(e:Ev)(ρ:Rho):Option Sl->Res Fl
 | some (.own ds)=>(e ρ).bind (appF i ρ ds)
 | _=>.no
def sApp_at{i:Nat}{e:Ev}{ρ:Rho}:zIA i e ρ=appS i e ρ ρ[i]?:=by
 unfold zIA appS;rfl
def extF(i:Nat)(ρ:Rho)(ds:List D)(es:List D):Res Fl:=if ds.length+es.length<=16777216 then .ok (.nx (ρ.set i (.own (ds++es)))) else .no
def extS(i:Nat)(e:Fv)(ρ:Rho):Option Sl->Res Fl
 | some (.own ds)=>(e ρ).bind (extF i ρ ds)
 | _=>.no
def sExt_at{i:Nat}{e:Fv}{ρ:Rho}:zJq i e ρ=extS i e ρ ρ[i]?:=by
 unfold zJq extS;rfl
def augF(i:Nat)(ρ:Rho)(o:Op2)(x y:D):Res Fl:=(o x y).bind (setF i ρ)
def augS(i:Nat)(o:Op2)(e:Ev)(ρ:Rho):Option Sl->Res Fl
 | some (.val x)=>(e ρ).bind (augF i ρ o x)
 | _=>.no
def sAug_at{i:Nat}{o:Op2}{e:Ev}{ρ:Rho}:zOO i o e ρ=augS i o e ρ ρ[i]?:=by
 unfold zOO augS;rfl
def dropG(ρ:Rho)(_r:Rt):Res Fl:=.ok (.nx ρ)
def setG(i:Nat)(ρ:Rho)(r:Rt):Res Fl:=.ok (.nx (ρ.set i (.val r.d)))
def xsetF(i:Nat)(m:Mir)(ρ:Rho)(ds:List D):Res Fl:=(m ds).bind (setG i ρ)
def xSet_at{i:Nat}{m:Mir}{a:Fv}{ρ:Rho}:zQe i m a ρ=(noErr (a ρ)).bind (xsetF i m ρ):=rfl
def varS:Option Sl->Res D
 | some (.val d)=>.ok d
 | _=>.no
def eVar_at{i:Nat}{ρ:Rho}:aE i ρ=varS ρ[i]?:=by
 unfold aE varS;rfl
def retS:Option Sl->Res Fl
 | some (.own ds)=>.ok (.ret (.f ds))
 | _=>.no
def sRetOwn_at{i:Nat}{ρ:Rho}:gM i ρ=retS ρ[i]?:=by
 unfold gM retS;rfl
def nxF(ρ:Rho):Res Fl:=.ok (.nx ρ)
def unpF(g:Gv)(ρ:Rho)(d:D):Res Fl:=(g d ρ).bind nxF
def sUnp_at{g:Gv}{f:Ev}{ρ:Rho}:zSu g f ρ=(f ρ).bind (unpF g ρ):=rfl
def gtF(gs:List D->Rho->Res Rho)(ρ:Rho):D->Res Rho
 | .tup ds=>gs ds ρ
 | _=>.no
def gTup_at{gs:List D->Rho->Res Rho}{d:D}{ρ:Rho}:zAd gs d ρ=gtF gs ρ d:=by
 unfold zAd gtF;rfl
def gCons_at{g:Gv}{r:List D->Rho->Res Rho}{d:D}{ds:List D}{ρ:Rho}:eE g r (d::ds) ρ=(g d ρ).bind (r ds):=rfl
def gNil_at{ρ:Rho}:xK [] ρ=.ok ρ:=rfl
def forF(g:Gv)(b:Sv)(ρ:Rho)(ds:List D):Res Fl:=loop g b ds ρ
def sFor_at{it:Fv}{g:Gv}{b:Sv}{ρ:Rho}:vI it g b ρ=(it ρ).bind (forF g b ρ):=rfl
def zIw:D->Res (List D)
 | .lst ds=>.ok ds
 | .tup ds=>.ok ds
 | _=>.no
def seqD_l{ds:List D}:zIw (.lst ds)=.ok ds:=rfl
def seqD_t{ds:List D}:zIw (.tup ds)=.ok ds:=rfl
def iSeq_at{e:Ev}{ρ:Rho}:sT e ρ=(e ρ).bind zIw:=by
 unfold sT;congr
def tplD:D->Res (List D)
 | .tup ds=>.ok ds
 | _=>.no
def iTpl_at{e:Ev}{ρ:Rho}:zNx e ρ=(e ρ).bind tplD:=by
 unfold zNx;congr
def zOS:List D->Res (List D)
 | [.int j]=>if -(2^62)<=j/\j<2^62 then .ok (rng 0 j.toNat 1) else .no
 | _=>.no
def iRng1_at{a:Fv}{ρ:Rho}:zCv a ρ=(a ρ).bind zOS:=rfl
def zNI:List D->Res (List D)
 | [.int i,.int j]=>if -(2^62)<=i/\i<2^62/\-(2^62)<=j/\j<2^62 then .ok (rng i (j-i).toNat 1) else .no
 | _=>.no
def iRng2_at{a:Fv}{ρ:Rho}:zFu a ρ=(a ρ).bind zNI:=rfl
def fn_at{p n:Nat}{b:Sv}{ds:List D}(h:ds.length=p):fn p n b ds=(b (start n ds)).bind fin:=by
 unfold fn;rw[Jj h]
def nr{r:Sort _}{a b:r}(h:a=b):a=b:=h
def okb{r s:Type}{a:r}{f:r->Res s}:(Res.ok a).bind f=f a:=nr rfl
def erb{r s:Type}{c:Str}{f:r->Res s}:(Res.err c).bind f=.err c:=nr rfl
def seqF_nx{b:Sv}{ρ:Rho}:zDb b (.nx ρ)=b ρ:=nr rfl
def seqF_ret{b:Sv}{r:Rt}:zDb b (.ret r)=.ok (.ret r):=nr rfl
def gtF_t{gs:List D->Rho->Res Rho}{ρ:Rho}{ds:List D}:gtF gs ρ (.tup ds)=gs ds ρ:=nr rfl
def ifF_t{a b:Sv}{ρ:Rho}:ifF a b ρ true=a ρ:=nr rfl
def ifF_f{a b:Sv}{ρ:Rho}:ifF a b ρ false=b ρ:=nr rfl
def eifF_t{a b:Ev}{ρ:Rho}:zQU a b ρ true=a ρ:=nr rfl
def eifF_f{a b:Ev}{ρ:Rho}:zQU a b ρ false=b ρ:=nr rfl
def andF_t{b:Ev}{ρ:Rho}:zQG b ρ (.bl true)=b ρ:=nr rfl
def andF_f{b:Ev}{ρ:Rho}:zQG b ρ (.bl false)=.ok (.bl false):=nr rfl
def orF_t{b:Ev}{ρ:Rho}:orF b ρ (.bl true)=.ok (.bl true):=nr rfl
def orF_f{b:Ev}{ρ:Rho}:orF b ρ (.bl false)=b ρ:=nr rfl
def tandF_t{u:Tv}{ρ:Rho}:zLK u ρ true=u ρ:=nr rfl
def tandF_f{u:Tv}{ρ:Rho}:zLK u ρ false=.ok false:=nr rfl
def torF_t{u:Tv}{ρ:Rho}:zRe u ρ true=.ok true:=nr rfl
def torF_f{u:Tv}{ρ:Rho}:zRe u ρ false=u ρ:=nr rfl
def oAdd_i{i j:Int}:rA (.int i) (.int j)=.ok (.int (i+j)):=rfl
def oSub_i{i j:Int}:yM (.int i) (.int j)=.ok (.int (i-j)):=rfl
def oMul_i{i j:Int}(h:iJ i j=true):qX (.int i) (.int j)=.ok (.int (i*j)):=Jj h
def oDiv_i{i j:Int}(h:lL j=true):lJ (.int i) (.int j)=.ok (.int (i.fdiv j)):=Jj h
def oMod_i{i j:Int}(h:j≠0):kL (.int i) (.int j)=.ok (.int (i.fmod j)):=Jj h
def oPow_i{i j:Int}(h:rJ i j=true):zAK (.int i) (.int j)=.ok (.int (i^j.toNat)):=Jj h
def oEq_i{i j:Int}:oEq (.int i) (.int j)=.ok (.bl (decide (i=j))):=rfl
def oNe_i{i j:Int}:oNe (.int i) (.int j)=.ok (.bl (!decide (i=j))):=rfl
def oLt_i{i j:Int}:oLt (.int i) (.int j)=.ok (.bl (decide (i<j))):=rfl
def oLe_i{i j:Int}:oLe (.int i) (.int j)=.ok (.bl (decide (i<=j))):=rfl
def oGt_i{i j:Int}:oGt (.int i) (.int j)=.ok (.bl (decide (j<i))):=rfl
def oGe_i{i j:Int}:oGe (.int i) (.int j)=.ok (.bl (decide (j<=i))):=rfl
def ofO_some{r:Type}{a:r}:ofO (some a)=.ok a:=rfl
def oNeg_i{i:Int}:zNz (.int i)=.ok (.int (-i)):=rfl
def oNot_b{b:Bool}:zSc (.bl b)=.ok (.bl (!b)):=rfl
def bAbs_i{i:Int}:zLD [.int i]=.ok (.int (i.natAbs:Int)):=by
 show Res.ok (D.int (if i<0 then -i else i))=_
 congr 2;split<;>omega
def bMin_i{i j:Int}:zOz [.int i,.int j]=.ok (.int (min i j)):=by
 show Res.ok (D.int (if j<i then j else i))=_
 congr 2;split<;>omega
def zCq{j:Int}(h1:-(2^62)<=j)(h2:j<2^62):zOS [.int j]=.ok (rng 0 j.toNat 1):=Jj ⟨h1,h2⟩
def zLU{i j:Int}(h1:-(2^62)<=i)(h2:i<2^62)(h3:-(2^62)<=j)(h4:j<2^62):zNI [.int i,.int j]=.ok (rng i (j-i).toNat 1):=Jj ⟨h1,h2,h3,h4⟩
def zBZ{r:Type}{g:Gv}{b:Sv}{ds:List D}{ρ:Rho}{k:Fl->Res r}{Q:Res r->Prop}(P:Rho->Prop)(h0:P ρ)
  (st:∀ d ρ,d∈ds->P ρ->∃ ρ2,(g d ρ).bind b=.ok (.nx ρ2)/\P ρ2) (fi:∀ ρ',P ρ'->Q (k (.nx ρ'))):Q ((loop g b ds ρ).bind k):=by
 suffices h:∃ ρ',loop g b ds ρ=.ok (.nx ρ')/\P ρ' by
  obtain⟨ρ',e,hp⟩:=h;rw[e];exact fi ρ' hp
 clear fi
 induction ds generalizing ρ with
 | nil=>exact⟨ρ,rfl,h0⟩
 | cons d ds ih=>
  obtain⟨ρ2,e,hp⟩:=st d ρ Qb h0;obtain⟨ρ',e',hp'⟩:=ih hp fun d' ρ' hd=>st d' ρ' (Qc _ hd)
  refine⟨ρ',?_,hp'⟩
  rw[loop]
  cases hg:g d ρ with
  | no=>rw[hg] at e;cases e
  | err c=>rw[hg] at e;cases e
  | ok ρ1=>
   rw[hg] at e;have e2:b ρ1=.ok (.nx ρ2):=e;simp only[Res.bind,e2];exact e'
def ty_i{i:Int}:tyN (.int i) = "int" := rfl
def ty_b{b:Bool}:tyN (.bl b) = "bool" := rfl
def ty_t{ds:List D}:tyN (.tup ds) = "tuple" := rfl
def ty_l{ds:List D}:tyN (.lst ds) = "list" := rfl
def ty_s{x:Str}:tyN (.str x) = "str" := rfl
def ty_n:tyN .non = "NoneType" := rfl
def bLen_t{ds:List D}:lM [.tup ds]=.ok (.int ds.length):=rfl
def bLen_l{ds:List D}:lM [.lst ds]=.ok (.int ds.length):=rfl
def bTup_t{ds:List D}:zKh [.tup ds]=.ok (.tup ds):=rfl
def bTup_l{ds:List D}:zKh [.lst ds]=.ok (.tup ds):=rfl
def jZ{r:Type}{g:Gv}{b:Sv}{ds:List D}{ρ:Rho}{k:Fl->Res r}{Q:Res r->Prop}(P:Nat->Rho->Prop)(h0:P 0 ρ)
  (st:∀ i d ρ,ds[i]?=some d->P i ρ->∃ ρ2,(g d ρ).bind b=.ok (.nx ρ2)/\P (i+1) ρ2) (fi:∀ ρ',P ds.length ρ'->Q (k (.nx ρ'))):Q ((loop g b ds ρ).bind k):=by
 suffices h:∀(ds:List D)(j:Nat)(ρ:Rho),P j ρ->(∀ i d ρ,ds[i]?=some d->P (j+i) ρ->∃ ρ2,(g d ρ).bind b=.ok (.nx ρ2)/\P (j+i+1) ρ2)->∃ ρ',loop g b ds ρ=.ok (.nx ρ')/\P (j+ds.length) ρ' by
  obtain⟨ρ',e,hp⟩:=h ds 0 ρ h0 (fun i d ρ hd hp=>by rw[Q2] at hp ⊢;exact st i d ρ hd hp)
  rw[e];exact fi ρ' (by rw[Q2] at hp;exact hp)
 intro ds
 induction ds with
 | nil=>intro j ρ hp _;exact⟨ρ,rfl,hp⟩
 | cons d ds ih=>
  intro j ρ hp st;obtain⟨ρ2,e,hp2⟩:=st 0 d ρ rfl hp
  obtain⟨ρ',e',hp'⟩:=ih (j+1) ρ2 hp2 fun i d' ρ' hd hp=>by
   have:=st (i+1) d' ρ' (by simpa using hd) (by rw[show j+(i+1)=j+1+i by omega];exact hp)
   rw[show j+(i+1)=j+1+i by omega] at this;exact this
  refine⟨ρ',?_,by rw[Qm,show j+(ds.length+1)=j+1+ds.length by omega];exact hp'⟩
  rw[loop]
  cases hg:g d ρ with
  | no=>rw[hg] at e;cases e
  | err c=>rw[hg] at e;cases e
  | ok ρ1=>
   rw[hg] at e;have e2:b ρ1=.ok (.nx ρ2):=e;simp only[Res.bind,e2];exact e'
def zIl{lo c:Int}{n i:Nat}{d:D}(h:(rng lo n c)[i]?=some d):i<n/\d=.int (lo+(i:Int)*c):=by
 unfold rng at h;rw[Qr] at h;by_cases hi:i<n
 ·rw[Xu hi] at h
  cases h;exact⟨hi,rfl⟩
 ·rw[Q3 (by rw[Q9];omega)] at h
  cases h
def zNM{lo c:Int}{n:Nat}:(rng lo n c).length=n:=by unfold rng;rw[Qf,Q9]
def zDQ{f:Ev}{ρ:Rho}{h:D->D}:∀ {ds:List D},(∀ d∈ds,f (ρ++[.val d])=.ok (h d))->fV lO f ρ ds=.ok (ds.map h)
 | [],_=>rfl
 | d::ds,hf=>by
  rw[fV,hf d Qb];simp only[lO,noErr,Res.bind,if_true];rw[zDQ fun e he=>hf e (Qc _ he)];rfl
def zES(t:Tv)(f:Ev)(ρ:Rho)(ds:List D):Res (List D):=if ds.length<=16777215 then fV t f ρ ds else .no
def fComp_at{it:Fv}{t:Tv}{f:Ev}{ρ:Rho}:oA it t f ρ=(it ρ).bind (zES t f ρ):=rfl
def zGu{f:Ev}{ρ:Rho}{h:D->D}{ds:List D}(hl:ds.length<=16777215)(hf:∀ d∈ds,f (ρ++[.val d])=.ok (h d)):zES lO f ρ ds=.ok (ds.map h):=by
 unfold zES;rw[Jj hl,zDQ hf]
def tU{d:D}(h:dep d<=50):oNe d d=.ok (.bl false):=by unfold oNe;rw[Jj h,sP];rfl
def zDR{r:Type}(l:List r)(a:Nat):l.drop (min a l.length)=l.drop a:=by
 rcases Y8 a l.length with h | h
 ·rw[Wa h]
 ·rw[Nat.min_eq_right h,List.drop_length,Yv h]
def zFV{ds:List D}{a b:Int}(h1:0<=a)(h2:0<=b):eG ds (some a) (some b)=(ds.drop a.toNat).take (b.toNat-a.toNat):=by
 unfold eG cut;simp only[h1,h2,if_true];rw[zDR];rcases Y8 ds.length a.toNat with c | c
 ·rw[Yv c,List.take_nil,List.take_nil]
 ·rw[Wa c]
  rcases Y8 b.toNat ds.length with d | d
  ·rw[Wa d]
  ·rw[Nat.min_eq_right d,Yw (by rw[Vo];exact Qd _),Yw (by rw[Vo];exact Nat.sub_le_sub_right d _)]
def zFh{ds:List D}{a:Int}(h1:0<=a):eG ds (some a) none=ds.drop a.toNat:=by
 unfold eG cut;simp only[h1,if_true];rw[zDR,Yw (by rw[Vo];omega)]
def nM{r:Type}{f:r->D}{l:List r}{i:Int}{a:r}(h0:0<=i)(h:l[i.toNat]?=some a):oIx (.lst (l.map f)) (.int i)=.ok (f a):=by
 show ofO (atD (l.map f) i)=_
 unfold atD;rw[Jj h0,Qr,h];rfl
def oIx_tc{d:D}{ds:List D}{i:Int}:oIx (.tup (d::ds)) (.int i)=ofO (atD (d::ds) i):=rfl
def yD{r:Type}{f:r->D}{l:List r}{i:Int}{a:r}(h0:0<=i)(h:l[i.toNat]?=some a):oIx (.tup (l.map f)) (.int i)=.ok (f a):=by
 show ofO (atD (l.map f) i)=_
 unfold atD;rw[Jj h0,Qr,h];rfl
def zQz(ds:List D):D->Res (List D)
 | .int k=>if 0<=k/\k<2^62/\ds.length*k.toNat<=16777216 then .ok (List.replicate k.toNat ds).flatten else .no
 | _=>.no
def repF(g:Ev)(ρ:Rho)(ds:List D):Res (List D):=(g ρ).bind (zQz ds)
def fRep_at{f:Fv}{g:Ev}{ρ:Rho}:zNt f g ρ=(f ρ).bind (repF g ρ):=by
 unfold zNt repF;congr
def zFI{d:D}{k:Nat}(h:k<=16777216):zQz [d] (.int (k:Int))=.ok (List.replicate k d):=by
 have e:∀ n,(List.replicate n [d]).flatten=List.replicate n d:=by
  intro n
  induction n with
  | zero=>rfl
  | succ n ih=>rw[Xq,X6,ih];rfl
 unfold zQz;dsimp only
 rw[Jj ⟨by omega,by omega,by simp only[Qm,V4,Vp];omega⟩,Vp,e]
def zHC{r:Type}{u:r->D}{f:Ev}{ρ:Rho}{g:r->D}:∀ {l:List r},(∀ a∈l,f (ρ++[.val (u a)])=.ok (g a))->fV lO f ρ (l.map u)=.ok (l.map g)
 | [],_=>rfl
 | a::l,h=>by
  rw[Ql,fV,h a Qb];simp only[lO,noErr,Res.bind,if_true];rw[zHC fun b hb=>h b (Qc _ hb)];rfl
def kJ{r:Type}{u:r->D}{f:Ev}{ρ:Rho}{g:r->D}{l:List r}(hl:l.length<=16777215)(h:∀ a∈l,f (ρ++[.val (u a)])=.ok (g a)):zES lO f ρ (l.map u)=.ok (l.map g):=by
 unfold zES;rw[Jj (by rw[Qf];exact hl),zHC h]
def bSum_l{ns:List Int}:zBW [.lst (ns.map D.int)]=.ok (.int ns.sum):=by
 have e:∀ ns:List Int,lI (ns.map D.int)=some ns:=by
  intro ns
  induction ns with
  | nil=>rfl
  | cons i ns ih=>rw[Ql,lI,ih]
 show(match lI (ns.map D.int) with | some ns=>Res.ok (D.int ns.sum) | none=>.no)=_
 rw[e]
def bSum_t{ns:List Int}:zBW [.tup (ns.map D.int)]=.ok (.int ns.sum):=by
 have e:∀ ns:List Int,lI (ns.map D.int)=some ns:=by
  intro ns
  induction ns with
  | nil=>rfl
  | cons i ns ih=>rw[Ql,lI,ih]
 show(match lI (ns.map D.int) with | some ns=>Res.ok (D.int ns.sum) | none=>.no)=_
 rw[e]
def slI(i:Nat)(ρ:Rho):Int:=match ρ[i]? with
 | some (.val (.int x))=>x
 | _=>0
def chO_s{c:Nat}:chO (some c)=.ok (.str ⟨#[c]⟩):=rfl
def zPJ{x:Str}:dep (.str x)<=50:=by simp[dep]
def oEq_s{x y:Str}:oEq (.str x) (.str y)=.ok (.bl (x==y)):=by
 unfold oEq;rw[Jj zPJ,eqD]
def oNe_s{x y:Str}:oNe (.str x) (.str y)=.ok (.bl (!(x==y))):=by
 unfold oNe;rw[Jj zPJ,eqD]
def iA{g:Gv}{b:Sv}{d:D}{ds:List D}{ρ ρ1 ρ2:Rho}(hg:g d ρ=.ok ρ1)(hb:b ρ1=.ok (.nx ρ2)):loop g b (d::ds) ρ=loop g b ds ρ2:=by
 rw[loop];simp only[hg,Res.bind,hb]
def zGN{g:Gv}{b:Sv}{d:D}{ds:List D}{ρ ρ1:Rho}{r:Rt}(hg:g d ρ=.ok ρ1)(hb:b ρ1=.ok (.ret r)):loop g b (d::ds) ρ=.ok (.ret r):=by
 rw[loop];simp only[hg,Res.bind,hb]
def oTabNot_s{T:List (Str×Str)}{x:Str}:qB T (.str x)=.ok (.bl (!(T.lookup x).isSome)):=rfl
def sY{r:Type}(p:r->Int):∀ l:List r,lI (l.map fun a=>D.int (p a))=some (l.map p)
 | []=>rfl
 | a::l=>by rw[Ql,lI,sY p l];rfl
def mx0:List Int->Int
 | []=>0
 | a::r=>yZ a r
def zHo{s:Type}{p:s->Int}{l:List s}:zCP [.lst (l.map fun a=>D.int (p a)),.int 0]=.ok (.int (mx0 (l.map p))):=by
 show(match lI (l.map fun a=>D.int (p a)) with | some (a::r)=>Res.ok (D.int (yZ a r)) | some []=>.ok (.int 0) | none=>.no)=_
 rw[sY];cases l<;>rfl
def zRE:List D->Res (List D)
 | [x,y]=>match zIx x,zIx y with
  | some xs,some ys=>.ok (lK xs ys)
  | _,_=>.no
 | _=>.no
def iZip_at{a:Fv}{ρ:Rho}:zNv a ρ=(a ρ).bind zRE:=by
 unfold zNv;congr
def uH{x y:D}{xs ys:List D}(hx:zIx x=some xs)(hy:zIx y=some ys):zRE [x,y]=.ok (lK xs ys):=by
 show(match zIx x,zIx y with | some xs,some ys=>Res.ok (lK xs ys) | _,_=>.no)=_
 rw[hx,hy]
def zMG:D->Res (List D)
 | .lst ds=>.ok (iI 0 ds)
 | .tup ds=>.ok (iI 0 ds)
 | _=>.no
def enumF_t{ds:List D}:zMG (.tup ds)=.ok (iI 0 ds):=rfl
def enumF_l{ds:List D}:zMG (.lst ds)=.ok (iI 0 ds):=rfl
def iEnum_at{e:Ev}{ρ:Rho}:zGm e ρ=(e ρ).bind zMG:=by
 unfold zGm;congr
def zHL(f:Ev)(ρ:Rho)(ds:List D):Res (List D):=if ds.length<=16777215 then fN f ρ ds else .no
def fComp2_at{it:Fv}{f:Ev}{ρ:Rho}:xD it f ρ=(it ρ).bind (zHL f ρ):=rfl
def zEi{r s:Type}{u:r->D}{v:s->D}{f:Ev}{ρ:Rho}{g:r->s->D}:∀ {l:List r} {m:List s},(∀ p∈l.zip m,f (ρ++[.val (u p.1),.val (v p.2)])=.ok (g p.1 p.2))->
  fN f ρ (lK (l.map u) (m.map v))=.ok ((l.zip m).map fun p=>g p.1 p.2)
 | [],m,h=>by cases m<;>rfl
 | a::l,[],h=>rfl
 | a::l,b::m,h=>by
  have h1:=h (a,b) Qb;have h2:=zEi (l:=l) (m:=m) (u:=u) (v:=v) (g:=g) fun p hp=>h p (Qc _ hp)
  show(noErr (f (ρ++[.val (u a),.val (v b)]))).bind (fun e=>(fN f ρ (lK (l.map u) (m.map v))).bind fun es=>.ok (e::es))=_
  rw[h1,h2];rfl
def pM{r s:Type}{u:r->D}{v:s->D}{f:Ev}{ρ:Rho}{g:r->s->D}{l:List r}{m:List s}(hl:l.length<=16777215)(h:∀ p∈l.zip m,f (ρ++[.val (u p.1),.val (v p.2)])=.ok (g p.1 p.2)):
  zHL f ρ (lK (l.map u) (m.map v))=.ok ((l.zip m).map fun p=>g p.1 p.2):=by
 unfold zHL;rw[Jj,zEi h]
 have:∀(a b:List D),(lK a b).length<=a.length:=by
  intro a
  induction a with
  | nil=>intro b;cases b<;>exact Qd _
  | cons x a ih=>intro b;cases b with
   | nil=>exact Vl _
   | cons y b=>exact Xi (ih b)
 exact Qn (this _ _) (by rw[Qf];exact hl)
def zRw(hi:Ov)(ρ:Rho)(x:D)(l:Option Int):Res D:=(hi ρ).bind fun h=>slQ l h x
def slQF(lo hi:Ov)(ρ:Rho)(x:D):Res D:=(lo ρ).bind (zRw hi ρ x)
def eSlQ_at{a:Ev}{lo hi:Ov}{ρ:Rho}:zQx a lo hi ρ=(a ρ).bind (slQF lo hi ρ):=rfl
def zNu(x:D)(l h:Option Int):Res D:=slQ l h x
def slQE_at{hi:Ov}{ρ:Rho}{x:D}{l:Option Int}:zRw hi ρ x l=(hi ρ).bind (zNu x l):=rfl
def slQG_l{ds:List D}{l h:Option Int}:zNu (.lst ds) l h=.ok (.lst (eG ds l h)):=rfl
def slQG_t{ds:List D}{l h:Option Int}:zNu (.tup ds) l h=.ok (.tup (eG ds l h)):=rfl
end L3
namespace Ln
open Fq
abbrev Pt:=Rat×Rat
def asc(a b:Pt):Prop:=a.1<b.1/\a.2<=b.2
def btw(a b c:Pt):Bool:=decide ((b.2-a.2)*(c.1-b.1)=(c.2-b.2)*(b.1-a.1))
def push:List Pt->Pt->List Pt
 | b::a::s,c=>if btw a b c=true then c::a::s else c::b::a::s
 | s,c=>c::s
def few:Pt->List Pt->List Pt
 | _,[]=>[]
 | _,[b]=>[b]
 | a,b::c::r=>if btw a b c=true then few b (c::r) else b::few b (c::r)
def zOi{x a b:Rat}(h:x≠0)(e:a*x=b*x):a=b:=by
 have:a*x*x⁻¹=b*x*x⁻¹:=by rw[e]
 rw[Wb,Wb,Rat.mul_inv_cancel _ h,Rat.mul_one,Rat.mul_one] at this;exact this
def Ok(ps:List Pt):Prop:=ps.head?=some (0,0)/\ps.Pairwise asc
def lt_iff{p q:Rat}:p.num*q.den<q.num*p.den ↔ p<q:=Rat.lt_iff p q |>.symm
end Ln
namespace L3
open PySem PySem.Spec PyProof.Rows L2
abbrev St:=L2.St
mutual
inductive IsD (K:PySem.W.Frag) (H:Hp):V->D->Prop where
 | non:IsD K H .non .non
 | bl (b:Bool):IsD K H (.bl b) (.bl b)
 | int (i:Int):IsD K H (.int i) (.int i)
 | str (x:Str):IsD K H (.str x) (.str x)
 | tup {a:Jc} {xs:List V} {ds:List D}:SqT K H a xs->IsDs K H xs ds->IsD K H (.ref a) (.tup ds)
 | lst {a:Jc} {xs:List V} {ds:List D}:SqL K H a xs->IsDs K H xs ds->IsD K H (.ref a) (.lst ds)
inductive IsDs (K:PySem.W.Frag) (H:Hp):List V->List D->Prop where
 | nil:IsDs K H [] []
 | cons {v:V} {d:D} {vs:List V} {ds:List D}:IsD K H v d->IsDs K H vs ds->IsDs K H (v::vs) (d::ds)
end
def _root_.L2.Same.rd{H H':Hp}(e:Same H H'){a:Jc}{u:HO}(h:Rd H a u):Rd H' a u:=by
 rcases h with h | ⟨o,h⟩
 ·exact .inl (e _ _ h)
 ·exact .inr ⟨o,e _ _ h⟩
def bR{K:Fg_}{H H':Hp}(e:Same H H'){a:Jc}{xs:List V}(h:SqT K H a xs):SqT K H' a xs:=h.imp (Same.rd e) id
def cM{K:Fg_}{H H':Hp}(e:Same H H'){a:Jc}{xs:List V}(h:SqL K H a xs):SqL K H' a xs:=h.imp (Same.rd e) id
section
variable{K:Fg_}{H H':Hp}
mutual
def IsD.mono(e:Same H H'):∀ {v:V} {d:D},IsD K H v d->IsD K H' v d
 | _,_,.non=>.non
 | _,_,.bl b=>.bl b
 | _,_,.int i=>.int i
 | _,_,.str x=>.str x
 | _,_,.tup h hs=>.tup (bR e h) (IsDs.mono e hs)
 | _,_,.lst h hs=>.lst (cM e h) (IsDs.mono e hs)
def IsDs.mono(e:Same H H'):∀ {vs:List V} {ds:List D},IsDs K H vs ds->IsDs K H' vs ds
 | _,_,.nil=>.nil
 | _,_,.cons h hs=>.cons (IsD.mono e h) (IsDs.mono e hs)
end
def IsDs.length:∀ {vs:List V} {ds:List D},IsDs K H vs ds->vs.length=ds.length
 | _,_,.nil=>rfl
 | _,_,.cons _ hs=>by rw[Qm,Qm,IsDs.length hs]
def IsDs.at:∀ {vs:List V} {ds:List D} {j:Nat} {d:D},IsDs K H vs ds->ds[j]?=some d->∃ v,vs[j]?=some v/\IsD K H v d
 | _,_,_,_,.nil,e=>by simp at e
 | _,_,0,_,.cons r _,e=>by simp at e;subst e;exact⟨_,rfl,r⟩
 | _,_,j+1,d,.cons _ t,e=>by
  obtain⟨v,h1,h2⟩:=IsDs.at (j:=j) (d:=d) t (by simpa using e)
  exact⟨v,by simpa using h1,h2⟩
def IsDs.append:∀ {vs ws:List V} {ds es:List D},IsDs K H vs ds->IsDs K H ws es->IsDs K H (vs++ws) (ds++es)
 | _,_,_,_,.nil,s=>s
 | _,_,_,_,.cons r t,s=>.cons r (IsDs.append t s)
def IsDs.take:∀ {vs:List V} {ds:List D} (n:Nat),IsDs K H vs ds->IsDs K H (vs.take n) (ds.take n)
 | _,_,0,_=>.nil
 | _,_,_+1,.nil=>.nil
 | _,_,n+1,.cons r t=>.cons r (IsDs.take n t)
def IsDs.drop:∀ {vs:List V} {ds:List D} (n:Nat),IsDs K H vs ds->IsDs K H (vs.drop n) (ds.drop n)
 | _,_,0,r=>r
 | _,_,_+1,.nil=>.nil
 | _,_,n+1,.cons _ t=>IsDs.drop n t
def IsDs.set{v:V}{d:D}(h:IsD K H v d):∀ {vs:List V} {ds:List D} (j:Nat),IsDs K H vs ds->IsDs K H (vs.set j v) (ds.set j d)
 | _,_,_,.nil=>.nil
 | _,_,0,.cons _ t=>.cons h t
 | _,_,j+1,.cons q t=>.cons q (IsDs.set h j t)
mutual
def IsD.noL(k:∀ b xs,Rd H b (.tup xs)->Rd H' b (.tup xs)):∀ {v:V} {d:D},IsD K H v d->L3.noL d=true->IsD K H' v d
 | _,_,.non,_=>.non
 | _,_,.bl b,_=>.bl b
 | _,_,.int i,_=>.int i
 | _,_,.str x,_=>.str x
 | _,_,.tup h hs,e=>.tup (h.imp (k _ _) id) (IsDs.noL k hs (by rw[L3.noL] at e;exact e))
 | _,_,.lst h hs,e=>by rw[L3.noL] at e;cases e
def IsDs.noL(k:∀ b xs,Rd H b (.tup xs)->Rd H' b (.tup xs)):∀ {vs:List V} {ds:List D},IsDs K H vs ds->L3.noLs ds=true->IsDs K H' vs ds
 | _,_,.nil,_=>.nil
 | _,_,.cons h hs,e=>by
  rw[L3.noLs,Vh] at e;exact .cons (IsD.noL k h e.1) (IsDs.noL k hs e.2)
end
end
def IsD.intI{K:Fg_}{H:Hp}{v:V}{i:Int}(h:IsD K H v (.int i)):v=.int i:=by cases h;rfl
def IsD.blI{K:Fg_}{H:Hp}{v:V}{b:Bool}(h:IsD K H v (.bl b)):v=.bl b:=by cases h;rfl
def IsD.strI{K:Fg_}{H:Hp}{v:V}{x:Str}(h:IsD K H v (.str x)):v=.str x:=by cases h;rfl
def IsD.tupI{K:Fg_}{H:Hp}{v:V}{ds:List D}(h:IsD K H v (.tup ds)):∃ a xs,v=.ref a/\SqT K H a xs/\IsDs K H xs ds:=by
 cases h with
 | tup h hs=>exact⟨_,_,rfl,h,hs⟩
def IsD.lstI{K:Fg_}{H:Hp}{v:V}{ds:List D}(h:IsD K H v (.lst ds)):∃ a xs,v=.ref a/\SqL K H a xs/\IsDs K H xs ds:=by
 cases h with
 | lst h hs=>exact⟨_,_,rfl,h,hs⟩
def sN:Str := "ranked.<locals>.<lambda>"
def zBy(P:Jc)(H:Hp):Prop:=∃ ps,H P=some (.tbl ps)/\TriplesOk ps.toList/\∀(pos:Pos)(cv:Ja),codeAmong pos ps.toList=some cv->∃ c oc vs t u,cv=.ref c/\H c=some (.frz oc u)/\oc.data=.fields vs/\vs[1]?=some (.str sN t)
def zBy.put{P a:Jc}{H:Hp}{x:HO}(h:zBy P H)(h1:∀ ps,H a≠some (.tbl ps))(h2:∀ o u,H a≠some (.frz o u)):zBy P (upd H a x):=by
 obtain⟨ps,e,t,k⟩:=h;refine⟨ps,by rw[aY (show P≠a from fun z=>h1 ps (by rw[<-z];exact e))];exact e,t,fun pos cv q=>?_⟩
 obtain⟨c,oc,vs,tk,u,r1,r2,r3⟩:=k pos cv q;exact⟨c,oc,vs,tk,u,r1,by rw[aY (show c≠a from fun z=>h2 oc u (by rw[<-z];exact r2))];exact r2,r3⟩
structure Keep (H H':Hp):Prop where
 k:∀ b o,H b=some o->H' b=some o∨∃ ps ps',o=.tbl ps/\H' b=some (.tbl ps')
 t:∀ P,zBy P H->zBy P H'
def Keep.refl(H:Hp):Keep H H:=⟨fun _ _ e=>.inl e,fun _ e=>e⟩
def Keep.trans{H H1 H2:Hp}(a:Keep H H1)(b:Keep H1 H2):Keep H H2:=
 ⟨fun c o e=>by
  rcases a.k c o e with z | ⟨ps,ps',rfl,z⟩
  ·exact b.k c o z
  ·rcases b.k c _ z with y | ⟨qs,qs',_,y⟩
   ·exact .inr ⟨ps,ps',rfl,y⟩
   ·exact .inr ⟨ps,qs',rfl,y⟩,fun P e=>b.t P (a.t P e)⟩
def Keep.at{H H':Hp}(k:Keep H H'){b:Jc}{o:HO}(e:H b=some o)(ho:∀ ps,o≠.tbl ps:=by intro ps z;cases z):H' b=some o:=by
 rcases k.k b o e with z | ⟨ps,ps',z,_⟩
 ·exact z
 ·exact absurd z (ho ps)
def Keep.none{H H':Hp}(k:Keep H H'){p:Jc}(e:H' p=none):H p=none:=by
 cases z:H p with
 | none=>rfl
 | some o=>rcases k.k p o z with y | ⟨_,_,_,y⟩<;>(rw[y] at e;cases e)
structure Ext (Hi H Hi' H':Hp):Prop where
 i:Same Hi Hi'
 h:Keep H H'
 s:Same Hi' H'
 n:∀ b,Hi b=none->Hi' b≠none->H b=none
def Ext.refl{Hi H:Hp}(h:Same Hi H):Ext Hi H Hi H:=⟨Same.refl _,Keep.refl _,h,fun _ e q=>absurd e q⟩
def Ext.trans{Hi H Hi1 H1 Hi2 H2:Hp}(a:Ext Hi H Hi1 H1)(b:Ext Hi1 H1 Hi2 H2):Ext Hi H Hi2 H2:=
 ⟨a.i.trans b.i,a.h.trans b.h,b.s,fun c e q=>by
  cases z:Hi1 c with
  | some o=>exact a.n c e (by rw[z];exact fun w=>by cases w)
  | none=>
   have z2:=b.n c z q
   exact a.h.none z2⟩
def bZ{H:Hp}{p:Jc}(h:H p=none)(o:HO):Same H (upd H p o):=fun b u q=>by rw[aY (bB q h)];exact q
def zDy{H:Hp}{p:Jc}(h:H p=none)(o:HO):Keep H (upd H p o):=⟨fun b u q=>.inl (bZ h o b u q),fun P e=>e.put (fun ps z=>by rw[h] at z;cases z) (fun ob u z=>by rw[h] at z;cases z)⟩
def _root_.L2.Same.none{H H':Hp}(h:Same H H'){p:Jc}(e:H' p=none):H p=none:=by
 cases z:H p with
 | none=>rfl
 | some o=>rw[h _ _ z] at e;cases e
def Ext.new{Hi H:Hp}{p:Jc}{o:HO}(h:Same Hi H)(hp:H p=none):Ext Hi H (upd Hi p o) (upd H p o) where
 i:=bZ (h.none hp) o
 h:=zDy hp o
 s:=fun b u q=>by
  by_cases e:b=p
  ·subst e;rw[aW] at q ⊢;exact q
  ·rw[aY e] at q ⊢;exact h _ _ q
 n:=fun b e q=>by
  by_cases z:b=p
  ·rw[z];exact hp
  ·rw[aY z] at q;exact absurd e q
def Ext.newF{Hi H:Hp}{p:Jc}{o:HO}(h:Same Hi H)(hp:H p=none):Ext Hi H Hi (upd H p o) where
 i:=Same.refl _
 h:=zDy hp o
 s:=h.trans (bZ hp o)
 n:=fun b e q=>absurd e q
def Ext.out{Hi H Hi' H':Hp}(e:Ext Hi H Hi' H'){a:Jc}{o:HO}(h:H a=some o)(hi:Hi a=none)(ho:∀ ps,o≠.tbl ps:=by intro ps z;cases z):H' a=some o/\Hi' a=none:=by
 refine⟨e.h.at h ho,?_⟩
 cases z:Hi' a with
 | none=>rfl
 | some u=>have:=e.n a hi (by rw[z];exact fun w=>by cases w);rw[h] at this;cases this
def Ext.hold{Hi H Hi' H':Hp}(e:Ext Hi H Hi' H'){a:Jc}{o:HO}(hn:H a=none)(h:H' a=some o)(hi:Hi' a=none):Ext Hi H (upd Hi' a o) H' where
 i:=e.i.trans (bZ hi o)
 h:=e.h
 s:=fun b u q=>by
  by_cases z:b=a
  ·subst z;rw[aW] at q;cases q;exact h
  ·rw[aY z] at q;exact e.s _ _ q
 n:=fun b z q=>by
  by_cases w:b=a
  ·rw[w];exact hn
  ·rw[aY w] at q;exact e.n b z q
def zQC(a C:Jc):Jd->Prop:=fun h=>∃ o vs,h.get? a=some o/\o.cls=.ref C/\o.data=.fields vs
def kvT(T:List (Str×Str)):List (Key×V):=T.map fun q=>(Sum.inr q.1,V.str q.2)
def zDD(K:PySem.W.Frag)(mg:Str->Option Ja)(B Hi H:Hp)(o:Option (Option V)):Sl->Prop
 | .un=>True
 | .val d=>∃ v,o=some (some v)/\IsD K Hi v d
 | .own ds=>∃ a xs,o=some (some (.ref a))/\H a=some (.lst xs)/\Hi a=none/\B a=none/\IsDs K Hi xs ds
 | .exc c=>∃ a C,o=some (some (.ref a))/\H a=some (.ext (zQC a C))/\Hi a=none/\B a=none/\mg c=some (.ref C)
 | .tab T=>∃ a,o=some (some (.ref a))/\Hi a=some (.dK (kvT T))
structure Rel (K:PySem.W.Frag) (mg:Str->Option Ja) (B Bi Hi H:Hp) (σ:St) (ρ:Rho):Prop where
 len:σ.length=ρ.length
 ext:Ext Bi B Hi H
 slot:∀(i:Nat)(s:Sl),ρ[i]?=some s->zDD K mg B Hi H σ[i]? s
 dist:∀(i j:Nat)(a:Jc)(ds es:List D),ρ[i]?=some (.own ds)->ρ[j]?=some (.own es)->σ[i]?=some (some (.ref a))->σ[j]?=some (some (.ref a))->i=j
section
variable{K:Fg_}{mg:Str->Option Ja}{B Bi Hi H Hi' H':Hp}{f:St}{ρ:Rho}
def zDD.ext{o:Option (Option V)}{s:Sl}(h:zDD K mg B Hi H o s)(e:Ext Hi H Hi' H'):zDD K mg B Hi' H' o s:=by
 cases s with
 | un=>trivial
 | val d=>obtain⟨v,q,r⟩:=h;exact⟨v,q,r.mono e.i⟩
 | own ds=>
  obtain⟨a,xs,q,h1,h2,h3,h4⟩:=h;obtain⟨e1,e2⟩:=e.out h1 h2;exact⟨a,xs,q,e1,e2,h3,h4.mono e.i⟩
 | exc c=>
  obtain⟨a,C,q,h1,h2,h3,h4⟩:=h;obtain⟨e1,e2⟩:=e.out h1 h2;exact⟨a,C,q,e1,e2,h3,h4⟩
 | tab T=>obtain⟨a,q,h1⟩:=h;exact⟨a,q,e.i _ _ h1⟩
def Rel.grow(R:Rel K mg B Bi Hi H f ρ)(e:Ext Hi H Hi' H'):Rel K mg B Bi Hi' H' f ρ:=⟨R.len,R.ext.trans e,fun i s q=>(R.slot i s q).ext e,R.dist⟩
def Rel.s(R:Rel K mg B Bi Hi H f ρ):Same Hi H:=R.ext.s
def Rel.set{i:Nat}{v:V}{d:D}(R:Rel K mg B Bi Hi H f ρ)(h:IsD K Hi v d):Rel K mg B Bi Hi H (f.set i (some v)) (ρ.set i (.val d)) where
 len:=by rw[Vf,Vf];exact R.len
 ext:=R.ext
 slot:=fun j s q=>by
  by_cases e:i=j
  ·subst e
   by_cases hl:i<ρ.length
   ·rw[Vi hl] at q;cases q
    exact⟨v,by rw[Vi (by rw[R.len];exact hl)],h⟩
   ·rw[Q3 (by rw[Vf];omega)] at q;cases q
  ·rw[Vj e] at q ⊢
   exact R.slot j s q
 dist:=fun j k a ds es q1 q2 q3 q4=>by
  have h1:∀ {j:Nat} {ds:List D},(ρ.set i (.val d))[j]?=some (.own ds)->i≠j:=fun {j ds} q e=>by
   subst e;by_cases hl:i<ρ.length
   ·rw[Vi hl] at q;cases q
   ·rw[Q3 (by rw[Vf];omega)] at q;cases q
  have n1:=h1 q1;have n2:=h1 q2;rw[Vj n1] at q1 q3;rw[Vj n2] at q2 q4;exact R.dist j k a ds es q1 q2 q3 q4
def Rel.setOwn{i:Nat}{a:Jc}{xs:List V}{ds:List D}(R:Rel K mg B Bi Hi H f ρ)(e:Ext Hi H Hi' H')(hn:H a=none)(h:H' a=some (.lst xs))(hi:Hi' a=none)(hs:IsDs K Hi' xs ds):
  Rel K mg B Bi Hi' H' (f.set i (some (.ref a))) (ρ.set i (.own ds)) where
 len:=by rw[Vf,Vf];exact R.len
 ext:=R.ext.trans e
 slot:=fun j s q=>by
  by_cases z:i=j
  ·subst z
   by_cases hl:i<ρ.length
   ·rw[Vi hl] at q;cases q
    exact⟨a,xs,by rw[Vi (by rw[R.len];exact hl)],h,hi,R.ext.h.none hn,hs⟩
   ·rw[Q3 (by rw[Vf];omega)] at q;cases q
  ·rw[Vj z] at q ⊢
   exact(R.slot j s q).ext e
 dist:=fun j k b es fs q1 q2 q3 q4=>by
  have h1:∀ {j:Nat} {es:List D},i≠j->ρ[j]?=some (.own es)->f[j]?=some (some (.ref a))->False:=fun {j es} _ p1 p2=>by
   obtain⟨a',xs',q,h1,_⟩:=R.slot j _ p1;rw[p2] at q;cases q;rw[hn] at h1;cases h1
  have h2:∀ {j:Nat} {es:List D},(ρ.set i (.own ds))[j]?=some (.own es)->i<f.length∨i≠j:=fun {j es} p=>by
   by_cases z:i=j
   ·subst z
    by_cases hl:i<ρ.length
    ·exact .inl (by rw[R.len];exact hl)
    ·rw[Q3 (by rw[Vf];omega)] at p;cases p
   ·exact .inr z
  by_cases z1:i=j
  ·by_cases z2:i=k
   ·rw[<-z1,<-z2]
   ·exfalso
    subst z1;have hl:i<f.length:=(h2 q1).resolve_right (fun w=>w rfl)
    rw[Vi hl] at q3;cases q3
    rw[Vj z2] at q2 q4;exact h1 z2 q2 q4
  ·by_cases z2:i=k
   ·exfalso
    subst z2;have hl:i<f.length:=(h2 q2).resolve_right (fun w=>w rfl)
    rw[Vi hl] at q4;cases q4
    rw[Vj z1] at q1 q3;exact h1 z1 q1 q3
   ·rw[Vj z1] at q1 q3
    rw[Vj z2] at q2 q4;exact R.dist j k b es fs q1 q2 q3 q4
def Rel.write{i:Nat}{a:Jc}{ys:List V}{ds es:List D}(R:Rel K mg B Bi Hi H f ρ)(e:ρ[i]?=some (.own ds))(ea:f[i]?=some (some (.ref a)))(hs:IsDs K Hi ys es):
  Rel K mg B Bi Hi (upd H a (.lst ys)) f (ρ.set i (.own es)):=by
 obtain⟨a',xs',q,h1,h2,h3,h4⟩:=R.slot i _ e;rw[ea] at q;cases q
 have hl:i<ρ.length:=by
  by_cases hl:i<ρ.length
  ·exact hl
  ·rw[Q3 (by omega)] at e;cases e
 refine⟨by rw[Vf];exact R.len,⟨R.ext.i,⟨fun b o z=>?_,fun P z=>(R.ext.h.t P z).put (fun ps y=>by rw[h1] at y;cases y) (fun ob u y=>by rw[h1] at y;cases y)⟩,fun b o z=>?_,R.ext.n⟩,fun j s z=>?_,fun j k b fs gs q1 q2 q3 q4=>?_⟩
 ·rw[aY (bB z h3)];exact R.ext.h.k _ _ z
 ·rw[aY (bB z h2)];exact R.ext.s _ _ z
 ·by_cases w:i=j
  ·subst w
   rw[Vi hl] at z;cases z
   exact⟨a,ys,ea,aW,h2,h3,hs⟩
  ·rw[Vj w] at z
   have S:=R.slot j s z
   cases s with
   | un=>trivial
   | val d=>exact S
   | own fs=>
    obtain⟨b,zs,p,g1,g2,g3,g4⟩:=S;have hb:b≠a:=fun c=>w (R.dist i j a ds fs e z ea (by rw[p,c]))
    exact⟨b,zs,p,by rw[aY hb];exact g1,g2,g3,g4⟩
   | exc c=>
    obtain⟨b,C,p,g1,g2,g3,g4⟩:=S;have hb:b≠a:=zPB g1 h1 (by intro z;cases z)
    exact⟨b,C,p,by rw[aY hb];exact g1,g2,g3,g4⟩
   | tab T=>exact S
 ·have own:∀ {j:Nat} {fs:List D},(ρ.set i (.own es))[j]?=some (.own fs)->∃ gs,ρ[j]?=some (.own gs):=fun {j fs} p=>by
   by_cases w:i=j
   ·subst w;exact⟨ds,e⟩
   ·rw[Vj w] at p;exact⟨fs,p⟩
  obtain⟨fs',q1'⟩:=own q1;obtain⟨gs',q2'⟩:=own q2;exact R.dist j k b fs' gs' q1' q2' q3 q4
def Rel.frzAt{i:Nat}(R:Rel K mg B Bi Hi H f ρ):∃ Hi',Same Hi Hi'/\Rel K mg B Bi Hi' H f (L3.frzAt i ρ):=by
 unfold L3.frzAt;split
 ·rename_i ds e
  obtain⟨a,xs,q,h1,h2,h3,h4⟩:=R.slot i _ e
  have hl:i<ρ.length:=by
   by_cases hl:i<ρ.length
   ·exact hl
   ·rw[Q3 (by omega)] at e;cases e
  have sm:Same Hi (upd Hi a (.lst xs)):=bZ h2 _
  have ss:Same (upd Hi a (.lst xs)) H:=fun b u z=>by
   by_cases w:b=a
   ·subst w;rw[aW] at z;cases z;exact h1
   ·rw[aY w] at z;exact R.s _ _ z
  refine⟨upd Hi a (.lst xs),sm,by rw[Vf];exact R.len,⟨R.ext.i.trans sm,R.ext.h,ss,fun b z w=>?_⟩,fun j s z=>?_,fun j k b fs gs q1 q2 q3 q4=>?_⟩
  ·by_cases c:b=a
   ·rw[c];exact h3
   ·rw[aY c] at w;exact R.ext.n b z w
  ·by_cases w:i=j
   ·subst w
    rw[Vi hl] at z;cases z
    exact⟨.ref a,q,.lst (SqL.of aW) (h4.mono sm)⟩
   ·rw[Vj w] at z
    have S:=R.slot j s z
    cases s with
    | un=>trivial
    | val d=>obtain⟨v,p,r⟩:=S;exact⟨v,p,r.mono sm⟩
    | own fs=>
     obtain⟨b,zs,p,g1,g2,g3,g4⟩:=S;have hb:b≠a:=fun c=>w (R.dist i j a ds fs e z q (by rw[p,c]))
     exact⟨b,zs,p,g1,by rw[aY hb];exact g2,g3,g4.mono sm⟩
    | exc c=>
     obtain⟨b,C,p,g1,g2,g3,g4⟩:=S;have hb:b≠a:=zPB g1 h1 (by intro z;cases z)
     exact⟨b,C,p,g1,by rw[aY hb];exact g2,g3,g4⟩
    | tab T=>obtain⟨b,p,g1⟩:=S;exact⟨b,p,sm _ _ g1⟩
  ·have own:∀ {j:Nat} {fs:List D},(ρ.set i (.val (.lst ds)))[j]?=some (.own fs)->ρ[j]?=some (.own fs):=fun {j fs} p=>by
    by_cases w:i=j
    ·subst w;rw[Vi hl] at p;cases p
    ·rw[Vj w] at p;exact p
   exact R.dist j k b fs gs (own q1) (own q2) q3 q4
 ·exact⟨Hi,Same.refl _,R⟩
end
end L3
namespace L3
open PySem PySem.Spec PyProof.Rows L2
section
variable{K:Fg_}{mg:Str->Option Ja}{B Bi Hi H Hi' H':Hp}{f:St}{ρ:Rho}
def Rel.frz(R:Rel K mg B Bi Hi H f ρ):∃ Hf,Same Hi Hf/\Rel K mg B Bi Hf H f (ρ.map Sl.frz)/\∀ b,Hi b=none->Hf b≠none->∃ xs,Hf b=some (.lst xs):=by
 let own:Jc->Prop:=fun b=>∃(i:Nat)(ds:List D),ρ[i]?=some (.own ds)/\f[i]?=some (some (.ref b))
 have dec:∀ b,Decidable (own b):=fun b=>Classical.propDecidable _
 let Hf:Hp:=fun b=>match Hi b with
  | some o=>some o
  | none=>if own b then H b else none
 have hf1:∀ b o,Hi b=some o->Hf b=some o:=fun b o e=>by show(match Hi b with | some o=>some o | none=>if own b then H b else none)=_;rw[e]
 have hf2:∀ b,Hi b=none->own b->Hf b=H b:=fun b e z=>by show(match Hi b with | some o=>some o | none=>if own b then H b else none)=_;rw[e];exact Jj z
 have hf3:∀ b,Hi b=none->¬ own b->Hf b=none:=fun b e z=>by show(match Hi b with | some o=>some o | none=>if own b then H b else none)=_;rw[e];exact Jk z
 have lst:∀ b,own b->∃ xs,H b=some (.lst xs)/\Hi b=none/\B b=none:=fun b ⟨i,ds,e1,e2⟩=>by
  obtain⟨a,xs,q,h1,h2,h3,h4⟩:=R.slot i _ e1;rw[e2] at q;cases q
  exact⟨xs,h1,h2,h3⟩
 have ss:Same Hf H:=fun b o z=>by
  cases q:Hi b with
  | some u=>rw[hf1 b u q] at z;cases z;exact R.s _ _ q
  | none=>
   by_cases w:own b
   ·rw[hf2 b q w] at z;exact z
   ·rw[hf3 b q w] at z;cases z
 refine⟨Hf,hf1,⟨by rw[Qf];exact R.len,⟨R.ext.i.trans hf1,R.ext.h,ss,fun b z w=>?_⟩,fun j s z=>?_,fun j k b fs gs q1 q2 q3 q4=>?_⟩,fun b z w=>?_⟩
 ·cases q:Hi b with
  | some u=>exact R.ext.n b z (by rw[q];exact fun c=>by cases c)
  | none=>
   by_cases c:own b
   ·exact(lst b c).choose_spec.2.2
   ·exact absurd (hf3 b q c) w
 ·rw[Qr] at z
  cases e:ρ[j]? with
  | none=>rw[e] at z;cases z
  | some t=>
   rw[e] at z;cases z;have S:=R.slot j t e
   cases t with
   | un=>trivial
   | val d=>obtain⟨v,p,r⟩:=S;exact⟨v,p,r.mono hf1⟩
   | own ds=>
    obtain⟨a,xs,q,h1,h2,h3,h4⟩:=S;exact⟨.ref a,q,.lst (SqL.of (by rw[hf2 a h2 ⟨j,ds,e,q⟩];exact h1)) (h4.mono hf1)⟩
   | exc c=>
    obtain⟨a,C,q,h1,h2,h3,h4⟩:=S;refine⟨a,C,q,h1,?_,h3,h4⟩
    refine hf3 a h2 fun c=>?_
    obtain⟨xs,g,_⟩:=lst a c;rw[h1] at g;cases g
   | tab T=>obtain⟨a,q,h1⟩:=S;exact⟨a,q,hf1 _ _ h1⟩
 ·exfalso
  rw[Qr] at q1
  cases e:ρ[j]? with
  | none=>rw[e] at q1;cases q1
  | some t=>rw[e] at q1;cases t<;>cases q1
 ·by_cases c:own b
  ·obtain⟨xs,g,_⟩:=lst b c
   exact⟨xs,by rw[hf2 b z c];exact g⟩
  ·exact absurd (hf3 b z c) w
def Ext.thaw{Hf:Hp}(s:Same Hi Hf)(fl:∀ b,Hi b=none->Hf b≠none->∃ xs,Hf b=some (.lst xs))(hs:Same Hf H)(e:Ext Hf H Hi' H'):
  ∃ Ht,Ext Hi H Ht H'/\(∀ b xs,Rd Hi' b (.tup xs)->Rd Ht b (.tup xs))/\Same Ht Hi'/\∀ b,Ht b=none->Hi' b=none∨∃ xs,H b=some (.lst xs):=by
 have dec:∀ b,Decidable (Hi b=none/\Hf b≠none):=fun b=>Classical.propDecidable _
 let Ht:Hp:=fun b=>if Hi b=none/\Hf b≠none then none else Hi' b
 have t1:∀ b,¬ (Hi b=none/\Hf b≠none)->Ht b=Hi' b:=fun b z=>Jk z
 have t2:∀ b,(Hi b=none/\Hf b≠none)->Ht b=none:=fun b z=>Jj z
 have tt:Same Ht Hi':=fun b o z=>by
  by_cases w:Hi b=none/\Hf b≠none
  ·rw[t2 b w] at z;cases z
  ·rw[t1 b w] at z;exact z
 refine⟨Ht,⟨fun b o z=>?_,e.h,tt.trans e.s,fun b z w=>?_⟩,fun b xs r=>?_,tt,fun b z=>?_⟩
 ·rw[t1 b (fun w=>by rw[z] at w;cases w.1)];exact e.i _ _ (s _ _ z)
 ·by_cases c:Hi b=none/\Hf b≠none
  ·exact absurd (t2 b c) w
  ·rw[t1 b c] at w
   have:Hf b=none:=by
    cases q:Hf b with
    | none=>rfl
    | some u=>exact absurd ⟨z,by rw[q];exact fun c=>by cases c⟩ c
   exact e.n b this w
 ·have nl:¬ (Hi b=none/\Hf b≠none):=fun w=>by
   obtain⟨ys,g⟩:=fl b w.1 w.2;have g':=e.i _ _ g;rcases r with r | ⟨o,r⟩<;>(rw[g'] at r;cases r)
  rcases r with r | ⟨o,r⟩
  ·exact .inl (by rw[t1 b nl];exact r)
  ·exact .inr ⟨o,by rw[t1 b nl];exact r⟩
 ·by_cases c:Hi b=none/\Hf b≠none
  ·obtain⟨ys,g⟩:=fl b c.1 c.2
   exact .inr ⟨ys,hs _ _ g⟩
  ·exact .inl (by rw[t1 b c] at z;exact z)
end
structure Gx where
 B:Hp
 Bi:Hp
 E:Str->Hp->Prop
abbrev kY(X:Cx)(G:Gx)(Hi H:Hp)(r:St)(ρ:Rho):Prop:=Rel X.K X.mg G.B G.Bi Hi H r ρ
def Out(G:Gx)(Hi H:Hp){s:Type}(r:Res s)(k:s->Hp->Hp->Prop):Prop:=match r with
 | .ok a=>∀ Hi' H',Ext Hi H Hi' H'->k a Hi' H'
 | .err c=>∀ Hi' H',Ext Hi H Hi' H'->G.E c H'
 | .no=>False
def Out.bind{G:Gx}{Hi H:Hp}{s p:Type}{r:Res s}{f:s->Res p}{k:p->Hp->Hp->Prop}(h:Out G Hi H (r.bind f) k):
  Out G Hi H r fun a Hi' H'=>Out G Hi' H' (f a) k:=by
 cases r with
 | no=>exact h
 | err c=>exact h
 | ok a=>
  intro Hi1 H1 e;have h':Out G Hi H (f a) k:=h;show Out G Hi1 H1 (f a) k
  cases q:f a with
  | no=>rw[q] at h';exact h'
  | err c=>rw[q] at h';exact fun Hi2 H2 e2=>h' _ _ (e.trans e2)
  | ok b=>rw[q] at h';exact fun Hi2 H2 e2=>h' _ _ (e.trans e2)
def Out.imp{G:Gx}{Hi H:Hp}{s:Type}{r:Res s}{k k':s->Hp->Hp->Prop}(h:Out G Hi H r k)(f:∀ a Hi' H',Ext Hi H Hi' H'->k a Hi' H'->k' a Hi' H'):Out G Hi H r k':=by
 cases r with
 | no=>exact h
 | err c=>exact h
 | ok a=>exact fun Hi1 H1 e=>f a Hi1 H1 e (h Hi1 H1 e)
def Out.here{G:Gx}{Hi H:Hp}{r:Type}{a:r}{k:r->Hp->Hp->Prop}(h:Out G Hi H (.ok a) k)(s:Same Hi H):k a Hi H:=h Hi H (Ext.refl s)
def tD(X:Cx)(G:Gx)(f:Ev):TE:=fun r H Q=>∃ ρ Hi,kY X G Hi H r ρ/\Out G Hi H (f ρ) fun d Hi' H'=>∀ v,IsD X.K Hi' v d->Q v H'
def zID(K:PySem.W.Frag)(H Hi' H':Hp)(a:Jc)(ds:List D):Prop:=H a=none/\Hi' a=none/\∃ xs,H' a=some (.lst xs)/\IsDs K Hi' xs ds
def tF(X:Cx)(G:Gx)(f:Fv):TE:=fun r H Q=>∃ ρ Hi,kY X G Hi H r ρ/\Out G Hi H (f ρ) fun ds Hi' H'=>∀ a,zID X.K H Hi' H' a ds->Q (.ref a) H'
def tTb(X:Cx)(G:Gx)(f:Tv):TT:=fun r H Q=>∃ ρ Hi,kY X G Hi H r ρ/\Out G Hi H (f ρ) fun b _ H'=>Q b H'
def tAs(X:Cx)(G:Gx)(f:Fv):TA:=fun r H Q=>∃ ρ Hi,kY X G Hi H r ρ/\Out G Hi H (f ρ) fun ds Hi' H'=>∀ vs,IsDs X.K Hi' vs ds->Q vs H'
def Fin(X:Cx)(G:Gx)(Hi:Hp)(E:Ends)(r:Res Fl):Prop:=match r with
 | .ok (.nx r')=>∀ s' Hi' H',Same Hi Hi'->kY X G Hi' H' s' r'->E.nx s' H'
 | .ok (.brk r')=>∀ s' Hi' H',Same Hi Hi'->kY X G Hi' H' s' r'->E.bk s' H'
 | .ok (.ctn r')=>∀ s' Hi' H',Same Hi Hi'->kY X G Hi' H' s' r'->E.ct s' H'
 | .ok (.ret (.v d))=>∀ v Hi' H',Ext G.Bi G.B Hi' H'->IsD X.K Hi' v d->E.rt v H'
 | .ok (.ret (.f ds))=>∀ a Hi' H',Ext G.Bi G.B Hi' H'->zID X.K G.B Hi' H' a ds->E.rt (.ref a) H'
 | .err c=>∀ Hi' H',Ext G.Bi G.B Hi' H'->G.E c H'
 | .no=>False
def Fin.mono{X:Cx}{G:Gx}{Hi Hi':Hp}{E:Ends}{r:Res Fl}(h:Fin X G Hi E r)(s:Same Hi Hi'):Fin X G Hi' E r:=by
 cases r with
 | no=>exact h
 | err c=>exact h
 | ok f=>
  cases f with
  | nx ρ=>exact fun r' Hi2 H2 s2=>h r' Hi2 H2 (s.trans s2)
  | brk ρ=>exact fun r' Hi2 H2 s2=>h r' Hi2 H2 (s.trans s2)
  | ctn ρ=>exact fun r' Hi2 H2 s2=>h r' Hi2 H2 (s.trans s2)
  | ret r=>cases r<;>exact h
def tS(X:Cx)(G:Gx)(f:Sv):TS:=fun E r H=>∃ ρ Hi,kY X G Hi H r ρ/\Fin X G Hi E (f ρ)
@[irreducible] def PEd (X:Cx) (G:Gx) (e:Expr) (f:Ev):Prop:=PE X e (tD X G f)
unseal PEd
@[irreducible] def PEf (X:Cx) (G:Gx) (e:Expr) (f:Fv):Prop:=PE X e (tF X G f)
unseal PEf
@[irreducible] def PTd (X:Cx) (G:Gx) (e:Expr) (f:Tv):Prop:=PT X e (tTb X G f)
unseal PTd
@[irreducible] def PWd (X:Cx) (G:Gx) (e:Expr) (f:Tv):Prop:=PW X e (tTb X G f)
unseal PWd
@[irreducible] def PAd (X:Cx) (G:Gx) (es:List Expr) (f:Fv):Prop:=PA X es (tAs X G f)
unseal PAd
@[irreducible] def PSd (X:Cx) (G:Gx) (s:Jh) (f:Sv):Prop:=PS X s (tS X G f)
unseal PSd
@[irreducible] def dO (X:Cx) (G:Gx) (s:List Jh) (f:Sv):Prop:=PSs X s (tS X G f)
unseal dO
def PE.wk{X:Cx}{e:Expr}{t t':TE}(h:PE X e t)(w:∀ r H Q,t' r H Q->t r H Q):PE X e t':=fun Md s r H Q I q=>h Md s r H Q I (w r H Q q)
def PT.wk{X:Cx}{e:Expr}{t t':TT}(h:PT X e t)(w:∀ r H Q,t' r H Q->t r H Q):PT X e t':=fun Md s r H Q I q=>h Md s r H Q I (w r H Q q)
def PW.wk{X:Cx}{e:Expr}{t t':TT}(h:PW X e t)(w:∀ r H Q,t' r H Q->t r H Q):PW X e t':=fun wh Md s r H Q I q=>h wh Md s r H Q I (w r H Q q)
def PA.wk{X:Cx}{es:List Expr}{t t':TA}(h:PA X es t)(w:∀ r H Q,t' r H Q->t r H Q):PA X es t':=fun pos Md s r H Q I q=>h pos Md s r H Q I (w r H Q q)
def PS.wk{X:Cx}{s:Jh}{t t':TS}(h:PS X s t)(w:∀ E r H,t' E r H->t E r H):PS X s t':=fun Md s r H E I q=>h Md s r H E I (w E r H q)
def PSs.wk{X:Cx}{s:List Jh}{t t':TS}(h:PSs X s t)(w:∀ E r H,t' E r H->t E r H):PSs X s t':=fun Md s r H E I q=>h Md s r H E I (w E r H q)
section
variable{X:Cx}{G:Gx}{a b e:Expr}{es:List Expr}{pos:Pos}{f g:Ev}
def zPO(i:Nat)(h:PE X e (zBV i)):PEd X G e (aE i):=PE.wk h fun j H Q q=>by
 obtain⟨ρ,Hi,R,o⟩:=q;unfold aE at o
 cases z:ρ[i]? with
 | none=>rw[z] at o;exact o.elim
 | some s=>
  rw[z] at o
  cases s with
  | val d=>
   obtain⟨v,p,r⟩:=R.slot i _ z;exact⟨v,p,o.here R.s v r⟩
  | un=>exact o.elim
  | own ds=>exact o.elim
  | exc c=>exact o.elim
  | tab T=>exact o.elim
def qU{v:V}{d:D}(h:PE X e (tC v))(r:∀ H,IsD X.K H v d):PEd X G e (eC d):=PE.wk h fun j H Q q=>by
 obtain⟨ρ,Hi,R,o⟩:=q;exact o.here R.s v (r Hi)
def zDN{Hi H:Hp}{j:St}{ρ:Rho}{l:Type}{k:D->Res l}{k':l->Hp->Hp->Prop}{Q:VK}(R:kY X G Hi H j ρ)(o:Out G Hi H ((f ρ).bind k) k')
  (w:∀ v d Hi' H',Ext Hi H Hi' H'->kY X G Hi' H' j ρ->IsD X.K Hi' v d->Out G Hi' H' (k d) k'->Q v H'):tD X G f j H Q:=
 ⟨ρ,Hi,R,o.bind.imp fun d Hi' H' e q v r=>w v d Hi' H' e (R.grow e) r q⟩
def OpK(X:Cx)(r:R2)(o:Op2):Prop:=(∀ a b c,o a b≠.err c)/\∀(Hi H:Hp)(x y:V)(a b d:D)(Q:VK),Same Hi H->IsD X.K Hi x a->IsD X.K Hi y b->o a b=.ok d->
 (∀ v Hi' H',Ext Hi H Hi' H'->IsD X.K Hi' v d->Q v H')->r x y H Q
def op2{r:R2}{o:Op2}(k:OpK X r o):∀ j H Q,tD X G (eOp o f g) j H Q->tOp r (tD X G f) (tD X G g) j H Q:=fun j H Q q=>by
 obtain⟨ρ,Hi,R,ou⟩:=q;refine zDN R ou fun v d Hi1 H1 e1 R1 r1 o1=>?_
 refine zDN R1 o1 fun w d' Hi2 H2 e2 R2 r2 o2=>?_
 cases z:o d d' with
 | no=>rw[z] at o2;exact o2.elim
 | err c=>exact absurd z (k.1 d d' c)
 | ok u=>
  rw[z] at o2;exact k.2 Hi2 H2 v w d d' u Q R2.s (r1.mono e2.i) r2 z fun x Hi3 H3 e3 r3=>o2 Hi3 H3 e3 x r3
def aS{op:Operator}{r:R2}{o:Op2}(ho:OpR X (binaryOp op) r)(k:OpK X r o)(ha:PEd X G a f)(hb:PEd X G b g):PEd X G (.BinOp a op b pos) (eOp o f g):=PE.wk (zAE ho ha hb) (op2 k)
def zHe{op:CmpOp}{r:R2}{o:Op2}(ho:OpR X (compareOp op) r)(k:OpK X r o)(ha:PEd X G a f)(hb:PEd X G b g)(hm:behindInMarks op b=false):PEd X G (.Compare a [op] [b] pos) (eOp o f g):=PE.wk (zLo ho ha hb hm) (op2 k)
def zAV{r:R2}{o:Op2}(ho:IxR X r)(k:OpK X r o)(ha:PEd X G a f)(hb:PEd X G b g)(hs:zBY b):PEd X G (.Subscript a b pos) (eOp o f g):=PE.wk (zFg ho ha hb hs) (op2 k)
def tst{op:CmpOp}{r:R2}{o:Op2}(ho:OpR X (compareOp op) r)(k:OpK X r o)(ha:PEd X G a f)(hb:PEd X G b g)(hm:behindInMarks op b=false):PTd X G (.Compare a [op] [b] pos) (eD (eOp o f g)):=
 PT.wk (zCp ho ha hb hm) fun j H Q q=>by
  obtain⟨ρ,Hi,R,ou⟩:=q;refine op2 k j H _ ⟨ρ,Hi,R,ou.bind.imp fun d Hi' H' e o v r=>?_⟩
  cases d with
  | bl c=>rw[r.blI];exact⟨c,rfl,o.here e.s⟩
  | _=>exact o.elim
def zIu(h:PEd X G a f)(he:∀ whole,isTrue a X.env whole=(do let v <-whole;standAt a.pos;holding [v] (truthy v)):=by intro _;rfl):PTd X G a (eD f):=PT.wk (zOd h he) fun j H Q q=>by
 obtain⟨ρ,Hi,R,ou⟩:=q;refine⟨ρ,Hi,R,ou.bind.imp fun d Hi' H' e o v r=>?_⟩
 cases d with
 | bl c=>rw[r.blI];exact⟨c,rfl,o.here e.s⟩
 | _=>exact o.elim
variable{t u:Tv}
def zQf{Hi H:Hp}{j:St}{ρ:Rho}{l:Type}{k:Bool->Res l}{k':l->Hp->Hp->Prop}{Q:Bool->Hp->Prop}(R:kY X G Hi H j ρ)(o:Out G Hi H ((t ρ).bind k) k')
  (w:∀ c Hi' H',Ext Hi H Hi' H'->kY X G Hi' H' j ρ->Out G Hi' H' (k c) k'->Q c H'):tTb X G t j H Q:=
 ⟨ρ,Hi,R,o.bind.imp fun d Hi' H' e q=>w d Hi' H' e (R.grow e) q⟩
def zSe(h:PTd X G a t):PTd X G (.UnaryOp .Not a pos) (zLZ t):=PT.wk (zPY h) fun j H Q q=>by
 obtain⟨ρ,Hi,R,ou⟩:=q;exact zQf R ou fun c Hi1 H1 e1 R1 o1=>o1.here R1.s
def zDi(h:PTd X G a t):PWd X G (.BoolOp .And [a] pos) t:=zMB h
def zJM(h:PTd X G a t):PWd X G (.BoolOp .Or [a] pos) t:=zOc h
def zJu{rest:List Expr}(ha:PTd X G a t)(hb:PWd X G (.BoolOp .And (b::rest) pos) u):PWd X G (.BoolOp .And (a::b::rest) pos) (zCa t u):=PW.wk (zPV ha hb) fun j H Q q=>by
 obtain⟨ρ,Hi,R,ou⟩:=q;refine zQf R ou fun c Hi1 H1 e1 R1 o1=>?_
 cases c with
 | true=>exact⟨ρ,Hi1,R1,o1⟩
 | false=>exact o1.here R1.s
def zOe{rest:List Expr}(ha:PTd X G a t)(hb:PWd X G (.BoolOp .Or (b::rest) pos) u):PWd X G (.BoolOp .Or (a::b::rest) pos) (zKa t u):=PW.wk (zRj ha hb) fun j H Q q=>by
 obtain⟨ρ,Hi,R,ou⟩:=q;refine zQf R ou fun c Hi1 H1 e1 R1 o1=>?_
 cases c with
 | true=>exact o1.here R1.s
 | false=>exact⟨ρ,Hi1,R1,o1⟩
def PWd.pt{e:Expr}(h:PWd X G e t):PTd X G e t:=PW.pt h
def zOJ{op}(h:PEd X G a f):PEd X G (.BoolOp op [a] pos) f:=zOu h
def zQJ{rest:List Expr}(ha:PEd X G a f)(hb:PEd X G (.BoolOp .Or (b::rest) pos) g):PEd X G (.BoolOp .Or (a::b::rest) pos) (eOr f g):=PE.wk (zRq ha hb) fun j H Q q=>by
 obtain⟨ρ,Hi,R,ou⟩:=q;refine zDN R ou fun v d Hi1 H1 e1 R1 r1 o1=>?_
 cases d with
 | bl c=>
  refine⟨c,r1.blI,?_⟩
  cases c with
  | true=>exact o1.here R1.s _ (.bl true)
  | false=>exact⟨ρ,Hi1,R1,o1⟩
 | _=>exact o1.elim
def zFL(ha:PEd X G a f):PEd X G (.UnaryOp .USub a pos) (eUn zNz f):=PE.wk (zQS zPM ha) fun j H Q q=>by
 obtain⟨ρ,Hi,R,ou⟩:=q;refine zDN R ou fun v d Hi1 H1 e1 R1 r1 o1=>?_
 cases d with
 | int c=>exact⟨c,r1.intI,o1.here R1.s _ (.int _)⟩
 | _=>exact o1.elim
def zLI{c:Expr}(hc:PTd X G c t)(ha:PEd X G a f)(hb:PEd X G b g):PEd X G (.IfExp c a b pos) (eIf t f g):=PE.wk (zIZ hc ha hb) fun j H Q q=>by
 obtain⟨ρ,Hi,R,ou⟩:=q;refine zQf R ou fun c Hi1 H1 e1 R1 o1=>?_
 cases c with
 | true=>exact⟨ρ,Hi1,R1,o1⟩
 | false=>exact⟨ρ,Hi1,R1,o1⟩
variable{fs:Fv}
def aK:PAd X G [] aNil:=PA.wk mT fun j H Q q=>by
 obtain⟨ρ,Hi,R,ou⟩:=q;exact ou.here R.s [] .nil
def aA(ha:PEd X G e f)(hr:PAd X G es fs)(hs:starEach (e::es) X.env=(false,eval e X.env)::starEach es X.env:=by rfl):PAd X G (e::es) (aB f fs):=PA.wk (gY ha hr hs) fun j H Q q=>by
 obtain⟨ρ,Hi,R,ou⟩:=q;refine zDN R ou fun v d Hi1 H1 e1 R1 r1 o1=>?_
 refine⟨ρ,Hi1,R1,o1.bind.imp fun ds Hi2 H2 e2 o2 vs rs=>?_⟩
 exact o2.here e2.s _ (.cons (r1.mono e2.i) rs)
def zIy{Hi H:Hp}{j:St}{ρ:Rho}{l:Type}{k:List D->Res l}{k':l->Hp->Hp->Prop}{Q:List V->Hp->Prop}(R:kY X G Hi H j ρ)(o:Out G Hi H ((fs ρ).bind k) k')
  (w:∀ vs ds Hi' H',Ext Hi H Hi' H'->kY X G Hi' H' j ρ->IsDs X.K Hi' vs ds->Out G Hi' H' (k ds) k'->Q vs H'):tAs X G fs j H Q:=
 ⟨ρ,Hi,R,o.bind.imp fun d Hi' H' e q v r=>w v d Hi' H' e (R.grow e) r q⟩
def fB{x1}(h:PAd X G es fs):PEd X G (.Tuple es x1 pos) (qR fs):=PE.wk (zPj h) fun j H Q q=>by
 obtain⟨ρ,Hi,R,ou⟩:=q;refine zIy R ou fun vs ds Hi1 H1 e1 R1 r1 o1=>?_
 by_cases hz:ds.length<=16777216
 ·rw[Jj hz] at o1
  refine⟨by rw[r1.length];exact hz,fun p hp=>?_⟩
  exact o1 _ _ (Ext.new R1.s hp) (.ref p) (.tup (SqT.of aW) (r1.mono (bZ (R1.s.none hp) _)))
 ·rw[Jk hz] at o1;exact o1.elim
def dI(h:PAd X G es fs):PEf X G (.List es pos) (pL fs):=PE.wk (zOV h) fun j H Q q=>by
 obtain⟨ρ,Hi,R,ou⟩:=q;refine zIy R ou fun vs ds Hi1 H1 e1 R1 r1 o1=>?_
 by_cases hz:ds.length<=16777216
 ·rw[Jj hz] at o1
  refine⟨by rw[r1.length];exact hz,fun p hp=>?_⟩
  exact o1 _ _ (Ext.newF R1.s hp) p ⟨e1.h.none hp,R1.s.none hp,vs,aW,r1⟩
 ·rw[Jk hz] at o1;exact o1.elim
def PEf.d(h:PEf X G e fs):PEd X G e (eF fs):=PE.wk h fun j H Q q=>by
 obtain⟨ρ,Hi,R,ou⟩:=q;refine⟨ρ,Hi,R,?_⟩
 cases z:fs ρ with
 | no=>unfold eF at ou;rw[z] at ou;exact ou
 | err c=>unfold eF at ou;rw[z] at ou;exact ou
 | ok ds=>
  unfold eF at ou;rw[z] at ou
  intro Hi1 H1 e1 a n;obtain⟨n1,n2,xs,n3,n4⟩:=n;have ou':∀ Hi' H',Ext Hi H Hi' H'->∀ v,IsD X.K Hi' v (.lst ds)->Q v H':=ou;exact ou' _ _ (e1.hold n1 n3 n2) (.ref a) (.lst (SqL.of aW) (n4.mono (bZ n2 _)))
def PEd.frz(h:PEd X G e f):PEd X G e (zEk f):=PE.wk h fun j H Q q=>by
 obtain⟨ρ,Hi,R,ou⟩:=q;obtain⟨Hf,s1,R1,fl⟩:=R.frz;refine⟨ρ.map Sl.frz,Hf,R1,?_⟩
 unfold zEk at ou
 cases z:f (ρ.map Sl.frz) with
 | no=>rw[z] at ou;exact ou
 | err c=>
  rw[z] at ou;intro Hi1 H1 e1;have ou':∀ Hi' H',Ext Hi H Hi' H'->G.E c H':=ou;obtain⟨Ht,e2,k,s2,n⟩:=Ext.thaw s1 fl R1.s e1;exact ou' Ht H1 e2
 | ok d=>
  rw[z] at ou;by_cases hz:noL d=true
  ·have ou':Out G Hi H (if noL d=true then Res.ok d else .no) _:=ou
   rw[Jj hz] at ou';intro Hi1 H1 e1 v r;obtain⟨Ht,e2,k,s2,n⟩:=Ext.thaw s1 fl R1.s e1;exact ou' Ht H1 e2 v (r.noL k hz)
  ·have ou':Out G Hi H (if noL d=true then Res.ok d else .no) _:=ou
   rw[Jk hz] at ou';exact ou'.elim
end
end L3
namespace L3
open PySem PySem.Spec PyProof.Rows L2
unseal PEd PEf PTd PWd PAd PSd dO
local macro_rules | `(⋯)=>`(by omega)
section
variable{X:Cx}{G:Gx}{a b e:Expr}{es:List Expr}{pos:Pos}{f g:Ev}{fs:Fv}{t u:Tv}
def PEf.frz(h:PEf X G e fs):PEf X G e (zQi fs):=PE.wk h fun m H Q q=>by
 obtain⟨ρ,Hi,R,ou⟩:=q;obtain⟨Hf,s1,R1,fl⟩:=R.frz;refine⟨ρ.map Sl.frz,Hf,R1,?_⟩
 unfold zQi at ou
 cases z:fs (ρ.map Sl.frz) with
 | no=>rw[z] at ou;exact ou
 | err c=>
  rw[z] at ou;intro Hi1 H1 e1;have ou':∀ Hi' H',Ext Hi H Hi' H'->G.E c H':=ou;obtain⟨Ht,e2,k,s2,n⟩:=Ext.thaw s1 fl R1.s e1;exact ou' Ht H1 e2
 | ok ds=>
  rw[z] at ou;have ou':Out G Hi H (if noLs ds=true then Res.ok ds else .no) _:=ou;by_cases hz:noLs ds=true
  ·rw[Jj hz] at ou'
   intro Hi1 H1 e1 a n;obtain⟨n1,n2,xs,n3,n4⟩:=n;obtain⟨Ht,e2,k,s2,_⟩:=Ext.thaw s1 fl R1.s e1;exact ou' Ht H1 e2 a ⟨n1,s2.none n2,xs,n3,n4.noL k hz⟩
  ·rw[Jk hz] at ou';exact ou'.elim
def OpR.or{o:Ja->Ja->Sem Ja}{r r':R2}(h:OpR X o r)(h':OpR X o r'):OpR X o (fun x y H Q=>r x y H Q∨r' x y H Q):=by
 intro Md s m H x y v u Q I rx ry q;rcases q with q | q
 ·exact h Md s m H x y v u Q I rx ry q
 ·exact h' Md s m H x y v u Q I rx ry q
def zPm{o:Op2}{h:Int->Int->Int}(hi:∀ i j,o (.int i) (.int j)=.ok (.int (h i j)))(hn:∀ a b d,o a b=.ok d->∃ i j,a=.int i/\b=.int j)(he:∀ a b c,o a b≠.err c):OpK X (rI0 fun i j=>.int (h i j)) o:=
 ⟨he,fun Hi H x y a b d Q s r1 r2 z q=>by
  obtain⟨i,j,rfl,rfl⟩:=hn a b d z;rw[hi] at z;cases z
  exact⟨i,j,r1.intI,r2.intI,q _ Hi H (Ext.refl s) (.int _)⟩⟩
def zKm{o:Op2}{h:Int->Int->Bool}(hi:∀ i j,o (.int i) (.int j)=.ok (.bl (h i j)))(hn:∀ a b d,o a b=.ok d->∃ i j,a=.int i/\b=.int j)(he:∀ a b c,o a b≠.err c):OpK X (rI0 fun i j=>.bl (h i j)) o:=
 ⟨he,fun Hi H x y a b d Q s r1 r2 z q=>by
  obtain⟨i,j,rfl,rfl⟩:=hn a b d z;rw[hi] at z;cases z
  exact⟨i,j,r1.intI,r2.intI,q _ Hi H (Ext.refl s) (.bl _)⟩⟩
def zHy:OpK X (rI0 fun i j=>.int (i-j)) yM:=zPm (fun _ _=>rfl) (fun a b d z=>by unfold yM at z;split at z<;>first | exact⟨_,_,rfl,rfl⟩ | cases z) (fun a b c z=>by unfold yM at z;split at z<;>cases z)
def zKc:OpK X (rI0 fun i j=>.bl (decide (i<j))) oLt:=zKm (fun _ _=>rfl) (fun a b d z=>by unfold oLt at z;split at z<;>first | exact⟨_,_,rfl,rfl⟩ | cases z) (fun a b c z=>by unfold oLt at z;split at z<;>cases z)
def zIP:OpK X (rI0 fun i j=>.bl (decide (j<i))) oGt:=zKm (fun _ _=>rfl) (fun a b d z=>by unfold oGt at z;split at z<;>first | exact⟨_,_,rfl,rfl⟩ | cases z) (fun a b c z=>by unfold oGt at z;split at z<;>cases z)
def zJA{o:Op2}{C:Int->Int->Prop}{h:Int->Int->Int}(hn:∀ a b d,o a b=.ok d->∃ i j,a=.int i/\b=.int j/\C i j/\d=.int (h i j))(he:∀ a b c,o a b≠.err c):OpK X (rI C fun i j=>.int (h i j)) o:=
 ⟨he,fun Hi H x y a b d Q s r1 r2 z q=>by
  obtain⟨i,j,rfl,rfl,hc,rfl⟩:=hn a b d z
  exact⟨i,j,r1.intI,r2.intI,hc,q _ Hi H (Ext.refl s) (.int _)⟩⟩
def zQb(i j:Int):Prop:=iJ i j=true
def cV:OpR X (binaryOp .Mult) (rI zQb fun i j=>.int (i*j)):=opI fun i j _ _ _ _ _ hc q=>by
 have hc':iJ i j=true:=hc;unfold iJ at hc';simp only[Xc,Vh,decide_eq_true_eq] at hc';rcases hc' with (⟨h1,h2⟩ | ⟨h1,h2⟩) | h
 ·exact mul_int q (zQn.ok (.inl ⟨h1,h2⟩))
 ·exact mul_int q (zQn.ok (.inr ⟨h1,h2⟩))
 ·exact mul_int q (PySem.IntMulOk.of_le (Wc.mpr (zMr i)) (Wc.mpr (zMr j)) h)
def zNP(_ j:Int):Prop:=lL j=true
def bS:OpR X (binaryOp .FloorDiv) (rI zNP fun i j=>.int (i.fdiv j)):=opI fun i j _ _ _ _ _ hc q=>by
 have hc':lL j=true:=hc;unfold lL at hc';simp only[Vh,decide_eq_true_eq] at hc';refine floordiv_int hc'.1 q (.inl (PyProof.noPylong_of_log2 ?_))
 have h2:=hc'.2;unfold nb at h2;omega
def zNS(i j:Int):Prop:=rJ i j=true
def iD:OpR X (binaryOp .Pow) (rI zNS fun i j=>.int (i^j.toNat)):=opI fun i j _ _ _ _ _ hc q=>by
 have hc':rJ i j=true:=hc;unfold rJ at hc';simp only[Vh,decide_eq_true_eq] at hc';refine pow_int hc'.1 (Xv (Int.mul_le_mul_of_nonneg_right ?_ hc'.1) hc'.2) q
 have:=Wc.mpr (zMr i)
 omega
def jA:OpK X (rI zQb fun i j=>.int (i*j)) qX:=zJA (fun a b d z=>by
 unfold qX at z;split at z
 case h_2=>cases z
 rename_i i j
 have z':(if iJ i j=true then Res.ok (D.int (i*j)) else .no)=.ok d:=z;by_cases h:iJ i j=true
 ·rw[Jj h] at z';cases z';exact⟨i,j,rfl,rfl,h,rfl⟩
 ·rw[Jk h] at z';cases z') (fun a b c z=>by
 unfold qX at z;split at z
 case h_2=>cases z
 rename_i i j
 have z':(if iJ i j=true then Res.ok (D.int (i*j)) else .no)=.err c:=z;by_cases h:iJ i j=true
 ·rw[Jj h] at z';cases z'
 ·rw[Jk h] at z';cases z')
def fK:OpK X (rI zNP fun i j=>.int (i.fdiv j)) lJ:=zJA (fun a b d z=>by
 unfold lJ at z;split at z
 case h_2=>cases z
 rename_i i j
 have z':(if lL j=true then Res.ok (D.int (i.fdiv j)) else .no)=.ok d:=z;by_cases h:lL j=true
 ·rw[Jj h] at z';cases z';exact⟨i,j,rfl,rfl,h,rfl⟩
 ·rw[Jk h] at z';cases z') (fun a b c z=>by
 unfold lJ at z;split at z
 case h_2=>cases z
 rename_i i j
 have z':(if lL j=true then Res.ok (D.int (i.fdiv j)) else .no)=.err c:=z;by_cases h:lL j=true
 ·rw[Jj h] at z';cases z'
 ·rw[Jk h] at z';cases z')
def eA:OpK X (rI (fun _ j=>j≠0) fun i j=>.int (i.fmod j)) kL:=zJA (fun a b d z=>by
 unfold kL at z;split at z
 case h_2=>cases z
 rename_i i j
 have z':(if j≠0 then Res.ok (D.int (i.fmod j)) else .no)=.ok d:=z;by_cases h:j≠0
 ·rw[Jj h] at z';cases z';exact⟨i,j,rfl,rfl,h,rfl⟩
 ·rw[Jk h] at z';cases z') (fun a b c z=>by
 unfold kL at z;split at z
 case h_2=>cases z
 rename_i i j
 have z':(if j≠0 then Res.ok (D.int (i.fmod j)) else .no)=.err c:=z;by_cases h:j≠0
 ·rw[Jj h] at z';cases z'
 ·rw[Jk h] at z';cases z')
def uT:OpK X (rI zNS fun i j=>.int (i^j.toNat)) zAK:=zJA (fun a b d z=>by
 unfold zAK at z;split at z
 case h_2=>cases z
 rename_i i j
 have z':(if rJ i j=true then Res.ok (D.int (i^j.toNat)) else .no)=.ok d:=z;by_cases h:rJ i j=true
 ·rw[Jj h] at z';cases z';exact⟨i,j,rfl,rfl,h,rfl⟩
 ·rw[Jk h] at z';cases z') (fun a b c z=>by
 unfold zAK at z;split at z
 case h_2=>cases z
 rename_i i j
 have z':(if rJ i j=true then Res.ok (D.int (i^j.toNat)) else .no)=.err c:=z;by_cases h:rJ i j=true
 ·rw[Jj h] at z';cases z'
 ·rw[Jk h] at z';cases z')
def zOK(K:PySem.W.Frag):R2:=fun x y H Q=>∃ a b ys,x=.ref a/\y=.ref b/\SqT K H a []/\SqT K H b ys/\Q (.ref b) H
def zMk:OpR X (binaryOp .Add) (zOK X.K):=by
 intro Md s m H x y v u Q I rx ry h;obtain⟨a,b,ys,rfl,rfl,ha,hb,q⟩:=h;cases rx;cases ry;obtain⟨its,r1,p1,_⟩:=I.tuple ha;obtain⟨its2,r2,p2,_⟩:=I.tuple hb;cases r1;obtain⟨⟨c1,d1,t1,s1⟩,ho1,hc1,n1,hd1⟩:=id p1;obtain⟨⟨c2,d2,t2,s2⟩,ho2,hc2,n2,hd2⟩:=id p2;simp only at hc1 hd1 hc2 hd2
 subst hc1 hd1 hc2 hd2;exact Jy ⟨_,ho1,rfl⟩ ⟨_,ho2,rfl⟩ Jz J0 U0 U1 (U2 _ _) (tuple_addW0 a b #[] its2.toArray n1 n2 d1 d2 s1 s2 rfl) ⟨ho1,ho2,⟨.ref b,H,I,rfl,q⟩⟩
def zNX(K:PySem.W.Frag):R2:=fun x y H Q=>rI0 (fun i j=>.int (i+j)) x y H Q∨(zPd K x y H Q∨zOK K x y H Q)
def cY:OpR X (binaryOp .Add) (zNX X.K):=OpR.or zPZ (OpR.or zLN zMk)
def jI:OpK X (zNX X.K) rA:=⟨fun a b c z=>(by
  unfold rA at z;split at z
  case h_1=>cases z
  case h_3=>cases z
  rename_i as bs
  have z':(if as.length+bs.length<=16777216 then Res.ok (D.tup (as++bs)) else .no)=.err c:=z
  split at z'<;>cases z'),fun Hi H x y a b d Q s r1 r2 z q=>by
  unfold rA at z;split at z
  case h_3=>cases z
  ·cases z
   exact .inl ⟨_,_,r1.intI,r2.intI,q _ Hi H (Ext.refl s) (.int _)⟩
  ·rename_i as bs
   have z':(if as.length+bs.length<=16777216 then Res.ok (D.tup (as++bs)) else .no)=.ok d:=z;split at z'
   ·rename_i hz
    cases z'
    obtain⟨p,xs,rfl,h1,i1⟩:=r1.tupI;obtain⟨p',ys,rfl,h2,i2⟩:=r2.tupI;by_cases h0:as.length=0
    ·have e0:as=[]:=Ue h0
     subst e0;cases i1;exact .inr (.inr ⟨p,p',ys,rfl,rfl,bR s h1,bR s h2,q _ Hi H (Ext.refl s) (.tup h2 i2)⟩)
    refine .inr (.inl ⟨p,p',xs,ys,rfl,rfl,bR s h1,bR s h2,fun e=>h0 (by rw[<-i1.length,e];rfl),by rw[i1.length,i2.length];exact hz,fun e=>?_,fun _ l hl=>?_⟩)
    ·subst e
     cases i2;rw[Vn] at q;exact q _ Hi H (Ext.refl s) (.tup h1 i1)
    ·exact q _ _ _ (Ext.new s hl) (.tup (SqT.of aW) ((i1.append i2).mono (bZ (s.none hl) _)))
   ·cases z'⟩
def zLt{A:Type}{xs:List A}{i:Int}{v:A}(h0:i<0)(h1:0<=(xs.length:Int)+i)(h:xs[((xs.length:Int)+i).toNat]?=some v):atI xs i=some v:=by
 have e:ixN xs.length i=some ((xs.length:Int)+i).toNat:=by
  unfold ixN;rw[Jk ⋯,Jj ⋯];congr 2
  omega
 unfold atI;rw[e];exact h
def zHB{K:Fg_}{H:Hp}{xs:List V}{ds:List D}{i:Int}{d:D}(h:IsDs K H xs ds)(e:atD ds i=some d):∃ v,atI xs i=some v/\IsD K H v d:=by
 unfold atD at e;by_cases h0:0<=i
 ·rw[Jj h0] at e
  obtain⟨v,hv,r⟩:=h.at e;refine⟨v,?_,r⟩
  have:=zCw hv
  rw[show((i.toNat:Nat):Int)=i by omega] at this;exact this
 ·rw[Jk h0] at e
  by_cases h1:0<=(ds.length:Int)+i
  ·rw[Jj h1] at e
   obtain⟨v,hv,r⟩:=h.at e;refine⟨v,?_,r⟩
   have hl:=h.length;have e2:((ds.length:Int)+i).toNat=((xs.length:Int)+i).toNat:=by rw[hl]
   rw[e2] at hv;exact zLt ⋯ ⋯ hv
  ·rw[Jk h1] at e;cases e
def zKR:OpK X (fun x y H Q=>zQo X.K x y H Q∨zQl X.K x y H Q) oIx:=⟨fun a b c z=>(by
  unfold oIx at z;split at z
  case h_3=>cases z
  ·rename_i ds i
   have z':ofO (atD ds i)=Res.err c:=z;cases q:atD ds i<;>rw[q] at z'<;>cases z'
  ·rename_i ds i
   have z':ofO (atD ds i)=Res.err c:=z
   cases q:atD ds i<;>rw[q] at z'<;>cases z'),fun Hi H x y a b d Q s r1 r2 z q=>by
  unfold oIx at z;split at z
  case h_3=>cases z
  ·rename_i ds i
   have z':ofO (atD ds i)=Res.ok d:=z
   cases w:atD ds i with
   | none=>rw[w] at z';cases z'
   | some d'=>
    rw[w] at z';cases z'
    obtain⟨p,xs,rfl,h1,i1⟩:=r1.tupI;obtain⟨v,hv,r⟩:=zHB i1 w;exact .inr ⟨p,xs,i,v,rfl,r2.intI,bR s h1,hv,q v Hi H (Ext.refl s) r⟩
  ·rename_i ds i
   have z':ofO (atD ds i)=Res.ok d:=z
   cases w:atD ds i with
   | none=>rw[w] at z';cases z'
   | some d'=>
    rw[w] at z';cases z'
    obtain⟨p,xs,rfl,h1,i1⟩:=r1.lstI;obtain⟨v,hv,r⟩:=zHB i1 w
    exact .inl ⟨p,xs,i,v,rfl,r2.intI,cM s h1,hv,q v Hi H (Ext.refl s) r⟩⟩
def gH:IxR X (fun x y H Q=>zQo X.K x y H Q∨zQl X.K x y H Q):=zMw.or zPl
end
section
variable{X:Cx}{Md:List (Jc×Obj)}{r:St}{H:Hp}{s:Jb}
mutual
def IsD.inj(I:Inv X Md r H s):∀ {v:V} {d e:D},IsD X.K H v d->IsD X.K H v e->d=e
 | _,_,_,.non,h=>by cases h;rfl
 | _,_,_,.bl b,h=>by cases h;rfl
 | _,_,_,.int i,h=>by cases h;rfl
 | _,_,_,.str x,h=>by cases h;rfl
 | _,_,_,.tup h hs,h2=>by
  cases h2 with
  | tup h' hs'=>
   have e:=I.tuple_inj h h';subst e;rw[IsDs.inj I hs hs']
  | lst h' hs'=>
   exfalso
   obtain⟨_,_,⟨o,e,c,_⟩,_⟩:=I.tuple h;obtain⟨_,_,⟨o',n',e',c',_⟩,_⟩:=I.list h';rw[e] at e';cases e';rw[c] at c';exact absurd c' (by decide)
 | _,_,_,.lst h hs,h2=>by
  cases h2 with
  | lst h' hs'=>
   have e:=I.list_inj h h';subst e;rw[IsDs.inj I hs hs']
  | tup h' hs'=>
   exfalso
   obtain⟨_,_,⟨o,e,c,_⟩,_⟩:=I.tuple h';obtain⟨_,_,⟨o',n',e',c',_⟩,_⟩:=I.list h;rw[e] at e';cases e';rw[c] at c';exact absurd c' (by decide)
def IsDs.inj(I:Inv X Md r H s):∀ {vs:List V} {ds es:List D},IsDs X.K H vs ds->IsDs X.K H vs es->ds=es
 | _,_,_,.nil,h=>by cases h;rfl
 | _,_,_,.cons h hs,h2=>by
  cases h2 with
  | cons h' hs'=>rw[IsD.inj I h h',IsDs.inj I hs hs']
end
def zGs{r:Type}{l:List r}{j:Nat}{x d:r}(h:l[j]?=some x):l.getD j d=x:=by
 rw[Qq,h];rfl
def nK{A:Jg}{xs xs':List V}{ds ds':List D}{its its':List Ja}(hs:IsDs X.K H xs ds)(hs':IsDs X.K H xs' ds')(rv:dN xs its)(rv':dN xs' its')
  (rc:∀(d d':D)(v v':V)(u u':Ja),d∈ds->IsD X.K H v d->IsD X.K H v' d'->cU v u->cU v' u'->SeqAt.EqAt A s u u' (eqD d d'))
  (j:Nat) (g1:j<its.toArray.size) (g2:j<its'.toArray.size):SeqAt.EqAt A s its.toArray[j] its'.toArray[j] (eqD (ds.getD j .non) (ds'.getD j .non)):=by
 have g1':j<its.length:=by simpa using g1
 have g2':j<its'.length:=by simpa using g2
 have l1:its.length=ds.length:=by rw[<-rv.length,hs.length]
 have l2:its'.length=ds'.length:=by rw[<-rv'.length,hs'.length]
 obtain⟨d,hd⟩:∃ d,ds[j]?=some d:=⟨_,Qj ⋯⟩
 obtain⟨d',hd'⟩:∃ d,ds'[j]?=some d:=⟨_,Qj ⋯⟩
 obtain⟨v,hv,iv⟩:=hs.at hd;obtain⟨v',hv',iv'⟩:=hs'.at hd';obtain⟨w1,hw,rw1⟩:=rv.get hv;obtain⟨w2,hw',rw2⟩:=rv'.get hv'
 have e1:its.toArray[j]=w1:=by
  rw[Qj g1'] at hw;simpa using hw
 have e2:its'.toArray[j]=w2:=by
  rw[Qj g2'] at hw';simpa using hw'
 rw[e1,e2,zGs hd,zGs hd'];exact rc d d' v v' w1 w2 (Qg hd) iv iv' rw1 rw2
def gZ{ds ds':List D}(h:ds.length=ds'.length):((List.range ds.length).all fun j=>eqD (ds.getD j .non) (ds'.getD j .non))=zEl ds ds':=by
 rw[nA,<-h,Yo];simp
def zY{ds ds':List D}(h:ds.length≠ds'.length):zEl ds ds'=false:=by
 rw[nA];simp[h]
def zAx(I:Inv X Md c H s){A:Jg}{v v':V}{d d':D}{u u':Ja}(h1:IsD X.K H v d)(h2:IsD X.K H v' d')(r1:cU v u)(r2:cU v' u')(hu:A.units<cLine)
  (rc:∀ ds,(d=.tup ds∨d=.lst ds)->∀(e e':D)(w w':V)(z z':Ja),e∈ds->IsD X.K H w e->IsD X.K H w' e'->cU w z->cU w' z'->SeqAt.EqAt A.in1 s z z' (eqD e e')):
  SeqAt.EqAt A s u u' (eqD d d'):=by
 cases h1 with
 | non=>
  cases (show u=Value.none from r1)
  cases h2 with
  | non=>cases (show u'=Value.none from r2);exact SeqAt.EqAt.same _
  | bl b=>cases (show u'=Value.bool _ from r2);exact SeqAt.EqAt.none_bool _
  | int i=>obtain⟨t,rfl⟩:=r2;exact SeqAt.EqAt.none_int _ _
  | str x=>obtain⟨t,rfl⟩:=r2;exact SeqAt.EqAt.none_str _ _
  | tup h hs=>cases (show u'=Value.ref _ from r2);obtain⟨its,rv,p,hz⟩:=I.tuple h;exact SeqAt.EqAt.none_tuple (show s.heap.IsTuple _ its.toArray from p) hu
  | lst h hs=>cases (show u'=Value.ref _ from r2);obtain⟨its,rv,p,hz⟩:=I.list h;exact SeqAt.EqAt.none_list p.isList hu
 | bl b=>
  cases (show u=Value.bool _ from r1)
  cases h2 with
  | non=>cases (show u'=Value.none from r2);exact SeqAt.EqAt.bool_none _
  | bl b=>cases (show u'=Value.bool _ from r2);exact SeqAt.EqAt.bool_bool _ _
  | int i=>obtain⟨t,rfl⟩:=r2;exact SeqAt.EqAt.bool_int _ _ _
  | str x=>obtain⟨t,rfl⟩:=r2;exact SeqAt.EqAt.bool_str _ _ _
  | tup h hs=>cases (show u'=Value.ref _ from r2);obtain⟨its,rv,p,hz⟩:=I.tuple h;exact SeqAt.EqAt.bool_tuple _ (show s.heap.IsTuple _ its.toArray from p) hu
  | lst h hs=>cases (show u'=Value.ref _ from r2);obtain⟨its,rv,p,hz⟩:=I.list h;exact SeqAt.EqAt.bool_list _ p.isList hu
 | int i=>
  obtain⟨t,rfl⟩:=r1
  cases h2 with
  | non=>cases (show u'=Value.none from r2);exact SeqAt.EqAt.int_none _ _
  | bl b=>cases (show u'=Value.bool _ from r2);exact SeqAt.EqAt.int_bool _ _ _
  | int i=>obtain⟨t,rfl⟩:=r2;exact SeqAt.EqAt.int_int _ _ _ _
  | str x=>obtain⟨t,rfl⟩:=r2;exact SeqAt.EqAt.int_str _ _ _ _
  | tup h hs=>cases (show u'=Value.ref _ from r2);obtain⟨its,rv,p,hz⟩:=I.tuple h;exact SeqAt.EqAt.int_tuple _ _ (show s.heap.IsTuple _ its.toArray from p) hu
  | lst h hs=>cases (show u'=Value.ref _ from r2);obtain⟨its,rv,p,hz⟩:=I.list h;exact SeqAt.EqAt.int_list _ _ p.isList hu
 | str x=>
  obtain⟨t,rfl⟩:=r1
  cases h2 with
  | non=>cases (show u'=Value.none from r2);exact SeqAt.EqAt.str_none _ _
  | bl b=>cases (show u'=Value.bool _ from r2);exact SeqAt.EqAt.str_bool _ _ _
  | int i=>obtain⟨t,rfl⟩:=r2;exact SeqAt.EqAt.str_int _ _ _ _
  | str x=>obtain⟨t,rfl⟩:=r2;exact SeqAt.EqAt.str_str _ _ _ _
  | tup h hs=>cases (show u'=Value.ref _ from r2);obtain⟨its,rv,p,hz⟩:=I.tuple h;exact SeqAt.EqAt.str_tuple _ _ (show s.heap.IsTuple _ its.toArray from p) hu
  | lst h hs=>cases (show u'=Value.ref _ from r2);obtain⟨its,rv,p,hz⟩:=I.list h;exact SeqAt.EqAt.str_list _ _ p.isList hu
 | @tup a xs ds h hs=>
  cases (show u=Value.ref a from r1)
  obtain⟨its,rv,p,hz⟩:=I.tuple h
  cases h2 with
  | non=>cases (show u'=Value.none from r2);exact SeqAt.EqAt.tuple_none (show s.heap.IsTuple _ its.toArray from p) hu
  | bl b=>cases (show u'=Value.bool _ from r2);exact SeqAt.EqAt.tuple_bool _ (show s.heap.IsTuple _ its.toArray from p) hu
  | int i=>obtain⟨t,rfl⟩:=r2;exact SeqAt.EqAt.tuple_int _ _ (show s.heap.IsTuple _ its.toArray from p) hu
  | str x=>obtain⟨t,rfl⟩:=r2;exact SeqAt.EqAt.tuple_str _ _ (show s.heap.IsTuple _ its.toArray from p) hu
  | @tup a' xs' ds' h' hs'=>
   cases (show u'=Value.ref a' from r2)
   by_cases e:a=a'
   ·subst e
    have e:=I.tuple_inj h h';subst e;have e:=IsDs.inj I hs hs';subst e;rw[sP];exact SeqAt.EqAt.same _
   ·obtain⟨its',rv',p',hz'⟩:=I.tuple h'
    have l1:its.toArray.size=ds.length:=by rw[Qh,<-rv.length,hs.length]
    have l2:its'.toArray.size=ds'.length:=by rw[Qh,<-rv'.length,hs'.length]
    have key:=SeqAt.RcAt.tuples (A:=A) (s:=s) (show s.heap.IsTuple a its.toArray from p) (show s.heap.IsTuple a' its'.toArray from p') hu
     (nK (A:=A.in1) (s:=s) hs hs' rv rv' fun d d' v v' u u' hm iv iv' r r'=>rc ds (.inl rfl) d d' v v' u u' hm iv iv' r r')
    rw[l1,l2,<-nA] at key;exact SeqAt.EqAt.of_refs e key
  | @lst a' xs' ds' h' hs'=>
   cases (show u'=Value.ref a' from r2)
   obtain⟨its',rv',p',hz'⟩:=I.list h';exact SeqAt.EqAt.tuple_list (show s.heap.IsTuple _ its.toArray from p) p'.isList hu
 | @lst a xs ds h hs=>
  cases (show u=Value.ref a from r1)
  obtain⟨its,rv,p,hz⟩:=I.list h
  cases h2 with
  | non=>cases (show u'=Value.none from r2);exact SeqAt.EqAt.list_none p.isList hu
  | bl b=>cases (show u'=Value.bool _ from r2);exact SeqAt.EqAt.list_bool _ p.isList hu
  | int i=>obtain⟨t,rfl⟩:=r2;exact SeqAt.EqAt.list_int _ _ p.isList hu
  | str x=>obtain⟨t,rfl⟩:=r2;exact SeqAt.EqAt.list_str _ _ p.isList hu
  | @tup a' xs' ds' h' hs'=>
   cases (show u'=Value.ref a' from r2)
   obtain⟨its',rv',p',hz'⟩:=I.tuple h';exact SeqAt.EqAt.list_tuple p.isList (show s.heap.IsTuple _ its'.toArray from p') hu
  | @lst a' xs' ds' h' hs'=>
   cases (show u'=Value.ref a' from r2)
   by_cases e:a=a'
   ·subst e
    have e:=I.list_inj h h';subst e;have e:=IsDs.inj I hs hs';subst e;rw[sP];exact SeqAt.EqAt.same _
   ·obtain⟨its',rv',p',hz'⟩:=I.list h'
    have l1:its.toArray.size=ds.length:=by rw[Qh,<-rv.length,hs.length]
    have l2:its'.toArray.size=ds'.length:=by rw[Qh,<-rv'.length,hs'.length]
    by_cases hl:ds.length=ds'.length
    ·have key:=SeqAt.RcAt.lists (A:=A) (s:=s) p.isList p'.isList (by rw[l1,l2,hl]) hu
      (nK (A:=A.in1) (s:=s) hs hs' rv rv' fun d d' v v' u u' hm iv iv' r r'=>rc ds (.inr rfl) d d' v v' u u' hm iv iv' r r')
     rw[l1,gZ hl] at key;exact SeqAt.EqAt.of_refs e key
    ·have key:=SeqAt.RcAt.lists_lengths (A:=A) (s:=s) p.isList p'.isList (by rw[l1,l2];simp[hl]) hu
     rw[eqD,zY hl];exact SeqAt.EqAt.of_refs e key
def zHD(I:Inv X Md r H s)(n:Nat):∀ {v v':V} {d d':D},dep d<=n->IsD X.K H v d->IsD X.K H v' d'->
  ∀(A:Jg)(u u':Ja),A.units+n<cLine->cU v u->cU v' u'->SeqAt.EqAt A s u u' (eqD d d'):=by
 induction n with
 | zero=>
  intro v v' d d' hn h1 h2 A u u' hu r1 r2;refine zAx I h1 h2 r1 r2 ⋯ fun ds hd=>?_
  rcases hd with rfl | rfl<;>(rw[dep] at hn;omega)
 | succ n ih=>
  intro v v' d d' hn h1 h2 A u u' hu r1 r2;refine zAx I h1 h2 r1 r2 ⋯ fun ds hd e e' w w' z z' hm i1 i2 q1 q2=>?_
  refine ih ?_ i1 i2 A.in1 z z' (by show A.units+1+n<cLine;omega) q1 q2
  have:=qA hm
  rcases hd with rfl | rfl<;>(rw[dep] at hn;omega)
def zHu(I:Inv X Md c H s){A:Jg}{v v':V}{d d':D}{u u':Ja}(h1:IsD X.K H v d)(h2:IsD X.K H v' d')(r1:cU v u)(r2:cU v' u')(hu:A.units<cLine)
  (rc:∀ ds,(d=.tup ds∨d=.lst ds)->∀(e e':D)(w w':V)(z z':Ja),e∈ds->IsD X.K H w e->IsD X.K H w' e'->cU w z->cU w' z'->SeqAt.EqAt A.in1 s z z' (eqD e e')):
  SeqAt.RcAt A s u u' (eqD d d'):=by
 cases h1 with
 | non=>
  cases (show u=Value.none from r1)
  cases h2 with
  | non=>cases (show u'=Value.none from r2);exact SeqAt.RcAt.none_none
  | bl b=>cases (show u'=Value.bool _ from r2);exact SeqAt.RcAt.none_bool _
  | int i=>obtain⟨t,rfl⟩:=r2;exact SeqAt.RcAt.none_int _ _
  | str x=>obtain⟨t,rfl⟩:=r2;exact SeqAt.RcAt.none_str _ _
  | tup h hs=>cases (show u'=Value.ref _ from r2);obtain⟨its,rv,p,hz⟩:=I.tuple h;exact SeqAt.RcAt.none_tuple (show s.heap.IsTuple _ its.toArray from p) hu
  | lst h hs=>cases (show u'=Value.ref _ from r2);obtain⟨its,rv,p,hz⟩:=I.list h;exact SeqAt.RcAt.none_list p.isList hu
 | bl b=>
  cases (show u=Value.bool _ from r1)
  cases h2 with
  | non=>cases (show u'=Value.none from r2);exact SeqAt.RcAt.bool_none _
  | bl b=>cases (show u'=Value.bool _ from r2);exact SeqAt.RcAt.bool_bool _ _
  | int i=>obtain⟨t,rfl⟩:=r2;exact SeqAt.RcAt.bool_int _ _ _
  | str x=>obtain⟨t,rfl⟩:=r2;exact SeqAt.RcAt.bool_str _ _ _
  | tup h hs=>cases (show u'=Value.ref _ from r2);obtain⟨its,rv,p,hz⟩:=I.tuple h;exact SeqAt.RcAt.bool_tuple _ (show s.heap.IsTuple _ its.toArray from p) hu
  | lst h hs=>cases (show u'=Value.ref _ from r2);obtain⟨its,rv,p,hz⟩:=I.list h;exact SeqAt.RcAt.bool_list _ p.isList hu
 | int i=>
  obtain⟨t,rfl⟩:=r1
  cases h2 with
  | non=>cases (show u'=Value.none from r2);exact SeqAt.RcAt.int_none _ _
  | bl b=>cases (show u'=Value.bool _ from r2);exact SeqAt.RcAt.int_bool _ _ _
  | int i=>obtain⟨t,rfl⟩:=r2;exact SeqAt.RcAt.int_int _ _ _ _
  | str x=>obtain⟨t,rfl⟩:=r2;exact SeqAt.RcAt.int_str _ _ _ _
  | tup h hs=>cases (show u'=Value.ref _ from r2);obtain⟨its,rv,p,hz⟩:=I.tuple h;exact SeqAt.RcAt.int_tuple _ _ (show s.heap.IsTuple _ its.toArray from p) hu
  | lst h hs=>cases (show u'=Value.ref _ from r2);obtain⟨its,rv,p,hz⟩:=I.list h;exact SeqAt.RcAt.int_list _ _ p.isList hu
 | str x=>
  obtain⟨t,rfl⟩:=r1
  cases h2 with
  | non=>cases (show u'=Value.none from r2);exact SeqAt.RcAt.str_none _ _
  | bl b=>cases (show u'=Value.bool _ from r2);exact SeqAt.RcAt.str_bool _ _ _
  | int i=>obtain⟨t,rfl⟩:=r2;exact SeqAt.RcAt.str_int _ _ _ _
  | str x=>obtain⟨t,rfl⟩:=r2;exact SeqAt.RcAt.str_str _ _ _ _
  | tup h hs=>cases (show u'=Value.ref _ from r2);obtain⟨its,rv,p,hz⟩:=I.tuple h;exact SeqAt.RcAt.str_tuple _ _ (show s.heap.IsTuple _ its.toArray from p) hu
  | lst h hs=>cases (show u'=Value.ref _ from r2);obtain⟨its,rv,p,hz⟩:=I.list h;exact SeqAt.RcAt.str_list _ _ p.isList hu
 | @tup a xs ds h hs=>
  cases (show u=Value.ref a from r1)
  obtain⟨its,rv,p,hz⟩:=I.tuple h
  cases h2 with
  | non=>cases (show u'=Value.none from r2);exact SeqAt.RcAt.tuple_none (show s.heap.IsTuple _ its.toArray from p) hu
  | bl b=>cases (show u'=Value.bool _ from r2);exact SeqAt.RcAt.tuple_bool _ (show s.heap.IsTuple _ its.toArray from p) hu
  | int i=>obtain⟨t,rfl⟩:=r2;exact SeqAt.RcAt.tuple_int _ _ (show s.heap.IsTuple _ its.toArray from p) hu
  | str x=>obtain⟨t,rfl⟩:=r2;exact SeqAt.RcAt.tuple_str _ _ (show s.heap.IsTuple _ its.toArray from p) hu
  | @tup a' xs' ds' h' hs'=>
   cases (show u'=Value.ref a' from r2)
   ·obtain⟨its',rv',p',hz'⟩:=I.tuple h'
    have l1:its.toArray.size=ds.length:=by rw[Qh,<-rv.length,hs.length]
    have l2:its'.toArray.size=ds'.length:=by rw[Qh,<-rv'.length,hs'.length]
    have key:=SeqAt.RcAt.tuples (A:=A) (s:=s) (show s.heap.IsTuple a its.toArray from p) (show s.heap.IsTuple a' its'.toArray from p') hu
     (nK (A:=A.in1) (s:=s) hs hs' rv rv' fun d d' v v' u u' hm iv iv' r r'=>rc ds (.inl rfl) d d' v v' u u' hm iv iv' r r')
    rw[l1,l2,<-nA] at key;exact key
  | @lst a' xs' ds' h' hs'=>
   cases (show u'=Value.ref a' from r2)
   obtain⟨its',rv',p',hz'⟩:=I.list h';exact SeqAt.RcAt.tuple_list (show s.heap.IsTuple _ its.toArray from p) p'.isList hu
 | @lst a xs ds h hs=>
  cases (show u=Value.ref a from r1)
  obtain⟨its,rv,p,hz⟩:=I.list h
  cases h2 with
  | non=>cases (show u'=Value.none from r2);exact SeqAt.RcAt.list_none p.isList hu
  | bl b=>cases (show u'=Value.bool _ from r2);exact SeqAt.RcAt.list_bool _ p.isList hu
  | int i=>obtain⟨t,rfl⟩:=r2;exact SeqAt.RcAt.list_int _ _ p.isList hu
  | str x=>obtain⟨t,rfl⟩:=r2;exact SeqAt.RcAt.list_str _ _ p.isList hu
  | @tup a' xs' ds' h' hs'=>
   cases (show u'=Value.ref a' from r2)
   obtain⟨its',rv',p',hz'⟩:=I.tuple h';exact SeqAt.RcAt.list_tuple p.isList (show s.heap.IsTuple _ its'.toArray from p') hu
  | @lst a' xs' ds' h' hs'=>
   cases (show u'=Value.ref a' from r2)
   ·obtain⟨its',rv',p',hz'⟩:=I.list h'
    have l1:its.toArray.size=ds.length:=by rw[Qh,<-rv.length,hs.length]
    have l2:its'.toArray.size=ds'.length:=by rw[Qh,<-rv'.length,hs'.length]
    by_cases hl:ds.length=ds'.length
    ·have key:=SeqAt.RcAt.lists (A:=A) (s:=s) p.isList p'.isList (by rw[l1,l2,hl]) hu
      (nK (A:=A.in1) (s:=s) hs hs' rv rv' fun d d' v v' u u' hm iv iv' r r'=>rc ds (.inr rfl) d d' v v' u u' hm iv iv' r r')
     rw[l1,gZ hl] at key;exact key
    ·have key:=SeqAt.RcAt.lists_lengths (A:=A) (s:=s) p.isList p'.isList (by rw[l1,l2];simp[hl]) hu
     rw[eqD,zY hl];exact key
def zIa(I:Inv X Md c H s){A:Jg}{v v':V}{d d':D}{u u':Ja}(h1:IsD X.K H v d)(h2:IsD X.K H v' d')(r1:cU v u)(r2:cU v' u')(hu:A.units<cLine)
  (rc:∀ ds,(d=.tup ds∨d=.lst ds)->∀(e e':D)(w w':V)(z z':Ja),e∈ds->IsD X.K H w e->IsD X.K H w' e'->cU w z->cU w' z'->SeqAt.EqAt A.in1 s z z' (eqD e e')):
  SeqAt.RcNeAt A s u u' (!eqD d d'):=by
 cases h1 with
 | non=>
  cases (show u=Value.none from r1)
  cases h2 with
  | non=>cases (show u'=Value.none from r2);exact SeqAt.RcNeAt.none_none
  | bl b=>cases (show u'=Value.bool _ from r2);exact SeqAt.RcNeAt.none_bool _
  | int i=>obtain⟨t,rfl⟩:=r2;exact SeqAt.RcNeAt.none_int _ _
  | str x=>obtain⟨t,rfl⟩:=r2;exact SeqAt.RcNeAt.none_str _ _
  | tup h hs=>cases (show u'=Value.ref _ from r2);obtain⟨its,rv,p,hz⟩:=I.tuple h;exact SeqAt.RcNeAt.none_tuple (show s.heap.IsTuple _ its.toArray from p) hu
  | lst h hs=>cases (show u'=Value.ref _ from r2);obtain⟨its,rv,p,hz⟩:=I.list h;exact SeqAt.RcNeAt.none_list p.isList hu
 | bl b=>
  cases (show u=Value.bool _ from r1)
  cases h2 with
  | non=>cases (show u'=Value.none from r2);exact SeqAt.RcNeAt.bool_none _
  | bl b=>cases (show u'=Value.bool _ from r2);exact SeqAt.RcNeAt.bool_bool _ _
  | int i=>obtain⟨t,rfl⟩:=r2;exact SeqAt.RcNeAt.bool_int _ _ _
  | str x=>obtain⟨t,rfl⟩:=r2;exact SeqAt.RcNeAt.bool_str _ _ _
  | tup h hs=>cases (show u'=Value.ref _ from r2);obtain⟨its,rv,p,hz⟩:=I.tuple h;exact SeqAt.RcNeAt.bool_tuple _ (show s.heap.IsTuple _ its.toArray from p) hu
  | lst h hs=>cases (show u'=Value.ref _ from r2);obtain⟨its,rv,p,hz⟩:=I.list h;exact SeqAt.RcNeAt.bool_list _ p.isList hu
 | int i=>
  obtain⟨t,rfl⟩:=r1
  cases h2 with
  | non=>cases (show u'=Value.none from r2);exact SeqAt.RcNeAt.int_none _ _
  | bl b=>cases (show u'=Value.bool _ from r2);exact SeqAt.RcNeAt.int_bool _ _ _
  | int i=>obtain⟨t,rfl⟩:=r2;exact SeqAt.RcNeAt.int_int _ _ _ _
  | str x=>obtain⟨t,rfl⟩:=r2;exact SeqAt.RcNeAt.int_str _ _ _ _
  | tup h hs=>cases (show u'=Value.ref _ from r2);obtain⟨its,rv,p,hz⟩:=I.tuple h;exact SeqAt.RcNeAt.int_tuple _ _ (show s.heap.IsTuple _ its.toArray from p) hu
  | lst h hs=>cases (show u'=Value.ref _ from r2);obtain⟨its,rv,p,hz⟩:=I.list h;exact SeqAt.RcNeAt.int_list _ _ p.isList hu
 | str x=>
  obtain⟨t,rfl⟩:=r1
  cases h2 with
  | non=>cases (show u'=Value.none from r2);exact SeqAt.RcNeAt.str_none _ _
  | bl b=>cases (show u'=Value.bool _ from r2);exact SeqAt.RcNeAt.str_bool _ _ _
  | int i=>obtain⟨t,rfl⟩:=r2;exact SeqAt.RcNeAt.str_int _ _ _ _
  | str x=>obtain⟨t,rfl⟩:=r2;exact SeqAt.RcNeAt.str_str _ _ _ _
  | tup h hs=>cases (show u'=Value.ref _ from r2);obtain⟨its,rv,p,hz⟩:=I.tuple h;exact SeqAt.RcNeAt.str_tuple _ _ (show s.heap.IsTuple _ its.toArray from p) hu
  | lst h hs=>cases (show u'=Value.ref _ from r2);obtain⟨its,rv,p,hz⟩:=I.list h;exact SeqAt.RcNeAt.str_list _ _ p.isList hu
 | @tup a xs ds h hs=>
  cases (show u=Value.ref a from r1)
  obtain⟨its,rv,p,hz⟩:=I.tuple h
  cases h2 with
  | non=>cases (show u'=Value.none from r2);exact SeqAt.RcNeAt.tuple_none (show s.heap.IsTuple _ its.toArray from p) hu
  | bl b=>cases (show u'=Value.bool _ from r2);exact SeqAt.RcNeAt.tuple_bool _ (show s.heap.IsTuple _ its.toArray from p) hu
  | int i=>obtain⟨t,rfl⟩:=r2;exact SeqAt.RcNeAt.tuple_int _ _ (show s.heap.IsTuple _ its.toArray from p) hu
  | str x=>obtain⟨t,rfl⟩:=r2;exact SeqAt.RcNeAt.tuple_str _ _ (show s.heap.IsTuple _ its.toArray from p) hu
  | @tup a' xs' ds' h' hs'=>
   cases (show u'=Value.ref a' from r2)
   ·obtain⟨its',rv',p',hz'⟩:=I.tuple h'
    have l1:its.toArray.size=ds.length:=by rw[Qh,<-rv.length,hs.length]
    have l2:its'.toArray.size=ds'.length:=by rw[Qh,<-rv'.length,hs'.length]
    have key:=SeqAt.RcNeAt.tuples (A:=A) (s:=s) (show s.heap.IsTuple a its.toArray from p) (show s.heap.IsTuple a' its'.toArray from p') hu
     (nK (A:=A.in1) (s:=s) hs hs' rv rv' fun d d' v v' u u' hm iv iv' r r'=>rc ds (.inl rfl) d d' v v' u u' hm iv iv' r r')
    rw[l1,l2,<-nA] at key;exact key
  | @lst a' xs' ds' h' hs'=>
   cases (show u'=Value.ref a' from r2)
   obtain⟨its',rv',p',hz'⟩:=I.list h';exact SeqAt.RcNeAt.tuple_list (show s.heap.IsTuple _ its.toArray from p) p'.isList hu
 | @lst a xs ds h hs=>
  cases (show u=Value.ref a from r1)
  obtain⟨its,rv,p,hz⟩:=I.list h
  cases h2 with
  | non=>cases (show u'=Value.none from r2);exact SeqAt.RcNeAt.list_none p.isList hu
  | bl b=>cases (show u'=Value.bool _ from r2);exact SeqAt.RcNeAt.list_bool _ p.isList hu
  | int i=>obtain⟨t,rfl⟩:=r2;exact SeqAt.RcNeAt.list_int _ _ p.isList hu
  | str x=>obtain⟨t,rfl⟩:=r2;exact SeqAt.RcNeAt.list_str _ _ p.isList hu
  | @tup a' xs' ds' h' hs'=>
   cases (show u'=Value.ref a' from r2)
   obtain⟨its',rv',p',hz'⟩:=I.tuple h';exact SeqAt.RcNeAt.list_tuple p.isList (show s.heap.IsTuple _ its'.toArray from p') hu
  | @lst a' xs' ds' h' hs'=>
   cases (show u'=Value.ref a' from r2)
   ·obtain⟨its',rv',p',hz'⟩:=I.list h'
    have l1:its.toArray.size=ds.length:=by rw[Qh,<-rv.length,hs.length]
    have l2:its'.toArray.size=ds'.length:=by rw[Qh,<-rv'.length,hs'.length]
    by_cases hl:ds.length=ds'.length
    ·have key:=SeqAt.RcNeAt.lists (A:=A) (s:=s) p.isList p'.isList (by rw[l1,l2,hl]) hu
      (nK (A:=A.in1) (s:=s) hs hs' rv rv' fun d d' v v' u u' hm iv iv' r r'=>rc ds (.inr rfl) d d' v v' u u' hm iv iv' r r')
     rw[l1,gZ hl] at key;exact key
    ·have key:=SeqAt.RcNeAt.lists_lengths (A:=A) (s:=s) p.isList p'.isList (by rw[l1,l2];simp[hl]) hu
     rw[eqD,zY hl];exact key
def eqA{X:Cx}(hu:X.A.units+64<cLine):OpR X (compareOp .Eq) (fun x y H Q=>∃ d d',IsD X.K H x d/\IsD X.K H y d'/\dep d<=50/\Q (.bl (eqD d d')) H):=by
 intro Md s r H x y v u Q I rx ry h;obtain⟨d,d',h1,h2,hn,q⟩:=h;refine zHu I h1 h2 rx ry ⋯ (fun ds hd e e' w w' z z' hm i1 i2 q1 q2=>?_) X.prog X.w X.xe _ ⟨.bl _,H,I,rfl,q⟩
 refine zHD I 50 ?_ i1 i2 X.A.in1 z z' (by show X.A.units+1+50<cLine;omega) q1 q2
 have:=qA hm
 rcases hd with rfl | rfl<;>(rw[dep] at hn;omega)
def neA{X:Cx}(hu:X.A.units+64<cLine):OpR X (compareOp .NotEq) (fun x y H Q=>∃ d d',IsD X.K H x d/\IsD X.K H y d'/\dep d<=50/\Q (.bl (!eqD d d')) H):=by
 intro Md s r H x y v u Q I rx ry h;obtain⟨d,d',h1,h2,hn,q⟩:=h;refine zIa I h1 h2 rx ry ⋯ (fun ds hd e e' w w' z z' hm i1 i2 q1 q2=>?_) X.prog X.w X.xe _ ⟨.bl _,H,I,rfl,q⟩
 refine zHD I 50 ?_ i1 i2 X.A.in1 z z' (by show X.A.units+1+50<cLine;omega) q1 q2
 have:=qA hm
 rcases hd with rfl | rfl<;>(rw[dep] at hn;omega)
def zAm{X:Cx}:OpK X (fun x y H Q=>∃ d d',IsD X.K H x d/\IsD X.K H y d'/\dep d<=50/\Q (.bl (eqD d d')) H) oEq:=⟨fun a b c z=>(by
  unfold oEq at z;split at z<;>cases z),fun Hi H x y a b d Q s r1 r2 z q=>by
  unfold oEq at z;split at z
  ·rename_i h;cases z;exact⟨a,b,r1.mono s,r2.mono s,h,q _ Hi H (Ext.refl s) (.bl _)⟩
  ·cases z⟩
def zKb{X:Cx}:OpK X (fun x y H Q=>∃ d d',IsD X.K H x d/\IsD X.K H y d'/\dep d<=50/\Q (.bl (!eqD d d')) H) oNe:=⟨fun a b c z=>(by
  unfold oNe at z;split at z<;>cases z),fun Hi H x y a b d Q s r1 r2 z q=>by
  unfold oNe at z;split at z
  ·rename_i h;cases z;exact⟨a,b,r1.mono s,r2.mono s,h,q _ Hi H (Ext.refl s) (.bl _)⟩
  ·cases z⟩
open Classical in
def zKL(K:PySem.W.Frag)(H:Hp)(dx:D)(u:Ja):Bool:=if ∃ w d,IsD K H w d/\cU w u/\eqD d dx=true then true else false
def zGQ(I:Inv X Md p H s){dx d:D}{w:V}{u:Ja}(h:IsD X.K H w d)(r:cU w u):zKL X.K H dx u=eqD d dx:=by
 unfold zKL;by_cases e:eqD d dx=true
 ·rw[Jj ⟨w,d,h,r,e⟩,e]
 ·rw[Jk]
  ·simpa using e
  ·rintro⟨w',d',h',r',e'⟩
   have:=r.inj r'
   subst this;have:=IsD.inj I h h'
   subst this;exact e e'
def tV(I:Inv X Md p H s){dx:D}:∀ {xs:List V} {ds:List D} {us:List Ja},IsDs X.K H xs ds->dN xs us->us.any (zKL X.K H dx)=ds.any fun d=>eqD d dx
 | _,_,_,.nil,.nil=>rfl
 | _,_,_,.cons h hs,.cons r t=>by rw[List.any_cons,List.any_cons,zGQ I h r,tV I hs t]
def uC(I:Inv X Md p H s){A:Jg}{dx:D}{x:V}{ux:Ja}(hx:IsD X.K H x dx)(rx:cU x ux)(hu:A.units+50<cLine):∀ {xs:List V} {ds:List D} {us:List Ja},IsDs X.K H xs ds->dN xs us->(∀ d∈ds,dep d<=50)->∀ u∈us,SeqAt.EqAt A s u ux (zKL X.K H dx u)
 | _,_,_,.nil,.nil,_=>fun u hu=>by cases hu
 | _,_,_,.cons h hs,.cons r t,f=>fun u hm=>by
  rcases Qe.mp hm with rfl | hm
  ·rw[zGQ I h r];exact zHD I 50 (f _ Qb) h hx A _ ux hu r rx
  ·exact uC I hx rx hu hs t (fun d hd=>f d (Qc _ hd)) u hm
def zQp(K:PySem.W.Frag)(neg:Bool):R2:=fun x y H Q=>∃ d ds,IsD K H x d/\(IsD K H y (.lst ds)∨IsD K H y (.tup ds))/\depS ds<=50/\Q (.bl (if neg=true then !(ds.any fun e=>eqD e d) else ds.any fun e=>eqD e d)) H
def inA{X:Cx}(hu:X.A.units+64<cLine):OpR X (compareOp .In) (zQp X.K false):=by
 intro Md s r H x y v u Q I rx ry h;obtain⟨d,ds,h1,h2,hn,q⟩:=h;have hd:∀ e∈ds,dep e<=50:=fun e he=>Qn (qA he) hn
 rcases h2 with h2 | h2
 ·obtain⟨a,xs,rfl,hl,hs⟩:=h2.lstI
  cases ry;obtain⟨its,rv,p,hz⟩:=I.list hl;refine SeqAt.in_listAt (zKL X.K H d) p.isList (fun y hy=>uC I h1 rx (by show X.A.units+1+50<cLine;omega) hs rv hd y (by simpa using hy)) ?_
  exact⟨.bl _,H,I,by rw[Uf,tV I hs rv];rfl,q⟩
 ·obtain⟨a,xs,rfl,hl,hs⟩:=h2.tupI
  cases ry;obtain⟨its,rv,p,hz⟩:=I.tuple hl;refine SeqAt.in_tupleAt (zKL X.K H d) (show s.heap.IsTuple _ its.toArray from p) (fun y hy=>uC I h1 rx (by show X.A.units+1+50<cLine;omega) hs rv hd y (by simpa using hy)) ?_
  exact⟨.bl _,H,I,by rw[Uf,tV I hs rv];rfl,q⟩
def zPI{X:Cx}(hu:X.A.units+64<cLine):OpR X (compareOp .NotIn) (zQp X.K true):=by
 intro Md s r H x y v u Q I rx ry h;obtain⟨d,ds,h1,h2,hn,q⟩:=h;have hd:∀ e∈ds,dep e<=50:=fun e he=>Qn (qA he) hn
 rcases h2 with h2 | h2
 ·obtain⟨a,xs,rfl,hl,hs⟩:=h2.lstI
  cases ry;obtain⟨its,rv,p,hz⟩:=I.list hl;refine SeqAt.notIn_listAt (zKL X.K H d) p.isList (fun y hy=>uC I h1 rx (by show X.A.units+1+50<cLine;omega) hs rv hd y (by simpa using hy)) ?_
  exact⟨.bl _,H,I,by rw[Uf,tV I hs rv];rfl,q⟩
 ·obtain⟨a,xs,rfl,hl,hs⟩:=h2.tupI
  cases ry;obtain⟨its,rv,p,hz⟩:=I.tuple hl;refine SeqAt.notIn_tupleAt (zKL X.K H d) (show s.heap.IsTuple _ its.toArray from p) (fun y hy=>uC I h1 rx (by show X.A.units+1+50<cLine;omega) hs rv hd y (by simpa using hy)) ?_
  exact⟨.bl _,H,I,by rw[Uf,tV I hs rv];rfl,q⟩
def zRx{X:Cx}:OpK X (zQp X.K false) oIn:=⟨fun a b c z=>(by
  cases b<;>first | cases z | (simp only[oIn] at z;split at z<;>cases z)),fun Hi H x y a b d Q s r1 r2 z q=>by
  cases b<;>first | cases z | skip
  ·rename_i ds
   simp only[oIn] at z;split at z
   ·rename_i h;cases z;exact⟨a,ds,r1.mono s,.inr (r2.mono s),h,q _ Hi H (Ext.refl s) (.bl _)⟩
   ·cases z
  ·rename_i ds
   simp only[oIn] at z;split at z
   ·rename_i h;cases z;exact⟨a,ds,r1.mono s,.inl (r2.mono s),h,q _ Hi H (Ext.refl s) (.bl _)⟩
   ·cases z⟩
def zNp{X:Cx}:OpK X (zQp X.K true) xB:=⟨fun a b c z=>(by
  cases b<;>first | cases z | (simp only[xB] at z;split at z<;>cases z)),fun Hi H x y a b d Q s r1 r2 z q=>by
  cases b<;>first | cases z | skip
  ·rename_i ds
   simp only[xB] at z;split at z
   ·rename_i h;cases z;exact⟨a,ds,r1.mono s,.inr (r2.mono s),h,q _ Hi H (Ext.refl s) (.bl _)⟩
   ·cases z
  ·rename_i ds
   simp only[xB] at z;split at z
   ·rename_i h;cases z;exact⟨a,ds,r1.mono s,.inl (r2.mono s),h,q _ Hi H (Ext.refl s) (.bl _)⟩
   ·cases z⟩
end
end L3
namespace L3
open PySem PySem.Spec PyProof.Rows L2
unseal PEd PEf PTd PWd PAd PSd dO
section
variable{X:Cx}{G:Gx}{a b e:Expr}{es:List Expr}{pos p:Pos}{f g:Ev}{fs gs:Fv}{t u:Tv}{x:Str}{id T:String}
def zAG(X:Cx)(r:List V->Hp->VK->Prop)(o:List D->Res D):Prop:=(∀ a c,o a≠.err c)/\∀(Hi H:Hp)(vs:List V)(ds:List D)(d:D)(Q:VK),Same Hi H->IsDs X.K Hi vs ds->o ds=.ok d->
 (∀ v Hi' H',Ext Hi H Hi' H'->IsD X.K Hi' v d->Q v H')->r vs H Q
def zOg{r:List V->Hp->VK->Prop}{o:List D->Res D}(k:zAG X r o):∀ m H Q,tD X G (eB o fs) m H Q->tCB r (tAs X G fs) m H Q:=fun m H Q q=>by
 obtain⟨ρ,Hi,R,ou⟩:=q;refine zIy R ou fun vs ds Hi1 H1 e1 R1 r1 o1=>?_
 cases z:o ds with
 | no=>rw[z] at o1;exact o1.elim
 | err c=>exact absurd z (k.1 ds c)
 | ok d=>rw[z] at o1;exact k.2 Hi1 H1 vs ds d Q R1.s r1 z fun v Hi2 H2 e2 r2=>o1 Hi2 H2 e2 v r2
def aZ{r:List V->Hp->VK->Prop}{o:List D->Res D}(hc:vH X (.builtin id) r)(k:zAG X r o)(hg:Gl X x)(hm:X.mg x=none)(hv:bootBuiltins x=some (.builtin id))(ha:PAd X G (e::es) fs)(hn:x ≠ "__name__" := by decide)(hdb:(x==("__debug__" : Str))=false:=by decide)
  (he:starEach (e::es) X.env=(false,eval e X.env)::starEach es X.env:=by rfl) (hpl:(backTo pos (starEach es X.env)).any (·.1)=false:=by rfl):PEd X G (.Call (.Name x p) (e::es) [] pos) (eB o fs):=
 PE.wk (zDM hc hg hm hv ha hn hdb he hpl) (zOg k)
def zAp{r:List V->Hp->VK->Prop}{o:List D->Res D}(hc:vH X (.type T) r)(k:zAG X r o)(hg:Gl X x)(hm:X.mg x=none)(hv:bootBuiltins x=some (.type T))(ha:PAd X G (e::es) fs)(hn:x ≠ "__name__" := by decide)(hdb:(x==("__debug__" : Str))=false:=by decide)
  (he:starEach (e::es) X.env=(false,eval e X.env)::starEach es X.env:=by rfl) (hpl:(backTo pos (starEach es X.env)).any (·.1)=false:=by rfl):PEd X G (.Call (.Name x p) (e::es) [] pos) (eB o fs):=
 PE.wk (zBo hc hg hm hv ha hn hdb he hpl) (zOg k)
def IsDs.one{K:Fg_}{H:Hp}{vs:List V}{d:D}(h:IsDs K H vs [d]):∃ v,vs=[v]/\IsD K H v d:=by
 cases h with
 | cons h t=>cases t;exact⟨_,rfl,h⟩
def IsDs.two{K:Fg_}{H:Hp}{vs:List V}{d d':D}(h:IsDs K H vs [d,d']):∃ v w,vs=[v,w]/\IsD K H v d/\IsD K H w d':=by
 cases h with
 | cons h t=>obtain⟨w,rfl,hw⟩:=t.one;exact⟨_,w,rfl,h,hw⟩
def dY:zAG X (fun xs H Q=>∃ p ys,xs=[.ref p]/\(SqL X.K H p ys∨SqT X.K H p ys)/\Q (.int ys.length) H) lM:=⟨fun a c z=>(by
  unfold lM at z;split at z<;>cases z),fun Hi H vs ds d Q s r z q=>by
  unfold lM at z;split at z
  ·cases z
   obtain⟨v,rfl,h⟩:=r.one;obtain⟨a,xs,rfl,h1,h2⟩:=h.lstI;refine⟨a,xs,rfl,.inl (cM s h1),?_⟩
   rw[h2.length];exact q _ Hi H (Ext.refl s) (.int _)
  ·cases z
   obtain⟨v,rfl,h⟩:=r.one;obtain⟨a,xs,rfl,h1,h2⟩:=h.tupI;refine⟨a,xs,rfl,.inr (bR s h1),?_⟩
   rw[h2.length];exact q _ Hi H (Ext.refl s) (.int _)
  ·cases z⟩
def zFR:zAG X (fun xs H Q=>∃ i,xs=[.int i]/\Q (.int (if i<0 then -i else i)) H) zLD:=⟨fun a c z=>(by
  unfold zLD at z;split at z<;>cases z),fun Hi H vs ds d Q s r z q=>by
  unfold zLD at z;split at z
  ·cases z
   obtain⟨v,rfl,h⟩:=r.one;exact⟨_,by rw[h.intI],q _ Hi H (Ext.refl s) (.int _)⟩
  ·cases z⟩
def zOy:zAG X (fun xs H Q=>∃ i j,xs=[.int i,.int j]/\Q (.int (if j<i then j else i)) H) zOz:=⟨fun a c z=>(by
  unfold zOz at z;split at z<;>cases z),fun Hi H vs ds d Q s r z q=>by
  unfold zOz at z;split at z
  ·cases z
   obtain⟨v,w,rfl,h,h'⟩:=r.two;exact⟨_,_,by rw[h.intI,h'.intI],q _ Hi H (Ext.refl s) (.int _)⟩
  ·cases z⟩
def zKQ:zAG X (fun xs H Q=>∃ p ys,xs=[.ref p]/\((SqL X.K H p ys/\∀ l,H l=none->Q (.ref l) (upd H l (.tup ys)))∨(SqT X.K H p ys/\Q (.ref p) H))) zKh:=⟨fun a c z=>(by
  unfold zKh at z;split at z<;>cases z),fun Hi H vs ds d Q s r z q=>by
  unfold zKh at z;split at z
  ·cases z
   obtain⟨v,rfl,h⟩:=r.one;obtain⟨a,xs,rfl,h1,h2⟩:=h.lstI;exact⟨a,xs,rfl,.inl ⟨cM s h1,fun l hl=>q _ _ _ (Ext.new s hl) (.tup (SqT.of aW) (h2.mono (bZ (s.none hl) _)))⟩⟩
  ·cases z
   obtain⟨v,rfl,h⟩:=r.one;obtain⟨a,xs,rfl,h1,h2⟩:=h.tupI;exact⟨a,xs,rfl,.inr ⟨bR s h1,q _ Hi H (Ext.refl s) (.tup h1 h2)⟩⟩
  ·cases z⟩
def zGA(hg:Gl X "list")(hm:X.mg "list" = none)(hv:bootBuiltins "list" = some (.type "list"))(ha:PAd X G (e::es) fs)
  (he:starEach (e::es) X.env=(false,eval e X.env)::starEach es X.env:=by rfl) (hpl:(backTo pos (starEach es X.env)).any (·.1)=false:=by rfl):PEf X G (.Call (.Name "list" p) (e::es) [] pos) (zJF fs):=
 PE.wk (zBo zAo hg hm hv ha (by decide) (by decide) he hpl) fun m H Q q=>by
 obtain⟨ρ,Hi,R,ou⟩:=q;refine zIy R ou fun vs ds Hi1 H1 e1 R1 r1 o1=>?_
 split at o1
 ·obtain⟨v,rfl,h⟩:=r1.one
  obtain⟨a,xs,rfl,h1,h2⟩:=h.lstI;exact⟨a,xs,rfl,.inl (cM R1.s h1),fun l hl=>o1 _ _ (Ext.newF R1.s hl) l ⟨e1.h.none hl,R1.s.none hl,xs,aW,h2⟩⟩
 ·obtain⟨v,rfl,h⟩:=r1.one
  obtain⟨a,xs,rfl,h1,h2⟩:=h.tupI;exact⟨a,xs,rfl,.inr (bR R1.s h1),fun l hl=>o1 _ _ (Ext.newF R1.s hl) l ⟨e1.h.none hl,R1.s.none hl,xs,aW,h2⟩⟩
 ·exact o1.elim
def zLv{K:Fg_}{H:Hp}{v:V}{d:D}(h:IsD K H v d):decide (v=.non)=isNon d:=by
 cases h<;>simp[isNon]
variable{lo hi:Option Expr}{l h:Ov}{p2:Pos}
def tOv(X:Cx)(G:Gx)(f:Ov):TO:=fun m H Q=>∃ ρ Hi,kY X G Hi H m ρ/\Out G Hi H (f ρ) fun o _ H'=>Q o H'
@[irreducible] def POd (X:Cx) (G:Gx) (e:Option Expr) (f:Ov):Prop:=PO X e (tOv X G f)
unseal POd
def PO.wk{X:Cx}{e:Option Expr}{t t':TO}(h:PO X e t)(w:∀ m H Q,t' m H Q->t m H Q):PO X e t':=fun Md s m H Q I q=>h Md s m H Q I (w m H Q q)
def zDd:POd X G none oN:=PO.wk zMi fun m H Q q=>by
 obtain⟨ρ,Hi,R,ou⟩:=q;exact ou.here R.s
def uO(he:PEd X G e f):POd X G (some e) (oS f):=PO.wk (zMs he) fun m H Q q=>by
 obtain⟨ρ,Hi,R,ou⟩:=q;refine zDN R ou fun v d Hi1 H1 e1 R1 r1 o1=>?_
 cases d with
 | int i=>exact⟨i,r1.intI,o1.here R1.s⟩
 | _=>exact o1.elim
def zQg{f:Ov}{Hi H:Hp}{m:St}{ρ:Rho}{A:Type}{k:Option Int->Res A}{k':A->Hp->Hp->Prop}{Q:Option Int->Hp->Prop}(R:kY X G Hi H m ρ)(o:Out G Hi H ((f ρ).bind k) k')
  (w:∀ c Hi' H',Ext Hi H Hi' H'->kY X G Hi' H' m ρ->Out G Hi' H' (k c) k'->Q c H'):tOv X G f m H Q:=
 ⟨ρ,Hi,R,o.bind.imp fun d Hi' H' e q=>w d Hi' H' e (R.grow e) q⟩
def zGK(n d:Nat)(i:Option Int):cut n i d=HT.sIx n d i:=by
 cases i with
 | none=>rfl
 | some i=>
  simp only[cut,HT.sIx];split<;>split<;>omega
def IsDs.cut{K:Fg_}{H:Hp}{xs:List V}{ds:List D}(h:IsDs K H xs ds)(l r:Option Int):IsDs K H (zIB xs l r) (eG ds l r):=by
 unfold zIB eG;rw[zGK,zGK,h.length];exact(h.drop _).take _
def xU(he:PEd X G e f)(hl:POd X G lo l)(hu:POd X G hi h):PEf X G (.Subscript e (.Slice lo hi none p2) pos) (fSl f l h):=PE.wk (zDX zHH he hl hu) fun m H Q q=>by
 obtain⟨ρ,Hi,R,ou⟩:=q;refine zDN R ou fun v d Hi1 H1 e1 R1 r1 o1=>?_
 refine zQg R1 o1 fun i Hi2 H2 e2 R2 o2=>?_
 refine zQg R2 o2 fun j Hi3 H3 e3 R3 o3=>?_
 cases d with
 | lst ds=>
  obtain⟨a,xs,rfl,h1,h2⟩:=r1.lstI;refine⟨a,xs,rfl,cM (e2.i.trans (e3.i.trans R3.s)) h1,fun p hp=>?_⟩
  exact o3 _ _ (Ext.newF R3.s hp) p ⟨(e1.h.trans (e2.h.trans e3.h)).none hp,R3.s.none hp,_,aW,(h2.cut i j).mono (e2.i.trans e3.i)⟩
 | _=>exact o3.elim
def zQF(K:PySem.W.Frag):R2:=fun x y H Q=>∃ l b xs zs,x=.ref l/\y=.ref b/\SqL K H l xs/\SqL K H b zs/\xs.length+zs.length<=sizeLine/\∀ p,H p=none->Q (.ref p) (upd H p (.lst (xs++zs)))
theorem zLX:OpR X (binaryOp .Add) (zQF X.K):=by
 intro Md s m H x y v u Q I rx ry h;obtain⟨l,b,xs,zs,rfl,rfl,hl,hb,hz,q⟩:=h;cases rx;cases ry;obtain⟨its,r,p,_⟩:=I.list hl;obtain⟨its2,r2,p2,_⟩:=I.list hb;obtain⟨⟨cls,dd,data,sl⟩,ho,hc,n,hd⟩:=id p.isList;obtain⟨⟨cls2,dd2,data2,sl2⟩,ho2,hc2,n2,hd2⟩:=id p2.isList;simp only at hc hd hc2 hd2
 subst hc hd hc2 hd2;have hsz:its.toArray.size+its2.toArray.size<=sizeLine:=by rw[Qh,Qh,<-r.length,<-r2.length];exact hz
 have e:its.toArray++its2.toArray=(its++its2).toArray:=by simp
 refine Jy ⟨_,ho,rfl⟩ ⟨_,ho2,rfl⟩ noFill_list_add seq_list_add PySem.F.slot_list_add PySem.F.entry_list_add (PySem.F.args_list_add_2 _ _) (list_addW l b its.toArray its2.toArray n n2 dd dd2 sl sl2 hsz) ⟨ho,ho2,?_⟩
 rw[e];exact⟨.ref _,_,I.lnew (t':=s.toks) (r.append r2) (by rw[Qi];exact hz),rfl,q _ I.fresh⟩
def zFv(ha:PEd X G a f)(hb:PEd X G b g):PEf X G (.BinOp a .Add b pos) (zNy f g):=PE.wk (zAE zLX ha hb) fun m H Q q=>by
 obtain⟨ρ,Hi,R,ou⟩:=q;refine zDN R ou fun v d Hi1 H1 e1 R1 r1 o1=>?_
 refine zDN R1 o1 fun w d' Hi2 H2 e2 R2 r2 o2=>?_
 cases d<;>first | exact o2.elim | skip
 cases d'<;>first | exact o2.elim | skip
 rename_i ds es
 obtain⟨a,xs,rfl,h1,h2⟩:=r1.lstI;obtain⟨b,ys,rfl,h3,h4⟩:=r2.lstI;have o2':Out G Hi2 H2 (if ds.length+es.length<=16777216 then Res.ok (ds++es) else .no) _:=o2;by_cases hz:ds.length+es.length<=16777216
 ·rw[Jj hz] at o2'
  refine⟨a,b,xs,ys,rfl,rfl,cM (e2.i.trans e2.s) h1,cM e2.s h3,by rw[h2.length,h4.length];exact hz,fun p hp=>?_⟩
  exact o2' _ _ (Ext.newF e2.s hp) p ⟨(e1.h.trans e2.h).none hp,e2.s.none hp,_,aW,(h2.mono e2.i).append h4⟩
 ·rw[Jk hz] at o2';exact o2'.elim
end
end L3
namespace L3
open PySem PySem.Spec PyProof.Rows L2
unseal PEd PEf PTd PWd PAd PSd dO POd
section
variable{X:Cx}{G:Gx}{a b e:Expr}{es:List Expr}{pos p:Pos}{f g:Ev}{fs gs:Fv}{t u:Tv}{x:Str}{st:Jh}{rest:List Jh}{sa sb:Sv}
def jP{Hi H:Hp}{l:St}{ρ:Rho}{E:Ends}{B:Type}{r:Res B}{k:B->Res Fl}(R:kY X G Hi H l ρ)(h:Fin X G Hi E (r.bind k)){Q:B->Hp->Hp->Prop}
  (w:∀ a Hi' H',r=.ok a->Ext Hi H Hi' H'->Fin X G Hi' E (k a)->Q a Hi' H'):Out G Hi H r Q:=by
 cases r with
 | no=>exact h
 | err c=>exact fun Hi' H' e=>h Hi' H' (R.ext.trans e)
 | ok a=>exact fun Hi' H' e=>w a Hi' H' rfl e (Fin.mono (show Fin X G Hi E (k a) from h) e.i)
def bP:dO X G [] sNext:=PSs.wk zMn fun E l H q=>by
 obtain⟨ρ,Hi,R,h⟩:=q;exact h l Hi H (Same.refl _) R
def zNF{E:Ends}{Hi:Hp}{ρ:Rho}(h:Fin X G Hi E (bC sa sb ρ)):Fin X G Hi { E with nx:=tS X G sb E } (sa ρ):=by
 unfold bC at h
 cases z:sa ρ with
 | no=>rw[z] at h;exact h
 | err c=>rw[z] at h;exact h
 | ok fl=>
  rw[z] at h
  cases fl with
  | nx ρ'=>exact fun l' Hi' H' s R'=>⟨ρ',Hi',R',Fin.mono (show Fin X G Hi E (sb ρ') from h) s⟩
  | brk ρ'=>exact h
  | ctn ρ'=>exact h
  | ret r=>cases r<;>exact h
def zPr{E:Ends}{l:St}{H:Hp}(q:tS X G (bC sa sb) E l H):tS X G sa { E with nx:=tS X G sb E } l H:=by
 obtain⟨ρ,Hi,R,h⟩:=q;exact⟨ρ,Hi,R,zNF h⟩
def aD(h1:PSd X G st sa)(h2:dO X G rest sb):dO X G (st::rest) (bC sa sb):=PSs.wk (sR h1 h2) fun _ _ _ q=>zPr q
def aH(h1:PSd X G st sa):dO X G [st] sa:=zDe h1
def nU(he:PEd X G e f)(hs:swapsWith e none pos.line X.env=pure false:=by rfl):PSd X G (.Expr e pos) (sB f):=PS.wk (tH he hs) fun E l H q=>by
 obtain⟨ρ,Hi,R,h⟩:=q;exact⟨ρ,Hi,R,jP R h fun d Hi' H' _ e h' v r=>h' l Hi' H' (Same.refl _) (R.grow e)⟩
def bY(he:PEd X G e f):PSd X G (.Return (some e) pos) (fM f):=PS.wk (zDr he) fun E l H q=>by
 obtain⟨ρ,Hi,R,h⟩:=q;obtain⟨Hf,s1,R1,fl⟩:=R.frz;refine⟨ρ.map Sl.frz,Hf,R1,jP R1 (Fin.mono h s1) fun d Hi' H' _ e h' v r=>?_⟩
 exact h' v Hi' H' (R1.ext.trans e) r
def iC(he:PEf X G e fs):PSd X G (.Return (some e) pos) (lG fs):=PS.wk (zDr he) fun E l H q=>by
 obtain⟨ρ,Hi,R,h⟩:=q;obtain⟨Hf,s1,R1,fl⟩:=R.frz;refine⟨ρ.map Sl.frz,Hf,R1,jP R1 (Fin.mono h s1) fun ds Hi' H' _ e h' a n=>?_⟩
 obtain⟨n1,n2,xs,n3,n4⟩:=n;exact h' a Hi' H' (R1.ext.trans e) ⟨R1.ext.h.none n1,n2,xs,n3,n4⟩
def iM(i:Nat)(he:PE X e (zBV i)):PSd X G (.Return (some e) pos) (gM i):=PS.wk (zDr he) fun E l H q=>by
 obtain⟨ρ,Hi,R,h⟩:=q;unfold gM at h
 cases z:ρ[i]? with
 | none=>rw[z] at h;exact h.elim
 | some s=>
  rw[z] at h
  cases s with
  | own ds=>
   obtain⟨a,xs,p,h1,h2,h3,h4⟩:=R.slot i _ z;exact⟨.ref a,p,h a Hi H R.ext ⟨h3,h2,xs,h1,h4⟩⟩
  | un=>exact h.elim
  | val d=>exact h.elim
  | exc c=>exact h.elim
  | tab T=>exact h.elim
def iY{c:Expr}{as bs:List Jh}(hc:PTd X G c t)(ha:dO X G as sa)(hb:dO X G bs sb):PSd X G (.If c as bs pos) (sIf t sa sb):=PS.wk (zRp hc ha hb) fun E l H q=>by
 obtain⟨ρ,Hi,R,h⟩:=q;refine⟨ρ,Hi,R,jP R h fun c Hi' H' _ e h'=>?_⟩
 cases c with
 | true=>exact⟨ρ,Hi',R.grow e,h'⟩
 | false=>exact⟨ρ,Hi',R.grow e,h'⟩
def zRh{i:Nat}{pos':Pos}(hN:X.N.Nodup)(hi:X.N[i]?=some x)(hx:Loc X.env.scope x)(he:PEd X G e f)(hs:swapsWith e (some (.Name x pos')) pos.line X.env=pure false:=by rfl)
  (hf:X.fn x=true∨X.env.scope.names.lookup x=some .local:=by first | exact .inl rfl | exact .inr rfl | assumption):PSd X G (.Assign [.Name x pos'] e pos) (cX i f):=PS.wk (zKS hN hi hx he hs hf) fun E l H q=>by
 obtain⟨ρ,Hi,R,h⟩:=q;exact⟨ρ,Hi,R,jP R h fun d Hi' H' _ e h' v r=>h' _ Hi' H' (Same.refl _) ((R.grow e).set r)⟩
def uL{i:Nat}{pos':Pos}(hN:X.N.Nodup)(hi:X.N[i]?=some x)(hx:Loc X.env.scope x)(he:PEf X G e fs)(hs:swapsWith e (some (.Name x pos')) pos.line X.env=pure false:=by rfl)
  (hf:X.fn x=true∨X.env.scope.names.lookup x=some .local:=by first | exact .inl rfl | exact .inr rfl | assumption):PSd X G (.Assign [.Name x pos'] e pos) (zEw i fs):=PS.wk (zKS hN hi hx he hs hf) fun E l H q=>by
 obtain⟨ρ,Hi,R,h⟩:=q;refine⟨ρ,Hi,R,jP R h fun ds Hi' H' _ e h' a n=>?_⟩
 obtain⟨n1,n2,xs,n3,n4⟩:=n;exact h' _ Hi' H' (Same.refl _) (R.setOwn e n1 n3 n2 n4)
def zEA{i:Nat}{o:Expr}{apos cpos:Pos}(ho:PE X o (zBV i))(he:PEd X G e f)
  (hbase:attributeBase o "append" X.env (eval o X.env)=eval o X.env:=by rfl)
  (hfew:((backTo cpos (starEach [e] X.env)).all (fun x=>!x.1) && (backToKw cpos (keywordEach [] X.env)).all (fun x=>x.1.isSome)
   && decide ([e].length+([]:List Keyword).length+(if ([]:List Keyword).isEmpty then 0 else 1)<30))=true:=by rfl)
  (hline:(apos.endLine==cpos.line)=true:=by rfl) (hs:starEach [e] X.env=(false,eval e X.env)::starEach [] X.env:=by rfl)
  (hsw:swapsWith (.Call (.Attribute o "append" apos) [e] [] cpos) none pos.line X.env=pure false:=by rfl):
  PSd X G (.Expr (.Call (.Attribute o "append" apos) [e] [] cpos) pos) (zIA i f):=
 PS.wk (tH (zFG Yy Qac Qad pB ho (gY he mT hs) hbase hfew hline hs) hsw) fun E l H q=>by
 obtain⟨ρ,Hi,R,h⟩:=q;unfold zIA at h
 cases z:ρ[i]? with
 | none=>rw[z] at h;exact h.elim
 | some s=>
  rw[z] at h
  cases s with
  | own ds=>
   obtain⟨a,xs,p,h1,h2,h3,h4⟩:=R.slot i _ z;refine⟨.ref a,p,.inl ⟨rfl,xs,SqL.of h1⟩,?_⟩
   refine⟨ρ,Hi,R,jP R h fun d Hi' H' _ e h' v r=>?_⟩
   have R':=R.grow e;obtain⟨g1,g2⟩:=e.out h1 h2;by_cases hz:ds.length<16777216
   ·rw[Jj hz] at h'
    refine⟨a,xs,v,rfl,rfl,g1,by rw[h4.length];exact hz,?_⟩
    exact h' l Hi' _ (Same.refl _) (R'.write z p ((h4.mono e.i).append (.cons r .nil)))
   ·rw[Jk hz] at h';exact h'.elim
  | un=>exact h.elim
  | val d=>exact h.elim
  | exc c=>exact h.elim
  | tab T=>exact h.elim
def zNA{i:Nat}{o:Expr}{apos cpos:Pos}(ho:PE X o (zBV i))(he:PEf X G e fs)
  (hbase:attributeBase o "extend" X.env (eval o X.env)=eval o X.env:=by rfl)
  (hfew:((backTo cpos (starEach [e] X.env)).all (fun x=>!x.1) && (backToKw cpos (keywordEach [] X.env)).all (fun x=>x.1.isSome)
   && decide ([e].length+([]:List Keyword).length+(if ([]:List Keyword).isEmpty then 0 else 1)<30))=true:=by rfl)
  (hline:(apos.endLine==cpos.line)=true:=by rfl) (hs:starEach [e] X.env=(false,eval e X.env)::starEach [] X.env:=by rfl)
  (hsw:swapsWith (.Call (.Attribute o "extend" apos) [e] [] cpos) none pos.line X.env=pure false:=by rfl):
  PSd X G (.Expr (.Call (.Attribute o "extend" apos) [e] [] cpos) pos) (zJq i fs):=
 PS.wk (tH (zFG Yy Qae Qaf zGH ho (gY he mT hs) hbase hfew hline hs) hsw) fun E l H q=>by
 obtain⟨ρ,Hi,R,h⟩:=q;unfold zJq at h
 cases z:ρ[i]? with
 | none=>rw[z] at h;exact h.elim
 | some s=>
  rw[z] at h
  cases s with
  | own ds=>
   obtain⟨a,xs,p,h1,h2,h3,h4⟩:=R.slot i _ z;refine⟨.ref a,p,.inl ⟨rfl,xs,SqL.of h1⟩,?_⟩
   refine⟨ρ,Hi,R,jP R h fun es Hi' H' _ e h' b n=>?_⟩
   obtain⟨n1,n2,ys,n3,n4⟩:=n;have R':=R.grow e;obtain⟨g1,g2⟩:=e.out h1 h2;by_cases hz:ds.length+es.length<=16777216
   ·rw[Jj hz] at h'
    refine⟨a,b,xs,ys,rfl,rfl,g1,n3,by rw[h4.length,n4.length];exact hz,?_⟩
    exact h' l Hi' _ (Same.refl _) (R'.write z p ((h4.mono e.i).append n4))
   ·rw[Jk hz] at h';exact h'.elim
  | un=>exact h.elim
  | val d=>exact h.elim
  | exc c=>exact h.elim
  | tab T=>exact h.elim
def zFT{i:Nat}{o k:Expr}{fk:Ev}{tpos:Pos}(ho:PE X o (zBV i))(hk:PEd X G k fk)(he:PEd X G e f)(hs:swapsWithSole [.Subscript o k tpos] e pos.line X.env=pure false:=by rfl)(hw:swappedStores [.Subscript o k tpos] e X.env=pure none:=by rfl)
  (h1:(assignEach [.Subscript o k tpos] X.env).map (·.2)=[assign (.Subscript o k tpos) X.env]:=by rfl)
  (ha:∀ v,assign (.Subscript o k tpos) X.env v=(do
   let ov <-holding [v] (eval o X.env)
   let iv <-holding [v,ov] (eval k X.env)
   standAt tpos
   holding [v,ov,iv] (setItem ov iv v)
   release [v,ov,iv] []):=by intro _;rfl):PSd X G (.Assign [.Subscript o k tpos] e pos) (zEM i fk f):=
 PS.wk (zOm he (zOM ho hk zIQ ha) hs hw h1) fun E l H q=>by
 obtain⟨ρ,Hi,R,h⟩:=q;refine⟨ρ,Hi,R,jP R h fun d Hi1 H1 _ e1 h1 v r=>?_⟩
 have R1:=R.grow e1
 cases z:ρ[i]? with
 | none=>rw[z] at h1;exact h1.elim
 | some s=>
  rw[z] at h1
  cases s with
  | own ds=>
   obtain⟨a,xs,p,g1,g2,g3,g4⟩:=R1.slot i _ z;refine⟨.ref a,p,?_⟩
   refine⟨ρ,Hi1,R1,jP R1 h1 fun j Hi2 H2 _ e2 h2 w rw'=>?_⟩
   have R2:=R1.grow e2;obtain⟨k1,k2⟩:=e2.out g1 g2
   cases j with
   | int j=>
    have hl:=g4.length;have h2':Fin X G Hi2 E (if 0<=j/\j<ds.length then Res.ok (.nx (ρ.set i (.own (ds.set j.toNat d)))) else if -(ds.length:Int)<=j/\j<0 then .ok (.nx (ρ.set i (.own (ds.set (j+ds.length).toNat d)))) else .no):=h2;by_cases c1:0<=j/\j<ds.length
    ·rw[Jj c1] at h2'
     refine⟨a,xs,j,j.toNat,rfl,rw'.intI,k1,by unfold ixN;rw[Jj c1.1,Jj (by omega)],?_⟩
     exact h2' l Hi2 _ (Same.refl _) (R2.write z p ((g4.mono e2.i).set (r.mono e2.i) j.toNat))
    ·rw[Jk c1] at h2'
     by_cases c2:-(ds.length:Int)<=j/\j<0
     ·rw[Jj c2] at h2'
      refine⟨a,xs,j,(j+ds.length).toNat,rfl,rw'.intI,k1,by unfold ixN;rw[Jk (by omega),Jj (by omega),hl],?_⟩
      exact h2' l Hi2 _ (Same.refl _) (R2.write z p ((g4.mono e2.i).set (r.mono e2.i) (j+ds.length).toNat))
     ·rw[Jk c2] at h2';exact h2'.elim
   | _=>exact h2.elim
  | un=>exact h1.elim
  | val d=>exact h1.elim
  | exc c=>exact h1.elim
  | tab T=>exact h1.elim
def zQX{i:Nat}{op:Operator}{o:Op2}{r:Int->Int->Int}{pos':Pos}(hN:X.N.Nodup)(hi:X.N[i]?=some x)(hx:Loc X.env.scope x)(he:PEd X G e f)(ho:PIp X op (ipI r))(hr:∀ a b d,o a b=.ok d->∃ i j,a=.int i/\b=.int j/\d=.int (r i j))(hn:∀ a b c,o a b≠.err c)
  (hf:X.fn x=true∨X.env.scope.names.lookup x=some .local:=by first | exact .inl rfl | exact .inr rfl | assumption):PSd X G (.AugAssign (.Name x pos') op e pos) (zOO i o f):=PS.wk (zOQ hN hi hx he ho hf) fun E l H q=>by
 obtain⟨ρ,Hi,R,h⟩:=q;unfold zOO at h
 cases z:ρ[i]? with
 | none=>rw[z] at h;exact h.elim
 | some s=>
  rw[z] at h
  cases s with
  | val d=>
   obtain⟨v,p,rv⟩:=R.slot i _ z;refine⟨v,p,ρ,Hi,R,jP R h fun d' Hi' H' _ e h' w rw'=>?_⟩
   cases q:o d d' with
   | no=>rw[q] at h';exact h'.elim
   | err c=>exact absurd q (hn _ _ _)
   | ok u=>
    rw[q] at h';obtain⟨i',j',rfl,rfl,rfl⟩:=hr _ _ _ q;exact⟨i',j',rv.intI,rw'.intI,h' _ Hi' H' (Same.refl _) ((R.grow e).set (.int _))⟩
  | un=>exact h.elim
  | own ds=>exact h.elim
  | exc c=>exact h.elim
  | tab T=>exact h.elim
def dO.frzAt(i:Nat){sts:List Jh}(h:dO X G sts sa):dO X G sts (sFrzAt i sa):=PSs.wk h fun E l H q=>by
 obtain⟨ρ,Hi,R,h⟩:=q;obtain⟨Hi',s,R'⟩:=R.frzAt (i:=i);exact⟨_,Hi',R',Fin.mono h s⟩
def tGv(X:Cx)(G:Gx)(g:Gv):TG:=fun v l H Q=>∃ d ρ Hi,IsD X.K Hi v d/\kY X G Hi H l ρ/\∃ ρ',g d ρ=.ok ρ'/\∀ l' Hi' H',Same Hi Hi'->kY X G Hi' H' l' ρ'->Q l' H'
@[irreducible] def PGd (X:Cx) (G:Gx) (e:Expr) (g:Gv):Prop:=PG X e (tGv X G g)
unseal PGd
def zON{i:Nat}(hN:X.N.Nodup)(hi:X.N[i]?=some x)(hx:Loc X.env.scope x)(hf:X.fn x=true∨X.env.scope.names.lookup x=some .local:=by first | exact .inl rfl | exact .inr rfl | assumption):PGd X G (.Name x pos) (gName i):=
 fun Md s l H v u Q I r q=>zCD hN hi hx hf Md s l H v u Q I r (by
  obtain⟨d,ρ,Hi,rd,R,ρ',e,k⟩:=q;cases e
  exact k _ Hi H (Same.refl _) (R.set rd))
def zSf(X:Cx)(G:Gx)(g:List D->Rho->Res Rho):TGs:=fun vs l H Q=>∃ ds ρ Hi,IsDs X.K Hi vs ds/\kY X G Hi H l ρ/\∃ ρ',g ds ρ=.ok ρ'/\∀ l' Hi' H',Same Hi Hi'->kY X G Hi' H' l' ρ'->Q l' H'
@[irreducible] def gF (X:Cx) (G:Gx) (es:List Expr) (g:List D->Rho->Res Rho):Prop:=PGs X es (zSf X G g)
unseal gF
def zGg:gF X G [] xK:=fun Md s l H vs us Q I r q=>zGb Md s l H vs us Q I r (by
  obtain⟨ds,ρ,Hi,rd,R,ρ',e,k⟩:=q
  cases ds with
  | nil=>cases rd;cases e;exact⟨rfl,k _ Hi H (Same.refl _) R⟩
  | cons d ds=>cases e)
def qY{g:Gv}{r:List D->Rho->Res Rho}(h1:PGd X G e g)(h2:gF X G es r)(hs:(assignEach (e::es) X.env).map (·.2)=assign e X.env::(assignEach es X.env).map (·.2):=by rfl):gF X G (e::es) (eE g r):=
 fun Md s l H vs us Q I rr q=>yH h1 h2 hs Md s l H vs us Q I rr (by
  obtain⟨ds,ρ,Hi,rd,R,ρ',e,k⟩:=q
  cases ds with
  | nil=>cases e
  | cons d ds=>
   cases rd with
   | cons rd rds=>
    refine⟨_,_,rfl,d,ρ,Hi,rd,R,?_⟩
    have e':(g d ρ).bind (fun ρ'=>r ds ρ')=.ok ρ':=e
    cases z:g d ρ with
    | no=>rw[z] at e';cases e'
    | err c=>rw[z] at e';cases e'
    | ok ρ1=>
     rw[z] at e'
     exact⟨ρ1,rfl,fun l1 Hi1 H1 s1 R1=>⟨ds,ρ1,Hi1,rds.mono s1,R1,ρ',e',fun l2 Hi2 H2 s2 R2=>k l2 Hi2 H2 (s1.trans s2) R2⟩⟩)
def zMW{k:Nat}{r:List D->Rho->Res Rho}{n:Nat}(hc:X.calm=true)(h:gF X G es r)(hr:∀ ds ρ ρ',r ds ρ=.ok ρ'->ds.length=n)(hn:(assignEach es X.env).length=n:=by rfl)(hst:(assignEach es X.env).findIdx? (·.1)=none:=by rfl):PGd X G (.Tuple es k pos) (zAd r):=
 fun Md s l H v u Q I rr q=>zKe hc h hn hst Md s l H v u Q I rr (by
  obtain⟨d,ρ,Hi,rd,R,ρ',e,kk⟩:=q
  cases d with
  | tup ds=>
   obtain⟨a,xs,rfl,h1,h2⟩:=rd.tupI;exact⟨a,xs,rfl,bR R.s h1,by rw[h2.length];exact hr ds ρ ρ' e,ds,ρ,Hi,h2,R,ρ',e,kk⟩
  | _=>cases e)
def wF(K:PySem.W.Frag)(Hi:Hp)(J:It)(ds:List D):Prop:=∀(Hi1 H1:Hp),Same Hi Hi1->Same Hi1 H1->∀ i,
 (ds.length<=i->J.stop i H1)/\∀ d,ds[i]?=some d->J.go i H1/\∀ x H2,J.yld i H1 x H2->∃ Hi2,Ext Hi1 H1 Hi2 H2/\IsD K Hi2 x d
def tIv(X:Cx)(G:Gx)(f:Fv):TI:=fun l H R=>∃ ρ Hi,kY X G Hi H l ρ/\Out G Hi H (f ρ) fun ds Hi' H'=>∀ J,wF X.K Hi' J ds->R J H'
@[irreducible] def PId (X:Cx) (G:Gx) (tg e:Expr) (f:Fv):Prop:=PI X tg e (tIv X G f)
unseal PId
def PI.wk{tg:Expr}{t t':TI}(h:PI X tg e t)(w:∀ l H Q,t' l H Q->t l H Q):PI X tg e t':=fun Md s l H Q I q=>h Md s l H Q I (w l H Q q)
def zKg{g:Gv}{J:It}{ds:List D}{Hi1 H1:Hp}{l:St}{ρ:Rho}{E:Ends}(hge:∀ d ρ c,g d ρ≠.err c)(R1:kY X G Hi1 H1 l ρ)(h1:Fin X G Hi1 E (loop g sa ds ρ))(gv:wF X.K Hi1 J ds):zRs (fun _ _ R=>R J H1) (tGv X G g) (tS X G sa) E l H1:=by
 refine⟨fun i m l' H'=>m=ds.length-i/\∃ ρ' Hi',Same Hi1 Hi'/\kY X G Hi' H' l' ρ'/\Fin X G Hi' E (loop g sa (ds.drop i) ρ'),⟨_,rfl,ρ,Hi1,Same.refl _,R1,h1⟩,?_⟩
 rintro i m l' H' ⟨rfl,ρ',Hi',s',R',h'⟩
 obtain⟨w1,w2⟩:=gv Hi' H' s' R'.s i;by_cases hl:i<ds.length
 ·obtain⟨d,hd⟩:∃ d,ds[i]?=some d:=⟨_,Qj hl⟩
  obtain⟨go,yl⟩:=w2 d hd
  have e3:ds.drop i=d::ds.drop (i+1):=by
   rw[Qj hl] at hd;cases hd;exact Ug hl
  rw[e3] at h';refine .inr ⟨go,fun l2 H2=>∃ ρ2 Hi2,Same Hi1 Hi2/\kY X G Hi2 H2 l2 ρ2/\Fin X G Hi2 E (loop g sa (ds.drop (i+1)) ρ2),fun l2 H2 z=>⟨ds.length-(i+1),by omega,rfl,z⟩,fun x H2 y=>?_⟩
  obtain⟨Hi2,e2,r2⟩:=yl x H2 y;have R2:=R'.grow e2
  have h2:Fin X G Hi2 E ((g d ρ').bind fun ρ1=>(sa ρ1).bind fun f=>match f with
   | .nx ρ2=>loop g sa (ds.drop (i+1)) ρ2
   | .ctn ρ2=>loop g sa (ds.drop (i+1)) ρ2
   | .brk ρ2=>.ok (.nx ρ2)
   | .ret r=>.ok (.ret r)):=Fin.mono h' e2.i
  cases z:g d ρ' with
  | no=>rw[z] at h2;exact h2.elim
  | err c=>exact absurd z (hge _ _ _)
  | ok ρ1=>
   rw[z] at h2;refine⟨d,ρ',Hi2,r2,R2,ρ1,z,fun l3 Hi3 H3 s3 R3=>⟨ρ1,Hi3,R3,?_⟩⟩
   have h3:=Fin.mono h2 s3;have sm:Same Hi1 Hi3:=(s'.trans e2.i).trans s3;simp only[Res.bind] at h3
   cases zb:sa ρ1 with
   | no=>rw[zb] at h3;exact h3.elim
   | err c=>rw[zb] at h3;exact h3
   | ok fl=>
    rw[zb] at h3
    cases fl with
    | nx ρ2=>exact fun l4 Hi4 H4 s4 R4=>⟨ρ2,Hi4,sm.trans s4,R4,Fin.mono (show Fin X G Hi3 E (loop g sa (ds.drop (i+1)) ρ2) from h3) s4⟩
    | ctn ρ2=>exact fun l4 Hi4 H4 s4 R4=>⟨ρ2,Hi4,sm.trans s4,R4,Fin.mono (show Fin X G Hi3 E (loop g sa (ds.drop (i+1)) ρ2) from h3) s4⟩
    | brk ρ2=>exact h3
    | ret r=>cases r<;>exact h3
 ·rw[Yv (by omega)] at h'
  exact .inl ⟨w1 (by omega),h' l' Hi' H' (Same.refl _) R'⟩
def kQ{tg iter:Expr}{body:List Jh}{it:Fv}{g:Gv}(hp:PassesOwn (model X.prog X.w) X.A X.env X.xe)(hc:X.calm=true)(hi:PId X G tg iter it)(hg:PGd X G tg g)(hge:∀ d ρ c,g d ρ≠.err c)(hb:dO X G body sa)
  (hs:∀ x,foldedSetIterable iter X.env x=pure x:=by intro _;rfl):PSd X G (.For tg iter body [] pos) (vI it g sa):=PS.wk (zKk hp hc hi hg hb hs) fun E l H q=>by
 obtain⟨ρ,Hi,R,h⟩:=q;exact⟨ρ,Hi,R,jP R h fun ds Hi1 H1 _ e1 h1 J gv=>zKg hge (R.grow e1) h1 gv⟩
def zIg{c:Expr}{body:List Jh}(hp:PassesOwn (model X.prog X.w) X.A X.env X.xe)(hc:PTd X G c t)(hb:dO X G body sa):PSd X G (.While c body [] pos) (fA t sa):=PS.wk (zJc hp hc hb) fun E l H q=>by
 obtain⟨ρ,Hi,R,h⟩:=q;have hn:fA t sa ρ≠.no:=fun z=>by rw[z] at h;exact h
 obtain⟨n,en⟩:=oI hn;rw[en] at h;refine⟨fun m l' H'=>∃ ρ' Hi',Same Hi Hi'/\kY X G Hi' H' l' ρ'/\Fin X G Hi' E (wh t sa m ρ'),⟨n,ρ,Hi,Same.refl _,R,h⟩,?_⟩
 rintro m l' H' ⟨ρ',Hi',s',R',h'⟩
 cases m with
 | zero=>exact h'.elim
 | succ m=>
  rw[wh] at h';refine⟨ρ',Hi',R',jP R' h' fun c Hi1 H1 _ e1 h1=>?_⟩
  have R1:=R'.grow e1
  cases c with
  | false=>exact h1 l' Hi1 H1 (Same.refl _) R1
  | true=>
   refine⟨fun l2 H2=>∃ ρ2 Hi2,Same Hi Hi2/\kY X G Hi2 H2 l2 ρ2/\Fin X G Hi2 E (wh t sa m ρ2),fun l2 H2 z=>⟨m,by omega,z⟩,ρ',Hi1,R1,?_⟩
   have sm:Same Hi Hi1:=s'.trans e1.i;simp only[if_true] at h1
   cases zb:sa ρ' with
   | no=>rw[zb] at h1;exact h1.elim
   | err c=>rw[zb] at h1;exact h1
   | ok fl=>
    rw[zb] at h1
    cases fl with
    | nx ρ2=>exact fun l4 Hi4 H4 s4 R4=>⟨ρ2,Hi4,sm.trans s4,R4,Fin.mono (show Fin X G Hi1 E (wh t sa m ρ2) from h1) s4⟩
    | ctn ρ2=>exact fun l4 Hi4 H4 s4 R4=>⟨ρ2,Hi4,sm.trans s4,R4,Fin.mono (show Fin X G Hi1 E (wh t sa m ρ2) from h1) s4⟩
    | brk ρ2=>exact h1
    | ret r=>cases r<;>exact h1
def zHm{K:Fg_}{Hi:Hp}{a:Jc}{xs:List V}{ds:List D}(h:SqT K Hi a xs)(hs:IsDs K Hi xs ds):wF K Hi (Itt K a) ds:=fun Hi1 H1 s1 s2 i=>by
 have h1:=bR (s1.trans s2) h;refine⟨fun hl=>⟨xs,h1,by rw[hs.length];exact hl⟩,fun d hd=>?_⟩
 obtain⟨v,hv,r⟩:=hs.at hd;refine⟨⟨xs,v,h1,hv⟩,fun x H2 y=>?_⟩
 obtain⟨e,y⟩:=y;subst e;have:=y xs h1
 rw[hv] at this;cases this;exact⟨Hi1,Ext.refl s2,r.mono s1⟩
def zLl{lo c:Int}{n i:Nat}{d:D}(h:(rng lo n c)[i]?=some d):i<n/\d=.int (lo+(i:Int)*c):=by
 unfold rng at h;rw[Qr] at h;by_cases hl:i<n
 ·rw[Xu hl] at h;cases h;exact⟨hl,rfl⟩
 ·rw[Q3 (by rw[Q9];omega)] at h;cases h
def zLy(lo c:Int)(n:Nat):(rng lo n c).length=n:=by unfold rng;rw[Qf,Q9]
def zBT{K:Fg_}{Hi:Hp}(lo:Int)(n:Nat):wF K Hi (Itr lo n) (rng lo n 1):=fun Hi1 H1 s1 s2 i=>by
 refine⟨fun hl=>by rw[zLy] at hl;exact hl,fun d hd=>?_⟩
 obtain⟨h1,rfl⟩:=zLl hd;refine⟨h1,fun x H2 y=>?_⟩
 obtain⟨e,y⟩:=y;subst e y;rw[V0];exact⟨Hi1,Ext.refl s2,.int _⟩
def zFr{tg:Expr}(hg:Gl X "range")(hm:X.mg "range" = none)(ha:PAd X G [a] fs)(hs:starEach [a] X.env=[(false,eval a X.env)]:=by rfl):PId X G tg (.Call (.Name "range" p) [a] [] pos) (zCv fs):=PI.wk (zHn hg hm ha hs) fun l H Q q=>by
 obtain⟨ρ,Hi,R,ou⟩:=q;refine zIy R ou fun vs ds Hi1 H1 e1 R1 r1 o1=>?_
 split at o1
 ·rename_i j
  obtain⟨v,rfl,h⟩:=r1.one;by_cases hz:-(2^62)<=j/\j<2^62
  ·rw[Jj hz] at o1
   exact⟨j,by rw[h.intI],hz.1,hz.2,o1.here R1.s _ (zBT 0 j.toNat)⟩
  ·rw[Jk hz] at o1;exact o1.elim
 ·exact o1.elim
def zOx{tg:Expr}(hg:Gl X "range")(hm:X.mg "range" = none)(ha:PAd X G [a,b] fs)(hs:starEach [a,b] X.env=[(false,eval a X.env),(false,eval b X.env)]:=by rfl)(hs2:starEach [b] X.env=[(false,eval b X.env)]:=by rfl):PId X G tg (.Call (.Name "range" p) [a,b] [] pos) (zFu fs):=PI.wk (zHI hg hm ha hs hs2) fun l H Q q=>by
 obtain⟨ρ,Hi,R,ou⟩:=q;refine zIy R ou fun vs ds Hi1 H1 e1 R1 r1 o1=>?_
 split at o1
 ·rename_i i j
  obtain⟨v,w,rfl,h,h'⟩:=r1.two;by_cases hz:-(2^62)<=i/\i<2^62/\-(2^62)<=j/\j<2^62
  ·rw[Jj hz] at o1
   exact⟨i,j,by rw[h.intI,h'.intI],hz,o1.here R1.s _ (zBT i (j-i).toNat)⟩
  ·rw[Jk hz] at o1;exact o1.elim
 ·exact o1.elim
end
end L3
namespace L3
open PySem PySem.Spec PyProof.Rows L2
unseal PEd PEf PTd PWd PAd PSd dO POd PGd gF PId
structure Fn (K:PySem.W.Frag) (mg:Str->Option Ja) (x:Str) (st:Jh) (ps:List Str) (f:Jc) (fd:FuncData):Prop where
 fn:Fun K x x st f fd
 bd:zBr K fd ps []
 kp:PySem.W.keepIn K (.ref f)=true
 mg:mg x=some (.ref f)
def XE(X:Cx)(G:Gx):XK:=fun cls _ H=>∃ c,X.mg c=some cls/\G.E c H
def pO(K:PySem.W.Frag)(mg:Str->Option Ja)(P:Jc):Prop:=∃ f oc od fd osl c,mg "ranked" = some (.ref f)/\K.lookup f=some ⟨oc,od,.func fd,osl⟩/\fd.code=.ref c/\∀ h,K.In h->PySem.W.CodeHd h c P
def TB(K:PySem.W.Frag)(mg:Str->Option Ja)(Hi H:Hp):Prop:=∀ P,pO K mg P->zBy P H/\Hi P=none
def TB.ext{K:Fg_}{mg:Str->Option Ja}{Hi H Hi' H':Hp}(t:TB K mg Hi H)(e:Ext Hi H Hi' H'):TB K mg Hi' H':=fun P h=>⟨e.h.t P (t P h).1,by
 cases z:Hi' P with
 | none=>rfl
 | some o=>
  obtain⟨⟨ps,q,_⟩,n⟩:=t P h;have:=e.n P n (by rw[z];exact fun w=>by cases w)
  rw[q] at this;cases this⟩
structure Good (X:Cx) (G:Gx) (k:Nat):Prop where
 calm:X.calm=true
 room:Room k X.A
 pass:zDB (CX1 X.prog X.w) X (XE X G)
 own:PassesOwn (model X.prog X.w) X.A X.env X.xe
 tb:TB X.K X.mg G.Bi G.B
def zFa(X:Cx)(G:Gx):Prop:=∀(Md:List (Jc×Obj))(r:St)(H:Hp)(s s':Jb)(ea:Jc)(cls:Ja)(vs:List Ja),Inv X Md r H s->Heap.MadeExcOf s.heap s'.heap ea cls vs->s'.os=s.os->AllBare s'.gens->XE X G cls none H->X.xe (.ref ea) s'
def spM(K:PySem.W.Frag)(mg:Str->Option Ja)(p:Nat)(m:Mir):Sp:=fun vs H Q E=>vs.length=p/\∃ Bi ds,TB K mg Bi H/\Same Bi H/\IsDs K Bi vs ds/\match m ds with
 | .ok (.v d)=>∀ v Hi' H',Ext Bi H Hi' H'->IsD K Hi' v d->Q v H'
 | .ok (.f es)=>∀ a Hi' H',Ext Bi H Hi' H'->zID K H Hi' H' a es->Q (.ref a) H'
 | .err c=>∀ C,mg c=some C->∀ Hi' H',Ext Bi H Hi' H'->E C none H'
 | .no=>False
structure CanM (P:Je) (w:Jf) (K:PySem.W.Frag) (mg:Str->Option Ja) (base:Jd) (k:Nat) (x:Str) (ps:List Str) (m:Mir):Prop where
 ex:∃ f fd,FnOk P w K mg base (CX1 P w) k f fd ps (spM K mg ps.length m)/\zBr K fd ps []/\PySem.W.keepIn K (.ref f)=true/\mg x=some (.ref f)
 ln:∀ ds,m ds≠.no->ds.length=ps.length
def Good.u{X:Cx}{G:Gx}{k:Nat}(W:Good X G k):X.A.units+64<cLine:=W.room.units
def CanM.mono{P:Je}{w:Jf}{K:Fg_}{mg:Str->Option Ja}{base:Jd}{j k:Nat}{x:Str}{ps:List Str}{m:Mir}(c:CanM P w K mg base j x ps m)(h:j<=k):CanM P w K mg base k x ps m:=by
 obtain⟨⟨f,fd,F,r⟩,l⟩:=c;exact⟨⟨f,fd,F.mono h,r⟩,l⟩
section
variable{X:Cx}{G:Gx}{a b e:Expr}{es:List Expr}{pos p:Pos}{f g:Ev}{fs gs:Fv}{t u:Tv}{x:Str}{st:Jh}{rest:List Jh}{sa sb:Sv}{k:Nat}{ps:List Str}{m:Mir}
def zPg{ps:List Str}(tb:TB X.K X.mg G.Bi G.B)(ln:∀ ds,m ds≠.no->ds.length=ps.length):∀ i H Q,tD X G (aL m fs) i H Q->zMv (spM X.K X.mg ps.length m) [] (XE X G) (tAs X G fs) i H Q:=fun i H Q q=>by
 obtain⟨ρ,Hi,R,ou⟩:=q;refine zIy R ou fun vs ds Hi1 H1 e1 R1 r1 o1=>?_
 rw[Vn];have hm:m ds≠.no:=fun z=>by rw[z] at o1;exact o1
 refine⟨by rw[r1.length];exact ln ds hm,Hi1,ds,tb.ext R1.ext,R1.s,r1,?_⟩
 cases z:m ds with
 | no=>exact absurd z hm
 | err c=>rw[z] at o1;exact fun C hC Hi2 H2 e2=>⟨c,hC,o1 Hi2 H2 e2⟩
 | ok r=>
  rw[z] at o1
  cases r with
  | v d=>exact fun v Hi2 H2 e2 r2=>o1 Hi2 H2 e2 v r2
  | f ds=>
   intro a Hi2 H2 e2 n;obtain⟨n1,n2,xs,n3,n4⟩:=n;exact o1 _ _ (e2.hold n1 n3 n2) (.ref a) (.lst (SqL.of aW) (n4.mono (bZ n2 _)))
def aF(W:Good X G k)(c:CanM X.prog X.w X.K X.mg X.base k x ps m)(hg:Gl X x)(ha:PAd X G (e::es) fs)
  (hdb:(x==("__debug__" : Str))=false:=by decide) (he:starEach (e::es) X.env=(false,eval e X.env)::starEach es X.env:=by rfl) (hpl:(backTo pos (starEach es X.env)).any (·.1)=false:=by rfl):
  PEd X G (.Call (.Name x p) (e::es) [] pos) (aL m fs):=by
 obtain⟨⟨f,fd,F,b,kp,hm⟩,ln⟩:=c;exact PE.wk (zDf F W.room hg hm kp b .nil W.pass ha hdb he hpl) (zPg W.tb ln)
def zLT{ps:List Str}(tb:TB X.K X.mg G.Bi G.B)(ln:∀ ds,m ds≠.no->ds.length=ps.length):∀ i H Q,tF X G (fF m fs) i H Q->zMv (spM X.K X.mg ps.length m) [] (XE X G) (tAs X G fs) i H Q:=fun i H Q q=>by
 obtain⟨ρ,Hi,R,ou⟩:=q;refine zIy R ou fun vs ds Hi1 H1 e1 R1 r1 o1=>?_
 rw[Vn];have hm:m ds≠.no:=fun z=>by rw[z] at o1;exact o1
 refine⟨by rw[r1.length];exact ln ds hm,Hi1,ds,tb.ext R1.ext,R1.s,r1,?_⟩
 cases z:m ds with
 | no=>exact absurd z hm
 | err c=>rw[z] at o1;exact fun C hC Hi2 H2 e2=>⟨c,hC,o1 Hi2 H2 e2⟩
 | ok r=>
  rw[z] at o1
  cases r with
  | v d=>exact o1.elim
  | f ds=>exact fun a Hi2 H2 e2 n=>o1 Hi2 H2 e2 a ⟨e1.h.none n.1,n.2⟩
def cD(W:Good X G k)(c:CanM X.prog X.w X.K X.mg X.base k x ps m)(hg:Gl X x)(ha:PAd X G (e::es) fs)
  (hdb:(x==("__debug__" : Str))=false:=by decide) (he:starEach (e::es) X.env=(false,eval e X.env)::starEach es X.env:=by rfl) (hpl:(backTo pos (starEach es X.env)).any (·.1)=false:=by rfl):
  PEf X G (.Call (.Name x p) (e::es) [] pos) (fF m fs):=by
 obtain⟨⟨f,fd,F,b,kp,hm⟩,ln⟩:=c;exact PE.wk (zDf F W.room hg hm kp b .nil W.pass ha hdb he hpl) (zLT W.tb ln)
def fI{d:D}(hg:Gl X x)(h:∃ v u',X.mg x=some u'/\cU v u'/\IsD X.K (fun _=>none) v d)(hdb:(x==("__debug__" : Str))=false:=by decide):PEd X G (.Name x pos) (eC d):=by
 obtain⟨v,u',hm,r,hd⟩:=h;exact qU (zGZ hg hm r hdb) fun H=>hd.mono fun b o z=>by cases z
end
abbrev BX(P:Je)(w:Jf)(K:PySem.W.Frag)(mg:Str->Option Ja)(base:Jd)(N:List Str)(x:Str)(st:Jh)(f:Jc)(cdv:Ja)(A:Jg)(outer:List Env)(s:Jb)(H:Hp)(E:XK):Cx:=
 zEo (CX1 P w) P w K mg base N x (aG st) f cdv A outer s H E
def zBB{K:Fg_}{mg:Str->Option Ja}{Bi H:Hp}{N:List Str}{vs:List V}{ds:List D}(s:Same Bi H)(h:IsDs K Bi vs ds):Rel K mg H Bi Bi H (L2.start N vs) (L3.start N.length ds) where
 len:=by
  unfold L2.start L3.start;rw[Qi,Qi,Qf,Qf,X5,X5,h.length]
 ext:=Ext.refl s
 slot:=fun i sl e=>by
  unfold L3.start at e;by_cases hi:i<ds.length
  ·rw[Vk (by rw[Qf];exact hi),Qr] at e
   obtain⟨d,hd⟩:∃ d,ds[i]?=some d:=⟨_,Qj hi⟩;rw[hd] at e;cases e
   obtain⟨v,hv,r⟩:=h.at hd;refine⟨v,?_,r⟩
   unfold L2.start;rw[Vk (by rw[Qf,h.length];exact hi),Qr,hv];rfl
  ·rw[Vu (by rw[Qf];omega),Uz] at e
   split at e
   ·cases e;trivial
   ·cases e
 dist:=fun i j a es fs e _ _ _=>by
  exfalso
  unfold L3.start at e;by_cases hi:i<ds.length
  ·rw[Vk (by rw[Qf];exact hi),Qr] at e
   cases z:ds[i]? with
   | none=>rw[z] at e;cases e
   | some d=>rw[z] at e;cases e
  ·rw[Vu (by rw[Qf];omega),Uz] at e
   split at e<;>cases e
section
variable{P:Je}{w:Jf}{K:Fg_}{mg:Str->Option Ja}{base:Jd}{N ps:List Str}{x:Str}{st:Jh}{f:Jc}{fd:FuncData}{k:Nat}{b:Sv}
def zIk{cdv:Ja}{A:Jg}{outer:List Env}{s:Jb}{H Bi:Hp}{E:XK}(hr:Room k (A.deeper (envOfC x (aG st) s.heap.objs.size f cdv)))(tb:TB K mg Bi H):
  Good (BX P w K mg base N x st f cdv A outer s H E) ⟨H,Bi,fun c H'=>∀ C,mg c=some C->E C none H'⟩ k where
 calm:=rfl
 room:=hr
 pass:=zQI fun c H' q=>by
  obtain⟨c',h1,h2⟩:=q;exact h2 c h1
 own:=PassesOwn.leaving
 tb:=tb
def zDs{cdv:Ja}{A:Jg}{outer:List Env}{s:Jb}{H Bi:Hp}{E:XK}:
  zFa (BX P w K mg base N x st f cdv A outer s H E) ⟨H,Bi,fun c H'=>∀ C,mg c=some C->E C none H'⟩:=fun Md p H1 s1 s' ea cls vs I hx hos hg q=>by
 obtain⟨c',h1,h2⟩:=q;exact zCr I hx hos hg (h2 cls h1)
def zPN(F:Fn K mg x st ps f fd)(S:FnScope N ps (aG st))
  (h:∀(cdv:Ja)(A:Jg)(outer:List Env)(s:Jb)(H:Hp)(E:XK)(G:Gx),Good (BX P w K mg base N x st f cdv A outer s H E) G k->zFa (BX P w K mg base N x st f cdv A outer s H E) G->dO (BX P w K mg base N x st f cdv A outer s H E) G (eN st) b):
  FnOk P w K mg base (CX1 P w) (k+1) f fd ps (spM K mg ps.length (fn ps.length N.length b)):=by
 obtain⟨oc,od,kV,doc,pm,an,cdv,ct,osl,rfl,lk,hcd⟩:=F.fn.ex;refine zOH lk hcd S (fun vs H Q E h=>h.1) fun A outer s H vs Q E hr hsp=>?_
 obtain⟨hl,Bi,ds,tb,sm,hd,hq⟩:=hsp;have hg:=zIk (P:=P) (w:=w) (K:=K) (mg:=mg) (base:=base) (N:=N) (outer:=outer) (H:=H) (Bi:=Bi) (E:=E) hr tb;refine⟨_,h cdv A outer s H E _ hg zDs,L3.start N.length ds,Bi,zBB sm hd,?_⟩
 have hlen:ds.length=ps.length:=by rw[<-hd.length];exact hl
 unfold fn at hq;rw[Jj hlen] at hq
 cases z:b (L3.start N.length ds) with
 | no=>rw[z] at hq;exact hq
 | err c=>rw[z] at hq;exact fun Hi' H' e C hC=>hq C hC Hi' H' e
 | ok fl=>
  rw[z] at hq
  cases fl with
  | nx r'=>exact fun p' Hi' H' s R=>hq .non Hi' H' R.ext .non
  | brk r'=>exact hq.elim
  | ctn r'=>exact hq.elim
  | ret r=>
   cases r with
   | v d=>exact hq
   | f es=>exact hq
def kN(F:Fn K mg x st ps f fd)(S:FnScope N ps (aG st))
  (h:∀(cdv:Ja)(A:Jg)(outer:List Env)(s:Jb)(H:Hp)(E:XK)(G:Gx),Good (BX P w K mg base N x st f cdv A outer s H E) G k->zFa (BX P w K mg base N x st f cdv A outer s H E) G->dO (BX P w K mg base N x st f cdv A outer s H E) G (eN st) b):
  CanM P w K mg base (k+1) x ps (fn ps.length N.length b):=by
 refine⟨⟨f,fd,zPN F S h,F.bd,F.kp,F.mg⟩,fun ds hm=>?_⟩
 unfold fn at hm;split at hm
 ·assumption
 ·exact absurd rfl hm
end
section
variable{X:Cx}{G:Gx}{a b e:Expr}{es:List Expr}{pos p:Pos}{f g:Ev}{fs gs:Fv}{t u:Tv}{x:Str}{st:Jh}{rest:List Jh}{sa sb:Sv}{k:Nat}
def yB{c:Expr}(ha:PEd X G a f)(hc:PE X c (tC .non))(hm:behindInMarks .IsNot c=false):PTd X G (.Compare a [.IsNot] [c] pos) (eD (zEs f)):=PT.wk (zCp zMj ha hc hm) fun m H Q q=>by
 obtain⟨ρ,Hi,R,ou⟩:=q;unfold eD zEs at ou
 cases z:f ρ with
 | no=>rw[z] at ou;exact ou.elim
 | err c=>rw[z] at ou;exact⟨ρ,Hi,R,by rw[z];exact ou⟩
 | ok d=>
  rw[z] at ou;refine⟨ρ,Hi,R,?_⟩
  rw[z];intro Hi1 H1 e1 v r;exact⟨rfl,_,rfl,by rw[zLv r];exact ou Hi1 H1 e1⟩
def PTd.frz(h:PTd X G e t):PTd X G e (tFrzB t):=PT.wk h fun m H Q q=>by
 obtain⟨ρ,Hi,R,ou⟩:=q;obtain⟨Hf,s1,R1,fl⟩:=R.frz;refine⟨ρ.map Sl.frz,Hf,R1,?_⟩
 unfold tFrzB at ou
 cases z:t (ρ.map Sl.frz) with
 | no=>rw[z] at ou;exact ou
 | err c=>
  rw[z] at ou;intro Hi1 H1 e1;obtain⟨Ht,e2,k,s2,n⟩:=Ext.thaw s1 fl R1.s e1;exact ou Ht H1 e2
 | ok c=>
  rw[z] at ou;intro Hi1 H1 e1;obtain⟨Ht,e2,k,s2,n⟩:=Ext.thaw s1 fl R1.s e1;exact ou Ht H1 e2
def iSq(K:PySem.W.Frag)(tl:TE):TI:=fun m H R=>tl m H fun x H1=>∃ a,x=.ref a/\(((∃ xs,SqL K H1 a xs)/\R (Itl K a) H1)∨((∃ xs,SqT K H1 a xs)/\R (Itt K a) H1))
def zOT{tg l:Expr}{tl:TE}(hl:PE X l tl):PI X tg l (iSq X.K tl):=by
 intro Md s m H R I h;refine thn (hl Md s m H _ I h) fun v s1 ⟨x,H1,I1,r1,q1⟩=>?_
 obtain⟨a,e,q1⟩:=q1;subst e;cases r1;rcases q1 with⟨⟨xs,hq⟩,q⟩ | ⟨⟨xs,hq⟩,q⟩
 ·obtain⟨its,rv,p,hz⟩:=I1.list hq
  refine wpAny_pyIter_list p.isList ?_
  refine⟨s1.heap.objs.size,[s1.heap.objs.size],_,_,H1,rfl,I1.kept (t':=s1.toks) fun b o e=>Heap.get?_push_of_some _ e,zBL a _,⟨_,Heap.get?_push_size _ rfl,rfl,rfl⟩,fun b hb=>?_,q⟩
  have e:b=s1.heap.objs.size:=by simpa using hb
  subst e;exact I1.fpOk (Qd _) (I1.hok.fresh (Qd _))
 ·obtain⟨its,rv,p,hz⟩:=I1.tuple hq
  refine wpAny_pyIter_tuple (show s1.heap.IsTuple a its.toArray from p) ?_
  refine⟨s1.heap.objs.size,[s1.heap.objs.size],_,_,H1,rfl,I1.kept (t':=s1.toks) fun b o e=>Heap.get?_push_of_some _ e,zER a _,⟨_,Heap.get?_push_size _ rfl,rfl,rfl⟩,fun b hb=>?_,q⟩
  have e:b=s1.heap.objs.size:=by simpa using hb
  subst e;exact I1.fpOk (Qd _) (I1.hok.fresh (Qd _))
def zAU{K:Fg_}{Hi:Hp}{a:Jc}{xs:List V}{ds:List D}(h1:SqL K Hi a xs)(h2:IsDs K Hi xs ds):wF K Hi (Itl K a) ds:=fun Hi1 H1 s1 s2 i=>by
 have h3:=cM (s1.trans s2) h1;refine⟨fun hl=>⟨xs,h3,by rw[h2.length];exact hl⟩,fun d hd=>?_⟩
 obtain⟨v,hv,r⟩:=h2.at hd;refine⟨⟨xs,v,h3,hv⟩,fun x H2 y=>?_⟩
 obtain⟨e,y⟩:=y;subst e;have:=y xs h3
 rw[hv] at this;cases this;exact⟨Hi1,Ext.refl s2,r.mono s1⟩
def jX{tg:Expr}(h:PEd X G e f):PId X G tg e (sT f):=PI.wk (zOT h) fun m H Q q=>by
 obtain⟨ρ,Hi,R,ou⟩:=q;refine zDN R ou fun v d Hi1 H1 e1 R1 r1 o1=>?_
 cases d with
 | lst ds=>
  obtain⟨a,xs,rfl,h1,h2⟩:=r1.lstI;exact⟨a,rfl,.inl ⟨⟨xs,cM R1.s h1⟩,o1.here R1.s _ (zAU h1 h2)⟩⟩
 | tup ds=>
  obtain⟨a,xs,rfl,h1,h2⟩:=r1.tupI;exact⟨a,rfl,.inr ⟨⟨xs,bR R1.s h1⟩,o1.here R1.s _ (zHm h1 h2)⟩⟩
 | _=>exact o1.elim
def bT{i:Nat}:∀ d ρ c,gName i d ρ≠.err c:=fun d ρ c z=>by cases z
def zCt:∀ d ρ c,xK d ρ≠.err c:=fun d ρ c z=>by cases d<;>cases z
def nI{g:Gv}{r:List D->Rho->Res Rho}(h1:∀ d ρ c,g d ρ≠.err c)(h2:∀ d ρ c,r d ρ≠.err c):∀ d ρ c,eE g r d ρ≠.err c:=fun d ρ c z=>by
 cases d with
 | nil=>cases z
 | cons d ds=>
  have z':(g d ρ).bind (fun ρ'=>r ds ρ')=.err c:=z
  cases q:g d ρ with
  | no=>rw[q] at z';cases z'
  | err c'=>exact h1 _ _ _ q
  | ok ρ'=>rw[q] at z';exact h2 _ _ _ z'
def zCM{r:List D->Rho->Res Rho}(h:∀ d ρ c,r d ρ≠.err c):∀ d ρ c,zAd r d ρ≠.err c:=fun d ρ c z=>by
 cases d<;>first | cases z | exact h _ _ _ z
def zFO:∀(ds:List D)(ρ ρ':Rho),xK ds ρ=.ok ρ'->ds.length=0:=fun ds ρ ρ' z=>by
 cases ds with
 | nil=>rfl
 | cons d ds=>cases z
def rC{g:Gv}{r:List D->Rho->Res Rho}{n:Nat}(h:∀ (ds:List D) (ρ ρ':Rho),r ds ρ=.ok ρ'->ds.length=n):∀(ds:List D)(ρ ρ':Rho),eE g r ds ρ=.ok ρ'->ds.length=n+1:=fun ds ρ ρ' z=>by
 cases ds with
 | nil=>cases z
 | cons d ds=>
  have z':(g d ρ).bind (fun ρ'=>r ds ρ')=.ok ρ':=z
  cases q:g d ρ with
  | no=>rw[q] at z';cases z'
  | err c'=>rw[q] at z';cases z'
  | ok ρ1=>rw[q] at z';rw[Qm,h ds ρ1 ρ' z']
def zLF:∀ a b d,yM a b=.ok d->∃ i j,a=.int i/\b=.int j/\d=.int (i-j):=fun a b d z=>by
 unfold yM at z;split at z
 ·cases z;exact⟨_,_,rfl,rfl,rfl⟩
 ·cases z
def zJY:∀ a b c,yM a b≠.err c:=fun a b c z=>by unfold yM at z;split at z<;>cases z
end
def zAJ{K:Fg_}{H:Hp}:∀ ns:List Int,IsDs K H (ns.map V.int) (ns.map D.int)
 | []=>.nil
 | n::ns=>.cons (.int n) (zAJ ns)
section
variable{X:Cx}{G:Gx}{e:Expr}{es:List Expr}{pos np cpos:Pos}{fs:Fv}{k:Nat}{c:Str}
def jC(W:Good X G k)(WR:zFa X G)(hR:∃ C,Err X.K X.mg c C)(hg:Gl X c)(ha:PAd X G (e::es) fs)
  (he:starEach (e::es) X.env=(false,eval e X.env)::starEach es X.env:=by rfl) (hplain:(backTo cpos (starEach es X.env)).any (·.1)=false:=by rfl) (hd:(c==("__debug__" : Str))=false:=by decide):
  PSd X G (.Raise (some (.Call (.Name c np) (e::es) [] cpos)) none pos) (kZ c fs):=by
 intro Md s p H E I q;obtain⟨ρ,Hi,R,h⟩:=q;obtain⟨C,Er⟩:=hR;obtain⟨bmB,newId,B,initId,O,FB⟩:=Er.own X.base I.mod.kin;obtain⟨tl,N,nm,q,bs,hdct,sn,sub,ab,col,dd,k0,k1,k2,k3,k5,mN,hC,hN,hni,T⟩:=O.obj
 have hA:=ha cpos Md s p H (fun vs H1=>vs.length<=sizeLine/\XE X G (.ref C) none H1) I ⟨ρ,Hi,R,jP R h fun ds Hi' H' _ e1 h' vs r=>by
  have h':Fin X G Hi' E (if ds.length<=16777216 then (.err c:Res Fl) else .no):=h';by_cases hz:ds.length<=16777216
  ·rw[Jj hz] at h'
   exact⟨by rw[r.length];exact hz,c,O.bound,h' Hi' H' (R.ext.trans e1)⟩
  ·rw[Jk hz] at h';exact h'.elim⟩
 refine wpAny_Raise_call_subT (C:=C) (nm:=nm) (q:=q) (N:=N) (bs:=bs) (bm:=tl) (hdct:=hdct) (sn:=sn) (sub:=sub) (ab:=ab) (col:=col) (dd:=dd) (k0:=k0) (k1:=k1) (k2:=k2) (k3:=k3) (k5:=k5)
  FB (mN:=mN) (T.hasType FB.hasBase) (I.ok.hd W.calm) (by rw[he];show(false || (backTo cpos (starEach es X.env)).any (·.1))=false;rw[hplain];rfl) hni (tI I hg O.bound ⟨rfl,?_⟩ hd)
 rw[he] at hA ⊢
 refine Calls.evalArgs_plain (wpAny_mono hA (fun us s₂ h₂=>?_) fun _ _ y=>y)
 obtain⟨vs,H2,I2,rv,hz,hx⟩:=h₂;exact⟨rfl,by show us.length<=sizeLine;rw[<-rv.length];exact hz,I2.bk _ _ hC,hN.keeps I2.bk,T.keeps I2.bk,fun h' ea hm=>WR Md p H2 s₂ { s₂ with heap:=h' } ea (.ref C) us I2 hm rfl I2.bare hx⟩
end
end L3
namespace L3
open PySem PySem.Spec PyProof.Rows L2 PySem.W Builtin Builtin.ObjectAttr Builtin.Getset_descriptor
unseal PEd PEf PTd PWd PAd PSd dO POd PGd gF PId
section
variable{prog:Je}{w:Jf}{A:Jg}{E:Ja->Jb->Prop}{s:Jb}{K:Frag}{x D:Jc}{ox:Obj}
def zQk(x D:Jc)(h:Jd):Prop:=∃ o,h.get? x=some o/\o.cls=.ref D
def zQk.looks{h:Jd}(I:zQk x D h){M:Model}:Looks M h (typeOf (.ref x)) (.ref D):=by
 obtain⟨o,h1,h2⟩:=I;exact h2 ▸ (Looks.ld h1).andThen .now
structure ExK (K:Frag) (D:Jc):Prop where
 hc:(clsIn K D).isSome=true
 ga:findIn K (.ref D) "__getattribute__" = some (some (.builtin "BaseException.__getattribute__"))
 no:findIn K (.ref D) "__getattr__" = some none
 ha:findIn K (.ref D) "__class__" = some (some (.builtin "object.__class__"))
 hn:specialIn K (.builtin "object.__class__") "__get__" = some (some (.builtin "getset_descriptor.__get__"))
 tk:takesIn K (.builtin "object.__class__")=some true
 mo:mroIn K D (.type "object")=some true
 mb:mroIn K D (.type "BaseException")=some true
end
section
variable{prog:Je}{w:Jf}{A:Jg}{E:Ja->Jb->Prop}{s:Jb}{K:Frag}{x C CE:Jc}{ox:Obj}
structure CaK (K:Frag) (CE:Jc):Prop where
 ty:typeIn K (.ref CE)=some (.type "type")
 cl:(clsIn K CE).isSome=true
 mb:mroIn K CE (.type "BaseException")=some true
def zGt(T:CaK K CE)(hm:mroIn K C (.ref CE)=some true){Q:Bool->Jb->Prop}(X:K.In s.heap)(I:zQk x C s.heap)(h:Q true s):wpAny (model prog w) A (excMatches (.ref x) (.ref CE)) Q E s:=by
 obtain⟨hh,g,d,t,os⟩:=s;have L0:=I.looks (M:=model prog w);have L1:=looks_typeIn (M:=model prog w) X T.ty;have L2:=looks_mroIn (M:=model prog w) X T.mb;have L3:=looks_mroIn (M:=model prog w) X hm
 have Lt:Looks (model prog w) hh (isType (.ref CE)) true:=by
  obtain⟨cd,hcD⟩:=W7.mp T.cl;unfold clsIn at hcD;split at hcD
  ·rename_i c' d' cd' sl' ho
   intro A' Q' E' s' k q;unfold isType loadHead;exact Jq (wpAny_loadPart (k _ _ (X _ _ ho)) (Jt q))
  ·cases hcD
 unfold excMatches isInstance isExcClass;refine Jq (Jq ?_)
 refine L1.at ?_
 refine wpAny_of_eq tc_notTuple ?_
 show wpAny _ _ (forIn [Value.ref CE] PUnit.unit _ >>= _) _ _ _
 rw[Uh];refine Jq (Jq (Jq (Jq ?_)))
 refine Lt.at ?_
 show wpAny _ _ (isSubtype (.ref CE) (.type "BaseException")) _ _ _
 refine L2.at ?_
 refine Jt ?_
 show wpAny _ _ (forIn ([]:List Ja) PUnit.unit _) _ _ _
 rw[List.forIn_nil];refine Jt ?_
 refine Jq ?_
 refine L0.at ?_
 refine Jq ?_
 rw[Uh];refine Jq (Jq ?_)
 refine L3.at ?_
 repeat (first | exact h | wp_step)
end
section
variable{X:Cx}{Md:List (Jc×Obj)}{r:St}{H H':Hp}{s s':Jb}{ea:Jc}{cls:Ja}
def Fly.stay(I:Inv X Md r H s)(F:Fly X.prog X.w X.stack H H' s ea cls s'){h' B:Jd}{a0:Ja}
  (hf:Heap.FlyingW B X.stack ea cls a0 s'.heap) (cov:∀ b o,s'.heap.get? b=some o->((∃ o',s.heap.get? b=some o')∨H' b≠none)->b∉frs X.stack->B.get? b=some o)
  (hf':Heap.FlyingW B X.stack ea cls a0 h') (up:s'.heap.UpToSlots h') {t':Nat}:Inv X Md r H' { s' with heap:=h',toks:=t' }:=by
 have trk:∀ {b:Jc},H' b≠none->b∉frs X.stack:=fun {b} hb hm=>by
  have h1:=I.stkFree b hm;obtain⟨_,o,ho,_⟩:=I.stack.mem hm;exact hb (F.un.free b o ho h1 (by simp))
 have keepB:∀ {b:Jc} {o:Obj},s'.heap.get? b=some o->((∃ o',s.heap.get? b=some o')∨H' b≠none)->b∉frs X.stack->h'.get? b=some o:=fun e1 e2 e3=>hf'.1 _ _ (cov _ _ e1 e2 e3)
 have slotOf:∀ {b:Jc} {o:Obj},b∈frs X.stack->s'.heap.get? b=some o->∃ sl,h'.get? b=some { o with slots:=sl }:=fun {b o} hm e=>by
  obtain⟨_,o',ho',hn⟩:=hf.2.2.1.mem hm;rw[e] at ho';cases ho'
  exact up b o e hn
 refine I.call' (s':={ s' with heap:=h',toks:=t' }) (ch:=[]) F.os ⟨?_,?_,F.un.free,?_,F.un.tups,F.un.frzs,F.un.tbls⟩ ?_ F.bare (fun b z=>absurd z (by simp))
 ·intro b o e n hb hx
  exact keepB (F.un.keep b o e n hb hx) (.inl ⟨o,e⟩) hb
 ·intro b o e n hb hx
  obtain⟨sl,e1⟩:=F.un.slot b o e n hb hx;obtain⟨sl2,e2⟩:=slotOf hb e1;exact⟨sl2,e2⟩
 ·intro b o e hx
  obtain⟨o1,e1⟩:=F.un.there b o e hx;by_cases hs:b∈frs X.stack
  ·obtain⟨sl,e3⟩:=slotOf hs e1
   exact⟨_,e3⟩
  ·exact⟨o1,keepB e1 (.inl ⟨o,e⟩) hs⟩
 ·intro a o e
  refine(F.hok a o e).stay (fun b u hb z=>?_) (fun b z=>z) (fun b xs z=>z)
  have hb':H' b≠none:=by
   rcases hb with rfl | hb
   ·rw[e];simp
   ·rw[hb];simp
  exact keepB z (.inr hb') (trk hb')
def _root_.L2.Inv.track(I:Inv X Md r H s){a:Jc}{o:HO}(hn:H a=none)(h0:X.s₀.heap.get? a=none)(hl:a≠X.env.locals)(hc:∀ x c,X.env.cells.lookup x=some c->c≠a)(hp:∀ p∈X.pn++Md,p.1≠a)
  (ho:lH X.prog X.w (upd H a o) s.heap a o):Inv X Md r (upd H a o) s where
 ok:=I.ok
 os:=I.os
 bare:=I.bare
 base:=⟨I.base.keep,I.base.slot,fun b ob e n hx=>by
   have:b≠a:=fun z=>by rw[z,h0] at e;cases e
   rw[aY this];exact I.base.free b ob e n hx,I.base.there,fun b xs e=>by
   have z:=I.base.tups b xs e
   rw[aY (bB z hn)];exact z,fun b ob u e=>by
   have z:=I.base.frzs b ob u e
   rw[aY (bB z hn)];exact z,fun b ps e=>by
   obtain⟨m,z⟩:=I.base.tbls b ps e
   exact⟨m,by rw[aY (bB z hn)];exact z⟩⟩
 loc:=I.loc
 cell:=I.cell
 free:=by rw[aY (Ne.symm hl)];exact I.free
 freeC:=fun x c e=>by rw[aY (hc x c e)];exact I.freeC x c e
 pin:=fun p hp'=>by
  obtain⟨e1,e2,e3,e4,e5⟩:=I.pin p hp';exact⟨e1,by rw[aY (hp p hp')];exact e2,e3,e4,e5⟩
 hok:=fun b u e=>by
  by_cases hb:b=a
  ·subst hb;rw[aW] at e;cases e;exact ho
  ·rw[aY hb] at e
   exact(I.hok b u e).stay (fun c v _ q=>q) (fun c q=>by rw[aY (bB q hn)];exact q) fun c xs q=>by rw[aY (bB q hn)];exact q
 len:=I.len
abbrev nL(X:Cx)(ea:Jc):Cx:={ X with A:=X.A.mark (some (.ref ea)),calm:=false,xe:=fun _ _=>False }
def _root_.L2.Inv.clause(I:Inv X Md r H s)(ea:Jc):Inv (nL X ea) Md r H s:=
 ⟨⟨I.ok.mod,I.ok.kind,I.ok.glob,I.ok.blt,I.ok.above,I.ok.inj,I.ok.has,I.ok.cab,(fun z=>Bool.noConfusion z),I.ok.frames,I.ok.stk,I.ok.exf,I.ok.bs,I.ok.bsz,I.ok.noex,I.ok.exfs,I.ok.funs,I.ok.frf⟩,I.os,I.bare,I.base,I.loc,I.cell,I.free,I.freeC,I.pin,I.hok,I.len⟩
def _root_.L2.Inv.unclause{ea:Jc}(ok:X.Ok)(I:Inv (nL X ea) Md r H s):Inv X Md r H s:=⟨ok,I.os,I.bare,I.base,I.loc,I.cell,I.free,I.freeC,I.pin,I.hok,I.len⟩
end
section
variable{X:Cx}{G:Gx}{a e:Expr}{es:List Expr}{pos p:Pos}{fs:Fv}{t:Tv}{x:Str}{k:Nat}{ps:List Str}{m:Mir}{st:Jh}{sts:List Jh}{sa sb:Sv}
def G0(G:Gx):Gx:={ G with E:=fun _ _=>False }
def zRg(X:Cx)(Md:List (Jc×Obj))(g:St)(Hi H:Hp)(c:Str)(ev:Ja)(s':Jb):Prop:=
 ∃(s1:Jb)(H1:Hp)(ea:Jc)(cls:Ja)(Hi' H':Hp),ev=.ref ea/\Inv X Md g H1 s1/\X.mg c=some cls/\Fly X.prog X.w X.stack H1 H' s1 ea cls s'/\Ext Hi H Hi' H'/\Keep H H1
def zRF(X:Cx)(G:Gx)(Hi:Hp)(E:Ends)(r:Res Fl):Prop:=match r with
 | .err _=>True
 | r=>Fin X G Hi E r
@[irreducible] def PSx (X:Cx) (G:Gx) (st:Jh) (f:Sv):Prop:=∀(Md:List (Jc×Obj))(s:Jb)(g:St)(H:Hp)(E:Ends)(ρ:Rho)(Hi:Hp)(Et:Ja->Jb->Prop),
 Inv X Md g H s->kY X G Hi H g ρ->f ρ≠.no->zRF X G Hi E (f ρ)->(∀ c ev s',f ρ=.err c->zRg X Md g Hi H c ev s'->Et ev s')->wpAny (model X.prog X.w) X.A (exec st X.env) (SP X Md E) Et s
unseal PSx
@[irreducible] def jK (X:Cx) (G:Gx) (sts:List Jh) (f:Sv):Prop:=∀(Md:List (Jc×Obj))(s:Jb)(g:St)(H:Hp)(E:Ends)(ρ:Rho)(Hi:Hp)(Et:Ja->Jb->Prop),
 Inv X Md g H s->kY X G Hi H g ρ->f ρ≠.no->zRF X G Hi E (f ρ)->(∀ c ev s',f ρ=.err c->zRg X Md g Hi H c ev s'->Et ev s')->wpAny (model X.prog X.w) X.A (execs sts X.env) (SP X Md E) Et s
unseal jK
def zQs(h:PSx X G st sa):jK X G [st] sa:=fun Md s g H E ρ Hi Et I R hn hf he=>by
 refine Jo (wpAny_mono (h Md s g H E ρ Hi Et I R hn hf he) (fun f s1 q=>?_) fun _ _ z=>z)
 cases f with
 | next=>exact Jn q
 | ret v=>exact q
 | brk=>exact q
 | cont=>exact q
def zQP{Md:List (Jc×Obj)}{s:Jb}{g:St}{H:Hp}{ρ:Rho}{Hi:Hp}{Et:Ja->Jb->Prop}{Q:VK}{ds:List D}(tb:TB X.K X.mg G.Bi G.B)(c:CanM X.prog X.w X.K X.mg X.base k x ps m)(hr:Room k X.A)(hg:Gl X x)(ha:PAd X.nox (G0 G) (e::es) fs)
  (I:Inv X Md g H s) (R:kY X G Hi H g ρ) (hds:fs ρ=.ok ds) (hm:m ds≠.no) (hq:∀ r v Hi' H',m ds=.ok r->Ext Hi H Hi' H'->IsD X.K Hi' v r.d->Q v H') (he:∀ c ev s',m ds=.err c->zRg X Md g Hi H c ev s'->Et ev s')
  (hdb:(x==("__debug__" : Str))=false) (hst:starEach (e::es) X.env=(false,eval e X.env)::starEach es X.env) (hpl:(backTo pos (starEach es X.env)).any (·.1)=false):
  wpAny (model X.prog X.w) X.A (eval (.Call (.Name x p) (e::es) [] pos) X.env) (EP X Md g Q) Et s:=by
 obtain⟨⟨f,fd,F,b,kp,hmg⟩,ln⟩:=c;refine Jx (tI I hg hmg ?_ hdb)
 have hA:=ha pos Md s g H (fun vs H1=>∃ Hi1,Ext Hi H Hi1 H1/\IsDs X.K Hi1 vs ds) (I.wish _) ⟨ρ,Hi,R,by rw[hds];exact fun Hi1 H1 e1 vs r=>⟨Hi1,e1,r⟩⟩
 refine PySem.W.callWith_K (h₀:=X.base) I.ok.mod.kin kp (wpAny_mono hA (fun us s1 q=>?_) fun _ _ z=>False.elim z) hst hpl
 obtain⟨vs,H1,I1',r,Hi1,e1,hd⟩:=q;have I1:Inv X Md g H1 s1:=I1'.unwish;refine⟨I1.kIn,?_⟩
 have hl:us.length=ps.length:=by rw[<-r.length,hd.length];exact ln ds hm
 refine Jw (codeAny_mono (F.run X.A X.stack s1 H1 ⟨us,[]⟩ us vs (fun v H2=>Q v H2) (fun cls _ H2=>∃ c Hi2,X.mg c=some cls/\m ds=.err c/\Ext Hi1 H1 Hi2 H2) hr I1.env0 (by have:=b s1 us I1.kIn (by rw[Vn];exact hl);rwa [Vn] at this) r ?_) fun res s' hq'=>?_)
 ·refine⟨by rw[hd.length];exact ln ds hm,Hi1,ds,tb.ext (R.ext.trans e1),e1.s,hd,?_⟩
  cases z:m ds with
  | no=>exact absurd z hm
  | err c'=>exact fun C hC Hi2 H2 e2=>⟨c',Hi2,hC,rfl,e2⟩
  | ok rr=>
   cases rr with
   | v d=>exact fun v Hi2 H2 e2 r2=>hq _ v Hi2 H2 z (e1.trans e2) r2
   | f es=>
    intro a' Hi2 H2 e2 n;obtain⟨n1,n2,xs,n3,n4⟩:=n;exact hq _ (.ref a') (upd Hi2 a' (.lst xs)) H2 z (e1.trans (e2.hold n1 n3 n2)) (.lst (SqL.of aW) (n4.mono (bZ n2 _)))
 ·cases res with
  | error ev=>
   obtain⟨ea,cls,H',rfl,Fl,c',Hi2,hc,hmc,e2⟩:=hq';exact he c' _ s' hmc ⟨s1,H1,ea,cls,Hi2,H',rfl,I1,hc,Fl,e1.trans e2,e1.h⟩
  | ok fl=>
   cases fl with
   | ret u=>exact I1.after hq'
   | next=>exact False.elim hq'
   | brk=>exact False.elim hq'
   | cont=>exact False.elim hq'
def zIX{j:Type}{r:Res j}{l:Type}{f:j->Res l}(h:(noErr r).bind f≠.no):∃ a,r=.ok a/\(noErr r).bind f=f a:=by
 cases r with
 | ok a=>exact⟨a,rfl,rfl⟩
 | err c=>exact absurd rfl h
 | no=>exact absurd rfl h
def zQZ{i:Nat}{y:Str}{py pos2:Pos}(hN:X.N.Nodup)(hi:X.N[i]?=some y)(hy:Loc X.env.scope y)(W:Good X G k)(c:CanM X.prog X.w X.K X.mg X.base k x ps m)(hg:Gl X x)(ha:PAd X.nox (G0 G) (e::es) fs)
  (hdb:(x==("__debug__" : Str))=false:=by decide) (hst:starEach (e::es) X.env=(false,eval e X.env)::starEach es X.env:=by rfl) (hpl:(backTo pos (starEach es X.env)).any (·.1)=false:=by rfl)
  (hs2:swapsWith (.Call (.Name x p) (e::es) [] pos) (some (.Name y py)) pos2.line X.env=pure false:=by rfl) (hfn:X.fn y=true∨X.env.scope.names.lookup y=some .local:=by first | exact .inl rfl | exact .inr rfl | assumption):
  PSx X G (.Assign [.Name y py] (.Call (.Name x p) (e::es) [] pos) pos2) (zQe i m fs):=fun Md s g H E ρ Hi Et I R hn hf he=>by
 unfold zQe at hn hf he;obtain⟨ds,hds,heq⟩:=zIX hn;rw[heq] at hn hf he;have hm:m ds≠.no:=fun z=>by rw[z] at hn;exact hn rfl
 refine Jr (wpAny_mono (zQP (Q:=fun v H'=>E.nx (g.set i (some v)) H') W.tb c W.room hg ha I R hds hm (fun r v Hi' H' z e1 rv=>?_) (fun c' ev s' z q=>he c' ev s' (by rw[z];rfl) q) hdb hst hpl) (fun v s1 q=>?_) fun _ _ z=>z) hs2
 ·rw[z] at hf
  exact(show Fin X G Hi E (.ok (.nx (ρ.set i (.val r.d)))) from hf) _ Hi' H' e1.i ((R.grow e1).set rv)
 ·obtain⟨v',H1,I1,r1,q1⟩:=q
  exact pY I1 hN hi hy r1 (fun s2 I2=>⟨_,H1,I2,q1⟩) hfn
end
end L3
namespace L3
open PySem PySem.Spec PyProof.Rows L2 PySem.W
unseal PEd PEf PTd PWd PAd PSd dO POd PGd gF PId PSx jK
section
variable{X:Cx}{G:Gx}{k:Nat}{fb fh:Sv}{body suite:List Jh}{b₀:Jh}{ce n:Str}{np hpos pos:Pos}{i:Nat}{tb:List Str}
def Cat(K:Frag)(mg:Str->Option Ja)(ce c:Str):Prop:=∃ C CE,mg c=some (.ref C)/\mg ce=some (.ref CE)/\ExK K C/\CaK K CE/\mroIn K C (.ref CE)=some true
structure GoodH (X:Cx):Prop where
 u:X.A.units+64<cLine
end
section
variable{K:Frag}{h:Jd}{mg:Str->Option Ja}{x c ce:Str}{C CE:Jc}
def tL{newId:String}{bmB:List Ja}{B initId:String}(X:K.In h)(G:h.Ns mainGlobals mg)(e:nsIn K mainGlobals x=some (some (.ref C)))(q:excIn K C bmB newId=true)(F:ExcBaseFacts B newId initId bmB):∃ C,Err K mg x C:=by
 refine⟨C,⟨fun h' X'=>⟨bmB,newId,B,initId,⟨mg_of X G e,?_⟩,F⟩⟩⟩
 unfold excIn at q;split at q
 ·rename_i dd cd sl ho
  split at q
  ·rename_i C' bm k0 k1 k2 k3 n k5 hm hs
   simp only[Vh,beq_iff_eq,Bool.not_eq_true'] at q;obtain⟨⟨⟨⟨⟨rfl,rfl⟩,hdel⟩,ht⟩,hok⟩,hni⟩:=q;obtain⟨nm,bs,mro,ns,qn,hd,sn,sub,ab,col,del⟩:=cd;dsimp only at hm hdel hok hni
   subst hm hdel
   have hsl:sl=#[k0,k1,k2,k3,some (.builtin n),k5]:=by
    obtain⟨l⟩:=sl;simp only at hs
    rw[hs]
   subst hsl;exact⟨bm,ns,nm,qn,bs,hd,sn,sub,ab,col,dd,k0,k1,k2,k3,k5,_,X' _ _ ho,.of_isNs (isNs_of_in X' hok),nsMap_none_of_in X' hok hni,tail_of_in X' ht⟩
  ·cases q
 ·cases q
def zKz(q:hasDictIn K C=true):(clsIn K C).isSome=true:=by
 obtain⟨cd,hc,_⟩:=any_some q;rw[hc];rfl
def zPz(h1:hasDictIn K C=true)(h2:findIn K (.ref C) "__getattribute__" = some (some (.builtin "BaseException.__getattribute__")))(h3:findIn K (.ref C) "__getattr__" = some none)(h4:findIn K (.ref C) "__class__" = some (some (.builtin "object.__class__")))
  (h5:specialIn K (.builtin "object.__class__") "__get__" = some (some (.builtin "getset_descriptor.__get__"))) (h6:takesIn K (.builtin "object.__class__")=some true) (h7:mroIn K C (.type "object")=some true) (h8:mroIn K C (.type "BaseException")=some true):ExK K C:=
 ⟨zKz h1,h2,h3,h4,h5,h6,h7,h8⟩
def zOF(h1:typeIn K (.ref CE)=some (.type "type"))(h2:hasDictIn K CE=true)(h3:mroIn K CE (.type "BaseException")=some true):CaK K CE:=⟨h1,zKz h2,h3⟩
end
def zCe(env:Env):List (Str×NameKind)->List (Str×Jc)->List (Str×Jc)
 | [],cs=>cs
 | (n,k)::r,cs=>zCe env r (if k==.free then (n,(env.cells.lookup n).getD 0)::cs else cs)
def zKx{env:Env}:∀(l:List (Str×NameKind))(cs:List (Str×Jc)),(∀ p∈l,p.2=.free->∃ c,env.cells.lookup p.1=some c)->
  (forIn l cs (fun p (r:List (Str×Jc))=>if (p.2==NameKind.free)=true then (do let a <-cellOf env p.1;pure (ForInStep.yield ((p.1,a)::r))) else pure (ForInStep.yield r)):Sem (List (Str×Jc)))=pure (zCe env l cs)
 | [],cs,_=>by simp[zCe]
 | (n,k)::r,cs,h=>by
  rw[Uh,zCe];have ih:=fun cs=>zKx r cs fun p hp=>h p (Qc _ hp)
  by_cases e:(k==NameKind.free)=true
  ·obtain⟨c,hc⟩:=h (n,k) Qb (beq_iff_eq.mp e)
   simp only[e,if_true,cellOf,hc,pure_bind,Option.getD_some];exact ih _
  ·simp only[e,Xj,if_false,pure_bind]
   exact ih _
def zKf{env:Env}{scope:Scope}(h:∀ p∈scope.names,p.2=.free->∃ c,env.cells.lookup p.1=some c):closureFor scope env=pure (zCe env scope.names []):=by
 have:=zKx scope.names [] h
 unfold closureFor;rw[<-this];simp
def tZ{env:Env}:∀(l:List (Str×NameKind))(cs:List (Str×Jc)),(∀ p∈l,p.2=.free->∃ c,env.cells.lookup p.1=some c)->(∀ y c,cs.lookup y=some c->env.cells.lookup y=some c)->
  ∀ y c,(zCe env l cs).lookup y=some c->env.cells.lookup y=some c
 | [],cs,_,h,y,c,e=>h y c e
 | (n,k)::r,cs,hl,h,y,c,e=>by
  rw[zCe] at e;refine tZ r _ (fun p hp=>hl p (Qc _ hp)) (fun y c e=>?_) y c e
  by_cases z:(k==NameKind.free)=true
  ·obtain⟨c',hc⟩:=hl (n,k) Qb (beq_iff_eq.mp z)
   simp only[z,if_true,V5,hc,Option.getD_some] at e
   cases w:y==n with
   | true=>rw[w] at e;cases e;rw[beq_iff_eq.mp w];exact hc
   | false=>rw[w] at e;exact h y c e
  ·simp only[z,Xj,if_false] at e
   exact h y c e
def zDW{env:Env}:∀(l:List (Str×NameKind))(cs:List (Str×Jc))(y:Str),(∃ c,cs.lookup y=some c)->∃ c,(zCe env l cs).lookup y=some c
 | [],cs,y,h=>h
 | (n,k)::r,cs,y,⟨c,h⟩=>by
  rw[zCe];refine zDW r _ y ?_
  split
  ·rw[V5]
   cases y==n with
   | true=>exact⟨_,rfl⟩
   | false=>exact⟨c,h⟩
  ·exact⟨c,h⟩
def uQ{env:Env}:∀(l:List (Str×NameKind))(cs:List (Str×Jc))(y:Str),(y,NameKind.free)∈l->∃ c,(zCe env l cs).lookup y=some c
 | (n,k)::r,cs,y,h=>by
  rw[zCe];rcases Qe.mp h with e | h
  ·cases e
   refine zDW r _ _ ⟨(env.cells.lookup n).getD 0,?_⟩
   simp only[beq_self_eq_true,if_true,V5]
  ·exact uQ r _ y h
def bU{s:Type}:∀ {l:List (Str×s)} {y:Str} {k:s},l.lookup y=some k->(y,k)∈l
 | (n,k')::r,y,k,h=>by
  rw[V5] at h
  cases z:y==n with
  | true=>rw[z] at h;cases h;rw[beq_iff_eq.mp z];exact Qb
  | false=>rw[z] at h;exact Qc _ (bU h)
def cG{env:Env}:∀ {l:List (Str×NameKind)} {y:Str} {k:NameKind},
  (l.map fun(n,k)=>if (k==NameKind.free && env.scope.kind==.function && env.kindOf n==some .cell) then (n,NameKind.cell) else (n,k)).lookup y=some k->
  l.lookup y=some k∨(k=.cell/\l.lookup y=some .free)
 | (n,k')::r,y,k,h=>by
  rw[Ql] at h;rw[V5];by_cases c:(k'==NameKind.free && env.scope.kind==.function && env.kindOf n==some .cell)=true
  ·simp only[c,if_true,V5] at h
   cases z:y==n with
   | true=>
    rw[z] at h;cases h;refine .inr ⟨rfl,?_⟩
    simp only[Vh] at c;rw[beq_iff_eq.mp c.1.1]
   | false=>rw[z] at h;exact cG h
  ·simp only[c,Xj,if_false,V5] at h
   cases z:y==n with
   | true=>rw[z] at h;exact .inl h
   | false=>rw[z] at h;exact cG h
def msk(x y:Str):Str:=if y=x then ("" : Str) else y
structure BlkOk (X:Cx) (x:Str) (scope:Scope):Prop where
 kind:scope.kind=.function
 cell:∀ y∈scope.names,y.2≠.cell
 loc:scope.names.lookup x=some .local
 names:∀ y∈scope.names,y.2=.local->scope.names.lookup y.1=some .local
 fre:∀ p∈scope.names,p.2=.free->X.env.kindOf p.1=some .cell∨X.env.kindOf p.1=some .free
 oth:∀ y∈X.N,y≠x->scope.names.lookup y≠some .local
 emp:scope.names.lookup ("" : Str)=none
def cxC(X:Cx)(x:Str)(scope:Scope)(C:Jc)(s₂:Jb)(H₂:Hp)(fp:List Jc):Cx:=
  { prog:=X.prog,w:=X.w,K:=X.K,mg:=X.mg,base:=X.base,A:=X.A,N:=X.N.map (msk x)++[x],s₀:=s₂,H₀:=H₂,env:=compEnvC scope (zCe X.env scope.names []) C X.env,outer:=X.stack,stack:=X.stack,
    ex:=fp,fn:=fun _=>false,calm:=X.calm,pn:=X.pn,xe:=fun _ _=>False }
section
variable{X:Cx}{Md:List (Jc×Obj)}{r:St}{H:Hp}{s₂:Jb}{x:Str}{scope:Scope}{fp:List Jc}{D C:Jc}{h₁:Jd}
def BlkOk.cl(B:BlkOk X x scope)(I:Inv X Md r H s₂):∀ p∈scope.names,p.2=.free->∃ c,X.env.cells.lookup p.1=some c:=fun p hp e=>I.ok.has p.1 (B.fre p hp e)
def zQV(I:Inv X Md r H s₂)(B:BlkOk X x scope)(hfp:∀ b∈fp,sM X Md H b)(hfl:∀ b∈fp,b<s₂.heap.objs.size)(hD:s₂.heap.objs.size<=D)(hC:s₂.heap.objs.size<=C)(hDC:D≠C)
  (old:∀ b o,s₂.heap.get? b=some o->h₁.get? b=some o) {n:Nat} (hacc:h₁.get? D=some { cls:=.type "list", data:=.seq ([]:List Ja).toArray n }) {m:Str->Option Ja} (hns:h₁.Ns C m) (t:Nat):
  Inv (cxC X x scope C s₂ H fp) Md (r++[none]) (upd H D (.lst [])) { s₂ with heap:=h₁,toks:=t }:=by
 have sub:=tZ scope.names [] (B.cl I) (fun y c e=>nomatch e)
 have old_lt:∀ {b:Jc} {o:Obj},s₂.heap.get? b=some o->b≠D/\b≠C:=fun e=>⟨Qp (Qo (Heap.lt_size e) hD),Qp (Qo (Heap.lt_size e) hC)⟩
 have free:∀ {b:Jc},b≠D->H b=none->upd H D (.lst []) b=none:=fun n e=>by rw[aY n];exact e
 refine⟨⟨I.ok.mod,B.kind,I.ok.glob,I.ok.blt,hC,fun y z c e1 e2=>I.ok.inj y z c (sub y c e1) (sub z c e2),fun y hy=>?_,fun y c e=>(nomatch e),I.ok.hd,I.ok.frames,.inl rfl,fun b hb=>⟨Qp (Qo (hfl b hb) hC),fun y c e=>(hfp b hb).2.2.2.2.1 y c (sub y c e)⟩,
  I.bs,Qn I.ok.bsz I.sz,fun b o e hb=>?_,fun b hb z=>?_,I.stack,I.stkFree⟩,rfl,I.bare,Un.laid old hD (I.hok.fresh hD),⟨m,hns,fun i y v e1 e2 e3=>?_⟩,fun y c e=>?_,free (Ne.symm hDC) (I.hok.fresh hC),fun y c e=>?_,fun p hp=>?_,I.hok.laid old hD ⟨Vl _,[],n,.nil,hacc⟩,?_⟩
 ·have:∃ k,(k=NameKind.cell∨k=NameKind.free)/\((relabel scope X.env).names).lookup y=some k:=hy.elim (fun h=>⟨_,.inl rfl,h⟩) fun h=>⟨_,.inr rfl,h⟩
  obtain⟨k,hk,e⟩:=this
  have e':(y,NameKind.free)∈scope.names:=by
   rcases cG e with z | ⟨_,z⟩
   ·rcases hk with rfl | rfl
    ·exact absurd rfl (B.cell _ (bU z))
    ·exact bU z
   ·exact bU z
  exact uQ scope.names [] y e'
 ·rcases (hfp b hb).2.2.2.1 with z | z
  ·exact I.ok.noex b o e z
  ·exact absurd (Qo (Heap.lt_size e) (Qn I.ok.bsz z)) (Vt _)
 ·rcases Qe.mp (I.stkSub b z) with w | w
  ·exact(hfp b hb).2.1 w
  ·exact(hfp b hb).2.2.1 w
 ·
  have hi:i<r.length:=by
   by_cases hi:i<r.length
   ·exact hi
   ·exfalso
    rw[Vu (by omega)] at e2
    cases q:i-r.length with
    | zero=>rw[q] at e2;cases e2
    | succ j=>rw[q] at e2;cases e2
  rw[Vk hi] at e2;have e1':(X.N.map (msk x)++[x])[i]?=some y:=e1;rw[Vk (by rw[Qf,<-I.len];exact hi),Qr] at e1'
  cases q:X.N[i]? with
  | none=>rw[q] at e1';cases e1'
  | some z=>
   rw[q] at e1';have e1'':msk x z=y:=Vd e1';have hz:z∈X.N:=Qg q;have vis:∃ k,((relabel scope X.env).names).lookup y=some k:=e3.elim (fun h=>⟨_,h⟩) fun h=>h.elim (fun h=>⟨_,h⟩) fun h=>⟨_,h⟩
   have hzx:z≠x:=fun w=>by
    obtain⟨k,hk⟩:=vis;have:y=("" : Str):=by rw[<-e1'',w];exact Jj rfl
    rw[this] at hk;rcases cG hk with h | ⟨_,h⟩<;>(rw[B.emp] at h;cases h)
   have hy:z=y:=by rw[<-e1''];exact(Jk hzx).symm
   subst hy
   have fr:(z,NameKind.free)∈scope.names:=by
    rcases e3 with h | h | h
    ·rcases cG h with h | ⟨h,_⟩
     ·exact absurd h (B.oth z hz hzx)
     ·cases h
    ·rcases cG h with h | ⟨_,h⟩
     ·exact absurd rfl (B.cell _ (bU h))
     ·exact bU h
    ·rcases cG h with h | ⟨h,_⟩
     ·exact bU h
     ·cases h
   have kd:=B.fre _ fr rfl;obtain⟨m0,hn0,hl⟩:=I.loc;obtain⟨u,ru,lk⟩:=hl i z v q e2 (kd.elim (fun h=>.inr (.inl h)) fun h=>.inr (.inr h))
   refine⟨u,ru,.inr ⟨?_,?_⟩⟩
   ·rcases e3 with h | h | h
    ·rcases cG h with h | ⟨h,_⟩
     ·exact absurd h (B.oth z hz hzx)
     ·cases h
    ·exact .inl h
    ·exact .inr h
   ·rcases lk with⟨k1,_⟩ | ⟨_,c,hc,hcell⟩
    ·rcases kd with kd | kd<;>(rw[kd] at k1;cases k1)
    ·obtain⟨c',hc'⟩:=uQ (env:=X.env) scope.names [] z fr
     have:=sub z c' hc'
     rw[hc] at this;cases this;obtain⟨o,ho,hd⟩:=hcell;exact⟨c,hc',o,old _ _ ho,hd⟩
 ·obtain⟨v,o,ho,hd⟩:=I.cell y c (sub y c e)
  exact⟨v,o,old _ _ ho,hd⟩
 ·obtain⟨v,o,ho,hd⟩:=I.cell y c (sub y c e)
  exact free (old_lt ho).1 (I.freeC y c (sub y c e))
 ·obtain⟨e,n,ne,nf,d⟩:=I.pin p hp
  refine⟨old _ _ e,free (old_lt e).1 n,(old_lt e).2,fun z=>?_,d⟩
  rcases Qe.mp (I.stkSub _ z) with w | w
  ·exact ne w
  ·exact nf w
 ·show(r++[none]).length=(X.N.map (msk x)++[x]).length
  rw[Qi,Qi,Qf,I.len];rfl
end
section
variable{K:Fg_}{mg:Str->Option Ja}{B Bi Hi H Hi' H':Hp}{p:St}{ρ:Rho}
def Rel.snoc{v:V}{d:D}(R:Rel K mg B Bi Hi H p ρ)(h:IsD K Hi v d):Rel K mg B Bi Hi H (p++[some v]) (ρ++[.val d]) where
 len:=by rw[Qi,Qi,R.len];rfl
 ext:=R.ext
 slot:=fun j s q=>by
  by_cases hl:j<ρ.length
  ·rw[Vk hl] at q
   rw[Vk (by rw[R.len];exact hl)];exact R.slot j s q
  ·rw[Vu (by omega)] at q
   rw[Vu (by rw[R.len];omega),R.len]
   cases z:j-ρ.length with
   | zero=>rw[z] at q;cases q;exact⟨v,rfl,h⟩
   | succ n=>rw[z] at q;cases q
 dist:=fun j k a ds es q1 q2 q3 q4=>by
  have own:∀ {j:Nat} {ds:List D},(ρ++[Sl.val d])[j]?=some (.own ds)->j<ρ.length:=fun {j ds} q=>by
   by_cases hl:j<ρ.length
   ·exact hl
   ·rw[Vu (by omega)] at q
    cases z:j-ρ.length with
    | zero=>rw[z] at q;cases q
    | succ n=>rw[z] at q;cases q
  have h1:=own q1;have h2:=own q2;rw[Vk h1] at q1;rw[Vk h2] at q2;rw[Vk (by rw[R.len];exact h1)] at q3;rw[Vk (by rw[R.len];exact h2)] at q4;exact R.dist j k a ds es q1 q2 q3 q4
def Ext.rewrite{a:Jc}{o:HO}(e:Ext Hi H Hi' H')(hn:H a=none)(hi:Hi' a=none)(hl:∃ xs,H' a=some (.lst xs)):Ext Hi H Hi' (upd H' a o) where
 i:=e.i
 h:=⟨fun b u z=>by rw[aY (bB z hn)];exact e.h.k _ _ z,fun P z=>by
  obtain⟨xs,hl⟩:=hl
  exact(e.h.t P z).put (fun ps y=>by rw[hl] at y;cases y) (fun ob u y=>by rw[hl] at y;cases y)⟩
 s:=fun b u z=>by rw[aY (bB z hi)];exact e.s _ _ z
 n:=e.n
def IsDs.snoc{v:V}{d:D}(h:IsD K H v d):∀ {vs:List V} {ds:List D},IsDs K H vs ds->IsDs K H (vs++[v]) (ds++[d])
 | _,_,.nil=>.cons h .nil
 | _,_,.cons r t=>.cons r (IsDs.snoc h t)
end
def zH{s:Type}{r:Res s}{a:s}(h:noErr r=.ok a):r=.ok a:=by
 cases r with
 | ok b=>exact h
 | err c=>cases h
 | no=>cases h
def zEq{t:Tv}{f:Ev}{ρ:Rho}{d:D}{ds es:List D}(h:fV t f ρ (d::ds)=.ok es):
  (t (ρ++[.val d])=.ok false/\fV t f ρ ds=.ok es)∨(t (ρ++[.val d])=.ok true/\∃ e es',f (ρ++[.val d])=.ok e/\fV t f ρ ds=.ok es'/\es=e::es'):=by
 rw[fV] at h
 cases ht:noErr (t (ρ++[.val d])) with
 | no=>rw[ht] at h;cases h
 | err c=>rw[ht] at h;cases h
 | ok c=>
  rw[ht] at h;have ht':=zH ht
  cases c with
  | false=>exact .inl ⟨ht',h⟩
  | true=>
   refine .inr ⟨ht',?_⟩
   have h':((noErr (f (ρ++[.val d]))).bind fun e=>(fV t f ρ ds).bind fun es=>.ok (e::es))=.ok es:=h
   cases hf:noErr (f (ρ++[.val d])) with
   | no=>rw[hf] at h';cases h'
   | err c=>rw[hf] at h';cases h'
   | ok e=>
    rw[hf] at h';have h'':((fV t f ρ ds).bind fun es=>.ok (e::es))=.ok es:=h'
    cases hr:fV t f ρ ds with
    | no=>rw[hr] at h'';cases h''
    | err c=>rw[hr] at h'';cases h''
    | ok es'=>
     rw[hr] at h'';cases h''
     exact⟨e,es',zH hf,rfl,rfl⟩
def xS{t:Tv}{f:Ev}{ρ:Rho}{c:Str}:∀ {ds:List D},fV t f ρ ds≠.err c
 | []=>fun h=>by cases h
 | d::ds=>fun h=>by
  rw[fV] at h
  cases ht:noErr (t (ρ++[.val d])) with
  | no=>rw[ht] at h;cases h
  | err c=>cases q:t (ρ++[.val d])<;>(rw[q] at ht;cases ht)
  | ok b=>
   rw[ht] at h
   cases b with
   | false=>exact xS h
   | true=>
    have h':((noErr (f (ρ++[.val d]))).bind fun e=>(fV t f ρ ds).bind fun es=>.ok (e::es))=.err c:=h
    cases hf:noErr (f (ρ++[.val d])) with
    | no=>rw[hf] at h';cases h'
    | err c=>cases q:f (ρ++[.val d])<;>(rw[q] at hf;cases hf)
    | ok e=>
     rw[hf] at h'
     cases hr:fV t f ρ ds with
     | no=>simp only[Res.bind,hr] at h';cases h'
     | err c'=>exact xS hr
     | ok es=>simp only[Res.bind,hr] at h';cases h'
@[irreducible] def PTs (X:Cx) (G:Gx) (ifs:List Expr) (t:Tv):Prop:=
 ∀(Md:List (Jc×Obj))(s:Jb)(p:St)(H:Hp)(Q:Bool->Hp->Prop),Inv X Md p H s->tTb X G t p H Q->
  wpAny (model X.prog X.w) X.A (forIn ifs true fun c r=>if r=true then do let ok <-isTrue c X.env (eval c X.env);pure (ForInStep.yield ok) else pure (ForInStep.yield r)) (TP X Md p Q) X.xe s
unseal PTs
def rR{X:Cx}{G:Gx}:PTs X G [] lO:=fun Md s r H Q I ⟨ρ,Hi,R,o⟩=>wpAny_tests_nil ⟨H,I,Out.here (a:=true) o R.s⟩
end L3
namespace L3
open PySem PySem.Spec PyProof.Rows L2
unseal PEd PEf PTd PWd PAd PSd dO POd PGd gF PId PSx jK PTs
section
variable{X:Cx}{G:Gx}{elt iter:Expr}{x:Str}{px pos:Pos}{ifs:List Expr}{scope:Scope}{it:Fv}{t:Tv}{f:Ev}{k:Nat}
def zML{M:Model}{A:Jg}{g:Type}{m:Sem g}{itv u:Ja}{s:Jb}{Q1:Unit->Jb->Prop}{R1:g->Jb->Prop}{E:Ja->Jb->Prop}(h:wpAny M A (letOwnedTupleGo (.Name x px) itv u) Q1 E s)
  (k:∀ s5,Q1 () s5->wpAny M A m R1 E s5):wpAny M A m R1 E s:=by
 have key:=Jq (f:=fun _:Unit=>m) (wpAny_mono h (fun _ s5 h5=>k s5 h5) fun _ _ z=>z)
 have e:(letOwnedTupleGo (.Name x px) itv u >>= fun _=>m)=m:=pure_bind () fun _=>m
 rw[e] at key;exact key
def zGI{N:List Str}(hN:N.Nodup)(h0:("" : Str)∉N)(hx:x≠("" : Str)):(N.map (msk x)++[x]).Nodup:=by
 rw[List.nodup_append];refine⟨?_,X4.mpr ⟨by simp,List.nodup_nil⟩,fun a ha b hb e=>?_⟩
 ·induction N with
  | nil=>exact List.nodup_nil
  | cons y N ih=>
   rw[Ql,X4];obtain⟨hy,hN⟩:=X4.mp hN;refine⟨fun hm=>?_,ih hN fun z=>h0 (Qc _ z)⟩
   obtain⟨z,hz,e⟩:=Qt.mp hm;unfold msk at e;by_cases c1:z=x
   ·by_cases c2:y=x
    ·exact hy (by rw[c2,<-c1];exact hz)
    ·rw[Jj c1,Jk c2] at e;exact h0 (by rw[e];exact Qb)
   ·by_cases c2:y=x
    ·rw[Jk c1,Jj c2] at e;exact h0 (by rw[<-e];exact Qc _ hz)
    ·rw[Jk c1,Jk c2] at e;exact hy (by rw[<-e];exact hz)
 ·obtain⟨z,hz,e1⟩:=Qt.mp ha
  rw[Qu] at hb;subst hb;subst e;unfold msk at e1;split at e1
  ·exact hx e1.symm
  ·rename_i c;exact c e1
structure CW where
 i:Nat
 v:List (Option V)
 H:Hp
 Hi:Hp
 ys:List V
 done:List D
 rest:List D
structure CS (Y:Cx) (Md:List (Jc×Obj)) (p:St) (tn:Nat->Jd->Prop) (fp:List Jc) (Hi2 H2:Hp) (a:Jc) (m:Nat) (cp:Nat->Res (List D)) (es:List D) (c:CW) (s':Jb):Prop where
 inv:Inv Y Md (p++c.v) c.H s'
 wid:c.v.length=m
 tn:tn c.i s'.heap
 fr:∀ b∈fp,c.H b=none
 ext:Ext Hi2 H2 c.Hi c.H
 acc:c.H a=some (.lst c.ys)
 hi:c.Hi a=none
 isd:IsDs Y.K c.Hi c.ys c.done
 len:c.done.length<=c.i
 cmp:cp c.i=.ok c.rest
 all:es=c.done++c.rest
def zRv(X:Cx)(Md:List (Jc×Obj))(p:St)(use:Option (Ja->Sem Unit))(Q':Ja->Jb->Prop)(Qa:Jc->Hp->Prop):Prop:=
 ∀(C A:Jc)(m:Str->Option Ja)(s4:Jb)(H3:Hp),s4.heap.Ns C m->(∀ h',Heap.SameBut C s4.heap h'->Inv X Md p H3 { s4 with heap:=h' })->sM X Md H3 C->Qa A H3->
  compPost (model X.prog X.w) X.A X.xe use Q' (.ref A) C (.ok .next) s4
def zBx(hc:X.calm=true/\TB X.K X.mg G.Bi G.B)(hr:Room k X.A)(Bk:BlkOk X x scope)(hN:X.N.Nodup)(h0:("" : Str)∉X.N)(hx0:x≠("" : Str))(hi:PId X G (.Name x px) iter it)
  (hb:∀(C:Jc)(s₂:Jb)(H₂:Hp)(fp:List Jc)(G':Gx),Good (cxC X x scope C s₂ H₂ fp) G' k->PTs (cxC X x scope C s₂ H₂ fp) G' ifs t/\PEd (cxC X x scope C s₂ H₂ fp) G' elt f)
  (hs:∀ x,foldedSetIterable iter X.env x=pure x:=by intro _;rfl)
  {Md:List (Jc×Obj)} {s:Jb} {p:St} {H Hi:Hp} {ρ:Rho} {use:Option (Ja->Sem Unit)} {Q':Ja->Jb->Prop} {Qa:Jc->Hp->Prop} {cpos:Pos} (I:Inv X Md p H s) (R:kY X G Hi H p ρ)
  (ou:Out G Hi H ((oA it t f) ρ) fun ds Hi' H'=>∀ a,zID X.K H Hi' H' a ds->Qa a H') (hend:zRv X Md p use Q' Qa):
  wpAny (model X.prog X.w) X.A (comprehension (.ListComp elt [⟨.Name x px,iter,ifs,0⟩] scope pos) scope X.env cpos (newList []) false (eval iter X.env) use) Q' X.xe s:=by
 refine J7 (use:=use) rfl hs (zKf (Bk.cl I)) Bk.kind Bk.names ?_
 refine thn (hi Md s p H (fun J H2=>∃ ds Hi2,Ext Hi H Hi2 H2/\wF X.K Hi2 J ds/\Out G Hi2 H2 (if ds.length<=16777215 then fV t f ρ ds else .no) fun ds Hi' H'=>∀ a,zID X.K H Hi' H' a ds->Qa a H') I
  ⟨ρ,Hi,R,(Out.bind ou).imp fun ds Hi2 H2 e2 o2 J gv=>⟨ds,Hi2,e2,gv,o2⟩⟩) fun v s1 h1=>thn h1 fun itv s2 h2=>?_
 obtain⟨itA,fp,tn,J,H2,rfl,I2,T,st2,f2,ds,Hi2,e2,gv,ou2⟩:=h2
 have hlen:ds.length<=16777215:=by
  by_cases hlen:ds.length<=16777215
  ·exact hlen
  ·rw[Jk hlen] at ou2;exact ou2.elim
 rw[Jj hlen] at ou2
 cases hes:fV t f ρ ds with
 | no=>rw[hes] at ou2;exact ou2.elim
 | err c=>exact absurd hes xS
 | ok es=>
  rw[hes] at ou2;have R2:kY X G Hi2 H2 p ρ:=R.grow e2;refine wpAny_newObj_type (wpAny_newFunctionEnv Bk.cell (by intro y hy;simp at hy) (fun h₁ hns₁ hsb₁=>?_) Bk.kind)
  dsimp only at hns₁ hsb₁ ⊢
  generalize hH2:s2.heap.push { cls:=.type "list", dict:=none,data:=.seq ([]:List Ja).toArray }=HP at hns₁ hsb₁ ⊢;have hC:HP.objs.size=s2.heap.objs.size+1:=by rw[<-hH2,Heap.size_push]
  have hDC:s2.heap.objs.size≠HP.objs.size:=by rw[hC];omega
  have ltC:∀ {b:Jc} {o:Obj},s2.heap.get? b=some o->b≠HP.objs.size:=fun e=>by rw[hC];exact Qp (Xk (Heap.lt_size e))
  have old:∀ b o,s2.heap.get? b=some o->h₁.get? b=some o:=fun b o e=>hsb₁.extBut b o (ltC e) (Heap.get?_push_of_some _ (hH2 ▸ Heap.get?_push_of_some _ e))
  have hacc:h₁.get? s2.heap.objs.size=some { cls:=.type "list", data:=.seq ([]:List Ja).toArray 0 }:=hsb₁.extBut _ _ hDC (Heap.get?_push_of_some _ (hH2 ▸ Heap.get?_push_size _ rfl));have hfl:∀ b∈fp,b<s2.heap.objs.size:=fun b hb=>by obtain⟨o,e,_⟩:=T.obj _ _ st2 b hb;exact Heap.lt_size e
  have IE:=zQV (t:=s2.toks+([]:List (Str×Ja)).length) I2 Bk f2 hfl (Qd _) (by rw[hC];omega) hDC old hacc hns₁
  have sub:=tZ scope.names [] (Bk.cl I2) (fun y c e=>nomatch e)
  have H2D:H2 s2.heap.objs.size=none:=I2.hok.fresh (Qd _);have HD:H s2.heap.objs.size=none:=e2.h.none H2D;have Hi2D:Hi2 s2.heap.objs.size=none:=e2.s.none H2D;generalize hX:cxC X x scope HP.objs.size s2 H2 fp=Y at IE
  have GY:Good Y ⟨G.B,G.Bi,fun _ _=>False⟩ k:=by
   subst hX;exact⟨hc.1,hr,fun Md p H s e s' _ h=>by obtain⟨_,_,_,_,_,c,_,z⟩:=h;exact z.elim,PassesOwn.never,hc.2⟩
  obtain⟨hts,hel⟩:=(hX ▸ hb HP.objs.size s2 H2 fp ⟨G.B,G.Bi,fun _ _=>False⟩ (hX.symm ▸ GY):PTs Y ⟨G.B,G.Bi,fun _ _=>False⟩ ifs t/\PEd Y ⟨G.B,G.Bi,fun _ _=>False⟩ elt f)
  have stat:∀ {H':Hp},(∀ b∈fp,H' b=none)->∀ b∈fp,sM Y Md H' b:=fun hn b hb=>by
   subst hX;refine⟨hn b hb,?_,fun z=>?_,.inl hb,fun y c e=>(f2 b hb).2.2.2.2.1 y c (sub y c e),(f2 b hb).2.2.2.2.2⟩
   ·show b≠HP.objs.size
    rw[hC];exact Qp (Xk (hfl b hb))
   ·rcases Qe.mp (I2.stkSub b z) with w | w
    ·exact(f2 b hb).2.1 w
    ·exact(f2 b hb).2.2.1 w
  have YN:Y.N.Nodup:=by subst hX;exact zGI hN h0 hx0
  have Yx:Y.N[p.length]?=some x:=by
   subst hX;show(X.N.map (msk x)++[x])[p.length]?=some x
   rw[Vu (by rw[Qf,I2.len];omega),Qf,I2.len,X8];rfl
  have Yl:Y.env.scope.names.lookup x=some .local:=by subst hX;exact J8 Bk.loc
  have Ye:Y.env=compEnvC scope (zCe X.env scope.names []) HP.objs.size X.env:=by subst hX;rfl
  have Yxe:∀ e s,¬ Y.xe e s:=by subst hX;exact fun _ _ h=>h
  have tn1:tn 0 h₁:=T.keep _ _ _ st2 fun b _ o e=>old b o e
  have loop:∀ s3:Jb,s3={ s2 with heap:=h₁,toks:=s2.toks+([]:List (Str×Ja)).length }->
    codeAny (model X.prog X.w) X.A (.compLoop (.ListComp elt [⟨.Name x px,iter,ifs,0⟩] scope pos) 0 (.ref itA) (.ref s2.heap.objs.size) Y.env) (compPost (model X.prog X.w) X.A X.xe use Q' (.ref s2.heap.objs.size) HP.objs.size) s3:=by
   rintro s3 rfl
   subst hX
   have fr0:∀ b∈fp,upd H2 s2.heap.objs.size (.lst []) b=none:=fun b hb=>by
    rw[aY (Qp (hfl b hb))];exact(f2 b hb).1
   refine codeAny_compLoop_tests (fun n s'=>∃ c:CW,n=ds.length-c.i/\CS (cxC X x scope HP.objs.size s2 H2 fp) Md p tn fp Hi2 H2 s2.heap.objs.size 1 (fun i=>fV t f ρ (ds.drop i)) es c s') ?_ ds.length
    ⟨⟨0,[none],_,Hi2,[],[],es⟩,rfl,⟨IE,rfl,tn1,fr0,(Ext.refl e2.s).trans (Ext.newF e2.s H2D),aW,Hi2D,.nil,Qd _,hes,rfl⟩⟩
   ·rintro n s3 ⟨⟨i,vv,H3,Hi3,ys,done,rest⟩,rfl,I3,wd3,st3,fr3,e3,hD3,hiD3,rd3,hl3,hr3,hes3⟩
    dsimp only at I3 wd3 st3 fr3 e3 hD3 hiD3 rd3 hl3 hr3 hes3 ⊢
    obtain⟨v,rfl⟩:∃ v,vv=[v]:=by
     match vv,wd3 with
     | [v],_=>exact⟨v,rfl⟩
    obtain⟨w1,w2⟩:=gv Hi3 H3 e3.i e3.s i;have lift:∀ {g:Type} {m:Sem g} {Q':g->Jb->Prop} {E:Ja->Jb->Prop} {s':Jb},wpAny (model X.prog X.w) X.A m Q' (cxC X x scope HP.objs.size s2 H2 fp).xe s'->wpAny (model X.prog X.w) X.A m Q' E s':=fun h=>wpAny_mono h (fun _ _ z=>z) fun e s z=>(Yxe e s z).elim
    by_cases hlt:i<ds.length
    ·obtain⟨d,hd⟩:∃ d,ds[i]?=some d:=⟨_,Qj hlt⟩
     obtain⟨go,yl⟩:=w2 d hd
     have e4:ds.drop i=d::ds.drop (i+1):=by
      rw[Qj hlt] at hd;cases hd;exact Ug hlt
     rw[e4] at hr3;refine thn (T.item (cxC X x scope HP.objs.size s2 H2 fp) rfl rfl rfl hc.1 i Md s3 _ H3 _ I3 (stat fr3) st3 go) fun r s4 ⟨u,hru,h4⟩=>?_
     subst hru;refine zML h4 fun s5 h5=>?_
     obtain⟨xv,H5,I5,r5,y5,st5,fr5⟩:=h5;obtain⟨Hi5,e5,rd5⟩:=yl xv H5 y5;have I5':=I5.pinned (stat fr5) (T.obj _ _ st5);refine Jp (pY I5' YN Yx (.inl Yl) r5 (fun s6 I6=>?_) (.inr Yl))
     have es6:(p++[v]).set p.length (some xv)=p++[some xv]:=by rw[Wd _ _ (Qd _),X8];rfl
     rw[es6] at I6;have E5:Ext Hi2 H2 Hi5 H5:=e3.trans e5;have R5:kY (cxC X x scope HP.objs.size s2 H2 fp) ⟨G.B,G.Bi,fun _ _=>False⟩ Hi5 H5 (p++[some xv]) (ρ++[.val d]):=Rel.snoc (R2.grow E5) rd5
     obtain⟨hD5,hiD5⟩:=e5.out hD3 hiD3;have rd5':=rd3.mono e5.i
     have again:∀ {H8 Hi8:Hp} {ys':List V} {done' rest':List D} {s8:Jb},Inv (cxC X x scope HP.objs.size s2 H2 fp) (Md++tO fp s5.heap) (p++[some xv]) H8 s8->Ext Hi2 H2 Hi8 H8->H8 s2.heap.objs.size=some (.lst ys')->Hi8 s2.heap.objs.size=none->IsDs X.K Hi8 ys' done'->done'.length<=i+1->
       fV t f ρ (ds.drop (i+1))=.ok rest'->es=done'++rest'->∃ m,m<ds.length-i/\∃ c:CW,m=ds.length-c.i/\CS (cxC X x scope HP.objs.size s2 H2 fp) Md p tn fp Hi2 H2 s2.heap.objs.size 1 (fun i=>fV t f ρ (ds.drop i)) es c s8:=fun {H8 Hi8 ys' done' rest' s8} I8 E8 a1 a2 a3 a4 a5 a6=>by
      refine⟨ds.length-(i+1),by omega,⟨i+1,[some xv],H8,Hi8,ys',done',rest'⟩,rfl,⟨I8.unpinned,rfl,T.keep _ _ _ st5 fun b hb o e=>(I8.pin (b,o) (Q0 _ (Q0 _ (eR hb e)))).1,fun b hb=>?_,E8,a1,a2,a3,a4,a5,a6⟩⟩
      obtain⟨o,e,_⟩:=T.obj _ _ st5 b hb;exact(I8.pin (b,o) (Q0 _ (Q0 _ (eR hb e)))).2.1
     rcases zEq hr3 with⟨ht,hr4⟩ | ⟨ht,e,es',hf,hr4,hee⟩
     ·refine lift (thn (hts _ s6 _ H5 (fun b H'=>b=false/\∃ Hi',Ext Hi5 H5 Hi' H') I6 ⟨_,Hi5,R5,by rw[ht];exact fun Hi' H' e=>⟨rfl,Hi',e⟩⟩) fun b s7 h7=>?_)
      obtain⟨H7,I7,rfl,Hi7,e7⟩:=h7;obtain⟨hD7,hiD7⟩:=e7.out hD5 hiD5;exact again I7 (E5.trans e7) hD7 hiD7 (rd5'.mono e7.i) (by omega) hr4 hes3
     ·refine lift (thn (hts _ s6 _ H5 (fun b H'=>b=true/\∃ Hi',Ext Hi5 H5 Hi' H') I6 ⟨_,Hi5,R5,by rw[ht];exact fun Hi' H' e=>⟨rfl,Hi',e⟩⟩) fun b s7 h7=>?_)
      obtain⟨H7,I7,rfl,Hi7,e7⟩:=h7;obtain⟨hD7,hiD7⟩:=e7.out hD5 hiD5;simp only[if_true];refine lift (thn (hel _ s7 _ H7 (fun w H'=>∃ Hi',Ext Hi7 H7 Hi' H'/\IsD X.K Hi' w e) I7 ⟨_,Hi7,R5.grow e7,by rw[hf];exact fun Hi' H' ee w hw=>⟨Hi',ee,hw⟩⟩) fun u8 s8 h8=>?_)
      obtain⟨w8,H8,I8,r8,Hi8,e8,rw8⟩:=h8;obtain⟨hD8,hiD8⟩:=e8.out hD7 hiD7;have rdy:IsDs X.K Hi8 ys done:=(rd5'.mono e7.i).mono e8.i;refine lift (thn (pB (X:=(cxC X x scope HP.objs.size s2 H2 fp)) _ s8 _ H8 (.ref s2.heap.objs.size) [w8] (.ref s2.heap.objs.size) [u8] (fun _ H'=>H'=upd H8 s2.heap.objs.size (.lst (ys++[w8]))) I8 rfl (.cons r8 .nil) ⟨_,ys,w8,rfl,rfl,hD8,?_,rfl⟩) fun _ s9 h9=>?_)
      ·rw[rdy.length]
       exact Xe hl3 (Qo hlt (Qn hlen (by decide)))
      ·obtain⟨_,H9,I9,_,rfl⟩:=h9
       refine again I9 (Ext.rewrite ((E5.trans e7).trans e8) H2D hiD8 ⟨_,hD8⟩) aW hiD8 (rdy.snoc rw8) (by rw[Qi];exact Xi hl3) hr4 ?_
       rw[hes3,hee,V3];rfl
    ·rw[Yv (by omega),fV] at hr3
     cases hr3;refine thn (T.done (cxC X x scope HP.objs.size s2 H2 fp) rfl rfl rfl hc.1 i Md s3 _ H3 _ I3 (stat fr3) st3 (w1 (by omega))) fun r s4 ⟨hrn,I4⟩=>?_
     subst hrn;obtain⟨m4,hn4,_⟩:=I4.loc;have fC:H3 HP.objs.size=none:=I4.free;have nC:∀ b u,H3 b=some u->b≠HP.objs.size:=fun b u e z=>by rw[z,fC] at e;cases e
     have U4:=I4.base;refine hend HP.objs.size s2.heap.objs.size m4 s4 H3 hn4 (fun h' hs'=>?_) (I2.fpOk (by rw[hC];omega) fC) ?_
     ·have kp:∀ b o,b≠HP.objs.size->s4.heap.get? b=some o->h'.get? b=some o:=fun b o hb e=>hs'.extBut b o hb e
      refine Inv.call' I2 (ch:=fp) I4.os ⟨fun b o e n hb hx=>kp b o (ltC e) (U4.keep b o e n hb hx),fun b o e n hb hx=>?_,U4.free,fun b o e hx=>?_,U4.tups,U4.frzs,U4.tbls⟩ (fun b u e=>?_) I4.bare (fun b hb=>⟨(f2 b hb).2.2.2.1,(f2 b hb).2.1,(f2 b hb).2.2.2.2.1,(f2 b hb).2.2.2.2.2⟩)
      ·obtain⟨sl,q⟩:=U4.slot b o e n hb hx
       exact⟨sl,kp b _ (ltC e) q⟩
      ·obtain⟨o',q⟩:=U4.there b o e hx
       exact⟨o',kp b _ (ltC e) q⟩
      ·refine(I4.hok b u e).stay (fun c v hc q=>kp c v ?_ q) (fun _ q=>q) fun _ _ q=>q
       rcases hc with z | z
       ·rw[z];exact nC b u e
       ·exact nC c _ z
     ·refine ou2 Hi3 H3 e3 _ ⟨HD,hiD3,ys,hD3,?_⟩
      rw[hes3,Vn];exact rd3
  rw[Ye] at loop;exact J9 (loop _ rfl) (T.self _ 0 _ _ _ tn1 (loop _ rfl))
def zMN(hc:X.calm=true/\TB X.K X.mg G.Bi G.B)(hr:Room k X.A)(Bk:BlkOk X x scope)(hN:X.N.Nodup)(h0:("" : Str)∉X.N)(hx0:x≠("" : Str))(hi:PId X G (.Name x px) iter it)
  (hb:∀(C:Jc)(s₂:Jb)(H₂:Hp)(fp:List Jc)(G':Gx),Good (cxC X x scope C s₂ H₂ fp) G' k->PTs (cxC X x scope C s₂ H₂ fp) G' ifs t/\PEd (cxC X x scope C s₂ H₂ fp) G' elt f)
  (hs:∀ x,foldedSetIterable iter X.env x=pure x:=by intro _;rfl):PEf X G (.ListComp elt [⟨.Name x px,iter,ifs,0⟩] scope pos) (oA it t f):=by
 intro Md s p H Q I w;obtain⟨ρ,Hi,R,ou⟩:=w;rw[eval_ListComp];refine zBx hc hr Bk hN h0 hx0 hi hb hs (use:=none) (Qa:=fun a H'=>Q (.ref a) H') I R ou fun C A m s4 H3 hn hI _ q=>?_
 exact⟨m,hn,fun h' hs'=>⟨.ref A,H3,hI h' hs',rfl,q⟩⟩
def PC(X:Cx)(e:Expr)(t:TE):Prop:=∀(Md:List (Jc×Obj))(s:Jb)(p:St)(H:Hp)(Q:VK),Inv X Md p H s->t p H Q->∀(u:Ja->Sem Unit)(Q':Unit->Jb->Prop),
 (∀(C:Jc)(m:Str->Option Ja)(s4:Jb)(v:V)(w:Ja)(H3:Hp),s4.heap.Ns C m->(∀ h',Heap.SameBut C s4.heap h'->Inv X Md p H3 { s4 with heap:=h' })->sM X Md H3 C->cU v w->Q v H3->
  wpAny (model X.prog X.w) X.A (u w) (fun _ s''=>∃ m,s''.heap.Ns C m/\∀ h',Heap.SameBut C s''.heap h'->Q' () { s'' with heap:=h' }) X.xe s4)->wpAny (model X.prog X.w) X.A (evalThenUse e X.env u) Q' X.xe s
def PC.wk{X:Cx}{e:Expr}{t t':TE}(h:PC X e t)(w:∀ p H Q,t' p H Q->t p H Q):PC X e t':=fun Md s p H Q I q=>h Md s p H Q I (w p H Q q)
@[irreducible] def PCd (X:Cx) (G:Gx) (e:Expr) (f:Ev):Prop:=PC X e (tD X G f)
unseal PCd
@[irreducible] def PCf (X:Cx) (G:Gx) (e:Expr) (f:Fv):Prop:=PC X e (tF X G f)
unseal PCf
def zLH(hc:X.calm=true/\TB X.K X.mg G.Bi G.B)(hr:Room k X.A)(Bk:BlkOk X x scope)(hN:X.N.Nodup)(h0:("" : Str)∉X.N)(hx0:x≠("" : Str))(hi:PId X G (.Name x px) iter it)
  (hb:∀(C:Jc)(s₂:Jb)(H₂:Hp)(fp:List Jc)(G':Gx),Good (cxC X x scope C s₂ H₂ fp) G' k->PTs (cxC X x scope C s₂ H₂ fp) G' ifs t/\PEd (cxC X x scope C s₂ H₂ fp) G' elt f)
  (hs:∀ x,foldedSetIterable iter X.env x=pure x:=by intro _;rfl):PCf X G (.ListComp elt [⟨.Name x px,iter,ifs,0⟩] scope pos) (oA it t f):=by
 intro Md s p H Q I w u Q' hend;obtain⟨ρ,Hi,R,ou⟩:=w;rw[arm_evalThenUse_ListComp];refine Jq (zBx hc hr Bk hN h0 hx0 hi hb hs (use:=some u) (Q':=fun _ s=>wpAny (model X.prog X.w) X.A (pure ()) Q' X.xe s) (Qa:=fun a H'=>Q (.ref a) H') I R ou fun C A m s4 H3 hn hI fo q=>?_)
 refine thn (hend C m s4 (.ref A) (.ref A) H3 hn hI fo rfl q) fun _ s5 h5=>?_
 obtain⟨m5,hn5,h5⟩:=h5;exact⟨m5,hn5,fun h' hs'=>Jt (h5 h' hs')⟩
def PCf.d(h:PCf X G e fs):PCd X G e (eF fs):=PC.wk h fun p H Q q=>by
 obtain⟨ρ,Hi,R,ou⟩:=q;refine⟨ρ,Hi,R,?_⟩
 cases z:fs ρ with
 | no=>unfold eF at ou;rw[z] at ou;exact ou
 | err c=>unfold eF at ou;rw[z] at ou;exact ou
 | ok ds=>
  unfold eF at ou;rw[z] at ou
  intro Hi1 H1 e1 a n;obtain⟨n1,n2,xs,n3,n4⟩:=n;have o2:∀ Hi' H',Ext Hi H Hi' H'->∀ v,IsD X.K Hi' v (.lst ds)->Q v H':=ou;exact o2 _ _ (e1.hold n1 n3 n2) (.ref a) (.lst (SqL.of aW) (n4.mono (bZ n2 _)))
def zMy{i:Nat}{y:Str}{e:Expr}{te:TE}{pos' pos:Pos}(hN:X.N.Nodup)(hi:X.N[i]?=some y)(hx:Loc X.env.scope y)(he:PC X e te)(hs:swapsWith e (some (.Name y pos')) pos.line X.env=pure true)
  (hf:X.fn y=true∨X.env.scope.names.lookup y=some .local):PS X (.Assign [.Name y pos'] e pos) (zRd te (L2.gName i)):=by
 intro Md s p H E I h;rw[exec_Assign_Name_used _ _ _ _ hs];refine Jq (wpAny_standAt (Jq ?_))
 refine he Md s p H _ I h _ _ fun C m s4 v w H3 hn hI fo r q=>?_
 have I4:Inv X Md p H3 s4:=hI s4.heap (Heap.SameBut.refl _ _);refine Jp (zAA I4 hN hi hx r (fun s5 I5 sb=>?_) hf)
 obtain⟨a,sb,ha⟩:=sb
 have aC:C≠a:=by
  rcases ha with rfl | ha
  ·exact fo.2.1
  ·exact fun z=>fo.2.2.2.2.1 y a ha z.symm
 refine⟨m,hn.sameBut sb aC,fun h' hs'=>Jt ?_⟩
 have fC:=fo.1;have nC:∀ b u,H3 b=some u->b≠C:=fun b u e z=>by rw[z,fC] at e;cases e
 have kp:∀ b o,b≠C->s5.heap.get? b=some o->h'.get? b=some o:=fun b o hb e=>hs'.extBut b o hb e
 refine⟨p.set i (some v),H3,?_,q⟩
 refine Inv.call' I5 (ch:=[C]) rfl ⟨fun b o e n hb hx=>kp b o (by simpa using hx) e,fun b o e n hb hx=>⟨o.slots,kp b _ (by simpa using hx) e⟩,fun b o e n hx=>n,fun b o e hx=>⟨o,kp b _ (by simpa using hx) e⟩,fun _ _ q=>q,fun _ _ _ q=>q,fun _ ps q=>⟨#[],by simpa using q⟩⟩ (fun b u e=>?_) I5.bare (fun b hb=>?_)
 ·refine(I5.hok b u e).stay (fun c v hc q=>kp c v ?_ q) (fun _ q=>q) fun _ _ q=>q
  rcases hc with z | z
  ·rw[z];exact nC b u e
  ·exact nC c _ z
 ·have e:b=C:=by simpa using hb
  subst e;exact⟨fo.2.2.2.1,fo.2.1,fo.2.2.2.2.1,fo.2.2.2.2.2⟩
def zGl{i:Nat}{y:Str}{e:Expr}{f:Ev}{pos' pos:Pos}(hN:X.N.Nodup)(hi:X.N[i]?=some y)(hx:Loc X.env.scope y)(he:PCd X G e f)(hs:swapsWith e (some (.Name y pos')) pos.line X.env=pure true)
  (hf:X.fn y=true∨X.env.scope.names.lookup y=some .local:=by first | exact .inl rfl | exact .inr rfl | assumption):PSd X G (.Assign [.Name y pos'] e pos) (cX i f):=PS.wk (zMy hN hi hx he hs hf) fun E p H q=>by
 obtain⟨ρ,Hi,R,h⟩:=q;exact⟨ρ,Hi,R,jP R h fun d Hi' H' _ e h' v r=>h' _ Hi' H' (Same.refl _) ((R.grow e).set r)⟩
end
end L3
namespace L3
open PySem PySem.Spec PyProof.Rows L2
unseal PEd PEf PTd PWd PAd PSd dO POd PGd gF PId PSx jK PTs PCd PCf
def zQh(sc:Scope)(N:List Str)(x:Str)(scope:Scope):Bool:=
 scope.names.all (fun y=>y.2 != .cell) && scope.names.lookup x==some .local && scope.names.all (fun y=>y.2 != .local || scope.names.lookup y.1==some .local)
  && scope.names.all (fun p=>p.2 != .free || (sc.names.lookup p.1==some .cell || sc.names.lookup p.1==some .free)) && N.all (fun y=>y==x || scope.names.lookup y != some .local) && (scope.names.lookup ("" : Str)).isNone && !N.contains ("" : Str) && x != ("" : Str)
section
variable{X:Cx}{G:Gx}{elt iter:Expr}{x:Str}{px pos:Pos}{ifs:List Expr}{scope sc:Scope}{it:Fv}{t:Tv}{f:Ev}{k:Nat}{N:List Str}
def zKG(hk:scope.kind=.function)(hsc:X.env.scope=sc)(hN:X.N=N)(h:zQh sc N x scope=true):BlkOk X x scope/\("" : Str)∉X.N/\x≠("" : Str):=by
 unfold zQh at h;simp only[Vh] at h;obtain⟨⟨⟨⟨⟨⟨⟨h1,h2⟩,h3⟩,h4⟩,h5⟩,h6⟩,h7⟩,h8⟩:=h;subst hN hsc;refine⟨⟨hk,fun y hy e=>?_,beq_iff_eq.mp h2,fun y hy e=>?_,fun p hp e=>?_,fun y hy hne e=>?_,?_⟩,fun z=>?_,fun z=>?_⟩
 ·have:=Xf.mp h1 y hy
  rw[e] at this;cases this
 ·have:=Xf.mp h3 y hy
  rw[e] at this;simpa using this
 ·have:=Xf.mp h4 p hp
  rw[e] at this;have q:X.env.scope.names.lookup p.1=some .cell∨X.env.scope.names.lookup p.1=some .free:=by simpa using this
  exact q
 ·have:=Xf.mp h5 y hy
  rw[e] at this;simp[hne] at this
 ·simpa using h6
 ·have:X.N.contains ("" : Str)=true:=by simpa using z
  rw[this] at h7;cases h7
 ·rw[z] at h8;simp at h8
def pJ(W:Good X G k)(hnd:N.Nodup)(hk:scope.kind=.function)(hsc:X.env.scope=sc)(hN:X.N=N)(h:zQh sc N x scope=true)(hi:PId X G (.Name x px) iter it)
  (hb:∀(C:Jc)(s₂:Jb)(H₂:Hp)(fp:List Jc)(G':Gx),Good (cxC X x scope C s₂ H₂ fp) G' k->PTs (cxC X x scope C s₂ H₂ fp) G' ifs t/\PEd (cxC X x scope C s₂ H₂ fp) G' elt f)
  (hs:∀ x,foldedSetIterable iter X.env x=pure x:=by intro _;rfl):PEf X G (.ListComp elt [⟨.Name x px,iter,ifs,0⟩] scope pos) (oA it t f):=by
 obtain⟨b,h0,hx⟩:=zKG hk hsc hN h;exact zMN ⟨W.calm,W.tb⟩ W.room b (hN ▸ hnd) h0 hx hi hb hs
def zN(W:Good X G k)(hnd:N.Nodup)(hk:scope.kind=.function)(hsc:X.env.scope=sc)(hN:X.N=N)(h:zQh sc N x scope=true)(hi:PId X G (.Name x px) iter it)
  (hb:∀(C:Jc)(s₂:Jb)(H₂:Hp)(fp:List Jc)(G':Gx),Good (cxC X x scope C s₂ H₂ fp) G' k->PTs (cxC X x scope C s₂ H₂ fp) G' ifs t/\PEd (cxC X x scope C s₂ H₂ fp) G' elt f)
  (hs:∀ x,foldedSetIterable iter X.env x=pure x:=by intro _;rfl):PCf X G (.ListComp elt [⟨.Name x px,iter,ifs,0⟩] scope pos) (oA it t f):=by
 obtain⟨b,h0,hx⟩:=zKG hk hsc hN h;exact zLH ⟨W.calm,W.tb⟩ W.room b (hN ▸ hnd) h0 hx hi hb hs
end
section
variable{X:Cx}{G:Gx}{a b:Expr}{pos:Pos}{f:Fv}{g:Ev}
def IsDs.rep{K:Fg_}{H:Hp}{xs:List V}{ds:List D}(h:IsDs K H xs ds):∀ n:Nat,IsDs K H (List.replicate n xs).flatten (List.replicate n ds).flatten
 | 0=>.nil
 | n+1=>by
  rw[Xq,Xq,X6,X6];exact h.append (IsDs.rep h n)
def zGk(ha:PEf X G a f)(hb:PEd X G b g):PEf X G (.BinOp a .Mult b pos) (zNt f g):=PE.wk (zAE zOt ha hb) fun r H Q q=>by
 obtain⟨ρ,Hi,R,ou⟩:=q;refine⟨ρ,Hi,R,(Out.bind ou).imp fun ds Hi1 H1 e1 o1 l nl=>?_⟩
 refine⟨ρ,Hi1,R.grow e1,(Out.bind o1).imp fun d Hi2 H2 e2 o2 v rv=>?_⟩
 cases d<;>first | exact o2.elim | skip
 rename_i k
 obtain⟨n1,n2,xs,n3,n4⟩:=nl;have o2':Out G Hi2 H2 (if 0<=k/\k<2^62/\ds.length*k.toNat<=16777216 then Res.ok (List.replicate k.toNat ds).flatten else .no) _:=o2;by_cases hz:0<=k/\k<2^62/\ds.length*k.toNat<=16777216
 ·rw[Jj hz] at o2'
  refine⟨l,k,xs,rfl,rv.intI,e2.h.at n3,by omega,by omega,by rw[n4.length];exact hz.2.2,fun p hp=>?_⟩
  exact o2' _ _ (Ext.newF e2.s hp) p ⟨(e1.h.trans e2.h).none hp,e2.s.none hp,_,aW,(n4.mono e2.i).rep _⟩
 ·rw[Jk hz] at o2';exact o2'.elim
end
section
variable{es r:List Expr}{a b f:Expr}{k:Nat}{p:Pos}{x:Str}{c:Const}{env:Env}
def kF:starEach (.Tuple es k p::r) env=(false,eval (.Tuple es k p) env)::starEach r env:=rfl
def aX{o:Operator}:starEach (.BinOp a o b p::r) env=(false,eval (.BinOp a o b p) env)::starEach r env:=rfl
def bM:starEach (.Subscript a b p::r) env=(false,eval (.Subscript a b p) env)::starEach r env:=rfl
def aJ:starEach (.Name x p::r) env=(false,eval (.Name x p) env)::starEach r env:=rfl
def dB:starEach (.Constant c k p::r) env=(false,eval (.Constant c k p) env)::starEach r env:=rfl
def aI{ks:List Keyword}:starEach (.Call f es ks p::r) env=(false,eval (.Call f es ks p) env)::starEach r env:=rfl
end
end L3
set_option maxRecDepth 100000
namespace L3
open PySem PySem.Spec PyProof.Rows L2
section
unseal PEd PEf PTd PWd PAd PSd dO POd PGd gF PId PSx jK PTs PCd PCf
variable{X:Cx}{G:Gx}{fs:Fv}{f:Ev}
end
end L3
namespace L3
open PySem PySem.Spec PyProof.Rows L2
unseal PEd PEf PTd PWd PAd PSd dO POd PGd gF PId PSx jK PTs PCd PCf
section
variable{X:Cx}{G:Gx}
def zRz(K:PySem.W.Frag):List V->Hp->VK->Prop:=fun xs H Q=>∃(a:Jc)(ns:List Int),xs=[.ref a]/\(SqL K H a (ns.map V.int)∨SqT K H a (ns.map V.int))/\Q (.int ns.sum) H
def uM(ns:List Int):∀ j,preSum (fun i=>ns.getD i 0) j=(ns.take j).sum
 | 0=>by rw[List.take_zero];rfl
 | j+1=>by
  rw[preSum,uM ns j,Ud];rw[Qq]
  cases ns[j]? with
  | none=>simp
  | some x=>simp
def zAg{ns:List Int}{its:List Ja}(r:dN (ns.map V.int) its){i:Nat}{v:Ja}(h:its[i]?=some v):∃ t,v=.int (ns.getD i 0) t:=by
 have hl:=r.length;rw[Qf] at hl;have hi:=(Ve.mp h).1
 have hx:(ns.map V.int)[i]?=some (.int (ns.getD i 0)):=by
  rw[Qr,Qq,Qj (by omega)];rfl
 obtain⟨u,hu,ru⟩:=r.get hx;rw[h] at hu;cases hu;exact ru
def kT(hc:X.calm=true):vH X (.builtin "sum") (zRz X.K):=by
 intro Md s f H xs us Q I r h;obtain⟨a,ns,rfl,hq,q⟩:=h;obtain⟨u,rfl,ru⟩:=r.one;cases ru;have hh:=I.ok.hd hc;rcases hq with hq | hq
 ·obtain⟨its,rv,p,hz⟩:=I.list hq
  have hlt:a<s.heap.objs.size:=by obtain⟨_,e,_⟩:=p.isList;exact Heap.lt_size e
  have hl:=rv.length;rw[Qf] at hl;refine call_sum_walkG (wpAny_pyIter_list p.isList ?_)
  refine⟨s.heap.objs.size,_,_,_,_,_,fun i=>ns.getD i 0,rfl,Walks.list (A:=X.A.in1) hh s.heap.objs.size a (Qp hlt) its.toArray,⟨⟨_,Heap.get?_push_size _ rfl,rfl,rfl⟩,p.isList.push _⟩,fun b hb=>?_,fun i v hv=>zAg rv (by simpa using hv),fun h' tk t' hk=>?_⟩
  ·show b<(s.heap.push _).objs.size
   rw[Heap.size_push];rcases Qe.mp hb with rfl | hb
   ·exact X9 _
   ·rcases Qe.mp hb with rfl | hb
    ·exact Xk hlt
    ·cases hb
  ·refine⟨.int ns.sum,H,I.kept (t':=tk) fun b o e=>hk b o (fun z=>?_) (Heap.get?_push_of_some _ e),⟨t',?_⟩,q⟩
   ·have z':b=s.heap.objs.size:=by simpa using z
    have l:=Heap.lt_size e;rw[z'] at l;exact Vt _ l
   ·rw[Qh,<-hl,uM,V6]
 ·obtain⟨its,rv,p,hz⟩:=I.tuple hq
  have p':s.heap.IsTuple a its.toArray:=p;have hlt:a<s.heap.objs.size:=by obtain⟨_,e,_⟩:=p';exact Heap.lt_size e
  have hl:=rv.length;rw[Qf] at hl;refine call_sum_walkG (wpAny_pyIter_tuple p' ?_)
  refine⟨s.heap.objs.size,_,_,_,_,_,fun i=>ns.getD i 0,rfl,Walks.tuple (A:=X.A.in1) hh s.heap.objs.size a (Qp hlt) its.toArray,⟨⟨_,Heap.get?_push_size _ rfl,rfl,rfl⟩,p'.push _⟩,fun b hb=>?_,fun i v hv=>zAg rv (by simpa using hv),fun h' tk t' hk=>?_⟩
  ·show b<(s.heap.push _).objs.size
   rw[Heap.size_push];rcases Qe.mp hb with rfl | hb
   ·exact X9 _
   ·rcases Qe.mp hb with rfl | hb
    ·exact Xk hlt
    ·cases hb
  ·refine⟨.int ns.sum,H,I.kept (t':=tk) fun b o e=>hk b o (fun z=>?_) (Heap.get?_push_of_some _ e),⟨t',?_⟩,q⟩
   ·have z':b=s.heap.objs.size:=by simpa using z
    have l:=Heap.lt_size e;rw[z'] at l;exact Vt _ l
   ·rw[Qh,<-hl,uM,V6]
def jU{K:Fg_}{H:Hp}:∀ {xs:List V} {ds:List D} {ns:List Int},IsDs K H xs ds->lI ds=some ns->xs=ns.map V.int
 | _,_,ns,.nil,h=>by cases h;rfl
 | _,_,ns,.cons (d:=d) (ds:=ds) r rs,h=>by
  cases d with
  | int i=>
   rw[lI] at h
   cases z:lI ds with
   | none=>rw[z] at h;cases h
   | some ms=>
    rw[z] at h;cases h;rw[r.intI,jU rs z];rfl
  | _=>cases h
def vB:zAG X (zRz X.K) zBW:=⟨fun a c z=>(by
  unfold zBW at z;split at z
  ·split at z<;>cases z
  ·split at z<;>cases z
  ·cases z),fun Hi H vs ds d Q s r z q=>by
  unfold zBW at z;split at z
  ·split at z
   ·rename_i ns hns
    cases z;obtain⟨v,rfl,h⟩:=r.one;obtain⟨a,xs,rfl,h1,h2⟩:=h.lstI;have e:=jU h2 hns;subst e;exact⟨a,ns,rfl,.inl (cM s h1),q _ Hi H (Ext.refl s) (.int _)⟩
   ·cases z
  ·split at z
   ·rename_i ns hns
    cases z;obtain⟨v,rfl,h⟩:=r.one;obtain⟨a,xs,rfl,h1,h2⟩:=h.tupI;have e:=jU h2 hns;subst e;exact⟨a,ns,rfl,.inr (bR s h1),q _ Hi H (Ext.refl s) (.int _)⟩
   ·cases z
  ·cases z⟩
def iH:bootBuiltins "sum" = some (.builtin "sum"):=by first | rfl | decide +kernel
end
def ln0{r:Type}{us:List r}(h:us.length=0):us=[]:=Ue h
def ln1{s:Type}{us:List s}(h:us.length=1):∃ a0:s,us=[a0]:=by
 cases us with
 | nil=>cases h
 | cons a r=>
  cases ln0 (Ui h)
  exact⟨a,rfl⟩
def ln2{s:Type}{us:List s}(h:us.length=2):∃ a0 a1:s,us=[a0,a1]:=by
 cases us with
 | nil=>cases h
 | cons a r=>
  obtain⟨a1,rfl⟩:=ln1 (Ui h);exact⟨a,a1,rfl⟩
def ln3{s:Type}{us:List s}(h:us.length=3):∃ a0 a1 a2:s,us=[a0,a1,a2]:=by
 cases us with
 | nil=>cases h
 | cons a r=>
  obtain⟨a1,a2,rfl⟩:=ln2 (Ui h);exact⟨a,a1,a2,rfl⟩
def ln4{s:Type}{us:List s}(h:us.length=4):∃ a0 a1 a2 a3:s,us=[a0,a1,a2,a3]:=by
 cases us with
 | nil=>cases h
 | cons a r=>
  obtain⟨a1,a2,a3,rfl⟩:=ln3 (Ui h);exact⟨a,a1,a2,a3,rfl⟩
section
variable{X:Cx}{G:Gx}{a b c e:Expr}{pos p2 p:Pos}{f g h:Ev}{fs:Fv}{x:Str}
def zAC{bl:List Jh}:dO X G bl sNo:=fun Md s i H E I q=>by
 obtain⟨ρ,Hi,R,ou⟩:=q;exact ou.elim
def zJL(T:List (Str×Str)):List (Str×KTD.Dat):=T.map fun q=>(q.1,.flat (.str q.2))
structure IsTab (K:PySem.W.Frag) (mg:Str->Option Ja) (x:Str) (T:List (Str×Str)) (a:Jc):Prop where
 mg:mg x=some (.ref a)
 tab:∀ h:Jd,K.In h->KTD.TextTab h a (zJL T)
def zHa(k:Str):∀ T:List (Str×Str),KTD.datumAt k (zJL T)=(T.lookup k).map fun y=>.flat (.str y)
 | []=>rfl
 | (x,y)::r=>by
  show(if decide (k=x)=true then some (KTD.Dat.flat (.str y)) else KTD.datumAt k (zJL r))=_
  rw[V5];by_cases hx:k=x
  ·rw[Jj (J5 hx),show(k==x)=true from beq_iff_eq.mpr hx];rfl
  ·rw[Jk (by simp[hx]),show(k==x)=false from beq_eq_false_iff_ne.mpr hx];exact zHa k r
def zFs(k:Str)(T:List (Str×Str)):KTD.inKeys k (zJL T)=(T.lookup k).isSome:=by
 rw[<-KTD.isSome_datumAt,zHa,Option.isSome_map]
def zKy{T:List (Str×Str)}{ad:Jc}(t:IsTab X.K X.mg x T ad)(hg:Gl X x)(hd:(x==("__debug__" : Str))=false:=by decide):PE X (.Name x p) (tC (.ref ad)):=zGZ hg t.mg rfl hd
def zIq{T:List (Str×Str)}{ad:Jc}(t:IsTab X.K X.mg x T ad):OpR X (compareOp .NotIn) (fun v y H Q=>∃ k,v=.str k/\y=.ref ad/\Q (.bl (!(T.lookup k).isSome)) H):=by
 intro Md s i H v y u w Q I rx ry h;obtain⟨k,rfl,rfl,q⟩:=h;obtain⟨tk,rfl⟩:=rx;cases ry;refine KTD.notin_text ⟨t.tab s.heap I.kIn,fun _ _ e=>e⟩ ?_
 rw[zFs];exact⟨.bl _,H,I.tok _,rfl,q⟩
def zAr{h₀:Jd}{k:Str}{P:Ja->Prop}:∀ {T:List (Str×Str)},(∀ z t,T.lookup k=some z->P (.str z t))->KTD.EachL h₀ k P (zJL T)
 | [],_=>trivial
 | [(x,y)],hP=>fun hk t=>hP y t (by rw[V5,show(k==x)=true from beq_iff_eq.mpr hk])
 | (x,y)::q::r,hP=>by
  show if decide (k=x)=true then KTD.Opened h₀ P (.flat (.str y)) else KTD.EachL h₀ k P (zJL (q::r))
  by_cases hk:k=x
  ·rw[Jj (J5 hk)]
   exact fun t=>hP y t (by rw[V5,show(k==x)=true from beq_iff_eq.mpr hk])
  ·rw[Jk (by simp[hk])]
   exact zAr fun z t hz=>hP z t (by rw[V5,show(k==x)=false from beq_eq_false_iff_ne.mpr hk];exact hz)
def zHJ(T:List (Str×Str)):((zJL T).all fun q=>KTD.plain q.2)=true:=by
 unfold zJL;rw[List.all_map];exact Xf.mpr fun _ _=>rfl
def zPQ{T:List (Str×Str)}{ad:Jc}(t:IsTab X.K X.mg x T ad):IxR X (fun v y H Q=>∃ k z,v=.ref ad/\y=.str k/\T.lookup k=some z/\Q (.str z) H):=by
 intro value slice Md s i H v y u w Q I rx ry h hs;obtain⟨k,z,rfl,rfl,hk,q⟩:=h;cases rx;obtain⟨tk,rfl⟩:=ry;refine KTD.item_textA ⟨t.tab s.heap I.kIn,fun _ _ e=>e⟩ (zHJ T) (by rw[zFs,hk];rfl) ?_ hs
 refine zAr fun z' t' hz=>?_
 rw[hk] at hz;cases hz;exact⟨.str _,H,I.tok _,⟨_,rfl⟩,q⟩
def unT{o:D->Res D}{r:R2}{y:V}(hr:∀ (Hi H:Hp) (v:V) (d:D) (Q:VK),IsD X.K Hi v d->Same Hi H->(∃ d',o d=.ok d'/\(∀ w Hi' H',Ext Hi H Hi' H'->IsD X.K Hi' w d'->Q w H'))->r v y H Q)
  (he:∀ d c,o d≠.err c):∀ i H Q,tD X G (eUn o f) i H Q->tOp r (tD X G f) (tC y) i H Q:=fun i H Q q=>by
 obtain⟨ρ,Hi,R,ou⟩:=q;refine zDN R ou fun v d Hi1 H1 e1 R1 r1 o1=>?_
 cases z:o d with
 | no=>rw[z] at o1;exact o1.elim
 | err c=>exact absurd z (he d c)
 | ok d'=>rw[z] at o1;exact hr Hi1 H1 v d Q r1 R1.s ⟨d',z,fun w Hi' H' e1 r1=>o1 Hi' H' e1 w r1⟩
def zQa{T:List (Str×Str)}{ad:Jc}:∀ i H Q,tD X G (eUn (qB T) f) i H Q->tOp (fun v y H Q=>∃ k,v=.str k/\y=.ref ad/\Q (.bl (!(T.lookup k).isSome)) H) (tD X G f) (tC (.ref ad)) i H Q:=
 unT (fun Hi H v d Q r s h=>by
  obtain⟨d',z,q⟩:=h;unfold qB at z;split at z
  ·cases z;exact⟨_,r.strI,rfl,q _ Hi H (Ext.refl s) (.bl _)⟩
  ·cases z) fun d c z=>by unfold qB at z;split at z<;>cases z
def zOD{op:CmpOp}{o:D->Res D}{r:R2}{y:V}(hp:PT X (.Compare a [op] [b] pos) (zOI (tOp r (tD X G f) (tC y))))(hu:∀ i H Q,tD X G (eUn o f) i H Q->tOp r (tD X G f) (tC y) i H Q):PTd X G (.Compare a [op] [b] pos) (eD (eUn o f)):=
 PT.wk hp fun i H Q q=>by
  obtain⟨ρ,Hi,R,ou⟩:=q;refine hu i H _ ⟨ρ,Hi,R,ou.bind.imp fun d Hi' H' e o v r=>?_⟩
  cases d with
  | bl c=>rw[r.blI];exact⟨c,rfl,o.here e.s⟩
  | _=>exact o.elim
def zIO{T:List (Str×Str)}{ad:Jc}(t:IsTab X.K X.mg x T ad)(hg:Gl X x)(ha:PEd X G a f)(hm:behindInMarks .NotIn (.Name x p)=false)(hd:(x==("__debug__" : Str))=false:=by decide):PTd X G (.Compare a [.NotIn] [.Name x p] pos) (eD (eUn (qB T) f)):=
 zOD (zCp (zIq t) ha (zKy t hg hd) hm) zQa
def zKl{T:List (Str×Str)}{ad:Jc}(t:IsTab X.K X.mg x T ad)(hg:Gl X x)(hb:PEd X G b g)(hs:zBY b)(hd:(x==("__debug__" : Str))=false:=by decide):PEd X G (.Subscript (.Name x p) b pos) (eUn (wQ T) g):=
 PE.wk (zFg (zPQ t) (zKy t hg hd) hb hs) fun i H Q q=>by
  obtain⟨ρ,Hi,R,ou⟩:=q;refine zDN R ou fun v d Hi1 H1 e1 R1 r1 o1=>?_
  cases d with
  | str k=>
   have o2:Out G Hi1 H1 (zNs (T.lookup k)) _:=o1
   cases z:T.lookup k with
   | none=>rw[z] at o2;exact o2.elim
   | some y=>rw[z] at o2;exact⟨k,y,rfl,r1.strI,z,o2.here R1.s _ (.str _)⟩
  | _=>exact o1.elim
end
section
variable{prog:Je}{w:Jf}{A:Jg}{R:Result->Jb->Prop}{I:Jc}{fp wr:List Jc}{n:Nat}{P:Nat->Ja->Prop}{St:Nat->Jd->Prop}{kw:List (Str×Ja)}
def zMl(R:Result->Jb->Prop)(wr:List Jc)(S:Jc)(s:Jb)(P:Ja->Prop):Prop:=
 ∀ v h' tk,P v->(∀ b o,b∉wr->b≠S->s.heap.get? b=some o->h'.get? b=some o)->R (.ok (.ret v)) { s with heap:=h',toks:=tk }
def zRl(s:Jb)(S:Jc)(vs:Array Ja)(c:Nat):Prop:=s.heap.get? S=some { cls:=.type "list", dict:=none,data:=.seq vs c,slots:=#[] }
def zEb:(toString "max" ++ toString ".loop" : String) = "max.loop" := by decide
def zMu(W:Walks prog w A.in1 I fp wr n P St)(bt:Nat->Nat->Bool)(hcmp:CmpOf prog w A.in1 .Gt P bt)(S:Jc)(hSf:S∉fp):
  ∀(k j:Nat)(s:Jb)(vb:Ja)(c:Nat),n-(j+1)=k->j+1<=n->St (j+1) s.heap->P (argBest bt j) vb->zRl s S #[vb,vb] c->zMl R wr S s (P (argBest bt (n-1)))->
  codeAny (model prog w) A (.builtin "max.loop" ⟨[.ref I,.none,.ref S],kw⟩) R s:=by
 have hSw:S∉wr:=fun h=>hSf (W.sub _ h)
 intro k
 induction k with
 | zero=>
  intro j s vb c hk hj hst hPb hS hR;have hin:j+1=n:=by omega
  refine codeAny_builtin F.entry_max_loop ?_;rw[Around.under_plainId F.plain_max_loop _]
  refine Jq (wpAny_seqItems hS rfl ?_)
  refine Jq (m:=tryCatch (pyNext (.ref I)) _) (wpAny_tryCatch (W.done s _ _ (hin ▸ hst) fun h' tk hk'=>?_))
  have hS':=hk' S _ hSw hS;refine Jq (m:=updateSeq S (fun _=>#[])) (wpAny_updateSeq hS' rfl (Jq (wpAny_letGo (Jt ?_))))
  exact hR vb _ tk (by rw[<-hin];exact hPb) fun b o hbw hbS e=>(Heap.get?_update_other _ _ (Ne.symm hbS)).trans (hk' b o hbw e)
 | succ k ih=>
  intro j s vb c hk hj hst hPb hS hR;have hlt:j+1<n:=by omega
  refine codeAny_builtin F.entry_max_loop ?_;rw[Around.under_plainId F.plain_max_loop _]
  refine Jq (wpAny_seqItems hS rfl ?_)
  refine Jq (m:=tryCatch (pyNext (.ref I)) _) (wpAny_tryCatch (W.item (j+1) s _ _ hlt hst fun v h' tk hP hst' hk'=>?_))
  have hS':=hk' S _ hSw hS;refine Jq (m:=tryCatch (holding [v,v] (richCompare .Gt v vb >>= _)) _) (wpAny_tryCatch (wpAny_holding (Jq (hcmp (j+1) (argBest bt j) v vb _ _ _ hP hPb ?_))))
  refine Jq (wpAny_holding (wpAny_truthy_bool (Jq (wpAny_letGo (Jt ?_)))))
  cases hb:bt (j+1) (argBest bt j) with
  | true=>
   simp only[if_true];refine Jq ?_;refine wpAny_updateSeq hS' rfl (Jq (wpAny_letGo ?_));rw[zEb]
   refine Jt ⟨plainId_quiet F.plain_max_loop _,ih (j+1) _ v _ (by omega) hlt (W.frame _ _ _ hst' fun b hbf o e=>(Heap.get?_update_other _ _ (fun h:S=b=>hSf (by rw[h];exact hbf))).trans e) (by simp only[argBest,hb,if_true];exact hP) (Heap.get?_update_self _ hS' rfl) fun v' h'' tk'' hP' hk''=>?_⟩
   exact hR v' h'' tk'' hP' fun b o hbw hbS e=>hk'' b o hbw hbS ((Heap.get?_update_other _ _ (Ne.symm hbS)).trans (hk' b o hbw e))
  | false=>
   simp only[Xj,if_false];refine Jq (wpAny_letGo ?_);rw[zEb]
   exact Jt ⟨plainId_quiet F.plain_max_loop _,ih (j+1) _ vb c (by omega) hlt hst' (by simp only[argBest,hb,Xj,if_false];exact hPb) hS' fun v' h'' tk'' hP' hk''=>hR v' h'' tk'' hP' fun b o hbw hbS e=>hk'' b o hbw hbS (hk' b o hbw e)⟩
def zJt(W:Walks prog w A.in1 I fp wr n P St)(bt:Nat->Nat->Bool)(hcmp:CmpOf prog w A.in1 .Gt P bt)(S:Jc)(hSf:S∉fp)(hn:0<n){s:Jb}{c:Nat}(hst:St 0 s.heap)(hS:zRl s S #[] c)(hR:zMl R wr S s (P (argBest bt (n-1)))):
  codeAny (model prog w) A (.builtin "max.loop" ⟨[.ref I,.none,.ref S],kw⟩) R s:=by
 have hSw:S∉wr:=fun h=>hSf (W.sub _ h)
 refine codeAny_builtin F.entry_max_loop ?_;rw[Around.under_plainId F.plain_max_loop _]
 refine Jq (wpAny_seqItems hS rfl ?_)
 refine Jq (m:=tryCatch (pyNext (.ref I)) _) (wpAny_tryCatch (W.item 0 s _ _ hn hst fun v h' tk hP hst' hk'=>?_))
 have hS':=hk' S _ hSw hS;refine Jq (m:=updateSeq S (fun _=>#[v,v])) (wpAny_updateSeq hS' rfl ?_);rw[zEb]
 refine Jt ⟨plainId_quiet F.plain_max_loop _,zMu W bt hcmp S hSf _ 0 _ v _ rfl hn (W.frame _ _ _ hst' fun b hbf o e=>(Heap.get?_update_other _ _ (fun h:S=b=>hSf (by rw[h];exact hbf))).trans e) hP (Heap.get?_update_self _ hS' rfl) fun v' h'' tk'' hP' hk''=>?_⟩
 exact hR v' h'' tk'' hP' fun b o hbw hbS e=>hk'' b o hbw hbS ((Heap.get?_update_other _ _ (Ne.symm hbS)).trans (hk' b o hbw e))
def zMa{x:Str}{d:Ja}(W:Walks prog w A.in1 I fp wr 0 P St)(S:Jc)(hSf:S∉fp){s:Jb}{c:Nat}(hst:St 0 s.heap)(hS:zRl s S #[] c)(hR:zMl R wr S s (·=d)):
  codeAny (model prog w) A (.builtin "max.loop" ⟨[.ref I,.none,.ref S],[(x,d)]⟩) R s:=by
 refine codeAny_builtin F.entry_max_loop ?_;rw[Around.under_plainId F.plain_max_loop _]
 refine Jq (wpAny_seqItems hS rfl ?_)
 refine Jq (m:=tryCatch (pyNext (.ref I)) _) (wpAny_tryCatch (W.done s _ _ hst fun h' tk hk'=>?_))
 exact Jq (wpAny_rule (Jt (hR d h' tk rfl fun b o hbw _ e=>hk' b o hbw e)))
end
section
variable{X:Cx}{G:Gx}{a c:Expr}{pos p kp:Pos}{f g:Ev}
def zFM(num:Nat->Int):∀ k,num (argBest (fun i j=>decide (num i > num j)) k)=yZ (num 0) ((List.range k).map fun i=>num (i+1))
 | 0=>rfl
 | k+1=>by
  rw[Yz,Q4]
  have app:∀(l:List Int)(a b:Int),yZ a (l++[b])=if b > yZ a l then b else yZ a l:=by
   intro l
   induction l with
   | nil=>intro a b;rfl
   | cons x r ih=>intro a b;rw[Uj,yZ,ih,yZ]
  rw[List.map_singleton,app,<-zFM num k];show num (if decide (num (k+1) > num (argBest _ k))=true then k+1 else argBest _ k)=_
  by_cases h:num (k+1) > num (argBest (fun i j=>decide (num i > num j)) k)
  ·rw[Jj (J5 h),Jj h]
  ·rw[Jk (by simp[h]),Jk h]
def zCc(m:Int)(ns:List Int):(m::ns).getD (argBest (fun i j=>decide ((m::ns).getD i 0 > (m::ns).getD j 0)) ns.length) 0=yZ m ns:=by
 rw[zFM (fun i=>(m::ns).getD i 0) ns.length];show yZ m _=_
 congr 1
 refine Y0 fun i=>?_
 rw[Qr];by_cases h:i<ns.length
 ·rw[Xu h,Qj h]
  show some ((m::ns).getD (i+1) 0)=_
  rw[List.getD_cons_succ,Qq,Qj h];rfl
 ·rw[Q3 (by rw[Q9];omega),Q3 (by omega)];rfl
def zRt(d:Int):List Int->Int
 | []=>d
 | m::r=>yZ m r
def zNT(K:PySem.W.Frag):R2:=fun x y H Q=>∃(ad:Jc)(d:Int)(ns:List Int),x=.ref ad/\y=.int d/\SqL K H ad (ns.map V.int)/\Q (.int (zRt d ns)) H
def zGF(x v:Ja):argsOk "max" ⟨[x],[(Str.ofString "default", v)]⟩:=by unfold argsOk;kernel_rfl
def zIt(hc:X.calm=true){Md:List (Jc×Obj)}{s:Jb}{n:St}{H:Hp}{ad:Jc}{d:Int}{t:Tok}{ns:List Int}{Q:VK}(I:Inv X Md n H s)(hq:SqL X.K H ad (ns.map V.int))(q:Q (.int (zRt d ns)) H):
  wpAny (model X.prog X.w) X.A (call (.builtin "max") [.ref ad] [(Str.ofString "default", .int d t)]) (EP X Md n Q) X.xe s:=by
 have hh:=I.ok.hd hc;obtain⟨its,rv,p,hz⟩:=I.list hq;have hlt:ad<s.heap.objs.size:=by obtain⟨_,e,_⟩:=p.isList;exact Heap.lt_size e
 have hl:=rv.length;rw[Qf] at hl;refine kmk_tree F.kind_max F.plain_max F.entry_max (zGF _ _) ?_
 refine Jq (m:=Builtin.Builtins.bindParams "max" ["key","default"] 0 ⟨[],[(Str.ofString "default", .int d t)]⟩) (wpAny_of_eq (a:=[none,some (.int d t)]) (by first | rfl | kernel_rfl) ?_)
 refine Jq (Jt ?_)
 refine Jq (wpAny_pyIter_list p.isList ?_)
 refine Jq (wpAny_newObj_type ?_)
 rw[zEb];refine Jt ⟨plainId_quiet F.plain_max_loop _,?_⟩
 have W:=Walks.list (prog:=X.prog) (w:=X.w) (A:=X.A.in1) hh s.heap.objs.size ad (Qp hlt) its.toArray
 have hSf:(s.heap.push { cls:=.type "list_iterator", data:=.fields #[.ref ad,.int 0 0] }).objs.size∉[s.heap.objs.size,ad]:=by
  rw[Heap.size_push];intro z;rcases Qe.mp z with z | z
  ·exact We _ z
  ·exact Vt _ (Xe (Yc (Qu.mp z)) (Xk hlt))
 have keep:∀ {h':Jd} {b:Jc} {o:Obj},(∀ b o,b∉[s.heap.objs.size]->b≠(s.heap.push { cls:=.type "list_iterator", data:=.fields #[.ref ad,.int 0 0] }).objs.size->((s.heap.push { cls:=.type "list_iterator", data:=.fields #[.ref ad,.int 0 0] }).push { cls:=.type "list", data:=.seq #[] }).get? b=some o->h'.get? b=some o)->s.heap.get? b=some o->h'.get? b=some o:=fun {h' b o} hk e=>by
  have l:=Heap.lt_size e;refine hk b o (fun z=>?_) (fun z=>?_) (Heap.get?_push_of_some _ (Heap.get?_push_of_some _ e))
  ·rw[Qu.mp z] at l;exact Vt _ l
  ·rw[z,Heap.size_push] at l;exact Vt _ (Nat.lt_of_succ_lt l)
 have hst:((s.heap.push { cls:=.type "list_iterator", data:=.fields #[.ref ad,.int 0 0] }).push { cls:=.type "list", data:=.seq #[] }).IsListIter s.heap.objs.size ad 0/\((s.heap.push { cls:=.type "list_iterator", data:=.fields #[.ref ad,.int 0 0] }).push { cls:=.type "list", data:=.seq #[] }).IsList ad its.toArray:=
  ⟨⟨_,Heap.get?_push_of_some _ (Heap.get?_push_size _ rfl),rfl,rfl⟩,(p.isList.push _).push _⟩
 cases ns with
 | nil=>
  have e0:its=[]:=Ue (by rw[<-hl];rfl)
  subst e0;exact zMa W _ hSf hst (Heap.get?_push_size _ rfl) fun v h' tk hv hk=>⟨.int d,H,I.kept (t':=tk) fun b o e=>keep hk e,⟨t,hv⟩,q⟩
 | cons m r=>
  refine zJt W (fun i j=>decide ((m::r).getD i 0 > (m::r).getD j 0)) (CmpOf.ints_gt _ fun i v hv=>zAg rv (by simpa using hv)) _ hSf (by rw[Qh,<-hl];exact Yp _) hst (Heap.get?_push_size _ rfl) fun v h' tk hv hk=>?_
  obtain⟨t',rfl⟩:=zAg rv (i:=argBest (fun i j=>decide ((m::r).getD i 0 > (m::r).getD j 0)) (its.toArray.size-1)) (by simpa using hv)
  refine⟨.int (yZ m r),H,I.kept (t':=tk) fun b o e=>keep hk e,⟨t',?_⟩,q⟩
  rw[Qh,<-hl,Qm,Wf,zCc]
def zNm{ta tb:TE}(hc:X.calm=true)(hg:Gl X "max")(hm:X.mg "max" = none)(ha:PE X a ta)(hb:PE X c tb)(hs:starEach [a] X.env=(false,eval a X.env)::starEach [] X.env:=by rfl):
  PE X (.Call (.Name "max" p) [a] [⟨some "default", c,kp⟩] pos) (tOp (zNT X.K) ta tb):=by
 intro Md s n H Q I h;refine Jx (oW I hg hm boot_max ?_ (by decide) (by decide))
 refine callWith_kw (thn ((gY ha mT hs) pos Md s n H (fun vs H1=>match vs with | [x]=>tb n H1 fun y H2=>zNT X.K x y H2 Q | _=>False) I h) fun us s1 ⟨vs,H1,I1,r1,q1⟩=>?_) (by rw[hs];rfl) (by rw[hs];rfl)
 match vs,r1,q1 with
 | [x],r1,q1=>
  obtain⟨u,rfl,ru⟩:=zAn r1;refine kws_cons (thn (hb Md s1 n H1 _ I1 q1) fun v s2 ⟨y,H2,I2,r2,q2⟩=>kws_nil ?_)
  obtain⟨ad,d,ns,rfl,rfl,hq,q⟩:=q2;cases ru;obtain⟨t,rfl⟩:=r2;exact zIt hc I2 hq q
def zLV(hc:X.calm=true)(hg:Gl X "max")(hm:X.mg "max" = none)(ha:PEd X G a f)(hb:PEd X G c g)(hs:starEach [a] X.env=(false,eval a X.env)::starEach [] X.env:=by rfl):
  PEd X G (.Call (.Name "max" p) [a] [⟨some "default", c,kp⟩] pos) (eOp (fun x y=>zCP [x,y]) f g):=PE.wk (zNm hc hg hm ha hb hs) (op2 ⟨fun a b c z=>(by
  replace z:zCP [a,b]=_:=z
  unfold zCP at z;split at z
  ·split at z<;>cases z
  ·cases z),fun Hi H x y a b d Q s r1 r2 z q=>by
  replace z:zCP [a,b]=_:=z
  unfold zCP at z;split at z
  ·rename_i ds d' he
   cases he;obtain⟨ad,xs,rfl,h1,h2⟩:=r1.lstI;split at z
   ·rename_i m ns hns
    cases z;have e:=jU h2 hns;subst e;exact⟨ad,_,_,rfl,r2.intI,cM s h1,q _ Hi H (Ext.refl s) (.int _)⟩
   ·rename_i hns
    cases z;have e:=jU h2 hns;subst e;exact⟨ad,_,[],rfl,r2.intI,cM s h1,q _ Hi H (Ext.refl s) (.int _)⟩
   ·cases z
  ·cases z⟩)
end
def zIb(l b:Jc)(items items2:Array Ja)(n n2:Nat)(dd2:Option Jc)(sl2:Array (Option Ja))(hc:¬ (!items.isEmpty && Builtin.List.listTooLong (items.size+items2.size))=true)(h1:items.size<=sizeLine)(h2:items.size+items2.size<=sizeLine+1):
  Meets (Builtin.«list.extend» ⟨[.ref l,.ref b],[]⟩) (fun _ R s=>s.heap.get? l=some { cls:=.type "list", dict:=none,data:=.seq items n,slots:=#[] }/\s.heap.get? b=some { cls:=.type "tuple", dict:=dd2,data:=.seq items2 n2,slots:=sl2 }/\
   R (.ok (.ret Value.none)) { s with heap:=s.heap.update l (Obj.mapSeq fun x=>x++items2),toks:=s.toks }):=.of_wp fun prog w A R s h=>by
 obtain⟨hp,g,d,tk,os⟩:=s;obtain⟨hl,hb,h⟩:=h;have f1:=AutoSeq1.idx_int;have f2:=AutoSeq1.sub_tuple_tuple;have f3:=AutoSeq1.sub_list_list;have f4:=AutoSeq1.sub_tuple_list;have f5:=AutoSeq1.sub_list_tuple;have hz:(items++items2).size<=sizeLine+1:=by rw[Array.size_append];exact h2
 wp_walk using (wpAny_updateSeq hl rfl (hz:=h1) (_hz':=hz)),wpAny_loadPart' hl,wpAny_loadPart' hb
 exact⟨_,rfl,h⟩
section
variable{X:Cx}{G:Gx}{e:Expr}{pos:Pos}{f:Ev}
def zQA(K:PySem.W.Frag):V->List V->Hp->VK->Prop:=fun x vs H Q=>∃ l b xs zs,x=.ref l/\vs=[.ref b]/\H l=some (.lst xs)/\SqT K H b zs/\xs.length+zs.length<=sizeLine/\Q .non (upd H l (.lst (xs++zs)))
def zMC:MtM X "list.extend" (zQA X.K):=by
 intro Md s g H x vs v us Q I rx rv h;obtain⟨l,b,xs,zs,rfl,rfl,hH,hB,hz,q⟩:=h;cases rx;obtain⟨u,rfl,ru⟩:=zAn rv;cases ru;obtain⟨z,its,n,r,hl,e⟩:=I.lstM hH;obtain⟨its2,r2,p2,z2⟩:=I.tuple hB;obtain⟨⟨cls2,dd2,data2,sl2⟩,ho2,hc2,n2,hd2⟩:=id p2;simp only at hc2 hd2
 subst hc2 hd2;have l2:=r2.length;have hsz:its.toArray.size+its2.toArray.size<=sizeLine:=by rw[Qh,Qh];omega
 refine call_meets F.slot_list_extend ⟨_,e,rfl⟩ F.entry_list_extend (F.args_list_extend_2 _ _) (zIb l b its.toArray its2.toArray n n2 dd2 sl2 (by rw[zAf hsz,U3];exact X3) (by rw[Qh];omega) (by omega)) ⟨e,ho2,?_⟩
 exact⟨.non,_,I.lset (its':=its++its2) hH e (by simp) (r.append r2) (by rw[Qi];omega),rfl,q⟩
def zPe{i:Nat}{o:Expr}{apos cpos:Pos}(ho:PE X o (zBV i))(he:PEd X G e f)
  (hbase:attributeBase o "extend" X.env (eval o X.env)=eval o X.env:=by rfl)
  (hfew:((backTo cpos (starEach [e] X.env)).all (fun x=>!x.1) && (backToKw cpos (keywordEach [] X.env)).all (fun x=>x.1.isSome)
   && decide ([e].length+([]:List Keyword).length+(if ([]:List Keyword).isEmpty then 0 else 1)<30))=true:=by rfl)
  (hline:(apos.endLine==cpos.line)=true:=by rfl) (hs:starEach [e] X.env=(false,eval e X.env)::starEach [] X.env:=by rfl)
  (hsw:swapsWith (.Call (.Attribute o "extend" apos) [e] [] cpos) none pos.line X.env=pure false:=by rfl):
  PSd X G (.Expr (.Call (.Attribute o "extend" apos) [e] [] cpos) pos) (zJq i (zNx f)):=
 PS.wk (tH (zFG Yy Qae Qaf zMC ho (gY he mT hs) hbase hfew hline hs) hsw) fun E g H q=>by
 obtain⟨ρ,Hi,R,h⟩:=q;unfold zJq at h
 cases z:ρ[i]? with
 | none=>rw[z] at h;exact h.elim
 | some s=>
  rw[z] at h
  cases s with
  | own ds=>
   obtain⟨a,xs,p,h1,h2,h3,h4⟩:=R.slot i _ z;refine⟨.ref a,p,.inl ⟨rfl,xs,SqL.of h1⟩,?_⟩
   have h5:Fin X G Hi E ((f ρ).bind fun d=>(match d with | .tup es=>Res.ok es | _=>.no).bind fun es=>if ds.length+es.length<=16777216 then .ok (.nx (ρ.set i (.own (ds++es)))) else .no):=by
    have h6:Fin X G Hi E ((zNx f ρ).bind fun es=>if ds.length+es.length<=16777216 then .ok (.nx (ρ.set i (.own (ds++es)))) else .no):=h
    unfold zNx at h6
    cases zz:f ρ with
    | no=>rw[zz] at h6;exact h6
    | err c=>rw[zz] at h6;exact h6
    | ok d=>rw[zz] at h6;exact h6
   refine⟨ρ,Hi,R,jP R h5 fun d Hi' H' _ e h' v r=>?_⟩
   cases d with
   | tup es=>
    obtain⟨b,ys,rfl,n3,n4⟩:=r.tupI;have R':=R.grow e;obtain⟨g1,g2⟩:=e.out h1 h2;have h7:Fin X G Hi' E (if ds.length+es.length<=16777216 then Res.ok (Fl.nx (ρ.set i (.own (ds++es)))) else .no):=h';by_cases hz:ds.length+es.length<=16777216
    ·rw[Jj hz] at h7
     refine⟨a,b,xs,ys,rfl,rfl,g1,bR e.s n3,by rw[h4.length,n4.length];exact hz,?_⟩
     exact h7 g Hi' _ (Same.refl _) (R'.write z p ((h4.mono e.i).append n4))
    ·rw[Jk hz] at h7;exact h7.elim
   | _=>exact h'.elim
  | un=>exact h.elim
  | val d=>exact h.elim
  | exc c=>exact h.elim
  | tab T=>exact h.elim
end
end L3
namespace L2
open PySem PySem.Spec PyProof.Rows
abbrev KT(H:Hp):List (List Key×V)->List (List Key×Jc×Ja)->Prop:=Paired fun p q=>p.1=q.1/\H q.2.1=some (.tup (p.1.map kV))/\cU p.2 q.2.2
end L2
namespace L3
open PySem PySem.Spec PyProof.Rows L2
unseal PEd PEf PTd PWd PAd PSd dO POd PGd gF PId PSx jK PTs PCd PCf
end L3
namespace L3
open PySem PySem.Spec PyProof.Rows L2
def itN(k:Bool):String:=if k then "list_iterator" else "tuple_iterator"
def zAq(k:Bool)(h:Jd)(it l:Jc)(i:Nat):Prop:=if k then h.IsListIter it l i else h.IsTupleIter it l i
def sC(k:Bool)(h:Jd)(l:Jc)(xs:Array Ja):Prop:=if k then h.IsList l xs else h.IsTuple l xs
def zAq.get{k:Bool}{h:Jd}{it l:Jc}{i:Nat}(x:zAq k h it l i):∃ o,h.get? it=some o/\o.cls=.type (itN k)/\o.data=.fields #[.ref l,.int i 0]:=by
 cases k<;>(obtain⟨o,a,b,c⟩:=x;exact⟨o,a,b,c⟩)
def zAq.mk{k:Bool}{h:Jd}{it l:Jc}{i:Nat}{o:Obj}(a:h.get? it=some o)(b:o.cls=.type (itN k))(c:o.data=.fields #[.ref l,.int i 0]):zAq k h it l i:=by
 cases k<;>exact⟨o,a,b,c⟩
def zAq.go{k:Bool}{h h':Jd}{it l:Jc}{i:Nat}(x:zAq k h it l i)(g:∀ o,h.get? it=some o->h'.get? it=some o):zAq k h' it l i:=by
 obtain⟨o,a,b,c⟩:=x.get;exact .mk (g o a) b c
def sC.go{k:Bool}{h h':Jd}{l:Jc}{xs:Array Ja}(x:sC k h l xs)(g:∀ o,h.get? l=some o->h'.get? l=some o):sC k h' l xs:=by
 cases k<;>(obtain⟨o,a,b⟩:=x;exact⟨o,g o a,b⟩)
section
variable{prog:Je}{w:Jf}{A:Jg}{E:Ja->Jb->Prop}{s:Jb}
def yQ{k:Bool}{l:Jc}{xs:Array Ja}{Q:Ja->Jb->Prop}(hl:sC k s.heap l xs)(hQ:Q (.ref s.heap.objs.size) { s with heap:=s.heap.push { cls:=.type (itN k),data:=.fields #[.ref l,.int 0 0] } }):
  wpAny (model prog w) A (pyIter (.ref l)) Q E s:=by
 cases k
 ·exact wpAny_pyIter_tuple hl hQ
 ·exact wpAny_pyIter_list hl hQ
def nxT{it t:Jc}{i:Nat}{items:Array Ja}{Q:Ja->Jb->Prop}(hh:A.handled=none∨(items[i]?).isSome=true)(x:s.heap.IsTupleIter it t i)(y:s.heap.IsTuple t items)
  (go:∀ v,items[i]?=some v->∀ h2,h2.IsTupleIter it t (i+1)->Heap.SameBut it s.heap h2->Q v { s with heap:=h2 })
  (stop:items[i]?=none->∀ h2 e,Heap.ExtBut it s.heap h2->(∃ ob,h2.get? e=some ob/\ob.cls=.type "StopIteration")->E (.ref e) { s with heap:=h2 }):wpAny (model prog w) A (Builtin.SmallTypes.nextOf (.ref it)) Q E s:=by
 obtain⟨oi,ei,ci,di⟩:=id x;obtain⟨ot,et,_,nt,dt⟩:=y;have nn:¬ ((Value.ref t==Value.none)=true):=X3;unfold Builtin.SmallTypes.nextOf;refine Jq (wpAny_callSpecial?_slot (name:=Str.ofString "__next__") x.typeIs F.slot_tuple_iterator_next (wpAny_call_entry F.slot_tuple_iterator_next x.typeIs F.entry_tuple_iterator_next (show wpAny _ _ (field _ 0 >>= _) _ _ s from Jq (wpAny_field ei di (x:=.ref t) rfl ?_)) (F.args_tuple_iterator_next_1 _)))
 show wpAny _ _ (ite ((Value.ref t==Value.none)=true) _ _) _ _ s
 rw[Jk nn];refine show wpAny _ _ (field _ 1 >>= _) _ _ s from Jq (wpAny_field ei di (x:=.int i 0) rfl (show wpAny _ _ (seqItems? _ >>= _) _ _ s from Jq (wpAny_seqItems et dt ?_)))
 have fr:∀ g:Array Ja->Array Ja,Heap.get? (s.heap.update it (Obj.mapFields g)) it=some (Obj.mapFields g oi):=fun g=>Heap.get?_update_self _ ei (Obj.isFreed_of_fields (Obj.data_mapFields di g))
 cases q:items[i]? with
 | some v=>
  simp only[Vp,q];refine Jq (wpAny_setField ei di (by simp) (Jt ⟨v,rfl,Jt (go v q _ ⟨_,fr _,(Obj.cls_mapFields ..).trans ci,?_⟩ (Heap.SameBut.update ..))⟩))
  rw[Obj.data_mapFields di];simp[rawInt]
 | none=>
  have hh:A.handled=none:=hh.elim id fun z=>by rw[q] at z;cases z
  simp only[Vp,q];refine Jq (wpAny_rule (Jq (wpAny_setField ei di (by simp) (show wpAny _ _ (newExc _ [] >>= _) _ _ _ from Jq ?_))))
  simp only[newExc,newTuple];refine Jq (wpAny_newObj_type (Jq (m:=firstArgMember _ _) (wpAny_of_eq (a:=Value.none) (by first | rfl | (simp only[firstArgMember];rfl)) (wpAny_newObj_type ?_ (by size_fits)))) (by size_fits))
  simp only[raiseNew];refine Jq (wpAny_handled ?_)
  rw[show A.in1.handled=none from hh];exact Jq (Jt (wpAny_throw (stop q _ _ (((Heap.SameBut.update ..).extBut.push _).push _) ⟨_,Heap.get?_push_size _ rfl,rfl⟩)))
def zCH{k:Bool}{it t:Jc}{i:Nat}{items:Array Ja}{x:Ja}{Q:Ja->Jb->Prop}(hit:zAq k s.heap it t i)(ht:sC k s.heap t items)(hx:items[i]?=some x)
  (hQ:∀ h',zAq k h' it t (i+1)->Heap.SameBut it s.heap h'->Q x { s with heap:=h' }):wpAny (model prog w) A (Builtin.SmallTypes.nextOf (.ref it)) Q E s:=by
 cases k
 ·exact nxT (.inr (by rw[hx];rfl)) hit ht (fun v q h2 g1 g2=>by rw[hx] at q;cases q;exact hQ h2 g1 g2) fun q=>by rw[hx] at q;cases q
 ·exact wpAny_nextOf_list_item hit ht hx hQ
def zDO{k:Bool}{it t:Jc}{i:Nat}{items:Array Ja}{Q:Ja->Jb->Prop}(hh:A.handled=none)(hit:zAq k s.heap it t i)(ht:sC k s.heap t items)(hx:items[i]?=none)
  (hE:∀ h' e,Heap.ExtBut it s.heap h'->(∃ o,h'.get? e=some o/\o.cls=.type "StopIteration")->E (.ref e) { s with heap:=h' }):wpAny (model prog w) A (Builtin.SmallTypes.nextOf (.ref it)) Q E s:=by
 cases k
 ·exact nxT (.inl hh) hit ht (fun v q=>by rw[hx] at q;cases q) fun _=>hE
 ·exact wpAny_nextOf_list_end hh hit ht hx hE
def zNR{k:Bool}(hh:A.handled=none)(it l:Jc)(hne:l≠it)(items:Array Ja):Draws prog w A it [it,l] items.size (fun i v=>items[i]?=some v) (fun i h=>zAq k h it l i/\sC k h l items) where
 live:=fun _ _ st=>let ⟨o,ho,_⟩:=st.1.get;⟨o,ho⟩
 frame:=fun _ _ _ st hk=>⟨st.1.go fun o e=>hk it (by simp) o e,st.2.go fun o e=>hk l (by simp) o e⟩
 item:=fun i s Q E hi st hQ=>by
  refine zCH st.1 st.2 (x:=items[i]) (by simp[hi]) fun h' hit' hs'=>?_
  exact hQ _ h' s.toks (by simp[hi]) ⟨hit',st.2.go fun o e=>hs'.extBut _ o hne e⟩ hs'
 done:=fun s Q E st hE=>zDO hh st.1 st.2 (by simp) hE
def xE(f0:Ja)(k1 k2:Bool)(l1 l2 n:Jc)(j1 j2:Nat)(h:Jd):Prop:=
 IsZip h (n+4) (n+2) (n+3) f0/\IsPair h (n+2) (.ref n) (.ref (n+1))/\(∃ a b,IsPair h (n+3) a b)/\zAq k1 h n l1 j1/\zAq k2 h (n+1) l2 j2
def nX(n:Jc)(h h2:Jd):Prop:=∀ c o,c≠n+4->c≠n+3->c≠n->c≠n+1->h.get? c=some o->h2.get? c=some o
def nX.then{n:Jc}{h h1 h2:Jd}(a:nX n h h1)(b:nX n h1 h2):nX n h h2:=fun c o c1 c2 c3 c4 e=>b c o c1 c2 c3 c4 (a c o c1 c2 c3 c4 e)
def nX.eb{n a:Jc}{h h2:Jd}(k:Heap.ExtBut a h h2)(m:a=n+4∨a=n+3∨a=n∨a=n+1):nX n h h2:=fun c o c1 c2 c3 c4 e=>k c o (fun z=>by subst z;rcases m with m | m | m | m<;>contradiction) e
def nX.sq{k:Bool}{n l:Jc}{h h2:Jd}{xs:Array Ja}(a:nX n h h2)(hl:l<n)(x:sC k h l xs):sC k h2 l xs:=
 x.go fun o e=>a l o (Qp (Nat.lt_add_right 4 hl)) (Qp (Nat.lt_add_right 3 hl)) (Qp hl) (Qp (Xk hl)) e
def zIG(n:Jc):n+3≠n+4/\n+2≠n+4/\n≠n+4/\n+1≠n+4/\n+2≠n+3/\n≠n+3/\n+1≠n+3/\n+2≠n/\n+1≠n/\n+2≠n+1:=by
 refine⟨?_,?_,?_,?_,?_,?_,?_,?_,?_,?_⟩<;>(intro z;have z':(_:Nat)=_:=z;omega)
def xE.fld{f0:Ja}{k1 k2:Bool}{l1 l2 n:Jc}{j1 j2:Nat}{h h2:Jd}(g:xE f0 k1 k2 l1 l2 n j1 j2 h){f1:Ja}(z:IsZip h2 (n+4) (n+2) (n+3) f1)(s:Heap.ExtBut (n+4) h h2):xE f1 k1 k2 l1 l2 n j1 j2 h2:=by
 obtain⟨_,g2,⟨a,b,g3⟩,g4,g5⟩:=g;obtain⟨e1,e2,e3,e4,_⟩:=zIG n;exact⟨z,s _ _ e2 g2,⟨a,b,s _ _ e1 g3⟩,g4.go fun o e=>s _ o e3 e,g5.go fun o e=>s _ o e4 e⟩
def xE.it1{f0:Ja}{k1 k2:Bool}{l1 l2 n:Jc}{j1 j2 m:Nat}{h h2:Jd}(g:xE f0 k1 k2 l1 l2 n j1 j2 h)(z:zAq k1 h2 n l1 m)(s:Heap.ExtBut n h h2):xE f0 k1 k2 l1 l2 n m j2 h2:=by
 obtain⟨g1,g2,⟨a,b,g3⟩,_,g5⟩:=g;obtain⟨e1,e2,e3,e4,e5,e6,e7,e8,e9,_⟩:=zIG n;exact⟨s _ _ e3.symm g1,s _ _ e8 g2,⟨a,b,s _ _ e6.symm g3⟩,z,g5.go fun o e=>s _ o e9 e⟩
def xE.it2{f0:Ja}{k1 k2:Bool}{l1 l2 n:Jc}{j1 j2 m:Nat}{h h2:Jd}(g:xE f0 k1 k2 l1 l2 n j1 j2 h)(z:zAq k2 h2 (n+1) l2 m)(s:Heap.ExtBut (n+1) h h2):xE f0 k1 k2 l1 l2 n j1 m h2:=by
 obtain⟨g1,g2,⟨a,b,g3⟩,g4,_⟩:=g;obtain⟨e1,e2,e3,e4,e5,e6,e7,e8,e9,e10⟩:=zIG n;exact⟨s _ _ e4.symm g1,s _ _ e10 g2,⟨a,b,s _ _ e7.symm g3⟩,g4.go fun o e=>s _ o e9.symm e,z⟩
def xE.out{f0 a b:Ja}{k1 k2:Bool}{l1 l2 n:Jc}{j1 j2:Nat}{h h2:Jd}(g:xE f0 k1 k2 l1 l2 n j1 j2 h)(z:IsPair h2 (n+3) a b)(s:Heap.ExtBut (n+3) h h2):xE f0 k1 k2 l1 l2 n j1 j2 h2:=by
 obtain⟨g1,g2,_,g4,g5⟩:=g;obtain⟨e1,e2,e3,e4,e5,e6,e7,_⟩:=zIG n;exact⟨s _ _ e1.symm g1,s _ _ e5 g2,⟨a,b,z⟩,g4.go fun o e=>s _ o e6 e,g5.go fun o e=>s _ o e7 e⟩
def zSj{k1 k2:Bool}{n l1 l2:Jc}{j:Nat}{xs ys:Array Ja}{Q:PySem.Fin->Jb->Prop}(hh:A.handled=none)(b1:l1<n)(b2:l2<n)(g:xE .none k1 k2 l1 l2 n j j s.heap)(d1:sC k1 s.heap l1 xs)(d2:sC k2 s.heap l2 ys)
  (go:∀ x y,xs[j]?=some x->ys[j]?=some y->∀ h2,xE (rawInt s.heap.objs.size) k1 k2 l1 l2 n (j+1) (j+1) h2->IsPair h2 s.heap.objs.size x y->nX n s.heap h2->Q (.done (.ret (.ref s.heap.objs.size))) { s with heap:=h2 })
  (stop:xs[j]?=none∨ys[j]?=none->∀ h2 e,nX n s.heap h2->(∃ o,h2.get? e=some o/\o.cls=.type "StopIteration")->E (.ref e) { s with heap:=h2 }):
  wpAny (model prog w) A (Builtin.«zip.__next__» ⟨[.ref (n+4)],[]⟩) Q E s:=by
 have stopZ:∀ {h1:Jd} {e:Jc} {v:Ja} {k:Nat} {R:Unit->Jb->Prop},(xs[j]?=none∨ys[j]?=none)->nX n s.heap h1->IsZip h1 (n+4) (n+2) (n+3) .ellipsis->(∃ o,h1.get? e=some o/\o.cls=.type "StopIteration")->k<5->
   (∀ h3,nX n s.heap h3->(∃ o,h3.get? e=some o/\o.cls=.type "StopIteration")->R () { s with heap:=h3 })->wpAny (model prog w) A (setField (.ref (n+4)) k v) R E { s with heap:=h1 }:=by
  intro h1 e v k R q kz z he hk fin;obtain⟨oe,e1,e2⟩:=he;have nz:e≠n+4:=fun y=>by subst y;rw[z] at e1;cases e1;simp at e2
  exact wpAny_setField_rec z (by simpa using hk) fun h3 _ s3=>fin h3 (kz.then (.eb s3.extBut (.inl rfl))) ⟨oe,s3.extBut _ _ nz e1,e2⟩
 obtain⟨z0,t0,⟨a,b,p0⟩,_⟩:=id g;refine show wpAny _ _ (field _ 2 >>= _) _ _ s from Jq (wpAny_field z0 rfl (x:=.bool false) rfl (show wpAny _ _ (field _ 3 >>= _) _ _ s from Jq (wpAny_field z0 rfl (x:=.ref (n+2)) rfl (Jq (wpAny_seqItems t0 rfl (Jq ?_))))))
 unfold Builtin.SmallTypes.ownedTupleIsFree;refine Jq (wpAny_field z0 rfl (x:=.none) rfl (Jt ?_))
 simp only[if_true];refine Jq (wpAny_rule (Jq (wpAny_field z0 rfl (x:=.ref (n+3)) rfl (Jq (wpAny_setField_rec z0 (by simp) fun h1 z1 s1=>Jq ?_)))))
 have g1:xE .ellipsis k1 k2 l1 l2 n j j h1:=g.fld z1 s1.extBut;have k1':nX n s.heap h1:=.eb s1.extBut (.inl rfl);simp only[List.zipIdx_cons,List.zipIdx_nil,Uh,List.forIn_nil];refine Jq (Jq (wpAny_onRaise (show wpAny _ _ (Builtin.SmallTypes.nextOf _ >>= _) _ _ _ from Jq ?_)))
 cases q1:xs[j]? with
 | none=>
  refine zDO (s:={ s with heap:=h1 }) hh g1.2.2.2.1 (k1'.sq b1 d1) q1 fun h2 e x2 he=>stopZ (.inl q1) (k1'.then (.eb x2 (.inr (.inr (.inl rfl))))) (x2 _ _ (zIG n).2.2.1.symm g1.1) he (by decide) fun h3=>stop (.inl q1) h3 e
 | some x=>
  refine zCH (s:={ s with heap:=h1 }) g1.2.2.2.1 (k1'.sq b1 d1) q1 fun h2 i2 s2=>Jt ?_
  have g2:=g1.it1 i2 s2.extBut;have k2':=k1'.then (.eb s2.extBut (.inr (.inr (.inl rfl))));have p2:IsPair h2 (n+3) a b:=s2.extBut _ _ (zIG n).2.2.2.2.2.1.symm (s1.extBut _ _ (zIG n).1 p0);refine Jq (wpAny_seqItems (s:={ s with heap:=h2 }) p2 rfl (Jq (wpAny_updateSeq_pair p2 fun h3 p3 s3=>Jq (wpAny_letGo (Jt ?_)))))
  have g3:=g2.out p3 s3.extBut;have k3':=k2'.then (.eb s3.extBut (.inr (.inl rfl)));refine Jq (Jq (wpAny_onRaise (show wpAny _ _ (Builtin.SmallTypes.nextOf _ >>= _) _ _ _ from Jq ?_)))
  cases q2:ys[j]? with
  | none=>
   refine zDO (s:={ s with heap:=h3 }) hh g3.2.2.2.2 (k3'.sq b2 d2) q2 fun h4 e x4 he=>stopZ (.inr q2) (k3'.then (.eb x4 (.inr (.inr (.inr rfl))))) (x4 _ _ (zIG n).2.2.2.1.symm g3.1) he (by decide) fun h5=>stop (.inr q2) h5 e
  | some y=>
   refine zCH (s:={ s with heap:=h3 }) g3.2.2.2.2 (k3'.sq b2 d2) q2 fun h4 i4 s4=>Jt ?_
   have g4:=g3.it2 i4 s4.extBut;have p4:IsPair h4 (n+3) x b:=s4.extBut _ _ (zIG n).2.2.2.2.2.2.1.symm p3;refine Jq (wpAny_seqItems (s:={ s with heap:=h4 }) p4 rfl (Jq (wpAny_updateSeq_pair p4 fun h5 p5 s5=>Jq (wpAny_letGo (Jt (Jt ?_))))))
   have p5:IsPair h5 (n+3) x y:=p5;have g5:=g4.out p5 s5.extBut;have k5':=(k3'.then (.eb s4.extBut (.inr (.inr (.inr rfl))))).then (.eb s5.extBut (.inr (.inl rfl)));have sz:h5.objs.size=s.heap.objs.size:=s5.1.trans (s4.1.trans (s3.1.trans (s2.1.trans s1.1)));refine Jq (wpAny_seqItems (s:={ s with heap:=h5 }) p5 rfl (Jq (wpAny_newTuple (show wpAny _ _ (Builtin.SmallTypes.ownedTupleHandOut _ (.ref h5.objs.size) >>= _) _ _ _ from Jq ?_))))
   unfold Builtin.SmallTypes.ownedTupleHandOut;refine Jq (wpAny_setField_rec (Heap.get?_push_of_some _ g5.1) (by simp) fun h7 z7 s7=>wpAny_setField_rec z7 (by simp) fun h8 z8 s8=>Jt ?_)
   have nz:h5.objs.size≠n+4:=Yk (Heap.lt_size g5.1);have x8:Heap.ExtBut (n+4) h5 h8:=fun c o c1 e=>s8.extBut _ _ c1 (s7.extBut _ _ c1 (Heap.get?_push_of_some _ e))
   have g8:xE (rawInt h5.objs.size) k1 k2 l1 l2 n (j+1) (j+1) h8:=g5.fld z8 x8;have t8:IsPair h8 h5.objs.size x y:=s8.extBut _ _ nz (s7.extBut _ _ nz (Heap.get?_push_size _ rfl));rw[sz] at g8 t8;show Q (.done (.ret (.ref h5.objs.size))) _
   rw[sz];exact go x y q1 q2 h8 g8 t8 (k5'.then (.eb x8 (.inl rfl)))
def zRu{k1 k2:Bool}{n l1 l2:Jc}{j:Nat}{xs ys:Array Ja}{Q:Option Ja->Jb->Prop}(hh:A.handled=none)(b1:l1<n)(b2:l2<n)(g:xE .none k1 k2 l1 l2 n j j s.heap)(d1:sC k1 s.heap l1 xs)(d2:sC k2 s.heap l2 ys)
  (go:∀ x y,xs[j]?=some x->ys[j]?=some y->∀ h2,xE (rawInt s.heap.objs.size) k1 k2 l1 l2 n (j+1) (j+1) h2->IsPair h2 s.heap.objs.size x y->nX n s.heap h2->Q (some (.ref s.heap.objs.size)) { s with heap:=h2 })
  (stop:xs[j]?=none∨ys[j]?=none->∀ h2,nX n s.heap h2->Q none { s with heap:=h2 }):wpAny (model prog w) A (pyNext (.ref (n+4))) Q E s:=by
 have ty:s.TypeIs (.ref (n+4)) "zip" := ⟨_,g.1,rfl⟩;unfold pyNext
 refine Jq (wpAny_attempt (wpAny_callSpecial?_slot (name:=Str.ofString "__next__") ty F.slot_zip_next (wpAny_call_entry F.slot_zip_next ty F.entry_zip_next
  (zSj hh b1 b2 g d1 d2 (fun x y q1 q2 h2 a1 a2 a3=>⟨_,rfl,Jt (go x y q1 q2 h2 a1 a2 a3)⟩) fun q h2 e k he=>?_) (F.args_zip_next_1 _))))
 obtain⟨o,eo,co⟩:=he;exact Jq (wpAny_isInstance (T := "StopIteration") (b:=true) ⟨o,eo,co⟩ isSubtype_stop (Jt (stop q h2 k)))
end
abbrev zO(k:Bool)(l:Jc):Obj:={ cls:=.type (itN k),data:=.fields #[.ref l,.int 0 0] }
abbrev zH2(k1 k2:Bool)(h:Jd)(l1 l2:Jc):Jd:=(h.push (zO k1 l1)).push (zO k2 l2)
abbrev zH3(k1 k2:Bool)(h:Jd)(l1 l2:Jc):Jd:=(zH2 k1 k2 h l1 l2).push { cls:=.type "tuple", data:=.seq #[.ref h.objs.size,.ref (h.push (zO k1 l1)).objs.size] }
abbrev zH4(k1 k2:Bool)(h:Jd)(l1 l2:Jc):Jd:=(zH3 k1 k2 h l1 l2).push { cls:=.type "tuple", data:=.seq #[.none,.none] }
abbrev zH5(k1 k2:Bool)(h:Jd)(l1 l2:Jc):Jd:=(zH4 k1 k2 h l1 l2).push { cls:=.type "zip", data:=.fields #[.none,.bool false,.bool false,.ref (zH2 k1 k2 h l1 l2).objs.size,.ref (zH3 k1 k2 h l1 l2).objs.size] }
def zJH(k1 k2:Bool)(l1 l2:Jc)(xs ys:Array Ja):Meets (Builtin.«zip.__new__» ⟨[.type "zip", .ref l1,.ref l2],[]⟩) (fun _ R s=>sC k1 s.heap l1 xs/\sC k2 s.heap l2 ys/\
  R (.ok (.ret (.ref (zH4 k1 k2 s.heap l1 l2).objs.size))) { s with heap:=zH5 k1 k2 s.heap l1 l2 }):=
 .of_wp fun prog w A R s h=>by
  obtain⟨hp,g,d,tk,os⟩:=s;obtain⟨hl1,hl2,h⟩:=h;have hsub:=sub_zip;have d1:sC k1 (Shared.heap ⟨hp,g,d,tk,os⟩) l1 xs:=hl1;have d2:sC k2 (Shared.heap ⟨hp.push { cls:=.type (itN k1),data:=.fields #[.ref l1,.int 0 0] },g,d,tk,os⟩) l2 ys:=hl2.go fun o e=>Heap.get?_push_of_some _ e
  wp_walk using yQ d1,yQ d2
  exact⟨_,rfl,h⟩
section
variable{prog:Je}{w:Jf}{A:Jg}{E:Ja->Jb->Prop}{s:Jb}
def zIE{k1 k2:Bool}{l1 l2:Jc}{xs ys:Array Ja}{Q:Ja->Jb->Prop}(d1:sC k1 s.heap l1 xs)(d2:sC k2 s.heap l2 ys)
  (h:∀ h2,xE .none k1 k2 l1 l2 s.heap.objs.size 0 0 h2->(∀ c o,s.heap.get? c=some o->h2.get? c=some o)->Q (.ref (s.heap.objs.size+4)) { s with heap:=h2 }):wpAny (model prog w) A (call (.type "zip") [.ref l1,.ref l2]) Q E s:=by
 refine callType_new F.called_zip (by decide) (F.typeCall_zip_2 _ _) (F.newCall_zip_2 _ _) (fun obj=>F.args_object_init_3 obj _ _) F.entry_zip_new (zJH k1 k2 l1 l2 xs ys) ⟨d1,d2,?_⟩
 have up:∀ {h:Jd} {a:Jc} {o ob:Obj},h.get? a=some o->(h.push ob).get? a=some o:=fun e=>Heap.get?_push_of_some _ e
 have m1:(s.heap.push (zO k1 l1)).objs.size=s.heap.objs.size+1:=Heap.size_push ..;have m2:(zH2 k1 k2 s.heap l1 l2).objs.size=s.heap.objs.size+2:=(Heap.size_push ..).trans (congrArg (·+1) m1);have m3:(zH3 k1 k2 s.heap l1 l2).objs.size=s.heap.objs.size+3:=(Heap.size_push ..).trans (congrArg (·+1) m2);have m4:(zH4 k1 k2 s.heap l1 l2).objs.size=s.heap.objs.size+4:=(Heap.size_push ..).trans (congrArg (·+1) m3);have r0:(zH5 k1 k2 s.heap l1 l2).get? s.heap.objs.size=some (zO k1 l1):=up (up (up (up (Heap.get?_push_size _ rfl))));have r1:(zH5 k1 k2 s.heap l1 l2).get? (s.heap.push (zO k1 l1)).objs.size=some (zO k2 l2):=up (up (up (Heap.get?_push_size _ rfl)));have r2:(zH5 k1 k2 s.heap l1 l2).get? (zH2 k1 k2 s.heap l1 l2).objs.size=some _:=up (up (Heap.get?_push_size _ rfl));have r3:(zH5 k1 k2 s.heap l1 l2).get? (zH3 k1 k2 s.heap l1 l2).objs.size=some _:=up (Heap.get?_push_size _ rfl);have r4:(zH5 k1 k2 s.heap l1 l2).get? (zH4 k1 k2 s.heap l1 l2).objs.size=some _:=Heap.get?_push_size _ rfl;rw[m1] at r1;rw[m1,m2] at r2;rw[m3] at r3;rw[m2,m3,m4] at r4;show _/\_
 rw[m4];exact⟨⟨_,r4,rfl⟩,h _ ⟨r4,r2,⟨_,_,r3⟩,.mk r0 rfl rfl,.mk r1 rfl rfl⟩ fun c o x=>up (up (up (up (up x))))⟩
end
section
variable{X:Cx}{Md:List (Jc×Obj)}{a:St}{H:Hp}{s:Jb}{h':Jd}{fp:List Jc}
def zIo{t':Nat}{p:Jc}{xs:List V}{us:List Ja}(I:Inv X Md a H s)(hf:∀ b∈fp,sM X Md H b)(k:∀ b o,b∉fp->s.heap.get? b=some o->h'.get? b=some o)
  (hp:s.heap.objs.size<=p) (ht:IsTup h' p us.toArray) (hv:dN xs us) (hz:xs.length<=sizeLine):Inv X Md a (upd H p (.tup xs)) { s with heap:=h',toks:=t' }:=by
 have hn:H p=none:=I.hok.fresh hp;have nf:∀ b u,H b=some u->b∉fp:=fun b u e z=>by rw[(hf b z).1] at e;cases e
 have np:∀ b u,H b=some u->upd H p (.tup xs) b=some u:=fun b u e=>by rw[aY (bB e hn)];exact e
 refine I.step (g':=s.gens) (d':=s.drawn) (ch:=fp) (fun b hb=>⟨(hf b hb).2.2.2.1,(hf b hb).2.1,(hf b hb).2.2.2.2.1,(hf b hb).2.2.2.2.2⟩) (fun b o _ _ hc e _=>k b o hc e) (fun b o _ _ hc e _=>⟨o.slots,k b o hc e⟩) (fun b o _ e n=>?_)
  (fun b o hc e=>⟨o,k b o hc e⟩) (fun b xs e=>np _ _ e) (fun b o u e=>np _ _ e) (fun b ps e=>⟨#[],by rw[np _ _ e];simp⟩) (fun m hm=>?_) (fun b u e=>?_) I.bare
 ·rw[aY (Qp (Qo (Heap.lt_size e) hp))];exact n
 ·obtain⟨o,es,ep,ho,r⟩:=hm
  exact⟨o,es,ep,k _ o (fun z=>(hf _ z).2.1 rfl) ho,r⟩
 ·by_cases hb:b=p
  ·subst hb
   rw[aW] at e;cases e
   exact⟨hz,us,hv,ht⟩
  ·rw[aY hb] at e
   refine(I.hok b u e).stay (fun c v hc q=>k c v ?_ q) (fun _ q=>np _ _ q) fun _ _ q=>np _ _ q
   rcases hc with z | z
   ·rw[z];exact nf b u e
   ·exact nf c _ z
def zHQ{t':Nat}(I:Inv X Md a H s)(hf:∀ b∈fp,sM X Md H b)(k:∀ b o,b∉fp->s.heap.get? b=some o->h'.get? b=some o):Inv X Md a H { s with heap:=h',toks:=t' }:=by
 have nf:∀ b u,H b=some u->b∉fp:=fun b u e z=>by rw[(hf b z).1] at e;cases e
 refine I.step (g':=s.gens) (d':=s.drawn) (ch:=fp) (fun b hb=>⟨(hf b hb).2.2.2.1,(hf b hb).2.1,(hf b hb).2.2.2.2.1,(hf b hb).2.2.2.2.2⟩) (fun b o _ _ hc e _=>k b o hc e) (fun b o _ _ hc e _=>⟨o.slots,k b o hc e⟩) (fun b o _ e n=>n)
  (fun b o hc e=>⟨o,k b o hc e⟩) (fun b xs e=>e) (fun b o u e=>e) (fun b ps e=>⟨#[],by rw[e];simp⟩) (fun m hm=>?_) (fun b u e=>?_) I.bare
 ·obtain⟨o,es,ep,ho,r⟩:=hm
  exact⟨o,es,ep,k _ o (fun z=>(hf _ z).2.1 rfl) ho,r⟩
 ·refine(I.hok b u e).stay (fun c v hc q=>k c v ?_ q) (fun _ q=>q) fun _ _ q=>q
  rcases hc with z | z
  ·rw[z];exact nf b u e
  ·exact nf c _ z
end
def SqK(k:Bool)(K:PySem.W.Frag)(H:Hp)(a:Jc)(xs:List V):Prop:=if k then SqL K H a xs else SqT K H a xs
def pG{k:Bool}{K:Fg_}{H H':Hp}(e:Same H H'){a:Jc}{xs:List V}(h:SqK k K H a xs):SqK k K H' a xs:=by
 cases k
 ·exact bR e h
 ·exact cM e h
section
variable{X:Cx}{Md:List (Jc×Obj)}{r:St}{H:Hp}{s:Jb}{k:Bool}{a:Jc}{xs ys:List V}
def sqI(I:Inv X Md r H s)(h:SqK k X.K H a xs):∃ its:List Ja,dN xs its/\sC k s.heap a its.toArray/\xs.length<=sizeLine:=by
 cases k
 ·obtain⟨its,rv,p,hz⟩:=I.tuple h
  exact⟨its,rv,p,hz⟩
 ·obtain⟨its,rv,p,hz⟩:=I.list h
  exact⟨its,rv,p.isList,hz⟩
def zCs(I:Inv X Md r H s)(h:SqK k X.K H a xs)(h':SqK k X.K H a ys):xs=ys:=by
 cases k
 ·exact I.tuple_inj h h'
 ·exact I.list_inj h h'
def sC.lt{h:Jd}{l:Jc}{xs:Array Ja}(x:sC k h l xs):l<h.objs.size:=by
 cases k<;>(obtain⟨o,e,_⟩:=x;exact Heap.lt_size e)
end
def Itz(K:PySem.W.Frag)(k1 k2:Bool)(a1 a2:Jc):It:=
  ⟨fun i H=>∃ xs ys x y,SqK k1 K H a1 xs/\SqK k2 K H a2 ys/\xs[i]?=some x/\ys[i]?=some y,
   fun i H v H'=>∃ p x y,v=.ref p/\H p=none/\H'=upd H p (.tup [x,y])/\(∀ xs,SqK k1 K H a1 xs->xs[i]?=some x)/\∀ ys,SqK k2 K H a2 ys->ys[i]?=some y,
   fun i H=>∃ xs ys,SqK k1 K H a1 xs/\SqK k2 K H a2 ys/\(xs.length<=i∨ys.length<=i)⟩
def zRP(k1 k2:Bool)(a1 a2 n:Jc)(i:Nat)(h:Jd):Prop:=xE .none k1 k2 a1 a2 n i i h
def nZ{h:Jd}{b:Jc}{o:Obj}{d:Data}(e:h.get? b=some o)(hd:o.data=d)(nd:∀ v,d≠.cell v):∃ o,h.get? b=some o/\∀ v,o.data≠.cell v:=⟨o,e,fun v z=>nd v (hd.symm.trans z)⟩
def zJT{P:Je}{w:Jf}{K:Fg_}{elts:List Expr}{x1:Nat}{tp:Pos}(k1 k2:Bool)(a1 a2 n:Jc)(l1:a1<n)(l2:a2<n):
  Turn P w K (.Tuple elts x1 tp) (Itz K k1 k2 a1 a2) [n+4,n+2,n+3,n,n+1] (n+4) (zRP k1 k2 a1 a2 n) where
 mem:=by simp
 obj:=fun i h st b hb=>by
  obtain⟨t1,t2,⟨a,b',t3⟩,t4,t5⟩:=st;obtain⟨o4,e4,_,d4⟩:=t4.get;obtain⟨o5,e5,_,d5⟩:=t5.get;simp only[Qe,Q7,or_false] at hb;rcases hb with rfl | rfl | rfl | rfl | rfl
  ·exact nZ t1 rfl fun v z=>by cases z
  ·exact nZ t2 rfl fun v z=>by cases z
  ·exact nZ t3 rfl fun v z=>by cases z
  ·exact nZ e4 d4 fun v z=>by cases z
  ·exact nZ e5 d5 fun v z=>by cases z
 keep:=fun i h h' st k=>by
  obtain⟨t1,t2,⟨a,b',t3⟩,t4,t5⟩:=st;exact⟨k _ (by simp) _ t1,k _ (by simp) _ t2,⟨a,b',k _ (by simp) _ t3⟩,t4.go fun o e=>k _ (by simp) o e,t5.go fun o e=>k _ (by simp) o e⟩
 item:=by
  intro X hP hw hK hc i Md s r H E I hf st hg;subst hP hw hK;obtain⟨xs,ys,x,y,q1,q2,hx,hy⟩:=hg;obtain⟨us,r1,s1,z1⟩:=sqI I q1;obtain⟨ws,r2,s2,z2⟩:=sqI I q2;obtain⟨u,hu,ru⟩:=r1.get hx;obtain⟨v,hv,rv⟩:=r2.get hy;have hu':us.toArray[i]?=some u:=by simpa using hu
  have hv':ws.toArray[i]?=some v:=by simpa using hv
  have st':=st;obtain⟨t1,t2,⟨a,b,t3⟩,t4,t5⟩:=st;refine zRu (I.ok.hd hc) l1 l2 st' s1 s2 (fun x' y' f1 f2 h' g' p' kz=>?_) (fun q=>?_)
  rotate_left
  ·rw[hu',hv'] at q;rcases q with q | q<;>cases q
  rw[hu'] at f1;cases f1
  rw[hv'] at f2;cases f2
  refine⟨_,rfl,wpAny_letOwnedTupleGo_zip (s:={ s with heap:=h' }) g'.1 fun h'' c1 c2=>?_⟩
  have zl:s.heap.objs.size≠n+4:=Yk (Heap.lt_size t1);have np:H s.heap.objs.size=none:=I.hok.fresh (Qd _)
  have I1:Inv X Md r (upd H s.heap.objs.size (.tup [x,y])) { s with heap:=h'',toks:=s.toks }:=zIo (us:=[u,v]) I hf (fun b o hb e=>by
    simp only[Qe,Q7,or_false,not_or] at hb
    exact c2.extBut b o hb.1 (kz b o hb.1 hb.2.2.1 hb.2.2.2.1 hb.2.2.2.2 e)) (Qd _) ⟨_,c2.extBut _ _ zl p',rfl,_,rfl⟩ (.cons ru (.cons rv .nil)) (show 2<=sizeLine by decide)
  refine⟨.ref s.heap.objs.size,_,I1,rfl,⟨_,x,y,rfl,np,rfl,fun zs hz=>by rw[zCs I hz q1];exact hx,fun zs hz=>by rw[zCs I hz q2];exact hy⟩,g'.fld c1 c2.extBut,fun b hb=>?_⟩
  ·obtain⟨o,e,_⟩:∃ o,s.heap.get? b=some o/\True:=by
    obtain⟨o4,e4,_⟩:=t4.get;obtain⟨o5,e5,_⟩:=t5.get;simp only[Qe,Q7,or_false] at hb;rcases hb with rfl | rfl | rfl | rfl | rfl
    ·exact⟨_,t1,trivial⟩
    ·exact⟨_,t2,trivial⟩
    ·exact⟨_,t3,trivial⟩
    ·exact⟨_,e4,trivial⟩
    ·exact⟨_,e5,trivial⟩
   rw[aY (Qp (Heap.lt_size e))];exact(hf b hb).1
 done:=by
  intro X hP hw hK hc i Md s r H E I hf st hg;subst hP hw hK;obtain⟨xs,ys,q1,q2,hl⟩:=hg;obtain⟨us,r1,s1,z1⟩:=sqI I q1;obtain⟨ws,r2,s2,z2⟩:=sqI I q2;have st':=st;obtain⟨t1,t2,⟨a,b,t3⟩,t4,t5⟩:=st;have e1:=r1.length;have e2:=r2.length;refine zRu (I.ok.hd hc) l1 l2 st' s1 s2 (fun x y f1 f2=>?_) fun _ h' b7=>⟨rfl,zHQ (t':=s.toks) I hf fun b o hb e=>?_⟩
  ·have m1:=(Qag.mp f1).1
   have m2:=(Qag.mp f2).1;rw[Qh] at m1 m2;omega
  ·simp only[Qe,Q7,or_false,not_or] at hb
   exact b7 b o hb.1 hb.2.2.1 hb.2.2.2.1 hb.2.2.2.2 e
 self:=fun _ _ _ _ _ st h=>wpAny_pyIter_zip st.1 h
abbrev eO(n:Jc):Obj:={ cls:=.type "enumerate", data:=.fields #[.none,.bool false,.ref n,rawInt 0,.none,.none] }
def zHh(k:Bool)(l:Jc)(xs:Array Ja):Meets (Builtin.«enumerate.__new__» ⟨[.type "enumerate", .ref l],[]⟩) (fun _ R s=>sC k s.heap l xs/\
  R (.ok (.ret (.ref (s.heap.push (zO k l)).objs.size))) { s with heap:=(s.heap.push (zO k l)).push (eO s.heap.objs.size) }):=
 .of_wp fun prog w A R s h=>by
  cases s with | mk hp g d tk os=>
  have d1:sC k (Shared.heap ⟨hp,g,d,tk,os⟩) l xs:=h.1;have fin:=h.2;have hsub:=sub_enumerate;obtain⟨ob,ho⟩:∃ ob,hp.get? l=some ob:=by cases k<;>(obtain⟨o,e,_⟩:=d1;exact⟨o,e⟩)
  clear h;wp_walk using AutoSeq1.wpAny_loadPart' ho
  refine wpAny_stack_any fun st=>Jt ?_
  split
  ·rename_i c _ _ _ _ _
   cases (c==Value.type "enumerate")<;>(wp_walk using AutoSeq1.wpAny_loadPart' ho,yQ d1;exact⟨_,rfl,fin⟩)
  ·wp_walk using AutoSeq1.wpAny_loadPart' ho,yQ d1
   exact⟨_,rfl,fin⟩
def zIe{prog:Je}{w:Jf}{A:Jg}{E:Ja->Jb->Prop}{s:Jb}{k:Bool}{l:Jc}{xs:Array Ja}{Q:Ja->Jb->Prop}(sq:sC k s.heap l xs)
  (h:∀ h2,IsEnum h2 (s.heap.objs.size+1) s.heap.objs.size 0 .none->zAq k h2 s.heap.objs.size l 0->(∀ c o,s.heap.get? c=some o->h2.get? c=some o)->Q (.ref (s.heap.objs.size+1)) { s with heap:=h2 }):
  wpAny (model prog w) A (call (.type "enumerate") [.ref l]) Q E s:=by
 refine callType_new F.called_enumerate (by decide) (F.typeCall_enumerate_1 _) (F.newCall_enumerate_1 _) (fun obj=>F.args_object_init_2 obj _) F.entry_enumerate_new (zHh k l xs) ⟨sq,?_⟩
 have m1:(s.heap.push (zO k l)).objs.size=s.heap.objs.size+1:=Heap.size_push ..;have r0:((s.heap.push (zO k l)).push (eO s.heap.objs.size)).get? s.heap.objs.size=some (zO k l):=Heap.get?_push_of_some _ (Heap.get?_push_size _ rfl);have r1:((s.heap.push (zO k l)).push (eO s.heap.objs.size)).get? (s.heap.push (zO k l)).objs.size=some (eO s.heap.objs.size):=Heap.get?_push_size _ rfl;show _/\_
 rw[m1] at r1 ⊢
 exact⟨⟨_,r1,rfl⟩,h _ r1 (.mk r0 rfl rfl) fun c o x=>Heap.get?_push_of_some _ (Heap.get?_push_of_some _ x)⟩
def Ite(K:PySem.W.Frag)(k:Bool)(a:Jc):It:=
  ⟨fun i H=>∃ xs x,SqK k K H a xs/\xs[i]?=some x,
   fun i H v H'=>∃ p x,v=.ref p/\H p=none/\H'=upd H p (.tup [.int i,x])/\∀ xs,SqK k K H a xs->xs[i]?=some x,
   fun i H=>∃ xs,SqK k K H a xs/\xs.length<=i⟩
def EnS(k:Bool)(a n:Jc)(i:Nat)(h:Jd):Prop:=(∃ old,IsEnum h (n+1) n i old)/\zAq k h n a i
def zGP{P:Je}{w:Jf}{K:Fg_}{elts:List Expr}{x1:Nat}{tp:Pos}(k:Bool)(a n:Jc)(l1:a<n):
  Turn P w K (.Tuple elts x1 tp) (Ite K k a) [n+1,n] (n+1) (EnS k a n) where
 mem:=by simp
 obj:=fun i h st b hb=>by
  obtain⟨⟨old,t1⟩,t2⟩:=st;obtain⟨o4,e4,_,d4⟩:=t2.get;simp only[Qe,Q7,or_false] at hb;rcases hb with rfl | rfl
  ·exact nZ t1 rfl fun v z=>by cases z
  ·exact nZ e4 d4 fun v z=>by cases z
 keep:=fun i h h' st k=>by
  obtain⟨⟨old,t1⟩,t2⟩:=st;exact⟨⟨old,k _ (by simp) _ t1⟩,t2.go fun o e=>k _ (by simp) o e⟩
 item:=by
  intro X hP hw hK hc i Md s r H E I hf st hg;subst hP hw hK;obtain⟨xs,x,q1,hx⟩:=hg;obtain⟨us,r1,s1,z1⟩:=sqI I q1;obtain⟨u,hu,ru⟩:=r1.get hx;obtain⟨⟨old,t1⟩,t2⟩:=st;have hi:i<us.toArray.size:=by simpa using (Ve.mp hu).1
  have en:n+1∉[n,a]:=fun z=>by
   rcases Qe.mp z with z | z
   ·exact We n z
   ·exact Yk (Xk l1) (Qu.mp z)
  have D:=zNR (prog:=X.prog) (w:=X.w) (A:=X.A.in1) (k:=k) (I.ok.hd hc) n a (Qp l1) us.toArray;refine wpAny_pyNext_enum_itemD D t1 ⟨t2,s1⟩ hi (We n) en fun v h' tk b0 b1 b2 b3 _ b7=>⟨_,rfl,wpAny_letOwnedTupleGo_enum (s:={ s with heap:=h',toks:=tk+1 }) b1 fun h'' c1 c2=>?_⟩
  have hv:v=u:=by
   have:us.toArray[i]?=some u:=by simpa using hu
   rw[this] at b0;cases b0;rfl
  subst hv;have zl:s.heap.objs.size≠n+1:=Yk (Heap.lt_size t1);have np:H s.heap.objs.size=none:=I.hok.fresh (Qd _)
  have I1:Inv X Md r (upd H s.heap.objs.size (.tup [.int i,x])) { s with heap:=h'',toks:=tk+1 }:=zIo (us:=[.int i tk,v]) I hf (fun b o hb e=>by
    simp only[Qe,Q7,or_false,not_or] at hb
    exact c2.extBut b o hb.1 (b7 b o hb.1 hb.2 e)) (Qd _) ⟨_,c2.extBut _ _ zl b3,rfl,_,rfl⟩ (.cons ⟨_,rfl⟩ (.cons ru .nil)) (show 2<=sizeLine by decide)
  refine⟨.ref s.heap.objs.size,_,I1,rfl,⟨_,x,rfl,np,rfl,fun zs hz=>by rw[zCs I hz q1];exact hx⟩,⟨⟨v,by simpa using c1⟩,b2.1.go fun o e=>c2.extBut _ o (Qp (X9 n)) e⟩,fun b hb=>?_⟩
  obtain⟨o,e,_⟩:∃ o,s.heap.get? b=some o/\True:=by
   obtain⟨o4,e4,_⟩:=t2.get;simp only[Qe,Q7,or_false] at hb;rcases hb with rfl | rfl
   ·exact⟨_,t1,trivial⟩
   ·exact⟨_,e4,trivial⟩
  rw[aY (Qp (Heap.lt_size e))];exact(hf b hb).1
 done:=by
  intro X hP hw hK hc i Md s r H E I hf st hg;subst hP hw hK;obtain⟨xs,q1,hl⟩:=hg;obtain⟨us,r1,s1,z1⟩:=sqI I q1;obtain⟨⟨old,t1⟩,t2⟩:=st;have e1:=r1.length;have hT:s.TypeIs (.ref (n+1)) "enumerate" := ⟨_,t1,rfl⟩;unfold pyNext;refine Jq (wpAny_attempt (wpAny_callSpecial?_slot (name:=Str.ofString "__next__") hT F.slot_enumerate_next (wpAny_call_entry F.slot_enumerate_next hT F.entry_enumerate_next ?_ (F.args_enumerate_next_1 _))))
  show wpAny _ _ (field (.ref (n+1)) 2 >>= _) _ _ _
  refine Jq (wpAny_field t1 rfl (x:=.ref n) rfl ?_)
  refine Jq (zDO (I.ok.hd hc) t2 s1 (by simp;omega) fun h' x he' hx'=>?_)
  obtain⟨o,ho,hc⟩:=hx';refine Jq (wpAny_isInstance (T := "StopIteration") (b:=true) ⟨o,ho,hc⟩ isSubtype_stop ?_)
  refine Jt ⟨rfl,zHQ (t':=s.toks) I hf fun b o hb e=>?_⟩
  simp only[Qe,Q7,or_false,not_or] at hb;exact he' b o hb.2 e
 self:=fun _ _ _ _ _ st h=>Ma st.1.choose_spec h
section
unseal PEd PEf PTd PWd PAd PSd dO POd PGd gF PId PSx jK PTs PCd PCf
variable{X:Cx}{G:Gx}{fs:Fv}{f:Ev}
def iZp(K:PySem.W.Frag)(ta:TA):TI:=fun c H R=>ta c H fun vs H1=>∃ k1 k2 a1 a2 xs ys,vs=[.ref a1,.ref a2]/\SqK k1 K H1 a1 xs/\SqK k2 K H1 a2 ys/\R (Itz K k1 k2 a1 a2) H1
def zNO{a b:Expr}{ta:TA}{p pos:Pos}{elts:List Expr}{x1:Nat}{tp:Pos}(hg:Gl X "zip")(hm:X.mg "zip" = none)(ha:PA X [a,b] ta)
  (hs:starEach [a,b] X.env=[(false,eval a X.env),(false,eval b X.env)]:=by rfl) (hs2:starEach [b] X.env=[(false,eval b X.env)]:=by rfl):PI X (.Tuple elts x1 tp) (.Call (.Name "zip" p) [a,b] [] pos) (iZp X.K ta):=by
 intro Md s c H R I h;refine Call_ (oW I hg hm boot_zip (Ym (thn (ha pos Md s c H _ I h) fun us s1 ⟨vs,H1,I1,r1,q1⟩=>?_) (by rw[hs,hs2]) (by rw[hs2];rfl)))
 obtain⟨k1,k2,a1,a2,xs,ys,rfl,h1,h2,q⟩:=q1
 cases r1 with
 | cons r rr=>
  cases rr with
  | cons r' rr=>
   cases rr;cases r;cases r'
   obtain⟨us,rv,p1,z1⟩:=sqI I1 h1;obtain⟨ws,rw_,p2,z2⟩:=sqI I1 h2;refine zIE p1 p2 fun h' b1 b6=>wpAny_pyIter_zip (s:={ s1 with heap:=h' }) b1.1 ?_
   refine⟨s1.heap.objs.size+4,_,_,_,H1,rfl,I1.kept (t':=s1.toks) b6,zJT k1 k2 a1 a2 s1.heap.objs.size p1.lt p2.lt,b1,fun b hb=>?_,q⟩
   have hb':s1.heap.objs.size<=b:=by
    simp only[Qe,Q7,or_false] at hb;rcases hb with rfl | rfl | rfl | rfl | rfl<;>omega
   exact I1.fpOk hb' (I1.hok.fresh hb')
def zBc:∀(xs ys:List D)(i:Nat)(d:D),(lK xs ys)[i]?=some d->∃ a b,xs[i]?=some a/\ys[i]?=some b/\d=.tup [a,b]
 | a::r,b::q,0,d,h=>by cases h;exact⟨a,b,rfl,rfl,rfl⟩
 | a::r,b::q,i+1,d,h=>zBc r q i d h
 | [],_,i,d,h=>by cases i<;>cases h
 | a::r,[],i,d,h=>by cases i<;>cases h
def zBm:∀(xs ys:List D),(lK xs ys).length=min xs.length ys.length
 | a::r,b::q=>by
  have:=zBm r q
  simp only[lK,Qm,this];omega
 | [],_=>by simp[lK]
 | a::r,[]=>by simp[lK]
def zHE{K:Fg_}{Hi:Hp}{k1 k2:Bool}{a1 a2:Jc}{xs ys:List V}{ds es:List D}(h1:SqK k1 K Hi a1 xs)(h2:IsDs K Hi xs ds)(h3:SqK k2 K Hi a2 ys)(h4:IsDs K Hi ys es):
  wF K Hi (Itz K k1 k2 a1 a2) (lK ds es):=fun Hi1 H1 s1 s2 i=>by
 have g1:=pG (s1.trans s2) h1;have g3:=pG (s1.trans s2) h3;refine⟨fun hl=>⟨xs,ys,g1,g3,?_⟩,fun d hd=>?_⟩
 ·rw[zBm] at hl
  have e1:=h2.length;have e2:=h4.length;omega
 ·obtain⟨a,b,ha,hb,rfl⟩:=zBc ds es i d hd
  obtain⟨v,hv,rv⟩:=h2.at ha;obtain⟨w,hw,rw_⟩:=h4.at hb;refine⟨⟨xs,ys,v,w,g1,g3,hv,hw⟩,fun x H2 y=>?_⟩
  obtain⟨p,x',y',rfl,hp,rfl,y1,y2⟩:=y;have e1:=y1 xs g1;have e2:=y2 ys g3;rw[hv] at e1;cases e1
  rw[hw] at e2;cases e2
  have hi:=s2.none hp;have sm:=bZ hi (.tup [v,w]);exact⟨upd Hi1 p (.tup [v,w]),Ext.new s2 hp,.tup (.inl (.inl aW)) (.cons ((rv.mono s1).mono sm) (.cons ((rw_.mono s1).mono sm) .nil))⟩
def zRA{K:Fg_}{H:Hp}{v:V}{d:D}{ds:List D}(h:IsD K H v d)(e:zIx d=some ds):∃ k a xs,v=.ref a/\SqK k K H a xs/\IsDs K H xs ds:=by
 cases d with
 | lst es=>cases e;obtain⟨a,xs,rfl,h1,h2⟩:=h.lstI;exact⟨true,a,xs,rfl,h1,h2⟩
 | tup es=>cases e;obtain⟨a,xs,rfl,h1,h2⟩:=h.tupI;exact⟨false,a,xs,rfl,h1,h2⟩
 | _=>cases e
def zMq{a b:Expr}{p pos:Pos}{elts:List Expr}{x1:Nat}{tp:Pos}(hg:Gl X "zip")(hm:X.mg "zip" = none)(ha:PAd X G [a,b] fs)
  (hs:starEach [a,b] X.env=[(false,eval a X.env),(false,eval b X.env)]:=by rfl) (hs2:starEach [b] X.env=[(false,eval b X.env)]:=by rfl):
  PId X G (.Tuple elts x1 tp) (.Call (.Name "zip" p) [a,b] [] pos) (zNv fs):=PI.wk (zNO hg hm ha hs hs2) fun c H Q q=>by
 obtain⟨ρ,Hi,R,ou⟩:=q;refine zIy R ou fun vs ds Hi1 H1 e1 R1 r1 o1=>?_
 split at o1
 ·rename_i x y
  obtain⟨v,w,rfl,h,h'⟩:=r1.two;split at o1
  ·rename_i ds es q1 q2
   obtain⟨k1,a1,xs,rfl,g1,g2⟩:=zRA h q1;obtain⟨k2,a2,ys,rfl,g3,g4⟩:=zRA h' q2;exact⟨k1,k2,a1,a2,xs,ys,rfl,pG R1.s g1,pG R1.s g3,o1.here R1.s _ (zHE g1 g2 g3 g4)⟩
  ·exact o1.elim
 ·exact o1.elim
def iEn(K:PySem.W.Frag)(ta:TA):TI:=fun c H R=>ta c H fun vs H1=>∃ k a xs,vs=[.ref a]/\SqK k K H1 a xs/\R (Ite K k a) H1
def zMM{a:Expr}{ta:TA}{p pos:Pos}{elts:List Expr}{x1:Nat}{tp:Pos}(hg:Gl X "enumerate")(hm:X.mg "enumerate" = none)(ha:PA X [a] ta)(hs:starEach [a] X.env=[(false,eval a X.env)]:=by rfl):
  PI X (.Tuple elts x1 tp) (.Call (.Name "enumerate" p) [a] [] pos) (iEn X.K ta):=by
 intro Md s c H R I h;refine Call_ (oW I hg hm boot_enumerate (Ym (thn (ha pos Md s c H _ I h) fun us s1 ⟨vs,H1,I1,r1,q1⟩=>?_) hs rfl))
 obtain⟨k,t,xs,rfl,hq,q⟩:=q1
 cases r1 with
 | cons r rr=>
  cases rr;cases r;obtain⟨its,rv,pt,hz⟩:=sqI I1 hq;refine zIe pt fun h' b1 b2 b6=>Ma (s:={ s1 with heap:=h' }) b1 ?_
  refine⟨s1.heap.objs.size+1,_,_,_,H1,rfl,I1.kept (t':=s1.toks) b6,zGP k t s1.heap.objs.size pt.lt,⟨⟨_,b1⟩,b2⟩,fun b hb=>?_,q⟩
  have hb':s1.heap.objs.size<=b:=by
   simp only[Qe,Q7,or_false] at hb;rcases hb with rfl | rfl<;>omega
  exact I1.fpOk hb' (I1.hok.fresh hb')
def zBG:∀(xs:List D)(n i:Nat)(d:D),(iI n xs)[i]?=some d->∃ a,xs[i]?=some a/\d=.tup [.int ((n+i:Nat):Int),a]
 | a::r,n,0,d,h=>by cases h;exact⟨a,rfl,rfl⟩
 | a::r,n,i+1,d,h=>by
  obtain⟨b,h1,h2⟩:=zBG r (n+1) i d h;exact⟨b,h1,by rw[h2];congr 4;omega⟩
 | [],n,i,d,h=>by cases i<;>cases h
def zBI:∀(xs:List D)(n:Nat),(iI n xs).length=xs.length
 | a::r,n=>by simp only[iI,Qm,zBI r (n+1)]
 | [],n=>rfl
def wY{K:Fg_}{Hi:Hp}{k:Bool}{a:Jc}{xs:List V}{ds:List D}(h1:SqK k K Hi a xs)(h2:IsDs K Hi xs ds):wF K Hi (Ite K k a) (iI 0 ds):=fun Hi1 H1 s1 s2 i=>by
 have g1:=pG (s1.trans s2) h1;refine⟨fun hl=>⟨xs,g1,?_⟩,fun d hd=>?_⟩
 ·rw[zBI] at hl
  rw[h2.length];exact hl
 ·obtain⟨a,ha,rfl⟩:=zBG ds 0 i d hd
  obtain⟨v,hv,rv⟩:=h2.at ha;refine⟨⟨xs,v,g1,hv⟩,fun x H2 y=>?_⟩
  obtain⟨p,x',rfl,hp,rfl,y1⟩:=y;have e1:=y1 xs g1;rw[hv] at e1;cases e1
  have hi:=s2.none hp;rw[Q2];exact⟨upd Hi1 p (.tup [.int i,v]),Ext.new s2 hp,.tup (.inl (.inl aW)) (.cons (.int _) (.cons ((rv.mono s1).mono (bZ hi _)) .nil))⟩
def zKX{a:Expr}{p pos:Pos}{elts:List Expr}{x1:Nat}{tp:Pos}(hg:Gl X "enumerate")(hm:X.mg "enumerate" = none)(ha:PEd X G a f)(hst:starEach [a] X.env=[(false,eval a X.env)]:=by rfl):
  PId X G (.Tuple elts x1 tp) (.Call (.Name "enumerate" p) [a] [] pos) (zGm f):=PI.wk (zMM hg hm (gY ha mT (by rw[hst];rfl)) hst) fun c H Q q=>by
 obtain⟨ρ,Hi,R,ou⟩:=q;refine zDN R ou fun v d Hi1 H1 e1 R1 r1 o1=>?_
 cases d with
 | lst ds=>
  obtain⟨a,xs,rfl,h1,h2⟩:=r1.lstI;exact⟨true,a,xs,rfl,cM R1.s h1,o1.here R1.s _ (wY (k:=true) h1 h2)⟩
 | tup ds=>
  obtain⟨a,xs,rfl,h1,h2⟩:=r1.tupI;exact⟨false,a,xs,rfl,bR R1.s h1,o1.here R1.s _ (wY (k:=false) h1 h2)⟩
 | _=>exact o1.elim
end
end L3
namespace L3
open PySem PySem.Spec PyProof.Rows L2
unseal PEd PEf PTd PWd PAd PSd dO POd PGd gF PId PSx jK PTs PCd PCf
structure BlkOk2 (X:Cx) (xs:List Str) (scope:Scope):Prop where
 kind:scope.kind=.function
 cell:∀ y∈scope.names,y.2≠.cell
 loc:∀ x∈xs,scope.names.lookup x=some .local
 names:∀ y∈scope.names,y.2=.local->scope.names.lookup y.1=some .local
 fre:∀ p∈scope.names,p.2=.free->X.env.kindOf p.1=some .cell∨X.env.kindOf p.1=some .free
 oth:∀ y∈X.N,scope.names.lookup y≠some .local
def zBU(X:Cx)(xs:List Str)(scope:Scope)(C:Jc)(s₂:Jb)(H₂:Hp)(fp:List Jc):Cx:=
  { prog:=X.prog,w:=X.w,K:=X.K,mg:=X.mg,base:=X.base,A:=X.A,N:=X.N++xs,s₀:=s₂,H₀:=H₂,env:=compEnvC scope (zCe X.env scope.names []) C X.env,outer:=X.stack,stack:=X.stack,
    ex:=fp,fn:=fun _=>false,calm:=X.calm,pn:=X.pn,xe:=fun _ _=>False }
section
variable{X:Cx}{Md:List (Jc×Obj)}{r:St}{H:Hp}{s₂:Jb}{xs:List Str}{scope:Scope}{fp:List Jc}{D C:Jc}{h₁:Jd}
def BlkOk2.cl(B:BlkOk2 X xs scope)(I:Inv X Md r H s₂):∀ p∈scope.names,p.2=.free->∃ c,X.env.cells.lookup p.1=some c:=fun p hp e=>I.ok.has p.1 (B.fre p hp e)
def zOU(I:Inv X Md r H s₂)(B:BlkOk2 X xs scope)(hfp:∀ b∈fp,sM X Md H b)(hfl:∀ b∈fp,b<s₂.heap.objs.size)(hD:s₂.heap.objs.size<=D)(hC:s₂.heap.objs.size<=C)(hDC:D≠C)
  (old:∀ b o,s₂.heap.get? b=some o->h₁.get? b=some o) {n:Nat} (hacc:h₁.get? D=some { cls:=.type "list", data:=.seq ([]:List Ja).toArray n }) {m:Str->Option Ja} (hns:h₁.Ns C m) (t:Nat):
  Inv (zBU X xs scope C s₂ H fp) Md (r++xs.map fun _=>none) (upd H D (.lst [])) { s₂ with heap:=h₁,toks:=t }:=by
 have sub:=tZ scope.names [] (B.cl I) (fun y c e=>nomatch e)
 have old_lt:∀ {b:Jc} {o:Obj},s₂.heap.get? b=some o->b≠D/\b≠C:=fun e=>⟨Qp (Qo (Heap.lt_size e) hD),Qp (Qo (Heap.lt_size e) hC)⟩
 have free:∀ {b:Jc},b≠D->H b=none->upd H D (.lst []) b=none:=fun n e=>by rw[aY n];exact e
 refine⟨⟨I.ok.mod,B.kind,I.ok.glob,I.ok.blt,hC,fun y z c e1 e2=>I.ok.inj y z c (sub y c e1) (sub z c e2),fun y hy=>?_,fun y c e=>(nomatch e),I.ok.hd,I.ok.frames,.inl rfl,fun b hb=>⟨Qp (Qo (hfl b hb) hC),fun y c e=>(hfp b hb).2.2.2.2.1 y c (sub y c e)⟩,
  I.bs,Qn I.ok.bsz I.sz,fun b o e hb=>?_,fun b hb z=>?_,I.stack,I.stkFree⟩,rfl,I.bare,Un.laid old hD (I.hok.fresh hD),⟨m,hns,fun i y v e1 e2 e3=>?_⟩,fun y c e=>?_,free (Ne.symm hDC) (I.hok.fresh hC),fun y c e=>?_,fun p hp=>?_,I.hok.laid old hD ⟨Vl _,[],n,.nil,hacc⟩,?_⟩
 ·have:∃ k,(k=NameKind.cell∨k=NameKind.free)/\((relabel scope X.env).names).lookup y=some k:=hy.elim (fun h=>⟨_,.inl rfl,h⟩) fun h=>⟨_,.inr rfl,h⟩
  obtain⟨k,hk,e⟩:=this
  have e':(y,NameKind.free)∈scope.names:=by
   rcases cG e with z | ⟨_,z⟩
   ·rcases hk with rfl | rfl
    ·exact absurd rfl (B.cell _ (bU z))
    ·exact bU z
   ·exact bU z
  exact uQ scope.names [] y e'
 ·rcases (hfp b hb).2.2.2.1 with z | z
  ·exact I.ok.noex b o e z
  ·exact absurd (Qo (Heap.lt_size e) (Qn I.ok.bsz z)) (Vt _)
 ·rcases Qe.mp (I.stkSub b z) with w | w
  ·exact(hfp b hb).2.1 w
  ·exact(hfp b hb).2.2.1 w
 ·
  have hi:i<r.length:=by
   by_cases hi:i<r.length
   ·exact hi
   ·exfalso
    rw[Vu (by omega),Qr] at e2
    cases q:xs[i-r.length]? with
    | none=>rw[q] at e2;cases e2
    | some z=>rw[q] at e2;cases e2
  rw[Vk hi] at e2;have e1':(X.N++xs)[i]?=some y:=e1;rw[Vk (by rw[<-I.len];exact hi)] at e1'
  cases q:X.N[i]? with
  | none=>rw[q] at e1';cases e1'
  | some z=>
   rw[q] at e1';have hy:z=y:=Vd e1';have hz:z∈X.N:=Qg q;subst hy
   have fr:(z,NameKind.free)∈scope.names:=by
    rcases e3 with h | h | h
    ·rcases cG h with h | ⟨h,_⟩
     ·exact absurd h (B.oth z hz)
     ·cases h
    ·rcases cG h with h | ⟨_,h⟩
     ·exact absurd rfl (B.cell _ (bU h))
     ·exact bU h
    ·rcases cG h with h | ⟨h,_⟩
     ·exact bU h
     ·cases h
   have kd:=B.fre _ fr rfl;obtain⟨m0,hn0,hl⟩:=I.loc;obtain⟨u,ru,lk⟩:=hl i z v q e2 (kd.elim (fun h=>.inr (.inl h)) fun h=>.inr (.inr h))
   refine⟨u,ru,.inr ⟨?_,?_⟩⟩
   ·rcases e3 with h | h | h
    ·rcases cG h with h | ⟨h,_⟩
     ·exact absurd h (B.oth z hz)
     ·cases h
    ·exact .inl h
    ·exact .inr h
   ·rcases lk with⟨k1,_⟩ | ⟨_,c,hc,hcell⟩
    ·rcases kd with kd | kd<;>(rw[kd] at k1;cases k1)
    ·obtain⟨c',hc'⟩:=uQ (env:=X.env) scope.names [] z fr
     have:=sub z c' hc'
     rw[hc] at this;cases this;obtain⟨o,ho,hd⟩:=hcell;exact⟨c,hc',o,old _ _ ho,hd⟩
 ·obtain⟨v,o,ho,hd⟩:=I.cell y c (sub y c e)
  exact⟨v,o,old _ _ ho,hd⟩
 ·obtain⟨v,o,ho,hd⟩:=I.cell y c (sub y c e)
  exact free (old_lt ho).1 (I.freeC y c (sub y c e))
 ·obtain⟨e,n,ne,nf,d⟩:=I.pin p hp
  refine⟨old _ _ e,free (old_lt e).1 n,(old_lt e).2,fun z=>?_,d⟩
  rcases Qe.mp (I.stkSub _ z) with w | w
  ·exact ne w
  ·exact nf w
 ·show(r++xs.map fun _=>none).length=(X.N++xs).length
  rw[Qi,Qi,Qf,I.len]
end
def zCE{f:Ev}{ρ:Rho}{d:D}{ds es:List D}(h:fN f ρ (d::ds)=.ok es):
  ∃ a b e es',d=.tup [a,b]/\f (ρ++[.val a,.val b])=.ok e/\fN f ρ ds=.ok es'/\es=e::es':=by
 unfold fN at h;split at h
 ·cases ‹_=[]›
 ·rename_i a b ds' q
  cases q
  cases hf:noErr (f (ρ++[.val a,.val b])) with
  | no=>rw[hf] at h;cases h
  | err c=>rw[hf] at h;cases h
  | ok e=>
   rw[hf] at h
   cases hr:fN f ρ ds with
   | no=>simp only[Res.bind,hr] at h;cases h
   | err c=>simp only[Res.bind,hr] at h;cases h
   | ok es'=>
    simp only[Res.bind,hr] at h;cases h;exact⟨a,b,e,es',rfl,zH hf,rfl,rfl⟩
 ·cases h
def zAZ{f:Ev}{ρ:Rho}{c:Str}:∀ {ds:List D},fN f ρ ds≠.err c
 | []=>fun h=>by cases h
 | d::ds=>fun h=>by
  unfold fN at h;split at h
  ·cases ‹_=[]›
  ·rename_i a b ds' q
   cases q
   cases hf:noErr (f (ρ++[.val a,.val b])) with
   | no=>rw[hf] at h;cases h
   | err c=>cases q:f (ρ++[.val a,.val b])<;>(rw[q] at hf;cases hf)
   | ok e=>
    rw[hf] at h
    cases hr:fN f ρ ds with
    | no=>simp only[Res.bind,hr] at h;cases h
    | err c'=>exact zAZ hr
    | ok es'=>simp only[Res.bind,hr] at h;cases h
  ·cases h
section
variable{X:Cx}{G:Gx}{elt iter:Expr}{xa xb:Str}{pa pb tp pos:Pos}{x1:Nat}{scope:Scope}{it:Fv}{f:Ev}{k:Nat}
def zEE(hc:X.calm=true/\TB X.K X.mg G.Bi G.B)(hr:Room k X.A)(Bk:BlkOk2 X [xa,xb] scope)(hN:(X.N++[xa,xb]).Nodup)(hi:PId X G (.Tuple [.Name xa pa,.Name xb pb] x1 tp) iter it)
  (hb:∀(C:Jc)(s₂:Jb)(H₂:Hp)(fp:List Jc)(G':Gx),Good (zBU X [xa,xb] scope C s₂ H₂ fp) G' k->PEd (zBU X [xa,xb] scope C s₂ H₂ fp) G' elt f)
  (hs:∀ x,foldedSetIterable iter X.env x=pure x:=by intro _;rfl)
  {Md:List (Jc×Obj)} {s:Jb} {g:St} {H Hi:Hp} {ρ:Rho} {use:Option (Ja->Sem Unit)} {Q':Ja->Jb->Prop} {Qa:Jc->Hp->Prop} {cpos:Pos} (I:Inv X Md g H s) (R:kY X G Hi H g ρ)
  (ou:Out G Hi H ((xD it f) ρ) fun ds Hi' H'=>∀ a,zID X.K H Hi' H' a ds->Qa a H') (hend:zRv X Md g use Q' Qa):
  wpAny (model X.prog X.w) X.A (comprehension (.ListComp elt [⟨.Tuple [.Name xa pa,.Name xb pb] x1 tp,iter,[],0⟩] scope pos) scope X.env cpos (newList []) false (eval iter X.env) use) Q' X.xe s:=by
 refine J7 (use:=use) rfl hs (zKf (Bk.cl I)) Bk.kind Bk.names ?_
 refine thn (hi Md s g H (fun J H2=>∃ ds Hi2,Ext Hi H Hi2 H2/\wF X.K Hi2 J ds/\Out G Hi2 H2 (if ds.length<=16777215 then fN f ρ ds else .no) fun ds Hi' H'=>∀ a,zID X.K H Hi' H' a ds->Qa a H') I
  ⟨ρ,Hi,R,(Out.bind ou).imp fun ds Hi2 H2 e2 o2 J gv=>⟨ds,Hi2,e2,gv,o2⟩⟩) fun v s1 h1=>thn h1 fun itv s2 h2=>?_
 obtain⟨itA,fp,tn,J,H2,rfl,I2,T,st2,f2,ds,Hi2,e2,gv,ou2⟩:=h2
 have hlen:ds.length<=16777215:=by
  by_cases hlen:ds.length<=16777215
  ·exact hlen
  ·rw[Jk hlen] at ou2;exact ou2.elim
 rw[Jj hlen] at ou2
 cases hes:fN f ρ ds with
 | no=>rw[hes] at ou2;exact ou2.elim
 | err c=>exact absurd hes zAZ
 | ok es=>
  rw[hes] at ou2;have R2:kY X G Hi2 H2 g ρ:=R.grow e2;refine wpAny_newObj_type (wpAny_newFunctionEnv Bk.cell (by intro y hy;simp at hy) (fun h₁ hns₁ hsb₁=>?_) Bk.kind)
  dsimp only at hns₁ hsb₁ ⊢
  generalize hH2:s2.heap.push { cls:=.type "list", dict:=none,data:=.seq ([]:List Ja).toArray }=HP at hns₁ hsb₁ ⊢;have hC:HP.objs.size=s2.heap.objs.size+1:=by rw[<-hH2,Heap.size_push]
  have hDC:s2.heap.objs.size≠HP.objs.size:=by rw[hC];omega
  have ltC:∀ {b:Jc} {o:Obj},s2.heap.get? b=some o->b≠HP.objs.size:=fun e=>by rw[hC];exact Qp (Xk (Heap.lt_size e))
  have old:∀ b o,s2.heap.get? b=some o->h₁.get? b=some o:=fun b o e=>hsb₁.extBut b o (ltC e) (Heap.get?_push_of_some _ (hH2 ▸ Heap.get?_push_of_some _ e))
  have hacc:h₁.get? s2.heap.objs.size=some { cls:=.type "list", data:=.seq ([]:List Ja).toArray 0 }:=hsb₁.extBut _ _ hDC (Heap.get?_push_of_some _ (hH2 ▸ Heap.get?_push_size _ rfl));have hfl:∀ b∈fp,b<s2.heap.objs.size:=fun b hb=>by obtain⟨o,e,_⟩:=T.obj _ _ st2 b hb;exact Heap.lt_size e
  have IE:=zOU (t:=s2.toks+([]:List (Str×Ja)).length) I2 Bk f2 hfl (Qd _) (by rw[hC];omega) hDC old hacc hns₁
  have sub:=tZ scope.names [] (Bk.cl I2) (fun y c e=>nomatch e)
  have H2D:H2 s2.heap.objs.size=none:=I2.hok.fresh (Qd _);have HD:H s2.heap.objs.size=none:=e2.h.none H2D;have Hi2D:Hi2 s2.heap.objs.size=none:=e2.s.none H2D;generalize hX:zBU X [xa,xb] scope HP.objs.size s2 H2 fp=Y at IE
  have GY:Good Y ⟨G.B,G.Bi,fun _ _=>False⟩ k:=by
   subst hX;exact⟨hc.1,hr,fun Md g H s e s' _ h=>by obtain⟨_,_,_,_,_,c,_,z⟩:=h;exact z.elim,PassesOwn.never,hc.2⟩
  have hel:=(hX ▸ hb HP.objs.size s2 H2 fp ⟨G.B,G.Bi,fun _ _=>False⟩ (hX.symm ▸ GY):PEd Y ⟨G.B,G.Bi,fun _ _=>False⟩ elt f)
  have stat:∀ {H':Hp},(∀ b∈fp,H' b=none)->∀ b∈fp,sM Y Md H' b:=fun hn b hb=>by
   subst hX;refine⟨hn b hb,?_,fun z=>?_,.inl hb,fun y c e=>(f2 b hb).2.2.2.2.1 y c (sub y c e),(f2 b hb).2.2.2.2.2⟩
   ·show b≠HP.objs.size
    rw[hC];exact Qp (Xk (hfl b hb))
   ·rcases Qe.mp (I2.stkSub b z) with w | w
    ·exact(f2 b hb).2.1 w
    ·exact(f2 b hb).2.2.1 w
  have YN:Y.N.Nodup:=by subst hX;exact hN
  have Ya:Y.N[g.length]?=some xa:=by
   subst hX;show(X.N++[xa,xb])[g.length]?=some xa
   rw[Vu (by rw[I2.len];omega),I2.len,X8];rfl
  have Yb:Y.N[g.length+1]?=some xb:=by
   subst hX;show(X.N++[xa,xb])[g.length+1]?=some xb
   rw[Vu (by rw[I2.len];omega),I2.len,Qah];rfl
  have Yla:Y.env.scope.names.lookup xa=some .local:=by subst hX;exact J8 (Bk.loc xa (by simp))
  have Ylb:Y.env.scope.names.lookup xb=some .local:=by subst hX;exact J8 (Bk.loc xb (by simp))
  have asg:PG Y (.Tuple [.Name xa pa,.Name xb pb] x1 tp) (L2.zAd Y.K 2 (L2.eE (L2.gName g.length) (L2.eE (L2.gName (g.length+1)) L2.xK))):=
   zKe (by subst hX;exact hc.1) (yH (zCD YN Ya (.inl Yla) (.inr Yla)) (yH (zCD YN Yb (.inl Ylb) (.inr Ylb)) zGb))
  have Ye:Y.env=compEnvC scope (zCe X.env scope.names []) HP.objs.size X.env:=by subst hX;rfl
  have Yxe:∀ e s,¬ Y.xe e s:=by subst hX;exact fun _ _ h=>h
  have tn1:tn 0 h₁:=T.keep _ _ _ st2 fun b _ o e=>old b o e
  have loop:∀ s3:Jb,s3={ s2 with heap:=h₁,toks:=s2.toks+([]:List (Str×Ja)).length }->
    codeAny (model X.prog X.w) X.A (.compLoop (.ListComp elt [⟨.Tuple [.Name xa pa,.Name xb pb] x1 tp,iter,[],0⟩] scope pos) 0 (.ref itA) (.ref s2.heap.objs.size) Y.env) (compPost (model X.prog X.w) X.A X.xe use Q' (.ref s2.heap.objs.size) HP.objs.size) s3:=by
   rintro s3 rfl
   subst hX
   have fr0:∀ b∈fp,upd H2 s2.heap.objs.size (.lst []) b=none:=fun b hb=>by
    rw[aY (Qp (hfl b hb))];exact(f2 b hb).1
   refine PyProof.Rows.LCp.codeAny_compLoop_pair (fun n s'=>∃ c:CW,n=ds.length-c.i/\CS (zBU X [xa,xb] scope HP.objs.size s2 H2 fp) Md g tn fp Hi2 H2 s2.heap.objs.size 2 (fun i=>fN f ρ (ds.drop i)) es c s') ?_ ds.length
    ⟨⟨0,[none,none],_,Hi2,[],[],es⟩,rfl,⟨IE,rfl,tn1,fr0,(Ext.refl e2.s).trans (Ext.newF e2.s H2D),aW,Hi2D,.nil,Qd _,hes,rfl⟩⟩
   ·rintro n s3 ⟨⟨i,vv,H3,Hi3,ys,done,rest⟩,rfl,I3,wd3,st3,fr3,e3,hD3,hiD3,rd3,hl3,hr3,hes3⟩
    dsimp only at I3 wd3 st3 fr3 e3 hD3 hiD3 rd3 hl3 hr3 hes3 ⊢
    obtain⟨v,v',rfl⟩:∃ v v',vv=[v,v']:=by
     match vv,wd3 with
     | [v,v'],_=>exact⟨v,v',rfl⟩
    obtain⟨w1,w2⟩:=gv Hi3 H3 e3.i e3.s i;have lift:∀ {j:Type} {m:Sem j} {Q':j->Jb->Prop} {E:Ja->Jb->Prop} {s':Jb},wpAny (model X.prog X.w) X.A m Q' (zBU X [xa,xb] scope HP.objs.size s2 H2 fp).xe s'->wpAny (model X.prog X.w) X.A m Q' E s':=fun h=>wpAny_mono h (fun _ _ z=>z) fun e s z=>(Yxe e s z).elim
    by_cases hlt:i<ds.length
    ·obtain⟨d,hd⟩:∃ d,ds[i]?=some d:=⟨_,Qj hlt⟩
     obtain⟨go,yl⟩:=w2 d hd
     have e4:ds.drop i=d::ds.drop (i+1):=by
      rw[Qj hlt] at hd;cases hd;exact Ug hlt
     rw[e4] at hr3;refine thn (T.item (zBU X [xa,xb] scope HP.objs.size s2 H2 fp) rfl rfl rfl hc.1 i Md s3 _ H3 _ I3 (stat fr3) st3 go) fun r s4 ⟨u,hru,h4⟩=>?_
     subst hru;refine thn h4 fun _ s5 h5=>?_
     obtain⟨xv,H5,I5,r5,y5,st5,fr5⟩:=h5;obtain⟨Hi5,e5,rd5⟩:=yl xv H5 y5;have I5':=I5.pinned (stat fr5) (T.obj _ _ st5);obtain⟨a,b,e,es',rfl,hf,hr4,hee⟩:=zCE hr3;obtain⟨pa',ps,rfl,hq,hps⟩:=rd5.tupI;obtain⟨va,vb,rfl,ra,rb⟩:=hps.two;refine lift (thn (asg _ s5 _ H5 _ u (fun g' H'=>g'=g++[some va,some vb]/\H'=H5) I5' r5 ⟨pa',_,rfl,bR (e3.trans e5).s hq,rfl,va,_,rfl,vb,_,rfl,rfl,?_,rfl⟩) fun _ s6 h6=>?_)
     ·rw[Wd _ _ (Qd _),X8,Wd _ _ (Xr _),Nat.succ_sub (Qd _),X8];rfl
     obtain⟨g6,H6,I6,rfl,rfl⟩:=h6;have E5:Ext Hi2 H2 Hi5 H6:=e3.trans e5
     have R5:kY (zBU X [xa,xb] scope HP.objs.size s2 H2 fp) ⟨G.B,G.Bi,fun _ _=>False⟩ Hi5 H6 (g++[some va,some vb]) (ρ++[.val a,.val b]):=by
      have:=Rel.snoc (Rel.snoc (R2.grow E5) ra) rb
      rw[V3,V3] at this;exact this
     obtain⟨hD5,hiD5⟩:=e5.out hD3 hiD3;have rd5':=rd3.mono e5.i
     have again:∀ {H8 Hi8:Hp} {ys':List V} {done' rest':List D} {s8:Jb},Inv (zBU X [xa,xb] scope HP.objs.size s2 H2 fp) (Md++tO fp s5.heap) (g++[some va,some vb]) H8 s8->Ext Hi2 H2 Hi8 H8->H8 s2.heap.objs.size=some (.lst ys')->Hi8 s2.heap.objs.size=none->IsDs X.K Hi8 ys' done'->done'.length<=i+1->
       fN f ρ (ds.drop (i+1))=.ok rest'->es=done'++rest'->∃ m,m<ds.length-i/\∃ c:CW,m=ds.length-c.i/\CS (zBU X [xa,xb] scope HP.objs.size s2 H2 fp) Md g tn fp Hi2 H2 s2.heap.objs.size 2 (fun i=>fN f ρ (ds.drop i)) es c s8:=fun {H8 Hi8 ys' done' rest' s8} I8 E8 a1 a2 a3 a4 a5 a6=>by
      refine⟨ds.length-(i+1),by omega,⟨i+1,[some va,some vb],H8,Hi8,ys',done',rest'⟩,rfl,⟨I8.unpinned,rfl,T.keep _ _ _ st5 fun b hb o e=>(I8.pin (b,o) (Q0 _ (Q0 _ (eR hb e)))).1,fun b hb=>?_,E8,a1,a2,a3,a4,a5,a6⟩⟩
      obtain⟨o,e,_⟩:=T.obj _ _ st5 b hb;exact(I8.pin (b,o) (Q0 _ (Q0 _ (eR hb e)))).2.1
     refine lift (thn (hel _ s6 _ H6 (fun w H'=>∃ Hi',Ext Hi5 H6 Hi' H'/\IsD X.K Hi' w e) I6 ⟨_,Hi5,R5,by rw[hf];exact fun Hi' H' ee w hw=>⟨Hi',ee,hw⟩⟩) fun u8 s8 h8=>?_)
     obtain⟨w8,H8,I8,r8,Hi8,e8,rw8⟩:=h8;obtain⟨hD8,hiD8⟩:=e8.out hD5 hiD5;have rdy:IsDs X.K Hi8 ys done:=rd5'.mono e8.i;refine lift (thn (pB (X:=(zBU X [xa,xb] scope HP.objs.size s2 H2 fp)) _ s8 _ H8 (.ref s2.heap.objs.size) [w8] (.ref s2.heap.objs.size) [u8] (fun _ H'=>H'=upd H8 s2.heap.objs.size (.lst (ys++[w8]))) I8 rfl (.cons r8 .nil) ⟨_,ys,w8,rfl,rfl,hD8,?_,rfl⟩) fun _ s9 h9=>?_)
     ·rw[rdy.length]
      exact Xe hl3 (Qo hlt (Qn hlen (by decide)))
     ·obtain⟨_,H9,I9,_,rfl⟩:=h9
      refine again I9 (Ext.rewrite (E5.trans e8) H2D hiD8 ⟨_,hD8⟩) aW hiD8 (rdy.snoc rw8) (by rw[Qi];exact Xi hl3) hr4 ?_
      rw[hes3,hee,V3];rfl
    ·rw[Yv (by omega),fN] at hr3
     cases hr3;refine thn (T.done (zBU X [xa,xb] scope HP.objs.size s2 H2 fp) rfl rfl rfl hc.1 i Md s3 _ H3 _ I3 (stat fr3) st3 (w1 (by omega))) fun r s4 ⟨hrn,I4⟩=>?_
     subst hrn;obtain⟨m4,hn4,_⟩:=I4.loc;have fC:H3 HP.objs.size=none:=I4.free;have nC:∀ b u,H3 b=some u->b≠HP.objs.size:=fun b u e z=>by rw[z,fC] at e;cases e
     have U4:=I4.base;refine hend HP.objs.size s2.heap.objs.size m4 s4 H3 hn4 (fun h' hs'=>?_) (I2.fpOk (by rw[hC];omega) fC) ?_
     ·have kp:∀ b o,b≠HP.objs.size->s4.heap.get? b=some o->h'.get? b=some o:=fun b o hb e=>hs'.extBut b o hb e
      refine Inv.call' I2 (ch:=fp) I4.os ⟨fun b o e n hb hx=>kp b o (ltC e) (U4.keep b o e n hb hx),fun b o e n hb hx=>?_,U4.free,fun b o e hx=>?_,U4.tups,U4.frzs,U4.tbls⟩ (fun b u e=>?_) I4.bare (fun b hb=>⟨(f2 b hb).2.2.2.1,(f2 b hb).2.1,(f2 b hb).2.2.2.2.1,(f2 b hb).2.2.2.2.2⟩)
      ·obtain⟨sl,q⟩:=U4.slot b o e n hb hx
       exact⟨sl,kp b _ (ltC e) q⟩
      ·obtain⟨o',q⟩:=U4.there b o e hx
       exact⟨o',kp b _ (ltC e) q⟩
      ·refine(I4.hok b u e).stay (fun c v hc q=>kp c v ?_ q) (fun _ q=>q) fun _ _ q=>q
       rcases hc with z | z
       ·rw[z];exact nC b u e
       ·exact nC c _ z
     ·refine ou2 Hi3 H3 e3 _ ⟨HD,hiD3,ys,hD3,?_⟩
      rw[hes3,Vn];exact rd3
  rw[Ye] at loop;exact J9 (loop _ rfl) (T.self _ 0 _ _ _ tn1 (loop _ rfl))
def zJr(hc:X.calm=true/\TB X.K X.mg G.Bi G.B)(hr:Room k X.A)(Bk:BlkOk2 X [xa,xb] scope)(hN:(X.N++[xa,xb]).Nodup)(hi:PId X G (.Tuple [.Name xa pa,.Name xb pb] x1 tp) iter it)
  (hb:∀(C:Jc)(s₂:Jb)(H₂:Hp)(fp:List Jc)(G':Gx),Good (zBU X [xa,xb] scope C s₂ H₂ fp) G' k->PEd (zBU X [xa,xb] scope C s₂ H₂ fp) G' elt f)
  (hs:∀ x,foldedSetIterable iter X.env x=pure x:=by intro _;rfl):PEf X G (.ListComp elt [⟨.Tuple [.Name xa pa,.Name xb pb] x1 tp,iter,[],0⟩] scope pos) (xD it f):=by
 intro Md s g H Q I w;obtain⟨ρ,Hi,R,ou⟩:=w;rw[eval_ListComp];refine zEE hc hr Bk hN hi hb hs (use:=none) (Qa:=fun a H'=>Q (.ref a) H') I R ou fun C A m s4 H3 hn hI _ q=>?_
 exact⟨m,hn,fun h' hs'=>⟨.ref A,H3,hI h' hs',rfl,q⟩⟩
def zMU(sc:Scope)(N:List Str)(xs:List Str)(scope:Scope):Bool:=
 scope.names.all (fun y=>y.2 != .cell) && xs.all (fun x=>scope.names.lookup x==some .local) && scope.names.all (fun y=>y.2 != .local || scope.names.lookup y.1==some .local)
  && scope.names.all (fun p=>p.2 != .free || (sc.names.lookup p.1==some .cell || sc.names.lookup p.1==some .free)) && N.all (fun y=>scope.names.lookup y != some .local)
def zLC{sc:Scope}{N xs:List Str}(hk:scope.kind=.function)(hsc:X.env.scope=sc)(hN:X.N=N)(h:zMU sc N xs scope=true):BlkOk2 X xs scope:=by
 unfold zMU at h;simp only[Vh] at h;obtain⟨⟨⟨⟨h1,h2⟩,h3⟩,h4⟩,h5⟩:=h;subst hN hsc;refine⟨hk,fun y hy e=>?_,fun x hx=>?_,fun y hy e=>?_,fun p hp e=>?_,fun y hy e=>?_⟩
 ·have:=Xf.mp h1 y hy
  rw[e] at this;cases this
 ·exact beq_iff_eq.mp (Xf.mp h2 x hx)
 ·have:=Xf.mp h3 y hy
  rw[e] at this;simpa using this
 ·have:=Xf.mp h4 p hp
  rw[e] at this;have q:X.env.scope.names.lookup p.1=some .cell∨X.env.scope.names.lookup p.1=some .free:=by simpa using this
  exact q
 ·have:=Xf.mp h5 y hy
  rw[e] at this;cases this
def zBn{sc:Scope}{N:List Str}(W:Good X G k)(hnd:(N++[xa,xb]).Nodup)(hk:scope.kind=.function)(hsc:X.env.scope=sc)(hN:X.N=N)(h:zMU sc N [xa,xb] scope=true)(hi:PId X G (.Tuple [.Name xa pa,.Name xb pb] x1 tp) iter it)
  (hb:∀(C:Jc)(s₂:Jb)(H₂:Hp)(fp:List Jc)(G':Gx),Good (zBU X [xa,xb] scope C s₂ H₂ fp) G' k->PEd (zBU X [xa,xb] scope C s₂ H₂ fp) G' elt f)
  (hs:∀ x,foldedSetIterable iter X.env x=pure x:=by intro _;rfl):PEf X G (.ListComp elt [⟨.Tuple [.Name xa pa,.Name xb pb] x1 tp,iter,[],0⟩] scope pos) (xD it f):=
 zJr ⟨W.calm,W.tb⟩ W.room (zLC hk hsc hN h) (hN ▸ hnd) hi hb hs
end
end L3
namespace L3
open PySem PySem.Spec PyProof.Rows L2
section
variable{prog:Je}{w:Jf}{A:Jg}{E:Ja->Jb->Prop}{s:Jb}
def zFS{t sl:Jc}{its:Array Ja}{vl vu:Ja}{lo hi:Option Int}{Q:Ja->Jb->Prop}(a:IsTup s.heap t its)(b:s.heap.IsSliceOf sl vl vu .none)(pl:IsPart vl lo)(pu:IsPart vu hi)
  (c:HT.sIx its.size 0 lo=0/\HT.sIx its.size its.size hi=its.size) (q:Q (.ref t) s):wpAny (model prog w) A (getItem (.ref t) (.ref sl)) Q E s:=by
 obtain⟨os,e1,e2,_⟩:=id b;have ty:s.TypeIs (.ref sl) "slice" := ⟨os,e1,e2⟩;unfold getItem;try with_reducible refine wpAny_holding ?_
 first | refine Jq (Jt ?_) | skip
 refine Jq (wpAny_sequenceKey a.typeIs (by decide) (Jq (wpAny_callSpecial?_slot (name:=Str.ofString "__getitem__") a.typeIs Y7 (wpAny_call_entry Y7 a.typeIs J1 ?_ (args_tuple_getitem _ _)))))
 refine show wpAny _ _ (Builtin.Tuple.tupleItemsOf (.ref t) >>= _) _ _ s from Jq (tupleItemsOf_ a (Jq (wpAny_typeOf ty ?_)))
 rw[Jj (by decide)];refine Jq (HT.sliceApplied_gen b pl pu ?_)
 show wpAny _ _ (if (((HT.sIx its.size 0 lo:Nat):Int)==0 && (1:Int)==1 && (HT.sIx its.size its.size hi-HT.sIx its.size 0 lo)==its.size)=true then _ else _) _ _ s
 rw[c.1,c.2,Jj (by simp)];refine Jq ?_
 unfold Builtin.Tuple.tupleIsExact
 first
  | refine Jq (wpAny_typeOf a.typeIs (Jt ?_))
  | refine Jq (wpAny_load a.choose_spec.1 (Jt ?_))
 rw[Jj (by first | decide | rfl)];exact Jq (wpAny_rule (Jt ⟨_,rfl,Jt q⟩))
end
section
variable{X:Cx}{G:Gx}{fs:Fv}{f:Ev}
def zSB(K:PySem.W.Frag):V->Option Int->Option Int->Hp->VK->Prop:=fun x lo hi H Q=>∃ a xs,x=.ref a/\SqT K H a xs/\(HT.sIx xs.length 0 lo=0/\HT.sIx xs.length xs.length hi=xs.length)/\Q (.ref a) H
def zJi:SlR X (zSB X.K):=by
 intro Md s b H x v vl vu lo hi sl Q I rx hs pl pu h;obtain⟨a,xs,rfl,hx,hw,q⟩:=h;cases rx;obtain⟨its,r,ht,hz⟩:=I.tuple hx;have hlen:its.toArray.size=xs.length:=by rw[Qh];exact r.length.symm
 exact⟨"tuple", _,PyProof.Rows.slot_tuple_getitem.lookup,ht.typeIs,zFS ht hs pl pu (by rw[hlen];exact hw) ⟨.ref a,H,I,rfl,q⟩⟩
unseal PEd PEf PTd PWd PAd PSd dO POd PGd gF PId PSx jK PTs PCd PCf
def zGz{e:Expr}{pos:Pos}{lo hi:Option Expr}{l h:Ov}{p2:Pos}(he:PEd X G e f)(hl:POd X G lo l)(hu:POd X G hi h):PEd X G (.Subscript e (.Slice lo hi none p2) pos) (zQx f l h):=
 PE.wk (zDX (SlR.or zHH (SlR.or zOX zJi)) he hl hu) fun b H Q q=>by
 obtain⟨ρ,Hi,R,ou⟩:=q;refine zDN R ou fun v d Hi1 H1 e1 R1 r1 o1=>?_
 refine zQg R1 o1 fun i Hi2 H2 e2 R2 o2=>?_
 refine zQg R2 o2 fun j Hi3 H3 e3 R3 o3=>?_
 have eh:=e1.h.trans (e2.h.trans e3.h);have ei:=e2.i.trans e3.i
 cases d with
 | lst ds=>
  obtain⟨a,xs,rfl,h1,h2⟩:=r1.lstI;refine .inl ⟨a,xs,rfl,cM (ei.trans R3.s) h1,fun p hp=>?_⟩
  exact o3 _ _ (Ext.new R3.s hp) (.ref p) (.lst (SqL.of aW) (((h2.cut i j).mono ei).mono (bZ (R3.s.none hp) _)))
 | tup ds=>
  obtain⟨a,xs,rfl,h1,h2⟩:=r1.tupI;by_cases z:HT.sIx xs.length 0 i=0/\HT.sIx xs.length xs.length j=xs.length
  ·refine .inr (.inr ⟨a,xs,rfl,bR (ei.trans R3.s) h1,z,?_⟩)
   have hc:=h2.cut i j
   have ew:zIB xs i j=xs:=by
    unfold zIB;rw[z.1,z.2,List.drop_zero,Wg,V6]
   rw[ew] at hc;exact o3.here R3.s (.ref a) (.tup (bR ei h1) (hc.mono ei))
  ·refine .inr (.inl ⟨a,xs,rfl,bR (ei.trans R3.s) h1,z,fun p hp=>?_⟩)
   exact o3 _ _ (Ext.new R3.s hp) (.ref p) (.tup (SqT.of aW) (((h2.cut i j).mono ei).mono (bZ (R3.s.none hp) _)))
 | _=>exact o3.elim
end
end L3
namespace L3
open PySem PySem.Spec PyProof.Rows L2
unseal PEd PEf PTd PWd PAd PSd dO POd PGd gF PId PSx jK PTs PCd PCf
end L3
namespace L3
open PySem PySem.Spec PyProof.Rows L2
local macro_rules | `(⋯)=>`(by omega)
def Iv(xs:Array Keyed)(i:Nat):Int:=match xs[i]? with
 | some p=>numOf p.2
 | none=>0
def zFB{xs ys:Array Keyed}{i j:Nat}(h:xs[i]?=ys[j]?):Iv xs i=Iv ys j:=by unfold Iv;rw[h]
def zPP{xs:Array Keyed}{a d:Nat}(ha:a<xs.size)(hd:d<=a)(k:Nat):Iv (bubble xs a d) k=if k=a-d then Iv xs a else if a-d<k/\k<=a then Iv xs (k-1) else Iv xs k:=by
 have e:=getElem?_bubble ha d hd k;by_cases c1:k=a-d
 ·rw[Jj c1] at e ⊢;exact zFB e
 ·rw[Jk c1] at e ⊢
  by_cases c2:a-d<k/\k<=a
  ·rw[Jj c2] at e ⊢;exact zFB e
  ·rw[Jk c2] at e ⊢;exact zFB e
def uV{xs:Array Keyed}{a b:Nat}(hb:b<=xs.size)(k:Nat):Iv (mirror xs a b ((b-a) / 2)) k=if a<=k/\k<b then Iv xs (a+b-1-k) else Iv xs k:=by
 have e:=getElem?_mirror_all (i:=a) hb k;by_cases c:a<=k/\k<b
 ·rw[Jj c] at e ⊢;exact zFB e
 ·rw[Jk c] at e ⊢;exact zFB e
structure Up (N:Nat) (xs:Array Keyed) (m:Nat):Prop where
 so:∀ i j,i<j->j<m->K xs i<K xs j∨K xs i=K xs j/\Iv xs i<Iv xs j
 lo:∀ i,i<m->Iv xs i<m
 hi:∀ i,m<=i->i<N->Iv xs i=i
def Up.le{N m:Nat}{xs:Array Keyed}(u:Up N xs m){i j:Nat}(h:i<=j)(hj:j<m):K xs i<=K xs j:=by
 by_cases c:i=j
 ·subst c;exact Xl _
 ·rcases u.so i j ⋯ hj with z | z
  ·exact Xs z
  ·exact Int.le_of_eq z.1
def Up.on{N m n:Nat}{xs:Array Keyed}(u:Up N xs m)(hn:n<=N)(hm:m<=n)(s:SortedTo xs n):Up N xs n where
 so i j l hj:=by
  by_cases c:j<m
  ·exact u.so i j l c
  ·have e:=u.hi j ⋯ ⋯
   have z:=s i j ⋯ hj
   have t:Iv xs i<Iv xs j:=by
    by_cases c2:i<m
    ·have:=u.lo i c2;omega
    ·have:=u.hi i ⋯ ⋯;omega
   rcases Int.lt_or_eq_of_le z with z | z
   ·exact .inl z
   ·exact .inr ⟨z,t⟩
 lo i hi:=by
  by_cases c:i<m
  ·have:=u.lo i c;omega
  ·have:=u.hi i ⋯ ⋯;omega
 hi i h1 h2:=u.hi i ⋯ h2
structure Dw (N:Nat) (xs:Array Keyed) (b:Nat):Prop where
 so:∀ i j,i<j->j<b->K xs j<K xs i∨K xs j=K xs i/\Iv xs j<Iv xs i
 lo:∀ i,i<b->Iv xs i<b
 hi:∀ i,b<=i->i<N->Iv xs i=i
structure Dq (N:Nat) (xs:Array Keyed) (b x:Nat):Prop extends Dw N xs b where
 bx:b<x
 eq:∀ i,b<=i->i<x->K xs i=K xs (x-1)
 gt:∀ i,i<b->K xs (x-1)<K xs i
def Dq.turn{N:Nat}{xs ys:Array Keyed}{b x:Nat}(d:Dq N xs b x)(hx:x<=N)(hk:∀ i,K ys i=K xs i)(hv:∀ i,Iv ys i=if b<=i/\i<x then Iv xs (b+x-1-i) else Iv xs i):Dw N ys x where
 so i j l hj:=by
  rw[hk,hk,hv,hv];by_cases c:j<b
  ·rw[Jk ⋯,Jk ⋯];exact d.so i j l c
  ·rw[d.eq j ⋯ hj,Jj ⋯,d.hi _ ⋯ ⋯]
   by_cases c2:i<b
   ·exact .inl (d.gt i c2)
   ·rw[d.eq i ⋯ ⋯,Jj ⋯,d.hi _ ⋯ ⋯]
    exact .inr ⟨rfl,by omega⟩
 lo i hi:=by
  rw[hv];split
  ·rw[d.hi _ ⋯ ⋯];omega
  ·have:=d.lo i ⋯;have:=d.bx;omega
 hi i h1 h2:=by rw[hv,Jk ⋯];exact d.hi i (by have:=d.bx;omega) h2
def Dw.next{N:Nat}{xs:Array Keyed}{x:Nat}(d:Dw N xs x)(hx:x<N)(h1:0<x)(h:∀ i,i<x->K xs x<K xs i):Dq N xs x (x+1) where
 toDw:=d
 bx:=by omega
 eq i a b:=by rw[show i=x+1-1 by omega]
 gt i hi:=by rw[show x+1-1=x by omega];exact h i hi
section
variable{prog:Je}{w:Jf}{A:Jg}{E:Ja->Jb->Prop}{s:Jb}{a₀:Array Keyed}
def zGW{st:SortSt}{n r:Nat}{Q:Option Nat->SortSt->Prop}(ik:IntKeys a₀)(hr:r<=a₀.size)(h1:1<=n)(hn:n<=r)(sb:SBase a₀ st)(d:Dw a₀.size (arrOf st) n)
  (h:∀ m st',SBase a₀ st'->1<=m->m<=r->Up a₀.size (arrOf st') m->Q (some m) st'):wpS (model prog w) A E s (tail3 n r) Q st:=by
 unfold tail3;have sz:n<=(arrOf st).size:=by rw[sb.size];omega
 refine Mb (wpS_reverse ?_)
 have sb2:SBase a₀ (setArr st (mirror (arrOf st) 0 n ((n-0) / 2))):=sb.setArr (mirror_perm ..)
 have up:Up a₀.size (mirror (arrOf st) 0 n ((n-0) / 2)) n:=by
  refine⟨fun i j l hj=>?_,fun i hi=>?_,fun i p q=>?_⟩
  ·rw[K_mirror sz,K_mirror sz,uV sz,uV sz,Jj ⋯,Jj ⋯,Jj ⋯,Jj ⋯]
   exact d.so _ _ ⋯ ⋯
  ·rw[uV sz,Jj ⋯];exact d.lo _ ⋯
  ·rw[uV sz,Jk ⋯];exact d.hi i p q
 exact Mb (wpS_ascLoop ik hr h1 hn sb2 (fun i j l hj=>up.le l hj) fun m m1 m2 sm _=>wpS_pure (h m _ sb2 ⋯ m2 (up.on ⋯ m1 sm)))
def zLp{st:SortSt}{b n r:Nat}{Q:DescSt->SortSt->Prop}(ik:IntKeys a₀)(hr:r<=a₀.size)(hn:n<=r)(hb:b+1=n)(sb:SBase a₀ st)(d:Dq a₀.size (arrOf st) b n)
  (h:∀ m q st',SBase a₀ st'->m<=r->q<m->Dq a₀.size (arrOf st') (m-(q+1)) m->Q (none,m,q) st'):wpS (model prog w) A E s (descLoop n r) Q st:=by
 unfold descLoop;refine wpS_forRange (I:=fun x c st'=>∃ q,c=(none,x,q)/\SBase a₀ st'/\q<x/\Dq a₀.size (arrOf st') (x-(q+1)) x) ?step ?fin ⟨0,rfl,sb,by omega,by rw[show n-(0+1)=b by omega];exact d⟩
 case fin=>
  rintro c st' ⟨q,rfl,sb',hq,d'⟩
  rw[show max n r=r by omega] at hq d' ⊢
  exact h r q st' sb' (Qd _) hq d'
 case step=>
  rintro x c st' nx xr ⟨q,rfl,sb',hq,d'⟩
  dsimp only
  have sz:x<=(arrOf st').size:=by rw[sb'.size];omega
  refine Mb (wpS_ltK sb' ik (show x<_ by omega) (show x-1<_ by omega) ?_)
  by_cases c1:K (arrOf st') x<K (arrOf st') (x-1)
  ·have all:∀ i,i<x->K (arrOf st') x<K (arrOf st') i:=fun i hi=>by
    by_cases c2:i<x-(q+1)
    ·exact Int.lt_trans c1 (d'.gt i c2)
    ·rw[d'.eq i ⋯ hi];exact c1
   rw[J5 c1];dsimp only
   rw[Jj rfl];by_cases c3:q > 0
   ·rw[Jj c3]
    have kk:=K_mirror_equal (i:=x-(q+1)) sz (fun k p1 p2=>d'.eq k p1 p2)
    refine Mb (wpS_reverse (wpS_pure ⟨0,rfl,sb'.setArr (mirror_perm ..),by omega,?_⟩))
    have dw:Dw a₀.size (mirror (arrOf st') (x-(q+1)) x ((x-(x-(q+1))) / 2)) x:=d'.turn ⋯ kk (uV sz)
    exact dw.next ⋯ ⋯ fun i hi=>by rw[kk,kk];exact all i hi
   ·rw[Jk c3]
    have q0:q=0:=by omega
    subst q0
    have dw:Dw a₀.size (arrOf st') x:=d'.turn ⋯ (fun _=>rfl) fun i=>by
     split
     ·rw[show x-(0+1)+x-1-i=i by omega]
     ·rfl
    exact wpS_pure ⟨0,rfl,sb',by omega,dw.next ⋯ ⋯ all⟩
  ·rw[Ji c1]
   dsimp only
   rw[Jk (by decide)];refine Mb (wpS_ltK sb' ik (show x-1<_ by omega) (show x<_ by omega) ?_)
   by_cases c4:K (arrOf st') (x-1)<K (arrOf st') x
   ·rw[J5 c4]
    dsimp only
    rw[Jj rfl];exact wpS_pure (h x q st' sb' ⋯ hq d')
   ·rw[Ji c4]
    dsimp only
    rw[Jk (by decide)];have ee:K (arrOf st') x=K (arrOf st') (x-1):=by omega
    refine wpS_pure ⟨q+1,rfl,sb',by omega,?_⟩
    rw[show x+1-(q+1+1)=x-(q+1) by omega];refine⟨d'.toDw,by omega,fun i p1 p2=>?_,fun i p1=>?_⟩
    ·rw[show x+1-1=x by omega]
     by_cases c5:i=x
     ·rw[c5]
     ·rw[ee];exact d'.eq i p1 ⋯
    ·rw[show x+1-1=x by omega,ee];exact d'.gt i p1
def zHk{st:SortSt}{n r:Nat}{Q:Option Nat->SortSt->Prop}(ik:IntKeys a₀)(hr:r<=a₀.size)(hn:n+1<=r)(sb:SBase a₀ st)(d:Dq a₀.size (arrOf st) n (n+1))
  (h:∀ m st',SBase a₀ st'->1<=m->m<=r->Up a₀.size (arrOf st') m->Q (some m) st'):wpS (model prog w) A E s (descPart n r) Q st:=by
 unfold descPart;refine Mb (wpS_lift (wpAny_rule ⟨rfl,?_⟩))
 refine Mb (zLp ik hr hn rfl sb d fun m q st' sb' mr hq d'=>?_)
 dsimp only
 have sz:m<=(arrOf st').size:=by rw[sb'.size];omega
 by_cases c:q > 0
 ·rw[Jj c]
  exact Mb (wpS_reverse (zGW ik hr ⋯ mr (sb'.setArr (mirror_perm ..)) (d'.turn ⋯ (K_mirror_equal sz fun k p1 p2=>d'.eq k p1 p2) (uV sz)) h))
 ·rw[Jk c]
  have q0:q=0:=by omega
  subst q0;refine zGW ik hr ⋯ mr sb' (d'.turn ⋯ (fun _=>rfl) fun i=>?_) h
  split
  ·rw[show m-(0+1)+m-1-i=i by omega]
  ·rfl
def zNW{st:SortSt}{r:Nat}{Q:Option Nat->SortSt->Prop}(ik:IntKeys a₀)(hr:r<=a₀.size)(h1:1<=r)(sb:SBase a₀ st)(h0:∀ i,i<a₀.size->Iv (arrOf st) i=i)
  (h:∀ m st',SBase a₀ st'->1<=m->m<=r->Up a₀.size (arrOf st') m->Q (some m) st'):wpS (model prog w) A E s (countRun' 0 r) Q st:=by
 have u1:Up a₀.size (arrOf st) 1:=⟨fun i j l hj=>by omega,fun i hi=>by have:=h0 i ⋯;omega,fun i _ z=>h0 i z⟩
 rw[countRun0_eq];refine Mb (wpS_ascLoop ik hr (Qd 1) h1 sb (fun i j l hj=>u1.le l hj) fun n n1 n2 sn no=>?_)
 have un:=u1.on (show n<=_ by omega) n1 sn
 dsimp only
 by_cases c:n=r
 ·rw[Jj (by simpa using c)]
  exact wpS_pure (h n st sb n1 n2 un)
 ·rw[Jk (by simpa using c)]
  have fl:K (arrOf st) n<K (arrOf st) (n-1):=no.resolve_left c;by_cases c2:n > 1
  ·rw[Jj c2]
   refine Mb (wpS_ltK sb ik (show 0<_ by omega) (show n-1<_ by omega) ?_)
   by_cases c3:K (arrOf st) 0<K (arrOf st) (n-1)
   ·rw[J5 c3]
    dsimp only
    rw[Jj rfl];exact wpS_pure (h n st sb n1 n2 un)
   ·rw[Ji c3]
    dsimp only
    rw[Jk (by decide)];have sz:n<=(arrOf st).size:=by rw[sb.size];omega
    have al:∀ k,0<=k->k<n->K (arrOf st) k=K (arrOf st) (n-1):=fun k _ hk=>by
     have p1:=sn 0 k ⋯ hk
     have p2:=sn k (n-1) ⋯ ⋯
     omega
    have kk:=K_mirror_equal (i:=0) sz al;have dq:Dq a₀.size (arrOf st) 0 n:=⟨⟨fun i j l hj=>by omega,fun i hi=>by omega,fun i _ z=>h0 i z⟩,by omega,fun i p1 p2=>al i p1 p2,fun i hi=>by omega⟩
    have dw:Dw a₀.size (mirror (arrOf st) 0 n ((n-0) / 2)) n:=dq.turn ⋯ kk (uV sz)
    refine Mb (wpS_reverse (zHk ik hr ⋯ (sb.setArr (mirror_perm ..)) (dw.next ⋯ ⋯ fun i hi=>?_) h))
    rw[kk,kk,al i ⋯ hi];exact fl
  ·rw[Jk c2]
   have n0:n=1:=by omega
   subst n0;have dw:Dw a₀.size (arrOf st) 1:=⟨fun i j l hj=>by omega,fun i hi=>by have:=h0 i ⋯;omega,fun i _ z=>h0 i z⟩
   refine zHk ik hr ⋯ sb (dw.next ⋯ ⋯ fun i hi=>?_) h
   rw[show i=1-1 by omega];exact fl
def zOR{st:SortSt}{n m:Nat}{Q:Bool->SortSt->Prop}(ik:IntKeys a₀)(hn:n<=a₀.size)(h1:1<=m)(hm:m<=n)(sb:SBase a₀ st)(u:Up a₀.size (arrOf st) m)
  (h:∀ st',SBase a₀ st'->Up a₀.size (arrOf st') n->Q true st'):wpS (model prog w) A E s (binarySort' 0 n m) Q st:=by
 rw[binarySort'_eq];simp only[Q2];refine Mb (wpS_mono (wpS_forRange (I:=fun k c st'=>c=(none,())/\SBase a₀ st'/\Up a₀.size (arrOf st') (min k n)) (Q:=fun c st'=>c=(none,())/\SBase a₀ st'/\Up a₀.size (arrOf st') n) ?step ?fin ⟨rfl,sb,by rw[show min (max m 1) n=m by omega];exact u⟩) ?post)
 case post=>
  rintro c st' ⟨rfl,sb',u'⟩
  exact wpS_pure (h st' sb' u')
 case fin=>
  rintro c st' ⟨hc,sb',u'⟩
  rw[show min (max (max m 1) n) n=n by omega] at u';exact⟨hc,sb',u'⟩
 case step=>
  rintro k c st' mk kn ⟨rfl,sb',u'⟩
  rw[show min k n=k by omega] at u';have ka:k<a₀.size:=by omega
  refine Mb (wpS_mono (wpS_forRange
   (I:=fun x c st2=>st2=st'/\∃ l r,c=(none,l,r)/\l<=r/\r<=k/\r-l<=k-x/\(∀ i,i<l->K (arrOf st') i<=K (arrOf st') k)/\∀ i,r<=i->i<k->K (arrOf st') k<K (arrOf st') i)
   (Q:=fun c st2=>st2=st'/\∃ l r,c=(none,l,r)/\l<=k/\(∀ i,i<l->K (arrOf st') i<=K (arrOf st') k)/\∀ i,l<=i->i<k->K (arrOf st') k<K (arrOf st') i) ?js ?jf ?ji) ?jp)
  case ji=>exact⟨rfl,0,k,rfl,by omega,by omega,by omega,fun i z=>by omega,fun i y z=>by omega⟩
  case jf=>
   rintro c st2 ⟨rfl,l,r,rfl,lr,rk,lx,f1,f2⟩
   have:l=r:=by omega
   subst this;exact⟨rfl,l,l,rfl,rk,f1,f2⟩
  case js=>
   rintro x c st2 _ xk ⟨rfl,l,r,rfl,lr,rk,lx,f1,f2⟩
   dsimp only
   by_cases c1:l ≥ r
   ·rw[Jj c1]
    have:l=r:=by omega
    subst this;exact wpS_pure ⟨rfl,l,l,rfl,rk,f1,f2⟩
   ·rw[Jk c1]
    refine Mb (wpS_ltK sb' ik ka (show(l+r) / 2<_ by omega) ?_)
    by_cases c2:K (arrOf st2) k<K (arrOf st2) ((l+r) / 2)
    ·rw[J5 c2]
     dsimp only
     rw[Jj rfl];exact wpS_pure ⟨rfl,l,(l+r) / 2,rfl,by omega,by omega,by omega,f1,fun i y z=>Int.lt_of_lt_of_le c2 (u'.le y z)⟩
    ·rw[Ji c2]
     dsimp only
     rw[Jk (by decide)];exact wpS_pure ⟨rfl,(l+r) / 2+1,r,rfl,by omega,by omega,by omega,fun i y=>Xv (u'.le (show i<=(l+r) / 2 by omega) ⋯) (Int.not_lt.mp c2),f2⟩
  case jp=>
   rintro c st2 ⟨rfl,l,r,rfl,lk,f1,f2⟩
   show wpS _ _ _ _ (do moveDown' k l;pure (ForInStep.yield (none,()))) _ _
   rw[moveDown'_eq];refine Mb (wpS_modify (wpS_pure ⟨rfl,sb'.setArr (bubble_perm ..),?_⟩))
   rw[show min (k+1) n=k+1 by omega];have sz:k<(arrOf st2).size:=by rw[sb'.size];exact ka
   have ik2:=u'.hi k (Qd _) ka;show Up a₀.size (bubble (arrOf st2) k (k-l)) (k+1)
   have kb:=fun i=>K_bubble sz (show k-l<=k by omega) i
   have vb:=fun i=>zPP sz (show k-l<=k by omega) i
   rw[show k-(k-l)=l by omega] at kb vb;refine⟨fun i j ij jk=>?_,fun i z=>?_,fun i y z=>?_⟩
   ·rw[kb,kb,vb,vb]
    by_cases e1:i=l
    ·rw[Jj e1,Jk (show j≠l by omega),Jj (show l<j/\j<=k by omega),Jj e1]
     exact .inl (f2 _ ⋯ ⋯)
    ·by_cases e2:j=l
     ·rw[Jk e1,Jk (show ¬ (l<i/\i<=k) by omega),Jj e2,Jk e1,Jk (show ¬ (l<i/\i<=k) by omega),Jj e2]
      have t:=u'.lo i ⋯
      rcases Int.lt_or_eq_of_le (f1 i ⋯) with z | z
      ·exact .inl z
      ·exact .inr ⟨z,by omega⟩
     ·rw[Jk e1,Jk e2,Jk e1,Jk e2]
      by_cases g1:l<i/\i<=k
      ·rw[Jj g1,Jj g1,Jj (show l<j/\j<=k by omega),Jj (show l<j/\j<=k by omega)]
       exact u'.so _ _ ⋯ ⋯
      ·rw[Jk g1,Jk g1]
       by_cases g2:l<j/\j<=k
       ·rw[Jj g2,Jj g2];exact u'.so _ _ ⋯ ⋯
       ·rw[Jk g2,Jk g2];exact u'.so _ _ ij ⋯
   ·rw[vb]
    split
    ·omega
    ·split
     ·have:=u'.lo (i-1) ⋯;omega
     ·have:=u'.lo i ⋯;omega
   ·rw[vb,Jk ⋯,Jk ⋯];exact u'.hi i ⋯ z
def zLA{st:SortSt}{Q:Unit->SortSt->Prop}(ik:IntKeys a₀)(sb:SBase a₀ st)(h2:2<=a₀.size)(h64:a₀.size<64)(h0:∀ i,i<a₀.size->Iv (arrOf st) i=i)
  (h:∀ st',(arrOf st').Perm a₀->failedOf st'=none->Up a₀.size (arrOf st') a₀.size->Q () st'):wpS (model prog w) A E s sortRuns' Q st:=by
 rw[sortRuns'_eq];refine Mb (wpS_get ?_)
 dsimp only
 have mr:minRun' a₀.size a₀.size 0=a₀.size:=by
  obtain⟨f,hf⟩:∃ f,a₀.size=f+1:=⟨a₀.size-1,by omega⟩
  have z:minRun' (f+1) a₀.size 0=a₀.size:=by rw[minRun'_succ,Jj h64,Uk]
  rw[<-hf] at z;exact z
 have fin:∀ st':SortSt,SBase a₀ st'->Up a₀.size (arrOf st') a₀.size->(fun st=>(arrOf st).Perm a₀/\failedOf st=none/\pendingOf st=#[(0,a₀.size,0)]/\Up a₀.size (arrOf st) a₀.size) (setPending st' ((pendingOf st').push (0,a₀.size,0))):=fun st' b u=>
  ⟨b.perm,b.failed,by show(pendingOf st').push _=_;rw[b.pend];rfl,u⟩
 simp only[sb.size,mr]
 refine Mb (wpS_mono (wpS_forRange
  (I:=fun x c st'=>(x=0/\c=(none,0)/\st'=st)∨(1<=x/\c=(none,a₀.size)/\(arrOf st').Perm a₀/\failedOf st'=none/\pendingOf st'=#[(0,a₀.size,0)]/\Up a₀.size (arrOf st') a₀.size))
  (Q:=fun c st'=>c=(none,a₀.size)/\(arrOf st').Perm a₀/\failedOf st'=none/\pendingOf st'=#[(0,a₀.size,0)]/\Up a₀.size (arrOf st') a₀.size) ?step ?fin (.inl ⟨rfl,rfl,rfl⟩)) ?post)
 case fin=>
  rintro c st' (⟨z,_,_⟩ | ⟨_,r⟩)
  ·omega
  ·exact r
 case step=>
  rintro x c st' _ hx (⟨rfl,rfl,rfl⟩ | ⟨_,rfl,r⟩)
  ·dsimp only
   rw[Jk ⋯];simp only[Wg,Yo,Q2];refine Mb (zNW ik (Qd _) ⋯ sb h0 fun m st2 sb2 m1 m2 u2=>?_)
   dsimp only
   by_cases c:m<a₀.size
   ·rw[Jj c]
    refine Mb (wpS_lift (wpAny_rule ⟨rfl,?_⟩))
    refine Mb (zOR ik (Qd _) m1 m2 sb2 u2 fun st3 sb3 u3=>?_)
    rw[Bool.not_true,Jk X3];refine Mb (wpS_get ?_)
    rw[show(pendingOf st3).back?=none by rw[sb3.pend];rfl];dsimp only
    exact Mb (wpS_modify (wpS_pure (.inr ⟨by omega,rfl,fin st3 sb3 u3⟩)))
   ·rw[Jk c]
    have mm:m=a₀.size:=by omega
    subst mm;refine Mb (wpS_get ?_)
    rw[show(pendingOf st2).back?=none by rw[sb2.pend];rfl];dsimp only
    exact Mb (wpS_modify (wpS_pure (.inr ⟨by omega,rfl,fin st2 sb2 u2⟩)))
  ·dsimp only
   rw[Jj (Qd _)];exact wpS_pure ⟨rfl,r⟩
 case post=>
  rintro c st' ⟨rfl,p1,p2,p3,p4⟩
  dsimp only
  refine Mb (wpS_mono (wpS_forRange (I:=fun _ c st2=>st2=st'/\c=(none,())) (Q:=fun c st2=>st2=st'/\c=(none,())) ?_ (fun _ _ z=>z) ⟨rfl,rfl⟩) ?_)
  ·rintro x c st2 _ _ ⟨rfl,rfl⟩
   refine Mb (wpS_get ?_)
   rw[Jj (by rw[p3];exact Qd 1)];exact wpS_pure ⟨rfl,rfl⟩
  ·rintro c st2 ⟨rfl,rfl⟩
   exact wpS_pure (h _ p1 p2 p4)
end
end L3
namespace L3
open PySem PySem.Spec PyProof.Rows L2
unseal PEd PEf PTd PWd PAd PSd dO POd PGd gF PId PSx jK PTs PCd PCf
local macro_rules | `(⋯)=>`(by omega)
section
variable{prog:Je}{w:Jf}{A:Jg}{E:Ja->Jb->Prop}{s:Jb}
def yW{r:Jc}{a b c:Int}{t u v:Tok}{n:Nat}{R:List Ja->Jb->Prop}(hh:A.handled=none)(hr:IsRange s.heap r a b c t u v)(hsmall:Builtin.Range.small a b c=true)(hn:Builtin.Range.rangeSize a b c=n)(hlen:n<=2^24)
  (h:∀ h' tk acc,(∀ b o,s.heap.get? b=some o->h'.get? b=some o)->s.heap.objs.size<=h'.objs.size->ItemsOf (fun i v=>∃ t,v=.int (a+i*c) t) acc n->R acc.toList { s with heap:=h',toks:=tk }):
  wpAny (model prog w) A (collect (.ref r)) R E s:=by
 unfold collect;refine Jq (wpAny_runValue (codeAny_builtin entry_proto_collect' ?_))
 rw[Around.under_plainId PySem.F.plain_proto_collect _];show wpAny _ A.in1 (newList [] >>= fun l=>again (.builtin "list.__iadd__" ⟨[l,.ref r],[]⟩)) _ _ s
 refine Jq (wpAny_newObj_type ?_)
 refine Jt ⟨plainId_quiet Qai _,codeAny_builtin entry_list_iadd' ?_⟩
 rw[Around.under_plainId Qai _];have hS₁:(s.heap.push { cls:=.type "list", data:=.seq ([]:List Ja).toArray }).get? s.heap.objs.size=some { cls:=.type "list", data:=.seq #[] }:=Heap.get?_push_size _ rfl;show wpAny _ A.in1 (Builtin.List.listExtendWith (.ref s.heap.objs.size) (.ref r) (.ref s.heap.objs.size)) _ _ _
 have key:=wpAny_extend_range (prog:=prog) (w:=w) (A:=A) (s:={ s with heap:=s.heap.push { cls:=.type "list", data:=.seq ([]:List Ja).toArray } })
  (R:=fun(q:Result) (s':Jb)=>∃(h':Jd)(tk:Nat)(acc':Array Ja)(c':Nat),q=.ok (.ret (.ref s.heap.objs.size))/\s'={ s with heap:=h',toks:=tk }/\
   (∀ b o,s.heap.get? b=some o->h'.get? b=some o)/\h'.get? s.heap.objs.size=some { cls:=.type "list", dict:=none,data:=.seq acc' c',slots:=#[] }/\ItemsOf (fun i v=>∃ t,v=.int (a+i*c) t) acc' n)
  hh (Heap.get?_push_of_some _ hr) hsmall hn hlen s.heap.objs.size (.ref s.heap.objs.size) 0 hS₁
  (fun h' tk acc' c' hk hS' hacc=>⟨h',tk,acc',c',rfl,rfl,fun b o e=>hk b o (Qp (Heap.lt_size e)) (Heap.get?_push_of_some _ e),hS',hacc⟩)
 refine wpAny_mono key (fun fin s' x=>?_) fun e s' x=>?_
 ·cases fin with
  | done f=>
   obtain⟨h',tk,acc',c',e,rfl,hk,hS',hacc⟩:=x;cases e;show wpAny _ A (load s.heap.objs.size >>= _) _ _ _
   refine Jq (wpAny_load hS' ?_)
   exact Jt (h h' tk acc' hk (X2 (Heap.lt_size hS')) hacc)
  | again c₁=>
   refine⟨x.1,codeAny_mono x.2 fun q s₂ y=>?_⟩
   obtain⟨h',tk,acc',c',rfl,rfl,hk,hS',hacc⟩:=y;show wpAny _ A (load s.heap.objs.size >>= _) _ _ _
   refine Jq (wpAny_load hS' ?_)
   exact Jt (h h' tk acc' hk (X2 (Heap.lt_size hS')) hacc)
 ·obtain⟨_,_,_,_,e',_⟩:=x
  cases e'
end
section
variable{X:Cx}{Md:List (Jc×Obj)}{σ:St}{H:Hp}{s:Jb}{A:Jg}{E:Ja->Jb->Prop}{a kS:Jc}{vs:List Ja}{kz:List Int}{keys:Array Ja}{e e1:Nat}{P:PySem.Fin->Jb->Prop}
def pA{h':Jd}{tk:Nat}(f:sM X Md H a)(I:Inv X Md σ H s)(sb:Heap.SameBut a s.heap h'):Inv X Md σ H { s with heap:=h',toks:=tk }:=by
 obtain⟨f0,f1,f2,f3,f4,f5⟩:=f;exact I.turned (fun b o hb e=>(sb.2 b hb).trans e) f0 f1 f3 f4 f5
def KsS(kz:List Int)(vs out:List Ja):Prop:=∃ ps:List (Int×Ja),ps.Perm (kz.zip vs)/\out=ps.map Prod.snd/\ps.Pairwise fun p q=>p.1<q.1∨p.1=q.1/\numOf p.2<numOf q.2
def zNd{xs:Array Keyed}{n:Nat}(hk:IntsAre keys.toList kz)(hp:xs.Perm (keys.zip vs.toArray))(up:Up n xs xs.size):KsS kz vs (xs.map (·.2)).toList:=by
 have hl:xs.toList.Perm (keys.toList.zip vs):=by
  have z:=Array.perm_iff_toList_perm.mp hp;rwa [Array.toList_zip,Wh] at z
 refine⟨xs.toList.map fun p=>(numOf p.1,p.2),?_,?_,?_⟩
 ·have z:=hl.map (fun p=>(numOf p.1,p.2))
  rw[<-hk.nums,List.zip_map_left];exact z
 ·rw[Array.toList_map,Qw];rfl
 ·rw[Wj,List.pairwise_iff_getElem]
  intro i j hi hj hij;rw[Xo] at hi hj;have z:=up.so i j hij hj;rw[K_eq hi,K_eq hj] at z;have iv:∀ k (h:k<xs.size),Iv xs k=numOf xs[k].2:=fun k h=>by unfold Iv;rw[getElem?_pos xs k h]
  rw[iv i hi,iv j hj] at z;exact z
def zKs(hsz:keys.size=vs.length)(hv:∀ (j:Nat) (v:Ja),vs[j]?=some v->∃ t,v=.int j t)(i:Nat)(hi:i<(keys.zip vs.toArray).size):Iv (keys.zip vs.toArray) i=i:=by
 have h2:i<vs.length:=by rw[Wk,hsz,Qh,Yo] at hi;exact hi
 obtain⟨t,ht⟩:=hv i _ (Qj h2);unfold Iv;rw[getElem?_pos _ i hi];show numOf ((keys.zip vs.toArray)[i]).2=_
 rw[Array.getElem_zip];show numOf (vs.toArray[i])=_
 rw[List.getElem_toArray,ht];rfl
def zFz{st:SortSt}(I:Inv X Md σ H s)(fa:sM X Md H a)(fk:sM X Md H kS)(hka:kS≠a)(nk:s.heap.get? kS=some (seqObj "list" keys e))(na:s.heap.get? a=some (seqObj "list" #[] e1))
  (hk:IntsAre keys.toList kz) (hlen:kz.length=vs.length) (h64:vs.length<64) (hp:(arrOf st).Perm (keys.zip vs.toArray)) {n:Nat} (hs:Up n (arrOf st) (arrOf st).size) (hfl:failedOf st=none)
  (h:∀ s' out c,Inv X Md σ H s'->s'.heap.get? a=some (seqObj "list" out c)->KsS kz vs out.toList->P (.done (.ret .none)) s'):
  wpAny (model X.prog X.w) A (ksk_tail a false e1 (.ref kS) st) P E s:=by
 have hsz:keys.size=vs.length:=by
  have h1:=hk.length;rw[Xo] at h1;omega
 have hsz2:(arrOf st).size=vs.length:=by rw[hp.size_eq,Wk,hsz,Qh,Yo]
 have hout:((arrOf st).map (·.2)).size=vs.length:=by rw[Array.size_map];exact hsz2
 have s1:=Heap.SameBut.update s.heap kS (Obj.mapSeq fun _=>(#[]:Array Ja))
 have na1:(s.heap.update kS (Obj.mapSeq fun _=>(#[]:Array Ja))).get? a=some (seqObj "list" #[] e1):=(s1.2 a hka.symm).trans na
 have s2:=Heap.SameBut.update (s.heap.update kS (Obj.mapSeq fun _=>(#[]:Array Ja))) a (Obj.mapSeq fun _=>(arrOf st).map (·.2))
 obtain⟨c2,hc2⟩:∃ c2,((s.heap.update kS (Obj.mapSeq fun _=>(#[]:Array Ja))).update a (Obj.mapSeq fun _=>(arrOf st).map (·.2))).get? a=some (seqObj "list" ((arrOf st).map (·.2)) c2):=
  ⟨_,get?_update_seq na1 fun _=>(arrOf st).map (·.2)⟩
 unfold ksk_tail;try dsimp only
 refine Jq (listUpdate_at nk rfl ?_ (by rw[hsz,Jv];omega) (Vl _))
 refine Jq (wpAny_letGo ?_)
 refine Jq (seqEpoch_at na1 rfl ?_)
 refine Jq (listUpdate_at na1 rfl ?_ (Vl _) (by simp only[Xj,if_false];exact Qn (Yc hout) (by rw[Jv];omega)))
 rw[hfl];simp only[bne_self_eq_false,Xj,if_false];have I1:Inv X Md σ H { s with heap:=s.heap.update kS (Obj.mapSeq fun _=>(#[]:Array Ja)) }:=pA fk (tk:=s.toks) I s1
 have I2:Inv X Md σ H { s with heap:=(s.heap.update kS (Obj.mapSeq fun _=>(#[]:Array Ja))).update a (Obj.mapSeq fun _=>(arrOf st).map (·.2)) }:=(by have z:=pA (tk:=s.toks) fa I1 s2;exact z)
 exact Jt (h _ _ c2 I2 hc2 (zNd hk hp hs))
def zPh(I:Inv X Md σ H s)(fa:sM X Md H a)(fk:sM X Md H kS)(hka:kS≠a)(nk:s.heap.get? kS=some (seqObj "list" keys e))(na:s.heap.get? a=some (seqObj "list" #[] e1))
  (hk:IntsAre keys.toList kz) (hlen:kz.length=vs.length) (h64:vs.length<64)
  (hv:∀(j:Nat)(v:Ja),vs[j]?=some v->∃ t,v=.int j t)
  (h:∀ s' out c,Inv X Md σ H s'->s'.heap.get? a=some (seqObj "list" out c)->KsS kz vs out.toList->P (.done (.ret .none)) s'):
  wpAny (model X.prog X.w) A (ksk_end a false vs.toArray e1 (.ref kS) keys) P E s:=by
 have hsz:keys.size=vs.length:=by
  have h1:=hk.length;rw[Xo] at h1;omega
 have hzs:(keys.zip vs.toArray).size=vs.length:=by rw[Wk,hsz,Qh,Yo]
 unfold ksk_end;try dsimp only
 simp only[Xj,if_false];by_cases h2:vs.toArray.size<2
 ·rw[Jj h2,Jj h2]
  refine Jq (Jt ?_)
  rw[StateT.run_pure];refine Jq (Jt ?_)
  try dsimp only
  rw[Qh] at h2;refine zFz (st:=SortSt.mk' general' (keys.zip vs.toArray) #[] 7 none) (n:=0) I fa fk hka nk na hk hlen h64 (Array.Perm.refl _) ⟨fun i j l hj=>?_,fun i hi=>?_,fun i _ z=>by omega⟩ rfl h
  ·have hj2:j<(keys.zip vs.toArray).size:=hj
   rw[hzs] at hj2;omega
  ·have z:=zKs hsz hv i hi
   show Iv (keys.zip vs.toArray) i<_
   rw[z];exact_mod_cast hi
 ·rw[Jk h2,Jk h2]
  rw[Qh] at h2;rw[ksk_kind hk (by rw[hsz];omega)];refine Jq (Jt ?_)
  refine Jq (wpAny_mono (zLA (a₀:=keys.zip vs.toArray) (st:=SortSt.mk' oneType' (keys.zip vs.toArray) #[] 7 none)
   (Q:=fun _ st'=>(arrOf st').Perm (keys.zip vs.toArray)/\failedOf st'=none/\Up (keys.zip vs.toArray).size (arrOf st') (keys.zip vs.toArray).size)
   (ksk_intKeys hk) ⟨Array.Perm.refl _,rfl,rfl,rfl⟩ (by rw[hzs];omega) (by rw[hzs];exact h64) (zKs hsz hv) fun st' a1 a2 a3=>⟨a1,a2,a3⟩) ?_ fun _ _ e=>e)
  rintro⟨⟨⟩,st'⟩ s' ⟨rfl,hp,hf,hs⟩
  try dsimp only
  exact zFz (n:=(keys.zip vs.toArray).size) I fa fk hka nk na hk hlen h64 hp (by rw[hp.size_eq];exact hs) hf h
def zLk{f:Ja}{e0:Nat}(I:Inv X Md σ H s)(fa:sM X Md H a)(fk:sM X Md H kS)(hka:kS≠a)(nk:s.heap.get? kS=some (seqObj "list" #[] e0))(na:s.heap.get? a=some (seqObj "list" #[] e1))
  (hlen:kz.length=vs.length) (h64:vs.length<64)
  (hv:∀(j:Nat)(v:Ja),vs[j]?=some v->∃ t,v=.int j t)
  (turn:∀(i:Nat)(v:Ja)(k:Int),vs[i]?=some v->kz[i]?=some k->∀(s':Jb)(pl:List (Jc×Obj)),Inv X (Md++pl) σ H s'->
   wpAny (model X.prog X.w) A (call f [v]) (fun u s''=>(∃ t,u=.int k t)/\Inv X (Md++pl) σ H s'') (fun _ _=>False) s')
  (h:∀ s' out c,Inv X Md σ H s'->s'.heap.get? a=some (seqObj "list" out c)->KsS kz vs out.toList->P (.done (.ret .none)) s'):
  wpAny (model X.prog X.w) A (ksk_rest a f false vs.toArray e1 (.ref kS)) P E s:=by
 unfold ksk_rest;refine Jq (wpAny_rule ?_)
 first
  | rw[List.forIn_toArray]
  | (rw[<-Array.forIn_toList];simp only[Wh])
  | rw[<-Array.forIn_toList]
 refine Jq (ksk_fold (fun i s'=>∃ kA e,Inv X Md σ H s'/\s'.heap.get? kS=some (seqObj "list" kA e)/\s'.heap.get? a=some (seqObj "list" #[] e1)/\IntsAre kA.toList (kz.take i)) vs 0 s
  ⟨#[],e0,I,nk,na,by simpa using IntsAre.nil⟩ ?step ?done)
 case step=>
  rintro j x s' hx ⟨kA,e,I',nk',na',hk⟩
  simp only[Q2] at hk ⊢
  have hj:j<vs.length:=(Ve.mp hx).1;obtain⟨k,hkj⟩:∃ k,kz[j]?=some k:=⟨_,Qj ⋯⟩
  have hz:kA.size<=vs.length:=by
   have h1:=hk.length;rw[Xo,Xb] at h1;omega
  have pin:∀ b∈[kS,a],∃ o,s'.heap.get? b=some o/\∀ v,o.data≠.cell v:=fun b hb=>by
   rcases Qe.mp hb with rfl | hb
   ·exact⟨_,nk',fun v z=>by have z':Data.seq _ _=Data.cell v:=z;cases z'⟩
   ·rw[Qu.mp hb];exact⟨_,na',fun v z=>by have z':Data.seq _ _=Data.cell v:=z;cases z'⟩
  have Ip:Inv X (Md++tO [kS,a] s'.heap) σ H s':=I'.pinned (fun b hb=>by
   rcases Qe.mp hb with rfl | hb
   ·exact fk
   ·rw[Qu.mp hb];exact fa) pin
  refine Jq (wpAny_attempt (wpAny_mono (turn j x k hx hkj s' _ Ip) (fun v s'' he=>?_) fun _ _ hF=>hF.elim))
  obtain⟨⟨t2,rfl⟩,I2p⟩:=he;try dsimp only
  have nk2:s''.heap.get? kS=some (seqObj "list" kA e):=(I2p.pin _ (Q0 _ (Q0 _ (eR (b:=kS) (by simp) nk')))).1
  have na2:s''.heap.get? a=some (seqObj "list" #[] e1):=(I2p.pin _ (Q0 _ (Q0 _ (eR (b:=a) (by simp) na')))).1
  have I2:Inv X Md σ H s'':=I2p.unpinned;have s1:=Heap.SameBut.update s''.heap kS (Obj.mapSeq (·.push (.int k t2)));obtain⟨c2,hc2⟩:∃ c2,(s''.heap.update kS (Obj.mapSeq (·.push (.int k t2)))).get? kS=some (seqObj "list" (kA.push (.int k t2)) c2):=⟨_,get?_update_seq nk2 (·.push (.int k t2))⟩;have ek:kz.take (j+1)=kz.take j++[k]:=by rw[List.take_add_one,hkj];simp
  have ea:(kA.push (Value.int k t2)).toList=kA.toList++[Value.int k t2]:=by simp
  refine Jq (listUpdate_at nk2 rfl ?_ (by rw[Jv];omega) (Qn (Yc (Array.size_push ..)) (by rw[Jv];omega)))
  exact Jt ⟨rfl,kA.push (.int k t2),c2,pA fk (tk:=s''.toks) I2 s1,hc2,(s1.2 a hka.symm).trans na2,by rw[ea,ek];exact ksk_snoc hk⟩
 case done=>
  rintro s' ⟨kA,e,I',nk',na',hk⟩
  have hk':IntsAre kA.toList kz:=by
   have e3:kz.take (0+vs.length)=kz:=Yw ⋯
   rw[e3] at hk;exact hk
  try dsimp only
  refine Jq (listItems_at nk' rfl ?_)
  exact zPh I' fa fk hka nk' na' hk' hlen h64 hv h
def oJ(v:Ja):Nat:=(numOf v).toNat
def zLi{out:List Ja}(hlen:kz.length=vs.length)(hv:∀ (j:Nat) (v:Ja),vs[j]?=some v->∃ t,v=.int j t)(h:KsS kz vs out):hG kz (out.map oJ)/\dN ((out.map oJ).map fun i:Nat=>V.int (i:Int)) out:=by
 obtain⟨ps,hp,ho,hs⟩:=h
 have at':∀ p,p∈kz.zip vs->∃(j:Nat)(t:Tok),p.2=.int j t/\kz[j]?=some p.1:=fun p hm=>by
  obtain⟨j,hj,e⟩:=List.mem_iff_getElem.mp hm;rw[Wl] at hj;rw[List.getElem_zip] at e;obtain⟨t,ht⟩:=hv j (vs[j]'⋯) (Qj _)
  refine⟨j,t,by rw[<-e];exact ht,by rw[<-e];exact Qj _⟩
 have n1:∀(j:Nat)(t:Tok),oJ (.int j t)=j:=fun j t=>by unfold oJ;show(Int.toNat (j:Int))=j;rfl
 have hvs:vs.map oJ=List.range kz.length:=by
  refine Y0 fun j=>?_
  rw[Qr];by_cases hj:j<vs.length
  ·obtain⟨t,ht⟩:=hv j _ (Qj hj)
   rw[Qj hj,ht,Xu ⋯];show some (oJ _)=_
   rw[n1]
  ·rw[Q3 ⋯,Q3 (by rw[Q9];omega)];rfl
 subst ho;refine⟨⟨?_,?_,?_⟩,?_⟩
 ·have h1:((ps.map Prod.snd).map oJ).Perm (((kz.zip vs).map Prod.snd).map oJ):=(hp.map _).map _
  rw[List.map_snd_zip ⋯,hvs] at h1;exact h1
 ·rw[Qw,Wj]
  refine Wm (fun {p q} hm hq hr=>?_) hs
  have hr':p.1<=q.1:=by rcases hr with z | z<;>omega
  obtain⟨i,t,e1,e2⟩:=at' p (hp.mem_iff.mp hm);obtain⟨j,u,e3,e4⟩:=at' q (hp.mem_iff.mp hq);show kz.getD (oJ p.2) 0<=kz.getD (oJ q.2) 0
  rw[e1,e3,n1,n1,Qq,Qq,e2,e4];exact hr'
 ·rw[Qw,Wj]
  refine Wm (fun {p q} hm hq hr=>?_) hs
  obtain⟨i,t,e1,e2⟩:=at' p (hp.mem_iff.mp hm);obtain⟨j,u,e3,e4⟩:=at' q (hp.mem_iff.mp hq);show kz.getD (oJ p.2) 0=kz.getD (oJ q.2) 0->oJ p.2<oJ q.2
  rw[e1,e3] at hr ⊢
  rw[n1,n1,Qq,Qq,e2,e4];intro z;have z':p.1=q.1:=z;rcases hr with y | y
  ·omega
  ·have:((i:Nat):Int)<(j:Nat):=y.2
   omega
 ·have go:∀ l:List Ja,(∀ v∈l,∃(j:Nat)(t:Tok),v=.int j t)->dN ((l.map oJ).map fun i:Nat=>V.int (i:Int)) l:=by
   intro l
   induction l with
   | nil=>intro _;exact .nil
   | cons v r ih=>
    intro hl;obtain⟨j,t,rfl⟩:=hl v (.head _);exact .cons ⟨t,by rw[n1]⟩ (ih fun u hu=>hl u (.tail _ hu))
  refine go _ fun v hv'=>?_
  obtain⟨p,hm,rfl⟩:=Qt.mp hv';obtain⟨j,t,e1,_⟩:=at' p (hp.mem_iff.mp hm);exact⟨j,t,e1⟩
def zIi{r q:Jc}{n:Nat}{t u v:Tok}{Q:Ja->Jb->Prop}(hc:X.calm=true)(I:Inv X Md σ H s)(hr:IsRange s.heap r 0 n 1 t u v)(h64:n<64)(hkz:kz.length=n)
  (turn:∀(j:Nat)(tk:Tok)(k:Int),kz[j]?=some k->∀(s':Jb)(pl:List (Jc×Obj)),Inv X (Md++pl) σ H s'->
   wpAny (model X.prog X.w) X.A.in1.in1 (call (.ref q) [.int j tk]) (fun u s''=>(∃ t,u=.int k t)/\Inv X (Md++pl) σ H s'') (fun _ _=>False) s')
  (h:∀ D s' out c π,Inv X Md σ H s'->sM X Md H D->s.heap.objs.size<=D->s'.heap.get? D=some (seqObj "list" out c)->hG kz π->dN (π.map fun i:Nat=>V.int (i:Int)) out.toList->Q (.ref D) s'):
  wpAny (model X.prog X.w) X.A (call (.builtin "sorted") [.ref r] [(Str.ofString "key", .ref q)]) Q E s:=by
 refine call_function_entry_kw kind_sorted plain_sorted entry_sorted (ksk_s1 _ _) ?_
 unfold Builtin.«sorted»
 refine Jq (m:=checkCount "sorted" 1 1 _) (Jt ?_)
 refine Jq (yW (n:=n) (A:=X.A.in1) (I.ok.hd hc) hr (small_one ⋯ ⋯ ⋯ ⋯) (by rw[rangeSize_one];split<;>omega) ⋯ fun h1 tk acc hk hsz hacc=>?_)
 have hl:acc.toList.length=n:=by rw[Xo];exact hacc.1
 refine Jq (wpAny_newList ?_ (by rw[hl,Jv];omega))
 have I1:Inv X Md σ H { s with heap:=h1,toks:=tk }:=I.kept hk;have fa:sM X Md H h1.objs.size:=I1.fpOk (Qd _) (I1.hok.fresh (Qd _));have I2:Inv X Md σ H { s with heap:=h1.push (seqObj "list" acc.toList.toArray 0),toks:=tk }:=I1.kept (t':=tk) fun b o e=>Heap.get?_push_of_some _ e
 have hoL:(h1.push (seqObj "list" acc.toList.toArray 0)).get? h1.objs.size=some (seqObj "list" acc.toList.toArray 0):=Heap.get?_push_size _ rfl;show wpAny _ _ _ _ _ { s with heap:=h1.push (seqObj "list" acc.toList.toArray 0),toks:=tk }
 refine Jq (wpAny_holding (wpAny_call_entry_kw slot_list_sort ⟨_,hoL,rfl⟩ entry_list_sort ?body (ksk_l1 _ _)))
 case body=>
  show wpAny (model X.prog X.w) X.A.in1.in1 (Builtin.«list.sort» ⟨[.ref h1.objs.size],[(Str.ofString "key", .ref q)]⟩) _ _ _
  rw[ksk_t1];have s3:=Heap.SameBut.update (h1.push (seqObj "list" acc.toList.toArray 0)) h1.objs.size (Obj.mapSeq fun _=>(#[]:Array Ja))
  obtain⟨e1,ho1⟩:∃ e1,((h1.push (seqObj "list" acc.toList.toArray 0)).update h1.objs.size (Obj.mapSeq fun _=>(#[]:Array Ja))).get? h1.objs.size=some (seqObj "list" #[] e1):=⟨_,get?_update_seq hoL fun _=>#[]⟩
  have I3:Inv X Md σ H { s with heap:=(h1.push (seqObj "list" acc.toList.toArray 0)).update h1.objs.size (Obj.mapSeq fun _=>(#[]:Array Ja)),toks:=tk }:=(by have z:=pA (tk:=tk) fa I2 s3;exact z)
  generalize hg3:(h1.push (seqObj "list" acc.toList.toArray 0)).update h1.objs.size (Obj.mapSeq fun _=>(#[]:Array Ja))=h3 at s3 ho1 I3
  unfold ksk_tree;refine Jq (listItems_at hoL rfl ?_)
  refine Jq (listUpdate_at hoL rfl ?_ (by rw[Qh,Jv];omega) (Vl _))
  show wpAny _ _ _ _ _ { s with heap:=(h1.push (seqObj "list" acc.toList.toArray 0)).update h1.objs.size (Obj.mapSeq fun _=>(#[]:Array Ja)),toks:=tk }
  rw[hg3];refine Jq (seqEpoch_at ho1 rfl ?_)
  refine Jq (wpAny_newTuple ?_ (by show acc.toList.toArray.toList.length<=_;rw[Jv,Wh];omega))
  refine Jq (wpAny_newList ?_ (Vl _))
  refine wpAny_holding ?_
  have I4:Inv X Md σ H { s with heap:=h3.push (seqObj "tuple" acc.toList.toArray 0),toks:=tk }:=I3.kept (t':=tk) fun b o e=>Heap.get?_push_of_some _ e
  have fk:sM X Md H (h3.push (seqObj "tuple" acc.toList.toArray 0)).objs.size:=I4.fpOk (Qd _) (I4.hok.fresh (Qd _));have I5:Inv X Md σ H { s with heap:=(h3.push (seqObj "tuple" acc.toList.toArray 0)).push (seqObj "list" #[] 0),toks:=tk }:=I4.kept (t':=tk) fun b o e=>Heap.get?_push_of_some _ e
  have ho4:(h3.push (seqObj "tuple" acc.toList.toArray 0)).get? h1.objs.size=some (seqObj "list" #[] e1):=Heap.get?_push_of_some _ ho1
  have hvv:∀(j:Nat)(v:Ja),acc.toList[j]?=some v->∃ t,v=.int j t:=fun j v' hj=>by
   obtain⟨tk',rfl⟩:=hacc.2 j v' (by rw[<-U5];exact hj)
   exact⟨tk',by congr 1;omega⟩
  refine zLk (vs:=acc.toList) (kz:=kz) (e0:=0) I5 fa fk (Yk (Heap.lt_size ho4)) (Heap.get?_push_size _ rfl) (Heap.get?_push_of_some _ ho4) (by rw[hkz,hl]) (by rw[hl];exact h64) hvv (fun i v' k hi hk' s' pl Ip=>?_) fun s' out c I' ho' ko=>?_
  ·obtain⟨tk',rfl⟩:=hacc.2 i v' (by rw[<-U5];exact hi)
   have e3:(0:Int)+(i:Int)*1=(i:Int):=by omega
   rw[e3];exact turn i tk' k hk' s' pl Ip
  ·obtain⟨hπ,hV⟩:=zLi (by rw[hkz,hl]) hvv ko
   exact⟨_,rfl,Jt ⟨_,rfl,h _ s' out c _ I' fa hsz ho' hπ hV⟩⟩
end
end L3
namespace L3
open PySem PySem.Spec PyProof.Rows L2 PySem.W
unseal PEd PEf PTd PWd PAd PSd dO POd PGd gF PId PSx jK PTs PCd PCf
def zSq:CXT:=fun _ _ _ _ _ _=>False
def cxL(P:Je)(w:Jf)(K:PySem.W.Frag)(mg:Str->Option Ja)(base:Jd)(N:List Str)(qual:Str)(scope:Scope)(f:Jc)(cd:Ja)(cl:List (Str×Jc))(A:Jg)(outer:List Env)(s:Jb)(H:Hp):Cx where
 prog:=P
 w:=w
 K:=K
 mg:=mg
 base:=base
 A:=A.deeper (envX qual scope s.heap.objs.size f cd cl)
 N:=N
 s₀:=s
 H₀:=H
 env:=envX qual scope s.heap.objs.size f cd cl
 outer:=outer
 stack:=envX qual scope s.heap.objs.size f cd cl::outer
 ex:=[]
 fn:=fun _=>false
 calm:=true
 pn:=[]
 xe:=fun _ _=>False
def zMH{P:Je}{w:Jf}{K:Fg_}{mg:Str->Option Ja}{base:Jd}{N:List Str}{qual name:Str}{scope:Scope}{f c':Jc}{cl:List (Str×Jc)}{A:Jg}{outer:List Env}{s:Jb}{H:Hp}{params:Arguments}{body:Expr}{pm ctv u:Ja}{p:Str}{σ:St}{Q:VK}{E:XK}{t:TE}
  (hd:A.handled=none) (hdp:A.depth<recursionLimit) (e0:Env0 P w K mg base A outer s H) (ho:s.heap.get? f=some (kla_obj name qual params body scope cl pm c' ctv)) (hcd:s.heap.CodeRec (.ref c') qual)
  (hbind:bindArgs (kla_fn name qual params body scope cl pm (.ref c') ctv) ⟨[u],[]⟩=pure [(p,u)]) (hloc:scope.names.lookup p=some .local)
  (hco:scope.isCoroutine=false) (hgen:scope.isGenerator=false) (hk:scope.kind=.function) (hcell:∀ x∈scope.names,x.2≠.cell)
  (hfree:∀ x,scope.names.lookup x=some .free->∃ c,cl.lookup x=some c) (hinj:∀ x y c,cl.lookup x=some c->cl.lookup y=some c->x=y)
  (hcl:∀ x c,cl.lookup x=some c->(∃ v,s.heap.IsCell c v)/\H c=none) (hlen:σ.length=N.length)
  (hσ:∀(i:Nat)(x:Str)(v:V),N[i]?=some x->σ[i]?=some (some v)->(x=p/\cU v u)∨(scope.names.lookup x=some .free/\∃ c u',cl.lookup x=some c/\s.heap.IsCell c (some u')/\cU v u'))
  (hb:PE (cxL P w K mg base N qual scope f (.ref c') cl A outer s H) body t) (hq:t σ H Q):
  codeAny (model P w) A (.call (.ref f) ⟨[u],[]⟩) (CR zSq outer P w H s Q E) s:=by
 have lim:s.heap.NoLimit:=e0.mod.nolimit.keeps fun b o e=>(e0.bs b o e).1
 refine kla_callFunE hdp ho rfl hco hgen rfl hcd ?_
 rw[hbind];refine Jt (wpAny_newFunctionEnv hcell (fun y hy=>by rw[Qu.mp hy];exact hloc) (fun h₁ hns hsb=>⟨lim.fresh _ hsb,?_⟩) hk)
 have hk₁:∀ b o,s.heap.get? b=some o->h₁.get? b=some o:=fun b o e=>hsb.extBut b o (Qp (Heap.lt_size e)) (Heap.get?_push_of_some _ e)
 have noA:∀ b:Jc,b∉(cxL P w K mg base N qual scope f (.ref c') cl A outer s H).ex:=fun b z=>absurd (show b∈([]:List Jc) from z) (by simp)
 have I:Inv (cxL P w K mg base N qual scope f (.ref c') cl A outer s H) [] σ H { s with heap:=h₁,toks:=s.toks+1 }:=by
  refine⟨⟨e0.mod,hk,rfl,rfl,Qd _,hinj,fun y hy=>?_,fun y c z _=>?_,fun _=>hd,Around.frames_deeper e0.frames,.inr ⟨rfl,rfl⟩,fun b z=>absurd z (noA b),e0.bs,e0.bsz,fun b _ _=>noA b,fun b z=>absurd z (noA b),e0.funs,e0.frf⟩,
   rfl,e0.bare,Un.kept hk₁,⟨_,hns,fun i y v h1 h2 h3=>?_⟩,fun y c h=>?_,e0.hok.fresh (Qd _),fun y c h=>(hcl y c h).2,fun p hp=>absurd (show p∈([]:List (Jc×Obj)) from hp) (by simp),e0.hok.kept hk₁,hlen⟩
  ·have hy:scope.names.lookup y=some .cell∨scope.names.lookup y=some .free:=hy
   rcases hy with hy | hy
   ·exact absurd rfl (hcell _ (Xp hy))
   ·exact hfree y hy
  ·cases z
  ·rcases hσ i y v h1 h2 with⟨rfl,r⟩ | ⟨hf,c,u',h4,⟨o,h5,h6⟩,r⟩
   ·exact⟨u,r,.inl ⟨hloc,by simp[List.lookup]⟩⟩
   ·exact⟨u',r,.inr ⟨.inr hf,c,h4,o,hk₁ _ _ h5,h6⟩⟩
  ·obtain⟨⟨v,o,h5,h6⟩,_⟩:=hcl y c h
   exact⟨v,o,hk₁ _ _ h5,h6⟩
 refine kla_codeExpr (wpAny_mono (hb [] _ σ H Q I hq) (fun v s' z=>?_) fun e s' z=>False.elim z)
 obtain⟨x,H',J,r,q⟩:=z;exact⟨x,H',J.os,J.bare,J.base,J.hok,r,q⟩
def zJm{l:List Ja}{a b:Int}{c:Ja}(h:TriplesOk l):TriplesOk (l++[rawInt a,rawInt b,c]):=TriplesOk_snoc a b c l h
def zEK{pos q:Pos}{c x:Ja}(l:List Ja)(h:TriplesOk l)(e:codeAmong q (l++[rawInt pos.line,rawInt pos.col,c])=some x):codeAmong q l=some x∨x=c:=by
 fun_induction TriplesOk l with
 | case1=>
  simp only[Yt,codeAmong,rawInt] at e;split at e
  ·exact .inr (Vd e).symm
  ·cases e
 | case2 a t b u y rest ih=>
  simp only[Uj,codeAmong] at e ⊢
  split at e
  ·rename_i hc;rw[Jj hc];exact .inl e
  ·rename_i hc;rw[Jk hc];exact ih h e
 | case3 l h1 h2=>exact h.elim
def BMn(base:Jd)(mg:Str->Option Ja):Prop:=∃ bm ob,mg "__builtins__" = some (.ref bm)/\bm≠builtinsNs/\base.get? bm=some ob/\ob.cls=.type "module" /\ ob.dict=some builtinsNs/\ob.data=.plain
section
variable{X:Cx}{Md:List (Jc×Obj)}{r:St}{H:Hp}{s:Jb}{P c c':Jc}
def zIH{ps more:Array Ja}{h':Jd}{tk:Nat}{oc:Obj}(I:Inv X Md r H s)(hP:H P=some (.tbl ps))(hx:Heap.ExtBut P s.heap h')(hge:s.heap.objs.size<=c')(hc:h'.get? c'=some oc)(hP':h'.get? P=some { cls:=.none,data:=.fields (ps++more) }):
  Inv X Md r (upd (upd H P (.tbl (ps++more))) c' (.frz oc (.own 0))) { s with heap:=h',toks:=tk }:=by
 have nP:∀ {b:Jc},H b=none->b≠P:=fun e z=>by rw[z,hP] at e;cases e
 have cF:H c'=none:=I.hok.fresh hge;have nc:∀ {b:Jc} {o:Obj},s.heap.get? b=some o->b≠c':=fun e=>Qp (Qo (Heap.lt_size e) hge)
 have hPc:P≠c':=bB hP cF;have up:∀ {b:Jc},b≠P->b≠c'->upd (upd H P (.tbl (ps++more))) c' (.frz oc (.own 0)) b=H b:=fun h1 h2=>by rw[aY h2,aY h1]
 have upP:upd (upd H P (.tbl (ps++more))) c' (.frz oc (.own 0)) P=some (.tbl (ps++more)):=by rw[aY hPc,aW]
 have kd:∀ {b:Jc} {o:HO},H b=some o->(∀ qs,o≠.tbl qs)->upd (upd H P (.tbl (ps++more))) c' (.frz oc (.own 0)) b=some o:=fun {b o} e hn=>by
  rw[up (fun z=>by rw[z,hP] at e;exact hn ps (Vd e).symm) (bB e cF)];exact e
 refine I.un ⟨fun b o e n _ _=>hx b o (nP n) e,fun b o e n _ _=>⟨o.slots,hx b o (nP n) e⟩,fun b o e n _=>by rw[up (nP n) (nc e)];exact n,fun b o e _=>?_,fun b xs e=>kd e fun qs z=>(by cases z),fun b o u e=>kd e fun qs z=>(by cases z),fun b qs e=>?_⟩ fun b u e=>?_
 ·by_cases hb:b=P
  ·subst hb;exact⟨_,hP'⟩
  ·exact⟨o,hx b o hb e⟩
 ·by_cases hb:b=P
  ·subst hb
   rw[hP] at e;cases e
   exact⟨more,upP⟩
  ·exact⟨#[],by rw[up hb (bB e cF),e];simp⟩
 ·by_cases h2:b=c'
  ·subst h2
   rw[aW] at e;cases e
   exact⟨hc,oc,hc⟩
  ·by_cases h1:b=P
   ·subst h1
    rw[upP] at e;cases e
    exact hP'
   ·rw[up h1 h2] at e
    refine(I.hok b u e).stay (fun d v hd q=>hx d v (fun z=>?_) q) (fun d q=>kd q fun qs z=>(by cases z)) fun d xs q=>kd q fun qs z=>(by cases z)
    rcases hd with rfl | hd
    ·exact h1 z
    ·rw[z,hP] at hd;cases hd
def zGj{ps:Array Ja}{oc:Obj}{pos:Pos}{vs:Array Ja}{t:Tok}(hP:H P=some (.tbl ps))(cF:H c'=none)(hd:oc.data=.fields vs)(hv:vs[1]?=some (.str sN t)):
  Keep H (upd (upd H P (.tbl (ps++#[rawInt pos.line,rawInt pos.col,.ref c']))) c' (.frz oc (.own 0))):=by
 have hPc:P≠c':=bB hP cF;have upP:upd (upd H P (.tbl (ps++#[rawInt pos.line,rawInt pos.col,.ref c']))) c' (.frz oc (.own 0)) P=some (.tbl (ps++#[rawInt pos.line,rawInt pos.col,.ref c'])):=by rw[aY hPc,aW]
 have kd:∀ {b:Jc} {o:HO},H b=some o->b≠P->upd (upd H P (.tbl (ps++#[rawInt pos.line,rawInt pos.col,.ref c']))) c' (.frz oc (.own 0)) b=some o:=fun {b o} e hn=>by
  rw[aY (bB e cF),aY hn];exact e
 refine⟨fun b o e=>?_,fun Q T=>?_⟩
 ·by_cases hb:b=P
  ·subst hb
   rw[hP] at e;cases e
   exact .inr ⟨_,_,rfl,upP⟩
  ·exact .inl (kd e hb)
 ·obtain⟨qs,e,ht,k⟩:=T
  have old:∀(q:Pos)(cv:Ja),codeAmong q qs.toList=some cv->∃ c oc' vs t u,cv=.ref c/\upd (upd H P (.tbl (ps++#[rawInt pos.line,rawInt pos.col,.ref c']))) c' (.frz oc (.own 0)) c=some (.frz oc' u)/\oc'.data=.fields vs/\vs[1]?=some (.str sN t):=fun q cv z=>by
   obtain⟨c,oc',vs',t',u,r1,r2,r3⟩:=k q cv z;exact⟨c,oc',vs',t',u,r1,kd r2 (fun w=>by rw[w,hP] at r2;cases r2),r3⟩
  by_cases hb:Q=P
  ·subst hb
   rw[hP] at e;cases e
   have el:(ps++#[rawInt pos.line,rawInt pos.col,.ref c']).toList=ps.toList++[rawInt pos.line,rawInt pos.col,.ref c']:=by simp
   refine⟨_,upP,by rw[el];exact zJm ht,fun q cv z=>?_⟩
   rw[el] at z;rcases zEK _ ht z with z | z
   ·exact old q cv z
   ·exact⟨c',oc,vs,t,_,z,aW,hd,hv⟩
  ·exact⟨qs,kd e hb,ht,old⟩
def zJD{params:Arguments}{body:Expr}{scope:Scope}{pos:Pos}{clos:List (Str×Jc)}{M:Model}{A:Jg}{E:Ja->Jb->Prop}{Q:Ja->Jb->Prop}(I:Inv X Md r H s)(tb:zBy P H)(hC:∀ h,X.K.In h->CodeHd h c P)(hcode:X.env.code=.ref c)(hq:X.env.qual ++ "<lambda>" = sN)(hB:BMn X.base X.mg)
  (hcl:closureFor scope X.env=pure clos) (hdef:defaultsOf params X.env=([],[]))
  (h:∀ f c' ctv oc vs t u H' s',Inv X Md r H' s'->Keep H H'->(∀ b o,H b=some o->b≠P->H' b=some o)->sM X Md H' f->s.heap.objs.size<=f->s'.heap.get? f=some (kla_obj "<lambda>" sN params body scope clos ((X.mg "__name__").getD .none) c' ctv)->
   H' c'=some (.frz oc u)->oc.data=.fields vs->vs[1]?=some (.str sN t)->Q (.ref f) s'):
  wpAny M A (eval (.Lambda params body scope pos) X.env) Q E s:=by
 obtain⟨ps,hP,ht,hk⟩:=id tb;have hPo:s.heap.get? P=some (tabObj ps):=I.hok P _ hP;have hg:s.heap.Ns mainGlobals X.mg:=I.mod.glob.keeps I.bk
 have hgP:mainGlobals≠P:=fun z=>by
  obtain⟨o,es,ep,e,_⟩:=I.mod.glob;have:=(I.bs _ _ e).2
  rw[z,hP] at this;cases this
 have hb:s.heap.BuiltinsAt X.mg P:=by
  obtain⟨bm,ob,b1,b2,b3,b4,b5,b6⟩:=hB;refine⟨bm,ob,b1,b2,fun z=>?_,fun z=>?_,(I.bs _ _ b3).1,b4,b5,b6⟩
  ·obtain⟨o,es,ep,e,d,_⟩:=I.mod.glob
   rw[z,e] at b3;cases b3;rw[d] at b6;cases b6
  ·have:=(I.bs _ _ b3).2
   rw[z,hP] at this;cases this
 refine kla_eval hdef ?_
 rw[hq]
 cases hf:codeAmong pos ps.toList with
 | some cv=>
  obtain⟨c',oc,vs,t,u,rfl,r1,r2,r3⟩:=hk pos cv hf;refine kla_makeFunctionHit hcl I.ok.glob hg hcode (hC _ I.kIn) hPo ht hf hb fun ctv h' tk hkk hsz=>?_
  have I1:Inv X Md r H { s with heap:=h',toks:=tk }:=I.kept hkk;have I2:Inv X Md r H { s with heap:=h'.push (kla_obj "<lambda>" sN params body scope clos ((X.mg "__name__").getD .none) c' ctv),toks:=tk }:=I1.kept (t':=tk) fun b o e=>Heap.get?_push_of_some _ e
  exact h _ c' ctv oc vs t u H _ I2 (Keep.refl _) (fun b o e _=>e) (I1.fpOk (Qd _) (I1.hok.fresh (Qd _))) hsz (Heap.get?_push_size _ rfl) r1 r2 r3
 | none=>
  refine kla_makeFunction hcl I.ok.glob hg hcode (hC _ I.kIn) hPo ht hf hgP hb fun c' ctv h' tk hx hge hlt hrec htb=>?_
  obtain⟨c₂,oc,vs,t,e2,hoc,hd,hv⟩:=hrec;cases e2;have I1:=zIH (tk:=tk) I hP hx hge hoc htb;have I2:=I1.kept (t':=tk) (h':=h'.push (kla_obj "<lambda>" sN params body scope clos ((X.mg "__name__").getD .none) c' ctv)) fun b o e=>Heap.get?_push_of_some _ e
  have cF:H c'=none:=I.hok.fresh hge;exact h _ c' ctv oc vs t _ _ _ I2 (zGj hP cF hd hv) (fun b o e hb=>by rw[aY (bB e cF),aY hb];exact e) (I1.fpOk (Qd _) (I1.hok.fresh (Qd _))) (X2 (Xe hge hlt)) (Heap.get?_push_size _ rfl) aW hd hv
end
def zBa{K:Fg_}{H:Hp}:∀ r:List Nat,IsDs K H (r.map fun i:Nat=>V.int (i:Int)) (mV r)
 | []=>.nil
 | n::ns=>.cons (.int n) (zBa ns)
def zDg(p:Pos):Arguments:={ posonlyargs:=[],args:=[{ arg := "spot", annotation:=none,pos:=p }],vararg:=none,kwonlyargs:=[],kw_defaults:=[],kwarg:=none,defaults:=[] }
def kG:Scope:={ kind:=.function,names:=[(PySem.Str.ofString "spot", .local),(PySem.Str.ofString "bottom", .free),(PySem.Str.ofString "some", .free)],isGenerator:=false,isCoroutine:=false,more:=[] }
section
variable{X:Cx}{p1 p2 p3 p4 p5 p6 p7 p8 p9 pa pb pc pd pe pf pg ph pi pj:Pos}
def zIM{b k:Int}{a:Jc}{xs:List V}{rows:List D}{d:D}{j:Nat}{Hi H:Hp}{Q:VK}{σ:St}(hN:X.N=(["spot","some","bottom"]:List Str))(hsc:X.env.scope=kG){pz:Pos}
  (hσ:σ=[some (.int j),some (.ref a),some (.int b)]) (hq:SqL X.K Hi a xs∨SqT X.K Hi a xs) (hs:IsDs X.K Hi xs rows) (sm:Same Hi H) (hd:rows[j]?=some d) (hk:zIv b d=.ok k) (q:Q (.int k) H):
  ∃ t,PE X (.BinOp (.Subscript (.Subscript (.Name "some" p1) (.Name "spot" p2) p3) (.Constant (.int 0) 0 p4) p5) .Mult
   (.BinOp (.Name "bottom" p6) .FloorDiv (.Subscript (.Subscript (.Name "some" p7) (.Name "spot" p8) p9) (.Constant (.int 1) 0 pa) pb) pc) pz) t/\t σ H Q:=by
 have v0:PE X (.Name "spot" p2) (zBV 0):=uD (by rw[hN];rfl) (by rw[hsc];exact .inl (by decide +kernel))
 have v0':PE X (.Name "spot" p8) (zBV 0):=uD (by rw[hN];rfl) (by rw[hsc];exact .inl (by decide +kernel))
 have v1:PE X (.Name "some" p1) (zBV 1):=uD (by rw[hN];rfl) (by rw[hsc];exact .inr (.inr (by decide +kernel)))
 have v1':PE X (.Name "some" p7) (zBV 1):=uD (by rw[hN];rfl) (by rw[hsc];exact .inr (.inr (by decide +kernel)))
 have v2:PE X (.Name "bottom" p6) (zBV 2):=uD (by rw[hN];rfl) (by rw[hsc];exact .inr (.inr (by decide +kernel)))
 refine⟨_,zAE cV (zFg gH (zFg gH v1 v0 (fun _ _=>rfl)) zGq (fun _ _=>rfl)) (zAE bS v2 (zFg gH (zFg gH v1' v0' (fun _ _=>rfl)) zGq (fun _ _=>rfl))),?_⟩
 obtain⟨t,c,rfl,h1,h2,rfl⟩:=zMt hk;obtain⟨v,hv,r⟩:=hs.at hd;obtain⟨ra,ys,rfl,h3,h4⟩:=r.tupI;obtain⟨u1,u2,rfl,r1,r2⟩:=h4.two;have e1:=r1.intI;have e2:=r2.intI;subst e1 e2;have S3:=bR sm h3;subst hσ
 have row:∀ Q':VK,Q' (.ref ra) H->(zQo X.K (.ref a) (.int j) H Q'∨zQl X.K (.ref a) (.int j) H Q'):=fun Q' q'=>by
  rcases hq with hq | hq
  ·exact .inl ⟨a,xs,j,.ref ra,rfl,rfl,cM sm hq,zCw hv,q'⟩
  ·exact .inr ⟨a,xs,j,.ref ra,rfl,rfl,bR sm hq,zCw hv,q'⟩
 refine⟨.ref a,rfl,.int j,rfl,row _ (.inr ⟨ra,_,0,.int t,rfl,rfl,S3,rfl,?_⟩)⟩
 refine⟨.int b,rfl,.ref a,rfl,.int j,rfl,row _ (.inr ⟨ra,_,1,.int c,rfl,rfl,S3,rfl,?_⟩)⟩
 exact⟨b,c,rfl,rfl,h1,t,b.fdiv c,rfl,rfl,h2,q⟩
def zPu{a:Expr}{ta:TA}{p pos:Pos}(hg:Gl X "range")(hm:X.mg "range" = none)(ha:PA X [a] ta)(hs:starEach [a] X.env=[(false,eval a X.env)]:=by rfl):
  PE X (.Call (.Name "range" p) [a] [] pos) (fun σ H Q=>ta σ H fun vs H1=>∃ n:Nat,vs=[.int n]/\∀ r,H1 r=none->Q (.ref r) (upd H1 r (.rng 0 n))):=by
 intro Md s σ H Q I h;refine Jx (oW I hg hm Ju (Ym (thn (ha pos Md s σ H _ I h) fun us s1 ⟨vs,H1,I1,r1,q1⟩=>?_) hs rfl))
 obtain⟨n,e,q⟩:=q1;subst e;obtain⟨u,rfl,t,rfl⟩:=zAn r1;refine call_range_1 ⟨.ref s1.heap.objs.size,_,I1.laid (fun b o e=>Heap.get?_push_of_some _ e) (Qd _) ?_,rfl,q _ I1.fresh⟩
 exact⟨_,_,_,Heap.get?_push_size _ rfl⟩
structure RankCx (X:Cx) (P c:Jc):Prop where
 calm:X.calm=true
 dp:X.A.depth<recursionLimit
 n0:X.N[0]?=some ("some" : Str)
 n1:X.N[1]?=some ("bottom" : Str)
 k0:X.env.kindOf "some" = some .cell
 k1:X.env.kindOf "bottom" = some .cell
 code:X.env.code=.ref c
 hd:∀ h,X.K.In h->CodeHd h c P
 qual:X.env.qual ++ "<lambda>" = sN
 bm:BMn X.base X.mg
 clo:∃ cs cb,closureFor kG X.env=pure [(("some" : Str),cs),(("bottom" : Str),cb)]/\X.env.cells.lookup ("some" : Str)=some cs/\X.env.cells.lookup ("bottom" : Str)=some cb
 gS:Gl X "sorted"
 mS:X.mg "sorted" = none
 gR:Gl X "range"
 mR:X.mg "range" = none
 gL:Gl X "len"
 mL:X.mg "len" = none
def zPc(X:Cx)(P:Jc):TE:=fun σ H Q=>∃ Hi a xs rows b kz,σ[0]?=some (some (.ref a))/\σ[1]?=some (some (.int b))/\(SqL X.K Hi a xs∨SqT X.K Hi a xs)/\IsDs X.K Hi xs rows/\Same Hi H/\oG b rows=.ok kz/\kz.length<64/\zBy P H/\Hi P=none/\
 ∀ π r Hi' H',hG kz π->Ext Hi H Hi' H'->zID X.K H Hi' H' r (mV π)->Q (.ref r) H'
def zDG{Md:List (Jc×Obj)}{σ:St}{H:Hp}{s:Jb}{i:Nat}{x:Str}{v:V}{c:Jc}(I:Inv X Md σ H s)(hi:X.N[i]?=some x)(hv:σ[i]?=some (some v))(hk:X.env.kindOf x=some .cell)(hc:X.env.cells.lookup x=some c):∃ u,cU v u/\s.heap.IsCell c (some u):=by
 obtain⟨m,hn,hl⟩:=I.loc;obtain⟨u,r,l⟩:=hl i x v hi hv (.inr (.inl hk));refine⟨u,r,?_⟩
 rcases l with⟨z,_⟩ | ⟨_,c',z,q⟩
 ·rw[hk] at z;cases z
 ·rw[hc] at z;cases z;exact q
def zNb{P c:Jc}(R:RankCx X P c){pk pl pm pn:Pos}(hs1:starEach [.Name "some" p3] X.env=(false,eval (.Name "some" p3) X.env)::starEach [] X.env:=by rfl)
  (hs2:starEach [.Call (.Name "len" p2) [.Name "some" p3] [] p4] X.env=[(false,eval (.Call (.Name "len" p2) [.Name "some" p3] [] p4) X.env)]:=by rfl)
  (hs3:starEach [.Call (.Name "range" p1) [.Call (.Name "len" p2) [.Name "some" p3] [] p4] [] p5] X.env=(false,eval (.Call (.Name "range" p1) [.Call (.Name "len" p2) [.Name "some" p3] [] p4] [] p5) X.env)::starEach [] X.env:=by rfl):
  PE X (.Call (.Name "sorted" pk) [.Call (.Name "range" p1) [.Call (.Name "len" p2) [.Name "some" p3] [] p4] [] p5] [⟨some "key", .Lambda (zDg p6) (.BinOp (.Subscript (.Subscript (.Name "some" p7) (.Name "spot" p8) p9) (.Constant (.int 0) 0 pa) pb) .Mult
   (.BinOp (.Name "bottom" pc) .FloorDiv (.Subscript (.Subscript (.Name "some" pd) (.Name "spot" pe) pf) (.Constant (.int 1) 0 pg) ph) pi) pj) kG pl,pm⟩] pn) (zPc X P):=by
 intro Md s σ H Q I h;obtain⟨Hi,a,xs,rows,b,kz,e0,e1,hq,hds,sm,hkz,h64,tb,hiP,q⟩:=h;obtain⟨hl1,hl2⟩:=zC hkz;have hlen:xs.length=kz.length:=by rw[hds.length,hl1]
 refine Jx (oW I R.gS R.mS boot_sorted ?_ (by decide) (by decide))
 have vS:PE X (.Name "some" p3) (zBV 0):=uD R.n0 (.inr (.inl R.k0));have pR:=zPu (p:=p1) (pos:=p5) R.gR R.mR (gY (zDM (p:=p2) (pos:=p4) aT R.gL R.mL boot_len (gY vS mT hs1) (by decide) (by decide) hs1) mT (by rw[hs2];rfl)) hs2
 refine callWith_kw (thn ((gY pR mT hs3) pn Md s σ H (fun vs H1=>∃ r,vs=[.ref r]/\H r=none/\H1=upd H r (.rng 0 kz.length)) I ?reads) fun us s1 ⟨vs,H1,I1,r1,q1⟩=>?_) (by rw[hs3];rfl) (by rw[hs3];rfl)
 case reads=>
  refine⟨.ref a,e0,a,xs,rfl,hq.imp (cM sm) (bR sm),xs.length,rfl,fun r hr=>⟨r,rfl,hr,by rw[hlen]⟩⟩
 obtain⟨r,rfl,hr,rfl⟩:=q1;obtain⟨u,rfl,ru⟩:=zAn r1;cases ru;obtain⟨cs,cb,hcl,hcs,hcb⟩:=R.clo;have x1:Ext Hi H Hi (upd H r (.rng 0 kz.length)):=Ext.newF sm hr;refine kws_cons (zJD I1 (x1.h.t P tb) R.hd R.code R.qual R.bm hcl rfl fun f c' ctv oc vs t u H3 s3 I3 hkeep hsame hf hfs hfo hc1 hc2 hc3=>kws_nil ?_)
 have x2:Ext Hi H Hi H3:=x1.trans ⟨Same.refl _,hkeep,fun b o e=>hsame b o (x1.s _ _ e) (fun z=>by rw[z,hiP] at e;cases e),fun b e z=>absurd e z⟩
 have hr3:H3 r=some (.rng 0 kz.length):=hkeep.at aW;obtain⟨t1,t2,t3,hrg⟩:=I3.hok r _ hr3
 have I3p:Inv X (Md++[(f,kla_obj "<lambda>" sN (zDg p6) _ kG [("some", cs),("bottom", cb)] ((X.mg "__name__").getD .none) c' ctv)]) σ H3 s3:=I3.pins_of fun p hp=>by
  rcases Xa.mp hp with hp | hp
  ·exact I3.pin p (Q0 _ hp)
  ·rw[Qu.mp hp]
   exact⟨hfo,hf.1,hf.2.1,hf.2.2.1,fun v z=>by have z':Data.func _=Data.cell v:=z;cases z'⟩
 refine zIi (kz:=kz) R.calm I3p hrg h64 rfl (fun j tk k hj s' pl Ip=>?_) fun D s' out c2 π I' fD hDs hD hπ hV=>?_
 ·obtain⟨d,hd,hk⟩:=hl2 j k hj
  have hfo':=(Ip.pin _ (Q0 _ (Ys _ (Q0 _ (Qu.mpr rfl))))).1;obtain⟨u0,r0,ce0⟩:=zDG Ip R.n0 e0 R.k0 hcs;obtain⟨u1,r1,ce1⟩:=zDG Ip R.n1 e1 R.k1 hcb
  have look:∀ {x:Str} {c:Jc},List.lookup x [(("some" : Str),cs),(("bottom" : Str),cb)]=some c->(x = "some" /\ c=cs)∨(x = "bottom" /\ c=cb):=fun {x c} z=>by
   have z':=Xp z;rcases Qe.mp z' with z' | z'
   ·cases z';exact .inl ⟨rfl,rfl⟩
   ·cases Qu.mp z';exact .inr ⟨rfl,rfl⟩
  have hne:cs≠cb:=fun z=>by
   have:=Ip.ok.inj _ _ _ hcs (z ▸ hcb)
   exact absurd this (by decide)
  have lam:∃ t,PE (cxL X.prog X.w X.K X.mg X.base ["spot","some","bottom"] sN kG f (.ref c') [("some", cs),("bottom", cb)] X.A.in1.in1 X.stack s' H3) _ t/\t [some (.int j),some (.ref a),some (.int b)] H3 (fun v H'=>v=.int k/\H'=H3):=
   zIM (p1:=p7) (p2:=p8) (p3:=p9) (p4:=pa) (p5:=pb) (p6:=pc) (p7:=pd) (p8:=pe) (p9:=pf) (pa:=pg) (pb:=ph) (pc:=pi) (pz:=pj) rfl rfl rfl hq hds x2.s hd hk ⟨rfl,rfl⟩
  obtain⟨tt,hb,hqq⟩:=lam;refine Jw (codeAny_mono (zMH (E:=fun _ _ _=>False) (p := "spot") (Ip.ok.hd R.calm) R.dp Ip.env0.in1.in1 hfo' ⟨c',oc,vs,t,rfl,(Ip.hok c' _ hc1).1,hc2,hc3⟩ rfl (by decide +kernel) rfl rfl rfl (by decide +kernel) (fun x hx=>?_) (fun x y c z1 z2=>?_) (fun x c z=>?_) rfl (fun i x v z1 z2=>?_) hb hqq) fun res s'' hres=>?_)
  ·have hx':=Xp hx
   rcases Qe.mp hx' with z | hx'
   ·cases z
   ·rcases Qe.mp hx' with z | hx'
    ·cases z;exact⟨cb,rfl⟩
    ·cases Qu.mp hx';exact⟨cs,rfl⟩
  ·rcases look z1 with⟨rfl,rfl⟩ | ⟨rfl,rfl⟩<;>rcases look z2 with⟨rfl,w⟩ | ⟨rfl,w⟩
   ·rfl
   ·exact absurd w hne
   ·exact absurd w.symm hne
   ·rfl
  ·rcases look z with⟨rfl,rfl⟩ | ⟨rfl,rfl⟩
   ·exact⟨⟨_,ce0⟩,Ip.freeC _ _ hcs⟩
   ·exact⟨⟨_,ce1⟩,Ip.freeC _ _ hcb⟩
  ·match i,z1,z2 with
   | 0,z1,z2=>cases z1;cases z2;exact .inl ⟨rfl,tk,rfl⟩
   | 1,z1,z2=>cases z1;cases z2;exact .inr ⟨by decide +kernel,cs,u0,rfl,ce0,r0⟩
   | 2,z1,z2=>cases z1;cases z2;exact .inr ⟨by decide +kernel,cb,u1,rfl,ce1,r1⟩
   | i+3,z1,z2=>simp at z2
  ·cases res with
   | error ev=>exact False.elim hres
   | ok fl=>
    cases fl with
    | ret u=>
     obtain⟨v,H',J,rv,rfl,rfl⟩:=Ip.after hres;obtain⟨t',rfl⟩:=rv;exact⟨⟨t',rfl⟩,J⟩
    | next=>exact False.elim hres
    | brk=>exact False.elim hres
    | cont=>exact False.elim hres
 ·have I'':Inv X Md σ H3 s':=I'.unpinned
  obtain⟨f0,f1,f2,f3,f4,f5⟩:=fD;have h0:X.s₀.heap.get? D=none:=Heap.get?_none_of_le (Qn I3.sz hDs);have hl:=hV.length
  have okL:lH X.prog X.w (upd H3 D (.lst (π.map fun i:Nat=>V.int (i:Int)))) s'.heap D (.lst (π.map fun i:Nat=>V.int (i:Int))):=by
   refine⟨?_,out.toList,c2,hV,by rw[Array.toArray_toList];exact hD⟩
   rw[Qf,hπ.1.length_eq,Q9,Jv];omega
  have I4:=I''.track f0 h0 f1 f4 (fun p hp=>f5 p (by
   rcases Xa.mp hp with hp | hp
   ·exact Ys _ hp
   ·exact Q0 _ (Ys _ hp))) okL
  refine⟨.ref D,_,I4,rfl,q π D Hi _ hπ (x2.trans (Ext.newF x2.s f0)) ⟨x2.h.none f0,x2.s.none f0,_,aW,zBa π⟩⟩
end
def spR(K:PySem.W.Frag)(mg:Str->Option Ja)(kf:List D->Res (List Int)):Sp:=fun vs H Q _=>vs.length=1/\∃ Bi ds,TB K mg Bi H/\Same Bi H/\IsDs K Bi vs ds/\match kf ds with
 | .ok kz=>∀ r a Hi' H',hG kz r->Ext Bi H Hi' H'->zID K H Hi' H' a (mV r)->Q (.ref a) H'
 | _=>False
structure CanR (P:Je) (w:Jf) (K:PySem.W.Frag) (mg:Str->Option Ja) (base:Jd) (k:Nat) (kf:List D->Res (List Int)):Prop where
 ex:∃ f fd,FnOk P w K mg base (CX1 P w) k f fd ["some"] (spR K mg kf)/\zBr K fd ["some"] []/\PySem.W.keepIn K (.ref f)=true/\mg "ranked" = some (.ref f)
def CanR.mono{P:Je}{w:Jf}{K:Fg_}{mg:Str->Option Ja}{base:Jd}{j k:Nat}{kf:List D->Res (List Int)}(c:CanR P w K mg base j kf)(h:j<=k):CanR P w K mg base k kf:=by
 obtain⟨f,fd,F,r⟩:=c.ex;exact⟨⟨f,fd,F.mono h,r⟩⟩
structure RankDef (st:Jh):Prop where
 k0:(aG st).names.lookup ("some" : Str)=some .cell
 k1:(aG st).names.lookup ("bottom" : Str)=some .cell
 gS:(aG st).names.lookup ("sorted" : Str)=some .globalImplicit
 gR:(aG st).names.lookup ("range" : Str)=some .globalImplicit
 gL:(aG st).names.lookup ("len" : Str)=some .globalImplicit
 clo:∀ L f cdv,∃ cs cb,closureFor kG (envOfC "ranked" (aG st) L f cdv)=pure [(("some" : Str),cs),(("bottom" : Str),cb)]/\(envOfC "ranked" (aG st) L f cdv).cells.lookup ("some" : Str)=some cs/\(envOfC "ranked" (aG st) L f cdv).cells.lookup ("bottom" : Str)=some cb
section
variable{P:Je}{w:Jf}{K:Fg_}{mg:Str->Option Ja}{base:Jd}{st s1 s2:Jh}{f:Jc}{fd:FuncData}{k:Nat}{sa sb:Sv}{p1 p2 p3 p4 p5 p6 p7 p8 p9 pa pb pc pd pe pf pg ph pi pj pk pl pm pn po:Pos}
def zLW{T:Jc}(F:Fn K mg "ranked" st ["some"] f fd)(S:FnScope ["some","bottom","each"] ["some"] (aG st))(D:RankDef st)(hT:pO K mg T)(hB:BMn base mg)(mS:mg "sorted" = none)(mR:mg "range" = none)(mL:mg "len" = none)
  (hbody:eN st=[s1,s2,.Return (some (.Call (.Name "sorted" pk) [.Call (.Name "range" p1) [.Call (.Name "len" p2) [.Name "some" p3] [] p4] [] p5] [⟨some "key", .Lambda (zDg p6) (.BinOp (.Subscript (.Subscript (.Name "some" p7) (.Name "spot" p8) p9) (.Constant (.int 0) 0 pa) pb) .Mult
   (.BinOp (.Name "bottom" pc) .FloorDiv (.Subscript (.Subscript (.Name "some" pd) (.Name "spot" pe) pf) (.Constant (.int 1) 0 pg) ph) pi) pj) kG pl,pm⟩] pn)) po])
  (h:∀(cdv:Ja)(A:Jg)(outer:List Env)(s:Jb)(H:Hp)(E:XK)(G:Gx),Good (BX P w K mg base ["some","bottom","each"] "ranked" st f cdv A outer s H E) G k->zFa (BX P w K mg base ["some","bottom","each"] "ranked" st f cdv A outer s H E) G->
   PSd (BX P w K mg base ["some","bottom","each"] "ranked" st f cdv A outer s H E) G s1 sa/\PSd (BX P w K mg base ["some","bottom","each"] "ranked" st f cdv A outer s H E) G s2 sb):
  CanR P w K mg base (k+1) (yL sa sb):=by
 refine⟨f,fd,?_,F.bd,F.kp,F.mg⟩
 obtain⟨f',oc',od',fd',osl',c,t1,t2,t3,t4⟩:=id hT;have ef:f'=f:=by have:=t1.symm.trans F.mg;exact Value.ref.inj (Vd this)
 subst ef;obtain⟨oc,od,kV,doc,pm',an,cdv,ct,osl,rfl,lk,hcd⟩:=F.fn.ex
 have efd:cdv=.ref c:=by
  rw[lk] at t2;cases t2;exact t3
 subst efd;refine zOH lk hcd S (fun vs H Q E h=>h.1) fun A outer s H vs Q E hr hsp=>?_
 obtain⟨hl,Bi,ds,tb,sm,hd,hq⟩:=hsp;have hg:=zIk (P:=P) (w:=w) (K:=K) (mg:=mg) (base:=base) (N:=["some","bottom","each"]) (outer:=outer) (H:=H) (Bi:=Bi) (E:=E) hr tb;obtain⟨h1,h2⟩:=h (.ref c) A outer s H E _ hg zDs
 have RC:RankCx (BX P w K mg base ["some","bottom","each"] "ranked" st f' (.ref c) A outer s H E) T c:=
  ⟨rfl,hr.depth,rfl,rfl,D.k0,D.k1,rfl,t4,by show(("ranked" : Str) ++ ".<locals>.") ++ "<lambda>" = sN;decide +kernel,hB,D.clo _ _ _,D.gS,mS,D.gR,mR,D.gL,mL⟩
 have body:∀ G,PSs (BX P w K mg base ["some","bottom","each"] "ranked" st f' (.ref c) A outer s H E) [s1] (tS (BX P w K mg base ["some","bottom","each"] "ranked" st f' (.ref c) A outer s H E) G sa)->PS (BX P w K mg base ["some","bottom","each"] "ranked" st f' (.ref c) A outer s H E) s1 (tS (BX P w K mg base ["some","bottom","each"] "ranked" st f' (.ref c) A outer s H E) G sa)->PS (BX P w K mg base ["some","bottom","each"] "ranked" st f' (.ref c) A outer s H E) s2 (tS (BX P w K mg base ["some","bottom","each"] "ranked" st f' (.ref c) A outer s H E) G sb)->
   PSs (BX P w K mg base ["some","bottom","each"] "ranked" st f' (.ref c) A outer s H E) (eN st) (zQw (tS (BX P w K mg base ["some","bottom","each"] "ranked" st f' (.ref c) A outer s H E) G sa) (zQw (tS (BX P w K mg base ["some","bottom","each"] "ranked" st f' (.ref c) A outer s H E) G sb) (zRJ (zPc (BX P w K mg base ["some","bottom","each"] "ranked" st f' (.ref c) A outer s H E) T)))):=fun G _ h1 h2=>by
  rw[hbody];exact sR h1 (sR h2 (zDe (zDr (zNb RC))))
 refine⟨_,body _ (zDe h1) h1 h2,?_⟩
 cases ek:yL sa sb ds with
 | no=>rw[ek] at hq;exact hq.elim
 | err c=>rw[ek] at hq;exact hq.elim
 | ok kz=>
  rw[ek] at hq;unfold yL at ek;split at ek
  case isFalse=>cases ek
  split at ek
  case h_2=>cases ek
  rename_i ρ1 e1
  split at ek
  case h_2=>cases ek
  rename_i ρ2 e2
  refine⟨L3.start 3 ds,Bi,zBB (N:=["some","bottom","each"]) sm hd,?_⟩
  rw[e1];intro a1 Hi1 H1 sm1 R1;refine⟨ρ1,Hi1,R1,?_⟩
  rw[e2];intro a2 Hi2 H2 sm2 R2;unfold zDl at ek;split at ek
  case h_2=>cases ek
  rename_i rows b z0 z1
  split at ek
  case isFalse=>cases ek
  rename_i h64
  obtain⟨v,q0,r0⟩:=R2.slot 0 _ z0;obtain⟨v1,q1,r1⟩:=R2.slot 1 _ z1;obtain⟨a,xs,rfl,g1,g2⟩:=r0.lstI;have r1':=r1.intI;subst r1';obtain⟨tb2,n2⟩:=hg.tb.ext R2.ext T hT;exact⟨Hi2,a,xs,rows,b,kz,q0,q1,.inl g1,g2,R2.s,ek,by rw[(zC ek).1];exact h64,tb2,n2,fun π r Hi' H' hπ x nl=>hq π r Hi' H' hπ (R2.ext.trans x) ⟨R2.ext.h.none nl.1,nl.2⟩⟩
end
section
variable{X:Cx}{G:Gx}{e:Expr}{es:List Expr}{pos p:Pos}{fs:Fv}{k:Nat}{kf:List D->Res (List Int)}{tg:Expr}{body rest:List Jh}{g:Gv}{sa sb:Sv}
def tIr(X:Cx)(G:Gx)(fs:Fv)(kf:List D->Res (List Int)):TI:=fun r H R=>∃ ρ Hi,kY X G Hi H r ρ/\Out G Hi H ((fs ρ).bind kf) fun kz Hi' H'=>∀ π J,hG kz π->wF X.K Hi' J (mV π)->R J H'
def zLe(W:Good X G k)(c:CanR X.prog X.w X.K X.mg X.base k kf)(hkf:∀ ds c,kf ds≠.err c)(hk1:∀ ds,kf ds≠.no->ds.length=1)(hg:Gl X "ranked")(ha:PAd X G [e] fs)(he:starEach [e] X.env=(false,eval e X.env)::starEach [] X.env:=by rfl):
  PI X tg (.Call (.Name "ranked" p) [e] [] pos) (tIr X G fs kf):=by
 obtain⟨f,fd,F,b,kp,hm⟩:=c.ex;refine PI.wk (zLL (zDf F W.room hg hm kp b .nil W.pass ha (by decide) he rfl)) fun r H R q=>?_
 obtain⟨ρ,Hi,Rl,ou⟩:=q;refine zIy Rl ou fun vs ds Hi1 H1 e1 R1 r1 o1=>?_
 rw[Vn];have hno:kf ds≠.no:=fun z=>by rw[z] at o1;exact o1
 refine⟨by rw[r1.length];exact hk1 ds hno,Hi1,ds,W.tb.ext R1.ext,R1.s,r1,?_⟩
 cases z:kf ds with
 | no=>exact absurd z hno
 | err c=>exact absurd z (hkf ds c)
 | ok kz=>
  rw[z] at o1;intro π a Hi2 H2 hπ e2 n;obtain⟨n1,n2,xs,n3,n4⟩:=n;have x3:=e2.hold n1 n3 n2;refine⟨a,rfl,⟨xs,SqL.of n3⟩,o1 _ _ x3 π _ hπ (zAU (SqL.of aW) (n4.mono (bZ n2 _)))⟩
def zLM(W:Good X G k)(c:CanR X.prog X.w X.K X.mg X.base k kf)(hkf:∀ ds c,kf ds≠.err c)(hk1:∀ ds,kf ds≠.no->ds.length=1)(hg:Gl X "ranked")(ha:PAd X G [e] fs)(hgt:PGd X G tg g)(hge:∀ d ρ c,g d ρ≠.err c)(hb:dO X G body sa)(hr:dO X G rest sb)
  (he:starEach [e] X.env=(false,eval e X.env)::starEach [] X.env:=by rfl) {pf:Pos} (hs:∀ x,foldedSetIterable (.Call (.Name "ranked" p) [e] [] pos) X.env x=pure x:=by intro _;rfl):
  dO X G (.For tg (.Call (.Name "ranked" p) [e] [] pos) body [] pf::rest) (zJR fs kf g sa sb):=by
 refine PSs.wk (sR (zKk W.own W.calm (zLe W c hkf hk1 hg ha he) hgt hb hs) hr) fun E r H q=>?_
 obtain⟨ρ,Hi,R,h⟩:=q;refine⟨ρ,Hi,R,jP R h fun kz Hi1 H1 _ e1 h1 π J hπ gv=>?_⟩
 have hn:oF kz (fun π=>bC (fun ρ=>loop g sa (mV π) ρ) sb ρ)≠.no:=fun z=>by rw[z] at h1;exact h1
 rw[<-zEv hn hπ] at h1;exact zKg hge (R.grow e1) (zNF (sa:=fun ρ=>loop g sa (mV π) ρ) h1) gv
end
def zPS(K:PySem.W.Frag)(mg:Str->Option Ja):Sp:=fun vs H Q _=>∃(a:Jc)(ns:List Int)(Bi:Hp),vs=[.ref a]/\TB K mg Bi H/\Same Bi H/\SqL K Bi a (ns.map V.int)/\ns.length<=63/\(∃ m,m<=1048576/\∀ n∈ns,n.natAbs<2^m)/\∀ H',Q (.bl true) H'
def zMZ{P:Je}{w:Jf}{K:Fg_}{mg:Str->Option Ja}{base:Jd}{k:Nat}{m:Mir}{f:Jc}{fd:FuncData}(F:FnOk P w K mg base (CX1 P w) k f fd ["script"] (spM K mg 1 m))
  (h:∀ ns:List Int,ns.length<=63->(∃ m,m<=1048576/\∀ n∈ns,n.natAbs<2^m)->m [.lst (ns.map D.int)]=.ok (.v (.bl true))):FnOk P w K mg base (CX1 P w) k f fd ["script"] (zPS K mg):=by
 refine F.imp fun vs H Q E q=>?_
 obtain⟨a,ns,Bi,rfl,tb,sm,hS,hl,hbg,q⟩:=q;refine⟨rfl,Bi,[.lst (ns.map D.int)],tb,sm,.cons (.lst hS (zAJ ns)) .nil,?_⟩
 rw[h ns hl hbg];intro v Hi' H' e r;rw[r.blI];exact q H'
def zNr{P:Je}{w:Jf}{K:Fg_}{mg:Str->Option Ja}{base:Jd}{k:Nat}{m:Mir}{f:Jc}{fd:FuncData}(F:FnOk P w K mg base (CX1 P w) k f fd ["script"] (spM K mg 1 m))
  (h:∀ ns:List Int,ns.length<=63->m [.lst (ns.map D.int)]=.ok (.v (.bl true))):FnOk P w K mg base (CX1 P w) k f fd ["script"] (zPS K mg):=zMZ F fun ns hl _=>h ns hl
def zIV{K:Fg_}{mg:Str->Option Ja}{h:Jd}{T T':Jc}(X:K.In h)(a:pO K mg T)(b:pO K mg T'):T'=T:=by
 obtain⟨f,oc,od,fd,osl,c,a1,a2,a3,a4⟩:=a;obtain⟨f',oc',od',fd',osl',c',b1,b2,b3,b4⟩:=b;rw[a1] at b1;cases b1
 rw[a2] at b2;cases b2
 rw[a3] at b3;cases b3
 obtain⟨o,vs,_,_,_,_,_,_,_,e1,_,e3,e4,_⟩:=a4 h X;obtain⟨o',vs',_,_,_,_,_,_,_,f1,_,f3,f4,_⟩:=b4 h X;rw[e1] at f1;cases f1
 rw[e3] at f3;cases f3
 rw[e4] at f4;cases f4
 rfl
def zGh{P:Je}{w:Jf}{K:Fg_}{mg mb:Str->Option Ja}{CX:CXT}{k:Nat}{fa a T:Jc}{fd:FuncData}{x:Str}{s₁:Jb}{vs:List Ja}{ns:List Int}
  (KX:K.In s₁.heap) (hns:s₁.heap.Ns mainGlobals mg) (hb:s₁.heap.Ns builtinsNs mb) (hbb:∀ x:Str,x ≠ "__name__" -> mb x=bootBuiltins x) (hlim:s₁.heap.NoLimit) (hg:s₁.gens=#[]) (hbm:BMn s₁.heap mg) (hT:s₁.heap.get? T=some (tabObj #[])) (hKT:K.lookup T=none) (hP:pO K mg T)
  (ha:s₁.heap.get? a=some { cls:=.type "list", data:=.seq vs.toArray }) (hi:IntsAre vs ns) (hl:ns.length<=63) (hbg:∃ m,m<=1048576/\∀ n∈ns,n.natAbs<2^m) (hr:Room k callerA)
  (F:∀ base:Jd,K.In base->base.Ns mainGlobals mg->BMn base mg->FnOk P w K mg base CX k fa fd [x] (zPS K mg)) (hbind:∀(s:Jb)(u:Ja),BindsTo s fd ⟨[u],[]⟩ [(x,u)])
  (hCX:∀ H e s',CX [] H s₁ (fun _ _ _=>False) e s'->False):
  codeAny (model P w) callerA (.call (.ref fa) ⟨[.ref a],[]⟩) (fun r s'=>r=.ok (.ret (.bool true))/\OldK s₁.heap s'.heap/\s'.os=s₁.os/\AllBare s'.gens) s₁:=by
 have rv:=zAQ hi;have lenV:=hi.length;have haT:a≠T:=fun z=>by rw[z,hT] at ha;cases ha
 have core:∀ Bi:Hp,zSn Bi->SqL K Bi a (ns.map V.int)->HOk P w Bi s₁.heap->(∀ b,Bi b≠none->b=a)->(Bi a≠none->K.lookup a=none)->
   codeAny (model P w) callerA (.call (.ref fa) ⟨[.ref a],[]⟩) (fun r s'=>r=.ok (.ret (.bool true))/\OldK s₁.heap s'.heap/\s'.os=s₁.os/\AllBare s'.gens) s₁:=by
  intro Bi hO hS hokB hA hK
  have hBT:Bi T=none:=by
   cases q:Bi T with
   | none=>rfl
   | some u=>exact absurd (hA T (by rw[q];simp)).symm haT
  generalize hHdef:upd Bi T (.tbl #[])=H;have HT:H T=some (.tbl #[]):=by rw[<-hHdef,aW]
  have Hne:∀ {b},b≠T->H b=Bi b:=fun z=>by rw[<-hHdef,aY z]
  have sm:Same Bi H:=fun b o e=>by rw[Hne (bB e hBT)];exact e
  have hok:HOk P w H s₁.heap:=fun b u e=>by
   by_cases hb:b=T
   ·subst hb;rw[HT] at e;cases e;exact hT
   ·rw[Hne hb] at e
    exact(hokB b u e).stay (fun c v _ q=>q) (fun c q=>sm _ _ q) fun c xs q=>sm _ _ q
  have only:∀ {b:Jc} {o:Obj},s₁.heap.get? b=some o->(∀ xs n,o.data≠.seq xs n)->(∀ vs,o.data≠.fields vs)->H b=none:=fun {b o} e d1 d2=>by
   by_cases hb:b=T
   ·subst hb;rw[hT] at e;cases e;exact absurd rfl (d2 #[])
   ·rw[Hne hb]
    cases q:Bi b with
    | none=>rfl
    | some u=>
     have e':b=a:=hA b (by rw[q];simp)
     subst e';rw[ha] at e;cases e
     exact absurd rfl (d1 _ _)
  have base_of:∀ {b:Jc} {o:Obj},s₁.heap.get? b=some o->H b=none->(zIz s₁.heap H).get? b=some o:=fun e n=>zJU e n
  have nsK:∀ {b:Jc} {m:Str->Option Ja},s₁.heap.Ns b m->(zIz s₁.heap H).Ns b m:=fun {b m} ⟨o,es,ep,e,d,r⟩=>⟨o,es,ep,base_of e (only e (fun xs n z=>by rw[d] at z;cases z) (fun vs z=>by rw[d] at z;cases z)),d,r⟩
  have hKb:K.In (zIz s₁.heap H):=fun b o e=>base_of (KX b o e) (by
   by_cases hb:b=T
   ·subst hb;rw[hKT] at e;cases e
   ·rw[Hne hb]
    cases q:Bi b with
    | none=>rfl
    | some u=>
     have e':b=a:=hA b (by rw[q];simp)
     subst e'
     rw[hK (by rw[q];simp)] at e;cases e)
  have hBb:BMn (zIz s₁.heap H) mg:=by
   obtain⟨bm,ob,b1,b2,b3,b4,b5,b6⟩:=hbm;exact⟨bm,ob,b1,b2,base_of b3 (only b3 (fun xs n z=>by rw[b6] at z;cases z) (fun vs z=>by rw[b6] at z;cases z)),b4,b5,b6⟩
  have hM:Mod K mg (zIz s₁.heap H):=⟨hKb,nsK hns,⟨mb,nsK hb,hbb⟩,let ⟨mc,h1,h2⟩:=hlim;⟨mc,nsK h1,h2⟩⟩;have e0:Env0 P w K mg (zIz s₁.heap H) callerA [] s₁ H:=⟨rfl,hM,fun b o e=>zNl e,Yc (zIm _ _),trivial,fun b hb=>absurd (show b∈([]:List Jc) from hb) (by simp),hok,.of_eq hg⟩
  have htb:TB K mg Bi H:=fun T' h'=>by
   have e':=zIV KX hP h';subst e';exact⟨⟨#[],HT,trivial,fun pos cv z=>by cases z⟩,hBT⟩
  refine codeAny_mono ((F _ hKb (nsK hns) hBb).run callerA [] s₁ H ⟨[.ref a],[]⟩ [.ref a] [.ref a] (fun v _=>v=.bl true) (fun _ _ _=>False) hr e0 (hbind s₁ (.ref a)) (.cons rfl .nil) ⟨a,ns,Bi,rfl,htb,sm,hS,hl,hbg,fun _=>rfl⟩) fun r s' h=>?_
  cases r with
  | error e=>exact(hCX H e s' h).elim
  | ok fl=>
   cases fl with
   | next=>exact False.elim h
   | brk=>exact False.elim h
   | cont=>exact False.elim h
   | ret u=>
    obtain⟨v,H',os,bare,un,hok',r',q⟩:=h;have q':v=.bl true:=q;subst q';obtain rfl:u=Value.bool true:=r';refine⟨rfl,⟨fun b o e=>?_,fun b o e=>un.there b o e (by simp)⟩,os,bare⟩
    by_cases hbT:b=T
    ·subst hbT
     obtain⟨more,z⟩:=un.tbls b _ HT;have z2:s'.heap.get? b=some { cls:=.none,data:=.fields (#[]++more) }:=hok' b _ z;rw[hT] at e;cases e
     obtain⟨f,oc,od,fd',osl,c,a1,a2,a3,a4⟩:=hP;obtain⟨o,vs,_,_,_,_,_,_,_,e1,e2,e3,e4,_⟩:=a4 _ KX;exact .inr (.inl ⟨⟨c,o,vs,e1,e2,e3,e4⟩,rfl,#[],more,rfl,z2⟩)
    ·refine .inl ?_
     cases q:H b with
     | none=>exact un.keep b o e q (by intro z;exact absurd (show b∈([]:List Jc) from z) (by simp)) (by simp)
     | some u=>
      rw[Hne hbT] at q;rcases hO b with z | ⟨ob,xs,z⟩
      ·rw[q] at z;cases z
      ·have z2:=un.frzs b ob _ (by rw[Hne hbT];exact z)
       obtain⟨e1,_⟩:=hokB b _ z;obtain⟨e2,_⟩:=hok' b _ z2;rw[e] at e1;cases e1
       exact e2
 cases hk:K.lookup a with
 | some o=>
  have e:=KX a o hk;rw[ha] at e;cases e;refine core (fun _=>none) (fun _=>.inl rfl) (.inr ⟨_,vs.toArray,_,hk,rfl,rfl,rfl,by rw[Qh,lenV,Jv];omega,by simpa using rv⟩) (fun b u z=>by have z':(none:Option HO)=some u:=z;cases z') (fun b z=>absurd rfl z) fun z=>absurd rfl z
 | none=>
  refine core (fun b=>if b=a then some (.frz { cls:=.type "list", data:=.seq vs.toArray } (.lst (ns.map V.int))) else none) (fun b=>?_) (.inl (.inr ⟨{ cls:=.type "list", data:=.seq vs.toArray },Jj rfl⟩)) (fun b u z=>?_) (fun b z=>?_) fun _=>hk
  ·by_cases hb:b=a
   ·exact .inr ⟨_,_,Jj hb⟩
   ·exact .inl (Jk hb)
  ·by_cases hb:b=a
   ·have z':=(Jj hb).symm.trans z
    cases z'
    subst hb;exact⟨ha,by rw[Qf,Jv];omega,vs,_,rv,ha⟩
   ·have z':=(Jk hb).symm.trans z
    cases z'
  ·by_cases hb:b=a
   ·exact hb
   ·exact absurd (Jk hb) z
def zKZ:∀ {ns:List Int} {n:Int},n∈ns->(WData.int n).weight<=WData.weightAll (ns.map WData.int)
 | a::r,n,h=>by
  rw[Ql,WData.weightAll];rcases Qe.mp h with rfl | h
  ·omega
  ·have:=zKZ h
   omega
def zMm{ns:List Int}(h:WData.layableAll [WData.list (ns.map WData.int)]=true):(∃ m,m<=1048576/\∀ n∈ns,n.natAbs<2^m):=by
 refine⟨1048576,Qd _,fun n hn=>?_⟩
 have w:WData.weightAll (ns.map WData.int)<=2^20:=by
  unfold WData.layableAll WData.layable at h;simp only[List.all_cons,List.all_nil,Wn,Vh,decide_eq_true_eq] at h;have:=h.2
  rw[WData.weight] at this;exact this
 have a:=zKZ hn;rw[WData.weight] at a;by_cases z:n=0
 ·subst z
  exact Nat.two_pow_pos _
 ·rw[Jk (by simpa using z)] at a
  exact Qo Nat.lt_log2_self (Vw (by decide) (by omega))
open PySem.Calls in
def zAO{l:OpenLaw}{n:Nat}{q:Je}{loose:List Str}{XP:(Str->Option Ja)->Jd->Prop}{YP:Jf->Jd->Prop}{d:DefRec}
  (hn:l.most=some n) (hdf:d.params.defaults=[])
  (call:∀(w:Jf)(s₀ s₁:Jb)(mg mb:Str->Option Ja)(fa:Jc)(o:Obj)(pm cd doc:Ja)(a:Jc)(vs:List Ja)(ns:List Int),(∃ m,m<=1048576/\∀ n∈ns,n.natAbs<2^m)->
   Ground q loose [] XP w s₀ mg mb s₁.heap->YP w s₁.heap->
   s₁.heap.get? fa=some o->o.data=.func (docDef d.name d.params d.body d.scope pm cd doc)->s₁.heap.CodeRec cd d.name->mg d.name=some (.ref fa)->
   s₁.heap.get? a=some { cls:=.type "list", data:=.seq vs.toArray }->IntsAre vs ns->ns.length<=n->s₁.gens=#[]->
   codeAny (model l.prog w) callerA (.call (.ref fa) ⟨[.ref a],[]⟩) (fun r s'=>r=.ok (.ret (.bool true))/\OldK s₁.heap s'.heap/\s'.os=s₁.os/\AllBare s'.gens) s₁):
  WalkO q loose XP YP l.row.toRowW d [] (fun f vs=>PySem.call f vs):=by
 intro w s₀ s₁ mg mb G Y fa o pm cd doc dV kV ho hd hcd hD hmg hg args vals as hpre hlay hrd hwl hlo;obtain rfl:dV=.none:=Dflts.none hD hdf;obtain rfl:kV=.none:=Dflts.noKw hD;obtain⟨a,vs,ns,rfl,rfl,hobj,hints,hlen⟩:=Att.script_of hn hpre hwl;refine enter_call (codeAny_mono (call w s₀ s₁ mg mb fa o pm cd doc a vs ns (zMm hlay) G Y ho (fd_plain hd) hcd hmg hobj hints hlen hg) fun r s' hq=>?_)
 obtain⟨rfl,h2,h3,h4⟩:=hq;exact⟨.inl ⟨.bool true,.bool true,[],rfl,fun _=>rfl,.bool true,Att.post_true l _,fun _=>⟨List.Pairwise.nil,fun _ hm=>(nomatch hm)⟩⟩,h2,h3,h4⟩
def zQE{l:PySem.W.OpenLaw}{k:Nat}{q:Je}{loose:List Str}{XP:(Str->Option Ja)->Jd->Prop}{YP:Jf->Jd->Prop}{d:DefRec}{K:Params->PySem.W.Frag}{T:Jc}(hn:l.most=some 63)(hdf:d.params.defaults=[])(hr:Room k callerA)
  (hY:∀(w:Jf)(h:Jd),YP w h->(K w.params).In h) (hT:∀(w:Jf)(h:Jd),YP w h->h.get? T=some (tabObj #[]))
  (F:∀(w:Jf)(mg:Str->Option Ja)(fa:Jc)(h:Jd),(K w.params).In h->h.Ns mainGlobals mg->mg d.name=some (.ref fa)->
   (K w.params).lookup T=none/\pO (K w.params) mg T/\∃ fd:FuncData,(∀(s:Jb)(u:Ja),BindsTo s fd ⟨[u],[]⟩ [("script", u)])/\∀ base:Jd,(K w.params).In base->base.Ns mainGlobals mg->BMn base mg->FnOk l.prog w (K w.params) mg base (CX1 l.prog w) k fa fd ["script"] (zPS (K w.params) mg)):
  PySem.W.WalkO q loose XP YP l.row.toRowW d [] (fun f vs=>PySem.call f vs):=by
 refine zAO hn hdf fun w s₀ s₁ mg mb fa o pm cd doc a vs ns hbg G Y ho hd hcd hmg hobj hints hlen hg=>?_
 have KX:=hY w _ Y;obtain⟨h1,h2,fd,hb,hF⟩:=F w mg fa _ KX G.T.g hmg
 exact zGh KX G.T.g G.T.b G.T.builtins G.T.nolimit hg G.T.bmain (hT w _ Y) h1 h2 hobj hints hlen hbg hr hF hb fun _ _ _ z=>by
  obtain⟨_,_,_,_,_,z⟩:=z;exact z
section
variable{X:Cx}{G:Gx}
def bK{i:Int}{j pos}:PEd X G (.Constant (.int i) j pos) (eC (.int i)):=qU zGq fun _=>.int _
def aN(i:Nat){x:Str}{pos:Pos}(hN:X.N[i]?=some x:=by rfl)(hv:Vis X.env.scope x:=by first | exact Or.inl rfl | exact Or.inr (Or.inl rfl) | exact Or.inr (Or.inr rfl))(hd:(x==("__debug__" : Str))=false:=by decide)
  (hcd:(x==("__classdict__" : Str))=false:=by decide):PEd X G (.Name x pos) (aE i):=zPO i (pv i hN hv hd hcd)
def gG(n:Nat){x:Str}{pos p2:Pos}{i:Int}{j p1}(hN:X.N[n]?=some x:=by rfl)(hv:Vis X.env.scope x:=by first | exact Or.inl rfl | exact Or.inr (Or.inl rfl) | exact Or.inr (Or.inr rfl))(hd:(x==("__debug__" : Str))=false:=by decide)
  (hcd:(x==("__classdict__" : Str))=false:=by decide):PEd X G (.Subscript (.Name x pos) (.Constant (.int i) j p1) p2) (eOp oIx (aE n) (eC (.int i))):=zAV gH zKR (aN n hN hv hd hcd) bK (fun _ _=>rfl)
end
section
variable{X:Cx}{G:Gx}{a:Expr}{f:Ev}
def zQd{i:Int}{j p1 p2}(h:PEd X G a f):PEd X G (.Subscript a (.Constant (.int i) j p1) p2) (eOp oIx f (eC (.int i))):=zAV gH zKR h bK (fun _ _=>rfl)
def wA(h:PEd X G a f)(n:Nat){x:Str}{pos p2:Pos}(hN:X.N[n]?=some x:=by rfl)(hv:Vis X.env.scope x:=by first | exact Or.inl rfl | exact Or.inr (Or.inl rfl) | exact Or.inr (Or.inr rfl))(hd:(x==("__debug__" : Str))=false:=by decide)
  (hcd:(x==("__classdict__" : Str))=false:=by decide):PEd X G (.Subscript a (.Name x pos) p2) (eOp oIx f (aE n)):=zAV gH zKR h (aN n hN hv hd hcd) (fun _ _=>rfl)
def bI(n:Nat){x:Str}{pos:Pos}(hN:X.N[n]?=some x:=by rfl)(hv:Vis X.env.scope x:=by first | exact Or.inl rfl | exact Or.inr (Or.inl rfl) | exact Or.inr (Or.inr rfl))(hd:(x==("__debug__" : Str))=false:=by decide)
  (hcd:(x==("__classdict__" : Str))=false:=by decide):PAd X G [.Name x pos] (aB (aE n) aNil):=aA (aN n hN hv hd hcd) aK aJ
def s_z(i:Nat){x:Str}{pos pos':Pos}(hN:X.N.Nodup)(he:PEd X G a f)(hi:X.N[i]?=some x:=by rfl)(hx:Loc X.env.scope x:=by first | exact Or.inl rfl | exact Or.inr rfl)(hs:swapsWith a (some (.Name x pos')) pos.line X.env=pure false:=by rfl)
  (hf:X.fn x=true∨X.env.scope.names.lookup x=some .local:=by first | exact .inl rfl | exact .inr rfl | assumption):PSd X G (.Assign [.Name x pos'] a pos) (cX i f):=zRh hN hi hx he hs hf
def g_z(i:Nat){x:Str}{pos:Pos}(hN:X.N.Nodup)(hi:X.N[i]?=some x:=by rfl)(hx:Loc X.env.scope x:=by first | exact Or.inl rfl | exact Or.inr rfl)(hf:X.fn x=true∨X.env.scope.names.lookup x=some .local:=by first | exact .inl rfl | exact .inr rfl | assumption):PGd X G (.Name x pos) (gName i):=zON hN hi hx hf
def zFi{s j p}:PAd X G [.Constant (.str s) j p] (aB (eC (.str s)) aNil):=aA (qU gC fun _=>.str _) aK dB
end
section
variable{P:Je}{w:Jf}{K:Fg_}{mg:Str->Option Ja}{base:Jd}{k:Nat}{x:Str}{st:Jh}{ps N:List Str}{f:Jc}{fd:FuncData}{b:Sv}
def fJ(F:Fn K mg x st ps f fd)(S:FnScope N ps (aG st))
  (h:∀ {cdv:Ja} {A:Jg} {outer:List Env} {s:Jb} {H:Hp} {E:XK} {G:Gx},Good (BX P w K mg base N x st f cdv A outer s H E) G k->zFa (BX P w K mg base N x st f cdv A outer s H E) G->dO (BX P w K mg base N x st f cdv A outer s H E) G (eN st) b):
  CanM P w K mg base (k+1) x ps (fn ps.length N.length b):=kN F S fun _ _ _ _ _ _ _ W R=>h W R
end
end L3
namespace L3
open PySem PySem.Spec PyProof.Rows L2
section
unseal PEd PEf PTd PWd PAd PSd dO POd PGd gF PId PSx jK PTs PCd PCf
variable{X:Cx}{G:Gx}{fs:Fv}{f:Ev}
end
end L3
namespace L3
open PySem PySem.Spec PyProof.Rows L2 PySem.W
unseal PEd PEf PTd PWd PAd PSd dO POd PGd gF PId PSx jK
section
variable{X:Cx}{G:Gx}{k:Nat}{fb fh:Sv}{body suite:List Jh}{b₀:Jh}{ce:Str}{np hpos pos:Pos}
def Good.nox(W:Good X G k):Good X.nox (G0 G) k:=⟨W.calm,W.room,fun _ _ _ _ _ _ _ h=>by
 obtain⟨_,_,_,_,_,_,_,h⟩:=h
 exact h.elim,PassesOwn.never,W.tb⟩
def zOP(W:Good X G k)(O:Own X)(hT:Cat X.K X.mg ce ce)(hg:Gl X ce)
  (hb:jK X G body fb) (hh:∀ ea,GoodH (nL X ea)->dO (nL X ea) (G0 G) (b₀::suite) fh) (hd:(ce==("__debug__" : Str))=false:=by decide):
  PSd X G (.Try body [.ExceptHandler (some (.Name ce np)) none (b₀::suite) hpos] [] [] pos) (zGa ce fb fh):=by
 intro Md s p H E I q;obtain⟨ρ,Hi,R,h⟩:=q;unfold zGa at h;have hno:fb ρ≠.no:=fun z=>by rw[z] at h;exact h
 refine wpAny_Try_except ?_
 refine wpAny_mono (hb Md s p H E ρ Hi _ I R hno ?_ ?_) (fun f s1 q=>?_) fun _ _ z=>z
 ·cases z:fb ρ with
  | no=>exact absurd z hno
  | err c=>trivial
  | ok f=>rw[z] at h;exact h
 ·rintro c ev s' z ⟨s1,H1,ea,cls,Hi',H',rfl,I1,hc,F,e1,sm⟩
  rw[z] at h
  have h2:Fin X G Hi E (if (c==ce)=true then zNw (fh ρ) else .no):=by
   have e:(if (c==ce)=true then zNw (fh ρ) else .no)=(if (c==ce)=true then (match fh ρ with
    | .ok (.ret r)=>Res.ok (Fl.ret r)
    | _=>.no) else .no):=by congr 1
   rw[e];exact h
  clear h;by_cases htb:(c==ce)=true
  ·rw[Jj htb] at h2
   have hcc:c=ce:=eq_of_beq htb;subst hcc;obtain⟨C,CE,m1,m2,T1,T2,T3⟩:=hT;rw[m1] at hc;cases hc;obtain⟨B,a0,hf,cov⟩:=F.fly;have hst:X.stack=X.env::X.outer:=O.stk;have hfr:X.A.frames=some (X.env::X.outer):=by rw[I1.ok.frames,hst]
   have hf1:=hf;rw[hst] at hf1;refine wpAny_looks_onW hfr O.fr hf1 fun h4 held4 up4=>?_
   refine wpAny_landsW held4 fun h5 fly5 up5=>?_
   have up5':=up4.trans up5;have fly5':Heap.FlyingW B X.stack ea (.ref C) a0 h5:=by rw[hst];exact fly5
   have I5:=Fly.stay I1 F hf cov fly5' up5' (t':=s'.toks);have tyAt:∀ {h6:Jd},Heap.FlyingW B X.stack ea (.ref C) a0 h6->zQk ea C h6:=fun z=>z.there
   refine wpAny_handleBy_cons (codeAny_handlers_test (tI (X:=nL X ea) (I5.clause ea) hg m2 ?_ hd)) (by intro q;cases q)
   refine zGt T2 T3 I5.kIn (tyAt fly5') ?_
   refine codeAny_handlers_suite ?_
   refine lands_againW fly5' fun h6 fly6 up6=>?_
   have I6:=Fly.stay I1 F hf cov fly6 (up5'.trans up6) (t':=s'.toks);have R7:=R.grow e1;have WH:GoodH (nL X ea):=⟨W.u⟩
   have hfin:∃ r,fh ρ=.ok (.ret r)/\Fin X G Hi E (.ok (.ret r)):=by
    cases zz:fh ρ with
    | no=>rw[zz] at h2;exact h2.elim
    | err c'=>rw[zz] at h2;exact h2.elim
    | ok fl=>
     rw[zz] at h2
     cases fl with
     | nx ρ'=>exact h2.elim
     | brk ρ'=>exact h2.elim
     | ctn ρ'=>exact h2.elim
     | ret r=>exact⟨r,rfl,h2⟩
   obtain⟨r,zf,hend⟩:=hfin
   have hE:=hh ea WH Md _ p _ { nx:=fun _ _=>False,rt:=E.rt } (I6.clause ea) ⟨ρ,Hi',R7,by
    rw[zf]
    cases r with
    | v d=>exact hend
    | f ds=>exact hend⟩
   refine wpAny_mono hE (fun fl s8 q=>?_) fun _ _ z=>False.elim z
   cases fl with
   | next=>obtain⟨_,_,_,q⟩:=q;exact q.elim
   | ret v=>
    obtain⟨v',p2,H2,I9,r9,q⟩:=q;exact⟨v',p2,H2,Inv.unclause I.ok I9,r9,q⟩
   | brk=>obtain⟨_,_,_,q⟩:=q;exact q.elim
   | cont=>obtain⟨_,_,_,q⟩:=q;exact q.elim
  ·rw[Jk htb] at h2;exact h2.elim
 ·cases f with
  | next=>exact Jn q
  | ret v=>exact q
  | brk=>exact q
  | cont=>exact q
end
end L3
namespace L3
open PySem PySem.Spec PyProof.Rows L2 PySem.W
unseal PEd PEf PTd PWd PAd PSd dO POd PGd gF PId PSx jK PTs PCd PCf
section
variable{X:Cx}{G:Gx}{fa fb fm:Ev}{pos:Pos}
def zNJ{i:Nat}{o o2 z0 ea eb em:Expr}{apos cpos apos2 cpos2 p1 p2 p3:Pos}(ho:PE X o (zBV i))(ho2:PE X o2 (zBV i))(hz:PEd X G z0 (eC (.int 0)))(ha:PEd X G ea fa)(hb:PEd X G eb fb)(hm:PEd X G em fm)
  (hbase:attributeBase o "append" X.env (eval o X.env)=eval o X.env:=by rfl)
  (hfew:((backTo cpos (starEach [.BinOp (.BinOp (.BinOp (.Call (.Attribute o2 "pop" apos2) [z0] [] cpos2) .Mult ea p1) .Add eb p2) .Mod em p3] X.env)).all (fun x=>!x.1) && (backToKw cpos (keywordEach [] X.env)).all (fun x=>x.1.isSome)
   && decide ([(.BinOp (.BinOp (.BinOp (.Call (.Attribute o2 "pop" apos2) [z0] [] cpos2) .Mult ea p1) .Add eb p2) .Mod em p3:Expr)].length+([]:List Keyword).length+(if ([]:List Keyword).isEmpty then 0 else 1)<30))=true:=by rfl)
  (hline:(apos.endLine==cpos.line)=true:=by rfl) (hs:starEach [.BinOp (.BinOp (.BinOp (.Call (.Attribute o2 "pop" apos2) [z0] [] cpos2) .Mult ea p1) .Add eb p2) .Mod em p3] X.env=(false,eval (.BinOp (.BinOp (.BinOp (.Call (.Attribute o2 "pop" apos2) [z0] [] cpos2) .Mult ea p1) .Add eb p2) .Mod em p3) X.env)::starEach [] X.env:=by rfl)
  (hbase2:attributeBase o2 "pop" X.env (eval o2 X.env)=eval o2 X.env:=by rfl)
  (hfew2:((backTo cpos2 (starEach [z0] X.env)).all (fun x=>!x.1) && (backToKw cpos2 (keywordEach [] X.env)).all (fun x=>x.1.isSome)
   && decide ([z0].length+([]:List Keyword).length+(if ([]:List Keyword).isEmpty then 0 else 1)<30))=true:=by rfl)
  (hline2:(apos2.endLine==cpos2.line)=true:=by rfl) (hs2:starEach [z0] X.env=(false,eval z0 X.env)::starEach [] X.env:=by rfl)
  (hsw:swapsWith (.Call (.Attribute o "append" apos) [.BinOp (.BinOp (.BinOp (.Call (.Attribute o2 "pop" apos2) [z0] [] cpos2) .Mult ea p1) .Add eb p2) .Mod em p3] [] cpos) none pos.line X.env=pure false:=by rfl):
  PSd X G (.Expr (.Call (.Attribute o "append" apos) [.BinOp (.BinOp (.BinOp (.Call (.Attribute o2 "pop" apos2) [z0] [] cpos2) .Mult ea p1) .Add eb p2) .Mod em p3] [] cpos) pos) (zEH i fa fb fm):=
 PS.wk (tH (zFG Yy Qac Qad pB ho (gY (zAE bL (zAE cY (zAE cV (zFG Yy PySem.F.slot_list_pop PySem.F.type_list_pop zIJ ho2 (gY hz mT hs2) hbase2 hfew2 hline2 hs2) ha) hb) hm) mT hs) hbase hfew hline hs) hsw) fun E b H q=>by
 obtain⟨ρ,Hi,R,h⟩:=q;unfold zEH at h
 cases z:ρ[i]? with
 | none=>rw[z] at h;exact h.elim
 | some s=>
  rw[z] at h
  cases s with
  | own ds=>
   cases ds with
   | nil=>exact h.elim
   | cons y r=>
    obtain⟨a,xs,p,h1,h2,h3,h4⟩:=R.slot i _ z
    cases h4 with
    | cons hy hr=>
     rename_i v vs
     have hlen:i<ρ.length:=by
      by_cases hl:i<ρ.length
      ·exact hl
      ·rw[Q3 (by omega)] at z;cases z
     have z':(ρ.set i (.own r))[i]?=some (.own r):=Vi hlen;refine⟨.ref a,p,.inl ⟨rfl,_,SqL.of h1⟩,?_⟩
     refine⟨.ref a,p,.inl ⟨rfl,_,SqL.of h1⟩,?_⟩
     refine⟨ρ,Hi,R,?_⟩
     intro Hi0 H0 e0 v0 r0;have hv0:=r0.intI;subst hv0;refine⟨a,v::vs,0,0,v,rfl,rfl,(e0.out h1 h2).1,by decide,by decide,?_,rfl,?_⟩
     ·unfold seqIndex?
      simp
     have R1:kY X G Hi0 (upd H0 a (.lst vs)) b (ρ.set i (.own r)):=(R.grow e0).write z p (hr.mono e0.i);refine⟨ρ.set i (.own r),Hi0,R1,jP R1 (Fin.mono h e0.i) fun d1 Hi1 H1 _ e1 k1 w1 s1=>?_⟩
     have R2:=R1.grow e1
     cases zm:qX y d1 with
     | no=>rw[zm] at k1;exact k1.elim
     | err c=>exact absurd zm (jA (X:=X).1 y d1 c)
     | ok u=>
      rw[zm,Res.ok_bind] at k1;refine jA.2 Hi1 H1 v w1 y d1 u _ R2.s ((hy.mono e0.i).mono e1.i) s1 zm fun v2 Hi2 H2 e2 s2=>?_
      have R3:=R2.grow e2;refine⟨ρ.set i (.own r),Hi2,R3,jP R3 (Fin.mono k1 e2.i) fun d3 Hi3 H3 _ e3 k3 w3 s3=>?_⟩
      have R4:=R3.grow e3
      cases za:rA u d3 with
      | no=>rw[za] at k3;exact k3.elim
      | err c=>exact absurd za (jI (X:=X).1 u d3 c)
      | ok w=>
       rw[za,Res.ok_bind] at k3;refine jI.2 Hi3 H3 v2 w3 u d3 w _ R4.s (s2.mono e3.i) s3 za fun v4 Hi4 H4 e4 s4=>?_
       have R5:=R4.grow e4;refine⟨ρ.set i (.own r),Hi4,R5,jP R5 (Fin.mono k3 e4.i) fun d5 Hi5 H5 _ e5 k5 w5 s5=>?_⟩
       have R6:=R5.grow e5
       cases zo:kL w d5 with
       | no=>rw[zo] at k5;exact k5.elim
       | err c=>exact absurd zo (eA (X:=X).1 w d5 c)
       | ok v'=>
        rw[zo,Res.ok_bind] at k5;refine eA.2 Hi5 H5 v4 w5 w d5 v' _ R6.s (s4.mono e5.i) s5 zo fun v6 Hi6 H6 e6 s6=>?_
        have R7:=R6.grow e6;have k6:Fin X G Hi6 E (if r.length<16777216 then Res.ok (Fl.nx (ρ.set i (.own (r++[v'])))) else .no):=Fin.mono k5 e6.i;obtain⟨a',xs',p',g1,g2,g3,g4⟩:=R7.slot i _ z';rw[p] at p';cases p'
        by_cases hzz:r.length<16777216
        ·rw[Jj hzz] at k6
         refine⟨a,xs',v6,rfl,rfl,g1,by rw[g4.length];exact hzz,?_⟩
         have R8:=R7.write z' p (g4.append (.cons s6 .nil));rw[List.set_set] at R8;exact k6 b Hi6 _ (Same.refl _) R8
        ·rw[Jk hzz] at k6;exact k6.elim
  | un=>exact h.elim
  | val d=>exact h.elim
  | exc c=>exact h.elim
  | tab T=>exact h.elim
end
end L3
namespace PySem.W.Fast
def tw14168055578304071956:=0
def tw8992768121059506235:=0
def tw18313388737875519669:=0
def tw6768812598518485380:=0
def tw16796531576855865374:=0
def tw6884927683728483994:=0
def tw9351977424796991594:=0
def tw6905351990576051171:=0
def tw13905651739961628992:=0
def tw17016552228808214205:=0
def tw17634086608213161605:=0
def tw17057168440253305606:=0
def tw11259787590174081928:=0
def tw6616816238476592616:=0
def tw15352293867036073040:=0
def tw1831933954480760170:=0
def tw18375456983109554499:=0
def tw10242371204566707841:=0
def tw922942503702683032:=0
def tw604065600329216207:=0
def tw1009857052466749261:=0
def tw10342193637077639035:=0
def tw9431340261472560725:=0
def tw2157766760924641918:=0
def tw6076200740573807390:=0
def tw12830614261987142175:=0
def tw9525085398996721737:=0
def tw2152379929788724257:=0
def tw770020906537392918:=0
def tw10176289484365151324:=0
def tw17745559762869490876:=0
def tw16806790344316178257:=0
def tw13255287258874228978:=0
def tw12465626897195325002:=0
def tw14194363103867956483:=0
def tw15785982208073762725:=0
def tw3275795653814079567:=0
def tw17395041750868095588:=0
def tw8350520440336368613:=0
def tw8977981410582349492:=0
def tw5628105988550858770:=0
def tw12457046729953599603:=0
def tw14539006201154347215:=0
def tw15528178843990860589:=0
def tw2197830968680630312:=0
def tw17550522005424564362:=0
def tw11410142261261956265:=0
def tw14938058086355137066:=0
def tw4755219917214034526:=0
def tw9904806549793315258:=0
def tw10068394539742098211:=0
def tw6770900400988170027:=0
def tw4485208541739005517:=0
def tw11109382371093777918:=0
def tw2287180467317901418:=0
def tw1757708751986197866:=0
def tw2892399878886915749:=0
def tw1673111496349732582:=0
def tw8561473433114147730:=0
def tw11327546916408776667:=0
def tw12585835557782350524:=0
def tw4792552117241171051:=0
def tw3777228351742409752:=0
def tw3526778499107331608:=0
def tw11600026672100804972:=0
def tw6371421827063841805:=0
def tw1633915758271003220:=0
def tw11933553365274582447:=0
def tw1679641823929828008:=0
def tw1078840039173627327:=0
def tw16772454593136656223:=0
def tw4828557633511134714:=0
def tw7159037891869985418:=0
def tw10496804992264534419:=0
def tw205436317264440023:=0
def tw1657838322357980261:=0
def tw3073575732253822116:=0
def tw13389961172950574560:=0
def tw4060949208717225218:=0
def tw15959320821659933137:=0
def tw7542085365583017065:=0
def tw9559061007736152015:=0
def tw12809818245885866610:=0
def tw1379582890065486076:=0
def tw6511447762528187379:=0
def tw10951007961300140765:=0
def tw1606611607111546249:=0
def tw10556042468484707021:=0
def tw15258825930661929097:=0
def tw16285657725214592192:=0
def tw10221691359435488776:=0
def tw11083989480684412875:=0
def tw17040419207442621656:=0
def tw9472530005777209422:=0
def tw690182762685631497:=0
def tw3349881241657349912:=0
def tw15462995421304371028:=0
def tw16627334911759236608:=0
def tw11925928588029010338:=0
def tw449545487604975635:=0
def tw8639511721616826061:=0
def tw17899230192773205647:=0
def tw9093832788778798571:=0
def tw14729230036575104459:=0
def tw2781026541870255876:=0
def tw9112557466197147738:=0
def tw14549571024260962879:=0
def tw5025542885188590623:=0
def tw11480047067186522549:=0
def tw9201921881647532349:=0
def tw7916840991498305235:=0
def tw12839304764597051359:=0
def tw5913875626739440514:=0
def tw9864186026211853700:=0
def tw9980604940150996007:=0
def tw12695966277038783218:=0
def tw8608460377900246581:=0
def tw2822597008842099659:=0
def tw1166446030334083036:=0
def tw877016996698139358:=0
def tw12811831438001705661:=0
def tw11279119168278779702:=0
def tw13567978097201198306:=0
def tw6907284360700581002:=0
def tw12564973399914723915:=0
def tw16750420132368034777:=0
def tw14955985312180150110:=0
def tw13857380780724063719:=0
def tw10057125230901422313:=0
def tw17147547273837651231:=0
def tw3621141480172033758:=0
def tw3625253934078602557:=0
def tw3216003237969860801:=0
def tw12226674901118363292:=0
def tw13368306291208106169:=0
def tw5523343913458975589:=0
def tw15211397545298339030:=0
def tw11922621803547255706:=0
def tw9303149401688755933:=0
def tw13922998046645428530:=0
def tw17150234871138312934:=0
def tw9605703425123418228:=0
def tw12575177875183230212:=0
def tw12994569893375001924:=0
def tw9597726208528266756:=0
def tw2982503638922942244:=0
def tw15391035964865437214:=0
def tw1013328147169480652:=0
def tw13555475555408488260:=0
def tw3744374210351672191:=0
def tw4102547348566222795:=0
def tw4382880885358360376:=0
def tw2061203336177984873:=0
def tw5773935180299787399:=0
def tw4358537014489968644:=0
def tw12207075103386442713:=0
def tw2562863669438120580:=0
def tw5829525383206166770:=0
def tw15828087762258985051:=0
def tw4286120899782115987:=0
def tw5886064124817535563:=0
def tw11448656649969462465:=0
def tw14703095600052694320:=0
def tw4979176825524500785:=0
def tw5544109658120160911:=0
def tw6950303011931273814:=0
def tw15196590570043291970:=0
def tw1125692852649973666:=0
def tw11182114422806062324:=0
def tw12788137992145427948:=0
def tw8102057985944522082:=0
def tw15294750010657038609:=0
def tw12563736875485850502:=0
def tw7133422283766735148:=0
def tw10006869717680854852:=0
def tw4238181821532756835:=0
def tw10461131075089614854:=0
def tw12497209754038166436:=0
def tw14459641899546343191:=0
def tw12151574359561629538:=0
def tw591063496230097611:=0
def tw6027810371859791316:=0
def tw14952481890164645787:=0
def tw7627708290047037015:=0
def tw13726272180094934016:=0
def tw70815526828564120:=0
def tw10898022254044789950:=0
def tw2084527495069543378:=0
def tw3835689862698307899:=0
def tw133482900061222201:=0
def tw9656948513686460157:=0
def tw1684244257879984472:=0
def tw3931598541228619792:=0
def tw3371614382271588190:=0
def tw10471211559301067930:=0
def tw12512715151249823685:=0
def tw2924393963226925983:=0
def tw12838613829065524004:=0
def tw10829685077408551387:=0
def tw2276645818728079449:=0
def tw14582472433273754089:=0
def tw9256558849344274842:=0
def tw12638139703552796001:=0
def tw13475878850845072633:=0
def tw17535670399186006597:=0
def tw7702170209834497125:=0
def tw17065397400012197048:=0
def tw6082691594245588185:=0
def tw4487857133675356636:=0
def tw3901194592212239555:=0
def tw10813741355609025370:=0
def tw16926898932089222027:=0
def tw1147224923769015973:=0
def tw9441567551476857140:=0
def tw11813436174357866436:=0
def tw5785670533981334624:=0
def tw5242407346507883082:=0
def tw8905991184369062322:=0
def tw5683513522016121735:=0
def tw15495795508275068199:=0
def tw13563123835522365375:=0
def tw2162537756745141309:=0
def tw9540497513706530275:=0
def tw14521688918090954263:=0
def tw16656193621933769171:=0
def tw2760122348652518074:=0
def tw17995163673936614696:=0
def tw8736922062598450100:=0
def tw16133467881999095419:=0
def tw18401896305522769259:=0
def tw498550982512274507:=0
def tw6939150211485332846:=0
def tw13718926363113912979:=0
def tw532460932906121539:=0
def tw13458224193399365616:=0
def tw1053326284995395012:=0
def tw9214384971089669012:=0
def tw12624375470736880528:=0
def tw8530976539507090544:=0
def tw3581427729995273615:=0
def tw7347674939733176864:=0
def tw10957217060681774334:=0
def tw16616513708295966676:=0
def tw5214170206135962018:=0
def tw9492465833935571909:=0
def tw14263889342618951850:=0
def tw16006535608435155541:=0
def tw10076414318421394189:=0
def tw5610274434413964193:=0
def tw16813701107094665396:=0
def tw13785488424706341235:=0
def tw17328989642513506180:=0
def tw12595684754866798191:=0
def tw6293668751829951490:=0
def tw5014005803017859587:=0
def tw14274397466658692639:=0
def tw3233106002800805079:=0
def tw1499027433074709642:=0
def tw3995319128056669331:=0
def tw14707427335344495871:=0
def tw10145870838851121623:=0
def tw6674830542354452773:=0
def tw10191968708387962424:=0
def tw17503762070712071635:=0
def tw7351005658428929056:=0
def tw548102990107488546:=0
def tw9087506322281606479:=0
def tw2737017678908305630:=0
def tw184720414897296634:=0
def tw17664066136702051246:=0
def tw7125133922384268995:=0
def tw11217295456538924082:=0
def tw10937999073112261143:=0
def tw5107199449009280148:=0
def tw6865585865168507141:=0
def tw8589142060747289949:=0
def tw5710771401378606523:=0
def tw7996286070155410168:=0
def tw13618408225138840347:=0
def tw15920520156437258912:=0
def tw9604597340679732748:=0
def tw5035022766751281663:=0
def tw3339967859890561649:=0
def tw18022605348491163225:=0
def tw11760208369205172894:=0
def tw10498511112106999305:=0
def tw12447250265762205133:=0
def tw15749348968263987902:=0
def tw1483434947533355192:=0
def tw16900963147547312126:=0
def tw7317172339015335347:=0
def tw16327062067793544878:=0
def tw8403508001677557607:=0
def tw7311144359419661354:=0
def tw16683615757062412775:=0
def tw5850546587449836554:=0
def tw17550272528110943884:=0
def tw13962277187820217178:=0
def tw5599528025444227399:=0
def tw6841874172698614048:=0
def tw740391748314175556:=0
def tw15773755314586148301:=0
def tw11365404896018715121:=0
def tw3361826748628529375:=0
def tw3805905334110653103:=0
def tw1608685638283991490:=0
def tw16615738570536834464:=0
def tw3706584401791737193:=0
def tw2210009526489705930:=0
def tw17700566589561660034:=0
def tw2155381734713862616:=0
def tw14002003729051535505:=0
def tw14190669017851074786:=0
def tw15152321466806633619:=0
def tw613280318971868896:=0
def tw12597716609287867839:=0
def tw2939549289708580842:=0
def tw10426614768352109775:=0
def tw16765772189441871352:=0
def tw7062551576425637122:=0
def tw4674951528335267289:=0
def tw14787372548337965498:=0
def tw6711901408716453488:=0
def tw1222059122091158223:=0
def tw9071725761887376213:=0
def tw15921388473999128011:=0
def tw14044692388586640170:=0
def tw4513266403391039263:=0
def tw9739545837939060178:=0
def tw7059316954200279521:=0
def tw14434462726828585746:=0
def tw699651961470038847:=0
def tw4534574361304961153:=0
def tw9492417586348476857:=0
def tw1573466018103517734:=0
def tw10615983260735280605:=0
def tw8504555648237750764:=0
def tw8312879888687571133:=0
def tw11650727858493405041:=0
def tw16057159390470453290:=0
def tw11354013481681725245:=0
def tw17673446516496230998:=0
def tw2764072293792959423:=0
def tw2101952551388519526:=0
def tw3496388298526788368:=0
def tw8595575431192677579:=0
def tw3192925828140785692:=0
def tw6406808179064796938:=0
def tw7046281304786783868:=0
def tw13059289695922017392:=0
def tw6480041270532833928:=0
def tw12619837743566893071:=0
def tw12122597655930494201:=0
def tw523738607674454593:=0
def tw13396207895906742302:=0
def tw11049474800524313309:=0
def tw14244191552474152021:=0
def tw5993844307798971535:=0
def tw1076746844756248772:=0
def tw13449924543836511771:=0
def tw7602302477177558017:=0
def tw12577320304450474083:=0
def tw2091715122601045662:=0
def tw13897981454404697977:=0
def tw13454270072548429834:=0
def tw8537518883230526435:=0
def tw12228277906353503412:=0
def tw11216295300834953004:=0
def tw13743128617130006483:=0
def tw8068270268843139227:=0
def tw16554598960098794425:=0
def tw618008011430288614:=0
def tw18135424767008684915:=0
def tw4430185494802574247:=0
def tw14316663574156321193:=0
def tw2370344110759331037:=0
def tw15451706756939680419:=0
def tw5112426739504997685:=0
def tw2629433711414765018:=0
def tw2155354099296058276:=0
def tw15180799282408491631:=0
def tw1649542944794369973:=0
def tw3776032945932735112:=0
def tw18327902877248664898:=0
def tw5632705937087484706:=0
def tw6578221167765823251:=0
def tw17603248877269570686:=0
def tw5434068590900697291:=0
def tw609282740600233400:=0
def tw13666745402079622523:=0
def tw17956823816803145093:=0
def tw4601298582969771511:=0
def tw2552797367983643587:=0
def tw16239676077438156218:=0
def tw8316012278681632385:=0
def tw7506202367268240926:=0
def tw8001811706407833365:=0
def tw138247079076031983:=0
def tw6401790487999289238:=0
def tw8754344709153614964:=0
def tw3813757686514232415:=0
def tw7776146020812255346:=0
def tw9796126001138526269:=0
def tw3511489336566886292:=0
def tw2586250569986259998:=0
def tw2402091853230294170:=0
def tw7885906862665934591:=0
def tw5698941068313616275:=0
def tw4319400333322774460:=0
def tw15432054712476425628:=0
def tw14331726282754449165:=0
def tw16816559182811185738:=0
def tw13944789312126718620:=0
def tw5959326756657112129:=0
def tw6147959552897458057:=0
def tw3941631444770483178:=0
def tw18436430282695783017:=0
def tw9344193560493327990:=0
def tw5322964453264319343:=0
def tw6933455954632247490:=0
def tw6862404316405011152:=0
def tw11891214846881935445:=0
def tw6461242155406319751:=0
def tw11888678222805405827:=0
def tw812641463517246963:=0
def tw2122712770597031245:=0
def tw4690904787264499090:=0
def tw16447822698763190133:=0
def tw9811580704835546089:=0
def tw3376361164508117540:=0
def tw18306022793627655086:=0
def tw12950973325489821484:=0
def tw8901672600201294314:=0
def tw9259592506728600914:=0
def tw14676097788564703783:=0
def tw6515523325949605193:=0
def tw2187798158584176834:=0
def tw3569716351584664463:=0
def tw12645110059348857740:=0
def tw4712210514592975912:=0
def tw7281585274502759321:=0
def tw10170104095085844252:=0
def tw11779644804880158319:=0
def tw11271776374129007686:=0
def tw13208950984620789810:=0
def tw1943256682194985126:=0
def tw13896579984467415107:=0
def tw4473657303766993009:=0
def tw948827969482577182:=0
def tw6626674350479814085:=0
def tw9714029650931413302:=0
def tw10225107037897368970:=0
def tw9287492727725621595:=0
def tw5051552227165015704:=0
def tw18200683193381924203:=0
def tw7752032893501856013:=0
def tw4803762979194447556:=0
def tw7701910167495919399:=0
def tw9140740044656183562:=0
def tw5059108948997138478:=0
def tw11931169276378940458:=0
def tw8776584114243258902:=0
def tw4877939026514488279:=0
def tw10794204066055999149:=0
def tw13749046711022397590:=0
def tw3326983304211797880:=0
def tw6293809413600000976:=0
def tw11346465033767903954:=0
def tw9401212015104172674:=0
def tw219554889274425527:=0
def tw15479196155128982183:=0
def tw6046027084602700625:=0
def tw17496059919229169313:=0
def tw11306482456871014339:=0
def tw3064497659070219271:=0
def tw10746525352919278408:=0
def tw1691700990225912078:=0
def tw6597466131096845227:=0
def tw7568589717112139167:=0
def tw1342641234414972411:=0
def tw14838988115707030845:=0
def tw12254847452480500941:=0
def tw16847212845720146350:=0
def tw15127003329745961165:=0
def tw15746568093754166183:=0
def tw10785364757879550665:=0
def tw13473368748602744558:=0
def tw10381145772292566903:=0
def tw13985406946915969076:=0
def tw4535360398493762675:=0
def tw13443850449599973103:=0
def tw12428176286575234145:=0
def tw2753844171040922015:=0
def tw5530126052938838169:=0
def tw13348694658603219650:=0
def tw859781664866460066:=0
def tw12150837370476657644:=0
end PySem.W.Fast
namespace Lw
open L3 PySem
def tbT:List Str:=[]
def zSD:List (Str×List Str):=[]
def nJ:D:=(.tup [(.int 0),(.int 1)])
def aR:List (Str×Str):=[("row","back"),("back","row"),("even","lack"),("lack","even"),("part","part"),("half","half")]
def d_WEIGHTED:D:=(.tup [(.str "even"),(.str "lack")])
def d_HALF:D:=(.tup [(.int 1),(.int 2)])
def d_BOAT:D:=(.str "boat")
def d_MOST_BOATS:D:=(.int 12)
def d_DEEPEST:D:=(.int 8)
def d_CATCH:D:=(.str "catch")
def d_OVER:D:=(.str "over")
def d_PAIR:D:=(.str "pair")
def d_OPENED:D:=(.tup [(.str "row"),(.str "back"),(.str "part")])
abbrev pE:Sv:=(cX 1 (aE 2))
abbrev oZ:Sv:=(bC (cX 0 (aE 1)) pE)
abbrev pC:Sv:=(bC (cX 2 (eOp kL (aE 0) (aE 1))) oZ)
abbrev pH:Sv:=(fM (aE 0))
abbrev oM:Sv:=(bC (fA (eD (eOp oNe (aE 1) (eC (.int 0)))) pC) pH)
abbrev pQ:Sv:=(bC (cX 1 (eB zLD (aB (aE 1) aNil))) oM)
def cA:Mir:=fn 2 3 (bC (cX 0 (eB zLD (aB (aE 0) aNil))) pQ)
def cC:Mir:=fn 1 1 (fM (qR (aB (aE 0) (aB (eC (.int 1)) aNil))))
def mJ:Mir:=fn 2 2 (fM (eOp oLt (eOp qX (eOp oIx (aE 0) (eC (.int 0))) (eOp oIx (aE 1) (eC (.int 1)))) (eOp qX (eOp oIx (aE 1) (eC (.int 0))) (eOp oIx (aE 0) (eC (.int 1))))))
abbrev wZ:Sv:=(cX 1 (eOp qX (aE 1) (eOp oIx (aE 2) (eC (.int 1)))))
abbrev zAP:Sv:=(cX 1 (eC (.int 1)))
abbrev tG:Sv:=(vI (sT (aE 0)) (gName 2) wZ)
def nD:List D->Res (List Int):=yL zAP tG
def bW:Mir:=fn 1 1 (sIf (eD (eUn (qB aR) (aE 0))) (kZ "BadWay" (aB (eC (.str "no such way")) aNil)) sNext)
abbrev qV:Sv:=(sIf (eD (eOp oLt (aE 1) (eC (.int 0)))) (kZ "BadClaim" (aB (eC (.str "a claim is below nought")) aNil)) sNext)
abbrev qT:Sv:=(vI (sT (aE 0)) (gName 1) qV)
def dR:Mir:=fn 1 2 (bC (sIf (eD (eOp oEq (eB lM (aB (aE 0) aNil)) (eC (.int 0)))) (kZ "BadClaim" (aB (eC (.str "there is no claim")) aNil)) sNext) qT)
abbrev pF:Sv:=(sIf (zKa (eD (eOp oLt (aE 4) (eC (.int 1)))) (eD (eOp oGt (aE 4) (eOp zAK (eC (.int 10)) (eC (.int 6)))))) (kZ "BadWeights" (aB (eC (.str "a weight is not from 1 to 10 ** 6")) aNil)) sNext)
abbrev fE:Sv:=(vI (sT (aE 1)) (gName 4) pF)
abbrev iN:Sv:=(bC (sIf (eD (eOp oNe (eB lM (aB (aE 1) aNil)) (aE 3))) (kZ "BadWeights" (aB (eC (.str "more or fewer weights than are due")) aNil)) sNext) fE)
def bA:Mir:=fn 3 5 (bC (cX 3 (eIf (eD (eOp oIn (aE 0) (eC d_WEIGHTED))) (aE 2) (eC (.int 0)))) iN)
abbrev zJI:Sv:=(fM (qR (aB (eC d_BOAT) (aB (aE 0) aNil))))
def zAT:Mir:=fn 1 1 (bC (sIf (zKa (eD (eOp oLt (aE 0) (eC (.int 0)))) (eD (eOp oGt (aE 0) (eOp zAK (eC (.int 10)) (eC (.int 9)))))) (kZ "BadClaim" (aB (eC (.str "a boat's claim is not from 0 to 10 ** 9")) aNil)) sNext) zJI)
def bH:Mir:=fn 1 1 (fM (eOp oEq (eOp oIx (aE 0) (eC (.int 0))) (eC d_BOAT)))
def cQ:Mir:=fn 1 1 (fM (eOp oIx (aE 0) (eC (.int 0))))
def bJ:Mir:=fn 1 1 (fM (eOp oIx (aE 0) (eC (.int 1))))
abbrev sX:Sv:=(fM (eC (.int 0)))
def dF:Mir:=fn 2 2 (bC (sIf (eD (eOp oLt (aE 1) (eB lM (aB (aE 0) aNil)))) (fM (eOp oIx (aE 0) (aE 1))) sNext) sX)
abbrev vJ:Sv:=(cX 1 (aE 2))
abbrev vL:Sv:=(bC (cX 0 (aE 1)) vJ)
abbrev vN:Sv:=(bC (cX 2 (eOp kL (aE 0) (aE 1))) vL)
abbrev nQ:Sv:=(fM (aE 0))
def gA:Mir:=fn 2 3 (bC (fA (eD (eOp oGt (aE 1) (eC (.int 0)))) vN) nQ)
abbrev xV:Sv:=(fM (eOp oIx (aE 2) (eOp kL (eOp rA (aE 1) (eOp lJ (eOp kL (aE 0) (eC (.int 7))) (eC (.int 5)))) (eC (.int 4)))))
def gW:Mir:=fn 2 3 (bC (cX 2 (eF (pL (aB (eOp kL (eOp lJ (aE 0) (eC (.int 7))) (eC (.int 13))) (aB (eOp kL (eOp lJ (aE 0) (eC (.int 7))) (eC (.int 4))) (aB (eOp kL (eOp lJ (aE 0) (eC (.int 7))) (eOp rA (eOp zAK (eC (.int 10)) (eC (.int 9))) (eC (.int 1)))) (aB (eOp qX (eOp kL (eOp lJ (aE 0) (eC (.int 91))) (eC (.int 60))) (eOp zAK (eC (.int 10)) (eC (.int 6)))) aNil))))))) xV)
abbrev jE:Sv:=(sIf (tFrzB (eD (eOp oLt (eB lM (aB (aE 3) aNil)) (aE 2)))) (zIA 3 (aE 4)) (zEH 3 (eC (.int 10007)) (aE 4) (eOp zAK (eC (.int 10)) (eC (.int 45)))))
abbrev nT:Sv:=(gM 3)
abbrev vQ:Sv:=(bC (vI (sT (eF (zNy (eF (pL (aB (eC (.int 7)) aNil))) (eF (fSl (aE 0) (oS (aE 1)) oN))))) (gName 4) jE) nT)
def fY:Mir:=fn 3 5 (bC (zEw 3 (pL aNil)) vQ)
abbrev zIF:Sv:=(fM (qR (aB (eOp lJ (aE 0) (aE 2)) (aB (eOp lJ (aE 1) (aE 2)) aNil))))
abbrev zJJ:Sv:=(bC (sIf (eD (eOp oLt (aE 1) (eC (.int 0)))) (cX 2 (eUn zNz (aE 2))) sNext) zIF)
abbrev zIY:Sv:=(bC (cX 2 (aL cA (aB (aE 0) (aB (aE 1) aNil)))) zJJ)
def iF:Mir:=fn 2 3 (bC (sIf (eD (eOp oEq (aE 1) (eC (.int 0)))) (kZ "NoFraction" (aB (eC (.str "the bottom is nought")) aNil)) sNext) zIY)
def kE:Mir:=fn 2 2 (fM (eIf (eD (aL mJ (aB (aE 0) (aB (aE 1) aNil)))) (aE 0) (aE 1)))
def cS:Mir:=fn 2 2 (fM (eOr (aL mJ (aB (aE 0) (aB (eC nJ) aNil))) (aL mJ (aB (aE 1) (aB (aE 0) aNil)))))
abbrev zEX:Sv:=(sB (aL bA (aB (aE 0) (aB (aE 1) (aB (eB lM (aB (aE 2) aNil)) aNil)))))
abbrev zED:Sv:=(bC (sB (aL dR (aB (aE 2) aNil))) zEX)
def oP:Mir:=fn 3 3 (bC (sB (aL bW (aB (aE 0) aNil))) zED)
abbrev sG:Sv:=(fM (eUn (wQ aR) (aE 0)))
def dJ:Mir:=fn 1 1 (bC (sB (aL bW (aB (aE 0) aNil))) sG)
def aV:Mir:=fn 1 1 (fM (eIf (eD (aL bH (aB (aE 0) aNil))) (qR aNil) (eOp oIx (aE 0) (eC (.int 2)))))
abbrev zCj:Sv:=(cX 1 (aL cA (aB (aE 1) (aB (aE 2) aNil))))
abbrev zDc:Sv:=(lG (oA (sT (aE 0)) lO (eOp lJ (aE 3) (aE 1))))
abbrev zCX:Sv:=(bC (vI (sT (aE 0)) (gName 2) zCj) zDc)
def jT:Mir:=fn 1 3 (bC (cX 1 (eC (.int 0))) zCX)
abbrev zBi:Sv:=(fM (qR (aB (eOp lJ (aE 0) (aE 2)) (aB (eOp lJ (aE 1) (aE 2)) aNil))))
def dX:Mir:=fn 2 3 (bC (cX 2 (aL gA (aB (eB zLD (aB (aE 0) aNil)) (aB (aE 1) aNil)))) zBi)
def lC:Mir:=fn 2 2 (fM (aL iF (aB (eOp rA (eOp qX (eOp oIx (aE 0) (eC (.int 0))) (eOp oIx (aE 1) (eC (.int 1)))) (eOp qX (eOp oIx (aE 1) (eC (.int 0))) (eOp oIx (aE 0) (eC (.int 1))))) (aB (eOp qX (eOp oIx (aE 0) (eC (.int 1))) (eOp oIx (aE 1) (eC (.int 1)))) aNil))))
def iE:Mir:=fn 2 2 (fM (aL iF (aB (eOp yM (eOp qX (eOp oIx (aE 0) (eC (.int 0))) (eOp oIx (aE 1) (eC (.int 1)))) (eOp qX (eOp oIx (aE 1) (eC (.int 0))) (eOp oIx (aE 0) (eC (.int 1))))) (aB (eOp qX (eOp oIx (aE 0) (eC (.int 1))) (eOp oIx (aE 1) (eC (.int 1)))) aNil))))
def kB:Mir:=fn 2 2 (fM (aL iF (aB (eOp qX (eOp oIx (aE 0) (eC (.int 0))) (eOp oIx (aE 1) (eC (.int 0)))) (aB (eOp qX (eOp oIx (aE 0) (eC (.int 1))) (eOp oIx (aE 1) (eC (.int 1)))) aNil))))
def uE:Mir:=fn 2 2 (fM (aL iF (aB (eOp qX (eOp oIx (aE 0) (eC (.int 0))) (eOp oIx (aE 1) (eC (.int 1)))) (aB (eOp qX (eOp oIx (aE 0) (eC (.int 1))) (eOp oIx (aE 1) (eC (.int 0)))) aNil))))
def bN:Mir:=fn 2 2 (sIf (eD (aL cS (aB (aE 0) (aB (aE 1) aNil)))) (kZ "Outside" (aB (eC (.str "below nought, or more than there can be")) aNil)) sNext)
def fS:Mir:=fn 2 2 (lG (xD (zNv (aB (aE 1) (aB (aE 0) aNil))) (aL iF (aB (aE 2) (aB (aE 3) aNil)))))
abbrev zEZ:Sv:=(sIf (eD (eOp oEq (aL cQ (aB (aE 3) aNil)) (aE 0))) (zJq 2 (zNx (aL aV (aB (aE 3) aNil)))) (zIA 2 (aE 3)))
abbrev zEB:Sv:=(gM 2)
abbrev zEy:Sv:=(bC (vI (sT (aE 1)) (gName 3) zEZ) zEB)
abbrev zEt:Sv:=(bC (zEw 2 (pL aNil)) zEy)
def mZ:Mir:=fn 2 4 (bC (sIf (eD (eOp xB (aE 0) (eC d_OPENED))) (fM (aE 1)) sNext) zEt)
def bE:Mir:=fn 2 2 (fM (aL dX (aB (eOp rA (eOp qX (eOp oIx (aE 0) (eC (.int 0))) (eOp oIx (aE 1) (eC (.int 1)))) (eOp qX (eOp oIx (aE 1) (eC (.int 0))) (eOp oIx (aE 0) (eC (.int 1))))) (aB (eOp qX (eOp oIx (aE 0) (eC (.int 1))) (eOp oIx (aE 1) (eC (.int 1)))) aNil))))
abbrev xW:Sv:=(fM (aL dX (aB (eOp kL (eOp lJ (aE 1) (eC (.int 485))) (eOp rA (eOp qX (aE 0) (aE 2)) (eC (.int 1)))) (aB (aE 2) aNil))))
abbrev xP:Sv:=(bC (cX 2 (eOp oIx (eF (pL (aB (eC (.int 1)) (aB (eC (.int 1)) (aB (eC (.int 2)) (aB (eC (.int 12)) (aB (eOp rA (eC (.int 1)) (eOp kL (eOp lJ (aE 1) (eC (.int 5))) (eC (.int 97)))) aNil))))))) (eOp kL (aE 1) (eC (.int 5))))) xW)
def cW:Mir:=fn 2 3 (bC (cX 1 (eOp kL (aE 1) (eOp zAK (eC (.int 10)) (eC (.int 40))))) xP)
abbrev zFw:Sv:=(cX 1 (aL lC (aB (aE 1) (aB (aE 2) aNil))))
abbrev zBs:Sv:=(fM (aE 1))
abbrev zHs:Sv:=(bC (vI (sT (aE 0)) (gName 2) zFw) zBs)
def kO:Mir:=fn 1 3 (bC (cX 1 (eC nJ)) zHs)
abbrev xL:Sv:=(cX 2 (aL iE (aB (aE 2) (aB (aE 5) aNil))))
abbrev zA:Sv:=(bC (zIA 3 (aE 5)) xL)
abbrev pZ:Sv:=(bC (cX 5 (aL kE (aB (aE 2) (aB (aL cC (aB (aE 4) aNil)) aNil)))) zA)
abbrev zAk:Sv:=(gM 3)
abbrev yU:Sv:=(bC (vI (sT (aE 0)) (gName 4) pZ) zAk)
abbrev xX:Sv:=(bC (zEw 3 (pL aNil)) yU)
def fQ:Mir:=fn 2 6 (bC (cX 2 (aE 1)) xX)
abbrev wD:Sv:=(zOO 4 yM (eOp oIx (aE 0) (aE 6)))
abbrev vU:Sv:=(bC (cX 3 (zEk (aL iE (aB (aE 3) (aB (eOp oIx (aE 5) (aE 6)) aNil))))) wD)
abbrev wE:Sv:=(bC (zEM 5 (aE 6) (aL kE (aB (aE 7) (aB (aL cC (aB (eOp oIx (aE 1) (aE 6)) aNil)) aNil)))) vU)
abbrev bV:Sv:=(bC (cX 7 (aL uE (aB (aL kB (aB (aE 3) (aB (aL cC (aB (eOp oIx (aE 0) (aE 6)) aNil)) aNil))) (aB (aL cC (aB (aE 4) aNil)) aNil)))) wE)
abbrev jF:Sv:=(gM 5)
abbrev nN:Sv:=(zJR (aB (eF (fF fS (aB (aE 0) (aB (aE 1) aNil)))) aNil) nD (gName 6) bV jF)
abbrev vX:Sv:=(bC (zEw 5 (zNt (pL (aB (eC nJ) aNil)) (eB lM (aB (aE 1) aNil)))) nN)
abbrev vF:Sv:=(bC (cX 4 (eB zBW (aB (aE 0) aNil))) vX)
def dA:Mir:=fn 3 8 (bC (cX 3 (aE 2)) vF)
abbrev wK:Sv:=(lG (oA (sT (aE 0)) lO (aL kB (aB (aE 3) (aB (aL cC (aB (aE 4) aNil)) aNil)))))
abbrev vP:Sv:=(bC (cX 3 (aL uE (aB (aE 1) (aB (aL cC (aB (aE 2) aNil)) aNil)))) wK)
abbrev vZ:Sv:=(bC (sIf (eD (eOp oEq (aE 2) (eC (.int 0)))) (lG (zNt (pL (aB (eC nJ) aNil)) (eB lM (aB (aE 0) aNil)))) sNext) vP)
def eT:Mir:=fn 2 4 (bC (cX 2 (eB zBW (aB (aE 0) aNil))) vZ)
abbrev wB:Sv:=(lG (oA (sT (eF (fF dA (aB (aE 2) (aB (aE 0) (aB (aL lC (aB (aE 1) (aB (aE 1) aNil))) aNil)))))) lO (aL kB (aB (aE 3) (aB (eC d_HALF) aNil)))))
def eX:Mir:=fn 2 3 (bC (cX 2 (eF (zNt (pL (aB (eC (.int 1)) aNil)) (eB lM (aB (aE 0) aNil))))) wB)
abbrev oU(r:Mir):Sv:=(lG (xD (zNv (aB (aE 2) (aB (aE 5) aNil))) (aL iE (aB (aL cC (aB (aE 6) aNil)) (aB (aE 7) aNil)))))
abbrev pI(r:Mir):Sv:=(bC (cX 5 (eF (fF r (aB (eUn (wQ aR) (aE 0)) (aB (aE 1) (aB (aE 2) (aB (aL iE (aB (aE 4) (aB (aE 3) aNil))) aNil))))))) (oU r))
abbrev qH(r:Mir):Sv:=(bC (sIf (zCa (eD (eOp oEq (aE 0) (eC (.str "half")))) (zLZ (eD (aL mJ (aB (aE 4) (aB (aL lC (aB (aE 3) (aB (aE 3) aNil))) aNil)))))) (lG (fF eX (aB (aE 2) (aB (aE 3) aNil)))) sNext) (pI r))
abbrev qQ(r:Mir):Sv:=(bC (sIf (eD (eOp oEq (aE 0) (eC (.str "part")))) (lG (fF eT (aB (aE 2) (aB (aE 3) aNil)))) sNext) (qH r))
abbrev qJ(r:Mir):Sv:=(bC (sIf (eD (eOp oEq (aE 0) (eC (.str "even")))) (lG (fF dA (aB (aE 1) (aB (aE 2) (aB (aE 3) aNil))))) sNext) (qQ r))
abbrev qM(r:Mir):Sv:=(bC (sIf (eD (eOp oEq (aE 0) (eC (.str "row")))) (lG (fF fQ (aB (aE 2) (aB (aE 3) aNil)))) sNext) (qJ r))
def aU(r:Mir):Mir:=fn 4 6 (bC (cX 4 (aL cC (aB (eB zBW (aB (aE 2) aNil)) aNil))) (qM r))
def aQ:Nat->Mir
 | 0=>fn 4 6 sNo
 | n+1=>aU (aQ n)
abbrev zGL:Sv:=(lG (fF (aQ 2) (aB (aE 0) (aB (aE 1) (aB (aE 2) (aB (aE 3) aNil))))))
abbrev zGX:Sv:=(bC (sB (aL bN (aB (aE 3) (aB (aL cC (aB (eB zBW (aB (aE 2) aNil)) aNil)) aNil)))) zGL)
def iZ:Mir:=fn 4 4 (bC (sB (aL oP (aB (aE 0) (aB (aE 1) (aB (aE 2) aNil))))) zGX)
abbrev vV(r:Mir):Sv:=(cX 1 (eF (zNy (aE 1) (aL r (aB (aE 2) aNil)))))
abbrev vE(r:Mir):Sv:=(fM (aE 1))
abbrev vG(r:Mir):Sv:=(bC (vI (sT (eOp oIx (aE 0) (eC (.int 2)))) (gName 2) (vV r)) (vE r))
abbrev vW(r:Mir):Sv:=(bC (cX 1 (eF (pL aNil))) (vG r))
def iU(r:Mir):Mir:=fn 1 3 (bC (sIf (eD (eOp oEq (eOp oIx (aE 0) (eC (.int 0))) (eC (.str "boat")))) (fM (eF (pL (aB (eOp oIx (aE 0) (eC (.int 1))) aNil)))) sNext) (vW r))
def dD:Nat->Mir
 | 0=>fn 1 3 sNo
 | n+1=>iU (dD n)
abbrev zZ(r:Mir):Sv:=(zJq 1 (fF r (aB (aE 2) aNil)))
abbrev yK(r:Mir):Sv:=(gM 1)
abbrev yR(r:Mir):Sv:=(bC (vI (sT (aL aV (aB (aE 0) aNil))) (gName 2) (zZ r)) (yK r))
abbrev xR(r:Mir):Sv:=(bC (zEw 1 (pL aNil)) (yR r))
def kM(r:Mir):Mir:=fn 1 3 (bC (sIf (eD (aL bH (aB (aE 0) aNil))) (lG (pL (aB (eOp oIx (aE 0) (eC (.int 1))) aNil))) sNext) (xR r))
def bQ:Nat->Mir
 | 0=>fn 1 3 sNo
 | n+1=>kM (bQ n)
def oY(r:Mir):Mir:=fn 1 1 (fM (eOp rA (eC (.int 1)) (eOp (fun x y=>zCP [x,y]) (eF (oA (sT (aL aV (aB (aE 0) aNil))) lO (aL r (aB (aE 1) aNil)))) (eC (.int 0)))))
def hU:Nat->Mir
 | 0=>fn 1 1 sNo
 | n+1=>oY (hU n)
abbrev zJj:Sv:=(fM (aE 3))
abbrev zJh:Sv:=(bC (sIf (zKa (eD (eOp oEq (eB lM (aB (aE 2) aNil)) (eC (.int 0)))) (zKa (eD (eOp oGt (eB lM (aB (eF (fF (bQ 10) (aB (aE 3) aNil))) aNil)) (eC d_MOST_BOATS))) (eD (eOp oGt (aL (hU 10) (aB (aE 3) aNil)) (eC d_DEEPEST))))) (kZ "TooMany" (aB (eC (.str "no kid, or too many boats, or too deep")) aNil)) sNext) zJj)
abbrev zIC:Sv:=(bC (cX 3 (qR (aB (aE 0) (aB (eB zKh (aB (aE 1) aNil)) (aB (eB zKh (aB (aE 2) aNil)) aNil))))) zJh)
abbrev zIN:Sv:=(bC (sB (aL bA (aB (aE 0) (aB (aE 1) (aB (eB lM (aB (aE 2) aNil)) aNil))))) zIC)
def mF:Mir:=fn 3 4 (bC (sB (aL bW (aB (aE 0) aNil))) zIN)
def dM:Mir:=fn 1 1 (fM (eB zBW (aB (eF (fF (bQ 10) (aB (aE 0) aNil))) aNil)))
abbrev zFe:Sv:=(cX 3 (aE 5))
abbrev zEp:Sv:=(bC (zIA 2 (zQx (aE 1) (oS (aE 3)) (oS (aE 5)))) zFe)
abbrev wT:Sv:=(bC (cX 5 (eOp rA (aE 3) (eB lM (aB (eF (fF (bQ 10) (aB (aE 4) aNil))) aNil)))) zEp)
abbrev zEO:Sv:=(gM 2)
abbrev zEG:Sv:=(bC (vI (sT (aL aV (aB (aE 0) aNil))) (gName 4) wT) zEO)
abbrev zFd:Sv:=(bC (cX 3 (eC (.int 0))) zEG)
def iL:Mir:=fn 2 6 (bC (zEw 2 (pL aNil)) zFd)
def dS:Mir:=fn 2 2 (sIf (eD (eOp oNe (eB lM (aB (aE 1) aNil)) (eB lM (aB (eF (fF (bQ 10) (aB (aE 0) aNil))) aNil)))) (kZ "Unlike" (aB (eC (.str "not as many amounts as boats")) aNil)) sNext)
def eV:Mir:=fn 1 1 (lG (oA (sT (aL aV (aB (aE 0) aNil))) lO (aL dM (aB (aE 1) aNil))))
abbrev zR:Sv:=(fM (eOp oNe (aE 9) (aE 5)))
abbrev gD:Sv:=(bC (zGa "Outside" (zQe 9 iZ (aB (aL cQ (aB (aE 0) aNil)) (aB (aE 8) (aB (aE 7) (aB (aL lC (aB (eOp oIx (aE 5) (eC (.int 0))) (aB (eOp oIx (aE 5) (eC (.int 1))) aNil))) aNil))))) (fM (eC (.bl true)))) zR)
abbrev fZ:Sv:=(bC (sIf (eD (eOp oGt (eB lM (aB (aE 8) aNil)) (eC (.int 0)))) (cX 8 (eF (pL (aB (eOp oIx (aE 8) (aE 2)) (aB (eOp oIx (aE 8) (aE 3)) aNil))))) sNext) gD)
abbrev rX:Sv:=(bC (cX 8 (aL bJ (aB (aE 0) aNil))) fZ)
abbrev rP:Sv:=(bC (cX 7 (eF (pL (aB (aL dM (aB (eOp oIx (aE 6) (aE 2)) aNil)) (aB (aL dM (aB (eOp oIx (aE 6) (aE 3)) aNil)) aNil))))) rX)
abbrev rO:Sv:=(bC (cX 6 (aL aV (aB (aE 0) aNil))) rP)
abbrev rN:Sv:=(bC (cX 5 (eF (pL (aB (aL kO (aB (eOp oIx (aE 4) (aE 2)) aNil)) (aB (aL kO (aB (eOp oIx (aE 4) (aE 3)) aNil)) aNil))))) rO)
def jM:Mir:=fn 4 10 (bC (cX 4 (eF (fF iL (aB (aE 0) (aB (aE 1) aNil))))) rN)
abbrev zBA:Sv:=(cX 5 (eOp lJ (aE 5) (eC (.int 3))))
abbrev zBj:Sv:=(bC (zIA 3 (eOp rA (eC (.int 1)) (eOp kL (aE 5) (aE 4)))) zBA)
abbrev zAt:Sv:=(vI (sT (aE 1)) (gName 6) zBj)
abbrev zAN:Sv:=(bC (cX 5 (eOp lJ (aE 0) (eC (.int 24)))) zAt)
abbrev mO:Sv:=(sFrzAt 3 (fM (aL mF (aB (aE 2) (aB (aE 3) (aB (aE 1) aNil))))))
abbrev rT:Sv:=(bC (sIf (eD (eOp oIn (aE 2) (qR (aB (eC (.str "even")) (aB (eC (.str "lack")) aNil))))) (bC (cX 4 (eOp oIx (eF (pL (aB (eC (.int 3)) (aB (eC (.int 3)) (aB (eC (.int 3)) (aB (eOp zAK (eC (.int 10)) (eC (.int 6))) aNil)))))) (eOp kL (eOp lJ (aE 0) (eC (.int 6))) (eC (.int 4))))) zAN) sNext) mO)
abbrev rL:Sv:=(bC (zEw 3 (pL aNil)) rT)
def fU:Mir:=fn 2 7 (bC (cX 2 (eOp oIx (eF (pL (aB (eC (.str "even")) (aB (eC (.str "row")) (aB (eC (.str "lack")) (aB (eC (.str "half")) (aB (eC (.str "part")) (aB (eC (.str "back")) aNil)))))))) (eOp kL (aE 0) (eC (.int 6))))) rL)
abbrev mU:Sv:=(sIf (eD (aL jM (aB (aE 0) (aB (aE 1) (aB (aE 4) (aB (aE 5) aNil)))))) (fM (qR (aB (eC d_PAIR) (aB (aE 2) (aB (aE 4) (aB (aE 5) aNil)))))) sNext)
abbrev eY:Sv:=(vI (zFu (aB (eOp rA (aE 4) (eC (.int 1))) (aB (aE 3) aNil))) (gName 5) mU)
abbrev rZ:Sv:=(fM (eC .non))
abbrev zAz:Sv:=(bC (vI (zCv (aB (aE 3) aNil)) (gName 4) eY) rZ)
def cZ:Mir:=fn 3 6 (bC (cX 3 (eB lM (aB (aL aV (aB (aE 0) aNil)) aNil))) zAz)
abbrev tN:Sv:=(zEw 2 (zQi (zNy (eF (fSl (aE 2) oN (oS (eUn zNz (aE 8))))) (eF (pL (aB (aL fU (aB (eOp lJ (aE 7) (eC (.int 12))) (aB (eF (fSl (aE 2) (oS (eUn zNz (aE 8))) oN)) aNil))) aNil))))))
abbrev vA:Sv:=(bC (cX 8 (zEk (eOp rA (eC (.int 1)) (eOp kL (eOp lJ (aE 7) (eC (.int 3))) (eB zOz (aB (eC (.int 4)) (aB (eB lM (aB (aE 2) aNil)) aNil))))))) tN)
abbrev sZ:Sv:=(sIf (zCa (eD (eOp oEq (eOp kL (aE 7) (eC (.int 3))) (eC (.int 1)))) (eD (eOp oLt (aE 3) (eC (.int 5))))) (bC (cX 3 (eOp rA (aE 3) (eC (.int 1)))) vA) sNext)
abbrev uU:Sv:=(bC (cX 7 (eOp kL (aL dF (aB (aE 0) (aB (eOp rA (eC (.int 7)) (aE 5)) aNil))) (eOp zAK (eC (.int 10)) (eC (.int 30))))) sZ)
abbrev wJ:Sv:=(bC (zIA 2 (aL zAT (aB (aL gW (aB (aE 6) (aB (eOp kL (eOp lJ (aE 1) (eC (.int 6))) (eC (.int 3))) aNil))) aNil))) uU)
abbrev jB:Sv:=(bC (cX 6 (eOp kL (aL dF (aB (aE 0) (aB (eOp rA (eC (.int 1)) (aE 5)) aNil))) (eOp zAK (eC (.int 10)) (eC (.int 30))))) wJ)
abbrev uP:Sv:=(fM (eOp oIx (aE 2) (eC (.int 0))))
abbrev mG:Sv:=(sFrzAt 2 (bC (sIf (zKa (eD (eOp oGt (eB lM (aB (aE 2) aNil)) (eC (.int 1)))) (eD (eOp oGt (eOp kL (eOp lJ (aE 1) (eC (.int 18))) (eC (.int 4))) (eC (.int 0))))) (fM (aL fU (aB (eOp lJ (aE 1) (eC (.int 72))) (aB (aE 2) aNil)))) sNext) uP))
abbrev fX:Sv:=(bC (vI (zCv (aB (aE 4) aNil)) (gName 5) jB) mG)
abbrev nO:Sv:=(bC (sIf (eD (eOp oEq (eOp kL (eOp lJ (aE 1) (eC (.int 90))) (eC (.int 8))) (eC (.int 1)))) (cX 4 (eOp rA (aE 4) (eC (.int 6)))) sNext) fX)
abbrev nV:Sv:=(bC (cX 4 (eOp rA (eC (.int 1)) (eOp kL (aE 1) (eC (.int 6))))) nO)
abbrev nS:Sv:=(bC (cX 3 (eC (.int 0))) nV)
abbrev nR:Sv:=(bC (zEw 2 (pL aNil)) nS)
def gE:Mir:=fn 1 9 (bC (cX 1 (eOp kL (aL dF (aB (aE 0) (aB (eC (.int 0)) aNil))) (eOp zAK (eC (.int 10)) (eC (.int 30))))) nR)
abbrev zBS(r:Mir):Sv:=(fM (aL mF (aB (aL dJ (aB (aL cQ (aB (aE 0) aNil)) aNil)) (aB (aL bJ (aB (aE 0) aNil)) (aB (aE 1) aNil)))))
abbrev zBv(r:Mir):Sv:=(bC (cX 1 (eF (oA (sT (aL aV (aB (aE 0) aNil))) lO (aL r (aB (aE 2) aNil))))) (zBS r))
def nF(r:Mir):Mir:=fn 1 2 (bC (sIf (eD (aL bH (aB (aE 0) aNil))) (fM (aE 0)) sNext) (zBv r))
def eS:Nat->Mir
 | 0=>fn 1 2 sNo
 | n+1=>nF (eS n)
abbrev zGS(r:Mir):Sv:=(fM (aL mF (aB (aL cQ (aB (aE 0) aNil)) (aB (eF (fF jT (aB (aL bJ (aB (aE 0) aNil)) aNil))) (aB (aL mZ (aB (aL cQ (aB (aE 0) aNil)) (aB (aE 1) aNil))) aNil)))))
abbrev zHO(r:Mir):Sv:=(bC (sIf (eD (eOp oEq (eB lM (aB (aE 1) aNil)) (eC (.int 1)))) (fM (eOp oIx (aE 1) (eC (.int 0)))) sNext) (zGS r))
abbrev zFq(r:Mir):Sv:=(bC (cX 1 (eF (oA (sT (aL aV (aB (aE 0) aNil))) lO (aL r (aB (aE 2) aNil))))) (zHO r))
def yC(r:Mir):Mir:=fn 1 2 (bC (sIf (eD (aL bH (aB (aE 0) aNil))) (fM (aE 0)) sNext) (zFq r))
def lP:Nat->Mir
 | 0=>fn 1 2 sNo
 | n+1=>yC (lP n)
abbrev rS(r:Mir):Sv:=(zJq 3 (fF r (aB (aE 4) (aB (aE 5) aNil))))
abbrev zBe(r:Mir):Sv:=(gM 3)
abbrev zBf(r:Mir):Sv:=(bC (vI (zNv (aB (aL aV (aB (aE 0) aNil)) (aB (aE 2) aNil))) (zAd (eE (gName 4) (eE (gName 5) xK))) (rS r)) (zBe r))
abbrev zAw(r:Mir):Sv:=(bC (zEw 3 (pL aNil)) (zBf r))
abbrev zBR(r:Mir):Sv:=(bC (cX 2 (eF (fF iZ (aB (aL cQ (aB (aE 0) aNil)) (aB (aL bJ (aB (aE 0) aNil)) (aB (eF (fF eV (aB (aE 0) aNil))) (aB (aE 1) aNil))))))) (zAw r))
def gU(r:Mir):Mir:=fn 2 6 (bC (sIf (eD (aL bH (aB (aE 0) aNil))) (lG (pL (aB (aE 1) aNil))) sNext) (zBR r))
def eU:Nat->Mir
 | 0=>fn 2 6 sNo
 | n+1=>gU (eU n)
abbrev zEU:Sv:=(lG (fF (eU 10) (aB (aE 0) (aB (aE 1) aNil))))
def pT:Mir:=fn 2 2 (bC (sB (aL bN (aB (aE 1) (aB (aL cC (aB (aL dM (aB (aE 0) aNil)) aNil)) aNil)))) zEU)
abbrev wC(r:Mir):Sv:=(sIf (eD (zEs (aE 3))) (fM (aE 3)) sNext)
abbrev eH(r:Mir):Sv:=(bC (cX 3 (aL r (aB (aE 6) (aB (eOp oIx (aE 4) (aE 5)) (aB (eOp rA (aE 2) (qR (aB (aE 5) aNil))) aNil))))) (wC r))
abbrev gX(r:Mir):Sv:=(fM (eC .non))
abbrev vD(r:Mir):Sv:=(bC (vI (zGm (aL aV (aB (aE 0) aNil))) (zAd (eE (gName 5) (eE (gName 6) xK))) (eH r)) (gX r))
abbrev wL(r:Mir):Sv:=(bC (cX 4 (eF (fF iL (aB (aE 0) (aB (aE 1) aNil))))) (vD r))
abbrev wH(r:Mir):Sv:=(bC (sIf (eD (zEs (aE 3))) (fM (aE 3)) sNext) (wL r))
abbrev wM(r:Mir):Sv:=(bC (cX 3 (aL cZ (aB (aE 0) (aB (aE 1) (aB (aE 2) aNil))))) (wH r))
def bF(r:Mir):Mir:=fn 3 7 (bC (sIf (eD (aL bH (aB (aE 0) aNil))) (fM (eC .non)) sNext) (wM r))
def aM:Nat->Mir
 | 0=>fn 3 7 sNo
 | n+1=>bF (aM n)
abbrev eI:Sv:=(sIf (eD (aL cS (aB (eOp oIx (aE 1) (aE 2)) (aB (aL cC (aB (aE 3) aNil)) aNil)))) (fM (qR (aB (eC d_OVER) (aB (aE 2) aNil)))) sNext)
abbrev vR:Sv:=(fM (qR (aB (eC d_CATCH) (aB (aL kO (aB (aE 1) aNil)) aNil))))
abbrev wG:Sv:=(bC (sIf (eD (zEs (aE 4))) (fM (aE 4)) sNext) vR)
abbrev dL:Sv:=(bC (cX 4 (aL (aM 10) (aB (aE 0) (aB (aE 1) (aB (qR aNil) aNil))))) wG)
abbrev vO:Sv:=(bC (vI (zGm (eF (fF (bQ 10) (aB (aE 0) aNil)))) (zAd (eE (gName 2) (eE (gName 3) xK))) eI) dL)
def aP:Mir:=fn 2 5 (bC (sB (aL dS (aB (aE 0) (aB (aE 1) aNil)))) vO)
abbrev lE:Sv:=(zEM 3 (aE 6) (zEk (aL bE (aB (eOp oIx (aE 3) (aE 6)) (aB (qR (aB (eOp yM (eC (.int 0)) (eOp oIx (aE 7) (eC (.int 0)))) (aB (eOp oIx (aE 7) (eC (.int 1))) aNil))) aNil)))))
abbrev sD:Sv:=(gM 3)
abbrev dH:Sv:=(bC (sIf (eD (eOp oEq (aE 4) (eC (.int 7)))) (zEM 3 (aE 5) (zEk (aL bE (aB (eOp oIx (aE 3) (aE 5)) (aB (qR (aB (eOp qX (eOp oIx (aE 2) (aE 5)) (eOp oIx (eF (pL (aB (eC (.int 1)) (aB (eOp yM (eC (.int 0)) (eC (.int 1))) aNil)))) (eOp kL (eOp lJ (aE 1) (eC (.int 19))) (eC (.int 2))))) (aB (eC (.int 1)) aNil))) aNil))))) sNext) sD)
abbrev cP:Sv:=(bC (sIf (eD (eOp oEq (aE 4) (eC (.int 6)))) (zEM 3 (aE 5) (aL cW (aB (eOp oIx (aE 2) (aE 5)) (aB (eOp lJ (aE 1) (eC (.int 17))) aNil)))) sNext) dH)
abbrev dU:Sv:=(bC (sIf (eD (eOp oGt (aE 4) (eC (.int 3)))) (bC (zEM 3 (aE 5) (zEk (aL bE (aB (eOp oIx (aE 3) (aE 5)) (aB (aE 7) aNil))))) lE) sNext) cP)
abbrev mY:Sv:=(bC (cX 7 (aL dX (aB (eOp rA (eC (.int 1)) (eOp kL (eOp lJ (aE 1) (eC (.int 11))) (eC (.int 3)))) (aB (eOp rA (eC (.int 1)) (eOp kL (eOp lJ (aE 1) (eC (.int 13))) (eC (.int 5)))) aNil)))) dU)
abbrev lQ:Sv:=(bC (cX 6 (eOp kL (eOp lJ (aE 1) (eC (.int 336))) (eB lM (aB (aE 2) aNil)))) mY)
abbrev mM:Sv:=(bC (cX 5 (eOp kL (eOp lJ (aE 1) (eC (.int 56))) (eB lM (aB (aE 2) aNil)))) lQ)
abbrev mC:Sv:=(bC (cX 4 (eOp kL (aE 1) (eC (.int 8)))) mM)
abbrev lR:Sv:=(bC (zEw 3 (fF pT (aB (aE 0) (aB (aL cW (aB (eB zBW (aB (aE 2) aNil)) (aB (eOp lJ (aE 1) (eC (.int 8))) aNil))) aNil)))) mC)
abbrev mK:Sv:=(bC (cX 2 (aL (dD 10) (aB (aE 0) aNil))) lR)
def fG:Mir:=fn 2 8 (bC (cX 1 (eOp kL (aE 1) (eOp zAK (eC (.int 10)) (eC (.int 45))))) mK)
abbrev zIR:Sv:=(sIf (zCa (eD (eOp oEq (eOp oIx (aE 8) (eC (.int 0))) (eC (.str "pair")))) (eD (eOp oNe (eOp oIx (aE 10) (eC (.int 0))) (eC (.str "pair"))))) (fM (eC (.bl false))) sNext)
abbrev zJs:Sv:=(bC (sIf (zCa (eD (eOp oNe (eOp oIx (aE 8) (eC (.int 0))) (eC (.str "pair")))) (eD (eOp oNe (aE 10) (aE 8)))) (fM (eC (.bl false))) sNext) zIR)
abbrev zJd:Sv:=(bC (cX 10 (aL aP (aB (aE 4) (aB (eF (zJF (aB (aE 6) aNil))) aNil)))) zJs)
abbrev zJE:Sv:=(bC (sIf (eD (eOp oNe (aL aP (aB (aE 3) (aB (aE 7) aNil))) (aE 9))) (fM (eC (.bl false))) sNext) zJd)
abbrev zJx:Sv:=(bC (sIf (eD (eOp oEq (eOp oIx (aE 8) (eC (.int 0))) (eC (.str "catch")))) (cX 9 (qR (aB (eC (.str "catch")) (aB (aL bE (aB (qR (aB (eB zBW (aB (aE 2) aNil)) (aB (eC (.int 1)) aNil))) (aB (qR (aB (eOp yM (eC (.int 0)) (eOp oIx (eOp oIx (aE 8) (eC (.int 1))) (eC (.int 0)))) (aB (eOp oIx (eOp oIx (aE 8) (eC (.int 1))) (eC (.int 1))) aNil))) aNil))) aNil)))) sNext) zJE)
abbrev zME:Sv:=(bC (cX 9 (aE 8)) zJx)
abbrev zB:Sv:=(bC (cX 8 (aL aP (aB (aE 1) (aB (eF (zJF (aB (aE 6) aNil))) aNil)))) zME)
abbrev zGR:Sv:=(bC (cX 7 (eF (oA (zCv (aB (eB lM (aB (aE 2) aNil)) aNil)) lO (aL bE (aB (qR (aB (eOp oIx (aE 2) (aE 11)) (aB (eC (.int 1)) aNil))) (aB (qR (aB (eOp yM (eC (.int 0)) (eOp oIx (eOp oIx (aE 6) (aE 11)) (eC (.int 0)))) (aB (eOp oIx (eOp oIx (aE 6) (aE 11)) (eC (.int 1))) aNil))) aNil)))))) zB)
abbrev zJ:Sv:=(bC (cX 6 (eF (fF fG (aB (aE 1) (aB (aE 5) aNil))))) zGR)
abbrev zEc:Sv:=(fM (eC (.bl true)))
abbrev zHZ:Sv:=(bC (vI (sT (eF (fF fY (aB (aE 0) (aB (eC (.int 13)) (aB (eC (.int 8)) aNil)))))) (gName 5) zJ) zEc)
abbrev zGT:Sv:=(bC (cX 4 (aL (lP 10) (aB (aE 1) aNil))) zHZ)
abbrev zFy:Sv:=(bC (cX 3 (aL (eS 10) (aB (aE 1) aNil))) zGT)
abbrev zGe:Sv:=(bC (cX 2 (aL (dD 10) (aB (aE 1) aNil))) zFy)
def zLB:Mir:=fn 1 11 (bC (cX 1 (aL gE (aB (aE 0) aNil))) zGe)
end Lw
namespace Lw
open L3 PySem Fr Fq Ln
local macro_rules | `(⋯)=>`(by omega)
local macro_rules | `(∅)=>`(by decide)
local macro_rules | `(tactic| erw[$r,*])=>do
 let t<-r.getElems.mapM fun x=>`(tactic| (symm;rw[$x:rwRule]))
 `(tactic| ($[$t]*))
def c_NOUGHT:nJ=dq 0:=rfl
local macro_rules | `(tactic| symm)=>do
 let ids:Array (Lean.TSyntax `term):=(("c_NOUGHT d_WEIGHTED d_HALF d_BOAT d_MOST_BOATS d_DEEPEST d_CATCH d_OVER d_PAIR d_OPENED fn_at eSlQ_at slQF slQE_at slQG_l slQG_t enumF_t iZip_at sTryN_at tryN_ok retO_r iEnum_at enumF_l fComp2_at chO_s oEq_s oNe_s oTabNot_s L3.start sSeq_at seqF_nx seqF_ret sSet_at setF sOwn_at ownF sRet_at retF sRetF_at retFF sRetOwn_at retS sRetN sIf_at ifF_t ifF_f sNext sNo sDrop_at dropF dropG eVar_at varS eC eOp_at opF eUn eCall_at callF rtF eB eTup_at tupF aCons_at consF consG aNil tVal_at blF tNotB_at notF tAndB_at tandF_t tandF_f tOrB_at torF_t torF_f eAnd_at andF_t andF_f eOr_at orF_t orF_f eIf_at eifF_t eifF_f eF_at efF fLst_at fLstF fCall_at fcallF rtFF fList_at fListF_l fListF_t fComp_at fRep_at repF fCat_at catF catG eFrz_at frzF fFrz_at fFrzF oN oS_at oSF fSl_at fSlF fSlG fSlH eNotN_at notNF isNon sApp_at appS appF sExt_at extS extF sAug_at augS augF xSet_at xsetF setG sUnp_at unpF nxF bSum_l bSum_t gTup_at gtF_t gCons_at gNil_at gName sFor_at forF iSeq_at seqD_l seqD_t iTpl_at tplD iRng1_at iRng2_at sFrz sFrzAt frzAt tFrzB okb erb Rt.d fin oAdd_i oSub_i oMul_i oDiv_i oMod_i oPow_i oEq_i oNe_i oLt_i oLe_i oGt_i oGe_i oIx_tc dp_mk ty_dp len_dp ix_dp0 ix_dp1 dep_dp noL_dp oEq_dp oNe_dp noLs_dps oNeg_i oNot_b bAbs_i bLen_t bLen_l bMin_i bTup_t bTup_l eIsT_at isTF isT ty_i ty_t ty_l ty_b ty_s ty_n ofO_some atD sRaise_at raiseF Sl.frz noErr dep depS noL noLs Ql Vv Uj Yt Vn List.replicate Qm V4 List.getElem?_cons_zero List.getElem?_cons_succ List.set_cons_zero List.set_cons_succ Nat.reduceAdd Nat.reduceSub Nat.reduceLeDiff Nat.reduceEqDiff Q2 X8 Nat.max_self Vl if_true ite_true ite_false if_false Xj Bool.not_true Wo reduceIte ite_self Int.toNat_zero Int.reduceToNat Int.reduceLE Int.reduceLT Xl decide_true decide_false Bool.or_true Wp Bool.true_or Bool.false_or Wn Bool.true_and U3 Bool.false_and String.reduceBEq String.reduceEq beq_self_eq_true ix_dq0 ix_dq1 ty_dq dep_dq noL_dq len_dq eq_dq oEq_dq oNe_dq Qf okDiv_lit okMul_litr okMul_litl okp9 okp30 okp40 p10 fdiv_pos fmod_pos Int.reduceEq Int.reduceNeg p10ne p10ne2 p10pos2 Int.reduceMul Int.reduceAdd Int.reduceSub Int.reduceDiv Int.reduceMod eqD Nat.reduceLT Nat.reducePow ne_eq not_true_eq_false not_false_eq_true".splitOn " ").map fun s=>⟨Lean.mkIdent s.toName⟩).toArray
 `(tactic| simp only[$[$ids:term],*])
def lF(t b:Int):cA [.int t,.int b]=.ok (.v (.int (Int.gcd t b:Int))):=by
 unfold cA;symm
 refine zKO (fun ρ=>∃(x y:Int)(r:Sl),ρ=[.val (.int x),.val (.int y),r]/\0<=x/\0<=y/\Int.gcd x y=Int.gcd t b) (fun ρ=>(slI 1 ρ).toNat)
  (fun r=>(r.bind (zDb (fM (aE 0)))).bind fin=.ok (.v (.int (Int.gcd t b:Int)))) ⟨_,_,_,rfl,⋯,⋯,by simp[Int.gcd]⟩ ?_
 rintro ρ ⟨x,y,r,rfl,hx,hy,hg⟩
 by_cases h:y=0
 ·subst h
  refine .inl ⟨rfl,?_⟩
  have e:x=(Int.gcd t b:Int):=by
   rw[Int.gcd_zero_right] at hg;omega
  rw[<-e];rfl
 ·refine .inr ⟨?_,[.val (.int y),.val (.int (x.fmod y)),.val (.int (x.fmod y))],?_,⟨y,x.fmod y,_,rfl,hy,?_,?_⟩,?_⟩
  ·symm
   rw[Ji h];rfl
  ·symm
   rw[oMod_i h];symm
  ·rw[zCd _ hy];exact Qx _ h
  ·rw[zCd _ hy];exact(Fq.zDo hx ⋯).trans hg
  ·have:=Va x (show 0<y by omega)
   rw[zCd _ hy];show(x % y).toNat<y.toNat
   omega
def zOp{t b:Int}(hb:b≠0):(dv t b).natAbs<=b.natAbs:=Nat.le_of_dvd ⋯ (Int.natAbs_dvd_natAbs.mpr (zDA t b))
def zAF{t b:Int}{n:Nat}(hb:b≠0)(hn:b.natAbs<2^n)(h:n<=8999):iF [.int t,.int b]=.ok (.v (dq (Rat.divInt t b))):=by
 have hd:lL (dv t b)=true:=sO (zND hb) (Xe (zOp hb) hn) h;have e0:decide (b=0)=false:=Ji hb;unfold iF;erw[e0,lF];symm;by_cases c:b<0
 ·have e:-(Int.gcd t b:Int)=dv t b:=by unfold dv;rw[Jj c]
  rw[J5 c];symm;rw[e,oDiv_i hd];erw[oDiv_i hd];symm;rw[zBK hb,zBP hb];rfl
 ·have e:(Int.gcd t b:Int)=dv t b:=by unfold dv;rw[Jk c]
  rw[Ji c];symm;rw[e,oDiv_i hd];erw[oDiv_i hd];symm;rw[zBK hb,zBP hb];rfl
def zQO(t:Int):iF [.int t,.int 0]=.err "NoFraction" := by
 unfold iF;symm
def xG{p q:Rat}{m n:Nat}(hp:Sz m p)(hq:Sz n q)(h:m+n<=8999):lC [dq p,dq q]=.ok (.v (dq (p+q))):=by
 unfold lC;erw[oMul_i (cB hp.1 hq.d ⋯),oMul_i (cB hq.1 hp.d ⋯),oMul_i (cB hp.d hq.d ⋯)];symm;rw[zAF (Xt (fL p) (fL q)) (fO hp.d hq.d) h,zFx];symm
def lY{p q:Rat}{m n:Nat}(hp:Sz m p)(hq:Sz n q)(h:m+n<=8999):iE [dq p,dq q]=.ok (.v (dq (p-q))):=by
 unfold iE;erw[oMul_i (cB hp.1 hq.d ⋯),oMul_i (cB hq.1 hp.d ⋯),oMul_i (cB hp.d hq.d ⋯)];symm;rw[zAF (Xt (fL p) (fL q)) (fO hp.d hq.d) h,zKn];symm
def zCW{p q:Rat}{m n:Nat}(hp:Sz m p)(hq:Sz n q)(h:m+n<=8999):kB [dq p,dq q]=.ok (.v (dq (p*q))):=by
 unfold kB;erw[oMul_i (cB hp.1 hq.1 ⋯),oMul_i (cB hp.d hq.d ⋯)];symm;rw[zAF (Xt (fL p) (fL q)) (fO hp.d hq.d) h,zLa];symm
def zKV{p q:Rat}{m n:Nat}(hp:Sz m p)(hq:Sz n q)(h0:q≠0)(h:m+n<=8999):uE [dq p,dq q]=.ok (.v (dq (p / q))):=by
 unfold uE;erw[oMul_i (cB hp.1 hq.d ⋯),oMul_i (cB hp.d hq.1 ⋯)];symm;rw[zAF (Xt (fL p) (zKB.mpr h0)) (fO hp.d hq.1) h,zHX];symm
def uI{p q:Rat}{m n:Nat}(hp:Sz m p)(hq:Sz n q)(h:m+n<=99999):mJ [dq p,dq q]=.ok (.v (.bl (decide (p<q)))):=by
 unfold mJ;erw[oMul_i (cB hp.1 hq.d ⋯),oMul_i (cB hq.1 hp.d ⋯)];symm;simp only[lt_iff]
def mn(a b:Rat):Rat:=if a<b then a else b
def ps0(x:Rat):Rat:=if x<0 then 0 else x
def hZ:List Int->Int->Rat->List Rat
 | [],_,_=>[]
 | c::r,a,q=>mn (ps0 (q-(a:Rat))) (c:Rat)::hZ r (a+c) q
def zAy:∀(cs:List Int)(a:Int)(q:Rat),(hZ cs a q).length=cs.length
 | [],_,_=>rfl
 | c::r,a,q=>by simp only[hZ,Qm,zAy r]
def zNh{q:Rat}{a c:Int}(h:0<=c):ps0 (q-(a:Rat))-mn (ps0 (q-(a:Rat))) (c:Rat)=ps0 (q-((a+c:Int):Rat)):=by
 have h':(0:Rat)<=(c:Rat):=by exact_mod_cast h
 rw[Qv];unfold ps0 mn;grind
def dC{n:Nat}{k:Int}(h:k.natAbs<2^n)(h0:0<n):Sz n (k:Rat):=by
 refine⟨h,?_⟩
 show 1<2^n
 exact Nat.one_lt_two_pow ⋯
def zPX{n:Nat}{q:Rat}(h:Sz n q)(h0:0<n):Sz n (ps0 q):=by
 unfold ps0;split
 ·exact dC (k:=0) (Nat.two_pow_pos n) h0
 ·exact h
def zLh{n:Nat}{p q:Rat}(h:Sz n p)(h':Sz n q):Sz n (mn p q):=by
 unfold mn;split
 ·exact h
 ·exact h'
def cJ(k:Int):cC [.int k]=.ok (.v (dq (k:Rat))):=by
 unfold cC;erw[zPt]
def zDk{p q:Rat}{m n:Nat}(hp:Sz m p)(hq:Sz n q)(h:m+n<=99999):kE [dq p,dq q]=.ok (.v (dq (mn p q))):=by
 unfold kE;erw[uI hp hq h];symm;unfold mn;by_cases c:p<q
 ·rw[J5 c,Jj c]
  symm
 ·rw[Ji c,Jk c]
  symm
structure Cl (cs:List Int):Prop where
 nn:∀ c∈cs,0<=c
 up:∀ c∈cs,c<10^30
 lo:1<=cs.length
 hi:cs.length<=12
def zKN:∀ {cs:List Int},(∀ c∈cs,0<=c)->(∀ c∈cs,c<10^30)->0<=cs.sum/\cs.sum<=cs.length*10^30
 | [],_,_=>∅
 | c::r,h,h'=>by
  have ih:=zKN (fun x hx=>h x (Qc _ hx)) fun x hx=>h' x (Qc _ hx)
  have a:=h c Qb;have b:=h' c Qb;rw[Qk,Qm];refine⟨⋯,?_⟩
  have:((r.length+1:Nat):Int)*10^30=(r.length:Int)*10^30+10^30:=by rw[Xw,Yd];rfl
  omega
def Cl.sum{cs:List Int}(h:Cl cs):0<=cs.sum/\cs.sum<2^104:=by
 have a:=zKN h.nn h.up;have b:=h.hi;refine⟨a.1,?_⟩
 omega
structure Haul (m:Nat) (q:Rat) (W:Int):Prop where
 nn:0<=q
 up:q<=(W:Rat)
 sz:Sz m q
def zDH{d:D}{q:Rat}{m:Nat}(hm:m<=3000)(hq:Sz m q):∀(cs:List Int)(a:Int)(acc:List D)(s t:Sl),(∀ c∈cs,0<=c)->(∀ c∈cs,c<10^30)->0<=a->a+cs.length*10^30<2^110->acc.length+cs.length<=100->
  ∃ l' s' t',loop (gName 4) pZ (cs.map D.int) [.val d,.val (dq q),.val (dq (ps0 (q-(a:Rat)))),.own acc,s,t]=.ok (.nx [.val d,.val (dq q),l',.own (acc++(hZ cs a q).map dq),s',t'])
 | [],a,acc,s,t,_,_,_,_,_=>⟨.val (dq (ps0 (q-(a:Rat)))),s,t,by rw[Vv,loop];simp[hZ]⟩
 | c::r,a,acc,s,t,h1,h2,h3,h4,h5=>by
  have c0:=h1 c Qb;have c1:=h2 c Qb;rw[Qm] at h4 h5;have e4:((r.length+1:Nat):Int)*10^30=(r.length:Int)*10^30+10^30:=by rw[Xw,Yd];rfl
  have r0:0<=(r.length:Int)*10^30:=Ul ⋯ ∅
  have zl:Sz (m+111) (ps0 (q-(a:Rat))):=zPX (hq.sub (dC (n:=110) ⋯ ∅)) ⋯
  have zc:Sz (m+111) (c:Rat):=Sz.mono (m:=110) (dC ⋯ ∅) ⋯
  obtain⟨l',s',t',e⟩:=zDH hm hq r (a+c) (acc++[dq (mn (ps0 (q-(a:Rat))) (c:Rat))]) (.val (.int c)) (.val (dq (mn (ps0 (q-(a:Rat))) (c:Rat)))) (fun x hx=>h1 x (Qc _ hx)) (fun x hx=>h2 x (Qc _ hx)) ⋯ ⋯ (by rw[Qi,X7];omega)
  refine⟨l',s',t',?_⟩
  rw[Ql,iA (ρ1:=[.val d,.val (dq q),.val (dq (ps0 (q-(a:Rat)))),.own acc,.val (.int c),t]) rfl,e]
  ·rw[hZ,Ql,V3];rfl
  ·symm
   rw[cJ];erw[zDk zl zc ⋯,Jj ⋯,lY zl (zLh zl zc) ⋯,zNh c0]
def zCG{d:D}{cs:List Int}{q:Rat}(hd:d=.lst (cs.map D.int)∨d=.tup (cs.map D.int)){m:Nat}(hm:m<=3000)(hc:Cl cs)(hq:Sz m q)(h0:0<=q):fQ [d,dq q]=.ok (.f ((hZ cs 0 q).map dq)):=by
 have sq:zIw d=.ok (cs.map D.int):=by rcases hd with rfl | rfl<;>rfl
 have:=hc.hi
 obtain⟨l',s',t',e⟩:=zDH (d:=d) hm hq cs 0 [] .un .un hc.nn hc.up ∅ ⋯ (by rw[V4];omega)
 have z:ps0 (q-((0:Int):Rat))=q:=by
  unfold ps0;rw[show((0:Int):Rat)=0 from rfl];grind
 rw[z] at e;unfold fQ;erw[sq,e];rfl
def zAe(cs:List Int)(q:Rat):List Rat:=cs.map fun c=>Rat.divInt (c*q.num) (max 1 cs.sum*q.den)
def zFK{q:Rat}{c W:Int}(h:0<W):q / (W:Rat)*(c:Rat)=Rat.divInt (c*q.num) (W*q.den):=by
 have hW:(W:Rat)≠0:=by
  intro z;have:W=0:=by exact_mod_cast z
  omega
 rw[<-zHX q (W:Rat)];show Rat.divInt (q.num*((1:Nat):Int)) (q.den*W)*(c:Rat)=_
 rw[show((1:Nat):Int)=1 from rfl,V0,<-Xd (c:Rat),U8];show Rat.divInt (q.num*c) (q.den*W*((1:Nat):Int))=_
 rw[show((1:Nat):Int)=1 from rfl,V0,Yf q.num,Yf (q.den:Int)]
def kP:∀ {cs:List Int},(∀ c∈cs,0<=c)->cs.sum=0->∀ c∈cs,c=0
 | [],_,_,c,h=>by cases h
 | d::r,h,e,c,hc=>by
  rw[Qk] at e;have h0:=h d Qb
  have hr:0<=r.sum:=by
   have:∀ l:List Int,(∀ c∈l,0<=c)->0<=l.sum:=by
    intro l
    induction l with
    | nil=>intro _;decide
    | cons a l ih=>intro hl;rw[Qk];have:=hl a Qb;have:=ih fun x hx=>hl x (Qc _ hx);omega
   exact this r fun x hx=>h x (Qc _ hx)
  rcases Qe.mp hc with rfl | hc
  ·omega
  ·exact kP (fun x hx=>h x (Qc _ hx)) ⋯ c hc
def zBD{d:D}{cs:List Int}{q:Rat}(hd:d=.lst (cs.map D.int)∨d=.tup (cs.map D.int)){m:Nat}(hm:m<=3000)(hc:Cl cs)(hq:Sz m q):eT [d,dq q]=.ok (.f ((zAe cs q).map dq)):=by
 have sm:=hc.sum;have hi:=hc.hi;have sq:zIw d=.ok (cs.map D.int):=by rcases hd with rfl | rfl<;>rfl
 have su:zBW [d]=.ok (.int cs.sum):=by rcases hd with rfl | rfl;exact bSum_l;exact bSum_t
 have ln:lM [d]=.ok (.int cs.length):=by rcases hd with rfl | rfl<;>(symm)
 unfold eT;erw[su];symm;by_cases c0:cs.sum=0
 ·rw[J5 c0]
  erw[ln,zFI ⋯];symm
  have e:(zAe cs q).map dq=List.replicate cs.length (dq 0):=by
   unfold zAe;rw[Qw,<-List.map_const'];refine Qy fun c h=>?_
   have c0:=kP hc.nn c0 c h;subst c0;show dq (Rat.divInt (0*q.num) _)=dq 0
   rw[Int.zero_mul,Rat.zero_divInt]
  rw[e]
 ·rw[Ji c0]
  symm;have W0:0<cs.sum:=⋯
  have zW:Sz 110 (cs.sum:Rat):=dC ⋯ ∅
  have nW:(cs.sum:Rat)≠0:=by
   intro z;have:cs.sum=0:=by exact_mod_cast z
   omega
  rw[cJ];erw[zKV hq zW nW ⋯,sq];symm
  rw[kJ (u:=D.int) (g:=fun c=>dq (Rat.divInt (c*q.num) (max 1 cs.sum*q.den))) ⋯ (fun c h=>by
   have c0:=hc.nn c h;have c1:=hc.up c h;erw[cJ,zCW (hq.div zW nW) (dC (n:=110) (k:=c) ⋯ ∅) ⋯];symm
   rw[zFK W0,Int.max_eq_right ⋯])]
  symm;unfold zAe;rw[Qw];rfl
def jS(f:Nat->Rat)(l:List Nat):Rat:=(l.map f).sum
def bD(f:Nat->Rat)(i:Nat)(l:List Nat):jS f (i::l)=f i+jS f l:=by unfold jS;rw[Ql,Qk]
def gT(f:Nat->Rat):jS f []=0:=rfl
def zI{f g:Nat->Rat}:∀ {l:List Nat},(∀ i∈l,f i<=g i)->jS f l<=jS g l
 | [],_=>Qz
 | i::l,h=>by
  rw[bD,bD];have a:=h i Qb;have b:=zI fun j hj=>h j (Qc _ hj)
  grind
def uW{f g:Nat->Rat}:∀ {l:List Nat},(∀ i∈l,f i<=g i)->jS f l=jS g l->∀ i∈l,f i=g i
 | [],_,_,i,hi=>by cases hi
 | j::l,h,e,i,hi=>by
  rw[bD,bD] at e;have a:=h j Qb;have hb:∀ i∈l,f i<=g i:=fun k hk=>h k (Qc _ hk)
  have b:=zI hb;rcases Qe.mp hi with rfl | hi
  ·grind
  ·exact uW hb (by grind) i hi
def zBE{f:Nat->Rat}{l m:List Nat}(h:l.Perm m):jS f l=jS f m:=by
 induction h with
 | nil=>rfl
 | cons x _ ih=>rw[bD,bD,ih]
 | swap x y l=>rw[bD,bD,bD,bD];grind
 | trans _ _ h1 h2=>rw[h1,h2]
def fP{w:Nat->Rat}{t:Rat}:∀ {l:List Nat},jS (fun i=>w i*t) l=t*jS w l
 | []=>by rw[gT,gT];grind
 | i::l=>by rw[bD,bD,fP];grind
def jN{f g:Nat->Rat}{l:List Nat}(h:∀ i∈l,f i=g i):jS f l=jS g l:=by unfold jS;rw[Qy h]
def zJG{w:Nat->Rat}:∀ {l:List Nat},(∀ i∈l,0<w i)->0<=jS w l
 | [],_=>Qz
 | i::l,h=>by
  rw[bD];have a:=h i Qb;have b:=zJG fun j hj=>h j (Qc _ hj)
  grind
def cN(c w:Nat->Rat)(t:Rat)(i:Nat):Rat:=mn (w i*t) (c i)
def zRk{a b c d:Rat}(h:a<=c)(h':b<=d):mn a b<=mn c d:=by unfold mn;grind
def mI{c w:Nat->Rat}{t u:Rat}{i:Nat}(hw:0<w i)(h:t<=u):cN c w t i<=cN c w u i:=
 zRk (Xx h (Vq hw)) Qz
def sU{c w:Nat->Rat}{t u:Rat}{l:List Nat}(hw:∀ i∈l,0<w i)(h:jS (cN c w t) l=jS (cN c w u) l):∀ i∈l,cN c w t i=cN c w u i:=by
 rcases Yg (a:=t) (b:=u) with g | g
 ·exact uW (fun i hi=>mI (hw i hi) g) h
 ·exact fun i hi=>(uW (fun i hi=>mI (hw i hi) g) h.symm i hi).symm
def zHl{L W w c:Rat}(hW:0<W)(h:L*w / W<c):mn (L*w / W) c=mn (w*(L / W)) c/\mn (w*(L / W)) c=w*(L / W):=by
 have e:L*w / W=w*(L / W):=by grind
 rw[e] at h ⊢
 exact⟨rfl,Jj h⟩
def zHW{r W w c:Rat}(hW:W≠0)(h:w*r<=c):mn (r*W*w / W) c=w*r:=by
 have e:r*W*w / W=w*r:=by grind
 rw[e];unfold mn;grind
def zFk{ci wi cj wj r:Rat}(h1:0<wi)(h2:0<wj)(h:ci*wj<=cj*wi)(hr:wi*r<=ci):wj*r<=cj:=by
 have a:wi*r*wj<=ci*wj:=Xm hr (Vq h2)
 have b:wj*r*wi<=cj*wi:=by
  have:wj*r*wi=wi*r*wj:=by grind
  rw[this];exact V7 a h
 exact Yq b h1
def zEI{L W w c b:Rat}(hw:0<w)(h:¬ L*w / W<c)(hW:0<W)(hb:b*W<=L):∃ b',b<=b'/\c<=w*b'/\b' * (W-w)<=L-c:=by
 have h1:c*W<=L*w:=by
  have h':=Vb.mp h;have:=Xm h' (Vq hW)
  rwa [Vr (by grind)] at this
 have e1:w*(c / w)=c:=by grind
 have e2:c / w*(W-w)=c*W / w-c:=by grind
 have e3:c*W / w<=L:=by
  have a:c*W / w*w<=L*w:=by rw[Vr (by grind)];exact h1
  exact Yq a hw
 rcases Yg (a:=b) (b:=c / w) with g | g
 ·exact⟨c / w,g,by rw[e1];exact Qz,by rw[e2];grind⟩
 ·refine⟨b,Qz,?_,?_⟩
  ·have:=Xx g (Vq hw)
   rwa [e1] at this
  ·have:=Xx g (Vq hw)
   rw[e1] at this;grind
structure Wt (ws cs:List Int):Prop where
 len:ws.length=cs.length
 lo:∀ w∈ws,1<=w
 up:∀ w∈ws,w<=10^6
def cR(cs:List Int)(i:Nat):Rat:=((cs.getD i 0:Int):Rat)
def pP:List (Nat×Rat)->List D->List D
 | [],am=>am
 | p::r,am=>pP r (am.set p.1 (dq p.2))
def wS(ws:List Int)(r:List Nat):Int:=(r.map fun i=>ws.getD i 0).sum
def qZ(ws:List Int)(i:Nat)(r:List Nat):wS ws (i::r)=ws.getD i 0+wS ws r:=by unfold wS;rw[Ql,Qk]
def aO{l:List Int}{i:Nat}(h:i<l.length):l[i]?=some (l.getD i 0):=by rw[Qq,Qj h];rfl
def zNL{i:Nat}{k e:Ev}{ρ:Rho}{ds:List D}{d:D}{j:Nat}(h1:e ρ=.ok d)(h2:ρ[i]?=some (.own ds))(h3:k ρ=.ok (.int (j:Int)))(h4:j<ds.length):zEM i k e ρ=.ok (.nx (ρ.set i (.own (ds.set j d)))):=by
 unfold zEM;rw[h1];show(match ρ[i]? with | some (.own ds)=>_ | _=>_)=_
 rw[h2];show(k ρ).bind _=_
 rw[h3];exact Jj ⟨Vg j,⋯⟩
def zNB{ds:List D}{d:D}{i:Nat}(h:i<ds.length):oIx (.lst (ds.set i d)) (.int (i:Int))=.ok d:=by
 have e:=nM (f:=id) (l:=ds.set i d) (i:=(i:Int)) (a:=d) (Vg i) (show(ds.set i d)[i]?=some d from Vi h)
 rwa [Y1] at e
def Wt.at{ws cs:List Int}(h:Wt ws cs){i:Nat}(hi:i<cs.length):1<=ws.getD i 0/\ws.getD i 0<=10^6:=by
 have:=aO (l:=ws) (i:=i) (by rw[h.len];exact hi)
 exact⟨h.lo _ (Qg this),h.up _ (Qg this)⟩
def Wt.sum{ws cs:List Int}(h:Wt ws cs):∀ {r:List Nat},(∀ i∈r,i<cs.length)->(r.length:Int)<=wS ws r/\wS ws r<=r.length*10^6
 | [],_=>⟨Xl _,Xl _⟩
 | i::r,hi=>by
  have a:=h.at (hi i Qb);have b:=h.sum fun j hj=>hi j (Qc _ hj)
  rw[qZ,Qm];omega
def Sq(d:D)(l:List Int):Prop:=d=.lst (l.map D.int)∨d=.tup (l.map D.int)
def Sq.ix{d:D}{l:List Int}(h:Sq d l){i:Nat}(hi:i<l.length):oIx d (.int (i:Int))=.ok (.int (l.getD i 0)):=by
 rcases h with rfl | rfl
 ·exact nM (Vg i) (aO hi)
 ·exact yD (Vg i) (aO hi)
def Sq.sum{d:D}{l:List Int}(h:Sq d l):zBW [d]=.ok (.int l.sum):=by
 rcases h with rfl | rfl
 ·exact bSum_l
 ·exact bSum_t
def Sq.len{d:D}{l:List Int}(h:Sq d l):lM [d]=.ok (.int l.length):=by
 rcases h with rfl | rfl
 ·rw[bLen_l,Qf]
 ·rw[bLen_t,Qf]
def Sq.seq{d:D}{l:List Int}(h:Sq d l):zIw d=.ok (l.map D.int):=by
 rcases h with rfl | rfl<;>rfl
def Sq.seqo{d:D}{l:List Int}(h:Sq d l):zIx d=some (l.map D.int):=by
 rcases h with rfl | rfl<;>rfl
def zFC{ws cs:List Int}{wd cd:D}(sw:Sq wd ws)(sc:Sq cd cs){qv s7:Sl}{L:Rat}{W:Int}{i:Nat}{am:List D}(hW:Wt ws cs)(hc:∀ c∈cs,0<=c/\c<10^30){m:Nat}(hm:m<=3000)(hL:Sz (m+250) L)(W0:0<W)(W1:W<=12*10^6)(hi:i<cs.length)(ha:am.length=cs.length){a:Rat}(ea:mn (L*cR ws i / (W:Rat)) (cR cs i)=a):
  bV [.val wd,.val cd,qv,.val (dq L),.val (.int W),.own am,.val (.int (i:Nat)),s7]=
   .ok (.nx [.val wd,.val cd,qv,.val (dq (L-a)),.val (.int (W-ws.getD i 0)),.own (am.set i (dq a)),.val (.int (i:Nat)),.val (dq (L*cR ws i / (W:Rat)))]):=by
 have hiw:i<ws.length:=by rw[hW.len];exact hi
 obtain⟨w1,w2⟩:=hW.at hi;obtain⟨c1,c2⟩:=hc _ (Qg (aO hi));have zW:Sz 24 (W:Rat):=dC ⋯ ∅
 have zw:Sz 20 (cR ws i):=dC ⋯ ∅
 have zc:Sz (m+294) (cR cs i):=Sz.mono (m:=100) (dC ⋯ ∅) ⋯
 have nW:(W:Rat)≠0:=by
  intro z;have:W=0:=by exact_mod_cast z
  omega
 have fw:cC [.int (ws.getD i 0)]=.ok (.v (dq (cR ws i))):=cJ _;have fc:cC [.int (cs.getD i 0)]=.ok (.v (dq (cR cs i))):=cJ _;have zx:Sz (m+294) (L*cR ws i / (W:Rat)):=((hL.mul zw).div zW nW).mono ⋯
 erw[sw.ix hiw,fw,zCW hL zw ⋯,cJ,zKV (hL.mul zw) zW nW ⋯];symm
 rw[zNL (j:=i) (d:=dq a) (ds:=am) (by
  erw[sc.ix hi,fc];symm;rw[zDk zx zc ⋯,ea]
  symm) rfl rfl ⋯]
 erw[zNB ⋯,lY hL (ea ▸ zLh zx zc) ⋯,sw.ix hiw];symm
def qK(ws:List Int):∀ r:List Nat,jS (cR ws) r=(wS ws r:Rat)
 | []=>rfl
 | i::r=>by rw[bD,qK ws r,qZ,Qv];rfl
def zAD{ws cs:List Int}{wd cd:D}(sw:Sq wd ws)(sc:Sq cd cs){qv:Sl}{r:Rat}{m:Nat}(hm:m<=3000)(hW:Wt ws cs)(hc:∀ c∈cs,0<=c/\c<10^30)(hr:Sz (m+150) r):∀(s:List Nat)(am:List D)(s6 s7:Sl),(∀ i∈s,i<cs.length)->(∀ i∈s,cR ws i*r<=cR cs i)->s.length<=12->am.length=cs.length->
  ∃ l' W' s' t',loop (gName 6) bV (mV s) [.val wd,.val cd,qv,.val (dq (r*(wS ws s:Rat))),.val (.int (wS ws s)),.own am,s6,s7]=
   .ok (.nx [.val wd,.val cd,qv,l',W',.own (pP (s.map fun i=>(i,cR ws i*r)) am),s',t'])
 | [],am,s6,s7,_,_,_,_=>⟨_,_,_,_,rfl⟩
 | i::s,am,s6,s7,h1,h2,h4,h5=>by
  have hi:=h1 i Qb;obtain⟨W1,W2⟩:=hW.sum h1;rw[Qm] at h4 W1 W2;have zW:Sz 24 (wS ws (i::s):Rat):=dC ⋯ ∅
  have nW:(wS ws (i::s):Rat)≠0:=by
   intro z;have:wS ws (i::s)=0:=by exact_mod_cast z
   omega
  have e1:wS ws (i::s)-ws.getD i 0=wS ws s:=by rw[qZ];omega
  have e2:r*(wS ws (i::s):Rat)-cR ws i*r=r*(wS ws s:Rat):=by
   rw[qZ,Qv];show r*(cR ws i+(wS ws s:Rat))-cR ws i*r=_
   grind
  have tn:=zFC sw sc (qv:=qv) (s7:=s7) (W:=wS ws (i::s)) (am:=am) hW hc hm ((hr.mul zW).mono ⋯) ⋯ ⋯ hi h5 (zHW nW (h2 i Qb))
  rw[e1,e2] at tn;obtain⟨l',W',s',t',e⟩:=zAD sw sc hm hW hc hr s (am.set i (dq (cR ws i*r))) _ _ (fun j hj=>h1 j (Qc _ hj)) (fun j hj=>h2 j (Qc _ hj)) ⋯ (by rw[Vf];exact h5)
  refine⟨l',W',s',t',?_⟩
  show loop _ _ (.int (i:Nat)::mV s) _=_
  rw[iA rfl tn,e];rfl
def zBz{ws cs:List Int}{wd cd:D}(sw:Sq wd ws)(sc:Sq cd cs){qv:Sl}{q:Rat}{m:Nat}(hm:m<=3000)(hW:Wt ws cs)(hc:∀ c∈cs,0<=c/\c<10^30)(hq:Sz m q):∀(s:List Nat)(k:Int)(b:Rat)(am:List D)(s6 s7:Sl),(∀ i∈s,i<cs.length)->s.Pairwise (fun i j=>cR cs i*cR ws j<=cR cs j*cR ws i)->s.length<=12->am.length=cs.length->
  0<=k->k+s.length*10^30<2^110->0<=q-(k:Rat)->q-(k:Rat)<=jS (cR cs) s->b*(wS ws s:Rat)<=q-(k:Rat)->
  ∃ t,b<=t/\jS (cN (cR cs) (cR ws) t) s=q-(k:Rat)/\(∀ i∈s,Sz (m+155) (cN (cR cs) (cR ws) t i))/\∃ l' W' s' t',loop (gName 6) bV (mV s) [.val wd,.val cd,qv,.val (dq (q-(k:Rat))),.val (.int (wS ws s)),.own am,s6,s7]=
   .ok (.nx [.val wd,.val cd,qv,l',W',.own (pP (s.map fun i=>(i,cN (cR cs) (cR ws) t i)) am),s',t'])
 | [],k,b,am,s6,s7,_,_,_,_,_,_,h6,h7,_=>⟨b,Qz,by rw[gT] at h7 ⊢;grind,fun i h=>by(cases h),_,_,_,_,rfl⟩
 | i::s,k,b,am,s6,s7,h1,h2,h3,h4,h5,h5',h6,h7,h8=>by
  have hi:=h1 i Qb;have h1':∀ j∈s,j<cs.length:=fun j hj=>h1 j (Qc _ hj)
  obtain⟨W1,W2⟩:=hW.sum h1;obtain⟨V1,V2⟩:=hW.sum h1';obtain⟨w1,w2⟩:=hW.at hi;obtain⟨c1,c2⟩:=hc _ (Qg (aO hi));obtain⟨p1,p2⟩:=Y2.mp h2;rw[Qm] at h3 h5' W1 W2;have ek:((s.length+1:Nat):Int)*10^30=(s.length:Int)*10^30+10^30:=by rw[Xw,Yd];rfl
  have k0:0<=(s.length:Int)*10^30:=Ul ⋯ ∅
  have zW:Sz 24 (wS ws (i::s):Rat):=dC ⋯ ∅
  have zk:Sz 110 (k:Rat):=dC ⋯ ∅
  have zL:Sz (m+111) (q-(k:Rat)):=(hq.sub zk).mono ⋯
  have pW:(0:Rat)<(wS ws (i::s):Rat):=by exact_mod_cast (show 0<wS ws (i::s) by omega)
  have nW:(wS ws (i::s):Rat)≠0:=fun z=>by rw[z] at pW;exact absurd pW ∅
  have pw:∀ j,j<cs.length->0<cR ws j:=fun j hj=>by
   have:=(hW.at hj).1
   unfold cR;exact_mod_cast (show 0<ws.getD j 0 by omega)
  have e1:wS ws (i::s)-ws.getD i 0=wS ws s:=by rw[qZ];omega
  have eW:(wS ws (i::s):Rat)=cR ws i+(wS ws s:Rat):=by rw[qZ,Qv];rfl
  have pV:(0:Rat)<=(wS ws s:Rat):=by exact_mod_cast (show 0<=wS ws s by omega)
  generalize hL:q-(k:Rat)=L at h6 h7 h8 zL ⊢
  have loop1:∀ {a:Rat} {l' W' s' t':Sl} {am':List D},mn (L*cR ws i / (wS ws (i::s):Rat)) (cR cs i)=a->loop (gName 6) bV (mV s) [.val wd,.val cd,qv,.val (dq (L-a)),.val (.int (wS ws s)),.own (am.set i (dq a)),.val (.int (i:Nat)),.val (dq (L*cR ws i / (wS ws (i::s):Rat)))]=.ok (.nx [.val wd,.val cd,qv,l',W',.own am',s',t'])->
    loop (gName 6) bV (mV (i::s)) [.val wd,.val cd,qv,.val (dq L),.val (.int (wS ws (i::s))),.own am,s6,s7]=.ok (.nx [.val wd,.val cd,qv,l',W',.own am',s',t']):=fun {a l' W' s' t' am'} ea e=>by
   have tn:=zFC sw sc (qv:=qv) (s7:=s7) (W:=wS ws (i::s)) (am:=am) hW hc hm (zL.mono ⋯) ⋯ ⋯ hi h4 ea
   rw[e1] at tn;show loop _ _ (.int (i:Nat)::mV s) _=_
   rw[iA rfl tn];exact e
  by_cases hx:L*cR ws i / (wS ws (i::s):Rat)<cR cs i
  ·obtain⟨x1,x2⟩:=zHl pW hx
   generalize hr:L / (wS ws (i::s):Rat)=r at x1 x2;have zr:Sz (m+135) r:=hr ▸ (zL.div zW nW).mono ⋯
   have eL:L=r*(wS ws (i::s):Rat):=by rw[<-hr,Vr nW]
   have wr:cR ws i*r<=cR cs i:=by
    have e:L*cR ws i / (wS ws (i::s):Rat)=cR ws i*r:=by rw[<-hr];grind
    rw[e] at hx;exact Vq hx
   have later:∀ j∈s,cR ws j*r<=cR cs j:=fun j hj=>zFk (pw i hi) (pw j (h1' j hj)) (p1 j hj) wr
   have gj:∀ j∈i::s,cN (cR cs) (cR ws) r j=cR ws j*r:=fun j hj=>by
    have:cR ws j*r<=cR cs j:=by
     rcases Qe.mp hj with rfl | hj
     ·exact wr
     ·exact later j hj
    unfold cN mn;grind
   have e2:L-cR ws i*r=r*(wS ws s:Rat):=by rw[eL,eW];grind
   obtain⟨l',W',s',t',e⟩:=zAD sw sc (qv:=qv) hm hW hc (zr.mono ⋯) s (am.set i (dq (cR ws i*r))) (.val (.int (i:Nat))) (.val (dq (L*cR ws i / (wS ws (i::s):Rat)))) h1' later ⋯ (by rw[Vf];exact h4)
   refine⟨r,Yq (by rw[<-eL];exact h8) pW,?_,fun j hj=>?_,l',W',s',t',loop1 (a:=cR ws i*r) (x1.trans x2) ?_⟩
   ·rw[jN gj,fP,qK,<-eL]
   ·rw[gj j hj]
    have v:=hW.at (h1 j hj);exact(Sz.mul (m:=20) (n:=m+135) (dC ⋯ ∅) zr).mono ⋯
   ·rw[e2,e,Ql,pP,gj i Qb]
    rw[Qy (g:=fun j=>(j,cN (cR cs) (cR ws) r j)) fun j hj=>by rw[gj j (Qc _ hj)]]
  ·have ea:mn (L*cR ws i / (wS ws (i::s):Rat)) (cR cs i)=cR cs i:=Jk hx
   obtain⟨b',g1,g2,g3⟩:=zEI (pw i hi) hx pW h8;have ek2:q-((k+cs.getD i 0:Int):Rat)=L-cR cs i:=by rw[Qv,<-hL];show q-((k:Rat)+cR cs i)=_;grind
   have c0:0<=cR cs i:=by unfold cR;exact_mod_cast c1
   have cL:cR cs i<=L:=by
    have y:=Xm (Vb.mp hx) (Vq pW);rw[Vr nW] at y;have y2:L*cR ws i<=L*(wS ws (i::s):Rat):=Xx (by rw[eW];grind) h6
    exact Yq (V7 y y2) pW
   rw[bD] at h7
   have g3':b' * (wS ws s:Rat)<=L-cR cs i:=by
    rw[eW] at g3;have:cR ws i+(wS ws s:Rat)-cR ws i=(wS ws s:Rat):=by grind
    rw[this] at g3;exact g3
   obtain⟨t,t1,t2,tz,l',W',s',t',e⟩:=zBz sw sc (qv:=qv) hm hW hc hq s (k+cs.getD i 0) b' (am.set i (dq (cR cs i))) (.val (.int (i:Nat))) (.val (dq (L*cR ws i / (wS ws (i::s):Rat)))) h1' p2 ⋯ (by rw[Vf];exact h4) ⋯ ⋯ (by rw[ek2];grind) (by rw[ek2];grind) (by rw[ek2];exact g3')
   have gi:cN (cR cs) (cR ws) t i=cR cs i:=by
    have:=Xx t1 (Vq (pw i hi))
    unfold cN mn;grind
   rw[ek2] at e t2;refine⟨t,V7 g1 t1,?_,fun j hj=>?_,l',W',s',t',loop1 ea ?_⟩
   ·rw[bD,gi,t2];grind
   ·rcases Qe.mp hj with rfl | hj
    ·rw[gi];exact Sz.mono (m:=100) (dC ⋯ ∅) ⋯
    ·exact tz j hj
   ·rw[e,Ql,pP,gi]
def wN{g:Nat->Rat}:∀(r:List Nat)(am:List D)(j:Nat),(pP (r.map fun i=>(i,g i)) am)[j]?=if j∈r then (if j<am.length then some (dq (g j)) else none) else am[j]?
 | [],am,j=>by simp[pP]
 | i::r,am,j=>by
  rw[Ql,pP,wN r,Vf];by_cases h1:j∈r
  ·rw[Jj h1,Jj (Qc _ h1)]
  ·rw[Jk h1]
   by_cases h2:j=i
   ·subst h2
    rw[Jj Qb];by_cases h3:j<am.length
    ·rw[Jj h3];exact Vi h3
    ·rw[Jk h3,Q3 (by rw[Vf];omega)]
   ·rw[Jk (by simp[h1,h2]),Vj (fun z=>h2 z.symm)]
def zEP{g:Nat->Rat}{r:List Nat}{n:Nat}(h:r.Perm (List.range n)):pP (r.map fun i=>(i,g i)) (List.replicate n (dq 0))=((List.range n).map g).map dq:=by
 refine Y0 fun j=>?_
 rw[wN,Qr,Qr,X5];by_cases hj:j<n
 ·rw[Jj (h.mem_iff.mpr (Qs.mpr hj)),Jj hj,Xu hj];rfl
 ·rw[Jk (fun z=>hj (Qs.mp (h.mem_iff.mp z))),Q3 (by rw[X5];omega),Q3 (by rw[Q9];omega)];rfl
def zFY(kz:List Int):∃ r,hG kz r:=⟨_,zIh kz⟩
def zLR{fs:Fv}{kf:List D->Res (List Int)}{g:Gv}{b r:Sv}{ρ:Rho}{kz:List Int}{x:Res Fl}(h1:(fs ρ).bind kf=.ok kz)(h:∀ π,hG kz π->bC (fun ρ=>loop g b (mV π) ρ) r ρ=x):zJR fs kf g b r ρ=x:=by
 obtain⟨π,hπ⟩:=zFY kz;unfold zJR;rw[h1];exact zEn hπ h
def xC:List Rat->Int
 | []=>1
 | x::r=>x.den*xC r
def zKJ(B:Int)(x:Rat):Int:=x.num*B.fdiv x.den
def zDI:∀ {l:List Rat} {x:Rat},x∈l->(x.den:Int) ∣ xC l
 | y::r,x,h=>by
  rcases Qe.mp h with rfl | h
  ·exact⟨xC r,rfl⟩
  ·exact Wq (zDI h) ⟨y.den,Yf _ _⟩
def zDY:∀ l:List Rat,0<xC l
 | []=>∅
 | x::r=>Xg (dZ x) (zDY r)
def zNY{l:List Rat}{x:Rat}(h:x∈l):((zKJ (xC l) x:Int):Rat)=x*(xC l:Rat):=by
 obtain⟨k,hk⟩:=zDI h;have d0:=dZ x;unfold zKJ;rw[fdiv_pos _ d0,hk,Int.mul_ediv_cancel_left _ ⋯,Vm,Vm]
 have e:x*((x.den:Int):Rat)=(x.num:Rat):=by
  have h1:=Xd x;rw[Yh] at h1
  have h2:((x.den:Int):Rat)≠0:=fun z=>by
   have:(x.den:Int)=0:=by exact_mod_cast z
   omega
  rw[<-Vr (a:=(x.num:Rat)) h2,h1]
 rw[<-e];grind
def zAY{a:Sl}:∀(l:List Rat)(B:Int)(s:Sl)(m:Nat),(∀ x∈l,(x.den:Int)<=10^6)->B.natAbs<2^m->m+20*l.length<=1000->
  ∃ s',loop (gName 2) wZ (l.map dq) [a,.val (.int B),s]=.ok (.nx [a,.val (.int (B*xC l)),s'])/\(B*xC l).natAbs<2^(m+20*l.length)
 | [],B,s,m,_,h2,_=>⟨s,by rw[Vv,loop,xC,V0],by rw[xC,V0];exact h2⟩
 | x::r,B,s,m,h1,h2,h3=>by
  have d1:=h1 x Qb;have d0:=dZ x;rw[Qm] at h3;have hx:((x.den:Int)).natAbs<2^20:=⋯
  obtain⟨s',e,hb⟩:=zAY r (B*x.den) (.val (dq x)) (m+20) (fun y hy=>h1 y (Qc _ hy)) (fO h2 hx) ⋯
  have ed:B*xC (x::r)=B*x.den*xC r:=by rw[xC,Xy]
  refine⟨s',?_,by rw[ed,Qm,show m+20*(r.length+1)=m+20+20*r.length by omega];exact hb⟩
  rw[ed,<-e,Ql];refine iA (ρ1:=[a,.val (.int B),.val (dq x)]) rfl ?_
  erw[oMul_i (cB (m:=m) (n:=20) h2 hx ⋯)];symm
def zDF{B:Int}(hB:B.natAbs<2^1000):∀ {l:List Rat},(∀ x∈l,(x.den:Int)<=10^6/\Sz 500 x)->oG B (l.map dq)=.ok (l.map (zKJ B))
 | [],_=>rfl
 | x::r,h=>by
  obtain⟨d1,z⟩:=h x Qb;have d0:=dZ x;have e1:lL (x.den:Int)=true:=sO (m:=20) ⋯ ⋯ ∅
  have e2:iJ x.num (B.fdiv x.den)=true:=by
   rw[fdiv_pos _ d0];refine cB (m:=500) (n:=1000) z.1 (Xe ?_ hB) ∅
   exact Int.natAbs_ediv_le_natAbs _ _
  have k1:zIv B (dq x)=.ok (zKJ B x):=by
   show(if (lL (x.den:Int) && iJ x.num (B.fdiv x.den))=true then Res.ok _ else .no)=_
   rw[e1,e2];rfl
  rw[Ql,oG,k1];show((oG B (r.map dq)).bind fun ks=>Res.ok (zKJ B x::ks))=_
  rw[zDF hB fun y hy=>h y (Qc _ hy)];rfl
def zEz{l:List Rat}(h:∀ x∈l,(x.den:Int)<=10^6/\Sz 500 x)(hl:l.length<=12):nD [.lst (l.map dq)]=.ok (l.map (zKJ (xC l))):=by
 obtain⟨s',e,hb⟩:=zAY (a:=.val (.lst (l.map dq))) l 1 .un 1 (fun x hx=>(h x hx).1) ∅ ⋯
 rw[U7] at e hb;have r1:zAP (start 3 [.lst (l.map dq)])=.ok (.nx [.val (.lst (l.map dq)),.val (.int 1),.un]):=rfl
 have r2:tG [.val (.lst (l.map dq)),.val (.int 1),.un]=.ok (.nx [.val (.lst (l.map dq)),.val (.int (xC l)),s']):=by
  symm;exact e
 unfold nD yL;rw[Jj (show [D.lst (l.map dq)].length=1 from rfl),r1];show(match tG [.val (.lst (l.map dq)),.val (.int 1),.un] with | .ok (.nx r')=>zDl r' | _=>.no)=_
 rw[r2];show(if (l.map dq).length<64 then oG (xC l) (l.map dq) else .no)=_
 rw[Jj (by rw[Qf];omega)];exact zDF (Qo hb (Vw ∅ ⋯)) h
def lvs(ws cs:List Int):List Rat:=(cs.zip ws).map fun p=>Rat.divInt p.1 p.2
def zFE{ws cs:List Int}(h:ws.length=cs.length):(lvs ws cs).length=cs.length:=by unfold lvs;rw[Qf,Wl,h,Yo]
def zPU{ws cs:List Int}{i:Nat}(h:ws.length=cs.length)(hi:i<cs.length):(lvs ws cs)[i]?=some (cR cs i / cR ws i):=by
 unfold lvs;rw[Qr]
 have:(cs.zip ws)[i]?=some (cs.getD i 0,ws.getD i 0):=by
  rw[Qaj];exact⟨aO hi,aO ⋯⟩
 rw[this];show some (Rat.divInt _ _)=_
 rw[Yh];rfl
def zDK{t b:Int}(hb:0<b):((Rat.divInt t b).den:Int)<=b:=by
 have e:=zBP (t:=t) (b:=b) ⋯
 have d0:0<=dv t b:=by unfold dv;rw[Jk ⋯];exact Vg _
 rw[<-e,zMz _ d0];exact Int.ediv_le_self _ ⋯
def zNK{ws cs:List Int}(hW:Wt ws cs)(hc:∀ c∈cs,0<=c/\c<10^30):∀ x∈lvs ws cs,(x.den:Int)<=10^6/\Sz 500 x:=fun x hx=>by
 obtain⟨p,hp,rfl⟩:=Qt.mp hx;obtain⟨h1,h2⟩:=Yn hp;have c:=hc _ h1;have w1:=hW.lo _ h2;have w2:=hW.up _ h2;have d:=zDK (t:=p.1) (b:=p.2) ⋯
 exact⟨⋯,Sz.of ⋯ ⋯ ⋯⟩
def zCA{ws cs:List Int}{wd cd:D}(sw:Sq wd ws)(sc:Sq cd cs)(hW:Wt ws cs)(hl:cs.length<=12):fS [wd,cd]=.ok (.f ((lvs ws cs).map dq)):=by
 have hw:=hW.len;unfold fS;erw[uH sc.seqo sw.seqo];symm
 rw[pM (u:=D.int) (v:=D.int) (g:=fun c w=>dq (Rat.divInt c w)) ⋯ (fun p hp=>by
  have h2:=(Yn hp).2;have w1:=hW.lo _ h2;have w2:=hW.up _ h2;erw[zAF (n:=20) ⋯ ⋯ ∅]
  symm)]
 symm;unfold lvs;rw[Qw];rfl
def xN(ws:List Int):∀ n,n<=ws.length->wS ws (List.range n)=(ws.take n).sum
 | 0,_=>rfl
 | n+1,h=>by
  have e:wS ws (List.range n++[n])=wS ws (List.range n)+ws.getD n 0:=by unfold wS;rw[Q4,V8];simp
  rw[Yz,e,xN ws n ⋯,Ud,V8,aO (show n<ws.length by omega)];simp
def zFj{ws:List Int}{r:List Nat}(h:r.Perm (List.range ws.length)):wS ws r=ws.sum:=by
 have e:=qK ws r;rw[zBE h,qK,xN ws _ (Qd _),V6] at e;have:=Rat.intCast_inj.mp e
 omega
def zOW{a b:Sv}{ρ ρ':Rho}(h:a ρ=.ok (.nx ρ')):bC a b ρ=b ρ':=by unfold bC;rw[h];rfl
def evs(ws cs:List Int)(t:Rat):List Rat:=(List.range cs.length).map (cN (cR cs) (cR ws) t)
def sA{ws cs:List Int}{wd cd:D}(sw:Sq wd ws)(sc:Sq cd cs){q:Rat}{m:Nat}(hmm:m<=3000)(hW:Wt ws cs)(hc:Cl cs)(hq:Sz m q)(h0:0<=q)(h1:q<=(cs.sum:Rat)):∃ t,0<=t/\dA [wd,cd,dq q]=.ok (.f ((evs ws cs t).map dq))/\(evs ws cs t).sum=q/\∀ i,i<cs.length->Sz (m+155) (cN (cR cs) (cR ws) t i):=by
 have hcc:∀ c∈cs,0<=c/\c<10^30:=fun c h=>⟨hc.nn c h,hc.up c h⟩
 have hi:=hc.hi;have hw:=hW.len;have hkr:=zEz (zNK hW hcc) (by rw[zFE hw];exact hi)
 generalize hkz:(lvs ws cs).map (zKJ (xC (lvs ws cs)))=kz at hkr;have lz:kz.length=cs.length:=by rw[<-hkz,Qf,zFE hw]
 have pw:∀ j,j<cs.length->0<cR ws j:=fun j hj=>by
  have:=(hW.at hj).1
  unfold cR;exact_mod_cast (show 0<ws.getD j 0 by omega)
 have one:∀ π,hG kz π->∃ t,0<=t/\jS (cN (cR cs) (cR ws) t) (List.range cs.length)=q/\(∀ i,i<cs.length->Sz (m+155) (cN (cR cs) (cR ws) t i))/\bC (fun ρ=>loop (gName 6) bV (mV π) ρ) jF [.val wd,.val cd,.val (dq q),.val (dq q),.val (.int ws.sum),.own (List.replicate cs.length (dq 0)),.un,.un]=.ok (.ret (.f ((evs ws cs t).map dq))):=by
  intro π hπ;obtain⟨hp,ho,_⟩:=hπ;rw[lz] at hp;have hm:∀ i∈π,i<cs.length:=fun i h=>Qs.mp (hp.mem_iff.mp h)
  have hl:π.length=cs.length:=by rw[hp.length_eq,Q9]
  have B0:=zDY (lvs ws cs);have B0':(0:Rat)<(xC (lvs ws cs):Rat):=by exact_mod_cast B0
  have kat:∀ i,i<cs.length->((kz.getD i 0:Int):Rat)=cR cs i / cR ws i*(xC (lvs ws cs):Rat):=fun i h=>by
   have e:=zPU hw h;have e2:kz.getD i 0=zKJ (xC (lvs ws cs)) (cR cs i / cR ws i):=by rw[<-hkz,Qq,Qr,e];rfl
   rw[e2];exact zNY (Qg e)
  have ord:π.Pairwise (fun i j=>cR cs i*cR ws j<=cR cs j*cR ws i):=by
   refine Wm (fun {i j} h1 h2 h3=>?_) ho
   have h4:((kz.getD i 0:Int):Rat)<=((kz.getD j 0:Int):Rat):=Q5.mpr h3;rw[kat i (hm i h1),kat j (hm j h2)] at h4;have h5:=Yq h4 B0';have wi:=pw i (hm i h1);have wj:=pw j (hm j h2);have h6:=Xm h5 (Vq (Rat.mul_pos wi wj));have e1:cR cs i / cR ws i*(cR ws i*cR ws j)=cR cs i*cR ws j:=by grind
   have e2:cR cs j / cR ws j*(cR ws i*cR ws j)=cR cs j*cR ws i:=by grind
   rwa [e1,e2] at h6
  have hW':wS ws π=ws.sum:=zFj (by rw[hw];exact hp)
  have hC':jS (cR cs) π=(cs.sum:Rat):=by rw[qK,zFj hp]
  have z0:q-((0:Int):Rat)=q:=by rw[show((0:Int):Rat)=0 from rfl];grind
  obtain⟨t,t1,t2,tz,l',W',s',t',e⟩:=zBz sw sc (qv:=.val (dq q)) hmm hW hcc hq π 0 0 (List.replicate cs.length (dq 0)) .un .un hm ord ⋯ (by rw[X5]) ∅ (by rw[hl];omega) (by rw[z0];exact h0) (by rw[z0,hC'];exact h1) (by rw[z0];grind)
  rw[z0,hW'] at e;rw[z0] at t2;refine⟨t,t1,by rw[<-zBE hp];exact t2,fun i h=>tz i (hp.mem_iff.mpr (Qs.mpr h)),?_⟩
  refine(zOW (a:=fun ρ=>loop (gName 6) bV (mV π) ρ) e).trans ?_
  rw[zEP hp];rfl
 obtain⟨π0,hπ0⟩:=zFY kz;obtain⟨t,t1,t2,tz,e0⟩:=one π0 hπ0;have pw':∀ i∈List.range cs.length,0<cR ws i:=fun i h=>pw i (Qs.mp h)
 refine⟨t,t1,?_,t2,tz⟩
 unfold dA;erw[sw.sum,sc.len,zFI ⋯];symm
 have hfs:Res.bind ((aB (eF (fF fS (aB (aE 0) (aB (aE 1) aNil)))) aNil) [.val wd,.val cd,.val (dq q),.val (dq q),.val (.int ws.sum),.own (List.replicate cs.length (dq 0)),.un,.un]) nD=.ok kz:=by
  erw[zCA sw sc hW hi];symm;exact hkr
 have hall:∀ π,hG kz π->bC (fun ρ=>loop (gName 6) bV (mV π) ρ) jF [.val wd,.val cd,.val (dq q),.val (dq q),.val (.int ws.sum),.own (List.replicate cs.length (dq 0)),.un,.un]=.ok (.ret (.f ((evs ws cs t).map dq))):=fun π hπ=>by
  obtain⟨u,_,u2,_,eu⟩:=one π hπ;rw[eu];unfold evs;rw[Qy (sU pw' (u2.trans t2.symm))]
 unfold nN;rw[zLR hfs hall];rfl
def ones(cs:List Int):List Int:=List.replicate cs.length 1
def jG(cs:List Int):Wt (ones cs) cs:=⟨X5,fun w h=>by rw[(List.mem_replicate.mp h).2];decide,fun w h=>by rw[(List.mem_replicate.mp h).2];decide⟩
def hf:Rat:=Rat.divInt 1 2
def zQ:hf=1 / 2:=by unfold hf;rw[Yh];rfl
def zRm:d_HALF=dq hf:=zPq (b:=2) ∅
def zLQ:Sz 2 hf:=Sz.of ∅ ∅ ∅
def dbl(q:Rat):q+q=q*((2:Int):Rat):=by rw[show((2:Int):Rat)=2 from rfl];grind
def zHc{q:Rat}{n:Nat}(h:Sz n q):Sz (n+2) (q+q):=by rw[dbl];exact h.mul (dC ∅ ∅)
def hvs(cs:List Int)(t:Rat):List Rat:=(List.range cs.length).map fun i=>cN (cR cs) (cR (ones cs)) t i*hf
structure Lvl (M:Nat) (ws cs:List Int) (q t:Rat):Prop where
 nn:0<=t
 sum:(evs ws cs t).sum=q
 sz:∀ i,i<cs.length->Sz M (cN (cR cs) (cR ws) t i)
def zBH{cs:List Int}{cd:D}(sc:Sq cd cs){q:Rat}{m:Nat}(hm:m<=2990)(hc:Cl cs)(hq:Sz m q)(h0:0<=q)(h1:q+q<=(cs.sum:Rat)):∃ t,Lvl (m+157) (ones cs) cs (q+q) t/\eX [cd,dq q]=.ok (.f ((hvs cs t).map dq)):=by
 have hi:=hc.hi;obtain⟨t,t1,e,t2,tz⟩:=sA (wd:=.lst ((ones cs).map D.int)) (.inl rfl) sc (m:=m+2) ⋯ (jG cs) hc (zHc hq) (by grind) h1
 refine⟨t,⟨t1,t2,fun i h=>(tz i h).mono ⋯⟩,?_⟩
 have eo:(ones cs).map D.int=List.replicate cs.length (.int 1):=by unfold ones;rw[List.map_replicate]
 rw[eo] at e;have hh:=zRm;unfold d_HALF at hh;unfold eX;erw[sc.len,zFI ⋯,xG hq hq ⋯,e,show(evs (ones cs) cs t).map dq=(List.range cs.length).map (fun i=>dq (cN (cR cs) (cR (ones cs)) t i)) by unfold evs;rw[Qw];rfl]
 rw[kJ (u:=fun i=>dq (cN (cR cs) (cR (ones cs)) t i)) (g:=fun i=>dq (cN (cR cs) (cR (ones cs)) t i*hf)) (by rw[Q9];omega) (fun i h=>by
  have hil:=Qs.mp h;symm;rw[hh,zCW (tz i hil) zLQ ⋯]
  symm)]
 symm;unfold hvs;rw[Qw];rfl
def Lvl.mono{M M':Nat}{ws cs:List Int}{q t:Rat}(h:Lvl M ws cs q t)(l:M<=M'):Lvl M' ws cs q t:=⟨h.nn,h.sum,fun i hi=>(h.sz i hi).mono l⟩
def zCU{w v:Str}(h:aR.lookup w=some v):bW [.str w]=.ok (.v .non):=by
 unfold bW;erw[h];rfl
def uK{cs:List Int}{cd:D}(sc:Sq cd cs)(hc:Cl cs):dR [cd]=.ok (.v .non):=by
 have lo:=hc.lo;unfold dR;erw[sc.len,Ji ⋯,sc.seq];symm;refine zBZ (Q:=fun r=>r=(.ok (.v .non):Res Rt)) (fun ρ=>∃ a,ρ=[.val cd,a]) ⟨_,rfl⟩ ?_ ?_
 ·rintro e ρ he ⟨a,rfl⟩
  obtain⟨c,h,rfl⟩:=Qt.mp he;have:=hc.nn c h
  refine⟨_,?_,.val (.int c),rfl⟩
  erw[Ji ⋯];symm
 ·rintro ρ ⟨a,rfl⟩
  rfl
def lA{q:Rat}{W:Int}{m:Nat}(hm:m<=3000)(h:Haul m q W)(hW:W.natAbs<2^110):bN [dq q,dq (W:Rat)]=.ok (.v .non):=by
 have z0:Sz 1 (0:Rat):=⟨∅,∅⟩
 have zW:Sz 110 (W:Rat):=dC hW ∅
 have n1:¬ q<0:=Vb.mpr h.nn;have n2:¬ (W:Rat)<q:=Vb.mpr h.up
 have io:cS [dq q,dq (W:Rat)]=.ok (.v (.bl false)):=by
  unfold cS;symm;rw[uI h.sz z0 ⋯,Ji n1];symm;rw[uI zW h.sz ⋯,Ji n2];symm
 unfold bN;erw[io];symm
def lV{r s:Type}(l:List r)(f:Nat->s)(d:r):l.zip ((List.range l.length).map f)=(List.range l.length).map fun i=>(l.getD i d,f i):=by
 refine Y0 fun i=>?_
 rw[Qr];by_cases h:i<l.length
 ·rw[Xu h]
  refine Qaj.mpr ⟨?_,by rw[Qr,Xu h];rfl⟩
  show l[i]?=some (l.getD i d)
  rw[Qq,Qj h];rfl
 ·rw[Q3 (by rw[Wl];omega),Q3 (by rw[Q9];omega)];rfl
def iK{w:Str}{d:D}{n:Int}(hd:d=.lst []∨d=.tup [])(hw:oIn (.str w) d_WEIGHTED=.ok (.bl false)):bA [.str w,d,.int n]=.ok (.v .non):=by
 have sq:zIw d=.ok []:=by rcases hd with rfl | rfl<;>rfl
 have ln:lM [d]=.ok (.int 0):=by rcases hd with rfl | rfl<;>rfl
 unfold d_WEIGHTED at hw;unfold bA;erw[hw,ln,sq];rfl
def zSw:rJ 10 6=true:=∅
def oT{w:Str}{ws cs:List Int}{wd:D}(sw:Sq wd ws)(hW:Wt ws cs)(hw:oIn (.str w) d_WEIGHTED=.ok (.bl true)):bA [.str w,wd,.int cs.length]=.ok (.v .non):=by
 have hl:=hW.len;unfold d_WEIGHTED at hw;unfold bA;erw[hw,sw.len];symm;rw[hl,J5 rfl];erw[sw.seq];symm;refine zBZ (Q:=fun r=>r=(.ok (.v .non):Res Rt)) (fun ρ=>∃ a,ρ=[.val (.str w),.val wd,.val (.int cs.length),.val (.int cs.length),a]) ⟨_,rfl⟩ ?_ ?_
 ·rintro e ρ he ⟨a,rfl⟩
  obtain⟨c,h,rfl⟩:=Qt.mp he;have h1:=hW.lo c h;have h2:=hW.up c h;refine⟨_,?_,.val (.int c),rfl⟩
  erw[Ji ⋯,oPow_i zSw,Ji ⋯];symm
 ·rintro ρ ⟨a,rfl⟩
  rfl
def zSs:(Str.ofString "even" == Str.ofString "row")=false:=∅
def zRY:(Str.ofString "lack" == Str.ofString "row")=false:=∅
def zRN:(Str.ofString "lack" == Str.ofString "even")=false:=∅
def zRM:(Str.ofString "lack" == Str.ofString "part")=false:=∅
def zRQ:(Str.ofString "lack" == Str.ofString "half")=false:=∅
def zDP:(aR.lookup (Str.ofString "even"))=some (Str.ofString "lack"):=∅
def yI:(aR.lookup (Str.ofString "lack"))=some (Str.ofString "even"):=∅
def zKd{n:Nat}{ws cs:List Int}{wd cd:D}(sw:Sq wd ws)(sc:Sq cd cs){q:Rat}{m:Nat}(hm:m<=3000)(hW:Wt ws cs)(hc:Cl cs)(hq:Sz m q)(h0:0<=q)(h1:q<=(cs.sum:Rat)):∃ t,Lvl (m+155) ws cs q t/\aQ (n+1) [.str (Str.ofString "even"),wd,cd,dq q]=.ok (.f ((evs ws cs t).map dq)):=by
 obtain⟨t,t1,e,t2,tz⟩:=sA sw sc hm hW hc hq h0 h1;refine⟨t,⟨t1,t2,tz⟩,?_⟩
 show aU (aQ n) _=_
 unfold aU;erw[sc.sum,cJ,zSs,e];symm
def lks(ws cs:List Int)(t:Rat):List Rat:=(cs.zip (evs ws cs t)).map fun p=>(p.1:Rat)-p.2
def zPF(ws cs:List Int)(t:Rat):lks ws cs t=(List.range cs.length).map fun i=>cR cs i-cN (cR cs) (cR ws) t i:=by
 unfold lks evs;rw[lV cs _ 0,Qw];rfl
def zPA{n:Nat}{ws cs:List Int}{wd cd:D}(sw:Sq wd ws)(sc:Sq cd cs){q:Rat}{m:Nat}(hm:m<=2890)(hW:Wt ws cs)(hc:Cl cs)(hq:Haul m q cs.sum):∃ t,Lvl (m+261) ws cs ((cs.sum:Rat)-q) t/\aQ (n+2) [.str (Str.ofString "lack"),wd,cd,dq q]=.ok (.f ((lks ws cs t).map dq)):=by
 have sm:=hc.sum;have hi:=hc.hi;have zW:Sz 105 (cs.sum:Rat):=dC ⋯ ∅
 have zT:Sz (m+106) ((cs.sum:Rat)-q):=(zW.sub hq.sz).mono ⋯
 have u:=hq.up;have u':=hq.nn;obtain⟨t,tl,e⟩:=zKd sw sc (n:=n) (m:=m+106) ⋯ hW hc zT (by grind) (by grind)
 refine⟨t,tl,?_⟩
 show aU (aQ (n+1)) _=_
 unfold aU;erw[sc.sum,cJ,zRY,zRN,zRM,zRQ,show wQ aR (.str (Str.ofString "lack"))=.ok (.str (Str.ofString "even")) by show zNs (aR.lookup (Str.ofString "lack"))=_;rw[yI];rfl,lY zW hq.sz ⋯,e,uH sc.seqo rfl];symm
 rw[pM (u:=D.int) (v:=dq) (g:=fun c l=>dq ((c:Rat)-l)) ⋯ (fun p hp=>by
  have hp':=hp;unfold evs at hp';rw[lV cs _ 0] at hp';obtain⟨i,hir,rfl⟩:=Qt.mp hp';have hil:=Qs.mp hir;have c1:=hc.nn _ (Qg (aO hil));have c2:=hc.up _ (Qg (aO hil));erw[cJ,lY (m:=100) (n:=m+261) (dC ⋯ ∅) (tl.sz i hil) ⋯]
  symm)]
 symm;unfold lks;rw[Qw];rfl
def zRB:(Str.ofString "half" == Str.ofString "row")=false:=∅
def zRD:(Str.ofString "half" == Str.ofString "even")=false:=∅
def zRG:(Str.ofString "half" == Str.ofString "part")=false:=∅
def yE:(aR.lookup (Str.ofString "half"))=some (Str.ofString "half"):=∅
def zHM{n:Nat}{e:D}{cs:List Int}{cd:D}(sc:Sq cd cs){q:Rat}{m:Nat}(hm:m<=2990)(hc:Cl cs)(hq:Sz m q)(h0:0<=q)(h1:q+q<=(cs.sum:Rat)):∃ t,Lvl (m+157) (ones cs) cs (q+q) t/\aQ (n+1) [.str (Str.ofString "half"),e,cd,dq q]=.ok (.f ((hvs cs t).map dq)):=by
 have sm:=hc.sum;have zW:Sz 105 (cs.sum:Rat):=dC ⋯ ∅
 obtain⟨t,tl,ee⟩:=zBH sc hm hc hq h0 h1;refine⟨t,tl,?_⟩
 show aU (aQ n) _=_
 unfold aU;erw[sc.sum,cJ,zRB,zRD,zRG,xG hq hq ⋯];symm;rw[uI zW (zHc hq) ⋯,Ji (Vb.mpr h1)];erw[ee];symm
def lhs(cs:List Int)(t:Rat):List Rat:=(List.range cs.length).map fun i=>cR cs i-cN (cR cs) (cR (ones cs)) t i*hf
def zNi{n:Nat}{e:D}{cs:List Int}{cd:D}(sc:Sq cd cs){q:Rat}{m:Nat}(hm:m<=2880)(hc:Cl cs)(hq:Haul m q cs.sum)(h1:(cs.sum:Rat)<q+q):∃ t,Lvl (m+263) (ones cs) cs (((cs.sum:Rat)-q)+((cs.sum:Rat)-q)) t/\aQ (n+2) [.str (Str.ofString "half"),e,cd,dq q]=.ok (.f ((lhs cs t).map dq)):=by
 have sm:=hc.sum;have hi:=hc.hi;have zW:Sz 105 (cs.sum:Rat):=dC ⋯ ∅
 have zT:Sz (m+106) ((cs.sum:Rat)-q):=(zW.sub hq.sz).mono ⋯
 have u:=hq.up;obtain⟨t,tl,ee⟩:=zHM sc (n:=n) (e:=e) (m:=m+106) ⋯ hc zT (by grind) (by grind)
 refine⟨t,tl,?_⟩
 show aU (aQ (n+1)) _=_
 unfold aU;erw[sc.sum,cJ,zRB,zRD,zRG,xG hq.sz hq.sz ⋯];symm;rw[uI zW (zHc hq.sz) ⋯,J5 h1];erw[show wQ aR (.str (Str.ofString "half"))=.ok (.str (Str.ofString "half")) by show zNs (aR.lookup (Str.ofString "half"))=_;rw[yE];rfl,lY zW hq.sz ⋯,ee,uH sc.seqo rfl];symm
 rw[pM (u:=D.int) (v:=dq) (g:=fun c l=>dq ((c:Rat)-l)) ⋯ (fun p hp=>by
  have hp':=hp;unfold hvs at hp';rw[lV cs _ 0] at hp';obtain⟨i,hir,rfl⟩:=Qt.mp hp';have hil:=Qs.mp hir;have c1:=hc.nn _ (Qg (aO hil));have c2:=hc.up _ (Qg (aO hil));erw[cJ,lY (m:=100) (n:=m+263+2) (dC ⋯ ∅) ((tl.sz i hil).mul zLQ) ⋯]
  symm)]
 symm;unfold hvs lhs;rw[lV cs _ 0,Qw,Qw];rfl
def zRO:(Str.ofString "back" == Str.ofString "row")=false:=∅
def zSd:(Str.ofString "back" == Str.ofString "even")=false:=∅
def zSA:(Str.ofString "back" == Str.ofString "part")=false:=∅
def zRX:(Str.ofString "back" == Str.ofString "half")=false:=∅
def zRW:(Str.ofString "part" == Str.ofString "row")=false:=∅
def zRR:(Str.ofString "part" == Str.ofString "even")=false:=∅
def zHK:(aR.lookup (Str.ofString "row"))=some (Str.ofString "back"):=∅
def yV:(aR.lookup (Str.ofString "back"))=some (Str.ofString "row"):=∅
def zEh:(aR.lookup (Str.ofString "part"))=some (Str.ofString "part"):=∅
def zPy{n:Nat}{d e:D}{cs:List Int}{q:Rat}(hd:d=.lst (cs.map D.int)∨d=.tup (cs.map D.int)){m:Nat}(hm:m<=3000)(hc:Cl cs)(hq:Sz m q)(h0:0<=q):aQ (n+1) [.str (Str.ofString "row"),e,d,dq q]=.ok (.f ((hZ cs 0 q).map dq)):=by
 have su:zBW [d]=.ok (.int cs.sum):=by rcases hd with rfl | rfl;exact bSum_l;exact bSum_t
 show aU (aQ n) _=_
 unfold aU;erw[su,cJ,zCG hd hm hc hq h0];symm
def zOC{n:Nat}{d e:D}{cs:List Int}{q:Rat}(hd:d=.lst (cs.map D.int)∨d=.tup (cs.map D.int)){m:Nat}(hm:m<=3000)(hc:Cl cs)(hq:Sz m q):aQ (n+1) [.str (Str.ofString "part"),e,d,dq q]=.ok (.f ((zAe cs q).map dq)):=by
 have su:zBW [d]=.ok (.int cs.sum):=by rcases hd with rfl | rfl;exact bSum_l;exact bSum_t
 show aU (aQ n) _=_
 unfold aU;erw[su,cJ,zRW,zRR,zBD hd hm hc hq];symm
def zKr(f g:Nat->Rat):∀ n:Nat,((List.range n).map fun i=>f i-g i).sum=((List.range n).map f).sum-((List.range n).map g).sum
 | 0=>by simp only[List.range_zero,Vv,Vs];grind
 | n+1=>by
  rw[Yz,Q4,Q4,Q4,V8,V8,V8,zKr f g n];simp only[Ql,Vv,Qk,Vs];grind
def zBN(cs:List Int):((List.range cs.length).map (cR cs)).sum=(cs.sum:Rat):=by
 have e:=qK cs (List.range cs.length);rw[xN cs _ (Qd _),V6] at e;exact e
def oE{ws cs:List Int}{t:Rat}(hW:Wt ws cs)(hc:Cl cs)(h0:0<=t){i:Nat}(hi:i<cs.length):0<=cN (cR cs) (cR ws) t i/\cN (cR cs) (cR ws) t i<=cR cs i:=by
 have w:=(hW.at hi).1;have c:=hc.nn _ (Qg (aO hi));have w':(0:Rat)<=cR ws i:=by unfold cR;exact_mod_cast (show 0<=ws.getD i 0 by omega)
 have c':(0:Rat)<=cR cs i:=by unfold cR;exact_mod_cast c
 have:=Y3 w' h0
 unfold cN mn;grind
def zKu(x:Rat):(x.num:Rat)=x*((x.den:Int):Rat):=by
 have d0:=dZ x
 have nd:((x.den:Int):Rat)≠0:=fun z=>by
  have:(x.den:Int)=0:=by exact_mod_cast z
  omega
 have h1:=Xd x;rw[Yh] at h1;rw[<-Vr (a:=(x.num:Rat)) nd,h1]
def zFP{l:List Rat}{n:Nat}(h:l.length=n):l=(List.range n).map fun i=>l.getD i 0:=by
 refine Y0 fun i=>?_
 rw[Qr];by_cases hi:i<n
 ·rw[Xu hi,Qj ⋯]
  show _=some (l.getD i 0)
  rw[Qq,Qj ⋯];rfl
 ·rw[Q3 ⋯,Q3 (by rw[Q9];omega)];rfl
def rY(cs:List Int)(q:Rat)(i:Nat):Rat:=(hZ cs 0 q).getD i 0
def zIp:∀(cs:List Int)(a:Int)(q:Rat)(i:Nat),(∀ c∈cs,0<=c)->i<cs.length->0<=(hZ cs a q).getD i 0/\(hZ cs a q).getD i 0<=cR cs i
 | c::r,a,q,0,h,_=>by
  have c0:(0:Rat)<=(c:Rat):=by exact_mod_cast h c Qb
  show 0<=mn (ps0 (q-(a:Rat))) (c:Rat)/\mn (ps0 (q-(a:Rat))) (c:Rat)<=(c:Rat)
  unfold mn ps0;grind
 | c::r,a,q,i+1,h,hi=>zIp r (a+c) q i (fun x hx=>h x (Qc _ hx)) (by rw[Qm] at hi;omega)
def tX:∀(cs:List Int)(a:Int){q q':Rat}(i:Nat),q<=q'->(hZ cs a q).getD i 0<=(hZ cs a q').getD i 0
 | [],_,_,_,_,_=>Qz
 | c::r,a,q,q',0,h=>by
  show mn (ps0 (q-(a:Rat))) (c:Rat)<=mn (ps0 (q' - (a:Rat))) (c:Rat)
  unfold mn ps0;grind
 | c::r,a,q,q',i+1,h=>tX r (a+c) i h
def zEf:∀(cs:List Int)(a:Int)(q:Rat),(∀ c∈cs,0<=c)->0<=cs.sum/\(hZ cs a q).sum=mn (ps0 (q-(a:Rat))) (cs.sum:Rat)
 | [],a,q,_=>⟨Xl _,by show(0:Rat)=mn (ps0 _) ((0:Int):Rat);rw[show((0:Int):Rat)=0 from rfl];unfold mn ps0;grind⟩
 | c::r,a,q,h=>by
  have c0:=h c Qb;obtain⟨s0,e⟩:=zEf r (a+c) q fun x hx=>h x (Qc _ hx)
  have c0':(0:Rat)<=(c:Rat):=by exact_mod_cast c0
  have s0':(0:Rat)<=(r.sum:Rat):=by exact_mod_cast s0
  rw[Qk];refine⟨⋯,?_⟩
  rw[hZ,Qk,e,Qv,Qv];unfold mn ps0;grind
def zFZ{q:Rat}{m:Nat}(hq:Sz m q):∀(cs:List Int)(a:Int),(∀ c∈cs,0<=c)->(∀ c∈cs,c<10^30)->0<=a->a+cs.length*10^30<2^110->∀ x∈hZ cs a q,Sz (m+111) x
 | [],_,_,_,_,_,x,hx=>by cases hx
 | c::r,a,h1,h2,h3,h4,x,hx=>by
  have c0:=h1 c Qb;have c1:=h2 c Qb;rw[Qm] at h4;have e4:((r.length+1:Nat):Int)*10^30=(r.length:Int)*10^30+10^30:=by rw[Xw,Yd];rfl
  have r0:0<=(r.length:Int)*10^30:=Ul ⋯ ∅
  rw[hZ] at hx;rcases Qe.mp hx with rfl | hx
  ·exact zLh (zPX (hq.sub (dC (n:=110) ⋯ ∅)) ⋯) (Sz.mono (m:=100) (dC ⋯ ∅) ⋯)
  ·exact zFZ hq r (a+c) (fun x hx=>h1 x (Qc _ hx)) (fun x hx=>h2 x (Qc _ hx)) ⋯ ⋯ x hx
def zCJ{cs:List Int}{q:Rat}{m:Nat}(hc:Cl cs)(hq:Sz m q)(h0:0<=q)(h1:q<=(cs.sum:Rat)):(hZ cs 0 q=(List.range cs.length).map (rY cs q))/\(hZ cs 0 q).sum=q/\∀ x∈hZ cs 0 q,Sz (m+111) x:=by
 have hi:=hc.hi;refine⟨zFP (zAy _ _ _),?_,zFZ hq cs 0 hc.nn hc.up ∅ ⋯⟩
 rw[(zEf cs 0 q hc.nn).2,show((0:Int):Rat)=0 from rfl];unfold mn ps0;grind
def zOh{n:Nat}{e:D}{cs:List Int}{cd:D}(sc:Sq cd cs){q:Rat}{m:Nat}(hm:m<=2890)(hc:Cl cs)(hq:Haul m q cs.sum):aQ (n+2) [.str (Str.ofString "back"),e,cd,dq q]=.ok (.f (((List.range cs.length).map fun i=>cR cs i-rY cs ((cs.sum:Rat)-q) i).map dq)):=by
 have sm:=hc.sum;have hi:=hc.hi;have zW:Sz 105 (cs.sum:Rat):=dC ⋯ ∅
 have zT:Sz (m+106) ((cs.sum:Rat)-q):=(zW.sub hq.sz).mono ⋯
 have u:=hq.up;have u':=hq.nn;obtain⟨r1,r2,r3⟩:=zCJ hc zT (by grind) (by grind)
 have ee:=zPy (n:=n) (e:=e) sc (m:=m+106) ⋯ hc zT (by grind)
 show aU (aQ (n+1)) _=_
 unfold aU;erw[sc.sum,cJ,zRO,zSd,zSA,zRX,show wQ aR (.str (Str.ofString "back"))=.ok (.str (Str.ofString "row")) by show zNs (aR.lookup (Str.ofString "back"))=_;rw[yV];rfl,lY zW hq.sz ⋯,ee,uH sc.seqo rfl];symm
 rw[pM (u:=D.int) (v:=dq) (g:=fun c l=>dq ((c:Rat)-l)) ⋯ (fun p hp=>by
  obtain⟨p1,p2⟩:=Yn hp;have c1:=hc.nn _ p1;have c2:=hc.up _ p1;erw[cJ,lY (m:=100) (n:=m+106+111) (dC ⋯ ∅) (r3 _ p2) ⋯]
  symm)]
 symm;rw[r1,lV cs _ 0,Qw,Qw];rfl
def jW(cs:List Int)(q:Rat)(i:Nat):Rat:=(zAe cs q).getD i 0
def zDZ{cs:List Int}{q:Rat}{i:Nat}(hi:i<cs.length):jW cs q i=Rat.divInt (cs.getD i 0*q.num) (max 1 cs.sum*q.den):=by
 unfold jW zAe;rw[Qq,Qr,aO hi];rfl
def fH{cs:List Int}{q:Rat}(hc:Cl cs){i:Nat}(hi:i<cs.length):jW cs q i*(cs.sum:Rat)=q*cR cs i/\(cs.sum=0->jW cs q i=0):=by
 have sm:=hc.sum;have e:=zDZ (q:=q) hi;by_cases z:cs.sum=0
 ·have c0:=kP hc.nn z _ (Qg (aO hi))
  have p0:jW cs q i=0:=by rw[e,c0,Int.zero_mul,Rat.zero_divInt]
  refine⟨?_,fun _=>p0⟩
  rw[p0];unfold cR;rw[c0,show((0:Int):Rat)=0 from rfl];grind
 ·have W0:0<cs.sum:=⋯
  have nW:(cs.sum:Rat)≠0:=fun y=>by
   have:cs.sum=0:=by exact_mod_cast y
   omega
  refine⟨?_,fun y=>absurd y z⟩
  rw[e,Int.max_eq_right ⋯,<-zFK W0];show q / (cs.sum:Rat)*cR cs i*(cs.sum:Rat)=_
  grind
def zHp{cs:List Int}{q:Rat}{m:Nat}(hc:Cl cs)(hq:Sz m q){i:Nat}(hi:i<cs.length):Sz (m+370) (jW cs q i):=by
 have sm:=hc.sum;have c1:=hc.nn _ (Qg (aO hi));have c2:=hc.up _ (Qg (aO hi));rw[zDZ hi];have d0:=dZ q;have p:=Xg (show 0<max 1 cs.sum by omega) d0
 exact Sz.of ⋯ (Qo (fO (m:=100) (n:=m) ⋯ hq.1) (Vw ∅ ⋯)) (Qo (fO (m:=110) (n:=m) ⋯ hq.d) (Vw ∅ ⋯))
inductive Wy where
 | row | back | even | lack | part | half
def Wy.s:Wy->Str
 | .row=>Str.ofString "row"
 | .back=>Str.ofString "back"
 | .even=>Str.ofString "even"
 | .lack=>Str.ofString "lack"
 | .part=>Str.ofString "part"
 | .half=>Str.ofString "half"
def Wy.due(w:Wy)(ws cs:List Int):Prop:=match w with
 | .even=>Wt ws cs
 | .lack=>Wt ws cs
 | _=>ws=[]
def Al(M:Nat)(ws cs:List Int)(q:Rat)(f:Nat->Rat):Wy->Prop
 | .row=>∀ i,i<cs.length->f i=rY cs q i
 | .back=>∀ i,i<cs.length->f i=cR cs i-rY cs ((cs.sum:Rat)-q) i
 | .even=>∃ t,Lvl M ws cs q t/\∀ i,i<cs.length->f i=cN (cR cs) (cR ws) t i
 | .lack=>∃ t,Lvl M ws cs ((cs.sum:Rat)-q) t/\∀ i,i<cs.length->f i=cR cs i-cN (cR cs) (cR ws) t i
 | .part=>∀ i,i<cs.length->f i=jW cs q i
 | .half=>∃ t,(q+q<=(cs.sum:Rat)/\Lvl M (ones cs) cs (q+q) t/\∀ i,i<cs.length->f i=cN (cR cs) (cR (ones cs)) t i*hf)∨((cs.sum:Rat)<q+q/\Lvl M (ones cs) cs (((cs.sum:Rat)-q)+((cs.sum:Rat)-q)) t/\∀ i,i<cs.length->f i=cR cs i-cN (cR cs) (cR (ones cs)) t i*hf)
def pU{w:Wy}{ws cs:List Int}{wd cd:D}(sw:Sq wd ws)(sc:Sq cd cs){q:Rat}{m:Nat}(hm:m<=2880)(hw:w.due ws cs)(hc:Cl cs)(hq:Haul m q cs.sum):∃ f,aQ 2 [.str w.s,wd,cd,dq q]=.ok (.f (((List.range cs.length).map f).map dq))/\Al (m+263) ws cs q f w:=by
 have z:=hq.sz
 cases w with
 | row=>exact⟨rY cs q,by rw[<-(zCJ hc z hq.nn hq.up).1];exact zPy sc ⋯ hc z hq.nn,fun i _=>rfl⟩
 | back=>exact⟨_,zOh sc ⋯ hc hq,fun i _=>rfl⟩
 | even=>
  obtain⟨t,tl,e⟩:=zKd sw sc (n:=1) ⋯ hw hc z hq.nn hq.up
  exact⟨_,e,t,tl.mono ⋯,fun i _=>rfl⟩
 | lack=>
  obtain⟨t,tl,e⟩:=zPA sw sc (n:=0) ⋯ hw hc hq
  rw[zPF] at e;exact⟨_,e,t,tl.mono ⋯,fun i _=>rfl⟩
 | part=>
  refine⟨jW cs q,?_,fun i _=>rfl⟩
  have e:zAe cs q=(List.range cs.length).map (jW cs q):=zFP (by unfold zAe;rw[Qf])
  rw[<-e];exact zOC sc ⋯ hc z
 | half=>
  by_cases h:(cs.sum:Rat)<q+q
  ·obtain⟨t,tl,e⟩:=zNi sc (n:=0) (e:=wd) ⋯ hc hq h
   exact⟨_,e,t,.inr ⟨h,tl,fun i _=>rfl⟩⟩
  ·obtain⟨t,tl,e⟩:=zHM sc (n:=1) (e:=wd) ⋯ hc z hq.nn (Vb.mp h)
   exact⟨_,e,t,.inl ⟨Vb.mp h,tl.mono ⋯,fun i _=>rfl⟩⟩
def zMT(w:Wy):∃ v,aR.lookup w.s=some v:=by
 cases w
 ·exact⟨_,zHK⟩
 ·exact⟨_,yV⟩
 ·exact⟨_,zDP⟩
 ·exact⟨_,yI⟩
 ·exact⟨_,zEh⟩
 ·exact⟨_,yE⟩
def zDp{w:Wy}{ws cs:List Int}{wd cd:D}(sw:Sq wd ws)(sc:Sq cd cs)(hw:w.due ws cs)(hc:Cl cs):oP [.str w.s,wd,cd]=.ok (.v .non):=by
 have rw':bA [.str w.s,wd,.int cs.length]=.ok (.v .non):=by
  cases w with
  | even=>exact oT sw hw rfl
  | lack=>exact oT sw hw rfl
  | row=>have e:ws=[]:=hw;rw[e] at sw;exact iK sw rfl
  | back=>have e:ws=[]:=hw;rw[e] at sw;exact iK sw rfl
  | part=>have e:ws=[]:=hw;rw[e] at sw;exact iK sw rfl
  | half=>have e:ws=[]:=hw;rw[e] at sw;exact iK sw rfl
 obtain⟨v,hv⟩:=zMT w;unfold oP;erw[zCU hv,uK sc hc,sc.len,rw'];symm
def zFt{w:Wy}{ws cs:List Int}{wd cd:D}(sw:Sq wd ws)(sc:Sq cd cs){q:Rat}{m:Nat}(hm:m<=2880)(hw:w.due ws cs)(hc:Cl cs)(hq:Haul m q cs.sum):∃ f,iZ [.str w.s,wd,cd,dq q]=.ok (.f (((List.range cs.length).map f).map dq))/\Al (m+263) ws cs q f w:=by
 obtain⟨f,rd,al⟩:=pU sw sc hm hw hc hq;have sm:=hc.sum;refine⟨f,?_,al⟩
 unfold iZ;erw[zDp sw sc hw hc,sc.sum,cJ,lA ⋯ hq ⋯,rd];symm
structure Dl (M:Nat) (cs:List Int) (q:Rat) (f:Nat->Rat):Prop where
 bd:∀ i,i<cs.length->0<=f i/\f i<=cR cs i/\Sz M (f i)
 sum:((List.range cs.length).map f).sum=q
def zAS{f g:Nat->Rat}{n:Nat}(h:∀ i,i<n->f i=g i):((List.range n).map f).sum=((List.range n).map g).sum:=by rw[Qy fun i hi=>h i (Qs.mp hi)]
def Dl.congr{M:Nat}{cs:List Int}{q:Rat}{f g:Nat->Rat}(d:Dl M cs q g)(h:∀ i,i<cs.length->f i=g i):Dl M cs q f:=⟨fun i hi=>by rw[h i hi];exact d.bd i hi,by rw[zAS h];exact d.sum⟩
def Dl.mono{M M':Nat}{cs:List Int}{q:Rat}{f:Nat->Rat}(d:Dl M cs q f)(h:M<=M'):Dl M' cs q f:=⟨fun i hi=>⟨(d.bd i hi).1,(d.bd i hi).2.1,(d.bd i hi).2.2.mono h⟩,d.sum⟩
def zLg{cs:List Int}(hc:Cl cs){i:Nat}(hi:i<cs.length):0<=cR cs i/\Sz 100 (cR cs i):=by
 have c1:=hc.nn _ (Qg (aO hi));have c2:=hc.up _ (Qg (aO hi));exact⟨by unfold cR;exact_mod_cast c1,dC ⋯ ∅⟩
def Dl.dual{M:Nat}{cs:List Int}{q q':Rat}{g:Nat->Rat}(hc:Cl cs)(d:Dl M cs q' g)(h:q'=(cs.sum:Rat)-q):Dl (100+M+1) cs q (fun i=>cR cs i-g i):=by
 refine⟨fun i hi=>?_,?_⟩
 ·obtain⟨b1,b2,b3⟩:=d.bd i hi
  exact⟨by grind,by grind,(zLg hc hi).2.sub b3⟩
 ·rw[zKr,zBN,d.sum]
  grind
def zKj{m:Nat}{cs:List Int}{q:Rat}(hc:Cl cs)(hq:Sz m q)(h0:0<=q)(h1:q<=(cs.sum:Rat)):Dl (m+111) cs q (rY cs q):=by
 obtain⟨e,s,z⟩:=zCJ hc hq h0 h1;refine⟨fun i hi=>?_,by rw[<-e];exact s⟩
 obtain⟨b1,b2⟩:=zIp cs 0 q i hc.nn hi;exact⟨b1,b2,z _ (by rw[e];exact Qt.mpr ⟨i,Qs.mpr hi,rfl⟩)⟩
def zKH{M:Nat}{ws cs:List Int}{q t:Rat}(hW:Wt ws cs)(hc:Cl cs)(tl:Lvl M ws cs q t):Dl M cs q (cN (cR cs) (cR ws) t):=
 ⟨fun i hi=>⟨(oE hW hc tl.nn hi).1,(oE hW hc tl.nn hi).2,tl.sz i hi⟩,tl.sum⟩
def zGf{M:Nat}{cs:List Int}{q t:Rat}(hc:Cl cs)(tl:Lvl M (ones cs) cs (q+q) t):Dl (M+2) cs q (fun i=>cN (cR cs) (cR (ones cs)) t i*hf):=by
 refine⟨fun i h=>?_,?_⟩
 ·obtain⟨b1,b2⟩:=oE (jG cs) hc tl.nn h
  exact⟨by rw[zQ];grind,by rw[zQ];grind,(tl.sz i h).mul zLQ⟩
 ·have e:=tl.sum
  have e2:=fP (w:=cN (cR cs) (cR (ones cs)) t) (t:=hf) (l:=List.range cs.length);unfold evs at e;unfold jS at e2;rw[e2,e,zQ];grind
def vC{a b s:Rat}(hs:s≠0)(h:a*s=b*s):a=b:=by
 have e1:a*s / s=a:=by grind
 have e2:b*s / s=b:=by grind
 rw[<-e1,<-e2,h]
def pX{a b s:Rat}(hs:0<s)(h:a*s<=b*s):a<=b:=Yq h hs
def zMb{m:Nat}{cs:List Int}{q:Rat}(hc:Cl cs)(hq:Sz m q)(h0:0<=q)(h1:q<=(cs.sum:Rat)):Dl (m+370) cs q (jW cs q):=by
 have sm:=hc.sum;have cn:∀ i,i<cs.length->0<=cR cs i:=fun i hi=>(zLg hc hi).1
 have sc:jS (fun i=>jW cs q i*(cs.sum:Rat)) (List.range cs.length)=q*(cs.sum:Rat):=by
  rw[jN (g:=fun i=>cR cs i*q) fun i hi=>by rw[(fH hc (Qs.mp hi)).1];grind];rw[fP,show jS (cR cs) (List.range cs.length)=(cs.sum:Rat) from zBN cs]
 rw[fP] at sc;by_cases z:cs.sum=0
 ·have p0:∀ i,i<cs.length->jW cs q i=cR cs i:=fun i hi=>by
   have c0:=kP hc.nn z _ (Qg (aO hi));rw[(fH hc hi).2 z];unfold cR;rw[c0];rfl
  refine⟨fun i hi=>⟨by rw[p0 i hi];exact cn i hi,by rw[p0 i hi];exact Qz,zHp hc hq hi⟩,?_⟩
  rw[zAS p0,zBN];have:(cs.sum:Rat)=0:=by rw[z];rfl
  grind
 ·have W:(0:Rat)<(cs.sum:Rat):=by exact_mod_cast (show 0<cs.sum by omega)
  refine⟨fun i hi=>?_,?_⟩
  ·have e:=(fH (q:=q) hc hi).1
   have c0:=cn i hi;refine⟨pX W (by rw[e];have:=Y3 h0 c0;grind),pX W ?_,zHp hc hq hi⟩
   rw[e];have:=Xm h1 c0
   grind
  ·exact vC (s:=(cs.sum:Rat)) (by grind) (by rw[Rat.mul_comm];exact sc)
def zLP{m:Nat}{w:Wy}{ws cs:List Int}{q:Rat}{f:Nat->Rat}(hw:w.due ws cs)(hc:Cl cs)(hq:Haul m q cs.sum)(al:Al (m+263) ws cs q f w):Dl (m+370) cs q f:=by
 have sm:=hc.sum;have zW:Sz 105 (cs.sum:Rat):=dC ⋯ ∅
 have z:=hq.sz;have z':Sz (m+106) ((cs.sum:Rat)-q):=(zW.sub hq.sz).mono ⋯
 have n:=hq.nn;have u:=hq.up
 cases w with
 | row=>exact((zKj hc z n u).mono ⋯).congr al
 | back=>exact((Dl.dual hc (zKj hc z' (by grind) (by grind)) rfl).mono ⋯).congr al
 | even=>
  obtain⟨t,tl,e⟩:=al;exact((zKH hw hc tl).mono ⋯).congr e
 | lack=>
  obtain⟨t,tl,e⟩:=al;exact((Dl.dual hc (zKH hw hc tl) rfl).mono ⋯).congr e
 | part=>exact(zMb hc z n u).congr al
 | half=>
  obtain⟨t,⟨c,tl,e⟩ | ⟨c,tl,e⟩⟩:=al
  ·exact((zGf hc tl).mono ⋯).congr e
  ·exact((Dl.dual hc (zGf hc tl) rfl).mono ⋯).congr e
def qN:∀(cs:List Int)(a:Int)(q:Rat)(i:Nat),i<cs.length->(hZ cs a q).getD i 0=mn (ps0 (q-((a+(cs.take i).sum:Int):Rat))) (cR cs i)
 | c::r,a,q,0,_=>by simp[hZ,cR]
 | c::r,a,q,i+1,h=>by
  have ih:=qN r (a+c) q i (by simpa using h)
  rw[Um,Qk,<-Wr];show(hZ r (a+c) q).getD i 0=_
  rw[ih];rfl
def Dn(B:Int)(x:Rat):Prop:=∃ k:Int,x*(B:Rat)=(k:Rat)
def Dn.add{B:Int}{x y:Rat}(hx:Dn B x)(hy:Dn B y):Dn B (x+y):=by
 obtain⟨a,ha⟩:=hx;obtain⟨b,hb⟩:=hy;exact⟨a+b,by rw[Qv,<-ha,<-hb];grind⟩
def Dn.sub{B:Int}{x y:Rat}(hx:Dn B x)(hy:Dn B y):Dn B (x-y):=by
 obtain⟨a,ha⟩:=hx;obtain⟨b,hb⟩:=hy;exact⟨a-b,by rw[Uo,<-ha,<-hb];grind⟩
def Dn.int(B c:Int):Dn B (c:Rat):=⟨c*B,by rw[Vm]⟩
def Dn.zero(B:Int):Dn B 0:=Dn.int B 0
def Dn.mul{B:Int}{x:Rat}(h:Dn B x)(E:Int):Dn (B*E) x:=by
 obtain⟨a,ha⟩:=h;exact⟨a*E,by rw[Vm,Vm,<-ha];grind⟩
def Dn.mn{B:Int}{x y:Rat}(hx:Dn B x)(hy:Dn B y):Dn B (Lw.mn x y):=by
 unfold Lw.mn;split
 ·exact hx
 ·exact hy
def Dn.ps{B:Int}{x:Rat}(hx:Dn B x):Dn B (ps0 x):=by
 unfold ps0;split
 ·exact Dn.zero B
 ·exact hx
def Dn.den(x:Rat):Dn (x.den:Int) x:=⟨x.num,(zKu x).symm⟩
def Dn.le{B:Int}{x:Rat}(h:Dn B x)(hB:0<B):(x.den:Int)<=B:=by
 obtain⟨a,ha⟩:=h
 have nB:(B:Rat)≠0:=fun z=>by
  have:B=0:=by exact_mod_cast z
  omega
 have e:x=Rat.divInt a B:=by
  rw[Yh,<-ha];grind
 rw[e];exact zDK hB
def Dn.sz{B c:Int}{x:Rat}{a b:Nat}(h:Dn B x)(hB:0<B)(hb:B<2^b)(h0:0<=x)(h1:x<=(c:Rat))(hc:c<2^a):Sz (a+b) x:=by
 have le:=h.le hB;have d0:=dZ x;have n0:0<=x.num:=Rat.num_nonneg.mpr h0
 have c0:0<=c:=by
  have:((0:Int):Rat)<=(c:Rat):=V7 (by rw[show((0:Int):Rat)=0 from rfl];exact h0) h1
  exact Q5.mp this
 have n1:x.num<=c*x.den:=by
  have:((x.num:Int):Rat)<=((c*x.den:Int):Rat):=by
   rw[Vm,zKu];exact Xm h1 (by have z:(0:Int)<=x.den:=⋯;exact_mod_cast z)
  exact Q5.mp this
 have hb':(x.den:Int).natAbs<2^b:=by
  have:((2:Nat)^b:Nat)=((2:Int)^b):=by rw[Int.natCast_pow];rfl
  omega
 have ha':c.natAbs<2^a:=by
  have:((2:Nat)^a:Nat)=((2:Int)^a):=by rw[Int.natCast_pow];rfl
  omega
 have m:=fO ha' hb';refine⟨⋯,?_⟩
 have:2^b<=2^(a+b):=Vw ∅ ⋯
 omega
def zBC{c w:Nat->Rat}{ci wi:Nat->Int}{t:Rat}(hc:∀ i,c i=(ci i:Rat))(hw:∀ i,w i=(wi i:Rat)):∀ l:List Nat,(∀ i∈l,1<=wi i/\wi i<=10^6)->∃ F W:Int,jS (cN c w t) l=(W:Rat)*t+(F:Rat)/\0<=W/\W<=l.length*10^6/\(W=0->∀ i∈l,cN c w t i=c i)
 | [],_=>⟨0,0,by rw[gT,show((0:Int):Rat)=0 from rfl];grind,∅,∅,fun _ i h=>by cases h⟩
 | i::l,h=>by
  obtain⟨F,W,e,w0,w1,f⟩:=zBC (t:=t) hc hw l fun j hj=>h j (Qc _ hj)
  have hi:=h i Qb;have ek:((l.length+1:Nat):Int)*10^6=(l.length:Int)*10^6+10^6:=by rw[Xw,Yd];rfl
  rw[bD,Qm];by_cases z:w i*t<c i
  ·have g:cN c w t i=w i*t:=Jj z
   refine⟨F,W+wi i,?_,⋯,⋯,fun z=>⋯⟩
   rw[g,e,Qv,hw];grind
  ·have g:cN c w t i=c i:=Jk z
   refine⟨F+ci i,W,?_,w0,⋯,fun z j hj=>?_⟩
   ·rw[g,e,Qv,hc]
    grind
   ·rcases Qe.mp hj with rfl | hj
    ·exact g
    ·exact f z j hj
def zDz{M:Nat}{ws cs:List Int}{q t:Rat}{B:Int}(hW:Wt ws cs)(hl:cs.length<=12)(tl:Lvl M ws cs q t)(hq:Dn B q):∃ E:Int,0<E/\E<=12*10^6/\∀ i,i<cs.length->Dn (B*E) (cN (cR cs) (cR ws) t i):=by
 obtain⟨F,W,e,w0,w1,f⟩:=zBC (c:=cR cs) (w:=cR ws) (ci:=fun i=>cs.getD i 0) (wi:=fun i=>ws.getD i 0) (t:=t) (fun _=>rfl) (fun _=>rfl) (List.range cs.length) fun i hi=>hW.at (Qs.mp hi)
 have s:jS (cN (cR cs) (cR ws) t) (List.range cs.length)=q:=tl.sum;rw[Q9] at w1;by_cases z:W=0
 ·refine⟨1,∅,∅,fun i hi=>?_⟩
  rw[f z i (Qs.mpr hi)];exact Dn.int _ _
 ·refine⟨W,⋯,⋯,fun i hi=>?_⟩
  unfold cN;refine Dn.mn ?_ (Dn.int _ _)
  obtain⟨k,hk⟩:=hq.sub (Dn.int B F);refine⟨ws.getD i 0*k,?_⟩
  rw[Vm,Vm,<-hk,<-s,e];show cR ws i*t*_=cR ws i*_
  grind
def zOf{B:Int}{x:Rat}(h:Dn B x):Dn (B*2) (x*hf):=by
 obtain⟨k,hk⟩:=h;refine⟨k,?_⟩
 rw[<-hk,Vm,zQ,show((2:Int):Rat)=2 from rfl];grind
def zLb{cs:List Int}{q:Rat}{B:Int}(h:Dn B q){i:Nat}(hi:i<cs.length):Dn B (rY cs q i):=by
 unfold rY;rw[qN cs 0 q i hi];exact Dn.mn (Dn.ps (h.sub (Dn.int _ _))) (Dn.int _ _)
def zOA{M:Nat}{w:Wy}{ws cs:List Int}{q:Rat}{f:Nat->Rat}{B:Int}(hw:w.due ws cs)(hc:Cl cs)(hS:cs.sum<2^34)(al:Al M ws cs q f w)(hq:Dn B q):∃ E:Int,0<E/\E<2^34/\∀ i,i<cs.length->Dn (B*E) (f i):=by
 have hi:=hc.hi;have sm:=hc.sum;have hq':Dn B ((cs.sum:Rat)-q):=(Dn.int B cs.sum).sub hq
 cases w with
 | row=>exact⟨1,∅,∅,fun i hi=>by rw[al i hi,V0];exact zLb hq hi⟩
 | back=>exact⟨1,∅,∅,fun i hi=>by rw[al i hi,V0];exact(Dn.int _ _).sub (zLb hq' hi)⟩
 | even=>
  obtain⟨t,tl,e⟩:=al;obtain⟨E,e0,e1,e2⟩:=zDz hw hi tl hq;exact⟨E,e0,⋯,fun i hi=>by rw[e i hi];exact e2 i hi⟩
 | lack=>
  obtain⟨t,tl,e⟩:=al;obtain⟨E,e0,e1,e2⟩:=zDz hw hi tl hq';exact⟨E,e0,⋯,fun i hi=>by rw[e i hi];exact(Dn.int _ _).sub (e2 i hi)⟩
 | part=>
  by_cases z:cs.sum=0
  ·exact⟨1,∅,∅,fun i hi=>by rw[al i hi,(fH hc hi).2 z];exact Dn.zero _⟩
  ·refine⟨cs.sum,⋯,hS,fun i hi=>?_⟩
   have p:=(fH (q:=q) hc hi).1;rw[<-al i hi] at p;obtain⟨k,hk⟩:=hq;refine⟨k*cs.getD i 0,?_⟩
   rw[Vm,Vm,<-hk];show f i*((B:Rat)*(cs.sum:Rat))=q*(B:Rat)*cR cs i
   generalize (cs.sum:Rat)=S at *;generalize cR cs i=x at *;generalize f i=y at *;grind
 | half=>
  obtain⟨t,⟨c,tl,e⟩ | ⟨c,tl,e⟩⟩:=al
  ·obtain⟨E,e0,e1,e2⟩:=zDz (jG cs) hi tl (hq.add hq)
   exact⟨E*2,⋯,⋯,fun i hi=>by rw[e i hi,<-Xy];exact zOf (e2 i hi)⟩
  ·obtain⟨E,e0,e1,e2⟩:=zDz (jG cs) hi tl (hq'.add hq')
   exact⟨E*2,⋯,⋯,fun i hi=>by rw[e i hi,<-Xy];exact(Dn.int _ _).sub (zOf (e2 i hi))⟩
def Al.mono{M M':Nat}{w:Wy}{ws cs:List Int}{q:Rat}{f:Nat->Rat}(h:Al M ws cs q f w)(l:M<=M'):Al M' ws cs q f w:=by
 cases w with
 | row=>exact h
 | back=>exact h
 | part=>exact h
 | even=>obtain⟨t,tl,e⟩:=h;exact⟨t,tl.mono l,e⟩
 | lack=>obtain⟨t,tl,e⟩:=h;exact⟨t,tl.mono l,e⟩
 | half=>
  obtain⟨t,⟨c,tl,e⟩ | ⟨c,tl,e⟩⟩:=h
  ·exact⟨t,.inl ⟨c,tl.mono l,e⟩⟩
  ·exact⟨t,.inr ⟨c,tl.mono l,e⟩⟩
def zMh(q:Rat):Sz (q.num.natAbs+q.den) q:=⟨Qo Qak (Vw ∅ ⋯),Qo Qak (Vw ∅ ⋯)⟩
def zIn{M:Nat}{w:Wy}{ws cs:List Int}{q:Rat}{f:Nat->Rat}(hw:w.due ws cs)(hc:Cl cs)(q0:0<=q)(q1:q<=(cs.sum:Rat))(al:Al M ws cs q f w):(∀ i,i<cs.length->0<=f i/\f i<=cR cs i)/\((List.range cs.length).map f).sum=q:=by
 have d:=zLP (m:=q.num.natAbs+q.den+M) hw hc ⟨q0,q1,(zMh q).mono ⋯⟩ (al.mono ⋯)
 exact⟨fun i hi=>⟨(d.bd i hi).1,(d.bd i hi).2.1⟩,d.sum⟩
def mP{M M':Nat}{ws cs:List Int}{q q' t t':Rat}(hW:Wt ws cs)(a:Lvl M ws cs q t)(b:Lvl M' ws cs q' t')(h:q=q'){i:Nat}(hi:i<cs.length):cN (cR cs) (cR ws) t i=cN (cR cs) (cR ws) t' i:=by
 have pw:∀ j∈List.range cs.length,0<cR ws j:=fun j hj=>by
  have:=(hW.at (Qs.mp hj)).1
  unfold cR;exact_mod_cast (show 0<ws.getD j 0 by omega)
 exact sU (c:=cR cs) (w:=cR ws) pw (by show(evs ws cs t).sum=(evs ws cs t').sum;rw[a.sum,b.sum,h]) i (Qs.mpr hi)
def zHG{M M':Nat}{w:Wy}{ws cs:List Int}{q:Rat}{f g:Nat->Rat}(hw:w.due ws cs)(a:Al M ws cs q f w)(b:Al M' ws cs q g w){i:Nat}(hi:i<cs.length):f i=g i:=by
 cases w with
 | row=>rw[a i hi,b i hi]
 | back=>rw[a i hi,b i hi]
 | part=>rw[a i hi,b i hi]
 | even=>
  obtain⟨t,tl,e⟩:=a;obtain⟨t',tl',e'⟩:=b;rw[e i hi,e' i hi,mP hw tl tl' rfl hi]
 | lack=>
  obtain⟨t,tl,e⟩:=a;obtain⟨t',tl',e'⟩:=b;rw[e i hi,e' i hi,mP hw tl tl' rfl hi]
 | half=>
  have W:=jG cs;obtain⟨t,⟨c,tl,e⟩ | ⟨c,tl,e⟩⟩:=a
  ·obtain⟨t',⟨c',tl',e'⟩ | ⟨c',tl',e'⟩⟩:=b
   ·rw[e i hi,e' i hi,mP W tl tl' rfl hi]
   ·exact absurd c' (Vb.mpr c)
  ·obtain⟨t',⟨c',tl',e'⟩ | ⟨c',tl',e'⟩⟩:=b
   ·exact absurd c (Vb.mpr c')
   ·rw[e i hi,e' i hi,mP W tl tl' rfl hi]
def zFn:∀ {cs:List Int} {i j:Nat},(∀ c∈cs,0<=c)->i<j->j<=cs.length->(cs.take i).sum+cs.getD i 0<=(cs.take j).sum/\0<=(cs.take i).sum
 | [],i,j,_,h,h'=>by simp at h';omega
 | c::r,i,0,_,h,_=>⋯
 | c::r,0,j+1,hn,_,_=>by
  have hr:∀ l:List Int,(∀ c∈l,0<=c)->0<=l.sum:=by
   intro l
   induction l with
   | nil=>intro _;decide
   | cons a l ih=>intro hl;rw[Qk];have:=hl a Qb;have:=ih fun x hx=>hl x (Qc _ hx);omega
  have:=hr (r.take j) fun x hx=>hn x (Qc _ (Y4 hx))
  rw[Um,Qk];simp
  omega
 | c::r,i+1,j+1,hn,h,h'=>by
  have ih:=zFn (cs:=r) (i:=i) (j:=j) (fun x hx=>hn x (Qc _ hx)) ⋯ (by simpa using h')
  have:=hn c Qb
  rw[Um,Qk,Um,Qk];show c+_+r.getD i 0<=_/\_
  omega
def zEj{cs:List Int}{q:Rat}(hn:∀ c∈cs,0<=c){i j:Nat}(h:i<j)(hj:j<cs.length):rY cs q j=0∨rY cs q i=cR cs i:=by
 unfold rY;rw[qN cs 0 q j hj,qN cs 0 q i ⋯];have tu:=(zFn hn h (X2 hj)).1
 have c0:(0:Rat)<=cR cs j:=by
  unfold cR;exact_mod_cast hn _ (Qg (aO hj))
 have tu':((0+(cs.take i).sum:Int):Rat)+cR cs i<=((0+(cs.take j).sum:Int):Rat):=by
  unfold cR;rw[<-Qv];exact_mod_cast (show 0+(cs.take i).sum+cs.getD i 0<=0+(cs.take j).sum by omega)
 generalize ((0+(cs.take i).sum:Int):Rat)=A at *;generalize ((0+(cs.take j).sum:Int):Rat)=B at *;generalize cR cs i=x at *;generalize cR cs j=y at *;unfold mn ps0;by_cases z:q<=B
 ·left;grind
 ·right;grind
def zHq{a b:Int}{x y:Rat}(h0:0<=x)(h1:x<=(a:Rat))(h2:0<=y)(h3:y<=(b:Rat))(h:y=0∨x=(a:Rat)):rY [a,b] (x+y) 0=x/\rY [a,b] (x+y) 1=y:=by
 have e0:rY [a,b] (x+y) 0=mn (ps0 (x+y-((0:Int):Rat))) (a:Rat):=rfl;have e1:rY [a,b] (x+y) 1=mn (ps0 (x+y-((0+a:Int):Rat))) (b:Rat):=rfl;rw[e0,e1,Uq,show((0:Int):Rat)=0 from rfl];unfold mn ps0;generalize (a:Rat)=A at *;generalize (b:Rat)=B at *;rcases h with h | h<;>subst h<;>grind
def sW{M:Nat}{ws cs:List Int}{i j:Nat}{t t':Rat}(hi:0<cR ws i)(hj:0<cR ws j)(h:Lvl M [ws.getD i 0,ws.getD j 0] [cs.getD i 0,cs.getD j 0] (cN (cR cs) (cR ws) t i+cN (cR cs) (cR ws) t j) t'):
  cN (cR [cs.getD i 0,cs.getD j 0]) (cR [ws.getD i 0,ws.getD j 0]) t' 0=cN (cR cs) (cR ws) t i/\cN (cR [cs.getD i 0,cs.getD j 0]) (cR [ws.getD i 0,ws.getD j 0]) t' 1=cN (cR cs) (cR ws) t j:=by
 have s:=h.sum
 have k:=sU (c:=cR [cs.getD i 0,cs.getD j 0]) (w:=cR [ws.getD i 0,ws.getD j 0]) (t:=t') (u:=t) (l:=[0,1]) (by
  intro k hk;rcases Qe.mp hk with rfl | hk
  ·exact hi
  ·rw[Qu.mp hk];exact hj) (by
  have e1:jS (cN (cR [cs.getD i 0,cs.getD j 0]) (cR [ws.getD i 0,ws.getD j 0]) t') [0,1]=(evs [ws.getD i 0,ws.getD j 0] [cs.getD i 0,cs.getD j 0] t').sum:=rfl;rw[e1,s,bD,bD,gT,Yi]
  rfl)
 exact⟨k 0 Qb,k 1 (Qc _ Qb)⟩
def zCK(a b:Int):(([a,b]:List Int).sum:Rat)=(a:Rat)+(b:Rat):=by
 rw[Qk,Qk,Vs,Ws,Qv]
def w2(ws:List Int)(i j:Nat):List Int:=if ws=[] then [] else [ws.getD i 0,ws.getD j 0]
def zOj(x:Rat):x*hf+x*hf=x:=by rw[zQ];grind
def zKU{M M' N:Nat}{w:Wy}{ws cs:List Int}{q:Rat}{f g:Nat->Rat}(hw:w.due ws cs)(hc:Cl cs)(a:Al M ws cs q f w)(d:Dl N cs q f){i j:Nat}(hij:i<j)(hj:j<cs.length)
  (b:Al M' (w2 ws i j) [cs.getD i 0,cs.getD j 0] (f i+f j) g w):g 0=f i/\g 1=f j:=by
 have hi:i<cs.length:=⋯
 have bi:=d.bd i hi;have bj:=d.bd j hj;have ci:cR cs i=((cs.getD i 0:Int):Rat):=rfl;have cj:cR cs j=((cs.getD j 0:Int):Rat):=rfl;have z0:(0:Nat) < [cs.getD i 0,cs.getD j 0].length:=Nat.zero_lt_succ _;have z1:(1:Nat) < [cs.getD i 0,cs.getD j 0].length:=X9 _;have k0:cR [cs.getD i 0,cs.getD j 0] 0=cR cs i:=rfl;have k1:cR [cs.getD i 0,cs.getD j 0] 1=cR cs j:=rfl;have sm:=zCK (cs.getD i 0) (cs.getD j 0);rw[<-ci,<-cj] at sm
 have wpos:Wt ws cs->0<cR ws i/\0<cR ws j/\w2 ws i j=[ws.getD i 0,ws.getD j 0]:=fun hW=>by
  have a1:=(hW.at hi).1;have a2:=(hW.at hj).1;refine⟨by unfold cR;exact_mod_cast (show 0<ws.getD i 0 by omega),by unfold cR;exact_mod_cast (show 0<ws.getD j 0 by omega),?_⟩
  unfold w2;rw[Jk];intro e;have:=hW.len
  rw[e] at this;simp at this
  omega
 cases w with
 | row=>
  rw[b 0 z0,b 1 z1];exact zHq bi.1 bi.2.1 bj.1 bj.2.1 (by rw[a j hj,a i hi];exact zEj hc.nn hij hj)
 | back=>
  have ai:=a i hi;have aj:=a j hj;have b0:=b 0 z0;have b1:=b 1 z1;rw[sm,k0] at b0;rw[sm,k1] at b1;have key:=zHq (a:=cs.getD i 0) (b:=cs.getD j 0) (x:=rY cs ((cs.sum:Rat)-q) i) (y:=rY cs ((cs.sum:Rat)-q) j) (by grind) (by rw[<-ci];grind) (by grind) (by rw[<-cj];grind) (zEj hc.nn hij hj)
  rw[show cR cs i+cR cs j-(f i+f j)=rY cs ((cs.sum:Rat)-q) i+rY cs ((cs.sum:Rat)-q) j by rw[ai,aj];grind] at b0 b1;rw[key.1] at b0;rw[key.2] at b1;exact⟨by rw[b0,ai],by rw[b1,aj]⟩
 | even=>
  obtain⟨p1,p2,p3⟩:=wpos hw;obtain⟨t,tl,e⟩:=a;obtain⟨t',tl',e'⟩:=b;rw[p3] at tl' e';rw[e i hi,e j hj] at tl' ⊢
  obtain⟨r0,r1⟩:=sW p1 p2 tl';exact⟨by rw[e' 0 z0,r0],by rw[e' 1 z1,r1]⟩
 | lack=>
  obtain⟨p1,p2,p3⟩:=wpos hw;obtain⟨t,tl,e⟩:=a;obtain⟨t',tl',e'⟩:=b;rw[p3] at tl' e';rw[sm,e i hi,e j hj,show cR cs i+cR cs j-(cR cs i-cN (cR cs) (cR ws) t i+(cR cs j-cN (cR cs) (cR ws) t j))=cN (cR cs) (cR ws) t i+cN (cR cs) (cR ws) t j by grind] at tl';obtain⟨r0,r1⟩:=sW p1 p2 tl';exact⟨by rw[e' 0 z0,r0,e i hi];rfl,by rw[e' 1 z1,r1,e j hj];rfl⟩
 | part=>
  have ai:=a i hi;have aj:=a j hj;have b0:=b 0 z0;have b1:=b 1 z1
  have c2:Cl [cs.getD i 0,cs.getD j 0]:=⟨fun c h=>by
   rcases Qe.mp h with rfl | h
   ·exact hc.nn _ (Qg (aO hi))
   ·rw[Qu.mp h];exact hc.nn _ (Qg (aO hj)),fun c h=>by
   rcases Qe.mp h with rfl | h
   ·exact hc.up _ (Qg (aO hi))
   ·rw[Qu.mp h];exact hc.up _ (Qg (aO hj)),Xi (Vl _),by show 2<=12;decide⟩
  have P0:=fH (q:=f i+f j) c2 z0;have P1:=fH (q:=f i+f j) c2 z1;have Pi:=fH (q:=q) hc hi;have Pj:=fH (q:=q) hc hj;rw[<-b0,sm,k0] at P0;rw[<-b1,sm,k1] at P1;rw[<-ai] at Pi;rw[<-aj] at Pj;have ni:(0:Rat)<=cR cs i:=by have:=bi.1;have:=bi.2.1;grind
  have nj:(0:Rat)<=cR cs j:=by have:=bj.1;have:=bj.2.1;grind
  by_cases z:cR cs i+cR cs j=0
  ·have y0:cR cs i=0:=by grind
   have y1:cR cs j=0:=by grind
   have zi:[cs.getD i 0,cs.getD j 0].sum=0:=by
    have:(([cs.getD i 0,cs.getD j 0].sum:Int):Rat)=((0:Int):Rat):=by rw[sm,z];rfl
    exact_mod_cast this
   have q0:=P0.2 zi;have q1:=P1.2 zi;have:=bi.1;have:=bi.2.1;have:=bj.1;have:=bj.2.1
   exact⟨by grind,by grind⟩
  ·by_cases zs:cs.sum=0
   ·have e1:=kP hc.nn zs _ (Qg (aO hi))
    have e2:=kP hc.nn zs _ (Qg (aO hj));refine absurd ?_ z
    rw[ci,cj,e1,e2,show((0:Int):Rat)=0 from rfl,Yi]
   ·have S0:(cs.sum:Rat)≠0:=by
     intro e;have e':(cs.sum:Rat)=((0:Int):Rat):=e;exact zs (by exact_mod_cast e')
    have p0:=P0.1;have p1:=P1.1;have pi:=Pi.1;have pj:=Pj.1;generalize (cs.sum:Rat)=S at *;refine⟨vC (s:=cR cs i+cR cs j) z (vC (s:=S) S0 ?_),vC (s:=cR cs i+cR cs j) z (vC (s:=S) S0 ?_)⟩
    ·rw[p0];grind
    ·rw[p1];grind
 | half=>
  have W:=jG cs
  have u1:(0:Rat)<cR (ones cs) i:=by
   have:=(W.at hi).1
   unfold cR;exact_mod_cast (show 0<(ones cs).getD i 0 by omega)
  have u2:(0:Rat)<cR (ones cs) j:=by
   have:=(W.at hj).1
   unfold cR;exact_mod_cast (show 0<(ones cs).getD j 0 by omega)
  have o2:ones [cs.getD i 0,cs.getD j 0]=[(ones cs).getD i 0,(ones cs).getD j 0]:=by
   unfold ones;simp[List.getD,hi,hj]
  have G:∀ {t:Rat} {k:Nat},0<=t->k<cs.length->0<=cN (cR cs) (cR (ones cs)) t k/\cN (cR cs) (cR (ones cs)) t k<=cR cs k:=fun h0 hk=>oE W hc h0 hk
  obtain⟨t,ha⟩:=a;obtain⟨t',hb⟩:=b;rw[sm,o2] at hb;have h2:=zOj;rcases ha with⟨h1,tl,e⟩ | ⟨h1,tl,e⟩
  ·have gi:=G tl.nn hi
   have gj:=G tl.nn hj;have xi:=h2 (cN (cR cs) (cR (ones cs)) t i);have xj:=h2 (cN (cR cs) (cR (ones cs)) t j);rcases hb with⟨h3,tl',e'⟩ | ⟨h3,tl',e'⟩
   ·have s2:f i+f j+(f i+f j)=cN (cR cs) (cR (ones cs)) t i+cN (cR cs) (cR (ones cs)) t j:=by rw[e i hi,e j hj];grind
    rw[s2] at tl';obtain⟨r0,r1⟩:=sW u1 u2 tl';exact⟨by rw[e' 0 z0,r0,e i hi],by rw[e' 1 z1,r1,e j hj]⟩
   ·exfalso
    rw[e i hi,e j hj] at h3;grind
  ·have gi:=G tl.nn hi
   have gj:=G tl.nn hj;have xi:=h2 (cN (cR cs) (cR (ones cs)) t i);have xj:=h2 (cN (cR cs) (cR (ones cs)) t j);rcases hb with⟨h3,tl',e'⟩ | ⟨h3,tl',e'⟩
   ·have fi:=e i hi
    have fj:=e j hj
    have full:cN (cR cs) (cR (ones cs)) t i=cR cs i/\cN (cR cs) (cR (ones cs)) t j=cR cs j:=by
     rw[fi,fj] at h3;exact⟨by grind,by grind⟩
    have s2:f i+f j+(f i+f j)=cN (cR cs) (cR (ones cs)) t i+cN (cR cs) (cR (ones cs)) t j:=by rw[fi,fj];grind
    rw[s2] at tl';obtain⟨r0,r1⟩:=sW u1 u2 tl';exact⟨by rw[e' 0 z0,r0,fi];grind,by rw[e' 1 z1,r1,fj];grind⟩
   ·have s2:cR cs i+cR cs j-(f i+f j)+(cR cs i+cR cs j-(f i+f j))=cN (cR cs) (cR (ones cs)) t i+cN (cR cs) (cR (ones cs)) t j:=by rw[e i hi,e j hj];grind
    rw[s2] at tl';obtain⟨r0,r1⟩:=sW u1 u2 tl';exact⟨by rw[e' 0 z0,r0,e i hi];rfl,by rw[e' 1 z1,r1,e j hj];rfl⟩
def wys:List Str:=["row","back","even","lack","part","half"]
def wOK(w:Str)(ws:List Int)(m:Nat):Prop:=(w = "even" ∨ w = "lack")/\ws.length=m/\(∀ x∈ws,1<=x/\x<=10^6)∨¬ (w = "even" ∨ w = "lack")/\ws=[]
def IsC:Nat->D->Prop
 | 0,_=>False
 | n+1,d=>(∃ c:Int,d=.tup [.str "boat", .int c])∨∃(w:Str)(ws:List Int)(ks:List D),d=.tup [.str w,.tup (ws.map D.int),.tup ks]/\(w == "boat")=false/\0<ks.length/\ks.length<=100/\ws.length<=100/\(w∈wys/\wOK w ws ks.length)/\∀ k∈ks,IsC n k
def clm:Nat->D->List Int
 | 0,_=>[]
 | n+1,d=>match d with
  | .tup [_,.int c]=>[c]
  | .tup [_,_,.tup ks]=>ks.flatMap (clm n)
  | _=>[]
def dpt:Nat->D->Int
 | 0,_=>0
 | n+1,d=>match d with
  | .tup [_,_,.tup ks]=>1+mx0 (ks.map (dpt n))
  | _=>1
def fW{c:Int}:bH [.tup [.str "boat", .int c]]=.ok (.v (.bl true)):=by
 unfold bH;symm
def dW{w:Str}{a b:D}(h:(w == "boat")=false):bH [.tup [.str w,a,b]]=.ok (.v (.bl false)):=by
 unfold bH;erw[h]
def zEN{c:Int}:aV [.tup [.str "boat", .int c]]=.ok (.v (.tup [])):=by
 unfold aV;erw[fW];symm
def cO{w:Str}{a b:D}(h:(w == "boat")=false):aV [.tup [.str w,a,b]]=.ok (.v b):=by
 unfold aV;erw[dW h];symm
def zKC{ks:List D}{n i:Nat}:((ks.take i).flatMap (clm n)).length<=(ks.flatMap (clm n)).length:=by
 conv=>rhs;rw[<-Xz i ks,Vx,Qi]
 exact Nat.le_add_right _ _
def vM{ks:List D}{n:Nat}{k:D}(h:k∈ks):(clm n k).length<=(ks.flatMap (clm n)).length:=by
 obtain⟨a,b,rfl⟩:=List.append_of_mem h;rw[Vx,Q8,Qi,Qi];omega
def hJ:∀(n:Nat)(d:D),IsC n d->(clm n d).length<=1000->bQ n [d]=.ok (.f ((clm n d).map D.int))
 | 0,d,h,_=>h.elim
 | n+1,d,h,hl=>by
  show kM (bQ n) [d]=_
  unfold kM;symm;rcases h with⟨c,rfl⟩ | ⟨w,ws,ks,rfl,hw,k0,k1,w1,hy,hk⟩
  ·rw[fW]
   symm;rfl
  ·rw[dW hw]
   erw[cO hw];symm;refine jZ (Q:=fun r=>r.bind fin=.ok (.f ((ks.flatMap (clm n)).map D.int))) (fun i ρ=>∃ a,ρ=[.val (.tup [.str w,.tup (ws.map D.int),.tup ks]),.own (((ks.take i).flatMap (clm n)).map D.int),a]) ⟨_,rfl⟩ ?_ ?_
   ·rintro i e ρ he ⟨a,rfl⟩
    have hm:=Qg he;have hl':(ks.flatMap (clm n)).length<=1000:=hl;have l1:=vM (n:=n) hm;have l2:=zKC (ks:=ks) (n:=n) (i:=i);erw[hJ n e (hk e hm) ⋯,Jj ⋯];refine⟨_,rfl,.val e,?_⟩
    rw[nE he,Vx,Q4];simp[List.flatMap]
   ·rintro ρ' ⟨a,rfl⟩
    erw[V6]
def lU:∀(n:Nat)(d:D),IsC n d->(clm n d).length<=1000->dD n [d]=.ok (.v (.lst ((clm n d).map D.int)))
 | 0,d,h,_=>h.elim
 | n+1,d,h,hl=>by
  show iU (dD n) [d]=_
  unfold iU;symm;rcases h with⟨c,rfl⟩ | ⟨w,ws,ks,rfl,hw,k0,k1,w1,hy,hk⟩
  ·symm
   rfl
  ·symm
   rw[hw];symm;refine jZ (Q:=fun r=>r.bind fin=.ok (.v (.lst ((ks.flatMap (clm n)).map D.int)))) (fun i ρ=>∃ a,ρ=[.val (.tup [.str w,.tup (ws.map D.int),.tup ks]),.val (.lst (((ks.take i).flatMap (clm n)).map D.int)),a]) ⟨_,rfl⟩ ?_ ?_
   ·rintro i e ρ he ⟨a,rfl⟩
    have hm:=Qg he;have hl':(ks.flatMap (clm n)).length<=1000:=hl;have l1:=vM (n:=n) hm;have l2:=zKC (ks:=ks) (n:=n) (i:=i);erw[lU n e (hk e hm) ⋯,Jj ⋯];symm;refine⟨_,rfl,.val e,?_⟩
    rw[nE he,Vx,Q4];simp[List.flatMap]
   ·rintro ρ' ⟨a,rfl⟩
    erw[V6]
def zBq:∀(n:Nat)(d:D),IsC n d->hU n [d]=.ok (.v (.int (dpt n d)))
 | 0,d,h=>h.elim
 | n+1,d,h=>by
  show oY (hU n) [d]=_
  unfold oY;symm;rcases h with⟨c,rfl⟩ | ⟨w,ws,ks,rfl,hw,k0,k1,w1,hy,hk⟩
  ·rw[zEN]
   symm;rfl
  ·rw[cO hw]
   symm
   have e:=kJ (u:=fun k=>k) (g:=fun k=>.int (dpt n k)) (l:=ks) (f:=aL (hU n) (aB (aE 1) aNil)) (ρ:=[.val (.tup [.str w,.tup (ws.map D.int),.tup ks])]) ⋯ (fun k hm=>by
    erw[zBq n k (hk k hm)]
    symm)
   rw[Y5] at e;rw[e];erw[zHo];symm;rfl
def dOK:Nat->D->Prop
 | 0,_=>False
 | n+1,d=>(∃ i,d=.int i)∨(∃ x,d=.str x)∨∃ ds,d=.tup ds/\ds.length<=1000/\∀ e∈ds,dOK n e
def zJb:∀ {n m:Nat} {d:D},dOK n d->n<=m->dOK m d
 | 0,_,_,h,_=>h.elim
 | n+1,0,_,_,l=>absurd l ⋯
 | n+1,m+1,d,h,l=>by
  rcases h with h | h | ⟨ds,rfl,hl,he⟩
  ·exact .inl h
  ·exact .inr (.inl h)
  ·exact .inr (.inr ⟨ds,rfl,hl,fun e h=>zJb (he e h) ⋯⟩)
def zGv:∀(n:Nat)(d:D),IsC n d->dOK (2*n+1) d
 | 0,d,h=>h.elim
 | n+1,d,h=>by
  rcases h with⟨c,rfl⟩ | ⟨w,ws,ks,rfl,hw,k0,k1,w1,hy,hk⟩
  ·refine .inr (.inr ⟨_,rfl,by simp,fun e he=>?_⟩)
   rcases Qe.mp he with rfl | he
   ·exact .inr (.inl ⟨_,rfl⟩)
   ·rw[Qu.mp he];exact .inl ⟨_,rfl⟩
  ·refine .inr (.inr ⟨_,rfl,by simp,fun e he=>?_⟩)
   rcases Qe.mp he with rfl | he
   ·exact .inr (.inl ⟨_,rfl⟩)
   ·rcases Qe.mp he with rfl | he
    ·refine .inr (.inr ⟨_,rfl,by rw[Qf];omega,fun x hx=>?_⟩)
     obtain⟨i,_,rfl⟩:=Qt.mp hx;exact .inl ⟨_,rfl⟩
    ·rw[Qu.mp he]
     exact .inr (.inr ⟨_,rfl,⋯,fun x hx=>zGv n x (hk x hx)⟩)
def zCu:∀(n:Nat)(d:D),dOK n d->noL d=true
 | 0,d,h=>h.elim
 | n+1,d,h=>by
  rcases h with⟨i,rfl⟩ | ⟨x,rfl⟩ | ⟨ds,rfl,hl,he⟩
  ·simp[noL]
  ·simp[noL]
  ·rw[noL]
   clear hl
   induction ds with
   | nil=>rfl
   | cons a r ih=>rw[noLs,zCu n a (he a Qb),ih fun e h=>he e (Qc _ h)];rfl
def eJ:∀ {n m:Nat} {d:D},IsC n d->n<=m->IsC m d
 | 0,_,_,h,_=>h.elim
 | n+1,0,_,_,l=>absurd l ⋯
 | n+1,m+1,d,h,l=>by
  rcases h with h | ⟨w,ws,ks,rfl,hw,k0,k1,w1,hy,hk⟩
  ·exact .inl h
  ·exact .inr ⟨w,ws,ks,rfl,hw,k0,k1,w1,hy,fun k h=>eJ (hk k h) ⋯⟩
def cK:∀ {n m:Nat} {d:D},IsC n d->n<=m->clm m d=clm n d
 | 0,_,_,h,_=>h.elim
 | n+1,0,_,_,l=>absurd l ⋯
 | n+1,m+1,d,h,l=>by
  rcases h with⟨c,rfl⟩ | ⟨w,ws,ks,rfl,hw,k0,k1,w1,hy,hk⟩
  ·rfl
  ·show ks.flatMap (clm m)=ks.flatMap (clm n)
   rw[Vy,Vy];congr 1
   exact Qy fun k h=>cK (hk k h) ⋯
def zDv:∀ {n m:Nat} {d:D},IsC n d->n<=m->dpt m d=dpt n d
 | 0,_,_,h,_=>h.elim
 | n+1,0,_,_,l=>absurd l ⋯
 | n+1,m+1,d,h,l=>by
  rcases h with⟨c,rfl⟩ | ⟨w,ws,ks,rfl,hw,k0,k1,w1,hy,hk⟩
  ·rfl
  ·show 1+mx0 (ks.map (dpt m))=1+mx0 (ks.map (dpt n))
   rw[Qy fun k h=>zDv (hk k h) ⋯]
def zPD:∀ {l:List Int} {b:Int},0<=b->(∀ x∈l,x<=b)->mx0 l<=b
 | [],b,h,_=>h
 | a::r,b,_,h=>by
  have key:∀(r:List Int)(a:Int),a<=b->(∀ x∈r,x<=b)->yZ a r<=b:=by
   intro r
   induction r with
   | nil=>intro a ha _;exact ha
   | cons c r ih=>
    intro a ha hr;rw[yZ];refine ih _ ?_ fun x hx=>hr x (Qc _ hx)
    split
    ·exact hr c Qb
    ·exact ha
  exact key r a (h a Qb) fun x hx=>h x (Qc _ hx)
def zNN:∀ {l:List Int} {x:Int},x∈l->x<=mx0 l
 | [],_,h=>by cases h
 | a::r,x,h=>by
  have key:∀(r:List Int)(a:Int),a<=yZ a r/\∀ x∈r,x<=yZ a r:=by
   intro r
   induction r with
   | nil=>intro a;exact⟨Xl _,fun x h=>by cases h⟩
   | cons c r ih=>
    intro a;rw[yZ];have h1:=ih (if c > a then c else a);refine⟨Xv ?_ h1.1,fun x hx=>?_⟩
    ·split<;>omega
    ·rcases Qe.mp hx with rfl | hx
     ·refine Xv ?_ h1.1;split<;>omega
     ·exact h1.2 x hx
  rcases Qe.mp h with rfl | h
  ·exact(key r x).1
  ·exact(key r a).2 x h
def zGB:∀ {n:Nat} {d:D},IsC n d->1<=dpt n d/\dpt n d<=n
 | 0,_,h=>h.elim
 | n+1,d,h=>by
  rcases h with⟨c,rfl⟩ | ⟨w,ws,ks,rfl,hw,k0,k1,w1,hy,hk⟩
  ·exact⟨by show(1:Int)<=1;omega,by show(1:Int)<=_;omega⟩
  ·have h1:mx0 (ks.map (dpt n))<=n:=zPD ⋯ fun x hx=>by
    obtain⟨k,hk',rfl⟩:=Qt.mp hx;exact(zGB (hk k hk')).2
   have h2:0<=mx0 (ks.map (dpt n)):=by
    cases ks with
    | nil=>cases k0
    | cons k r=>exact Xv (by have:=(zGB (hk k Qb)).1;omega) (zNN (x:=dpt n k) (by simp))
   exact⟨by show 1<=1+mx0 (ks.map (dpt n));omega,by show 1+mx0 (ks.map (dpt n))<=((n+1:Nat):Int);omega⟩
def yA{w:Str}(h:w∈wys):(aR.lookup w).isSome=true/\(w == "boat")=false:=by
 simp only[wys,Qe,Q7,or_false] at h;rcases h with rfl | rfl | rfl | rfl | rfl | rfl<;>decide
def rQ{w:Str}(h:w∈wys):bW [.str w]=.ok (.v .non):=by
 unfold bW;erw[(yA h).1];symm
def zOL{w:Str}:oIn (.str w) (.tup [.str "even", .str "lack"])=.ok (.bl (decide (w = "even" ∨ w = "lack"))):=by
 show(if depS [D.str "even", D.str "lack"]<=50 then Res.ok (D.bl (((Str.ofString "even")==w) || (((Str.ofString "lack")==w) || false))) else .no)=_
 rw[Jj ∅,Wp];congr 2
 by_cases h1:w = "even"
 ·subst h1;decide
 ·by_cases h2:w = "lack"
  ·subst h2;decide
  ·rw[Ji (fun h=>h.elim h1 h2),beq_eq_false_iff_ne.mpr (Ne.symm h1),beq_eq_false_iff_ne.mpr (Ne.symm h2)];rfl
def sH{w:Str}{ws:List Int}{m:Nat}{d:D}(hd:d=.lst (ws.map D.int)∨d=.tup (ws.map D.int))(h:wOK w ws m):bA [.str w,d,.int m]=.ok (.v .non):=by
 have sq:zIw d=.ok (ws.map D.int):=by rcases hd with rfl | rfl<;>rfl
 have ln:lM [d]=.ok (.int (ws.length:Int)):=by rcases hd with rfl | rfl<;>simp[bLen_l,bLen_t]
 have fine:∀ x∈ws,1<=x/\x<=10^6:=by
  rcases h with⟨_,_,h⟩ | ⟨_,rfl⟩
  ·exact h
  ·intro x hx;cases hx
 have rest:∀ a:Sl,(fE [.val (.str w),.val d,.val (.int m),a,.un]).bind fin=.ok (.v .non):=by
  intro a;erw[sq];symm;refine zBZ (Q:=fun r:Res Rt=>r=.ok (.v .non)) (fun ρ=>∃ b,ρ=[.val (.str w),.val d,.val (.int m),a,b]) ⟨_,rfl⟩ ?_ ?_
  ·rintro e ρ he ⟨b,rfl⟩
   obtain⟨x,hx,rfl⟩:=Qt.mp he;have hf:=fine x hx;erw[Ji ⋯,oPow_i ∅,Ji ⋯];symm;exact⟨_,rfl,_,rfl⟩
  ·rintro ρ' ⟨b,rfl⟩
   rfl
 unfold bA;erw[zOL];unfold iN;generalize (fE:Sv)=K at rest ⊢;rcases h with⟨hw,hl,_⟩ | ⟨hw,rfl⟩
 ·rw[J5 hw]
  erw[ln,hl];symm;exact rest _
 ·rw[Ji hw]
  erw[ln,show decide (((0:Nat):Int)=0)=true from rfl];symm;exact rest _
def zOr{c:Int}(h0:0<=c)(h1:c<=10^9):zAT [.int c]=.ok (.v (.tup [.str "boat", .int c])):=by
 unfold zAT;erw[Ji ⋯,Ji ⋯];symm
def zHR{w:Str}{ws:List Int}{ks:List D}{n:Nat}{wd:D}(hd:wd=.lst (ws.map D.int)∨wd=.tup (ws.map D.int))(hw:w∈wys)(hs:wOK w ws ks.length)(l1:ws.length<=100)(k0:0<ks.length)(k1:ks.length<=100)(hn:n<=7)(hk:∀ k∈ks,IsC n k)(hc:(ks.flatMap (clm n)).length<=12):
  mF [.str w,wd,.lst ks]=.ok (.v (.tup [.str w,.tup (ws.map D.int),.tup ks]))/\IsC (n+1) (.tup [.str w,.tup (ws.map D.int),.tup ks]):=by
 have bt:zKh [wd]=.ok (.tup (ws.map D.int)):=by rcases hd with rfl | rfl<;>rfl
 have ic:IsC (n+1) (.tup [.str w,.tup (ws.map D.int),.tup ks]):=.inr ⟨w,ws,ks,rfl,(yA hw).2,k0,k1,l1,⟨hw,hs⟩,hk⟩;have ic':=eJ ic (show n+1<=10 by omega)
 have ec:=cK ic (show n+1<=10 by omega)
 have lc:(clm 10 (.tup [.str w,.tup (ws.map D.int),.tup ks])).length<=12:=by rw[ec];exact hc
 have dd:dpt 10 (.tup [.str w,.tup (ws.map D.int),.tup ks])<=8:=by
  rw[zDv ic (show n+1<=10 by omega)];have:=(zGB ic).2
  omega
 refine⟨?_,ic⟩
 unfold mF;erw[rQ hw,sH hd hs,bt,Ji ⋯,hJ 10 _ ic' ⋯,Ji ⋯,zBq 10 _ ic',Ji ⋯];symm
structure Pl (L:List (D×Int)) (boats:Int):Prop where
 each:∀ p∈L,1<=p.2/\p.2<=7/\IsC p.2.toNat p.1
 few:((L.flatMap fun p=>clm 7 p.1).length:Int)<=boats
 most:boats<=12
 rng:∀ c∈(L.flatMap fun p=>clm 7 p.1),0<=c/\c<=10^9
def zIc:∀ {l:List D},(∀ d∈l,noL d=true)->noLs l=true
 | [],_=>rfl
 | a::r,h=>by rw[noLs,h a Qb,zIc fun d hd=>h d (Qc _ hd)];rfl
def Pl.noL{L:List (D×Int)}{b:Int}(h:Pl L b):∀ d∈L.map Prod.fst,noL d=true:=fun d hd=>by
 obtain⟨p,hp,rfl⟩:=Qt.mp hd;exact zCu _ _ (zGv _ _ (h.each p hp).2.2)
def zKK:∀ {n:Nat} {d:D},dOK n d->dep d<=n
 | 0,_,h=>h.elim
 | n+1,d,h=>by
  rcases h with⟨i,rfl⟩ | ⟨x,rfl⟩ | ⟨ds,rfl,hl,he⟩
  ·simp[dep]
  ·simp[dep]
  ·rw[dep]
   clear hl
   have:depS ds<=n:=by
    induction ds with
    | nil=>simp[depS]
    | cons a r ih=>
     rw[depS];exact Nat.max_le.mpr ⟨zKK (he a Qb),ih fun e h=>he e (Qc _ h)⟩
   omega
def zMf{n:Nat}:∀ {ds:List D},(∀ d∈ds,dOK n d)->depS ds<=n
 | [],_=>by simp[depS]
 | a::r,h=>by rw[depS];exact Nat.max_le.mpr ⟨zKK (h a Qb),zMf fun e he=>h e (Qc _ he)⟩
def zCb{w:Str}(h:w∈wys):∃ v:Wy,v.s=w:=by
 unfold wys at h;rcases Qe.mp h with rfl | h
 ·exact⟨.row,rfl⟩
 rcases Qe.mp h with rfl | h
 ·exact⟨.back,rfl⟩
 rcases Qe.mp h with rfl | h
 ·exact⟨.even,rfl⟩
 rcases Qe.mp h with rfl | h
 ·exact⟨.lack,rfl⟩
 rcases Qe.mp h with rfl | h
 ·exact⟨.part,rfl⟩
 ·rw[Qu.mp h];exact⟨.half,rfl⟩
def zBt{v:Wy}{ws cs:List Int}(h:wOK v.s ws cs.length):v.due ws cs:=by
 have k:¬ (v.s = "even" ∨ v.s = "lack")->ws=[]:=fun hn=>by
  rcases h with⟨a,_⟩ | ⟨_,b⟩
  ·exact absurd a hn
  ·exact b
 have k2:(v.s = "even" ∨ v.s = "lack")->Wt ws cs:=fun hy=>by
  rcases h with⟨_,b,c⟩ | ⟨a,_⟩
  ·exact⟨b,fun x hx=>(c x hx).1,fun x hx=>(c x hx).2⟩
  ·exact absurd hy a
 cases v with
 | even=>exact k2 (.inl rfl)
 | lack=>exact k2 (.inr rfl)
 | row=>exact k ∅
 | back=>exact k ∅
 | part=>exact k ∅
 | half=>exact k ∅
def Gc(n:Nat)(d:D):Prop:=IsC n d/\(clm n d).length<=12/\∀ c∈clm n d,0<=c/\c<=10^9
def zKE:∀ {l:List Int},(∀ c∈l,0<=c/\c<=10^9)->0<=l.sum/\l.sum<=l.length*10^9
 | [],_=>∅
 | c::r,h=>by
  have ih:=zKE fun x hx=>h x (Qc _ hx)
  have a:=h c Qb;rw[Qk,Qm];have:((r.length+1:Nat):Int)*10^9=(r.length:Int)*10^9+10^9:=by rw[Xw,Yd];rfl
  omega
def Gc.sum{n:Nat}{d:D}(h:Gc n d):0<=(clm n d).sum/\(clm n d).sum<=12*10^9:=by
 have:=zKE h.2.2
 have:=h.2.1
 omega
def mE{n:Nat}:∀ ks:List D,(ks.map fun k=>(clm n k).sum).sum=(ks.flatMap (clm n)).sum
 | []=>rfl
 | k::r=>by rw[Ql,Qk,mE r,Q8,V8]
def zCh:∀ {n:Nat} {d:D},IsC n d->1<=(clm n d).length
 | 0,_,h=>h.elim
 | n+1,d,h=>by
  rcases h with⟨c,rfl⟩ | ⟨w,ws,ks,rfl,hw,k0,k1,w1,hy,hk⟩
  ·exact Qd 1
  ·cases ks with
   | nil=>simp at k0
   | cons k r=>
    have:=zCh (hk k Qb)
    show 1<=((k::r).flatMap (clm n)).length
    rw[Q8,Qi];omega
def mB{n:Nat}:∀ {ks:List D},(∀ k∈ks,IsC n k)->ks.length<=(ks.flatMap (clm n)).length
 | [],_=>Vl _
 | k::r,h=>by
  have a:=zCh (h k Qb);have b:=mB fun x hx=>h x (Qc _ hx)
  rw[Qm,Q8,Qi];omega
def zKP{n:Nat}{ks:List D}{k:D}(hk:k∈ks){c:Int}(hc:c∈clm n k):c∈ks.flatMap (clm n):=Ur.mpr ⟨k,hk,hc⟩
def Gc.kid{n:Nat}{w:D}{a ks:List D}(h:Gc (n+1) (.tup [w,.tup a,.tup ks]))(hi:∀ k∈ks,IsC n k){k:D}(hk:k∈ks):Gc n k:=
 ⟨hi k hk,Qn (vM hk) h.2.1,fun c hc=>h.2.2 c (zKP hk hc)⟩
def kcl(n:Nat)(ks:List D):List Int:=ks.map fun k=>(clm n k).sum
def cI(n:Nat)(ks:List D):(kcl n ks).length=ks.length:=Qf ..
def Gc.cl{n:Nat}{w:D}{a ks:List D}(h:Gc (n+1) (.tup [w,.tup a,.tup ks]))(hi:∀ k∈ks,IsC n k)(h0:0<ks.length):Cl (kcl n ks):=by
 have b:∀ c∈kcl n ks,0<=c/\c<=12*10^9:=fun c hc=>by
  obtain⟨k,hk,rfl⟩:=Qt.mp hc;exact(h.kid hi hk).sum
 have l:(ks.flatMap (clm n)).length<=12:=h.2.1;have:=mB hi
 exact⟨fun c hc=>(b c hc).1,fun c hc=>by have:=(b c hc).2;omega,by rw[cI];omega,by rw[cI];omega⟩
def ShL(P:D->Rat->List Rat->Prop):List D->(Nat->Rat)->Nat->List Rat->Prop
 | [],_,_,xs=>xs=[]
 | k::ks,f,i,xs=>∃ a b,xs=a++b/\P k (f i) a/\ShL P ks f (i+1) b
def Sh:Nat->D->Rat->List Rat->Prop
 | 0,_,_,_=>False
 | n+1,d,q,xs=>(∃ c:Int,d=.tup [.str "boat", .int c]/\xs=[q])∨∃(v:Wy)(ws:List Int)(ks:List D)(f:Nat->Rat),d=.tup [.str v.s,.tup (ws.map D.int),.tup ks]/\v.due ws (kcl n ks)/\Al 3000 ws (kcl n ks) q f v/\ShL (Sh n) ks f 0 xs
def zHP{P:D->Rat->List Rat->Prop}{n:Nat}{f:Nat->Rat}:∀ {ks:List D} {i:Nat} {xs:List Rat},(∀ k∈ks,∀ q xs,P k q xs->xs.length=(clm n k).length)->ShL P ks f i xs->xs.length=(ks.flatMap (clm n)).length
 | [],i,xs,_,h=>by rw[show xs=[] from h];rfl
 | k::r,i,xs,hp,h=>by
  obtain⟨a,b,rfl,ha,hb⟩:=h;rw[Qi,hp k Qb _ _ ha,zHP (fun x hx=>hp x (Qc _ hx)) hb,Q8,Qi]
def zAL:∀ {n:Nat} {d:D} {q:Rat} {xs:List Rat},Sh n d q xs->xs.length=(clm n d).length
 | 0,_,_,_,h=>h.elim
 | n+1,d,q,xs,h=>by
  rcases h with⟨c,rfl,rfl⟩ | ⟨v,ws,ks,f,rfl,hd,al,hs⟩
  ·rfl
  ·exact zHP (fun k _ q xs h=>zAL h) hs
def iQ{a:D}{l:List D}:cQ [.tup (a::l)]=.ok (.v a):=by
 unfold cQ;symm
def iV{a b:D}{l:List D}:bJ [.tup (a::b::l)]=.ok (.v b):=by
 unfold bJ;symm
def nG{n:Nat}{d:D}(h:IsC n d)(hn:n<=10)(hl:(clm n d).length<=1000):dM [d]=.ok (.v (.int (clm n d).sum)):=by
 have e:=cK h hn;unfold dM;erw[hJ 10 d (eJ h hn) (by rw[e];exact hl),e]
def zBF{n:Nat}{w:Str}{a:D}{ks:List D}(hw:(w == "boat")=false)(hi:∀ k∈ks,IsC n k)(hn:n<=10)(hl:(ks.flatMap (clm n)).length<=1000):eV [.tup [.str w,a,.tup ks]]=.ok (.f ((kcl n ks).map D.int)):=by
 unfold eV;erw[cO hw];symm
 rw[zGu (h:=fun k=>D.int (clm n k).sum) (by have:=mB hi;omega) (fun k hk=>by
  erw[nG (hi k hk) hn (Qn (vM hk) hl)]
  symm)]
 symm;unfold kcl;rw[Qw];rfl
def jH(v:Wy):(v.s == "boat")=false:=by cases v<;>decide
def zNE(cs:List Int):Sq (.lst (cs.map D.int)) cs:=.inl rfl
def wV:∀(n N m:Nat)(d:D)(q:Rat),Gc n d->n<=N->n<=9->0<=q->q<=((clm n d).sum:Rat)->(q.den:Int)<2^m->m+34*n<=2000->∃ xs,eU N [d,dq q]=.ok (.f (xs.map dq))/\Sh n d q xs
 | 0,_,_,_,_,h,_,_,_,_,_,_=>h.1.elim
 | n+1,0,_,_,_,_,hN,_,_,_,_,_=>⋯
 | n+1,N+1,m,d,q,g,hN,hn,q0,q1,qd,hm=>by
  rcases g.1 with⟨c,rfl⟩ | ⟨w,ws,ks,rfl,hw,k0,k1,w1,hy,hk⟩
  ·refine⟨[q],?_,.inl ⟨c,rfl,rfl⟩⟩
   show gU (eU N) _=_
   unfold gU;erw[fW];symm
  ·obtain⟨v,rfl⟩:=zCb hy.1
   have cl:=g.cl hk k0;have l12:(ks.flatMap (clm n)).length<=12:=g.2.1;have hs:(kcl n ks).sum=(clm (n+1) (.tup [.str v.s,.tup (ws.map D.int),.tup ks])).sum:=mE ks;have gs:=g.sum;have due:v.due ws (kcl n ks):=zBt (by rw[cI];exact hy.2)
   have sq:Sz (34+m) q:=(Dn.den q).sz (dZ q) qd q0 q1 ⋯
   have hl:Haul (34+m) q (kcl n ks).sum:=⟨q0,by rw[hs];exact q1,sq⟩
   obtain⟨f,ef,af⟩:=zFt (wd:=.tup (ws.map D.int)) (.inr rfl) (zNE (kcl n ks)) ⋯ due cl hl
   have df:=zLP due cl hl af;have hS:(kcl n ks).sum<2^34:=by rw[hs];omega
   obtain⟨E,e0,e1,e2⟩:=zOA due cl hS af (Dn.den q)
   have dk:∀ i,i<ks.length->((f i).den:Int)<2^(m+34):=fun i hi=>by
    have a:=(e2 i (by rw[cI];exact hi)).le (Xg (dZ q) e0)
    have b:(q.den:Int)*E<2^m*2^34:=Int.mul_lt_mul qd (Xs e1) e0 (Xs (Yu ∅))
    rw[Wu];omega
   have loopOk:∀(js:List D)(i:Nat)(acc:List Rat)(s t:Sl),(∀ k∈js,k∈ks)->i+js.length=ks.length->ks.drop i=js->acc.length+(js.flatMap (clm n)).length<=12->∃ xs s' t',ShL (Sh n) js f i xs/\
     loop (zAd (eE (gName 4) (eE (gName 5) xK))) (rS (eU N)) (lK js ((List.range' i js.length).map fun j=>dq (f j))) [.val (.tup [.str v.s,.tup (ws.map D.int),.tup ks]),.val (dq q),.val (.lst (((List.range (kcl n ks).length).map f).map dq)),.own (acc.map dq),s,t]=
      .ok (.nx [.val (.tup [.str v.s,.tup (ws.map D.int),.tup ks]),.val (dq q),.val (.lst (((List.range (kcl n ks).length).map f).map dq)),.own ((acc++xs).map dq),s',t']):=by
    intro js
    induction js with
    | nil=>intro i acc s t _ _ _ _;exact⟨[],s,t,rfl,by rw[Vn];rfl⟩
    | cons k r ih=>
     intro i acc s t hm' hl' hd' ha;have hik:i<ks.length:=by rw[Qm] at hl';omega
     have ik:k∈ks:=hm' k Qb;have gk:=g.kid hk ik;have fk:=df.bd i (by rw[cI];exact hik)
     have ck:cR (kcl n ks) i=((clm n k).sum:Rat):=by
      unfold cR kcl
      have:ks[i]?=some k:=by
       have:=List.getElem?_drop (xs:=ks) (i:=i) (j:=0)
       rw[hd'] at this;simpa using this.symm
      rw[Qq,Qr,this];rfl
     obtain⟨xs,ex,sx⟩:=wV n N (m+34) k (f i) gk ⋯ ⋯ fk.1 (by rw[<-ck];exact fk.2.1) (dk i hik) ⋯
     have lx:=zAL sx;rw[Q8,Qi] at ha;obtain⟨ys,s',t',sy,ey⟩:=ih (i+1) (acc++xs) (.val k) (.val (dq (f i))) (fun x hx=>hm' x (Qc _ hx)) (by rw[Qm] at hl';omega) (by rw[<-List.drop_drop,hd'];rfl) (by rw[Qi];omega)
     refine⟨xs++ys,s',t',⟨xs,ys,rfl,sx,sy⟩,?_⟩
     rw[Qm,List.range'_succ,Ql,show lK (k::r) (dq (f i)::(List.range' (i+1) r.length).map fun j=>dq (f j))=.tup [k,dq (f i)]::lK r ((List.range' (i+1) r.length).map fun j=>dq (f j)) from rfl]
     rw[iA (ρ1:=[.val (.tup [.str v.s,.tup (ws.map D.int),.tup ks]),.val (dq q),.val (.lst (((List.range (kcl n ks).length).map f).map dq)),.own (acc.map dq),.val k,.val (dq (f i))]) (ρ2:=[.val (.tup [.str v.s,.tup (ws.map D.int),.tup ks]),.val (dq q),.val (.lst (((List.range (kcl n ks).length).map f).map dq)),.own ((acc++xs).map dq),.val k,.val (dq (f i))]) (by symm) (by
      erw[ex];symm
      rw[Jj ⋯,Q4]),ey,V3]
   obtain⟨xs,s',t',sx,ex⟩:=loopOk ks 0 [] .un .un (fun k h=>h) ⋯ rfl (by rw[V4];omega)
   refine⟨xs,?_,.inr ⟨v,ws,ks,f,rfl,due,af.mono ⋯,sx⟩⟩
   show gU (eU N) _=_
   unfold gU;erw[dW hw,iQ,iV,zBF hw hk ⋯ ⋯,ef,cO hw];symm;rw[uH rfl rfl,show((List.range (kcl n ks).length).map f).map dq=(List.range' 0 ks.length).map fun j=>dq (f j) by rw[Qw,cI,Wv];rfl];symm;rw[show((List.range (kcl n ks).length).map f).map dq=(List.range' 0 ks.length).map fun j=>dq (f j) by rw[Qw,cI,Wv];rfl] at ex;rw[Vv] at ex;rw[ex];rfl
def zM{n m:Nat}{d:D}{q:Rat}(g:Gc n d)(hn:n<=9)(q0:0<=q)(q1:q<=((clm n d).sum:Rat))(qd:(q.den:Int)<2^m)(hm:m+34*n<=2000):∃ xs,pT [d,dq q]=.ok (.f (xs.map dq))/\Sh n d q xs:=by
 have gs:=g.sum;obtain⟨xs,ex,sx⟩:=wV n 10 m d q g ⋯ hn q0 q1 qd hm
 refine⟨xs,?_,sx⟩
 have sq:Sz (34+m) q:=(Dn.den q).sz (dZ q) qd q0 q1 ⋯
 unfold pT;erw[nG g.1 ⋯ (by have:=g.2.1;omega),cJ,lA ⋯ ⟨q0,q1,sq⟩ ⋯,ex];symm
def A2{r s:Type}(R:r->s->Prop):List r->List s->Prop
 | [],[]=>True
 | a::l,b::k=>R a b/\A2 R l k
 | _,_=>False
def A2.app{r s:Type}{R:r->s->Prop}:∀ {l l':List r} {k k':List s},A2 R l k->A2 R l' k'->A2 R (l++l') (k++k')
 | [],_,[],_,_,h=>h
 | _::l,_,_::k,_,h,h'=>⟨h.1,A2.app h.2 h'⟩
def A2.len{r s:Type}{R:r->s->Prop}:∀ {l:List r} {k:List s},A2 R l k->l.length=k.length
 | [],[],_=>rfl
 | _::l,_::k,h=>by rw[Qm,Qm,A2.len h.2]
def A2.at{r s:Type}{R:r->s->Prop}{a:r}{b:s}:∀ {l:List r} {k:List s} {i:Nat},A2 R l k->i<l.length->R (l.getD i a) (k.getD i b)
 | _::l,_::k,0,h,_=>h.1
 | _::l,_::k,i+1,h,hi=>A2.at (i:=i) h.2 (by simpa using hi)
def A2.mem{s p:Type}{R:s->p->Prop}:∀ {l:List s} {k:List p} {x:s},A2 R l k->x∈l->∃ y∈k,R x y
 | a::l,b::k,x,h,hx=>by
  rcases Qe.mp hx with rfl | hx
  ·exact⟨b,Qb,h.1⟩
  ·obtain⟨y,hy,r⟩:=A2.mem h.2 hx
   exact⟨y,Qc _ hy,r⟩
def Bc(x:Rat)(c:Int):Prop:=0<=x/\x<=(c:Rat)
def eP(l k:List Rat):(l++k).sum=l.sum+k.sum:=by
 induction l with
 | nil=>rw[Yt,Vs,Rat.zero_add]
 | cons a l ih=>rw[Uj,Qk,Qk,ih];grind
def zKi{P:D->Rat->List Rat->Prop}{n:Nat}{f:Nat->Rat}:∀ {ks:List D} {i:Nat} {xs:List Rat},(∀ k∈ks,∀ q xs,P k q xs->0<=q->q<=((clm n k).sum:Rat)->A2 Bc xs (clm n k)/\xs.sum=q)->(∀ j k,ks[j]?=some k->0<=f (i+j)/\f (i+j)<=((clm n k).sum:Rat))->ShL P ks f i xs->A2 Bc xs (ks.flatMap (clm n))/\xs.sum=((List.range' i ks.length).map f).sum
 | [],i,xs,_,_,h=>by rw[show xs=[] from h];exact⟨trivial,rfl⟩
 | k::r,i,xs,hp,hf,h=>by
  obtain⟨a,b,rfl,ha,hb⟩:=h;have f0:=hf 0 k rfl;obtain⟨a1,a2⟩:=hp k Qb _ _ ha f0.1 f0.2
  obtain⟨b1,b2⟩:=zKi (fun x hx=>hp x (Qc _ hx)) (fun j k' hj=>by
   have:=hf (j+1) k' (by simpa using hj)
   rw[show i+1+j=i+(j+1) by omega];exact this) hb
  refine⟨by rw[Q8];exact a1.app b1,?_⟩
  rw[eP,a2,b2,Qm,List.range'_succ,Ql,Qk]
def tP{n:Nat}{ks:List D}{j:Nat}{k:D}(h:ks[j]?=some k):j<(kcl n ks).length/\cR (kcl n ks) j=((clm n k).sum:Rat):=by
 refine⟨by rw[cI];exact(Ve.mp h).1,?_⟩
 unfold cR kcl;rw[Qq,Qr,h];rfl
def zJf:∀ {n:Nat} {d:D} {q:Rat} {xs:List Rat},Gc n d->Sh n d q xs->0<=q->q<=((clm n d).sum:Rat)->A2 Bc xs (clm n d)/\xs.sum=q
 | 0,_,_,_,g,_,_,_=>g.1.elim
 | n+1,d,q,xs,g,h,q0,q1=>by
  rcases h with⟨c,rfl,rfl⟩ | ⟨v,ws,ks,f,rfl,hd,al,hs⟩
  ·refine⟨⟨⟨q0,?_⟩,trivial⟩,by rw[Qk,Vs,Yi]⟩
   have e:((clm (n+1) (.tup [.str "boat", .int c])).sum:Int)=c:=by show([c]:List Int).sum=c;simp
   rw[e] at q1;exact q1
  ·rcases g.1 with⟨c,e⟩ | ⟨w,ws',ks',e,hw,k0,k1,w1,hy,hk⟩
   ·simp at e
   ·simp only[D.tup.injEq,X0,and_true] at e
    obtain⟨e1,e2,rfl⟩:=e;have cl:=g.cl hk k0;have e:(kcl n ks).sum=(clm (n+1) (.tup [.str v.s,.tup (ws.map D.int),.tup ks])).sum:=mE ks;obtain⟨b,s⟩:=zIn hd cl q0 (by rw[e];exact q1) al
    obtain⟨r1,r2⟩:=zKi (P:=Sh n) (n:=n) (f:=f) (i:=0) (fun k hk' q xs h0 h1 h2=>zJf (g.kid hk hk') h0 h1 h2) (fun j k hj=>by
     obtain⟨j1,j2⟩:=tP (n:=n) hj;rw[Q2,<-j2]
     exact b j j1) hs
    refine⟨r1,?_⟩
    rw[r2,<-Wv,<-cI n ks];exact s
def kn:Nat->D->Nat
 | 0,_=>0
 | n+1,d=>match d with
  | .tup [_,_,.tup ks]=>1+(ks.map (kn n)).sum
  | _=>0
def zOb{n:Nat}:∀ {ks:List D},(∀ k∈ks,kn n k<=(n-1)*(clm n k).length)->(ks.map (kn n)).sum<=(n-1)*(ks.flatMap (clm n)).length
 | [],_=>Vl _
 | k::r,h=>by
  have a:=h k Qb;have b:=zOb fun x hx=>h x (Qc _ hx)
  rw[Ql,Qk,Q8,Qi,Ww];omega
def zRr:∀ {n:Nat} {d:D},IsC n d->kn n d<=(n-1)*(clm n d).length
 | 0,_,h=>h.elim
 | n+1,d,h=>by
  rcases h with⟨c,rfl⟩ | ⟨w,ws,ks,rfl,hw,k0,k1,w1,hy,hk⟩
  ·exact Vl _
  ·have a:=zOb fun k h=>zRr (hk k h)
   have b:=mB hk;show 1+(ks.map (kn n)).sum<=(n+1-1)*(ks.flatMap (clm n)).length
   rw[Wf]
   cases n with
   | zero=>obtain⟨k,r,rfl⟩:=List.exists_cons_of_length_pos k0;exact(hk k Qb).elim
   | succ n=>
    rw[Wf] at a;rw[Nat.add_mul,Nat.one_mul];omega
def rD{a b:Int}{m n:Nat}(a0:0<a)(b0:0<b)(ha:a<=2^m)(hb:b<=2^n):a*b<=2^(m+n):=by
 rw[Wu];exact Int.mul_le_mul ha hb ⋯ (Xs (Yu ∅))
def zKM{P:D->Rat->List Rat->Prop}{n:Nat}{f:Nat->Rat}{B:Int}:∀ {ks:List D} {i:Nat} {xs:List Rat},(∀ k∈ks,∀ q xs B,P k q xs->0<=q->q<=((clm n k).sum:Rat)->Dn B q->∃ E:Int,0<E/\E<=2^(34*kn n k)/\∀ x∈xs,Dn (B*E) x)->(∀ j k,ks[j]?=some k->Dn B (f (i+j))/\0<=f (i+j)/\f (i+j)<=((clm n k).sum:Rat))->ShL P ks f i xs->∃ E:Int,0<E/\E<=2^(34*(ks.map (kn n)).sum)/\∀ x∈xs,Dn (B*E) x
 | [],i,xs,_,_,h=>⟨1,∅,by show(1:Int)<=2^(34*0);decide,fun x hx=>by rw[show xs=[] from h] at hx;cases hx⟩
 | k::r,i,xs,hp,hf,h=>by
  obtain⟨a,b,rfl,ha,hb⟩:=h;have f0:=hf 0 k rfl;obtain⟨E,e0,e1,e2⟩:=hp k Qb _ _ B ha f0.2.1 f0.2.2 f0.1
  obtain⟨E',e0',e1',e2'⟩:=zKM (B:=B) (fun x hx=>hp x (Qc _ hx)) (fun j k' hj=>by
   have:=hf (j+1) k' (by simpa using hj)
   rw[show i+1+j=i+(j+1) by omega];exact this) hb
  refine⟨E*E',Xg e0 e0',?_,fun x hx=>?_⟩
  ·rw[Ql,Qk,Ww]
   exact rD e0 e0' e1 e1'
  ·rcases Xa.mp hx with hx | hx
   ·rw[<-Xy];exact(e2 x hx).mul E'
   ·rw[Yf E,<-Xy];exact(e2' x hx).mul E
def zPk:∀ {n:Nat} {d:D} {q:Rat} {xs:List Rat} {B:Int},Gc n d->Sh n d q xs->0<=q->q<=((clm n d).sum:Rat)->Dn B q->∃ E:Int,0<E/\E<=2^(34*kn n d)/\∀ x∈xs,Dn (B*E) x
 | 0,_,_,_,_,g,_,_,_,_=>g.1.elim
 | n+1,d,q,xs,B,g,h,q0,q1,hB=>by
  rcases h with⟨c,rfl,rfl⟩ | ⟨v,ws,ks,f,rfl,hd,al,hs⟩
  ·exact⟨1,∅,by show(1:Int)<=2^(34*0);decide,fun x hx=>by rw[Qu.mp hx,V0];exact hB⟩
  ·rcases g.1 with⟨c,e⟩ | ⟨w,ws',ks',e,hw,k0,k1,w1,hy,hk⟩
   ·simp at e
   ·simp only[D.tup.injEq,X0,and_true] at e
    obtain⟨e1,e2,rfl⟩:=e;have cl:=g.cl hk k0;have gs:=g.sum;have e:(kcl n ks).sum=(clm (n+1) (.tup [.str v.s,.tup (ws.map D.int),.tup ks])).sum:=mE ks;obtain⟨b,s⟩:=zIn hd cl q0 (by rw[e];exact q1) al
    obtain⟨E,e0,e1,e2⟩:=zOA hd cl (by rw[e];omega) al hB
    obtain⟨E',e0',e1',e2'⟩:=zKM (P:=Sh n) (n:=n) (f:=f) (i:=0) (B:=B*E) (fun k hk' q xs B h0 h1 h2 h3=>zPk (g.kid hk hk') h0 h1 h2 h3) (fun j k hj=>by
     obtain⟨j1,j2⟩:=tP (n:=n) hj;rw[Q2,<-j2]
     exact⟨e2 j j1,b j j1⟩) hs
    refine⟨E*E',Xg e0 e0',?_,fun x hx=>by rw[<-Xy];exact e2' x hx⟩
    show E*E'<=2^(34*(1+(ks.map (kn n)).sum))
    rw[Ww];exact rD e0 e0' (Xs e1) e1'
def sS{M M':Nat}{ws cs:List Int}{q q' t t':Rat}(hW:Wt ws cs)(a:Lvl M ws cs q t)(b:Lvl M' ws cs q' t')(h:q<=q'){i:Nat}(hi:i<cs.length):cN (cR cs) (cR ws) t i<=cN (cR cs) (cR ws) t' i:=by
 have pw:∀ j∈List.range cs.length,0<cR ws j:=fun j hj=>by
  have:=(hW.at (Qs.mp hj)).1
  unfold cR;exact_mod_cast (show 0<ws.getD j 0 by omega)
 rcases Yg (a:=t) (b:=t') with g | g
 ·exact mI (pw i (Qs.mpr hi)) g
 ·have le:∀ j∈List.range cs.length,cN (cR cs) (cR ws) t' j<=cN (cR cs) (cR ws) t j:=fun j hj=>mI (pw j hj) g
  have s1:jS (cN (cR cs) (cR ws) t') (List.range cs.length)=q':=b.sum;have s2:jS (cN (cR cs) (cR ws) t) (List.range cs.length)=q:=a.sum;have s3:=zI le;rw[uW le (by rw[s1,s2];rw[s1,s2] at s3;grind) i (Qs.mpr hi)];exact Qz
def uN{M M':Nat}{w:Wy}{ws cs:List Int}{q q':Rat}{f g:Nat->Rat}(hw:w.due ws cs)(hc:Cl cs)(a:Al M ws cs q f w)(b:Al M' ws cs q' g w)(h:q<=q'){i:Nat}(hi:i<cs.length):f i<=g i:=by
 have sm:=hc.sum
 cases w with
 | row=>rw[a i hi,b i hi];exact tX cs 0 i h
 | back=>
  rw[a i hi,b i hi];have:=tX cs 0 (q:=(cs.sum:Rat)-q') (q':=(cs.sum:Rat)-q) i (by grind)
  unfold rY;grind
 | even=>
  obtain⟨t,tl,e⟩:=a;obtain⟨t',tl',e'⟩:=b;rw[e i hi,e' i hi];exact sS hw tl tl' h hi
 | lack=>
  obtain⟨t,tl,e⟩:=a;obtain⟨t',tl',e'⟩:=b;rw[e i hi,e' i hi];have:=sS hw tl' tl (by grind) hi
  grind
 | part=>
  rw[a i hi,b i hi];have c0:0<=cR cs i:=by unfold cR;exact_mod_cast hc.nn _ (Qg (aO hi))
  obtain⟨p1,p2⟩:=fH (q:=q) hc hi;obtain⟨r1,r2⟩:=fH (q:=q') hc hi;by_cases z:cs.sum=0
  ·rw[p2 z,r2 z];exact Qz
  ·have W:(0:Rat)<(cs.sum:Rat):=by exact_mod_cast (show 0<cs.sum by omega)
   exact pX W (by rw[p1,r1];exact Xm h c0)
 | half=>
  have ow:=jG cs;obtain⟨t,⟨c,tl,e⟩ | ⟨c,tl,e⟩⟩:=a
  ·have b1:=(oE ow hc tl.nn hi).2
   obtain⟨t',⟨c',tl',e'⟩ | ⟨c',tl',e'⟩⟩:=b
   ·have:=sS ow tl tl' (by grind) hi
    rw[e i hi,e' i hi,zQ];grind
   ·have b2:=(oE ow hc tl'.nn hi).2
    rw[e i hi,e' i hi,zQ];grind
  ·obtain⟨t',⟨c',tl',e'⟩ | ⟨c',tl',e'⟩⟩:=b
   ·exfalso;grind
   ·have:=sS ow tl' tl (by grind) hi
    rw[e i hi,e' i hi,zQ];grind
def zDh:∀ {l k:List Int},l.map D.int=k.map D.int->l=k
 | [],[],_=>rfl
 | [],_::_,h=>by cases h
 | _::_,[],h=>by cases h
 | a::l,b::k,h=>by
  rw[Ql,Ql,X0,D.int.injEq] at h;rw[h.1,zDh h.2]
def A2.refl{r:Type}{R:r->r->Prop}(h:∀ a,R a a):∀ l:List r,A2 R l l
 | []=>trivial
 | a::l=>⟨h a,A2.refl h l⟩
def zDx{P:D->Rat->List Rat->Prop}{f g:Nat->Rat}:∀ {ks:List D} {i:Nat} {xs ys:List Rat},(∀ k∈ks,∀ q q' xs ys,P k q xs->P k q' ys->q<=q'->A2 (·<=·) xs ys)->(∀ j,j<ks.length->f (i+j)<=g (i+j))->ShL P ks f i xs->ShL P ks g i ys->A2 (·<=·) xs ys
 | [],i,xs,ys,_,_,h,h'=>by rw[show xs=[] from h,show ys=[] from h'];trivial
 | k::r,i,xs,ys,hp,hf,h,h'=>by
  obtain⟨a,b,rfl,ha,hb⟩:=h;obtain⟨a',b',rfl,ha',hb'⟩:=h'
  exact(hp k Qb _ _ _ _ ha ha' (hf 0 (by simp))).app (zDx (fun x hx=>hp x (Qc _ hx)) (fun j hj=>by
   have:=hf (j+1) (by simpa using hj)
   rw[show i+1+j=i+(j+1) by omega];exact this) hb hb')
def zLj:∀ {n:Nat} {d:D} {q q':Rat} {xs ys:List Rat},Gc n d->Sh n d q xs->Sh n d q' ys->q<=q'->A2 (·<=·) xs ys
 | 0,_,_,_,_,_,g,_,_,_=>g.1.elim
 | n+1,d,q,q',xs,ys,g,h,h',le=>by
  rcases h with⟨c,rfl,rfl⟩ | ⟨v,ws,ks,f,rfl,hd,al,hs⟩
  ·rcases h' with⟨c',e',rfl⟩ | ⟨v',ws',ks',f',e',hd',al',hs'⟩
   ·exact⟨le,trivial⟩
   ·simp at e'
  ·rcases g.1 with⟨c,e⟩ | ⟨w,ws',ks',e,hw,k0,k1,w1,hy,hk⟩
   ·simp at e
   simp only[D.tup.injEq,X0,and_true] at e;obtain⟨e1,e2,rfl⟩:=e;have cl:=g.cl hk k0;rcases h' with⟨c',e',rfl⟩ | ⟨v',ws2,ks',f',e',hd',al',hs'⟩
   ·simp at e'
   simp only[D.tup.injEq,X0,and_true,D.str.injEq] at e';obtain⟨e3,e4,rfl⟩:=e';have ev:v=v':=by cases v<;>cases v'<;>first | rfl | exact absurd e3 ∅
   subst ev;have ew:ws=ws2:=zDh e4;subst ew;exact zDx (fun k hk' q q' xs ys h1 h2 h3=>zLj (g.kid hk hk') h1 h2 h3) (fun j hj=>by rw[Q2];exact uN hd cl al al' le (by rw[cI];exact hj)) hs hs'
def zRa:∀ {xs ys:List Rat},A2 (·<=·) xs ys->A2 (·<=·) ys xs->xs=ys
 | [],[],_,_=>rfl
 | x::l,y::k,h,h'=>by
  have a:=h.1;have b:=h'.1;rw[zRa h.2 h'.2,show x=y by grind]
def zJP{r:Type}{u:r->D}{t:Tv}{f:Ev}{ρ:Rho}{p:r->Bool}:∀ {l:List r},(∀ a∈l,t (ρ++[.val (u a)])=.ok (p a)/\f (ρ++[.val (u a)])=.ok (u a))->fV t f ρ (l.map u)=.ok ((l.filter p).map u)
 | [],_=>rfl
 | a::l,h=>by
  have ⟨h1,h2⟩:=h a Qb;have ih:=zJP (u:=u) (t:=t) (f:=f) (ρ:=ρ) (p:=p) fun x hx=>h x (Qc _ hx)
  rw[Ql,fV,h1]
  cases z:p a with
  | true=>rw[List.filter_cons_of_pos z];simp only[noErr,Res.bind,if_true,h2,ih];rfl
  | false=>rw[List.filter_cons_of_neg (by rw[z];decide)];simp only[noErr,Res.bind,ih];rfl
def tJ{x l:Rat}{m n:Nat}(hx:Sz m x)(hl:Sz n l)(h:m+n<=99990):cS [dq x,dq l]=.ok (.v (.bl (decide (x<0) || decide (l<x)))):=by
 unfold cS;erw[uI (n:=1) hx ⟨∅,∅⟩ ⋯];symm;by_cases c:x<0
 ·rw[J5 c]
  symm
 ·rw[Ji c]
  erw[uI hl hx ⋯];symm
def zGG{x l:Rat}{m n:Nat}(hx:Sz m x)(hl:Sz n l)(h:m+n<=99990)(hb:x<0∨l<x):bN [dq x,dq l]=.err "Outside" := by
 unfold bN;symm;rw[tJ hx hl h,show(decide (x<0) || decide (l<x))=true by rcases hb with h | h<;>simp[h]];symm
def jY(ns:List Int)(k:Int)(h:0<=k):dF [.lst (ns.map D.int),.int k]=.ok (.v (.int (ns.getD k.toNat 0))):=by
 unfold dF;symm;by_cases c:k<(ns.length:Int)
 ·rw[J5 c]
  symm;have hk:k.toNat<ns.length:=⋯
  rw[nM h (Qj hk),Qq,Qj hk];rfl
 ·rw[Ji c]
  symm;rw[Qq,Q3 ⋯];rfl
def oR:∀ {ds:List D} {n i:Nat} {d:D},(iI n ds)[i]?=some d->∃ a,ds[i]?=some a/\d=.tup [.int ((n+i:Nat):Int),a]
 | a::r,n,0,d,h=>by cases h;exact⟨a,rfl,rfl⟩
 | a::r,n,i+1,d,h=>by
  obtain⟨b,h1,h2⟩:=oR (ds:=r) (n:=n+1) (i:=i) h;exact⟨b,h1,by rw[h2];congr 4;omega⟩
 | [],n,i,d,h=>by cases i<;>cases h
def iW:∀(ds:List D)(n:Nat),(iI n ds).length=ds.length
 | a::r,n=>by simp only[iI,Qm,iW r (n+1)]
 | [],n=>rfl
def mkA(kd:Bool)(l:List Rat):D:=if kd then .lst (l.map dq) else .tup (l.map dq)
def zLY(kd:Bool)(l:List Rat):lM [mkA kd l]=.ok (.int (l.length:Int)):=by
 cases kd
 ·show lM [.tup (l.map dq)]=_
  rw[bLen_t,Qf]
 ·show lM [.lst (l.map dq)]=_
  rw[bLen_l,Qf]
def zBk{kd:Bool}{l:List Rat}{i:Nat}(h:i<l.length):oIx (mkA kd l) (.int (i:Int))=.ok (dq (l.getD i 0)):=by
 have e:l[(i:Int).toNat]?=some (l.getD i 0):=by rw[Vp,Qq,Qj h];rfl
 cases kd
 ·exact yD (Vg i) e
 ·exact nM (Vg i) e
def zMI(kd:Bool)(l:List Rat):zIw (mkA kd l)=.ok (l.map dq):=by cases kd<;>rfl
def pK(m:D->Nat):List D->List Rat->List (List Rat)
 | [],_=>[]
 | k::r,xs=>xs.take (m k)::pK m r (xs.drop (m k))
def kW{m:D->Nat}:∀(ks:List D)(xs:List Rat),(pK m ks xs).length=ks.length
 | [],_=>rfl
 | k::r,xs=>by rw[pK,Qm,kW r,Qm]
def zK{m:D->Nat}:∀ {ks:List D} {xs ys:List Rat} {x:Rat},ys∈pK m ks xs->x∈ys->x∈xs
 | [],xs,ys,x,h,_=>by cases h
 | k::r,xs,ys,x,h,hx=>by
  rw[pK] at h;rcases Qe.mp h with rfl | h
  ·exact Y4 hx
  ·exact Us (zK h hx)
def zMY{m:D->Nat}:∀ {ks:List D} {xs:List Rat} {i:Nat} {k:D},(ks.map m).sum<=xs.length->ks[i]?=some k->((pK m ks xs).getD i []).length=m k
 | c::r,xs,0,k,hl,h=>by
  cases h;rw[Ql,Qk] at hl;show(xs.take (m c)).length=m c
  rw[Xb];omega
 | c::r,xs,i+1,k,hl,h=>by
  rw[Ql,Qk] at hl;exact zMY (ks:=r) (xs:=xs.drop (m c)) (by rw[Vo];omega) (by simpa using h)
def zPp{kd:Bool}{xs:List Rat}{a b:Nat}:zNu (mkA kd xs) (some (a:Int)) (some ((a+b:Nat):Int))=.ok (mkA kd ((xs.drop a).take b)):=by
 have e:eG (xs.map dq) (some (a:Int)) (some ((a+b:Nat):Int))=((xs.drop a).take b).map dq:=by
  rw[zFV ⋯ ⋯,<-List.map_drop,<-List.map_take,Vp,Vp,Qah]
 cases kd
 ·show zNu (.tup (xs.map dq)) _ _=.ok (.tup _)
  rw[slQG_t,e]
 ·show zNu (.lst (xs.map dq)) _ _=.ok (.lst _)
  rw[slQG_l,e]
def zDC{n:Nat}{d:D}{kd:Bool}{xs:List Rat}(hn:n<=8):∀(ks:List D)(st:Nat)(acc:List D)(a b:Sl),(∀ k∈ks,IsC n k)->(ks.flatMap (clm n)).length<=12->acc.length+ks.length<=1000->
  ∃ s' a' b',loop (gName 4) wT ks [.val d,.val (mkA kd xs),.own acc,.val (.int (st:Int)),a,b]=.ok (.nx [.val d,.val (mkA kd xs),.own (acc++(pK (fun k=>(clm n k).length) ks (xs.drop st)).map (mkA kd)),s',a',b'])
 | [],st,acc,a,b,_,_,_=>⟨.val (.int (st:Int)),a,b,by rw[loop];simp[pK]⟩
 | k::r,st,acc,a,b,h,hl,hz=>by
  rw[Q8,Qi] at hl;rw[Qm] at hz;have ick:=h k Qb;have cl:=hJ 10 k (eJ ick ⋯) (by rw[cK ick (show n<=10 by omega)];omega)
  rw[cK ick (show n<=10 by omega)] at cl;obtain⟨s',a',b',e⟩:=zDC (d:=d) (kd:=kd) (xs:=xs) hn r (st+(clm n k).length) (acc++[mkA kd ((xs.drop st).take (clm n k).length)]) (.val k) (.val (.int ((st+(clm n k).length:Nat):Int))) (fun x hx=>h x (Qc _ hx)) ⋯ (by rw[Qi,X7];omega)
  refine⟨s',a',b',?_⟩
  rw[iA (ρ1:=[.val d,.val (mkA kd xs),.own acc,.val (.int (st:Int)),.val k,b]) (ρ2:=[.val d,.val (mkA kd xs),.own (acc++[mkA kd ((xs.drop st).take (clm n k).length)]),.val (.int ((st+(clm n k).length:Nat):Int)),.val k,.val (.int ((st+(clm n k).length:Nat):Int))]) rfl,e]
  ·rw[pK,Ql,V3,List.drop_drop];rfl
  ·symm
   rw[cl];symm;rw[<-Xw,zPp];erw[Jj ⋯];symm
def uB{n:Nat}{w:Str}{x:D}{ks:List D}{kd:Bool}{xs:List Rat}(hw:(w == "boat")=false)(hn:n<=8)(hk:∀ k∈ks,IsC n k)(hl:(ks.flatMap (clm n)).length<=12):
  iL [.tup [.str w,x,.tup ks],mkA kd xs]=.ok (.f ((pK (fun k=>(clm n k).length) ks xs).map (mkA kd))):=by
 have kl:=mB hk;obtain⟨s',a',b',e⟩:=zDC (d:=.tup [.str w,x,.tup ks]) (kd:=kd) (xs:=xs) hn ks 0 [] .un .un hk hl (by rw[V4];omega)
 unfold iL;erw[cO hw];symm;rw[show(0:Int)=((0:Nat):Int) from rfl,e];rfl
def zEY{kd:Bool}{ps:List (List Rat)}{i:Nat}(h:i<ps.length):oIx (.lst (ps.map (mkA kd))) (.int (i:Int))=.ok (mkA kd (ps.getD i [])):=
 nM (Vg i) (by rw[Vp,Qq,Qj h];rfl)
def zIU{kd:Bool}{xs:List Rat}{m n:Nat}(hp:∀ j,Sz m (xs.take j).sum)(hx:∀ x∈xs,Sz n x)(h:m+n<=8999):kO [mkA kd xs]=.ok (.v (dq xs.sum)):=by
 unfold kO;erw[zMI,show dq 0=dq ((xs.take 0).sum) from rfl];refine jZ (Q:=fun r=>r.bind fin=.ok (.v (dq xs.sum))) (k:=zDb zBs) (fun i ρ=>∃ a,ρ=[.val (mkA kd xs),.val (dq ((xs.take i).sum)),a]) ⟨_,rfl⟩ ?_ ?_
 ·rintro i d ρ hd ⟨a,rfl⟩
  have hi:i<xs.length:=by have:=(Ve.mp hd).1;rwa [Qf] at this
  rw[Qr,Qj hi] at hd;cases hd;refine⟨[.val (mkA kd xs),.val (dq ((xs.take (i+1)).sum)),.val (dq xs[i])],?_,_,rfl⟩
  have e:(xs.take (i+1)).sum=(xs.take i).sum+xs[i]:=by
   rw[Ud,Qj hi];show(xs.take i++[xs[i]]).sum=_
   rw[eP,Qk,Vs,Yi]
  symm;rw[xG (hp i) (hx _ (Xh hi)) h,e];symm
 ·rintro ρ ⟨a,rfl⟩
  rw[Qf,V6];rfl
def Dn.szA{B c:Int}{x:Rat}{a b:Nat}(h:Dn B x)(hB:0<B)(hb:B<2^b)(h0:-(c:Rat)<=x)(h1:x<=(c:Rat))(hc:c<2^a):Sz (a+b) x:=by
 by_cases z:0<=x
 ·exact h.sz hB hb z h1 hc
 ·have hn:Dn B (-x):=by
   obtain⟨k,e⟩:=h;exact⟨-k,by rw[Rat.neg_mul,e,Rat.intCast_neg]⟩
  have s:=hn.sz hB hb (by grind) (by grind) hc (c:=c)
  have e1:(-x).num=-x.num:=rfl;have e2:(-x).den=x.den:=rfl;refine⟨?_,?_⟩
  ·have:=s.1;rw[e1,Ut] at this;exact this
  ·have:=s.2;rw[e2] at this;exact this
structure Am (b:Nat) (xs:List Rat):Prop where
 len:xs.length<=12
 dn:∃ B:Int,0<B/\B<2^b/\∀ x∈xs,Dn B x
 bd:∀ x∈xs,-(2^36:Int)<=x/\x<=(2^36:Int)
def Am.sub{b:Nat}{xs ys:List Rat}(h:Am b xs)(hl:ys.length<=12)(hs:∀ y∈ys,y∈xs):Am b ys:=by
 obtain⟨B,b0,b1,b2⟩:=h.dn;exact⟨hl,⟨B,b0,b1,fun x hx=>b2 x (hs x hx)⟩,fun x hx=>h.bd x (hs x hx)⟩
def zCo{B:Int}:∀ {xs:List Rat},(∀ x∈xs,Dn B x)->Dn B xs.sum
 | [],_=>Dn.zero B
 | x::r,h=>by rw[Qk];exact(h x Qb).add (zCo fun y hy=>h y (Qc _ hy))
def zHf{c:Int}:∀ {xs:List Rat},(∀ x∈xs,-(c:Rat)<=x/\x<=(c:Rat))->-(((xs.length*c:Int):Rat))<=xs.sum/\xs.sum<=((xs.length*c:Int):Rat)
 | [],_=>by
  have e:((([]:List Rat).length*c:Int):Rat)=0:=by rw[V4];simp
  rw[e,Vs];constructor<;>grind
 | x::r,h=>by
  have a:=h x Qb;have b:=zHf fun y hy=>h y (Qc _ hy)
  have e:(((x::r).length*c:Int):Rat)=((r.length*c:Int):Rat)+(c:Rat):=by
   rw[Qm,Int.natCast_succ,Yd,U7,Qv]
  rw[e,Qk];constructor<;>grind
def Am.sum{b:Nat}{xs:List Rat}(h:Am b xs):Sz (41+b) xs.sum/\-(2^40:Int)<=xs.sum/\xs.sum<=(2^40:Int)/\∀ B,(∀ x∈xs,Dn B x)->Dn B xs.sum:=by
 obtain⟨B,b0,b1,b2⟩:=h.dn;have s:=zHf (c:=2^36) h.bd;have l:=h.len;have e:((xs.length*2^36:Int):Rat)<=((2^40:Int):Rat):=Q5.mpr ⋯
 have u:-(2^40:Int)<=xs.sum:=by grind
 have v:xs.sum<=(2^40:Int):=by grind
 exact⟨(zCo b2).szA b0 b1 (c:=2^40) u v ∅,u,v,fun B h=>zCo h⟩
def Am.each{b:Nat}{xs:List Rat}(h:Am b xs){x:Rat}(hx:x∈xs):Sz (37+b) x:=by
 obtain⟨B,b0,b1,b2⟩:=h.dn;exact(b2 x hx).szA b0 b1 (c:=2^36) (h.bd x hx).1 (h.bd x hx).2 ∅
def Am.take{b:Nat}{xs:List Rat}(h:Am b xs)(j:Nat):Am b (xs.take j):=h.sub (by rw[Xb];have:=h.len;omega) fun y hy=>Y4 hy
def Am.tot{b:Nat}{kd:Bool}{xs:List Rat}(h:Am b xs)(hb:b<=4000):kO [mkA kd xs]=.ok (.v (dq xs.sum)):=zIU (m:=41+b) (n:=37+b) (fun j=>(h.take j).sum.1) (fun _ hx=>h.each hx) ⋯
def zCz{w:Wy}{ws cs:List Int}{wd cd:D}(sw:Sq wd ws)(sc:Sq cd cs){q:Rat}{m:Nat}(hm:m<=5000)(hw:w.due ws cs)(hc:Cl cs)(zq:Sz m q)(hb:q<0∨(cs.sum:Rat)<q):iZ [.str w.s,wd,cd,dq q]=.err "Outside" := by
 have sm:=hc.sum;unfold iZ;erw[zDp sw sc hw hc,sc.sum,cJ,zGG zq (n:=120) ⟨by show cs.sum.natAbs<2^120;omega,by show 1<2^120;decide⟩ ⋯ hb];symm
def zKY(a b:Rat):eqD (dq a) (dq b)=decide (a=b):=eq_dq a b
def zPC{a b c d:Rat}:oNe (.lst [dq a,dq b]) (.lst [dq c,dq d])=.ok (.bl (!(decide (a=c) && decide (b=d)))):=by
 unfold oNe;rw[Jj (by simp only[dep,depS,dep_dq];decide)];show Res.ok (D.bl (!(eqD (dq a) (dq c) && (eqD (dq b) (dq d) && zEl [] []))))=_
 rw[zKY,zKY];show Res.ok (D.bl (!(decide (a=c) && (decide (b=d) && true))))=_
 rw[Wn]
def two(ws:List Int)(i j:Nat):List Int:=if ws=[] then [] else [ws.getD i 0,ws.getD j 0]
def pcs(n:Nat)(ks:List D)(xs:List Rat):List (List Rat):=pK (fun k=>(clm n k).length) ks xs
def Rt2(v:Wy)(ws:List Int)(cs:List Int)(i j:Nat)(a b:Rat):Prop:=0<=a+b/\a+b<=cR cs i+cR cs j/\∃(M:Nat)(f:Nat->Rat),Al M (two ws i j) [cs.getD i 0,cs.getD j 0] (a+b) f v/\f 0=a/\f 1=b
def zCf{v:Wy}{ws cs:List Int}{i j:Nat}(h:v.due ws cs)(hi:i<cs.length)(hj:j<cs.length):v.due (two ws i j) [cs.getD i 0,cs.getD j 0]:=by
 have wt:Wt ws cs->Wt (two ws i j) [cs.getD i 0,cs.getD j 0]:=fun w=>by
  have ne:ws≠[]:=fun z=>by have:=w.len;rw[z] at this;simp at this;omega
  unfold two;rw[Jk ne];have li:i<ws.length:=by rw[w.len];exact hi
  have lj:j<ws.length:=by rw[w.len];exact hj
  refine⟨rfl,fun x hx=>?_,fun x hx=>?_⟩
  ·simp only[Qe,Q7,or_false] at hx
   rcases hx with rfl | rfl
   ·exact w.lo _ (Qg (aO li))
   ·exact w.lo _ (Qg (aO lj))
  ·simp only[Qe,Q7,or_false] at hx
   rcases hx with rfl | rfl
   ·exact w.up _ (Qg (aO li))
   ·exact w.up _ (Qg (aO lj))
 have nl:ws=[]->two ws i j=[]:=fun z=>Jj z
 cases v with
 | even=>exact wt h
 | lack=>exact wt h
 | row=>exact nl h
 | back=>exact nl h
 | part=>exact nl h
 | half=>exact nl h
def Al2(v:Wy)(ws:List Int)(cs:List Int)(i j:Nat)(a b:Rat)(r:Bool):Prop:=0<=a+b->a+b<=cR cs i+cR cs j->(∀(M:Nat)(g:Nat->Rat),Al M (two ws i j) [cs.getD i 0,cs.getD j 0] (a+b) g v->g 0=a/\g 1=b)->r=false
def zGC{n:Nat}{kd:Bool}{v:Wy}{ws:List Int}{ks:List D}{xs:List Rat}{i j b:Nat}(g:Gc (n+1) (.tup [.str v.s,.tup (ws.map D.int),.tup ks]))(hn:n<=8)(hk:∀ k∈ks,IsC n k)(k0:0<ks.length)(due:v.due ws (kcl n ks))(am:Am b xs)(hb:b<=1200)(hi:i<ks.length)(hj:j<ks.length):
  ∃ r:Bool,jM [.tup [.str v.s,.tup (ws.map D.int),.tup ks],mkA kd xs,.int (i:Int),.int (j:Int)]=.ok (.v (.bl r))/\(r=false ↔ Rt2 v ws (kcl n ks) i j ((pcs n ks xs).getD i []).sum ((pcs n ks xs).getD j []).sum)/\Al2 v ws (kcl n ks) i j ((pcs n ks xs).getD i []).sum ((pcs n ks xs).getD j []).sum r:=by
 have l12:(ks.flatMap (clm n)).length<=12:=g.2.1;have gs:=g.sum;have cl:=g.cl hk k0;have wb:=jH v;have pl:(pcs n ks xs).length=ks.length:=kW ks xs
 have amp:∀ l,l<ks.length->Am b ((pcs n ks xs).getD l []):=fun l hl=>by
  have m:(pcs n ks xs).getD l []∈pcs n ks xs:=by
   rw[Qq,Qj ⋯];exact Xh _
  refine am.sub ?_ fun y hy=>zK m hy
  have:∀(ks:List D)(xs:List Rat)(ys:List Rat),ys∈pK (fun k=>(clm n k).length) ks xs->ys.length<=xs.length:=by
   intro ks
   induction ks with
   | nil=>intro xs ys h;cases h
   | cons k r ih=>
    intro xs ys h;rw[pK] at h;rcases Qe.mp h with rfl | h
    ·rw[Xb];omega
    ·have:=ih _ _ h;rw[Vo] at this;omega
  have:=this _ _ _ m
  have:=am.len
  omega
 have ai:=amp i hi;have aj:=amp j hj;have kl:(kcl n ks).length=ks.length:=cI n ks
 have at':∀ l:Nat,l<ks.length->∃ k,ks[l]?=some k/\oIx (.tup ks) (.int (l:Int))=.ok k/\k∈ks/\(kcl n ks).getD l 0=(clm n k).sum:=fun l hl=>by
  have e:ks[l]?=some ks[l]:=Qj hl;refine⟨ks[l],e,?_,Xh hl,?_⟩
  ·have:=yD (f:=fun d:D=>d) (l:=ks) (i:=(l:Int)) (a:=ks[l]) (Vg l) (by rw[Vp];exact e)
   rwa [Y5] at this
  ·unfold kcl
   rw[Qq,Qr,e];rfl
 obtain⟨ki,_,xi,mi,ci⟩:=at' i hi;obtain⟨kj,_,xj,mj,cj⟩:=at' j hj;have cdi:0<=(kcl n ks).getD i 0/\(kcl n ks).getD i 0<=12*10^9:=by rw[ci];exact(g.kid hk mi).sum
 have cdj:0<=(kcl n ks).getD j 0/\(kcl n ks).getD j 0<=12*10^9:=by rw[cj];exact(g.kid hk mj).sum
 have eci:=nG (hk ki mi) ⋯ (by have:=(g.kid hk mi).2.1;omega)
 have ecj:=nG (hk kj mj) ⋯ (by have:=(g.kid hk mj).2.1;omega)
 rw[<-ci] at eci;rw[<-cj] at ecj;have d2:=zCf due (by rw[kl];exact hi) (by rw[kl];exact hj)
 have c2:Cl [(kcl n ks).getD i 0,(kcl n ks).getD j 0]:=⟨fun c hc=>by
   simp only[Qe,Q7,or_false] at hc;rcases hc with rfl | rfl<;>omega,fun c hc=>by
   simp only[Qe,Q7,or_false] at hc;rcases hc with rfl | rfl<;>omega,by show 1<=2;decide,by show 2<=12;decide⟩
 have s2:([(kcl n ks).getD i 0,(kcl n ks).getD j 0]:List Int).sum=(kcl n ks).getD i 0+(kcl n ks).getD j 0:=by simp
 have sc:Sq (.lst [.int ((kcl n ks).getD i 0),.int ((kcl n ks).getD j 0)]) [(kcl n ks).getD i 0,(kcl n ks).getD j 0]:=.inl rfl
 obtain⟨wd,sw,ew⟩:∃ wd:D,Sq wd (two ws i j)/\∀(a4 a5 a6 a7 a9:Sl),fZ [.val (.tup [.str v.s,.tup (ws.map D.int),.tup ks]),.val (mkA kd xs),.val (.int (i:Int)),.val (.int (j:Int)),a4,a5,a6,a7,.val (.tup (ws.map D.int)),a9]=gD [.val (.tup [.str v.s,.tup (ws.map D.int),.tup ks]),.val (mkA kd xs),.val (.int (i:Int)),.val (.int (j:Int)),a4,a5,a6,a7,.val wd,a9]:=by
  by_cases z:ws=[]
  ·refine⟨.tup [],.inr (by unfold two;rw[Jj z];rfl),fun a4 a5 a6 a7 a9=>?_⟩
   subst z;unfold fZ;generalize hK:(gD:Sv)=K;erw[show decide ((0:Int)<((0:Nat):Int))=false from rfl];symm
  ·have w0:0<ws.length:=List.length_pos_iff.mpr z
   have wl:ws.length=ks.length:=by
    have wt:Wt ws (kcl n ks)->ws.length=ks.length:=fun w=>by rw[w.len,kl]
    cases v with
    | even=>exact wt due
    | lack=>exact wt due
    | row=>exact absurd due z
    | back=>exact absurd due z
    | part=>exact absurd due z
    | half=>exact absurd due z
   refine⟨.lst [.int (ws.getD i 0),.int (ws.getD j 0)],.inl (by unfold two;rw[Jk z];rfl),fun a4 a5 a6 a7 a9=>?_⟩
   have iw:∀ l:Nat,l<ks.length->oIx (.tup (ws.map D.int)) (.int (l:Int))=.ok (.int (ws.getD l 0)):=fun l hl=>yD (Vg l) (aO ⋯)
   unfold fZ;generalize hK:(gD:Sv)=K;erw[J5 ⋯,iw i hi,iw j hj];symm
 have zi:=ai.sum;have zj:=aj.sum;generalize hA:((pcs n ks xs).getD i []).sum=A at zi;generalize hB:((pcs n ks xs).getD j []).sum=B' at zj;have zq:Sz (2*b+83) (A+B'):=(zi.1.add zj.1).mono ⋯
 have ti:=ai.tot (kd:=kd) ⋯
 have tj:=aj.tot (kd:=kd) ⋯
 rw[hA] at ti;rw[hB] at tj
 have fin8:∃ r:Bool,(gD [.val (.tup [.str v.s,.tup (ws.map D.int),.tup ks]),.val (mkA kd xs),.val (.int (i:Int)),.val (.int (j:Int)),.val (.lst ((pcs n ks xs).map (mkA kd))),.val (.lst [dq A,dq B']),.val (.tup ks),.val (.lst [.int ((kcl n ks).getD i 0),.int ((kcl n ks).getD j 0)]),.val wd,.un]).bind fin=.ok (.v (.bl r))/\(r=false ↔ Rt2 v ws (kcl n ks) i j A B')/\Al2 v ws (kcl n ks) i j A B' r:=by
  by_cases rg:0<=A+B'/\A+B'<=cR (kcl n ks) i+cR (kcl n ks) j
  ·have hq:Haul (2*b+83) (A+B') ([(kcl n ks).getD i 0,(kcl n ks).getD j 0]:List Int).sum:=⟨rg.1,by rw[s2,Qv];exact rg.2,zq⟩
   obtain⟨f,ef,al⟩:=zFt sw sc ⋯ d2 c2 hq
   refine⟨!(decide (f 0=A) && decide (f 1=B')),?_,?_,fun _ _ h=>by obtain⟨h1,h2⟩:=h _ f al;rw[h1,h2];simp⟩
   ·symm
    rw[iQ];erw[show oIx (.lst [dq A,dq B']) (.int 0)=.ok (dq A) from rfl,show oIx (.lst [dq A,dq B']) (.int 1)=.ok (dq B') from rfl,xG zi.1 zj.1 ⋯,ef];symm;rw[show((List.range 2).map f).map dq=[dq (f 0),dq (f 1)] from rfl,zPC];rfl
   ·constructor
    ·intro h
     have h':(decide (f 0=A) && decide (f 1=B'))=true:=by
      cases hh:(decide (f 0=A) && decide (f 1=B')) with
      | true=>rfl
      | false=>rw[hh] at h;cases h
     rw[Vh,decide_eq_true_iff,decide_eq_true_iff] at h';exact⟨rg.1,rg.2,_,f,al,h'.1,h'.2⟩
    ·rintro⟨_,_,M,f',al',e0,e1⟩
     have o0:=zHG d2 al al' (i:=0) (by show 0<2;decide)
     have o1:=zHG d2 al al' (i:=1) (by show 1<2;decide)
     rw[o0,e0,o1,e1];simp
  ·refine⟨true,?_,?_,fun h1 h2 _=>absurd ⟨h1,h2⟩ rg⟩
   ·have hbad:A+B' < 0∨((([(kcl n ks).getD i 0,(kcl n ks).getD j 0]:List Int).sum:Int):Rat)<A+B':=by
     rw[s2,Qv];by_cases q:0<=A+B'
     ·exact .inr (Vz.mp fun z=>rg ⟨q,z⟩)
     ·exact .inl (Vz.mp q)
    erw[iQ,show oIx (.lst [dq A,dq B']) (.int 0)=.ok (dq A) from rfl,show oIx (.lst [dq A,dq B']) (.int 1)=.ok (dq B') from rfl,xG zi.1 zj.1 ⋯,zCz sw sc ⋯ d2 c2 zq hbad,zJN];symm
   ·constructor
    ·intro h;cases h
    ·rintro⟨r1,r2,_⟩;exact absurd ⟨r1,r2⟩ rg
 obtain⟨r,e8,hr⟩:=fin8;refine⟨r,?_,hr⟩
 unfold jM rN rO rP rX;generalize hK:(fZ:Sv)=K at ew ⊢;erw[uB wb hn hk l12,zEY (by rw[kW];exact hi)];symm;rw[show pK (fun k=>(clm n k).length) ks xs=pcs n ks xs from rfl,ti];erw[zEY (by rw[pl];exact hj),tj,cO wb,xi,eci,xj,ecj,iV,ew];exact e8
def rE{g:Gv}{b:Sv}{ds:List D}{ρ:Rho}(P:Nat->Rho->Prop)(R:Nat->Rt->Prop)(h0:P 0 ρ)
  (st:∀ i d ρ,ds[i]?=some d->P i ρ->(∃ ρ1 ρ2,g d ρ=.ok ρ1/\b ρ1=.ok (.nx ρ2)/\P (i+1) ρ2)∨∃ ρ1 r,g d ρ=.ok ρ1/\b ρ1=.ok (.ret r)/\R i r):
  (∃ ρ',loop g b ds ρ=.ok (.nx ρ')/\P ds.length ρ')∨∃ i r,i<ds.length/\loop g b ds ρ=.ok (.ret r)/\R i r:=by
 suffices h:∀(ds:List D)(j:Nat)(ρ:Rho),P j ρ->(∀ i d ρ,ds[i]?=some d->P (j+i) ρ->(∃ ρ1 ρ2,g d ρ=.ok ρ1/\b ρ1=.ok (.nx ρ2)/\P (j+i+1) ρ2)∨∃ ρ1 r,g d ρ=.ok ρ1/\b ρ1=.ok (.ret r)/\R (j+i) r)->(∃ ρ',loop g b ds ρ=.ok (.nx ρ')/\P (j+ds.length) ρ')∨∃ i r,i<ds.length/\loop g b ds ρ=.ok (.ret r)/\R (j+i) r by
  have:=h ds 0 ρ h0 (fun i d ρ hd hp=>by rw[Q2] at hp ⊢;exact st i d ρ hd hp)
  rw[Q2] at this;rcases this with h | ⟨i,r,h1,h2,h3⟩
  ·exact .inl h
  ·exact .inr ⟨i,r,h1,h2,by rw[Q2] at h3;exact h3⟩
 intro ds
 induction ds with
 | nil=>intro j ρ hp _;exact .inl ⟨ρ,rfl,hp⟩
 | cons d ds ih=>
  intro j ρ hp st;rcases st 0 d ρ rfl hp with⟨ρ1,ρ2,e1,e2,hp2⟩ | ⟨ρ1,r,e1,e2,hr⟩
  ·rw[iA e1 e2]
   rcases ih (j+1) ρ2 hp2 (fun i d' ρ' hd hp=>by
    have:=st (i+1) d' ρ' (by simpa using hd) (by rw[show j+(i+1)=j+1+i by omega];exact hp)
    rw[show j+(i+1)=j+1+i by omega] at this
    exact this) with⟨ρ',h1,h2⟩ | ⟨i,r,h1,h2,h3⟩
   ·exact .inl ⟨ρ',h1,by rw[Qm,show j+(ds.length+1)=j+1+ds.length by omega];exact h2⟩
   ·exact .inr ⟨i+1,r,by rw[Qm];omega,h2,by rw[show j+(i+1)=j+1+i by omega];exact h3⟩
  ·exact .inr ⟨0,r,Yp _,zGN e1 e2,hr⟩
def sK(n:Nat)(ks:List D)(xs:List Rat)(l:Nat):Rat:=((pcs n ks xs).getD l []).sum
def Rt3(n:Nat)(v:Wy)(ws:List Int)(ks:List D)(xs:List Rat)(i j:Nat):Prop:=Rt2 v ws (kcl n ks) i j (sK n ks xs i) (sK n ks xs j)
def bX(P:List D)(i j:Nat):D:=.tup [.str "pair", .tup P,.int (i:Int),.int (j:Int)]
def rK{n:Nat}{kd:Bool}{v:Wy}{ws:List Int}{ks P:List D}{xs:List Rat}{b:Nat}(g:Gc (n+1) (.tup [.str v.s,.tup (ws.map D.int),.tup ks]))(hn:n<=8)(hk:∀ k∈ks,IsC n k)(k0:0<ks.length)(due:v.due ws (kcl n ks))(am:Am b xs)(hb:b<=1200):
  (cZ [.tup [.str v.s,.tup (ws.map D.int),.tup ks],mkA kd xs,.tup P]=.ok (.v .non)/\∀ i j,i<j->j<ks.length->Rt3 n v ws ks xs i j)∨
  ∃ i j,i<j/\j<ks.length/\cZ [.tup [.str v.s,.tup (ws.map D.int),.tup ks],mkA kd xs,.tup P]=.ok (.v (bX P i j))/\¬ Rt3 n v ws ks xs i j/\∀ i' j',i' < j'->j' < ks.length->(i' < i∨i'=i/\j' < j)->Rt3 n v ws ks xs i' j':=by
 have kl:=mB hk;have l12:(ks.flatMap (clm n)).length<=12:=g.2.1;generalize hd:D.tup [.str v.s,.tup (ws.map D.int),.tup ks]=d at g ⊢;have wr:=fun(i j:Nat) (hi:i<ks.length) (hj:j<ks.length)=>zGC (kd:=kd) (i:=i) (j:=j) (by rw[hd];exact g) hn hk k0 due am hb hi hj
 rw[hd] at wr
 have head:∀ r:Res Fl,(cZ [d,mkA kd xs,.tup P]=((loop (gName 4) eY (rng 0 ks.length 1) [.val d,.val (mkA kd xs),.val (.tup P),.val (.int (ks.length:Int)),.un,.un]).bind (zDb rZ)).bind fin):=fun _=>by
  rw[<-hd];unfold cZ;erw[cO (jH v)];symm;rw[zCq ⋯ ⋯,Vp];symm
 have inner:∀(i:Nat)(a5:Sl),i<ks.length->(∃ a5',eY [.val d,.val (mkA kd xs),.val (.tup P),.val (.int (ks.length:Int)),.val (.int (i:Int)),a5]=.ok (.nx [.val d,.val (mkA kd xs),.val (.tup P),.val (.int (ks.length:Int)),.val (.int (i:Int)),a5'])/\∀ j,i<j->j<ks.length->Rt3 n v ws ks xs i j)∨
   ∃ j,i<j/\j<ks.length/\eY [.val d,.val (mkA kd xs),.val (.tup P),.val (.int (ks.length:Int)),.val (.int (i:Int)),a5]=.ok (.ret (.v (bX P i j)))/\¬ Rt3 n v ws ks xs i j/\∀ j',i<j'->j' < j->Rt3 n v ws ks xs i j':=by
  intro i a5 hi
  have e:eY [.val d,.val (mkA kd xs),.val (.tup P),.val (.int (ks.length:Int)),.val (.int (i:Int)),a5]=loop (gName 5) mU (rng ((i:Int)+1) ((ks.length:Int)-((i:Int)+1)).toNat 1) [.val d,.val (mkA kd xs),.val (.tup P),.val (.int (ks.length:Int)),.val (.int (i:Int)),a5]:=by
   erw[zLU ⋯ ⋯ ⋯ ⋯];symm
  rw[e];have ll:(rng ((i:Int)+1) ((ks.length:Int)-((i:Int)+1)).toNat 1).length=ks.length-(i+1):=by unfold rng;rw[Qf,Q9];omega
  rcases rE (g:=gName 5) (b:=mU) (ds:=rng ((i:Int)+1) ((ks.length:Int)-((i:Int)+1)).toNat 1) (ρ:=[.val d,.val (mkA kd xs),.val (.tup P),.val (.int (ks.length:Int)),.val (.int (i:Int)),a5])
   (fun l ρ=>∃ a5',ρ=[.val d,.val (mkA kd xs),.val (.tup P),.val (.int (ks.length:Int)),.val (.int (i:Int)),a5']/\∀ j,i<j->j<i+1+l->Rt3 n v ws ks xs i j)
   (fun l r=>r=.v (bX P i (i+1+l))/\¬ Rt3 n v ws ks xs i (i+1+l)/\∀ j',i<j'->j' < i+1+l->Rt3 n v ws ks xs i j') ⟨_,rfl,fun j h1 h2=>absurd h1 ⋯⟩ (by
   rintro l e ρ he ⟨a5',rfl,hp⟩
   obtain⟨hl,rfl⟩:=zIl he;have lj:i+1+l<ks.length:=⋯
   obtain⟨r,er,hr,_⟩:=wr i (i+1+l) hi lj;rw[show((i:Int)+1)+(l:Int)*1=((i+1+l:Nat):Int) by omega]
   cases r with
   | false=>
    refine .inl ⟨[.val d,.val (mkA kd xs),.val (.tup P),.val (.int (ks.length:Int)),.val (.int (i:Int)),.val (.int ((i+1+l:Nat):Int))],[.val d,.val (mkA kd xs),.val (.tup P),.val (.int (ks.length:Int)),.val (.int (i:Int)),.val (.int ((i+1+l:Nat):Int))],rfl,?_,_,rfl,fun j h1 h2=>?_⟩
    rotate_left
    ·rcases Xn (show j<=i+1+l by omega) with z | z
     ·exact hp j h1 z
     ·rw[z];exact hr.mp rfl
    ·symm
     rw[er];symm
   | true=>
    refine .inr ⟨[.val d,.val (mkA kd xs),.val (.tup P),.val (.int (ks.length:Int)),.val (.int (i:Int)),.val (.int ((i+1+l:Nat):Int))],_,rfl,?_,rfl,fun z=>(by have:=hr.mpr z;cases this),hp⟩
    erw[er];symm
    rfl) with⟨ρ',e',a5',rfl,hp⟩ | ⟨l,r,hl,e',rfl,h1,h2⟩
  ·exact .inl ⟨a5',e',fun j h1 h2=>hp j h1 (by rw[ll];omega)⟩
  ·rw[ll] at hl
   exact .inr ⟨i+1+l,⋯,⋯,e',h1,h2⟩
 rw[head .no];have ll:(rng 0 ks.length 1).length=ks.length:=by unfold rng;rw[Qf,Q9]
 rcases rE (g:=gName 4) (b:=eY) (ds:=rng 0 ks.length 1) (ρ:=[.val d,.val (mkA kd xs),.val (.tup P),.val (.int (ks.length:Int)),.un,.un])
  (fun l ρ=>∃ a4 a5,ρ=[.val d,.val (mkA kd xs),.val (.tup P),.val (.int (ks.length:Int)),a4,a5]/\∀ i j,i<j->j<ks.length->i<l->Rt3 n v ws ks xs i j)
  (fun l r=>∃ j,l<j/\j<ks.length/\r=.v (bX P l j)/\¬ Rt3 n v ws ks xs l j/\(∀ j',l<j'->j' < j->Rt3 n v ws ks xs l j')/\∀ i j,i<j->j<ks.length->i<l->Rt3 n v ws ks xs i j) ⟨_,_,rfl,fun i j _ _ h=>absurd h (X1 _)⟩ (by
  rintro l e ρ he ⟨a4,a5,rfl,hp⟩
  obtain⟨hl,rfl⟩:=zIl he;rw[show(0:Int)+(l:Int)*1=(l:Int) by omega];rcases inner l a5 hl with⟨a5',e1,h1⟩ | ⟨j,j1,j2,e1,h1,h2⟩
  ·refine .inl ⟨_,_,rfl,e1,_,_,rfl,fun i j hij hj hi=>?_⟩
   rcases Xn (show i<=l by omega) with z | z
   ·exact hp i j hij hj z
   ·subst z;exact h1 j hij hj
  ·exact .inr ⟨_,_,rfl,e1,j,j1,j2,rfl,h1,h2,hp⟩) with⟨ρ',e',a4,a5,rfl,hp⟩ | ⟨l,r,hl,e',j,j1,j2,rfl,h1,h2,h3⟩
 ·rw[e']
  refine .inl ⟨rfl,fun i j hij hj=>hp i j hij hj (by rw[ll];omega)⟩
 ·rw[e']
  refine .inr ⟨l,j,j1,j2,rfl,h1,fun i' j' a b c=>?_⟩
  rcases c with c | ⟨rfl,c⟩
  ·exact h3 i' j' a b c
  ·exact h2 j' a c
def AR:Nat->D->List Rat->Prop
 | 0,_,_=>True
 | n+1,d,xs=>∀(v:Wy)(ws:List Int)(ks:List D),d=.tup [.str v.s,.tup (ws.map D.int),.tup ks]->(∀ i j,i<j->j<ks.length->Rt3 n v ws ks xs i j)/\∀ l k,ks[l]?=some k->AR n k ((pcs n ks xs).getD l [])
def Am.pc{b n:Nat}{ks:List D}{xs:List Rat}(am:Am b xs)(l:Nat):Am b ((pcs n ks xs).getD l []):=by
 have hl:∀(ks:List D)(xs:List Rat)(ys:List Rat),ys∈pK (fun k=>(clm n k).length) ks xs->ys.length<=xs.length:=by
  intro ks
  induction ks with
  | nil=>intro xs ys h;cases h
  | cons k r ih=>
   intro xs ys h;rw[pK] at h;rcases Qe.mp h with rfl | h
   ·rw[Xb];omega
   ·have:=ih _ _ h;rw[Vo] at this;omega
 by_cases c:l<(pcs n ks xs).length
 ·have m:(pcs n ks xs).getD l []∈pcs n ks xs:=by
   rw[Qq,Qj c];exact Xh _
  refine am.sub ?_ fun y hy=>zK m hy
  have:=hl _ _ _ m
  have:=am.len
  omega
 ·rw[Qq,Q3 ⋯]
  exact am.sub (by show 0<=12;decide) fun y hy=>by cases hy
def zOG{v v':Wy}(h:v.s=v'.s):v=v':=by cases v<;>cases v'<;>first | rfl | exact absurd h ∅
def zBJ:∀ {a b:List Int},a.map D.int=b.map D.int->a=b
 | [],[],_=>rfl
 | x::a,y::b,h=>by
  rw[Ql,Ql] at h;injection h with h1 h2
  injection h1 with h1
  rw[h1,zBJ h2]
def uZ{n:Nat}{v:Wy}{ws:List Int}{ks:List D}{xs:List Rat}:AR (n+1) (.tup [.str v.s,.tup (ws.map D.int),.tup ks]) xs ↔ (∀ i j,i<j->j<ks.length->Rt3 n v ws ks xs i j)/\∀ l k,ks[l]?=some k->AR n k ((pcs n ks xs).getD l []):=by
 constructor
 ·intro h;exact h v ws ks rfl
 ·intro h v' ws' ks' e
  simp only[D.tup.injEq,X0,and_true,D.str.injEq] at e;obtain⟨e1,e2,rfl⟩:=e;have:=zOG e1
  have:=zBJ e2
  subst_vars
  exact h
def rW{kd:Bool}{b:Nat}(hb:b<=1200):∀(n N:Nat)(d:D)(xs:List Rat)(P:List Int),Gc n d->n<=N->n<=9->Am b xs->P.length+n<=1000->
  (aM N [d,mkA kd xs,.tup (P.map D.int)]=.ok (.v .non)/\AR n d xs)∨∃(Q:List Int)(i j:Nat),aM N [d,mkA kd xs,.tup (P.map D.int)]=.ok (.v (bX (Q.map D.int) i j))/\¬ AR n d xs
 | 0,_,_,_,_,g,_,_,_,_=>g.1.elim
 | n+1,0,_,_,_,_,h,_,_,_=>absurd h ⋯
 | n+1,N+1,d,xs,P,g,hN,h9,am,hP=>by
  rcases g.1 with⟨c,rfl⟩ | ⟨w,ws,ks,rfl,hw,k0,k1,w1,hy,hk⟩
  ·refine .inl ⟨?_,fun v ws ks e=>by simp at e⟩
   show bF (aM N) _=_
   unfold bF;erw[fW];symm
  ·obtain⟨v,rfl⟩:=zCb hy.1
   have due:v.due ws (kcl n ks):=zBt (by rw[cI];exact hy.2)
   have l12:(ks.flatMap (clm n)).length<=12:=g.2.1;have kl:=mB hk;have pl:(pcs n ks xs).length=ks.length:=kW ks xs;show(bF (aM N) _=_/\_)∨∃(Q:List Int)(i j:Nat),bF (aM N) _=_/\_
   rcases rK (kd:=kd) (P:=P.map D.int) g ⋯ hk k0 due am hb with⟨eo,ho⟩ | ⟨i,j,ij,jk,eo,no,_⟩
   ·have gk0:=fun k (mk:k∈ks)=>g.kid (n:=n) hk mk
    generalize hd:D.tup [.str v.s,.tup (ws.map D.int),.tup ks]=d at *
    have lp:=rE (g:=zAd (eE (gName 5) (eE (gName 6) xK))) (b:=eH (aM N)) (ds:=iI 0 ks) (ρ:=[.val d,.val (mkA kd xs),.val (.tup (P.map D.int)),.val .non,.val (.lst ((pcs n ks xs).map (mkA kd))),.un,.un])
     (fun l ρ=>∃ a3 a5 a6,ρ=[.val d,.val (mkA kd xs),.val (.tup (P.map D.int)),a3,.val (.lst ((pcs n ks xs).map (mkA kd))),a5,a6]/\∀ l' k,l' < l->ks[l']?=some k->AR n k ((pcs n ks xs).getD l' []))
     (fun l r=>∃(Q:List Int)(i j:Nat)(k:D),r=.v (bX (Q.map D.int) i j)/\ks[l]?=some k/\¬ AR n k ((pcs n ks xs).getD l [])) ⟨_,_,_,rfl,fun l' k h=>absurd h (X1 _)⟩ (by
     rintro l e ρ he ⟨a3,a5,a6,rfl,hp⟩
     obtain⟨k,hk',rfl⟩:=oR he;have hl:l<ks.length:=(Ve.mp hk').1;have mk:k∈ks:=Qg hk';rw[Q2]
     have ap:rA (.tup (P.map D.int)) (.tup [.int (l:Int)])=.ok (.tup ((P++[(l:Int)]).map D.int)):=by
      rw[Q4];exact Jj (by rw[Qf];show P.length+1<=16777216;omega)
     have gk:=gk0 k mk;rcases rW hb n N k ((pcs n ks xs).getD l []) (P++[(l:Int)]) gk ⋯ ⋯ (am.pc l) (by rw[Qi,X7];omega) with⟨er,ar⟩ | ⟨Q,i,j,er,nr⟩
     ·refine .inl ⟨[.val d,.val (mkA kd xs),.val (.tup (P.map D.int)),a3,.val (.lst ((pcs n ks xs).map (mkA kd))),.val (.int (l:Int)),.val k],[.val d,.val (mkA kd xs),.val (.tup (P.map D.int)),.val .non,.val (.lst ((pcs n ks xs).map (mkA kd))),.val (.int (l:Int)),.val k],?_,?_,_,_,_,rfl,fun l' k' h1 h2=>?_⟩
      ·symm
      ·symm
       rw[zEY ⋯];erw[ap,er];symm
      ·rcases Xn (show l'<=l by omega) with z | z
       ·exact hp l' k' z h2
       ·subst z;rw[hk'] at h2;cases h2;exact ar
     ·refine .inr ⟨[.val d,.val (mkA kd xs),.val (.tup (P.map D.int)),a3,.val (.lst ((pcs n ks xs).map (mkA kd))),.val (.int (l:Int)),.val k],_,?_,?_,Q,i,j,k,rfl,hk',nr⟩
      ·symm
      ·symm
       rw[zEY ⋯];erw[ap,er];symm;unfold bX
       symm)
    have head:bF (aM N) [d,mkA kd xs,.tup (P.map D.int)]=((loop (zAd (eE (gName 5) (eE (gName 6) xK))) (eH (aM N)) (iI 0 ks) [.val d,.val (mkA kd xs),.val (.tup (P.map D.int)),.val .non,.val (.lst ((pcs n ks xs).map (mkA kd))),.un,.un]).bind (zDb (gX (aM N)))).bind fin:=by
     unfold bF;symm;rw[<-hd,dW (jH v),hd];erw[eo];symm;rw[<-hd,uB (jH v) ⋯ hk l12,hd];symm;rw[<-hd,cO (jH v),hd];symm;rfl
    rw[head];rcases lp with⟨ρ',e',a3,a5,a6,rfl,hp⟩ | ⟨l,r,hl,e',Q,i,j,k,rfl,hk',nr⟩
    ·rw[e']
     refine .inl ⟨rfl,?_⟩
     rw[<-hd,uZ];refine⟨ho,fun l k h=>hp l k ?_ h⟩
     rw[iW];exact(Ve.mp h).1
    ·rw[e']
     refine .inr ⟨Q,i,j,rfl,fun z=>nr ?_⟩
     rw[<-hd,uZ] at z;exact z.2 l k hk'
   ·refine .inr ⟨P,i,j,?_,fun z=>no ((uZ.mp z).1 i j ij jk)⟩
    unfold bF;erw[dW (jH v),eo];symm;unfold bX;symm
def qP{n:Nat}{d:D}(g:Gc n d)(hn:n<=10):bQ 10 [d]=.ok (.f ((clm n d).map D.int)):=by
 have:=hJ 10 d (eJ g.1 hn) (by rw[cK g.1 hn];have:=g.2.1;omega)
 rwa [cK g.1 hn] at this
def zDw{n:Nat}{d:D}{kd:Bool}{xs:List Rat}(g:Gc n d)(hn:n<=10):dS [d,mkA kd xs]=if xs.length=(clm n d).length then .ok (.v .non) else .err "Unlike" := by
 unfold dS;erw[zLY,qP g hn];symm;by_cases c:xs.length=(clm n d).length
 ·rw[Jj c,c]
  symm
 ·rw[Jk c,Ji ⋯]
  symm
def Wi(cs:List Int)(xs:List Rat):Prop:=∀ i,i<cs.length->0<=xs.getD i 0/\xs.getD i 0<=cR cs i
def zIj{n b:Nat}{d:D}{kd:Bool}{xs:List Rat}(g:Gc n d)(hn:n<=9)(am:Am b xs)(hb:b<=1200)(hl:xs.length=(clm n d).length):
  (∃ k:Nat,aP [d,mkA kd xs]=.ok (.v (.tup [.str "over", .int (k:Int)]))/\k<(clm n d).length/\¬ (0<=xs.getD k 0/\xs.getD k 0<=cR (clm n d) k)/\∀ i,i<k->0<=xs.getD i 0/\xs.getD i 0<=cR (clm n d) i)∨
  (∃(Q:List Int)(i j:Nat),aP [d,mkA kd xs]=.ok (.v (bX (Q.map D.int) i j))/\¬ AR n d xs/\Wi (clm n d) xs)∨(aP [d,mkA kd xs]=.ok (.v (.tup [.str "catch", dq xs.sum]))/\AR n d xs/\Wi (clm n d) xs):=by
 have l12:=g.2.1
 have head:aP [d,mkA kd xs]=((loop (zAd (eE (gName 2) (eE (gName 3) xK))) eI (iI 0 ((clm n d).map D.int)) [.val d,.val (mkA kd xs),.un,.un,.un]).bind (zDb dL)).bind fin:=by
  unfold aP;symm;rw[zDw g ⋯,Jj hl];erw[qP g ⋯];symm
 rw[head]
 rcases rE (g:=zAd (eE (gName 2) (eE (gName 3) xK))) (b:=eI) (ds:=iI 0 ((clm n d).map D.int)) (ρ:=[.val d,.val (mkA kd xs),.un,.un,.un])
  (fun l ρ=>∃ a2 a3,ρ=[.val d,.val (mkA kd xs),a2,a3,.un]/\∀ i,i<l->0<=xs.getD i 0/\xs.getD i 0<=cR (clm n d) i)
  (fun l r=>r=.v (.tup [.str "over", .int (l:Int)])/\¬ (0<=xs.getD l 0/\xs.getD l 0<=cR (clm n d) l)/\∀ i,i<l->0<=xs.getD i 0/\xs.getD i 0<=cR (clm n d) i) ⟨_,_,rfl,fun i h=>absurd h (X1 _)⟩ (by
  rintro l e ρ he ⟨a2,a3,rfl,hp⟩
  obtain⟨a,ha,rfl⟩:=oR he;have hl':l<(clm n d).length:=by have:=(Ve.mp ha).1;rwa [Qf] at this
  rw[Qr,aO hl'] at ha;cases ha;have cb:=g.2.2 _ (Qg (aO hl'));rw[Q2]
  have mx:xs.getD l 0∈xs:=by
   have h:l<xs.length:=⋯
   rw[Qq,Qj h];exact Xh h
  have zx:=am.each mx;have io:=tJ zx (n:=34) (l:=(((clm n d).getD l 0:Int):Rat)) ⟨by show((clm n d).getD l 0).natAbs<2^34;omega,by show 1<2^34;decide⟩ ⋯
  by_cases c:0<=xs.getD l 0/\xs.getD l 0<=cR (clm n d) l
  ·refine .inl ⟨[.val d,.val (mkA kd xs),.val (.int (l:Int)),.val (.int ((clm n d).getD l 0)),.un],[.val d,.val (mkA kd xs),.val (.int (l:Int)),.val (.int ((clm n d).getD l 0)),.un],?_,?_,_,_,rfl,fun i hi=>?_⟩
   ·symm
   ·symm
    rw[zBk ⋯];erw[cJ];symm;rw[io,Ji (Vb.mpr c.1),Ji (show ¬ (((clm n d).getD l 0:Int):Rat)<xs.getD l 0 from Vb.mpr c.2)];symm
   ·rcases Xn (show i<=l by omega) with z | z
    ·exact hp i z
    ·rw[z];exact c
  ·refine .inr ⟨[.val d,.val (mkA kd xs),.val (.int (l:Int)),.val (.int ((clm n d).getD l 0)),.un],_,?_,?_,rfl,c,hp⟩
   ·symm
   ·have bad:(decide (xs.getD l 0<0) || decide ((((clm n d).getD l 0:Int):Rat)<xs.getD l 0))=true:=by
     rw[Xc,decide_eq_true_iff,decide_eq_true_iff];by_cases q:0<=xs.getD l 0
     ·exact .inr (Vz.mp fun z=>c ⟨q,z⟩)
     ·exact .inl (Vz.mp q)
    erw[zBk ⋯,cJ];symm;rw[io,bad]
    symm) with⟨ρ',e',a2,a3,rfl,hp⟩ | ⟨l,r,hll,e',rfl,h1,h2⟩
 ·rw[e']
  rw[iW,Qf] at hp;have wi:Wi (clm n d) xs:=hp;refine .inr ?_
  rcases rW (kd:=kd) hb n 10 d xs [] g ⋯ hn am (by show 0+n<=1000;omega) with⟨ef,ar⟩ | ⟨Q,i,j,ef,nr⟩
  ·have ef:aM 10 [d,mkA kd xs,.tup []]=.ok (.v .non):=ef
   refine .inr ⟨?_,ar,wi⟩
   show(dL _).bind fin=_
   erw[ef,am.tot ⋯];symm
  ·have ef:aM 10 [d,mkA kd xs,.tup []]=.ok (.v (bX (Q.map D.int) i j)):=ef
   refine .inl ⟨Q,i,j,?_,nr,wi⟩
   show(dL _).bind fin=_
   erw[ef];unfold bX;symm
 ·rw[e']
  rw[iW,Qf] at hll;exact .inl ⟨l,rfl,hll,h1,h2⟩
def Clm(cs:List Int):Prop:=∀ c∈cs,0<=c/\c<=10^9
def zIs{n:Nat}{ks:List D}(h:∀ k∈ks,IsC n k):ks.length<=(ks.flatMap (clm n)).length:=mB h
def zFf{ds:List D}{m:Nat}(h0:0<m)(h:m<=ds.length):eG ds none (some (-(m:Int)))=ds.take (ds.length-m):=by
 unfold eG cut;simp only[show ¬ (0<=-(m:Int)) by omega,if_false,List.drop_zero,Wg];rw[show((ds.length:Int)+-(m:Int)).toNat=ds.length-m by omega]
def zEL{ds:List D}{m:Nat}(h0:0<m)(h:m<=ds.length):eG ds (some (-(m:Int))) none=ds.drop (ds.length-m):=by
 unfold eG cut;simp only[show ¬ (0<=-(m:Int)) by omega,if_false];rw[show((ds.length:Int)+-(m:Int)).toNat=ds.length-m by omega,Yw (by rw[Vo];omega)]
def zMD{x m:Int}(h:0<m)(hm:m<=10^9+1):0<=x % m/\x % m<=10^9:=by
 have a:=Qx x (Wx h);have b:=Va x h;omega
def zDa{cell kind:Int}(h:0<=cell)(hk:0<=kind):∃ c:Int,gW [.int cell,.int kind]=.ok (.v (.int c))/\0<=c/\c<=10^9:=by
 have d0:0<=cell / 91 % 60*10^6/\cell / 91 % 60*10^6<=10^9:=by
  have a:=Qx (cell / 91) (show(60:Int)≠0 by decide)
  have b:=Va (cell / 91) (show(0:Int)<60 by decide)
  omega
 have i0:0<=(kind+cell % 7 / 5) % 4:=Qx _ ∅
 have i1:(kind+cell % 7 / 5) % 4<4:=Va _ ∅
 have hi:((kind+cell % 7 / 5) % 4).toNat < [cell / 7 % 13,cell / 7 % 4,cell / 7 % (10^9+1),cell / 91 % 60*10^6].length:=(Int.toNat_lt i0).mpr i1
 have all:∀ x∈[cell / 7 % 13,cell / 7 % 4,cell / 7 % (10^9+1),cell / 91 % 60*10^6],0<=x/\x<=10^9:=fun x hx=>by
  simp only[Qe,Q7,or_false] at hx;rcases hx with rfl | rfl | rfl | rfl
  ·exact zMD ∅ ∅
  ·exact zMD ∅ ∅
  ·exact zMD ∅ ∅
  ·exact d0
 have ix:=nM (f:=D.int) i0 (Qj hi);have bd:=all _ (Xh hi);generalize ([cell / 7 % 13,cell / 7 % 4,cell / 7 % (10^9+1),cell / 91 % 60*10^6])[((kind+cell % 7 / 5) % 4).toNat]=c at ix bd;unfold gW;symm;rw[oMod_i ∅,fmod_pos _ ∅];erw[oPow_i ∅,oMul_i (okMul_litr ∅ ∅)];symm;refine⟨c,?_,bd⟩
 rw[show oIx (.lst [.int (cell / 7 % 13),.int (cell / 7 % 4),.int (cell / 7 % (10^9+1)),.int (cell / 91 % 60*10^6)]) (.int ((kind+cell % 7 / 5) % 4))=.ok (.int c) from ix];symm
def zQr:List Str:=[Str.ofString "even", Str.ofString "row", Str.ofString "lack", Str.ofString "half", Str.ofString "part", Str.ofString "back"]
def zPL{k:Int}(h0:0<=k)(h1:k<6):∃ w∈wys,oIx (.lst [.str "even", .str "row", .str "lack", .str "half", .str "part", .str "back"]) (.int k)=.ok (.str w):=by
 have hk:k.toNat<zQr.length:=(Int.toNat_lt h0).mpr h1;have all:∀ x∈zQr,x∈wys:=∅
 exact⟨zQr[k.toNat],all _ (Xh hk),nM (f:=D.str) (l:=zQr) h0 (Qj hk)⟩
def fm8{n:Nat}{ks:List D}(hk:∀ k∈ks,IsC n k)(hn:n<=8):ks.flatMap (clm 8)=ks.flatMap (clm n):=by
 rw[Vy,Qy fun p hp=>cK (hk p hp) hn,<-Vy]
def zCY:∀ {n m:Nat} {d:D},IsC n d->n<=m->kn m d=kn n d
 | 0,_,_,h,_=>h.elim
 | n+1,0,_,_,l=>absurd l ⋯
 | n+1,m+1,d,h,l=>by
  rcases h with⟨c,rfl⟩ | ⟨w,ws,ks,rfl,hw,k0,k1,w1,hy,hk⟩
  ·rfl
  ·show 1+(ks.map (kn m)).sum=1+(ks.map (kn n)).sum
   rw[Qy fun k hk'=>zCY (hk k hk') ⋯]
def zMR{n:Nat}{ks:List D}(hk:∀ k∈ks,IsC n k)(hn:n<=7):(ks.map (kn 7)).sum=(ks.map (kn 8)).sum:=by
 rw[Qy fun k hk'=>(show kn 7 k=kn 8 k by rw[zCY (hk k hk') hn,zCY (hk k hk') (show n<=8 by omega)])]
def zMd{w a:D}{ks:List D}:kn 8 (.tup [w,a,.tup ks])=1+(ks.map (kn 7)).sum:=rfl
def zMc{c:Int}:kn 8 (.tup [.str "boat", .int c])=0:=rfl
def wX{cell:Int}{ks:List D}{n:Nat}(h0:0<=cell)(k0:0<ks.length)(hn:n<=7)(hk:∀ k∈ks,IsC n k)(hc:(ks.flatMap (clm 8)).length<=12):
  ∃ d,fU [.int cell,.lst ks]=.ok (.v d)/\IsC (n+1) d/\clm 8 d=ks.flatMap (clm 8)/\kn 8 d<=1+(ks.map (kn 8)).sum:=by
 rw[fm8 hk ⋯] at hc ⊢
 have kl:=zIs hk;obtain⟨w,hw,ew⟩:=zPL (k:=cell % 6) (Qx _ ∅) (Va _ ∅)
 have fin':∀(ws:List Int)(a4 a5 a6:Sl),wOK w ws ks.length->ws.length<=100->∃ d,(mO [.val (.int cell),.val (.lst ks),.val (.str w),.own (ws.map D.int),a4,a5,a6]).bind fin=.ok (.v d)/\IsC (n+1) d/\clm 8 d=ks.flatMap (clm n)/\kn 8 d<=1+(ks.map (kn 8)).sum:=by
  intro ws a4 a5 a6 hs hl;obtain⟨e,ic⟩:=zHR (wd:=.lst (ws.map D.int)) (.inl rfl) hw hs hl k0 ⋯ hn hk hc
  refine⟨_,?_,ic,?_,?_⟩
  rotate_left
  ·rw[cK ic ⋯];rfl
  ·rw[zMd,zMR hk hn]
   exact Qd _
  ·symm
   rw[e];symm
 unfold fU rL rT;generalize hK:(mO:Sv)=K at fin';erw[ew,zOL];by_cases iw:w = "even" ∨ w = "lack"
 ·rw[J5 iw]
  symm;have q0:0<=cell / 6 % 4:=Qx _ ∅
  have q1:cell / 6 % 4<4:=Va _ ∅
  rw[oPow_i ∅];symm
  obtain⟨most,em,m0,m1⟩:∃ most:Int,oIx (.lst [.int 3,.int 3,.int 3,.int (10^6)]) (.int (cell / 6 % 4))=.ok (.int most)/\1<=most/\most<=10^6:=by
   generalize cell / 6 % 4=k at q0 q1;rcases (show k=0∨k=1∨k=2∨k=3 by omega) with rfl | rfl | rfl | rfl<;>exact⟨_,rfl,∅,∅⟩
  rw[em];symm
  refine jZ (Q:=fun r=>∃ d,r.bind fin=.ok (.v d)/\IsC (n+1) d/\clm 8 d=ks.flatMap (clm n)/\kn 8 d<=1+(ks.map (kn 8)).sum) (k:=zDb K)
   (fun i ρ=>∃(ws:List Int)(rest:Int)(a:Sl),ρ=[.val (.int cell),.val (.lst ks),.val (.str w),.own (ws.map D.int),.val (.int most),.val (.int rest),a]/\ws.length=i/\(∀ x∈ws,1<=x/\x<=10^6)/\0<=rest) ⟨[],cell / 24,.un,rfl,rfl,(fun x h=>by cases h),Uu h0 ∅⟩ ?_ ?_
  ·rintro i d ρ hd ⟨ws,rest,a,rfl,hl,hx,r0⟩
   have hi:=(Ve.mp hd).1;have b0:=Qx rest (show most≠0 by omega)
   have b1:=Va rest (show 0<most by omega)
   refine⟨_,?_,ws++[1+rest % most],rest / 3,.val d,rfl,by rw[Qi,hl];rfl,fun x hx'=>?_,Uu r0 ∅⟩
   ·symm
    rw[oMod_i (show most≠0 by omega),fmod_pos _ (show 0<most by omega)];erw[Jj ⋯,Q4];rfl
   ·rcases Xa.mp hx' with h | h
    ·exact hx x h
    ·rw[Qu.mp h];omega
  ·rintro ρ ⟨ws,rest,a,rfl,hl,hx,r0⟩
   exact fin' ws _ _ _ (.inl ⟨iw,hl,hx⟩) ⋯
 ·rw[Ji iw]
  symm;exact fin' [] _ _ _ (.inr ⟨iw,rfl⟩) ∅
def zNg{q:Nat}{c:Int}(h:0<=c/\c<=10^9):IsC (q+1) (.tup [.str "boat", .int c])/\Clm (clm 8 (.tup [.str "boat", .int c])):=⟨.inl ⟨c,rfl⟩,fun x hx=>by rw[Qu.mp (show x∈[c] from hx)];exact h⟩
def zEJ(L:List D)(q i:Nat):Prop:=(q<=5/\(L.map (kn 8)).sum<=q)/\(∀ d∈L,IsC (q+1) d/\Clm (clm 8 d))/\(L.flatMap (clm 8)).length=i
def zEJ.len{L:List D}{q i:Nat}(h:zEJ L q i):L.length<=i:=by
 have:=zIs (n:=q+1) (fun d hd=>(h.2.1 d hd).1)
 rw[<-fm8 (fun d hd=>(h.2.1 d hd).1) (by have:=h.1;omega),h.2.2] at this;exact this
def zEJ.boat{L:List D}{q i:Nat}{c:Int}(h:zEJ L q i)(hc:0<=c/\c<=10^9):zEJ (L++[.tup [.str "boat", .int c]]) q (i+1):=by
 refine⟨⟨h.1.1,by rw[Q4,V8,Ql,Vv,Qk,Vs,zMc];exact h.1.2⟩,fun d hd=>?_,?_⟩
 ·rcases Xa.mp hd with hd | hd
  ·exact h.2.1 d hd
  ·rw[Qu.mp hd];exact zNg hc
 ·rw[Vx,Qi,h.2.2];rfl
def zEJ.noL{L:List D}{q i:Nat}(h:zEJ L q i):∀ d∈L,noL d=true:=fun d hd=>zCu _ _ (zGv _ _ (h.2.1 d hd).1)
def zEJ.knot{L:List D}{q i m:Nat}{d:D}(h:zEJ L q i)(hq:q<5)(hd:IsC (q+2) d)(hc:clm 8 d=(L.drop m).flatMap (clm 8))(hkn:kn 8 d<=1+((L.drop m).map (kn 8)).sum):zEJ (L.take m++[d]) (q+1) i:=by
 refine⟨⟨⋯,by
  have e:=h.1.2;rw[<-Xz m L,Q4,V8] at e;rw[Q4,V8,Ql,Vv,Qk,Vs]
  omega⟩,fun e he=>?_,?_⟩
 ·rcases Xa.mp he with he | he
  ·have:=h.2.1 e (Y4 he)
   exact⟨eJ this.1 ⋯,this.2⟩
  ·rw[Qu.mp he]
   refine⟨hd,fun c hx=>?_⟩
   rw[hc] at hx;obtain⟨k,hk,hx⟩:=Ur.mp hx;exact(h.2.1 k (Us hk)).2 c hx
 ·have e:=h.2.2
  rw[<-Xz m L,Vx,Qi] at e;rw[Vx,Qi,show [d].flatMap (clm 8)=clm 8 d by simp[List.flatMap],hc];exact e
def zJv{n:Nat}(h:0<n):(0:Int)<min 4 (n:Int):=⋯
def zMF{n:Nat}{x:Int}(mp:(0:Int)<min 4 (n:Int)):∃ m:Nat,1+x % min 4 (n:Int)=(m:Int)/\0<m/\m<=n:=by
 have a:=Qx x (Wx mp);have b:=Va x mp;exact⟨(1+x % min 4 (n:Int)).toNat,⋯,⋯,⋯⟩
def zBb(ns:List Int):∃ d:D,gE [.lst (ns.map D.int)]=.ok (.v d)/\IsC 8 d/\Clm (clm 8 d)/\(clm 8 d).length<=12/\kn 8 d<=6:=by
 have h0:0<=ns.getD 0 0 % 10^30:=Qx _ ∅
 have turn:∀(head boats:Int)(L:List D)(q i:Nat)(a6 a7 a8:Sl),0<=head->i<12->zEJ L q i->∃(L':List D)(q':Nat)(b6 b7 b8:Sl),zEJ L' q' (i+1)/\
   jB [.val (.lst (ns.map D.int)),.val (.int head),.own L,.val (.int (q:Int)),.val (.int boats),.val (.int (i:Int)),a6,a7,a8]=.ok (.nx [.val (.lst (ns.map D.int)),.val (.int head),.own L',.val (.int (q':Int)),.val (.int boats),.val (.int (i:Int)),b6,b7,b8]):=by
  intro head boats L q i a6 a7 a8 hh hi pl;have c0:0<=ns.getD (1+(i:Int)).toNat 0 % 10^30:=Qx _ ∅
  have t0:0<=ns.getD (7+(i:Int)).toNat 0 % 10^30:=Qx _ ∅
  obtain⟨c,ec,c1⟩:=zDa (cell:=ns.getD (1+(i:Int)).toNat 0 % 10^30) (kind:=head / 6 % 3) c0 (Qx _ ∅)
  have pb:=pl.boat c1;have ll:=pl.len;have lb:=pb.len;have ln:(L++[D.tup [.str "boat", .int c]]).length=L.length+1:=by rw[Qi];rfl
  erw[jY ns (1+(i:Int)) (Int.add_nonneg ∅ (Vg _)),ec,zOr c1.1 c1.2,Jj (Xe ll (Nat.lt_trans hi ∅)),jY ns (7+(i:Int)) (Int.add_nonneg ∅ (Vg _))];symm;generalize ns.getD (7+(i:Int)).toNat 0 % 10^30=tn at t0;generalize hL:L++[D.tup [.str "boat", .int c]]=L1 at pb lb ln;by_cases z1:tn % 3=1
  ·rw[J5 z1]
   symm;by_cases z2:(q:Int)<5
   ·rw[J5 z2]
    symm;have mp:=zJv (n:=L1.length) (by rw[ln];exact Yp _)
    rw[oMod_i (Wx mp),fmod_pos _ mp];symm;obtain⟨m,em,k0,k1⟩:=zMF (x:=tn / 3) mp;rw[em];have q4:q<5:=Int.ofNat_lt.mp z2
    obtain⟨d,ed,icd,ecd,kcd⟩:=wX (cell:=tn / 12) (ks:=L1.drop (L1.length-m)) (n:=q+1) (Uu t0 ∅) (by rw[Vo,Nat.sub_sub_self k1];exact k0) (Qn (Nat.succ_le_of_lt q4) (show 5<=7 by decide)) (fun k hk=>(pb.2.1 k (Us hk)).1) (by
     have e:=pb.2.2;rw[<-Xz (L1.length-m) L1,Vx,Qi] at e
     exact Qn (Nat.le_add_left _ _) (Qn (Yc e) hi))
    have pk:=pb.knot q4 icd ecd kcd;have nl:noLs (L1.take (L1.length-m)++[d])=true:=zIc pk.noL;rw[zFf k0 k1,zEL k0 k1,ed];erw[Jj (Qn (by rw[Xb];exact Nat.min_le_right _ _) (Qn lb (Qn hi (show 12<=16777215 by decide)))),nl];symm;exact⟨_,q+1,_,_,_,pk,rfl⟩
   ·rw[Ji z2]
    symm;exact⟨L1,q,_,_,_,pb,rfl⟩
  ·rw[Ji z1]
   symm;exact⟨L1,q,_,_,_,pb,rfl⟩
 have rest:∀(head:Int)(b:Nat),0<=head->0<b->b<=12->∃ d:D,(fX [.val (.lst (ns.map D.int)),.val (.int head),.own [],.val (.int 0),.val (.int (b:Int)),.un,.un,.un,.un]).bind fin=.ok (.v d)/\IsC 8 d/\Clm (clm 8 d)/\(clm 8 d).length<=12/\kn 8 d<=6:=by
  intro head b hh b0 b1;unfold fX;generalize hK:(jB:Sv)=K at turn;erw[zCq (Xv ∅ (Vg b)) (Wz (Int.ofNat_le.mpr b1) ∅)];symm
  refine jZ (Q:=fun r=>∃ d:D,r.bind fin=.ok (.v d)/\IsC 8 d/\Clm (clm 8 d)/\(clm 8 d).length<=12/\kn 8 d<=6) (k:=zDb mG)
   (fun i ρ=>∃(L:List D)(q:Nat)(a5 a6 a7 a8:Sl),ρ=[.val (.lst (ns.map D.int)),.val (.int head),.own L,.val (.int (q:Int)),.val (.int (b:Int)),a5,a6,a7,a8]/\zEJ L q i) ⟨[],0,_,_,_,_,rfl,⟨Vl _,Qd _⟩,(fun d hd=>by cases hd),rfl⟩ ?_ ?_
  ·rintro i d ρ hd ⟨L,q,a5,a6,a7,a8,rfl,pl⟩
   obtain⟨hi,rfl⟩:=zIl hd;rw[show(0+(i:Int)*1)=(i:Int) by rw[Uq,V0]];obtain⟨L',q',b6,b7,b8,pl',e⟩:=turn head b L q i a6 a7 a8 hh (by rw[Vp] at hi;exact Qo hi b1) pl
   exact⟨_,e,L',q',_,_,_,_,rfl,pl'⟩
  ·rintro ρ ⟨L,q,a5,a6,a7,a8,rfl,pl⟩
   rw[zNM,Vp] at pl;have q5:=pl.1.1;have q6:=pl.1.2;have lf:=pl.2.2
   have cs:Clm (L.flatMap (clm 8)):=fun c hc=>by
    obtain⟨k,hk,hx⟩:=Ur.mp hc;exact(pl.2.1 k hk).2 c hx
   have L0:0<L.length:=by
    cases L with
    | nil=>simp at lf;omega
    | cons a r=>exact Yp _
   obtain⟨d,ed,icd,ecd,kcd⟩:=wX (cell:=head / 72) (ks:=L) (n:=q+1) (Uu hh ∅) L0 (Qn (Xi q5) ∅) (fun k hk=>(pl.2.1 k hk).1) (Qn (Yc lf) b1)
   have isk:∃ d:D,((fU [.int (head / 72),.lst L]).bind rtF).bind retF=.ok (.ret (.v d))/\IsC 8 d/\Clm (clm 8 d)/\(clm 8 d).length<=12/\kn 8 d<=6:=⟨d,by rw[ed];rfl,eJ icd (Qn (Xi (Xi q5)) ∅),by rw[ecd];exact cs,by rw[ecd];exact Qn (Yc lf) b1,⋯⟩
   obtain⟨d',ed',r'⟩:=isk;symm;by_cases z1:(1:Int)<(L.length:Int)
   ·rw[J5 z1]
    erw[ed'];symm;exact⟨d',rfl,r'⟩
   ·rw[Ji z1]
    symm;by_cases z2:(0:Int)<head / 18 % 4
    ·rw[J5 z2]
     erw[ed'];symm;exact⟨d',rfl,r'⟩
    ·rw[Ji z2]
     symm
     match L,L0,z1,pl,lf with
     | [p],_,_,pl,lf=>
      rw[show oIx (.lst [p]) (.int 0)=.ok p from rfl];symm;have h:=pl.2.1 p Qb;refine⟨p,rfl,eJ h.1 (Qn (Xi q5) ∅),h.2,?_,?_⟩
      ·simp[List.flatMap] at lf
       omega
      ·have e:([p].map (kn 8)).sum=kn 8 p:=by simp
       have:=pl.1.2
       omega
     | p::p'::r,_,z1,_,_=>exact absurd (by simp only[Qm];omega) z1
 unfold gE nR nS nV nO;generalize hK:(fX:Sv)=K at rest;erw[jY ns 0 ∅];symm;generalize ns.getD 0 0 % 10^30=head at h0;have e0:0<=head % 6:=Qx _ ∅
 have e1:head % 6<6:=Va _ ∅
 obtain⟨b,eb⟩:∃ b:Nat,1+head % 6=(b:Int):=⟨(1+head % 6).toNat,⋯⟩
 rw[eb];by_cases z:head / 90 % 8=1
 ·rw[J5 z]
  symm;have:=rest head (b+6) h0 ⋯ ⋯
  rw[Xw] at this;exact this
 ·rw[Ji z]
  symm;exact rest head b h0 ⋯ ⋯
def zAX{t b:Int}(ht:0<=t)(hb:0<b):gA [.int t,.int b]=.ok (.v (.int (Int.gcd t b:Int))):=by
 unfold gA;symm
 refine zKO (fun ρ=>∃(x y:Int)(r:Sl),ρ=[.val (.int x),.val (.int y),r]/\0<=x/\0<=y/\Int.gcd x y=Int.gcd t b) (fun ρ=>(slI 1 ρ).toNat)
  (fun r=>(r.bind (zDb nQ)).bind fin=.ok (.v (.int (Int.gcd t b:Int)))) ⟨_,_,_,rfl,ht,⋯,rfl⟩ ?_
 rintro ρ ⟨x,y,r,rfl,hx,hy,hg⟩
 by_cases c:y=0
 ·subst c
  refine .inl ⟨rfl,?_⟩
  have e2:x=(Int.gcd t b:Int):=by
   rw[Int.gcd_zero_right] at hg;omega
  erw[<-e2]
 ·have hp:0<y:=⋯
  refine .inr ⟨?_,[.val (.int y),.val (.int (x % y)),.val (.int (x % y))],?_,⟨y,x % y,_,rfl,hy,Qx _ c,(zDo hx hp).trans hg⟩,?_⟩
  ·symm
   rw[J5 hp]
  ·symm
   rw[oMod_i c,fmod_pos _ hp];symm
  ·have:=Va x hp
   show(x % y).toNat<y.toNat
   omega
def qI{t b:Int}{n:Nat}(hb:0<b)(hn:b.natAbs<2^n)(h:n<=8999):dX [.int t,.int b]=.ok (.v (dq (Rat.divInt t b))):=by
 have hb0:b≠0:=⋯
 have hd:lL (dv t b)=true:=sO (zND hb0) (Xe (zOp hb0) hn) h;have e:(Int.gcd t b:Int)=dv t b:=by unfold dv;rw[Jk ⋯]
 have e2:Int.gcd (t.natAbs:Int) b=Int.gcd t b:=by simp[Int.gcd]
 unfold dX;symm;rw[zAX ⋯ hb,e2,e];erw[oDiv_i hd,oDiv_i hd];symm;rw[zBK hb0,zBP hb0];rfl
def jQ{p q:Rat}{m n:Nat}(hp:Sz m p)(hq:Sz n q)(h:m+n<=8999):bE [dq p,dq q]=.ok (.v (dq (p+q))):=by
 have pp:=dZ p;have pq:=dZ q;unfold bE;erw[oMul_i (cB hp.1 hq.d ⋯),oMul_i (cB hq.1 hp.d ⋯),oMul_i (cB hp.d hq.d ⋯)];symm;rw[qI (n:=m+n) (Xg pp pq) (by rw[Int.natAbs_mul,Nat.pow_add];exact Nat.mul_lt_mul'' hp.d hq.d) h,zFx];symm
def zKq(f:Nat->Rat):∀ n:Nat,∃ N,∀ i,i<n->Sz N (f i)
 | 0=>⟨0,fun i h=>absurd h (X1 _)⟩
 | n+1=>by
  obtain⟨N,h⟩:=zKq f n;refine⟨N+((f n).num.natAbs+(f n).den),fun i hi=>?_⟩
  rcases Xn (show i<=n by omega) with z | z
  ·exact(h i z).mono ⋯
  ·subst z;exact(zMh (f i)).mono ⋯
def zGU{P:D->Rat->List Rat->Prop}{m:D->Nat}{f:Nat->Rat}:∀ {ks:List D} {i:Nat} {xs:List Rat} {l:Nat} {k:D},(∀ k∈ks,∀ q xs,P k q xs->xs.length=m k)->ShL P ks f i xs->ks[l]?=some k->P k (f (i+l)) ((pK m ks xs).getD l [])
 | c::r,i,xs,l,k,hp,h,hl=>by
  obtain⟨a,b,rfl,ha,hb⟩:=h;have la:=hp c Qb _ _ ha;rw[pK]
  cases l with
  | zero=>
   cases hl;show P c (f (i+0)) ((a++b).take (m c))
   rw[<-la,List.take_left,Uk];exact ha
  | succ l=>
   show P k (f (i+(l+1))) ((pK m r ((a++b).drop (m c))).getD l [])
   rw[<-la,List.drop_left,show i+(l+1)=i+1+l by omega];exact zGU (fun x hx=>hp x (Qc _ hx)) hb (by simpa using hl)
def zF{b:Nat}(hb:b<=1200):∀ {n:Nat} {d:D} {q:Rat} {xs:List Rat},n<=9->Gc n d->Sh n d q xs->0<=q->q<=((clm n d).sum:Rat)->Am b xs->AR n d xs
 | 0,_,_,_,_,g,_,_,_,_=>g.1.elim
 | n+1,d,q,xs,h9,g,h,q0,q1,am=>by
  rcases h with⟨c,rfl,rfl⟩ | ⟨v,ws,ks,f,rfl,hd,al,hs⟩
  ·intro v ws ks e;simp at e
  ·rcases g.1 with⟨c,e⟩ | ⟨w,ws',ks',e,hw,k0,k1,w1,hy,hk⟩
   ·simp at e
   simp only[D.tup.injEq,X0,and_true] at e;obtain⟨e1,e2,rfl⟩:=e;have cl:=g.cl hk k0;have es:(kcl n ks).sum=(clm (n+1) (.tup [.str v.s,.tup (ws.map D.int),.tup ks])).sum:=mE ks;obtain⟨bd,sm⟩:=zIn hd cl q0 (by rw[es];exact q1) al
   have kl:(kcl n ks).length=ks.length:=cI n ks
   have cut:∀ l k,ks[l]?=some k->Sh n k (f l) ((pcs n ks xs).getD l []):=fun l k hl=>by
    have:=zGU (P:=Sh n) (m:=fun k=>(clm n k).length) (fun k _ q xs h=>zAL h) hs hl
    rw[Q2] at this;exact this
   have fb:∀ l k,ks[l]?=some k->0<=f l/\f l<=((clm n k).sum:Rat):=fun l k hl=>by
    obtain⟨j1,j2⟩:=tP (n:=n) hl;rw[<-j2];exact bd l j1
   have sk:∀ l k,ks[l]?=some k->sK n ks xs l=f l:=fun l k hl=>(zJf (g.kid hk (Qg hl)) (cut l k hl) (fb l k hl).1 (fb l k hl).2).2
   obtain⟨N,hN⟩:=zKq f (kcl n ks).length;have dl:Dl N (kcl n ks) q f:=⟨fun i hi=>⟨(bd i hi).1,(bd i hi).2,hN i hi⟩,sm⟩
   rw[uZ];refine⟨fun i j hij hj=>?_,fun l k hl=>zF hb ⋯ (g.kid hk (Qg hl)) (cut l k hl) (fb l k hl).1 (fb l k hl).2 (am.pc l)⟩
   have hi:i<ks.length:=⋯
   obtain⟨r,_,hr,h2⟩:=zGC (kd:=true) (i:=i) (j:=j) g ⋯ hk k0 hd am hb hi hj
   have si:=sk i _ (Qj hi);have sj:=sk j _ (Qj hj);have bi:=bd i ⋯
   have bj:=bd j ⋯
   refine hr.mp (h2 ?_ ?_ ?_)
   ·show 0<=sK n ks xs i+sK n ks xs j
    rw[si,sj];grind
   ·show sK n ks xs i+sK n ks xs j<=_
    rw[si,sj];grind
   ·intro M g' al'
    have al'':Al M (w2 ws i j) [(kcl n ks).getD i 0,(kcl n ks).getD j 0] (sK n ks xs i+sK n ks xs j) g' v:=al';rw[si,sj] at al'';have:=zKU hd cl al dl hij ⋯ al''
    show g' 0=sK n ks xs i/\g' 1=sK n ks xs j
    rw[si,sj];exact this
def zJS{d:D}{q:Rat}{xs:List Rat}(g:Gc 8 d)(hkn:kn 8 d<=6)(h:Sh 8 d q xs)(q0:0<=q)(q1:q<=((clm 8 d).sum:Rat))(qd:(q.den:Int)<=2^20):Am 225 xs:=by
 obtain⟨bd,sm⟩:=zJf g h q0 q1;obtain⟨E,e0,e1,e2⟩:=zPk g h q0 q1 (Dn.den q);have l12:=g.2.1;refine⟨by rw[zAL h];exact l12,⟨(q.den:Int)*E,Xg (dZ q) e0,?_,e2⟩,fun x hx=>?_⟩
 ·have a:E<=2^204:=Xv e1 (by
   rw[show(2:Int)^204=2^(34*kn 8 d)*2^(204-34*kn 8 d) by rw[<-Wu];congr 1;omega];have u:(0:Int)<2^(34*kn 8 d):=Yu ∅
   have v:(0:Int)<2^(204-34*kn 8 d):=Yu ∅
   have w:=Qal (show(1:Int)<=2^(204-34*kn 8 d) by omega) (Xs u)
   rw[V0] at w
   exact w)
  exact Wz (rD (dZ q) e0 qd a) ∅
 ·obtain⟨y,hy,w⟩:=bd.mem hx
  have:=g.2.2 y hy
  have u:(y:Rat)<=((2^36:Int):Rat):=Q5.mpr ⋯
  have z:((0:Int):Rat)<=((2^36:Int):Rat):=Q5.mpr ∅
  have z0:((0:Int):Rat)=0:=rfl;exact⟨by have:=w.1;grind,by have:=w.2;grind⟩
def dvm(t:Int){b:Int}(hb:0<b):Rat.divInt t b*(b:Rat)=(t:Rat):=by
 have bp:(0:Rat)<(b:Rat):=by exact_mod_cast hb
 rw[Yh,Vr (Rat.ne_of_gt bp)]
def tE{S c:Int}(h0:0<=S)(h1:S<=12*10^9):∃ q:Rat,cW [.int S,.int c]=.ok (.v (dq q))/\0<=q/\q<=(S:Rat)/\∃ b:Int,1<=b/\b<=97/\Dn b q:=by
 unfold cW;symm;have c0:=Qx c (show(10:Int)^40≠0 by decide)
 generalize c % 10^40=cell at c0;have k0:=Qx cell (show(5:Int)≠0 by decide)
 have k1:=Va cell (show(0:Int)<5 by decide)
 have e0:=Qx (cell / 5) (show(97:Int)≠0 by decide)
 have e1:=Va (cell / 5) (show(0:Int)<97 by decide)
 obtain⟨b,eb,b1,b2⟩:∃ b:Int,oIx (.lst [.int 1,.int 1,.int 2,.int 12,.int (1+cell / 5 % 97)]) (.int (cell % 5))=.ok (.int b)/\1<=b/\b<=97:=by
  generalize cell % 5=k at k0 k1;rcases (show k=0∨k=1∨k=2∨k=3∨k=4 by omega) with rfl | rfl | rfl | rfl | rfl
  ·exact⟨_,rfl,⋯,⋯⟩
  ·exact⟨_,rfl,⋯,⋯⟩
  ·exact⟨_,rfl,⋯,⋯⟩
  ·exact⟨_,rfl,⋯,⋯⟩
  ·exact⟨_,rfl,⋯,⋯⟩
 rw[eb];symm;have sb:0<=S*b:=Ul h0 ⋯
 have om:iJ S b=true:=cB (m:=40) (n:=10) ⋯ ⋯ ∅
 rw[oMul_i om];symm;rw[oMod_i (show S*b+1≠0 by omega),fmod_pos _ (show 0<S*b+1 by omega)];symm;have t0:=Qx (cell / 485) (show S*b+1≠0 by omega)
 have t1:=Va (cell / 485) (show 0<S*b+1 by omega)
 generalize cell / 485 % (S*b+1)=t at t0 t1;rw[qI (n:=10) ⋯ ⋯ ∅];symm;have bp:(0:Rat)<(b:Rat):=by exact_mod_cast (show 0<b by omega)
 have e:Rat.divInt t b*(b:Rat)=(t:Rat):=by
  rw[Yh,Vr (Rat.ne_of_gt bp)]
 refine⟨_,rfl,?_,?_,b,b1,b2,t,e⟩
 ·refine Vb.mp fun z=>?_
  have:=Uv bp |>.mpr z
  rw[e,Rat.zero_mul] at this;have t0':(0:Rat)<=(t:Rat):=by exact_mod_cast t0
  grind
 ·refine Vb.mp fun z=>?_
  have:=Uv bp |>.mpr z
  rw[e,<-Vm] at this;have:=Rat.intCast_lt_intCast.mp this
  omega
structure Aw (B K:Int) (n:Nat) (xs:List Rat):Prop where
 len:xs.length=n
 all:∀ x∈xs,Dn B x/\-(K:Rat)<=x/\x<=(K:Rat)
def Aw.set{B K:Int}{n i:Nat}{xs:List Rat}{y:Rat}(h:Aw B K n xs)(d:Dn B y)(l:-(K:Rat)<=y)(u:y<=(K:Rat)):Aw B K n (xs.set i y):=
 ⟨by rw[Vf];exact h.len,fun x hx=>by
  rcases List.mem_or_eq_of_mem_set hx with hx | rfl
  ·exact h.all x hx
  ·exact⟨d,l,u⟩⟩
def Aw.up{B K K':Int}{n:Nat}{xs:List Rat}(h:Aw B K n xs)(hk:K<=K'):Aw B K' n xs:=
 ⟨h.len,fun x hx=>by
  have a:=h.all x hx;have:(K:Rat)<=(K':Rat):=Q5.mpr hk
  exact⟨a.1,by have:=a.2.1;grind,by have:=a.2.2;grind⟩⟩
def Aw.at{B K:Int}{n i:Nat}{xs:List Rat}(h:Aw B K n xs)(hi:i<n):Dn B (xs.getD i 0)/\-(K:Rat)<=xs.getD i 0/\xs.getD i 0<=(K:Rat):=by
 have l:i<xs.length:=by rw[h.len];exact hi
 exact h.all _ (by rw[Qq,Qj l];exact Xh l)
def zJg{i j:Nat}{k e:Ev}{ρ:Rho}{xs:List Rat}{y:Rat}(h1:e ρ=.ok (dq y))(h2:ρ[i]?=some (.own (xs.map dq)))(h3:k ρ=.ok (.int (j:Int)))(h4:j<xs.length):zEM i k e ρ=.ok (.nx (ρ.set i (.own ((xs.set j y).map dq)))):=by
 rw[zNL h1 h2 h3 (by rw[Qf];exact h4),List.map_set]
def zGD(q:Rat):D.tup [.int (0-q.num),.int (q.den:Int)]=dq (-q):=by
 rw[Int.zero_sub];rfl
abbrev RA(d:D)(cell:Int)(cs:List Int)(xs:List Rat)(way:Int)(i j:Nat)(s:Rat):Rho:=[.val d,.val (.int cell),.val (.lst (cs.map D.int)),.own (xs.map dq),.val (.int way),.val (.int (i:Int)),.val (.int (j:Int)),.val (dq s)]
def zDm{xs:List Rat}{i:Nat}(h:i<xs.length):oIx (.lst (xs.map dq)) (.int (i:Int))=.ok (dq (xs.getD i 0)):=zBk (kd:=true) h
def zOq{d:D}{cell way:Int}{cs:List Int}{xs:List Rat}{i j:Nat}{s:Rat}{B:Int}(hB:0<B)(hb:B<2^260)(h:Aw B (10^9+6) cs.length xs)(hi:i<cs.length)(hc:∀ c∈cs,0<=c/\c<=10^9):
  ∃ ys,(dH (RA d cell cs xs way i j s)).bind fin=.ok (.f (ys.map dq))/\Aw B (2^35) cs.length ys:=by
 by_cases w:way=7
 ·have a:=h.at hi
  have c:=hc _ (Qg (aO hi));have ix:oIx (.lst (xs.map dq)) (.int (i:Int))=.ok (dq (xs.getD i 0)):=zDm (by rw[h.len];exact hi)
  have ic:oIx (.lst (cs.map D.int)) (.int (i:Int))=.ok (.int (cs.getD i 0)):=nM (Vg i) (aO hi);have m0:=Qx (cell / 19) (show(2:Int)≠0 by decide)
  have m1:=Va (cell / 19) (show(0:Int)<2 by decide)
  obtain⟨t,et,ht⟩:∃ t:Int,oIx (.lst [.int 1,.int (0-1)]) (.int (cell / 19 % 2))=.ok (.int t)/\(t=1∨t=-1):=by
   rcases (show cell / 19 % 2=0∨cell / 19 % 2=1 by omega) with z | z
   ·rw[z];exact⟨1,rfl,.inl rfl⟩
   ·rw[z];exact⟨-1,rfl,.inr rfl⟩
  obtain⟨u,hu⟩:∃ u,u=cs.getD i 0*t:=⟨_,rfl⟩;have tb:-(10^9)<=u/\u<=10^9:=by rw[hu];rcases ht with rfl | rfl<;>omega
  have zx:=(a.1).szA hB hb (c:=10^9+6) a.2.1 a.2.2 (a:=34) ∅
  have zt:Sz 40 (u:Rat):=⟨by show u.natAbs<2^40;omega,by show 1<2^40;decide⟩
  have pp:=jQ zx zt ∅
  have e:(zEk (aL bE (aB (eOp oIx (aE 3) (aE 5)) (aB (qR (aB (eOp qX (eOp oIx (aE 2) (aE 5)) (eOp oIx (eF (pL (aB (eC (.int 1)) (aB (eOp yM (eC (.int 0)) (eC (.int 1))) aNil)))) (eOp kL (eOp lJ (aE 1) (eC (.int 19))) (eC (.int 2))))) (aB (eC (.int 1)) aNil))) aNil)))) (RA d cell cs xs way i j s)=.ok (dq (xs.getD i 0+(u:Rat))):=by
   erw[ix,ic,show oIx (.lst [.int 1,.int (-1)]) (.int (cell / 19 % 2))=.ok (.int t) from et];symm;rw[oMul_i (cB (m:=40) (n:=2) ⋯ ⋯ ∅),<-hu];erw[show bE [dq (xs.getD i 0),.tup [.int u,.int 1]]=.ok (.v (dq (xs.getD i 0+(u:Rat)))) from pp];symm
  have p:=zJg (i:=3) (j:=i) (k:=aE 5) (xs:=xs) e rfl rfl (by rw[h.len];exact hi)
  have r1:-(((10^9:Int)):Rat)<=(u:Rat):=by rw[<-Rat.intCast_neg];exact Q5.mpr tb.1
  have r2:(u:Rat)<=((10^9:Int):Rat):=Q5.mpr tb.2;have k1:(((10^9+6:Int)):Rat)+((10^9:Int):Rat)<=((2^35:Int):Rat):=by rw[<-Qv];exact Q5.mpr ∅
  refine⟨xs.set i (xs.getD i 0+(u:Rat)),?_,(h.up ∅).set (a.1.add (Dn.int B _)) (by have:=a.2.1;grind) (by have:=a.2.2;grind)⟩
  unfold dH;generalize hK:zEM 3 (aE 5) (zEk (aL bE (aB (eOp oIx (aE 3) (aE 5)) (aB (qR (aB (eOp qX (eOp oIx (aE 2) (aE 5)) (eOp oIx (eF (pL (aB (eC (.int 1)) (aB (eOp yM (eC (.int 0)) (eC (.int 1))) aNil)))) (eOp kL (eOp lJ (aE 1) (eC (.int 19))) (eC (.int 2))))) (aB (eC (.int 1)) aNil))) aNil))))=F at p;erw[J5 w,p];symm
 ·refine⟨xs,?_,h.up ∅⟩
  erw[Ji w];symm
def zNH{d:D}{cell way:Int}{cs:List Int}{xs:List Rat}{i j:Nat}{s:Rat}{B:Int}(hB:0<B)(hb:B<2^260)(h:Aw B (10^9+6) cs.length xs)(hi:i<cs.length)(hc:∀ c∈cs,0<=c/\c<=10^9)(q:Rat)(eq:cW [.int (cs.getD i 0),.int (cell / 17)]=.ok (.v (dq q)))(q0:0<=q)(q1:q<=(cs.getD i 0:Rat))(dq':Dn B q):
  ∃ ys,(cP (RA d cell cs xs way i j s)).bind fin=.ok (.f (ys.map dq))/\Aw B (2^35) cs.length ys:=by
 have c:=hc _ (Qg (aO hi));have ic:oIx (.lst (cs.map D.int)) (.int (i:Int))=.ok (.int (cs.getD i 0)):=nM (Vg i) (aO hi);by_cases w:way=6
 ·have e:(aL cW (aB (eOp oIx (aE 2) (aE 5)) (aB (eOp lJ (aE 1) (eC (.int 17))) aNil))) (RA d cell cs xs way i j s)=.ok (dq q):=by
   erw[ic,eq];symm
  have p:=zJg (i:=3) (j:=i) (k:=aE 5) (xs:=xs) e rfl rfl (by rw[h.len];exact hi)
  have k1:((cs.getD i 0:Int):Rat)<=((10^9+6:Int):Rat):=Q5.mpr ⋯
  have h':=h.set (i:=i) dq' (by have:((0:Int):Rat)<=((10^9+6:Int):Rat):=Q5.mpr ∅;have z0:((0:Int):Rat)=0:=rfl;grind) (by grind)
  obtain⟨ys,ey,hy⟩:=zOq (d:=d) (cell:=cell) (way:=way) (j:=j) (s:=s) hB hb h' hi hc;refine⟨ys,?_,hy⟩
  rw[<-ey];unfold cP;generalize hK:zEM 3 (aE 5) (aL cW (aB (eOp oIx (aE 2) (aE 5)) (aB (eOp lJ (aE 1) (eC (.int 17))) aNil)))=F at p;generalize hL:(dH:Sv)=L;erw[J5 w,p];symm
 ·obtain⟨ys,ey,hy⟩:=zOq (d:=d) (cell:=cell) (way:=way) (j:=j) (s:=s) hB hb h hi hc
  refine⟨ys,?_,hy⟩
  rw[<-ey];unfold cP;generalize hL:(dH:Sv)=L;erw[Ji w];symm
def zSg{d:D}{cell way:Int}{cs:List Int}{xs:List Rat}{i j:Nat}{s:Rat}{B:Int}(hB:0<B)(hb:B<2^260)(h:Aw B (10^9) cs.length xs)(hi:i<cs.length)(hj:j<cs.length)(hc:∀ c∈cs,0<=c/\c<=10^9)(s0:0<=s)(s1:s<=3)(zs:Sz 5 s)(ds:Dn B s)(q:Rat)(eq:cW [.int (cs.getD i 0),.int (cell / 17)]=.ok (.v (dq q)))(q0:0<=q)(q1:q<=(cs.getD i 0:Rat))(dq':Dn B q):
  ∃ ys,(dU (RA d cell cs xs way i j s)).bind fin=.ok (.f (ys.map dq))/\Aw B (2^35) cs.length ys:=by
 have e3:((3:Int):Rat)=3:=rfl;have ka:((10^9:Int):Rat)+3=((10^9+3:Int):Rat):=by rw[Qv,e3]
 have kb:((10^9+3:Int):Rat)+3=((10^9+6:Int):Rat):=by rw[<-e3,<-Qv];rfl
 by_cases w:3<way
 ·have li:i<xs.length:=by rw[h.len];exact hi
  have a:=h.at hi;have zx:=(a.1).szA hB hb (c:=10^9) a.2.1 a.2.2 (a:=34) ∅
  have pp:=jQ zx zs ∅
  have ix:=zDm li
  have e:(zEk (aL bE (aB (eOp oIx (aE 3) (aE 5)) (aB (aE 7) aNil)))) (RA d cell cs xs way i j s)=.ok (dq (xs.getD i 0+s)):=by
   erw[ix,pp];symm
  have p:=zJg (i:=3) (j:=i) (k:=aE 5) (xs:=xs) e rfl rfl li;have h1:Aw B (10^9+3) cs.length (xs.set i (xs.getD i 0+s)):=(h.up ∅).set (a.1.add ds) (by have:=a.2.1;grind) (by have:=a.2.2;grind)
  generalize xs.set i (xs.getD i 0+s)=ys at p h1;have lj:j<ys.length:=by rw[h1.len];exact hj
  have b:=h1.at hj;have zy:=(b.1).szA hB hb (c:=10^9+3) b.2.1 b.2.2 (a:=34) ∅
  have zn:Sz 5 (-s):=⟨by show(-s.num).natAbs<2^5;rw[Ut];exact zs.1,zs.2⟩
  have pq:=jQ zy zn ∅
  have iy:=zDm lj
  have e2:(zEk (aL bE (aB (eOp oIx (aE 3) (aE 6)) (aB (qR (aB (eOp yM (eC (.int 0)) (eOp oIx (aE 7) (eC (.int 0)))) (aB (eOp oIx (aE 7) (eC (.int 1))) aNil))) aNil)))) (RA d cell cs ys way i j s)=.ok (dq (ys.getD j 0+-s)):=by
   erw[iy];symm;rw[zGD,pq];symm
  have p2:=zJg (i:=3) (j:=j) (k:=aE 6) (xs:=ys) e2 rfl rfl lj
  have dn:Dn B (-s):=by
   have:=(Dn.zero B).sub ds
   rwa [show(0:Rat)-s=-s by grind] at this
  have h2:Aw B (10^9+6) cs.length (ys.set j (ys.getD j 0+-s)):=(h1.up ∅).set (b.1.add dn) (by have:=b.2.1;grind) (by have:=b.2.2;grind)
  obtain⟨zs',ez,hz⟩:=zNH (d:=d) (cell:=cell) (way:=way) (j:=j) (s:=s) hB hb h2 hi hc q eq q0 q1 dq';refine⟨zs',?_,hz⟩
  rw[<-ez];unfold dU lE;generalize hF:zEM 3 (aE 5) (zEk (aL bE (aB (eOp oIx (aE 3) (aE 5)) (aB (aE 7) aNil))))=F at p;generalize hE:zEM 3 (aE 6) (zEk (aL bE (aB (eOp oIx (aE 3) (aE 6)) (aB (qR (aB (eOp yM (eC (.int 0)) (eOp oIx (aE 7) (eC (.int 0)))) (aB (eOp oIx (aE 7) (eC (.int 1))) aNil))) aNil))))=E at p2;generalize hL:(cP:Sv)=L;erw[J5 w,p,show E [.val d,.val (.int cell),.val (.lst (cs.map D.int)),.own (ys.map dq),.val (.int way),.val (.int (i:Int)),.val (.int (j:Int)),.val (dq s)]=_ from p2];symm
 ·obtain⟨zs',ez,hz⟩:=zNH (d:=d) (cell:=cell) (way:=way) (j:=j) (s:=s) hB hb (h.up ∅) hi hc q eq q0 q1 dq'
  refine⟨zs',?_,hz⟩
  rw[<-ez];unfold dU;generalize hL:(cP:Sv)=L;erw[Ji w];symm
def zFQ{d:D}(g:Gc 8 d)(hkn:kn 8 d<=6)(cell:Int):∃ xs:List Rat,fG [d,.int cell]=.ok (.f (xs.map dq))/\Am 260 xs/\xs.length=(clm 8 d).length/\∀ x∈xs,-((2^35:Int):Rat)<=x/\x<=((2^35:Int):Rat):=by
 have gs:=g.sum;have l12:=g.2.1;have one:=zCh g.1;have hc:=g.2.2;have lc:=lU 10 d (eJ g.1 ∅) (by rw[cK g.1 ∅];omega)
 rw[cK g.1 (show 8<=10 by decide)] at lc;unfold fG mK lR mC mM lQ mY;generalize hL:(dU:Sv)=L;erw[oPow_i ∅];symm;generalize cell % 10^45=c;rw[lc];symm;obtain⟨q,eq,q0,q1,b,b1,b2,db⟩:=tE (S:=(clm 8 d).sum) (c:=c / 8) gs.1 gs.2;rw[eq];symm;have qd:(q.den:Int)<=2^20:=Xv (db.le ⋯) ⋯
 obtain⟨xs,ex,sx⟩:=zM (m:=21) g ∅ q0 q1 (Wz qd ∅) ∅
 have am:=zJS g hkn sx q0 q1 qd;obtain⟨bd,_⟩:=zJf g sx q0 q1;have ln:=zAL sx;rw[ex];symm;have L0:((clm 8 d).length:Int)≠0:=⋯
 have Lp:0<((clm 8 d).length:Int):=⋯
 rw[oMod_i L0,fmod_pos _ Lp];symm;rw[oMod_i L0,fmod_pos _ Lp];symm;have i0:=Qx (c / 56) L0;have i1:=Va (c / 56) Lp;have j0:=Qx (c / 336) L0;have j1:=Va (c / 336) Lp;obtain⟨i,ei⟩:=Y9 i0;obtain⟨j,ej⟩:=Y9 j0;rw[ei] at i1 ⊢
 rw[ej] at j1 ⊢
 have t0:=Qx (c / 11) (show(3:Int)≠0 by decide)
 have t1:=Va (c / 11) (show(0:Int)<3 by decide)
 have u0:=Qx (c / 13) (show(5:Int)≠0 by decide)
 have u1:=Va (c / 13) (show(0:Int)<5 by decide)
 generalize ht:1+c / 11 % 3=t;generalize hu:1+c / 13 % 5=u;rw[qI (n:=4) ⋯ ⋯ ∅];symm;have du:Rat.divInt t u*(u:Rat)=(t:Rat):=dvm t ⋯
 have up:(0:Rat)<(u:Rat):=by exact_mod_cast (show 0<u by omega)
 have s0:0<=Rat.divInt t u:=Vb.mp fun z=>by
  have:=Uv up |>.mpr z
  rw[du,Rat.zero_mul] at this;have:(0:Rat)<=(t:Rat):=by exact_mod_cast (show 0<=t by omega)
  grind
 have s1:Rat.divInt t u<=3:=Vb.mp fun z=>by
  have:=Uv up |>.mpr z
  rw[du] at this;have e1:(t:Rat)<=3:=by exact_mod_cast (show t<=3 by omega)
  have e2:(1:Rat)<=(u:Rat):=by exact_mod_cast (show 1<=u by omega)
  grind
 have dsu:Dn u (Rat.divInt t u):=⟨t,du⟩
 have zs:Sz 5 (Rat.divInt t u):=by
  have:=dsu.sz ⋯ (a:=2) (b:=3) ⋯ s0 (c:=3) s1 ∅
  exact this
 obtain⟨q',eq',q0',q1',b',b1',b2',db'⟩:=tE (S:=(clm 8 d).getD i 0) (c:=c / 17) (hc _ (Qg (aO (show i<(clm 8 d).length by omega)))).1 (by have:=(hc _ (Qg (aO (show i<(clm 8 d).length by omega)))).2;omega)
 obtain⟨B,B0,B1,B2⟩:=am.dn
 have aw:Aw (B*(u*b')) (10^9) (clm 8 d).length xs:=⟨ln,fun x hx=>by
  obtain⟨y,hy,w⟩:=bd.mem hx;have:=hc y hy
  have k1:((y:Int):Rat)<=((10^9:Int):Rat):=Q5.mpr this.2;have k2:((0:Int):Rat)<=((10^9:Int):Rat):=Q5.mpr ∅
  have z0:((0:Int):Rat)=0:=rfl
  exact⟨(B2 x hx).mul _,by have:=w.1;grind,by have:=w.2;grind⟩⟩
 have ub:0<u*b':=Xg ⋯ ⋯
 have ub2:u*b' < 2^10:=by
  have:=Int.mul_le_mul (show u<=5 by omega) b2' ⋯ ⋯
  omega
 have BB:B*(u*b')<2^260:=by
  have:=Int.mul_lt_mul B1 (Xs ub2) ub ∅
  exact Int.lt_trans this ∅
 obtain⟨ys,ey,hy⟩:=zSg (d:=d) (cell:=c) (way:=c % 8) (j:=j) (s:=Rat.divInt t u) (Xg B0 ub) BB aw (show i<_ by omega) (show j<_ by omega) hc s0 s1 zs (by rw[Yf u b',<-Xy,Yf];exact dsu.mul _) q' eq' q0' q1' (by rw[<-Xy,Yf];exact db'.mul _)
 rw[hL] at ey;have up35:((2^35:Int):Rat)<=((2^36:Int):Rat):=Q5.mpr ∅
 refine⟨ys,ey,⟨by rw[hy.len];exact l12,⟨_,Xg B0 ub,BB,fun x hx=>(hy.all x hx).1⟩,fun x hx=>by have:=(hy.all x hx).2;constructor<;>grind⟩,hy.len,fun x hx=>(hy.all x hx).2⟩
def zFF(n:Nat)(ks:List D)(xs:List Rat):pcs n ks xs=(List.range ks.length).map fun l=>(pcs n ks xs).getD l []:=by
 have hl:(pcs n ks xs).length=ks.length:=kW ks xs;refine List.ext_getElem (by rw[Qf,Q9,hl]) fun i h1 h2=>?_
 rw[List.getElem_map,List.getElem_range,Qq,Qj h1];rfl
def zHF{x f:Nat->Rat}:∀ {n:Nat},(∀ i,i<n->x i<=f i)->((List.range n).map x).sum=((List.range n).map f).sum->∀ i,i<n->x i=f i
 | 0,_,_,i,h=>absurd h (X1 _)
 | n+1,hl,hs,i,hi=>by
  rw[Yz,Q4,Q4,eP,eP] at hs;simp only[Ql,Vv,Qk,Vs,Yi] at hs
  have le:∀ m,m<=n->((List.range m).map x).sum<=((List.range m).map f).sum:=by
   intro m
   induction m with
   | zero=>intro _;exact Qz
   | succ m ih=>
    intro hm;rw[Yz,Q4,Q4,eP,eP];simp only[Ql,Vv,Qk,Vs,Yi];have:=ih ⋯
    have:=hl m ⋯
    grind
  have a:=le n (Qd _);have b:=hl n (X9 n);have e1:x n=f n:=by grind
  have e2:((List.range n).map x).sum=((List.range n).map f).sum:=by grind
  rcases Xn (show i<=n by omega) with z | z
  ·exact zHF (fun j hj=>hl j ⋯) e2 i z
  ·rw[z];exact e1
def zQB{v:Wy}{ws cs:List Int}(due:v.due ws cs)(hc:Cl cs){x f:Nat->Rat}{q:Rat}{M:Nat}(hx:∀ i,i<cs.length->0<=x i/\x i<=cR cs i)(pr:∀ i j,i<j->j<cs.length->Rt2 v ws cs i j (x i) (x j))(hq:((List.range cs.length).map x).sum=q)(al:Al M ws cs q f v)(dl:Dl 1400 cs q f):∀ i,i<cs.length->x i=f i:=by
 have two':∀ a b,a<b->b<cs.length->¬ (f a<x a/\x b<f b)/\¬ (x a<f a/\f b<x b):=fun a b hab hb=>by
  have ha:a<cs.length:=⋯
  obtain⟨s0,s1,M1,g,al1,g0,g1⟩:=pr a b hab hb;have fa:=dl.bd a ha;have fb:=dl.bd b hb;have d2:=zCf due (i:=a) (j:=b) ha hb;have na:=hc.nn _ (Qg (aO ha));have nb:=hc.nn _ (Qg (aO hb));have ua:=hc.up _ (Qg (aO ha));have ub:=hc.up _ (Qg (aO hb))
  have c2:Cl [cs.getD a 0,cs.getD b 0]:=⟨fun c h=>by
    simp only[Qe,Q7,or_false] at h;rcases h with rfl | rfl<;>assumption,fun c h=>by
    simp only[Qe,Q7,or_false] at h;rcases h with rfl | rfl<;>assumption,by show 1<=2;decide,by show 2<=12;decide⟩
  have sm:=zCK (cs.getD a 0) (cs.getD b 0);have ca:cR cs a=((cs.getD a 0:Int):Rat):=rfl;have cb:cR cs b=((cs.getD b 0:Int):Rat):=rfl;obtain⟨g',_,al2⟩:=pU (w:=v) (ws:=two ws a b) (cs:=[cs.getD a 0,cs.getD b 0]) (wd:=.lst ((two ws a b).map D.int)) (cd:=.lst ([cs.getD a 0,cs.getD b 0].map D.int)) (.inl rfl) (.inl rfl) (q:=f a+f b) (m:=2801) ∅ d2 c2 ⟨by have:=fa.1;have:=fb.1;grind,by rw[sm,<-ca,<-cb];have:=fa.2.1;have:=fb.2.1;grind,fa.2.2.add fb.2.2⟩
  have al2':Al (2801+263) (w2 ws a b) [cs.getD a 0,cs.getD b 0] (f a+f b) g' v:=al2;obtain⟨h0,h1⟩:=zKU due hc al dl hab hb al2';have z0:(0:Nat) < [cs.getD a 0,cs.getD b 0].length:=Nat.zero_lt_succ _;have z1:(1:Nat) < [cs.getD a 0,cs.getD b 0].length:=X9 _;rcases Yg (a:=x a+x b) (b:=f a+f b) with o | o
  ·have m0:=uN d2 c2 al1 al2 o z0
   have m1:=uN d2 c2 al1 al2 o z1;rw[g0,h0] at m0;rw[g1,h1] at m1;exact⟨fun z=>absurd m0 (Vz.mpr z.1),fun z=>absurd m1 (Vz.mpr z.2)⟩
  ·have m0:=uN d2 c2 al2 al1 o z0
   have m1:=uN d2 c2 al2 al1 o z1;rw[g0,h0] at m0;rw[g1,h1] at m1;exact⟨fun z=>absurd m1 (Vz.mpr z.2),fun z=>absurd m0 (Vz.mpr z.1)⟩
 have sf:=dl.sum;by_cases up:∀ i,i<cs.length->x i<=f i
 ·exact zHF up (by rw[hq,sf])
 ·by_cases dn:∀ i,i<cs.length->f i<=x i
  ·intro i hi
   exact(zHF dn (by rw[hq,sf]) i hi).symm
  ·exfalso
   obtain⟨a,ha⟩:=Qam.mp up;obtain⟨ha,na⟩:=Classical.not_imp.mp ha;obtain⟨b,hb⟩:=Qam.mp dn;obtain⟨hb,nb⟩:=Classical.not_imp.mp hb;have pa:=Vz.mp na;have pb:=Vz.mp nb;rcases W3 a b with z | z | z
   ·exact(two' a b z hb).1 ⟨pa,pb⟩
   ·subst z;exact absurd pa (by grind)
   ·exact(two' b a z ha).2 ⟨pb,pa⟩
def zKA{R:Rat->Int->Prop}:∀ {xs:List Rat} {c1 c2:List Int},A2 R xs (c1++c2)->A2 R (xs.take c1.length) c1/\A2 R (xs.drop c1.length) c2
 | xs,[],c2,h=>⟨trivial,h⟩
 | x::xs,c::c1,c2,h=>by
  have:=zKA (xs:=xs) (c1:=c1) (c2:=c2) h.2
  exact⟨⟨h.1,this.1⟩,this.2⟩
def zPs{R:Rat->Int->Prop}:∀ {xs:List Rat} {cs:List Int},xs.length=cs.length->(∀ i,i<cs.length->R (xs.getD i 0) (cs.getD i 0))->A2 R xs cs
 | [],[],_,_=>trivial
 | x::xs,c::cs,hl,h=>⟨h 0 (Yp _),zPs (by simpa using hl) fun i hi=>h (i+1) (by rw[Qm];omega)⟩
def zJC:∀ {xs:List Rat} {cs:List Int},A2 Bc xs cs->0<=xs.sum/\xs.sum<=((cs.sum:Int):Rat)
 | [],[],_=>⟨Qz,Qz⟩
 | x::xs,c::cs,h=>by
  have:=zJC h.2
  have:=h.1
  rw[Qk,Qk,Qv];unfold Bc at this;constructor<;>grind
def zOZ{n:Nat}:∀ {ks:List D} {xs:List Rat},A2 Bc xs (ks.flatMap (clm n))->(∀ l k,ks[l]?=some k->A2 Bc ((pK (fun k=>(clm n k).length) ks xs).getD l []) (clm n k))/\xs.sum=((pK (fun k=>(clm n k).length) ks xs).map List.sum).sum
 | [],xs,h=>by
  have:xs=[]:=by
   cases xs with
   | nil=>rfl
   | cons a r=>exact h.elim
  subst this;exact⟨fun l k hl=>(by cases l<;>cases hl),rfl⟩
 | k::r,xs,h=>by
  rw[Q8] at h;obtain⟨h1,h2⟩:=zKA h;obtain⟨i1,i2⟩:=zOZ h2;refine⟨fun l k' hl=>?_,?_⟩
  ·cases l with
   | zero=>cases hl;exact h1
   | succ l=>exact i1 l k' (by simpa using hl)
  ·rw[pK,Ql,Qk,<-i2,<-eP,Xz]
def zKo{P:D->Rat->List Rat->Prop}{m:D->Nat}{f:Nat->Rat}:∀ {ks:List D} {i:Nat} {xs:List Rat},xs.length=(ks.map m).sum->(∀ l k,ks[l]?=some k->P k (f (i+l)) ((pK m ks xs).getD l []))->ShL P ks f i xs
 | [],i,xs,hl,_=>by
  show xs=[]
  exact List.length_eq_zero_iff.mp hl
 | k::r,i,xs,hl,h=>by
  rw[Ql,Qk] at hl;refine⟨xs.take (m k),xs.drop (m k),(Xz _ _).symm,h 0 k rfl,zKo (m:=m) (by rw[Vo];omega) fun l k' hl'=>?_⟩
  have:=h (l+1) k' (by simpa using hl')
  rw[show i+(l+1)=i+1+l by omega] at this;exact this
def zCF{b:Nat}(hb:b<=300):∀ {n:Nat} {d:D} {xs:List Rat},n<=9->Gc n d->AR n d xs->A2 Bc xs (clm n d)->Am b xs->Sh n d xs.sum xs
 | 0,_,_,_,g,_,_,_=>g.1.elim
 | n+1,d,xs,h9,g,ar,bd,am=>by
  rcases g.1 with⟨c,rfl⟩ | ⟨w,ws,ks,rfl,hw,k0,k1,w1,hy,hk⟩
  ·refine .inl ⟨c,rfl,?_⟩
   have ec:clm (n+1) (.tup [.str "boat", .int c])=[c]:=rfl;rw[ec] at bd
   match xs,bd with
   | [x],_=>rw[Qk,Vs,Yi]
  ·obtain⟨v,rfl⟩:=zCb hy.1
   have due:v.due ws (kcl n ks):=zBt (by rw[cI];exact hy.2)
   have cl:=g.cl hk k0;obtain⟨a1,a2⟩:=uZ.mp ar;have ec:clm (n+1) (.tup [.str v.s,.tup (ws.map D.int),.tup ks])=ks.flatMap (clm n):=rfl;have es:(kcl n ks).sum=(clm (n+1) (.tup [.str v.s,.tup (ws.map D.int),.tup ks])).sum:=mE ks;have bs:=zJC bd;rw[<-es] at bs;rw[ec] at bd;obtain⟨p1,p2⟩:=zOZ bd;have kl:(kcl n ks).length=ks.length:=cI n ks;have pl:(pcs n ks xs).length=ks.length:=kW ks xs
   have sx:xs.sum=((List.range (kcl n ks).length).map (sK n ks xs)).sum:=by
    rw[p2,kl];have:=zFF n ks xs
    show((pcs n ks xs).map List.sum).sum=_
    rw[this,Qw];rfl
   have zq:=am.sum.1;have gs:=g.sum;have hq:Haul (41+b) xs.sum (kcl n ks).sum:=⟨bs.1,bs.2,zq⟩;obtain⟨f,_,al⟩:=pU (w:=v) (ws:=ws) (cs:=kcl n ks) (wd:=.lst (ws.map D.int)) (cd:=.lst ((kcl n ks).map D.int)) (.inl rfl) (.inl rfl) ⋯ due cl hq
   have dl:=(zLP due cl hq al).mono (show 41+b+370<=1400 by omega)
   have kb:∀ l k,ks[l]?=some k->0<=sK n ks xs l/\sK n ks xs l<=((clm n k).sum:Rat):=fun l k hl=>zJC (p1 l k hl)
   have cv:=zQB due cl (x:=sK n ks xs) (f:=f) (q:=xs.sum) (fun i hi=>by
    have hi':i<ks.length:=⋯
    have e:ks[i]?=some ks[i]:=Qj hi';have:=kb i _ e
    rw[(tP (n:=n) e).2]
    exact this) (fun i j hij hj=>a1 i j hij ⋯) sx.symm al dl
   refine .inr ⟨v,ws,ks,f,rfl,due,al.mono ⋯,zKo (m:=fun k=>(clm n k).length) ?_ fun l k hl=>?_⟩
   ·have:=bd.len
    rw[this,List.length_flatMap]
   ·have hl':l<ks.length:=(Ve.mp hl).1
    rw[Q2,<-cv l ⋯];exact zCF hb ⋯ (g.kid hk (Qg hl)) (a2 l k hl) (p1 l k hl) (am.pc l)
def zPT{a0 a1 a2:Sl}{y c:Int}{r:List Int}(hr:r.length<=100):∃ z:Int,zEH 3 (eC (.int 10007)) (aE 4) (eOp zAK (eC (.int 10)) (eC (.int 45))) [a0,a1,a2,.own ((y::r).map D.int),.val (.int c)]=.ok (.nx [a0,a1,a2,.own ((r++[z]).map D.int),.val (.int c)]):=by
 refine⟨(y*10007+c) % 10^45,?_⟩
 unfold zEH;erw[oPow_i ∅];symm;rw[Jj ⋯,Q4];rfl
def zJy{ns:List Int}(hl:ns.length<=63){m:Int}(m1:1<=m)(m2:m<=50):∃ cs:List Int,fY [.lst (ns.map D.int),.int 13,.int m]=.ok (.f (cs.map D.int)):=by
 unfold fY;symm;rw[zFh ∅,<-List.map_drop];erw[Jj (by rw[Vo];omega)];symm;refine jZ (Q:=fun r=>∃ cs:List Int,r.bind fin=.ok (.f (cs.map D.int))) (k:=zDb nT) (fun i ρ=>∃(cs:List Int)(a4:Sl),ρ=[.val (.lst (ns.map D.int)),.val (.int 13),.val (.int m),.own (cs.map D.int),a4]/\cs.length<=50) ⟨[],_,rfl,∅⟩ ?_ ?_
 ·rintro i e ρ he ⟨cs,a4,rfl,hc⟩
  obtain⟨c,rfl⟩:∃ c:Int,e=.int c:=by
   have he':=Qg he;rcases Qe.mp he' with rfl | he'
   ·exact⟨_,rfl⟩
   ·obtain⟨c,_,rfl⟩:=Qt.mp he'
    exact⟨c,rfl⟩
  by_cases z:(cs.length:Int)<m
  ·refine⟨[.val (.lst (ns.map D.int)),.val (.int 13),.val (.int m),.own ((cs++[c]).map D.int),.val (.int c)],?_,_,_,rfl,by rw[Qi,X7];omega⟩
   erw[J5 z];symm;rw[Jj ⋯,Q4];rfl
  ·match cs,hc,z with
   | [],_,z=>exact absurd (show((0:Nat):Int)<m by omega) z
   | y::r,hc,z=>
    rw[Qm] at hc;obtain⟨w,ew⟩:=zPT (a0:=.val (.lst (ns.map D.int))) (a1:=.val (.int 13)) (a2:=.val (.int m)) (y:=y) (c:=c) (r:=r) ⋯
    refine⟨[.val (.lst (ns.map D.int)),.val (.int 13),.val (.int m),.own ((r++[w]).map D.int),.val (.int c)],?_,_,_,rfl,by rw[Qi,X7];omega⟩
    show jE [.val (.lst (ns.map D.int)),.val (.int 13),.val (.int m),.own ((y::r).map D.int),.val (.int c)]=_
    rw[<-ew];unfold jE;generalize hK:zEH 3 (eC (.int 10007)) (aE 4) (eOp zAK (eC (.int 10)) (eC (.int 45)))=K;generalize hL:y::r=l at z;erw[Ji z];symm
 ·rintro ρ ⟨cs,a4,rfl,_⟩
  exact⟨cs,rfl⟩
def Wy.con:Wy->Wy
 | .row=>.back
 | .back=>.row
 | .even=>.lack
 | .lack=>.even
 | .part=>.part
 | .half=>.half
def zDL{M:Nat}{ws cs:List Int}{q t:Rat}(hW:Wt ws cs)(hc:Cl cs)(a:Lvl M ws cs q t)(h:q=(cs.sum:Rat)){i:Nat}(hi:i<cs.length):cN (cR cs) (cR ws) t i=cR cs i:=by
 have s:jS (cN (cR cs) (cR ws) t) (List.range cs.length)=q:=a.sum;exact uW (fun j hj=>(oE hW hc a.nn (Qs.mp hj)).2) (by rw[s,h];exact(zBN cs).symm) i (Qs.mpr hi)
def zKI{M M':Nat}{w:Wy}{ws cs:List Int}{q:Rat}{f g:Nat->Rat}(hw:w.due ws cs)(hc:Cl cs)(hn:0<=q)(hu:q<=(cs.sum:Rat))(a:Al M ws cs q f w)(b:Al M' ws cs ((cs.sum:Rat)-q) g w.con){i:Nat}(hi:i<cs.length):g i=cR cs i-f i:=by
 have sm:=hc.sum;have e0:(cs.sum:Rat)-((cs.sum:Rat)-q)=q:=by grind
 cases w with
 | row=>
  have b':g i=cR cs i-rY cs ((cs.sum:Rat)-((cs.sum:Rat)-q)) i:=b i hi;rw[b',e0,a i hi]
 | back=>
  have b':g i=rY cs ((cs.sum:Rat)-q) i:=b i hi;rw[b',a i hi];grind
 | even=>
  obtain⟨t,tl,e⟩:=a;obtain⟨t',tl',e'⟩:=b;rw[e i hi,e' i hi,mP hw tl' tl e0 hi]
 | lack=>
  obtain⟨t,tl,e⟩:=a;obtain⟨t',tl',e'⟩:=b;rw[e i hi,e' i hi,mP hw tl' tl rfl hi];grind
 | part=>
  have b':g i=jW cs ((cs.sum:Rat)-q) i:=b i hi;have u:=hu;have n:=hn;obtain⟨p1,p2⟩:=fH (q:=q) hc hi;obtain⟨r1,r2⟩:=fH (q:=(cs.sum:Rat)-q) hc hi;rw[b',a i hi];by_cases z:cs.sum=0
  ·have c0:=kP hc.nn z _ (Qg (aO hi))
   rw[p2 z,r2 z];unfold cR;rw[c0,show((0:Int):Rat)=0 from rfl];grind
  ·have W:(0:Rat)<(cs.sum:Rat):=by exact_mod_cast (show 0<cs.sum by omega)
   have e:jW cs ((cs.sum:Rat)-q) i*(cs.sum:Rat)=(cR cs i-jW cs q i)*(cs.sum:Rat):=by rw[r1];grind
   have l1:=pX W (show jW cs ((cs.sum:Rat)-q) i*(cs.sum:Rat)<=(cR cs i-jW cs q i)*(cs.sum:Rat) by rw[e];exact Qz)
   have l2:=pX W (show(cR cs i-jW cs q i)*(cs.sum:Rat)<=jW cs ((cs.sum:Rat)-q) i*(cs.sum:Rat) by rw[e];exact Qz)
   grind
 | half=>
  have ow:=jG cs;obtain⟨t,⟨c,tl,e⟩ | ⟨c,tl,e⟩⟩:=a
  ·obtain⟨t',⟨c',tl',e'⟩ | ⟨c',tl',e'⟩⟩:=b
   ·have f1:=zDL ow hc tl (by grind) hi
    have f2:=zDL ow hc tl' (by grind) hi
    rw[e i hi,e' i hi,f1,f2,zQ];grind
   ·have f1:=mP ow tl' tl (by grind) hi
    rw[e i hi,e' i hi,f1]
  ·obtain⟨t',⟨c',tl',e'⟩ | ⟨c',tl',e'⟩⟩:=b
   ·have f1:=mP ow tl' tl rfl hi
    rw[e i hi,e' i hi,f1];grind
   ·exfalso;grind
def zCV{w:Wy}{ws cs:List Int}(h:w.due ws cs):w.con.due ws cs:=by cases w<;>exact h
def ctr(w:Str):Str:=(aR.lookup w).getD w
def xT{w:Str}(h:w∈wys):ctr w∈wys/\ctr (ctr w)=w/\((ctr w = "even" ∨ ctr w = "lack") ↔ (w = "even" ∨ w = "lack"))/\aR.lookup w=some (ctr w):=by
 simp only[wys,Qe,Q7,or_false] at h;rcases h with rfl | rfl | rfl | rfl | rfl | rfl<;>decide
def zNe{w:Str}{ws:List Int}{m:Nat}(hw:w∈wys)(h:wOK w ws m):wOK (ctr w) ws m:=by
 have e:=(xT hw).2.2.1;rcases h with⟨a,b⟩ | ⟨a,b⟩
 ·exact .inl ⟨e.mpr a,b⟩
 ·exact .inr ⟨fun z=>a (e.mp z),b⟩
def wI{w:Str}(hw:w∈wys):dJ [.str w]=.ok (.v (.str (ctr w))):=by
 unfold dJ;erw[rQ hw];symm;show(((zNs (aR.lookup w)).bind retF).bind fin)=_
 rw[(xT hw).2.2.2];rfl
def con:Nat->D->D
 | 0,d=>d
 | n+1,d=>match d with
  | .tup [.str w,ws,.tup ks]=>.tup [.str (ctr w),ws,.tup (ks.map (con n))]
  | d=>d
def zGr{n:Nat}{ks:List D}(h:∀ k∈ks,clm n (con n k)=clm n k):(ks.map (con n)).flatMap (clm n)=ks.flatMap (clm n):=by
 rw[W4,Vy,Qy h,<-Vy]
def qO:∀(n m:Nat)(d:D),IsC n d->n<=m->n<=8->(clm n d).length<=12->eS m [d]=.ok (.v (con n d))/\IsC n (con n d)/\clm n (con n d)=clm n d
 | 0,_,_,h,_,_,_=>h.elim
 | n+1,0,_,_,l,_,_=>absurd l ⋯
 | n+1,m+1,d,h,l,l8,hl=>by
  show nF (eS m) [d]=_/\_
  unfold nF;symm;rcases h with⟨c,rfl⟩ | ⟨w,ws,ks,rfl,hw,k0,k1,w1,hy,hk⟩
  ·rw[fW]
   symm;exact⟨rfl,.inl ⟨c,rfl⟩,rfl⟩
  ·have hl':(ks.flatMap (clm n)).length<=12:=hl
   have ih:∀ k∈ks,eS m [k]=.ok (.v (con n k))/\IsC n (con n k)/\clm n (con n k)=clm n k:=fun k h=>qO n m k (hk k h) ⋯ ⋯ (Qn (vM h) hl')
   rw[dW hw];erw[cO hw];symm
   have e:=kJ (u:=fun k=>k) (g:=fun k=>con n k) (l:=ks) (f:=aL (eS m) (aB (aE 2) aNil)) (ρ:=[.val (.tup [.str w,.tup (ws.map D.int),.tup ks]),.un]) ⋯ (fun k hm=>by
    erw[(ih k hm).1]
    symm)
   rw[Y5] at e;rw[e];erw[iQ,wI hy.1,iV];symm;obtain⟨q1,q2⟩:=zHR (n:=n) (ks:=ks.map (con n)) (w:=ctr w) (ws:=ws) (.inr rfl) (xT hy.1).1 (by rw[Qf];exact zNe hy.1 hy.2) w1 (by rw[Qf];exact k0) (by rw[Qf];exact k1) ⋯ (fun k hm=>by obtain⟨x,hx,rfl⟩:=Qt.mp hm;exact(ih x hx).2.1) (by rw[zGr fun k h=>(ih k h).2.2];exact hl')
   rw[q1];symm;exact⟨rfl,q2,zGr fun k h=>(ih k h).2.2⟩
def zNf:∀(n:Nat)(d:D),IsC n d->con n (con n d)=d
 | 0,_,h=>h.elim
 | n+1,d,h=>by
  rcases h with⟨c,rfl⟩ | ⟨w,ws,ks,rfl,hw,k0,k1,w1,hy,hk⟩
  ·rfl
  ·show D.tup [.str (ctr (ctr w)),.tup (ws.map D.int),.tup ((ks.map (con n)).map (con n))]=_
   rw[(xT hy.1).2.1,Qw];rw[Qy (f:=con n ∘ con n) (g:=id) fun k h=>zNf n k (hk k h),Y1]
def zRf(v:Wy):ctr v.s=v.con.s:=by
 unfold ctr;cases v
 ·show(aR.lookup (Str.ofString "row")).getD _=_;rw[zHK];rfl
 ·show(aR.lookup (Str.ofString "back")).getD _=_;rw[yV];rfl
 ·show(aR.lookup (Str.ofString "even")).getD _=_;rw[zDP];rfl
 ·show(aR.lookup (Str.ofString "lack")).getD _=_;rw[yI];rfl
 ·show(aR.lookup (Str.ofString "part")).getD _=_;rw[zEh];rfl
 ·show(aR.lookup (Str.ofString "half")).getD _=_;rw[yE];rfl
def lkl(cs:List Int)(xs:List Rat):List Rat:=List.zipWith (fun(c:Int) (x:Rat)=>(c:Rat)-x) cs xs
def Lin(f:Rat->Rat)(a b:Rat):Prop:=∀ x,a<=x->x<=b->(f x-f a)*(b-a)=(x-a)*(f b-f a)
def Cn(R:Rat->Rat->Prop):List Rat->Prop
 | a::b::l=>R a b/\Cn R (b::l)
 | _=>True
def Cn.imp{R R':Rat->Rat->Prop}(h:∀ a b,R a b->R' a b):∀ {l:List Rat},Cn R l->Cn R' l
 | [],_=>trivial
 | [_],_=>trivial
 | a::b::l,k=>⟨h a b k.1,Cn.imp h k.2⟩
def zAv{A:List Rat}:∀ {l:List Rat},l.Pairwise (·<=·)->(∀ x∈A,x∈l∨∀ y∈l,x<=y)->Cn (fun s t=>s<=t/\∀ x∈A,x<=s∨t<=x) l
 | [],_,_=>trivial
 | [_],_,_=>trivial
 | a::b::r,h,hA=>by
  obtain⟨h1,h2⟩:=Y2.mp h;obtain⟨h3,h4⟩:=Y2.mp h2;refine⟨⟨h1 b Qb,fun x hx=>?_⟩,zAv h2 fun x hx=>?_⟩
  ·rcases hA x hx with h | h
   ·rcases Qe.mp h with rfl | h
    ·exact .inl Qz
    ·rcases Qe.mp h with rfl | h
     ·exact .inr Qz
     ·exact .inr (h3 x h)
   ·exact .inl (h a Qb)
  ·rcases hA x hx with h | h
   ·rcases Qe.mp h with rfl | h
    ·exact .inr h1
    ·exact .inl h
   ·exact .inr fun y hy=>h y (Qc _ hy)
def QQ(ws cs:List Int)(t:Rat):Rat:=jS (cN (cR cs) (cR ws) t) (List.range cs.length)
def lv(ws cs:List Int)(i:Nat):Rat:=cR cs i / cR ws i
def Wt.pos{ws cs:List Int}(h:Wt ws cs){i:Nat}(hi:i<cs.length):0<cR ws i:=by
 have:=(h.at hi).1
 unfold cR;exact_mod_cast (show 0<ws.getD i 0 by omega)
def zGy{ws cs:List Int}(h:Wt ws cs){i:Nat}(hi:i<cs.length):cR ws i*lv ws cs i=cR cs i:=by
 have:=h.pos hi
 unfold lv;grind
def zMQ{ws cs:List Int}(h:Wt ws cs){i:Nat}(hi:i<cs.length){t:Rat}(l:lv ws cs i<=t):cN (cR cs) (cR ws) t i=cR cs i:=by
 have p:=h.pos hi;have e:=zGy h hi;have:=Xx l (Vq p)
 unfold cN mn;grind
def zMo{ws cs:List Int}(h:Wt ws cs){i:Nat}(hi:i<cs.length){t:Rat}(l:t<=lv ws cs i):cN (cR cs) (cR ws) t i=cR ws i*t:=by
 have p:=h.pos hi;have e:=zGy h hi;have:=Xx l (Vq p)
 unfold cN mn;grind
def zOw{ws cs:List Int}(h:Wt ws cs)(hc:Cl cs){i:Nat}(hi:i<cs.length):0<=lv ws cs i:=by
 have p:=h.pos hi;have c:=(zLg hc hi).1;have e:=zGy h hi;rcases Yg (a:=0) (b:=lv ws cs i) with z | z
 ·exact z
 ·have:=Xx z (Vq p)
  have z2:cR cs i=0:=by grind
  unfold lv;rw[z2];grind
def sl(ws cs:List Int)(s:Rat)(i:Nat):Rat:=if lv ws cs i<=s then 0 else cR ws i
def zDu{f g:Nat->Rat}:∀ {l:List Nat},jS (fun i=>f i-g i) l=jS f l-jS g l
 | []=>by rw[gT,gT,gT];grind
 | a::l=>by rw[bD,bD,bD,zDu];grind
def zQq(ws cs:List Int)(s t:Rat):Prop:=∀ i,i<cs.length->lv ws cs i<=s∨t<=lv ws cs i
def zJV{ws cs:List Int}(h:Wt ws cs){s t u:Rat}(n:zQq ws cs s t)(su:s<=u)(ut:u<=t){i:Nat}(hi:i<cs.length):cN (cR cs) (cR ws) u i-cN (cR cs) (cR ws) s i=sl ws cs s i*(u-s):=by
 unfold sl;by_cases z:lv ws cs i<=s
 ·rw[zMQ h hi z,zMQ h hi (V7 z su),Jj z];grind
 ·rcases n i hi with k | k
  ·exact absurd k z
  ·rw[zMo h hi (V7 ut k),zMo h hi (V7 su (V7 ut k)),Jk z];grind
def zGV{ws cs:List Int}(h:Wt ws cs){s t u:Rat}(n:zQq ws cs s t)(su:s<=u)(ut:u<=t):QQ ws cs u-QQ ws cs s=jS (sl ws cs s) (List.range cs.length)*(u-s):=by
 unfold QQ;rw[<-zDu,jN (g:=fun i=>sl ws cs s i*(u-s)) fun i hi=>zJV h n su ut (Qs.mp hi)];rw[fP];grind
def zLn{ws cs:List Int}(h:Wt ws cs){s t:Rat}(l:s<=t):QQ ws cs s<=QQ ws cs t:=zI fun i hi=>mI (h.pos (Qs.mp hi)) l
def zRV{ws cs:List Int}(h:Wt ws cs){s t:Rat}(e:QQ ws cs s=QQ ws cs t){i:Nat}(hi:i<cs.length):cN (cR cs) (cR ws) s i=cN (cR cs) (cR ws) t i:=sU (fun i hi=>h.pos (Qs.mp hi)) e i (Qs.mpr hi)
def zGc{ws cs:List Int}(h:Wt ws cs){q:Rat}:∀ {l:List Rat} {s:Rat},Cn (fun s t=>s<=t/\zQq ws cs s t) (s::l)->QQ ws cs s<=q->q<=QQ ws cs ((s::l).getLast (by simp))->∃ u,s<=u/\QQ ws cs u=q
 | [],s,_,h1,h2=>⟨s,Qz,by
  have h2':q<=QQ ws cs s:=h2
  grind⟩
 | t::l,s,hc,h1,h2=>by
  obtain⟨⟨st,n⟩,hc'⟩:=hc;rcases Yg (a:=QQ ws cs t) (b:=q) with z | z
  ·obtain⟨u,u1,u2⟩:=zGc h hc' z (by simpa using h2)
   exact⟨u,V7 st u1,u2⟩
  ·by_cases e:QQ ws cs s=QQ ws cs t
   ·exact⟨s,Qz,by grind⟩
   have d2:=zGV h n st Qz;generalize jS (sl ws cs s) (List.range cs.length)=W at d2;have lt:QQ ws cs s<QQ ws cs t:=by have:=zLn h st;grind
   have p:0<QQ ws cs t-QQ ws cs s:=by grind
   have nz:QQ ws cs t-QQ ws cs s≠0:=by grind
   have lam:0<=(q-QQ ws cs s) / (QQ ws cs t-QQ ws cs s)/\(q-QQ ws cs s) / (QQ ws cs t-QQ ws cs s)<=1:=by
    refine⟨pX p ?_,pX p ?_⟩
    ·rw[Vr nz];grind
    ·rw[Vr nz];grind
   have le:(q-QQ ws cs s) / (QQ ws cs t-QQ ws cs s)*(QQ ws cs t-QQ ws cs s)=q-QQ ws cs s:=Vr nz;generalize (q-QQ ws cs s) / (QQ ws cs t-QQ ws cs s)=k at lam le;have ts:0<=t-s:=by grind
   have m1:=Y3 lam.1 ts;have m2:=Xm lam.2 ts;refine⟨s+k*(t-s),by grind,?_⟩
   have d1:=zGV h n (u:=s+k*(t-s)) (by grind) (by grind)
   have d2':=zGV h n st Qz;grind
def zHY:∀(n:Nat)(g:Nat->Rat),∃ M,∀ i,i<n->Sz M (g i)
 | 0,_=>⟨0,fun i h=>⋯⟩
 | n+1,g=>by
  obtain⟨M,h⟩:=zHY n g;refine⟨M+((g n).num.natAbs+(g n).den),fun i hi=>?_⟩
  by_cases z:i=n
  ·rw[z];exact(zMh (g n)).mono ⋯
  ·exact(h i ⋯).mono ⋯
def zQt{ws cs:List Int}(h:Wt ws cs)(hc:Cl cs){q:Rat}(q0:0<=q)(q1:q<=(cs.sum:Rat)):∃ u,0<=u/\QQ ws cs u=q:=by
 generalize hA:(List.range cs.length).map (lv ws cs)=A;have pm:(A.mergeSort fun a b=>decide (a<=b)).Perm A:=W9 A _
 have so:(A.mergeSort fun a b=>decide (a<=b)).Pairwise (·<=·):=by
  have:=W8 (le:=fun a b:Rat=>decide (a<=b)) (fun a b c h1 h2=>by
   have h1':=Mc h1;have h2':=Mc h2
   exact J5 (V7 h1' h2')) (fun a b=>by
   rcases Yg (a:=a) (b:=b) with z | z
   ·simp[z]
   ·simp[z]) A
  exact this.imp fun h=>Mc h
 generalize A.mergeSort (fun a b=>decide (a<=b))=L at pm so
 have nn:∀ x∈L,0<=x:=fun x hx=>by
  have hx':=pm.mem_iff.mp hx;rw[<-hA] at hx';obtain⟨i,hi,rfl⟩:=Qt.mp hx';exact zOw h hc (Qs.mp hi)
 have so':(0::L).Pairwise (·<=·):=Y2.mpr ⟨nn,so⟩;have cn:=zAv (A:=A) so' fun x hx=>.inl (Qc _ (pm.mem_iff.mpr hx))
 have cn':Cn (fun s t=>s<=t/\zQq ws cs s t) (0::L):=cn.imp fun a b hab=>⟨hab.1,fun i hi=>hab.2 _ (by rw[<-hA];exact Qt.mpr ⟨i,Qs.mpr hi,rfl⟩)⟩
 have z0:QQ ws cs 0=0:=by
  unfold QQ;rw[jN (g:=fun i=>cR ws i*0) fun i hi=>zMo h (Qs.mp hi) (zOw h hc (Qs.mp hi)),fP];grind
 have zl:QQ ws cs ((0::L).getLast (by simp))=(cs.sum:Rat):=by
  unfold QQ;rw[jN (g:=cR cs) fun i hi=>zMQ h (Qs.mp hi) ?_]
  ·exact zBN cs
  ·have m:lv ws cs i∈L:=pm.mem_iff.mpr (by rw[<-hA];exact Qt.mpr ⟨i,hi,rfl⟩)
   have key:∀ {l:List Rat} (ne:l≠[]),l.Pairwise (·<=·)->∀ x∈l,x<=l.getLast ne:=by
    intro l
    induction l with
    | nil=>intro ne;exact absurd rfl ne
    | cons a r ih=>
     intro ne hp x hx;obtain⟨p1,p2⟩:=Y2.mp hp
     cases r with
     | nil=>rw[Qu.mp hx];exact Qz
     | cons b r=>
      rw[List.getLast_cons (by simp)];rcases Qe.mp hx with rfl | hx
      ·exact V7 (p1 b Qb) (ih (by simp) p2 b Qb)
      ·exact ih (by simp) p2 x hx
   exact key (by simp) so' _ (Qc _ m)
 exact zGc h cn' (by rw[z0];exact q0) (by rw[zl];exact q1)
def zDS{ws cs:List Int}(h:Wt ws cs)(hc:Cl cs){q:Rat}(q0:0<=q)(q1:q<=(cs.sum:Rat)):∃ M t,Lvl M ws cs q t:=by
 obtain⟨u,u0,e⟩:=zQt h hc q0 q1;obtain⟨M,hM⟩:=zHY cs.length (cN (cR cs) (cR ws) u);exact⟨M,u,u0,e,hM⟩
def zPo{w:Wy}{ws cs:List Int}(hw:w.due ws cs)(hc:Cl cs){q:Rat}(q0:0<=q)(q1:q<=(cs.sum:Rat)):∃ f M,Al M ws cs q f w:=by
 cases w with
 | row=>exact⟨_,0,fun i _=>rfl⟩
 | back=>exact⟨_,0,fun i _=>rfl⟩
 | part=>exact⟨_,0,fun i _=>rfl⟩
 | even=>
  obtain⟨M,t,tl⟩:=zDS hw hc q0 q1;exact⟨_,M,t,tl,fun i _=>rfl⟩
 | lack=>
  obtain⟨M,t,tl⟩:=zDS hw hc (q:=(cs.sum:Rat)-q) (by grind) (by grind)
  exact⟨_,M,t,tl,fun i _=>rfl⟩
 | half=>
  by_cases z:(cs.sum:Rat)<q+q
  ·obtain⟨M,t,tl⟩:=zDS (jG cs) hc (q:=((cs.sum:Rat)-q)+((cs.sum:Rat)-q)) (by grind) (by grind)
   exact⟨_,M,t,.inr ⟨z,tl,fun i _=>rfl⟩⟩
  ·have z':=Vb.mp z
   obtain⟨M,t,tl⟩:=zDS (jG cs) hc (q:=q+q) (by grind) z'
   exact⟨_,M,t,.inl ⟨z',tl,fun i _=>rfl⟩⟩
open Classical in
def FF(w:Wy)(ws cs:List Int)(q:Rat):Nat->Rat:=if h:∃ f M,Al M ws cs q f w then Classical.choose h else fun _=>0
def zJo{w:Wy}{ws cs:List Int}(hw:w.due ws cs)(hc:Cl cs){q:Rat}(q0:0<=q)(q1:q<=(cs.sum:Rat)):∃ M,Al M ws cs q (FF w ws cs q) w:=by
 unfold FF;rw[J6 (zPo hw hc q0 q1)];exact Qan (zPo hw hc q0 q1)
def zEx{M:Nat}{w:Wy}{ws cs:List Int}(hw:w.due ws cs)(hc:Cl cs){q:Rat}{f:Nat->Rat}(q0:0<=q)(q1:q<=(cs.sum:Rat))(a:Al M ws cs q f w){i:Nat}(hi:i<cs.length):f i=FF w ws cs q i:=by
 obtain⟨M',b⟩:=zJo hw hc q0 q1;exact zHG hw a b hi
def zQK{w:Wy}{ws cs:List Int}(hw:w.due ws cs)(hc:Cl cs){q:Rat}(q0:0<=q)(q1:q<=(cs.sum:Rat)):(∀ i,i<cs.length->0<=FF w ws cs q i/\FF w ws cs q i<=cR cs i)/\((List.range cs.length).map (FF w ws cs q)).sum=q:=by
 obtain⟨M,b⟩:=zJo hw hc q0 q1;exact zIn hw hc q0 q1 b
def zFp{f:Nat->Rat}:∀ {l:List Nat},(∀ i∈l,0<=f i)->jS f l=0->∀ i∈l,f i=0
 | [],_,_,i,h=>by cases h
 | a::l,hn,e,i,h=>by
  have p:0<=jS f l:=by
   have:∀ {l:List Nat},(∀ i∈l,0<=f i)->0<=jS f l:=by
    intro l
    induction l with
    | nil=>intro _;rw[gT];exact Qz
    | cons b l ih=>intro hl;rw[bD];have:=hl b Qb;have:=ih fun x hx=>hl x (Qc _ hx);grind
   exact this fun x hx=>hn x (Qc _ hx)
  have a0:=hn a Qb;rw[bD] at e;rcases Qe.mp h with rfl | h
  ·grind
  ·exact zFp (fun x hx=>hn x (Qc _ hx)) (by grind) i h
def zQN{v v':Wy}(h:v.s=v'.s):v=v':=by cases v<;>cases v'<;>first | rfl | exact absurd h ∅
open Classical in
def wyS(w:Str):Wy:=if h:∃ v:Wy,v.s=w then Classical.choose h else .row
def zQT(v:Wy):wyS v.s=v:=by
 have h:∃ u:Wy,u.s=v.s:=⟨v,rfl⟩;unfold wyS;rw[J6 h];exact zQN (Qan h)
def zQm(l:List D):List Int:=l.map fun d=>match d with | .int i=>i | _=>0
def zJB(ws:List Int):zQm (ws.map D.int)=ws:=by
 unfold zQm;rw[Qw];exact Y1 _
def SFL(g:D->Rat->List Rat)(f:Nat->Rat):List D->Nat->List Rat
 | [],_=>[]
 | k::ks,i=>g k (f i)++SFL g f ks (i+1)
def SF:Nat->D->Rat->List Rat
 | 0,_,_=>[]
 | n+1,d,q=>match d with
  | .tup [.str w,.tup a,.tup ks]=>SFL (SF n) (FF (wyS w) (zQm a) (kcl n ks) q) ks 0
  | _=>[q]
def oB(n:Nat)(v:Wy)(ws:List Int)(ks:List D)(q:Rat):SF (n+1) (.tup [.str v.s,.tup (ws.map D.int),.tup ks]) q=SFL (SF n) (FF v ws (kcl n ks) q) ks 0:=by
 show SFL (SF n) (FF (wyS v.s) (zQm (ws.map D.int)) (kcl n ks) q) ks 0=_
 rw[zQT,zJB]
def zMS(g:D->Rat->List Rat)(f:Nat->Rat):∀(a b:List D)(i:Nat),SFL g f (a++b) i=SFL g f a i++SFL g f b (i+a.length)
 | [],b,i=>rfl
 | k::a,b,i=>by
  show g k (f i)++SFL g f (a++b) (i+1)=(g k (f i)++SFL g f a (i+1))++_
  rw[zMS g f a b (i+1),V3,Qm,show i+1+a.length=i+(a.length+1) by omega]
def zFU{n:Nat}{f:Nat->Rat}:∀ {ks:List D} {i:Nat},(∀ k∈ks,∀ q,(SF n k q).length=(clm n k).length)->(SFL (SF n) f ks i).length=(ks.flatMap (clm n)).length
 | [],i,_=>rfl
 | k::r,i,h=>by
  show(SF n k (f i)++SFL (SF n) f r (i+1)).length=_
  rw[Qi,h k Qb,zFU fun x hx=>h x (Qc _ hx),Q8,Qi]
def zNG:∀ {n:Nat} {d:D},IsC n d->∀ q:Rat,(SF n d q).length=(clm n d).length
 | 0,_,h,_=>h.elim
 | n+1,d,h,q=>by
  rcases h with⟨c,rfl⟩ | ⟨w,ws,ks,rfl,hw,k0,k1,w1,hy,hk⟩
  ·rfl
  ·obtain⟨v,rfl⟩:=zCb hy.1
   rw[oB];exact zFU fun k hm q=>zNG (hk k hm) q
def zFX{n:Nat}{ks:List D}{j:Nat}{k:D}(h:ks[j]?=some k):j<(kcl n ks).length/\cR (kcl n ks) j=((clm n k).sum:Rat):=by
 have hj:=(Ve.mp h).1;refine⟨by rw[cI];exact hj,?_⟩
 unfold cR kcl;rw[Qq,Qr,h];rfl
def zKw{P:D->Rat->List Rat->Prop}{n:Nat}{f g:Nat->Rat}:∀ {ks:List D} {i:Nat} {xs:List Rat},(∀ k∈ks,∀ q xs,P k q xs->0<=q->q<=((clm n k).sum:Rat)->xs=SF n k q)->(∀ j k,ks[j]?=some k->f (i+j)=g (i+j)/\0<=f (i+j)/\f (i+j)<=((clm n k).sum:Rat))->ShL P ks f i xs->xs=SFL (SF n) g ks i
 | [],i,xs,_,_,h=>h
 | k::r,i,xs,hp,hf,h=>by
  obtain⟨a,b,rfl,ha,hb⟩:=h;have f0:=hf 0 k rfl;rw[Uk] at f0
  rw[hp k Qb _ _ ha f0.2.1 f0.2.2,zKw (fun x hx=>hp x (Qc _ hx)) (fun j k' hj=>by
   have:=hf (j+1) k' (by simpa using hj)
   rw[show i+1+j=i+(j+1) by omega];exact this) hb,f0.1]
  rfl
def zGM:∀ {n:Nat} {d:D} {q:Rat} {xs:List Rat},Gc n d->Sh n d q xs->0<=q->q<=((clm n d).sum:Rat)->xs=SF n d q
 | 0,_,_,_,g,_,_,_=>g.1.elim
 | n+1,d,q,xs,g,h,q0,q1=>by
  rcases h with⟨c,rfl,rfl⟩ | ⟨v,ws,ks,f,rfl,hd,al,hs⟩
  ·rfl
  ·rcases g.1 with⟨c,e⟩ | ⟨w,ws',ks',e,hw,k0,k1,w1,hy,hk⟩
   ·simp at e
   simp only[D.tup.injEq,X0,and_true] at e;obtain⟨e1,e2,rfl⟩:=e;have cl:=g.cl hk k0;have se:(kcl n ks).sum=(clm (n+1) (.tup [.str v.s,.tup (ws.map D.int),.tup ks])).sum:=mE ks;have q1':q<=((kcl n ks).sum:Rat):=by rw[se];exact q1
   obtain⟨b1,b2⟩:=zIn hd cl q0 q1' al;rw[oB];refine zKw (P:=Sh n) (fun k hm q xs h1 h2 h3=>zGM (g.kid hk hm) h1 h2 h3) (fun j k hj=>?_) hs
   obtain⟨j1,j2⟩:=zFX (n:=n) hj;rw[Q2,<-j2];exact⟨zEx hd cl q0 q1' al j1,b1 j j1⟩
def clp(A c x:Rat):Rat:=mn (ps0 (x-A)) c
def zLu{cs:List Int}(hc:∀ c∈cs,0<=c){i:Nat}(hi:i<cs.length):0<=(cs.take i).sum/\(cs.take i).sum+cs.getD i 0<=cs.sum:=by
 have nn:∀ l:List Int,(∀ c∈l,0<=c)->0<=l.sum:=fun l h=>by
  induction l with
  | nil=>exact Xl 0
  | cons a l ih=>rw[Qk];have:=h a Qb;have:=ih fun c hc=>h c (Qc _ hc);omega
 have e:cs.sum=(cs.take i).sum+(cs.getD i 0+(cs.drop (i+1)).sum):=by
  have h1:cs=cs.take i++(cs.getD i 0::cs.drop (i+1)):=by
   rw[Qq,Qj hi];show cs=cs.take i++(cs[i]::cs.drop (i+1))
   rw[<-Ug hi,Xz]
  have h2:=congrArg List.sum h1;rw[V8,Qk] at h2;exact h2
 have a:=nn (cs.take i) fun c h=>hc c (Y4 h)
 have b:=nn (cs.drop (i+1)) fun c h=>hc c (Us h)
 exact⟨a,⋯⟩
def isW(v:Wy):Prop:=v=.row∨v=.back∨v=.part
def phi(v:Wy)(S A c:Int)(x:Rat):Rat:=match v with
 | .row=>clp (A:Rat) (c:Rat) x
 | .back=>clp ((S-A-c:Int):Rat) (c:Rat) x
 | _=>x*(c:Rat) / (S:Rat)
def zPn{v:Wy}(hv:isW v){cs:List Int}(hc:Cl cs){x:Rat}(x0:0<=x)(x1:x<=(cs.sum:Rat)){i:Nat}(hi:i<cs.length):FF v [] cs x i=phi v cs.sum (cs.take i).sum (cs.getD i 0) x:=by
 have t:=zLu hc.nn hi;have c0:=hc.nn _ (Qg (aO hi));rcases hv with rfl | rfl | rfl
 ·rw[<-zEx (M:=0) (w:=.row) (f:=rY cs x) rfl hc x0 x1 (fun j _=>rfl) hi]
  unfold rY;rw[qN cs 0 x i hi,Uq];rfl
 ·have q0:(0:Rat)<=((cs.take i).sum:Rat):=Yr.mpr t.1
  have qc:(0:Rat)<=(cs.getD i 0:Rat):=Yr.mpr c0;have q1:((cs.take i).sum:Rat)+(cs.getD i 0:Rat)<=(cs.sum:Rat):=by rw[<-Qv];exact Q5.mpr t.2
  rw[<-zEx (M:=0) (w:=.back) (f:=fun j=>cR cs j-rY cs ((cs.sum:Rat)-x) j) rfl hc x0 x1 (fun j _=>rfl) hi];unfold rY;rw[qN cs 0 _ i hi,Uq];unfold phi;rw[Uo,Uo];unfold clp mn ps0 cR;grind
 ·rw[<-zEx (M:=0) (w:=.part) (f:=jW cs x) rfl hc x0 x1 (fun j _=>rfl) hi]
  obtain⟨p1,p2⟩:=fH (q:=x) hc hi;unfold phi;by_cases z:cs.sum=0
  ·have e0:cs.getD i 0=0:=⋯
   rw[p2 z,e0,z];rw[show((0:Int):Rat)=0 from rfl];grind
  ·have S0:=hc.sum.1
   have W:(cs.sum:Rat)≠0:=fun y=>z (by exact_mod_cast y)
   have:x*(cs.getD i 0:Rat) / (cs.sum:Rat)*(cs.sum:Rat)=x*(cs.getD i 0:Rat):=Vr W
   exact zOi W (by rw[p1,this];rfl)
def zHU{A C a c x:Rat}(a0:0<=a)(c0:0<=c)(ac:a+c<=C):clp a c (clp A C x)=clp (A+a) c x:=by
 unfold clp mn ps0;grind
def zMp{v:Wy}(hv:isW v){S A C a c:Int}{x:Rat}(a0:0<=a)(c0:0<=c)(ac:a+c<=C)(A0:0<=A)(AS:A+C<=S):phi v C a c (phi v S A C x)=phi v S (A+a) c x:=by
 have ra:(0:Rat)<=(a:Rat):=Yr.mpr a0;have rc:(0:Rat)<=(c:Rat):=Yr.mpr c0;rcases hv with rfl | rfl | rfl
 ·show clp (a:Rat) (c:Rat) (clp (A:Rat) (C:Rat) x)=clp ((A+a:Int):Rat) (c:Rat) x
  rw[zHU ra rc (by rw[<-Qv];exact Q5.mpr ac),Qv]
 ·show clp ((C-a-c:Int):Rat) (c:Rat) (clp ((S-A-C:Int):Rat) (C:Rat) x)=clp ((S-(A+a)-c:Int):Rat) (c:Rat) x
  rw[zHU (Yr.mpr ⋯) rc (by rw[<-Qv];exact Q5.mpr ⋯),<-Qv,show S-A-C+(C-a-c)=S-(A+a)-c by omega]
 ·show x*(C:Rat) / (S:Rat)*(c:Rat) / (C:Rat)=x*(c:Rat) / (S:Rat)
  by_cases z:C=0
  ·have e0:c=0:=⋯
   rw[e0,z,show((0:Int):Rat)=0 from rfl];grind
  ·have W:(C:Rat)≠0:=fun y=>z (by exact_mod_cast y)
   have:(C:Rat)*(C:Rat)⁻¹=1:=Rat.mul_inv_cancel _ W
   rw[Uc,Uc,Uc];grind
def SFp(n:Nat)(v:Wy)(S:Int)(q:Rat):Int->List D->List Rat
 | _,[]=>[]
 | A,k::ks=>SF n k (phi v S A (clm n k).sum q)++SFp n v S q (A+(clm n k).sum) ks
def zX{n:Nat}{v:Wy}(hv:isW v){ks:List D}(hc:Cl (kcl n ks)){q:Rat}(q0:0<=q)(q1:q<=((kcl n ks).sum:Rat)):∀(post pre:List D),ks=pre++post->SFL (SF n) (FF v [] (kcl n ks) q) post pre.length=SFp n v (kcl n ks).sum q (kcl n pre).sum post
 | [],_,_=>rfl
 | k::r,pre,e=>by
  have hi:pre.length<(kcl n ks).length:=by rw[cI,e,Qi,Qm];omega
  have tk:(kcl n ks).take pre.length=kcl n pre:=by
   unfold kcl;rw[e,Q4,<-Qf (as:=pre) (f:=fun k=>(clm n k).sum)];exact List.take_left
  have gd:(kcl n ks).getD pre.length 0=(clm n k).sum:=by
   unfold kcl;rw[e,Qq,Qr,Vu (Qd _),X8];rfl
  have ih:=zX hv hc q0 q1 r (pre++[k]) (by rw[e,V3];rfl)
  have ks1:(kcl n (pre++[k])).sum=(kcl n pre).sum+(clm n k).sum:=by
   unfold kcl;rw[Q4,V8];simp
  rw[Qi,ks1] at ih;show SF n k (FF v [] (kcl n ks) q pre.length)++SFL (SF n) (FF v [] (kcl n ks) q) r (pre.length+1)=SF n k (phi v (kcl n ks).sum (kcl n pre).sum (clm n k).sum q)++SFp n v (kcl n ks).sum q ((kcl n pre).sum+(clm n k).sum) r
  rw[zPn hv hc q0 q1 hi,tk,gd];exact congrArg _ ih
def zCC:∀ {n m:Nat} {d:D},IsC n d->n<=m->∀ q,SF m d q=SF n d q
 | 0,_,_,h,_,_=>h.elim
 | n+1,0,_,_,l,_=>absurd l ⋯
 | n+1,m+1,d,h,l,q=>by
  rcases h with⟨c,rfl⟩ | ⟨w,ws,ks,rfl,hw,k0,k1,w1,hy,hk⟩
  ·rfl
  ·obtain⟨v,rfl⟩:=zCb hy.1
   rw[oB,oB];have kc:kcl m ks=kcl n ks:=Qy fun k hm=>by rw[cK (hk k hm) ⋯]
   rw[kc]
   have:∀(js:List D)(i:Nat),(∀ k∈js,k∈ks)->SFL (SF m) (FF v ws (kcl n ks) q) js i=SFL (SF n) (FF v ws (kcl n ks) q) js i:=by
    intro js
    induction js with
    | nil=>intro i _;rfl
    | cons k r ih=>
     intro i hm;show SF m k _++_=SF n k _++_
     rw[zCC (hk k (hm k Qb)) ⋯,ih (i+1) fun x hx=>hm x (Qc _ hx)]
   exact this ks 0 fun k h=>h
def zHA(n:Nat)(v:Wy)(S:Int)(q:Rat):∀(a b:List D)(A:Int),SFp n v S q A (a++b)=SFp n v S q A a++SFp n v S q (A+(kcl n a).sum) b
 | [],b,A=>by
  show SFp n v S q A b=SFp n v S q (A+0) b
  rw[Ws]
 | k::a,b,A=>by
  show SF n k _++SFp n v S q (A+(clm n k).sum) (a++b)=(SF n k _++SFp n v S q (A+(clm n k).sum) a)++SFp n v S q (A+(kcl n (k::a)).sum) b
  rw[zHA n v S q a b,V3,show(kcl n (k::a)).sum=(clm n k).sum+(kcl n a).sum by unfold kcl;rw[Ql,Qk],Wr]
def gcL(ws:List Int):Int:=ws.foldl (fun a b=>(Int.gcd a b:Int)) 0
def dvl(ws:List Int):List Int:=ws.map fun x=>x / gcL ws
def xF:∀(ws:List Int)(a:Int),ws.foldl (fun a b=>(Int.gcd a b:Int)) a ∣ a/\∀ x∈ws,ws.foldl (fun a b=>(Int.gcd a b:Int)) a ∣ x
 | [],a=>⟨Int.dvd_refl a,fun x h=>by cases h⟩
 | y::r,a=>by
  have ih:=xF r (Int.gcd a y:Int);refine⟨Wq ih.1 (Ua ..),fun x h=>?_⟩
  rcases Qe.mp h with rfl | h
  ·exact Wq ih.1 (Ub ..)
  ·exact ih.2 x h
def zKv:∀(ws:List Int)(a c:Int),c ∣ a->(∀ x∈ws,c ∣ x)->c ∣ ws.foldl (fun a b=>(Int.gcd a b:Int)) a
 | [],a,c,h,_=>h
 | y::r,a,c,h,hr=>zKv r _ c (Int.dvd_coe_gcd h (hr y Qb)) fun x hx=>hr x (Qc _ hx)
def zPH:∀(ws:List Int)(a:Int),0<=a->0<=ws.foldl (fun a b=>(Int.gcd a b:Int)) a
 | [],_,h=>h
 | _::r,_,_=>zPH r _ (Vg _)
def zAR{ws:List Int}(hp:∀ x∈ws,1<=x/\x<=10^6)(hn:ws≠[]):0<gcL ws/\gcL ws<=10^6:=by
 cases ws with
 | nil=>exact absurd rfl hn
 | cons y r=>
  have h:=hp y Qb;have d:=(xF (y::r) 0).2 y Qb;have l:=W5 ⋯ d
  have n:=zPH (y::r) 0 ⋯
  have z:gcL (y::r)≠0:=fun z=>by
   have d':gcL (y::r) ∣ y:=d;rw[z] at d';have:=Int.zero_dvd.mp d'
   omega
  have l':gcL (y::r)<=y:=l;have n':0<=gcL (y::r):=n;omega
def yP{ws:List Int}(hp:∀ x∈ws,1<=x/\x<=10^6):∀ x∈dvl ws,1<=x/\x<=10^6:=by
 intro x hx;obtain⟨y,hy,rfl⟩:=Qt.mp hx;have g:=zAR hp (List.ne_nil_of_mem hy);have h:=hp y hy;have d:gcL ws ∣ y:=(xF ws 0).2 y hy;have l:=W5 ⋯ d
 have q1:1<=y / gcL ws:=(Int.le_ediv_iff_mul_le g.1).mpr ⋯
 have q2:y / gcL ws<=y:=Int.ediv_le_self _ ⋯
 omega
def zLx{ws:List Int}(hp:∀ x∈ws,1<=x/\x<=10^6):dvl (dvl ws)=dvl ws:=by
 by_cases hn:ws=[]
 ·subst hn;rfl
 have g:=zAR hp hn;have hn2:dvl ws≠[]:=fun z=>hn (List.map_eq_nil_iff.mp z)
 have g2:=zAR (yP hp) hn2
 have m:gcL ws*gcL (dvl ws) ∣ gcL ws:=zKv ws 0 _ (Int.dvd_zero _) fun x hx=>by
  have d1:gcL ws ∣ x:=(xF ws 0).2 x hx;have d2:gcL (dvl ws) ∣ x / gcL ws:=(xF (dvl ws) 0).2 _ (Qt.mpr ⟨x,hx,rfl⟩);rw[<-Int.mul_ediv_cancel' d1];exact Int.mul_dvd_mul_left _ d2
 have one:gcL (dvl ws)=1:=by
  have l:=W5 g.1 m
  have:gcL (dvl ws)<=1:=by
   rcases Int.lt_or_le 1 (gcL (dvl ws)) with h | h
   ·have:gcL ws*2<=gcL ws*gcL (dvl ws):=Qal ⋯ ⋯
    omega
   ·exact h
  omega
 show(dvl ws).map (fun x=>x / gcL (dvl ws))=_
 rw[one,Qy (g:=id) fun x _=>Int.ediv_one x,Y1]
def zFA{ws:List Int}{d:D}(hd:d=.lst (ws.map D.int)∨d=.tup (ws.map D.int))(hl:ws.length<=100)(hp:∀ x∈ws,1<=x/\x<=10^6):jT [d]=.ok (.f ((dvl ws).map D.int)):=by
 have sq:zIw d=.ok (ws.map D.int):=by rcases hd with rfl | rfl<;>rfl
 unfold jT;erw[sq];symm;refine jZ (Q:=fun r=>r.bind fin=.ok (.f ((dvl ws).map D.int))) (fun i ρ=>∃ a,ρ=[.val d,.val (.int ((ws.take i).foldl (fun a b=>(Int.gcd a b:Int)) 0)),a]) ⟨_,rfl⟩ ?_ ?_
 ·rintro i e ρ he ⟨a,rfl⟩
  rw[Qr] at he
  cases hx:ws[i]? with
  | none=>rw[hx] at he;cases he
  | some x=>
   rw[hx] at he;cases he;erw[lF];symm;refine⟨_,rfl,.val (.int x),?_⟩
   rw[nE hx,List.foldl_append];rfl
 ·rintro ρ' ⟨a,rfl⟩
  rw[Qf,V6];show((lG (oA (sT (aE 0)) lO (eOp lJ (aE 3) (aE 1))) [.val d,.val (.int (gcL ws)),a]).bind fin)=_
  erw[sq];symm;have g0:ws≠[]->0<gcL ws/\gcL ws<=10^6:=zAR hp
  rw[kJ (u:=D.int) (g:=fun x=>.int (x / gcL ws)) ⋯ (fun x hx=>by
   have:=g0 (List.ne_nil_of_mem hx)
   symm
   rw[oDiv_i (okDiv_lit ⋯ ⋯),U9 _ ⋯])]
  symm;unfold dvl;rw[Qw];rfl
def isO(w:Str):Prop:=w = "row" ∨ w = "back" ∨ w = "part"
instance (w:Str):Decidable (isO w):=by unfold isO;exact inferInstance
def op1(w:Str)(k:D):List D:=match k with
 | .tup [.str v,_,.tup kk]=>if v=w then kk else [k]
 | k=>[k]
def opw(w:Str)(ks:List D):List D:=if isO w then ks.flatMap (op1 w) else ks
def zIL{w:Str}:xB (.str w) (.tup [.str "row", .str "back", .str "part"])=.ok (.bl (!decide (isO w))):=by
 show(if depS [D.str "row", D.str "back", D.str "part"]<=50 then Res.ok (D.bl (!(((Str.ofString "row")==w) || (((Str.ofString "back")==w) || (((Str.ofString "part")==w) || false))))) else .no)=_
 rw[Jj ∅,Wp];congr 3
 by_cases h:isO w
 ·rw[J5 h]
  rcases h with rfl | rfl | rfl<;>decide
 ·rw[Ji h,beq_eq_false_iff_ne.mpr fun z=>h (.inl z.symm),beq_eq_false_iff_ne.mpr fun z=>h (.inr (.inl z.symm)),beq_eq_false_iff_ne.mpr fun z=>h (.inr (.inr z.symm))];rfl
def zPW{ks:List D}{w:Str}{i:Nat}:((ks.take i).flatMap (op1 w)).length<=(ks.flatMap (op1 w)).length:=by
 conv=>rhs;rw[<-Xz i ks,Vx,Qi]
 exact Nat.le_add_right _ _
def zNj{ks:List D}{w:Str}{k:D}(h:k∈ks):(op1 w k).length<=(ks.flatMap (op1 w)).length:=by
 obtain⟨a,b,rfl⟩:=List.append_of_mem h;rw[Vx,Q8,Qi,Qi];omega
def zJO{w:Str}{ks:List D}{n:Nat}(hw:w∈wys)(hk:∀ k∈ks,IsC n k)(hl:(ks.flatMap (op1 w)).length<=1000):∃ r:Rt,mZ [.str w,.lst ks]=.ok r/\r.d=.lst (opw w ks):=by
 unfold mZ;erw[zIL];by_cases ho:isO w
 ·rw[J5 ho]
  symm;refine jZ (Q:=fun r=>∃ r':Rt,r.bind fin=.ok r'/\r'.d=.lst (opw w ks)) (fun i ρ=>∃ a,ρ=[.val (.str w),.val (.lst ks),.own ((ks.take i).flatMap (op1 w)),a]) ⟨_,rfl⟩ ?_ ?_
  ·rintro i e ρ he ⟨a,rfl⟩
   have hm:=Qg he;have l1:=zNj (w:=w) hm;have l2:=zPW (ks:=ks) (w:=w) (i:=i)
   have nx:(ks.take (i+1)).flatMap (op1 w)=(ks.take i).flatMap (op1 w)++op1 w e:=by
    rw[nE he,Vx];simp[List.flatMap]
   cases n with
   | zero=>exact(hk e hm).elim
   | succ n=>
    rcases hk e hm with⟨c,rfl⟩ | ⟨v,ws,kk,rfl,hv,k0,k1,w1,hy,hkk⟩
    ·symm
     rw[iQ];symm;rw[show((Str.ofString "boat")==w)=false by rw[beq_eq_false_iff_ne];intro z;have:=(yA hw).2;rw[<-z] at this;exact absurd this ∅];symm;rw[Jj ⋯];refine⟨_,rfl,.val (.tup [.str "boat", .int c]),?_⟩
     rw[nx];rfl
    ·symm
     rw[iQ];symm;by_cases c:v=w
     ·rw[show(v==w)=true from beq_iff_eq.mpr c]
      erw[cO hv];symm;have e1:op1 w (.tup [.str v,.tup (ws.map D.int),.tup kk])=kk:=Jj c;rw[e1] at nx l1;rw[Jj ⋯];exact⟨_,rfl,.val (.tup [.str v,.tup (ws.map D.int),.tup kk]),by rw[nx]⟩
     ·rw[show(v==w)=false from beq_eq_false_iff_ne.mpr c]
      symm;have e1:op1 w (.tup [.str v,.tup (ws.map D.int),.tup kk])=[.tup [.str v,.tup (ws.map D.int),.tup kk]]:=Jk c;rw[e1] at nx;rw[Jj ⋯];exact⟨_,rfl,.val (.tup [.str v,.tup (ws.map D.int),.tup kk]),by rw[nx]⟩
  ·rintro ρ' ⟨a,rfl⟩
   erw[V6];exact⟨_,rfl,by unfold opw;rw[Jj ho]⟩
 ·rw[Ji ho]
  symm;exact⟨_,rfl,by unfold opw;rw[Jk ho]⟩
def dvD(ws:List D):List D:=match lI ws with
 | some wi=>(dvl wi).map D.int
 | none=>ws
def yF(ws:List Int):dvD (ws.map D.int)=(dvl ws).map D.int:=by
 unfold dvD;rw[show lI (ws.map D.int)=some ws by have:=sY (fun x:Int=>x) ws;simpa using this]
def pl1(w:Str)(ws:List D):List D->D
 | [k]=>k
 | ks=>.tup [.str w,.tup (dvD ws),.tup (opw w ks)]
def pln:Nat->D->D
 | 0,d=>d
 | n+1,d=>match d with
  | .tup [.str w,.tup ws,.tup ks]=>pl1 w ws (ks.map (pln n))
  | d=>d
def zGw:∀ {n:Nat} {d:D},IsC n d->1<=(clm n d).length
 | 0,_,h=>h.elim
 | n+1,d,h=>by
  rcases h with⟨c,rfl⟩ | ⟨w,ws,ks,rfl,hw,k0,k1,w1,hy,hk⟩
  ·exact Qd 1
  ·cases ks with
   | nil=>cases k0
   | cons k r=>exact Qn (zGw (hk k Qb)) (vM (n:=n) Qb)
def zDT:∀ {n:Nat} {ks:List D},(∀ k∈ks,IsC n k)->ks.length<=(ks.flatMap (clm n)).length
 | _,[],_=>Vl _
 | n,k::r,h=>by
  rw[Q8,Qi,Qm];have h1:=zGw (h k Qb);have h2:=zDT fun x hx=>h x (Qc _ hx)
  omega
def zOE{n:Nat}{w:Str}{k:D}(h:IsC n k):(∀ x∈op1 w k,IsC n x)/\(op1 w k).flatMap (clm n)=clm n k:=by
 cases n with
 | zero=>exact h.elim
 | succ n=>
  have h0:=h;rcases h with⟨c,rfl⟩ | ⟨v,ws,kk,rfl,hv,k0,k1,w1,hy,hkk⟩
  ·exact⟨fun x hx=>by rw[Qu.mp hx];exact h0,by show [D.tup [.str "boat", .int c]].flatMap _=_;simp[List.flatMap]⟩
  ·by_cases c:v=w
   ·have e1:op1 w (.tup [.str v,.tup (ws.map D.int),.tup kk])=kk:=Jj c
    rw[e1];refine⟨fun x hx=>eJ (hkk x hx) (Xr n),?_⟩
    show kk.flatMap (clm (n+1))=kk.flatMap (clm n)
    rw[Vy,Vy,Qy fun x hx=>cK (hkk x hx) (Xr n)]
   ·have e1:op1 w (.tup [.str v,.tup (ws.map D.int),.tup kk])=[.tup [.str v,.tup (ws.map D.int),.tup kk]]:=Jk c
    rw[e1];exact⟨fun x hx=>by rw[Qu.mp hx];exact h0,by simp[List.flatMap]⟩
def zEd{n:Nat}{w:Str}:∀ {ks:List D},(∀ k∈ks,IsC n k)->(∀ x∈ks.flatMap (op1 w),IsC n x)/\(ks.flatMap (op1 w)).flatMap (clm n)=ks.flatMap (clm n)
 | [],_=>⟨fun x h=>(by cases h),rfl⟩
 | k::r,h=>by
  have h1:=zOE (w:=w) (h k Qb);have h2:=zEd (w:=w) (ks:=r) fun x hx=>h x (Qc _ hx)
  rw[Q8];refine⟨fun x hx=>?_,?_⟩
  ·rcases Xa.mp hx with hx | hx
   ·exact h1.1 x hx
   ·exact h2.1 x hx
  ·rw[Vx,h1.2,h2.2,Q8]
def zNC{n:Nat}{w:Str}{ks:List D}(h:∀ k∈ks,IsC n k):(∀ x∈opw w ks,IsC n x)/\(opw w ks).flatMap (clm n)=ks.flatMap (clm n):=by
 unfold opw;by_cases c:isO w
 ·rw[Jj c];exact zEd h
 ·rw[Jk c];exact⟨h,rfl⟩
def tK:∀(n m:Nat)(d:D),IsC n d->n<=m->n<=8->(clm n d).length<=12->lP m [d]=.ok (.v (pln n d))/\IsC n (pln n d)/\clm n (pln n d)=clm n d
 | 0,_,_,h,_,_,_=>h.elim
 | n+1,0,_,_,l,_,_=>absurd l ⋯
 | n+1,m+1,d,h,l,l8,hl=>by
  show yC (lP m) [d]=_/\_
  unfold yC;symm;rcases h with⟨c,rfl⟩ | ⟨w,ws,ks,rfl,hw,k0,k1,w1,hy,hk⟩
  ·rw[fW]
   symm;exact⟨rfl,.inl ⟨c,rfl⟩,rfl⟩
  ·have hl':(ks.flatMap (clm n)).length<=12:=hl
   have ih:∀ k∈ks,lP m [k]=.ok (.v (pln n k))/\IsC n (pln n k)/\clm n (pln n k)=clm n k:=fun k h=>tK n m k (hk k h) ⋯ ⋯ (Qn (vM h) hl')
   have fm:(ks.map (pln n)).flatMap (clm n)=ks.flatMap (clm n):=by rw[W4,Vy,Qy fun k h=>(ih k h).2.2,<-Vy]
   have ic:∀ k∈ks.map (pln n),IsC n k:=fun k hm=>by obtain⟨x,hx,rfl⟩:=Qt.mp hm;exact(ih x hx).2.1
   have ln:(ks.map (pln n)).length=ks.length:=Qf _;rw[dW hw];erw[cO hw];symm
   have e:=kJ (u:=fun k=>k) (g:=fun k=>pln n k) (l:=ks) (f:=aL (lP m) (aB (aE 2) aNil)) (ρ:=[.val (.tup [.str w,.tup (ws.map D.int),.tup ks]),.un]) ⋯ (fun k hm=>by
    erw[(ih k hm).1]
    symm)
   rw[Y5] at e;rw[e];symm;show _=Res.ok (Rt.v (pl1 w (ws.map D.int) (ks.map (pln n))))/\IsC (n+1) (pl1 w (ws.map D.int) (ks.map (pln n)))/\clm (n+1) (pl1 w (ws.map D.int) (ks.map (pln n)))=ks.flatMap (clm n)
   by_cases c1:ks.length=1
   ·obtain⟨k,ek⟩:=List.length_eq_one_iff.mp (ln.trans c1)
    rw[ek];rw[ek] at fm ic;rw[J5 ⋯];erw[show oIx (.lst [k]) (.int 0)=.ok k from rfl];symm;have hk':=ic k Qb;refine⟨rfl,eJ hk' (Xr n),?_⟩
    show clm (n+1) k=_
    rw[cK hk' (Xr n),<-fm];simp[List.flatMap]
   ·rw[Ji ⋯]
    erw[iQ,iV];symm
    have fine:∀ x∈ws,1<=x/\x<=10^6:=by
     rcases hy.2 with⟨_,_,h⟩ | ⟨_,rfl⟩
     ·exact h
     ·intro x hx;cases hx
    rw[zFA (.inr rfl) w1 fine];erw[iQ];symm;have oo:=zEd (w:=w) ic;have ob:((ks.map (pln n)).flatMap (op1 w)).length<=12:=Qn (zDT oo.1) (by rw[oo.2,fm];exact hl')
    have ow:=zNC (w:=w) ic;have owl:(opw w (ks.map (pln n))).length<=12:=Qn (zDT ow.1) (by rw[ow.2,fm];exact hl')
    have ow0:0<(opw w (ks.map (pln n))).length:=by
     have h1:=zDT ic;rw[<-ow.2,ln] at h1
     cases hz:opw w (ks.map (pln n)) with
     | nil=>
      rw[hz] at h1;have h2:ks.length<=0:=h1;omega
     | cons a r=>exact Yp _
    have wk:wOK w (dvl ws) (opw w (ks.map (pln n))).length:=by
     rcases hy.2 with⟨h1,h2,h3⟩ | ⟨h1,rfl⟩
     ·refine .inl ⟨h1,?_,yP h3⟩
      have no:¬ isO w:=by rcases h1 with rfl | rfl<;>decide
      unfold opw dvl;rw[Jk no,Qf,ln,h2]
     ·exact .inr ⟨h1,rfl⟩
    obtain⟨r,q1,q2⟩:=zJO hy.1 ic ⋯
    rw[q1];simp only[Rt.d] at q2;erw[q2];obtain⟨t1,t2⟩:=zHR (n:=n) (ks:=opw w (ks.map (pln n))) (w:=w) (ws:=dvl ws) (.inl rfl) hy.1 wk (by unfold dvl;rw[Qf];exact w1) ow0 ⋯ ⋯ ow.1 (by rw[ow.2,fm];exact hl')
    rw[t1];symm
    have pe:pl1 w (ws.map D.int) (ks.map (pln n))=.tup [.str w,.tup ((dvl ws).map D.int),.tup (opw w (ks.map (pln n)))]:=by
     rw[<-yF];generalize ks.map (pln n)=l at ln
     match l,ln with
     | [],ln=>exact absurd ln (by simp;omega)
     | [k],ln=>exact absurd ln.symm c1
     | a::b::r,_=>rfl
    rw[pe];exact⟨rfl,t2,by show(opw w (ks.map (pln n))).flatMap (clm n)=_;rw[ow.2,fm]⟩
def wy:D->Option Str
 | .tup (.str w::_)=>some w
 | _=>none
def isP:Nat->D->Prop
 | 0,_=>False
 | n+1,d=>(∃ c:Int,d=.tup [.str "boat", .int c])∨∃(w:Str)(ws:List Int)(ks:List D),d=.tup [.str w,.tup (ws.map D.int),.tup ks]/\2<=ks.length/\dvl ws=ws/\(isO w->∀ k∈ks,wy k≠some w)/\∀ k∈ks,isP n k
def zAc:∀ {n m:Nat} {d:D},isP n d->n<=m->isP m d
 | 0,_,_,h,_=>h.elim
 | n+1,0,_,_,l=>absurd l ⋯
 | n+1,m+1,d,h,l=>by
  rcases h with h | ⟨w,ws,ks,rfl,h1,h2,h3,h4⟩
  ·exact .inl h
  ·exact .inr ⟨w,ws,ks,rfl,h1,h2,h3,fun k h=>zAc (h4 k h) ⋯⟩
def zLJ{w:Str}{k:D}(h:wy k≠some w):op1 w k=[k]:=by
 unfold op1;split
 ·rename_i v a kk
  rw[Jk fun z=>h (by rw[z];rfl)]
 ·rfl
def zLE{w:Str}{ks:List D}(h:isO w->∀ k∈ks,wy k≠some w):opw w ks=ks:=by
 unfold opw;by_cases c:isO w
 ·rw[Jj c]
  have hh:=h c;clear h c
  induction ks with
  | nil=>rfl
  | cons k r ih=>rw[Q8,zLJ (hh k Qb),ih fun x hx=>hh x (Qc _ hx)];rfl
 ·rw[Jk c]
def zNa:∀ {n:Nat} {d:D},isP n d->pln n d=d
 | 0,_,h=>h.elim
 | n+1,d,h=>by
  rcases h with⟨c,rfl⟩ | ⟨w,ws,ks,rfl,h1,h2,h3,h4⟩
  ·rfl
  ·show pl1 w (ws.map D.int) (ks.map (pln n))=_
   rw[Qy (f:=pln n) (g:=id) fun k h=>zNa (h4 k h),Y1]
   match ks,h1,h3 with
   | a::b::r,_,h3=>
    show D.tup [.str w,.tup (dvD (ws.map D.int)),.tup (opw w (a::b::r))]=_
    rw[yF,h2,zLE h3]
def zGY{n:Nat}{w:Str}{k:D}(hw:w∈wys)(ho:isO w)(hc:IsC n k)(h:isP n k):1<=(op1 w k).length/\∀ x∈op1 w k,isP n x/\wy x≠some w:=by
 cases n with
 | zero=>exact h.elim
 | succ n=>
  have h0:=h;rcases h with⟨c,rfl⟩ | ⟨v,ws,kk,rfl,h1,h2,h3,h4⟩
  ·refine⟨Qd 1,fun x hx=>?_⟩
   rw[Qu.mp hx];refine⟨h0,fun z=>?_⟩
   have z':Str.ofString "boat" = w:=Vd z;have:=(yA hw).2
   rw[<-z'] at this;exact absurd this ∅
  ·by_cases c:v=w
   ·have e1:op1 w (.tup [.str v,.tup (ws.map D.int),.tup kk])=kk:=Jj c
    rw[e1];refine⟨⋯,fun x hx=>⟨zAc (h4 x hx) (Xr n),?_⟩⟩
    have:=h3 (by rw[c];exact ho) x hx
    rw[c] at this;exact this
   ·have e1:op1 w (.tup [.str v,.tup (ws.map D.int),.tup kk])=[.tup [.str v,.tup (ws.map D.int),.tup kk]]:=Jk c
    rw[e1];refine⟨Qd 1,fun x hx=>?_⟩
    rw[Qu.mp hx];exact⟨h0,fun z=>c (Vd z)⟩
def pS{n:Nat}{w:Str}(hw:w∈wys)(ho:isO w):∀ {ks:List D},(∀ k∈ks,IsC n k/\isP n k)->ks.length<=(ks.flatMap (op1 w)).length/\∀ x∈ks.flatMap (op1 w),isP n x/\wy x≠some w
 | [],_=>⟨Qd _,fun x h=>(by cases h)⟩
 | k::r,h=>by
  have h1:=zGY hw ho (h k Qb).1 (h k Qb).2;have h2:=pS hw ho (ks:=r) fun x hx=>h x (Qc _ hx)
  rw[Q8,Qi,Qm];refine⟨⋯,fun x hx=>?_⟩
  rcases Xa.mp hx with hx | hx
  ·exact h1.2 x hx
  ·exact h2.2 x hx
def zLq:∀(n:Nat)(d:D),IsC n d->n<=8->(clm n d).length<=12->isP n (pln n d)
 | 0,_,h,_,_=>h.elim
 | n+1,d,h,l8,hl=>by
  rcases h with⟨c,rfl⟩ | ⟨w,ws,ks,rfl,hw,k0,k1,w1,hy,hk⟩
  ·exact .inl ⟨c,rfl⟩
  ·have hl':(ks.flatMap (clm n)).length<=12:=hl
   have hs:∀ k∈ks,(clm n k).length<=12:=fun k h=>Qn (vM h) hl'
   have ic:∀ k∈ks.map (pln n),IsC n k/\isP n k:=fun k hm=>by
    obtain⟨x,hx,rfl⟩:=Qt.mp hm;exact⟨(tK n n x (hk x hx) (Qd n) ⋯ (hs x hx)).2.1,zLq n x (hk x hx) ⋯ (hs x hx)⟩
   have fine:∀ x∈ws,1<=x/\x<=10^6:=by
    rcases hy.2 with⟨_,_,h⟩ | ⟨_,rfl⟩
    ·exact h
    ·intro x hx;cases hx
   have ln:(ks.map (pln n)).length=ks.length:=Qf _;show isP (n+1) (pl1 w (ws.map D.int) (ks.map (pln n)))
   generalize ks.map (pln n)=l at ic ln
   match l,ic,ln with
   | [],_,ln=>exact absurd ln (by simp;omega)
   | [k],ic,_=>exact zAc (ic k Qb).2 (Xr n)
   | a::b::r,ic,_=>
    refine .inr ⟨w,dvl ws,opw w (a::b::r),by show D.tup [.str w,.tup (dvD (ws.map D.int)),_]=_;rw[yF],?_,zLx fine,?_,?_⟩
    all_goals unfold opw
    ·by_cases c:isO w
     ·rw[Jj c];exact Qn (by simp) (pS hy.1 c ic).1
     ·rw[Jk c];simp
    ·intro c
     rw[Jj c];exact fun k hk=>((pS hy.1 c ic).2 k hk).2
    ·by_cases c:isO w
     ·rw[Jj c];exact fun k hk=>((pS hy.1 c ic).2 k hk).1
     ·rw[Jk c];exact fun k hk=>(ic k hk).2
mutual
def zMX:∀ {n m:Nat} {d e:D},dOK n d->dOK m e->eqD d e=true->d=e
 | 0,_,_,_,h,_,_=>h.elim
 | _+1,0,_,_,_,h,_=>h.elim
 | n+1,m+1,d,e,h,k,q=>by
  rcases h with⟨i,rfl⟩ | ⟨x,rfl⟩ | ⟨ds,rfl,hl,he⟩<;>rcases k with⟨j,rfl⟩ | ⟨y,rfl⟩ | ⟨es,rfl,kl,ke⟩
  ·rw[eqD] at q;rw[beq_iff_eq.mp q]
  ·cases q
  ·cases q
  ·cases q
  ·rw[eqD] at q;rw[beq_iff_eq.mp q]
  ·cases q
  ·cases q
  ·cases q
  ·rw[eqD] at q;rw[zEe he ke q]
def zEe:∀ {n m:Nat} {ds es:List D},(∀ d∈ds,dOK n d)->(∀ e∈es,dOK m e)->zEl ds es=true->ds=es
 | _,_,[],[],_,_,_=>rfl
 | _,_,[],_::_,_,_,q=>by cases q
 | _,_,_::_,[],_,_,q=>by cases q
 | n,m,a::r,b::s,h,k,q=>by
  rw[zEl,Vh] at q;rw[zMX (h a Qb) (k b Qb) q.1,zEe (fun d hd=>h d (Qc _ hd)) (fun d hd=>k d (Qc _ hd)) q.2]
end
def zPw{v:Wy}(hv:isW v){S A C:Int}{x:Rat}(C0:0<=C)(A0:0<=A)(AS:A+C<=S)(x0:0<=x)(x1:x<=(S:Rat)):0<=phi v S A C x/\phi v S A C x<=(C:Rat):=by
 have rc:(0:Rat)<=(C:Rat):=Yr.mpr C0;rcases hv with rfl | rfl | rfl
 ·unfold phi clp mn ps0
  grind
 ·unfold phi clp mn ps0
  grind
 ·unfold phi
  by_cases z:S=0
  ·have e0:C=0:=⋯
   rw[e0,z,show((0:Int):Rat)=0 from rfl];grind
  ·have W:(0:Rat)<(S:Rat):=by exact_mod_cast (show 0<S by omega)
   have e:x*(C:Rat) / (S:Rat)*(S:Rat)=x*(C:Rat):=Vr (by grind)
   have a:x*(C:Rat)<=(S:Rat)*(C:Rat):=Xm x1 rc;have b:0<=x*(C:Rat):=Y3 x0 rc;exact⟨pX W (by rw[e];grind),pX W (by rw[e];grind)⟩
def zKt{l:List Int}(h:∀ c∈l,0<=c):0<=l.sum:=by
 induction l with
 | nil=>decide
 | cons a l ih=>rw[Qk];have:=h a Qb;have:=ih fun x hx=>h x (Qc _ hx);omega
def zKF{n m:Nat}{v:Wy}(hv:isW v){S A C:Int}{q:Rat}(hn:m<=n)(A0:0<=A)(AS:A+C<=S):∀(kk:List D)(a:Int),0<=a->(∀ k∈kk,Gc m k)->a+(kcl m kk).sum<=C->SFp m v C (phi v S A C q) a kk=SFp n v S q (A+a) kk
 | [],_,_,_,_=>rfl
 | k::r,a,a0,hk,ac=>by
  have gk:=hk k Qb;have c0:=gk.sum.1
  have r0:0<=(kcl m r).sum:=zKt fun c hc=>by
   obtain⟨x,hx,rfl⟩:=Qt.mp hc;exact(hk x (Qc _ hx)).sum.1
  rw[show(kcl m (k::r)).sum=(clm m k).sum+(kcl m r).sum by unfold kcl;rw[Ql,Qk]] at ac;show SF m k (phi v C a (clm m k).sum (phi v S A C q))++SFp m v C (phi v S A C q) (a+(clm m k).sum) r=SF n k (phi v S (A+a) (clm n k).sum q)++SFp n v S q (A+a+(clm n k).sum) r
  rw[zMp hv a0 c0 ⋯ A0 AS,zCC gk.1 hn,cK gk.1 hn,zKF hv hn A0 AS r (a+(clm m k).sum) ⋯ (fun x hx=>hk x (Qc _ hx)) ⋯,Wr]
def zQD{v:Wy}(hv:isW v){ws:List Int}{m:Nat}(h:wOK v.s ws m):ws=[]:=by
 rcases h with⟨a,_⟩ | ⟨_,b⟩
 ·rcases hv with rfl | rfl | rfl
  all_goals exact absurd a ∅
 ·exact b
def zDJ{n:Nat}{v:Wy}(hv:isW v){S:Int}{q:Rat}(q0:0<=q)(q1:q<=(S:Rat)):∀(ks:List D)(A:Int),0<=A->(∀ k∈ks,Gc n k)->A+(kcl n ks).sum<=S->SFp n v S q A (ks.flatMap (op1 v.s))=SFp n v S q A ks
 | [],_,_,_,_=>rfl
 | k::r,A,A0,hk,ac=>by
  have gk:=hk k Qb;have c0:=gk.sum.1
  have r0:0<=(kcl n r).sum:=zKt fun c hc=>by
   obtain⟨x,hx,rfl⟩:=Qt.mp hc;exact(hk x (Qc _ hx)).sum.1
  rw[show(kcl n (k::r)).sum=(clm n k).sum+(kcl n r).sum by unfold kcl;rw[Ql,Qk]] at ac;have ih:=zDJ hv q0 q1 r (A+(clm n k).sum) ⋯ (fun x hx=>hk x (Qc _ hx)) ⋯
  rw[Q8,zHA];show _=SF n k (phi v S A (clm n k).sum q)++SFp n v S q (A+(clm n k).sum) r
  have one:op1 v.s k=[k]->SFp n v S q A (op1 v.s k)++SFp n v S q (A+(kcl n (op1 v.s k)).sum) (r.flatMap (op1 v.s))=SF n k (phi v S A (clm n k).sum q)++SFp n v S q (A+(clm n k).sum) r:=fun e=>by
   rw[e,show(kcl n [k]).sum=(clm n k).sum by unfold kcl;simp,ih];show(SF n k _++[])++_=_
   rw[Vn]
  cases n with
  | zero=>exact gk.1.elim
  | succ n=>
   rcases gk.1 with⟨c,rfl⟩ | ⟨w,ws,kk,rfl,hw,k0,k1,w1,hy,hkk⟩
   ·exact one rfl
   ·by_cases e:w=v.s
    ·subst e
     have ew:=zQD hv hy.2;subst ew
     have op:op1 v.s (.tup [.str v.s,.tup (([]:List Int).map D.int),.tup kk])=kk:=by
      show(if v.s=v.s then kk else _)=kk
      rw[Jj rfl]
     have cl:=gk.cl hkk k0;have se:(kcl n kk).sum=(clm (n+1) (.tup [.str v.s,.tup (([]:List Int).map D.int),.tup kk])).sum:=mE kk;have kc:kcl (n+1) kk=kcl n kk:=Qy fun k hm=>by rw[cK (hkk k hm) ⋯]
     have bd:=zPw (x:=q) hv c0 A0 (show A+_<=S by omega) q0 q1
     rw[op,kc,se,ih];congr 1
     have key:=zX (q:=phi v S A (clm (n+1) (.tup [.str v.s,.tup (([]:List Int).map D.int),.tup kk])).sum q) hv cl bd.1 (by rw[se];exact bd.2) kk [] rfl
     rw[V4,show(kcl n []).sum=0 from rfl,se] at key;rw[oB,key];have:=zKF (n:=n+1) (m:=n) (q:=q) hv ⋯ A0 (show A+(clm (n+1) (.tup [.str v.s,.tup (([]:List Int).map D.int),.tup kk])).sum<=S by omega) kk 0 (Xl 0) (fun k hm=>gk.kid hkk hm) (by rw[se];omega)
     rw[Ws] at this;exact this.symm
    ·exact one (by show(if w=v.s then kk else _)=_;rw[Jk e])
def zQH{v:Wy}(hv:v=.even∨v=.lack){ws cs:List Int}(h:Wt ws cs)(h':Wt (dvl ws) cs)(hc:Cl cs)(g0:0<gcL ws)(hd:∀ x∈ws,gcL ws ∣ x){q:Rat}(q0:0<=q)(q1:q<=(cs.sum:Rat)){i:Nat}(hi:i<cs.length):FF v (dvl ws) cs q i=FF v ws cs q i:=by
 have G0:(0:Rat)<(gcL ws:Rat):=by exact_mod_cast g0
 have at':∀ j,j<cs.length->cR (dvl ws) j*(gcL ws:Rat)=cR ws j:=fun j hj=>by
  have hj':j<ws.length:=by rw[h.len];exact hj
  have e:(dvl ws).getD j 0=ws.getD j 0 / gcL ws:=by
   unfold dvl;rw[Qq,Qr,aO hj'];rfl
  unfold cR;rw[e,<-Vm,Int.ediv_mul_cancel (hd _ (Qg (aO hj')))]
 have gt:∀(t:Rat)(j:Nat),j<cs.length->cN (cR cs) (cR (dvl ws)) ((gcL ws:Rat)*t) j=cN (cR cs) (cR ws) t j:=fun t j hj=>by
  unfold cN;rw[<-Wb,at' j hj]
 have lv:∀ {M:Nat} {x t:Rat},Lvl M ws cs x t->Lvl M (dvl ws) cs x ((gcL ws:Rat)*t):=fun {M x t} tl=>⟨Y3 (Vq G0) tl.nn,by
  rw[<-tl.sum];show((List.range cs.length).map (cN (cR cs) (cR (dvl ws)) ((gcL ws:Rat)*t))).sum=((List.range cs.length).map (cN (cR cs) (cR ws) t)).sum
  rw[Qy fun j hj=>gt t j (Qs.mp hj)],fun j hj=>by rw[gt t j hj];exact tl.sz j hj⟩
 rcases hv with rfl | rfl
 ·obtain⟨M,t,tl,e⟩:=zJo (w:=.even) h hc q0 q1
  exact(zEx (M:=M) (w:=.even) h' hc q0 q1 ⟨_,lv tl,fun j hj=>by rw[e j hj,gt t j hj]⟩ hi).symm
 ·obtain⟨M,t,tl,e⟩:=zJo (w:=.lack) h hc q0 q1
  exact(zEx (M:=M) (w:=.lack) h' hc q0 q1 ⟨_,lv tl,fun j hj=>by rw[e j hj,gt t j hj]⟩ hi).symm
def yS{n:Nat}{f g:Nat->Rat}{h:D->D}:∀ {ks:List D} {i:Nat},(∀ j k,ks[j]?=some k->SF n (h k) (g (i+j))=SF n k (f (i+j)))->SFL (SF n) g (ks.map h) i=SFL (SF n) f ks i
 | [],i,_=>rfl
 | k::r,i,e=>by
  have e0:=e 0 k rfl;rw[Uk] at e0;show SF n (h k) (g i)++_=SF n k (f i)++_
  rw[e0,yS fun j k' hj=>by
   have:=e (j+1) k' (by simpa using hj)
   rw[show i+1+j=i+(j+1) by omega];exact this]
def zOY{v:Wy}:isO v.s ↔ isW v:=by
 cases v<;>unfold isO isW<;>simp<;>decide
def zLd{n:Nat}{v:Wy}{ws:List Int}{js:List D}{q:Rat}(gk:∀ k∈js,Gc n k)(l12:(js.flatMap (clm n)).length<=12)(due:v.due ws (kcl n js))(cl:Cl (kcl n js))(q0:0<=q)(q1:q<=((kcl n js).sum:Rat)):SFL (SF n) (FF v (dvl ws) (kcl n (opw v.s js)) q) (opw v.s js) 0=SFL (SF n) (FF v ws (kcl n js) q) js 0:=by
 have ik:∀ k∈js,IsC n k:=fun k hm=>(gk k hm).1
 by_cases o:isW v
 ·have ew:ws=[]:=by rcases o with rfl | rfl | rfl<;>exact due
  subst ew;have eo:opw v.s js=js.flatMap (op1 v.s):=by unfold opw;rw[Jj (zOY.mpr o)]
  obtain⟨p1,p2⟩:=zEd (w:=v.s) ik
  have su:(kcl n (js.flatMap (op1 v.s))).sum=(kcl n js).sum:=by
   unfold kcl;rw[mE,mE,p2]
  have cl':Cl (kcl n (js.flatMap (op1 v.s))):=by
   have ll:=mB p1;rw[p2] at ll
   have b:∀ c∈kcl n (js.flatMap (op1 v.s)),0<=c/\c<=12*10^9:=fun c hc=>by
    obtain⟨x,hx,rfl⟩:=Qt.mp hc
    have gx:Gc n x:=⟨p1 x hx,Qn (vM hx) (by rw[p2];exact l12),fun c hc=>by
     have:c∈js.flatMap (clm n):=by rw[<-p2];exact zKP hx hc
     obtain⟨k,hk,hc'⟩:=Ur.mp this
     exact(gk k hk).2.2 c hc'⟩
    exact gx.sum
   refine⟨fun c hc=>(b c hc).1,fun c hc=>by have:=(b c hc).2;omega,?_,by rw[cI];omega⟩
   rw[cI];refine Nat.pos_of_ne_zero fun z=>?_
   have e0:=Ue z;rw[e0,List.flatMap_nil] at p2;have o1:=mB ik;rw[<-p2,V4] at o1;have:=cl.lo
   rw[cI] at this;omega
  have a:=zX (q:=q) o cl' q0 (by rw[su];exact q1) (js.flatMap (op1 v.s)) [] rfl
  have b:=zX (q:=q) o cl q0 q1 js [] rfl;rw[V4,show(kcl n []).sum=0 from rfl] at a b;rw[eo,show dvl ([]:List Int)=[] from rfl,a,b,su];exact zDJ o q0 q1 js 0 (Xl 0) gk ⋯
 ·have eo:opw v.s js=js:=by unfold opw;rw[Jk fun z=>o (zOY.mp z)]
  rw[eo];by_cases wt:v=.even∨v=.lack
  ·have W:Wt ws (kcl n js):=by rcases wt with rfl | rfl<;>exact due
   have hp:∀ x∈ws,1<=x/\x<=10^6:=fun x hx=>⟨W.lo x hx,W.up x hx⟩
   have ne:ws≠[]:=fun z=>by
    have:=W.len
    rw[z,V4] at this;have:=cl.lo
    omega
   have W':Wt (dvl ws) (kcl n js):=⟨by unfold dvl;rw[Qf];exact W.len,fun x hx=>(yP hp x hx).1,fun x hx=>(yP hp x hx).2⟩
   have e:=yS (n:=n) (f:=FF v ws (kcl n js) q) (g:=FF v (dvl ws) (kcl n js) q) (h:=fun k=>k) (ks:=js) (i:=0) fun j k hj=>by
    obtain⟨j1,_⟩:=zFX (n:=n) hj;rw[Q2,zQH wt W W' cl (zAR hp ne).1 (fun x hx=>(xF ws 0).2 x hx) q0 q1 j1]
   rw[Y5] at e;exact e
  ·have ew:ws=[]:=by
    cases v with
    | half=>exact due
    | row=>exact absurd (.inl rfl) o
    | back=>exact absurd (.inr (.inl rfl)) o
    | part=>exact absurd (.inr (.inr rfl)) o
    | even=>exact absurd (.inl rfl) wt
    | lack=>exact absurd (.inr rfl) wt
   subst ew;rfl
def zKW:∀ {n:Nat} {d:D} {q:Rat},Gc n d->n<=8->0<=q->q<=((clm n d).sum:Rat)->SF n (pln n d) q=SF n d q
 | 0,_,_,g,_,_,_=>g.1.elim
 | n+1,d,q,g,hn,q0,q1=>by
  rcases g.1 with⟨c,rfl⟩ | ⟨w,ws,ks,rfl,hw,k0,k1,w1,hy,hk⟩
  ·rfl
  ·obtain⟨v,rfl⟩:=zCb hy.1
   have cl:=g.cl hk k0;have l12:(ks.flatMap (clm n)).length<=12:=g.2.1;have se:(kcl n ks).sum=(clm (n+1) (.tup [.str v.s,.tup (ws.map D.int),.tup ks])).sum:=mE ks;have due:v.due ws (kcl n ks):=zBt (by rw[cI];exact hy.2)
   have pk:∀ k∈ks,IsC n (pln n k)/\clm n (pln n k)=clm n k:=fun k hm=>(tK n 10 k (hk k hm) ⋯ ⋯ (Qn (vM hm) l12)).2
   have kc:kcl n (ks.map (pln n))=kcl n ks:=by
    unfold kcl;rw[Qw];exact Qy fun k hm=>by show(clm n (pln n k)).sum=_;rw[(pk k hm).2]
   have fmk:(ks.map (pln n)).flatMap (clm n)=ks.flatMap (clm n):=by
    rw[W4,Vy,Vy];congr 1
    exact Qy fun k hm=>(pk k hm).2
   rw[<-se] at q1;obtain⟨b1,b2⟩:=zQK due cl q0 q1
   have step:SF (n+1) (.tup [.str v.s,.tup (ws.map D.int),.tup ks]) q=SFL (SF n) (FF v ws (kcl n ks) q) (ks.map (pln n)) 0:=by
    rw[oB];refine(yS fun j k hj=>?_).symm
    obtain⟨j1,j2⟩:=zFX (n:=n) hj;have b:=b1 j j1;rw[j2] at b;rw[Q2];exact zKW (g.kid hk (Qg hj)) ⋯ b.1 b.2
   rw[step];show SF (n+1) (pl1 v.s (ws.map D.int) (ks.map (pln n))) q=_
   have lk:(ks.map (pln n)).length=ks.length:=Qf ..
   have ik:∀ k∈ks.map (pln n),IsC n k:=fun k hm=>by
    obtain⟨x,hx,rfl⟩:=Qt.mp hm;exact(pk x hx).1
   have gk:∀ k∈ks.map (pln n),Gc n k:=fun k hm=>by
    obtain⟨x,hx,rfl⟩:=Qt.mp hm;exact⟨(pk x hx).1,by rw[(pk x hx).2];exact(g.kid hk hx).2.1,by rw[(pk x hx).2];exact(g.kid hk hx).2.2⟩
   rw[<-fmk] at l12;rw[<-kc] at b2 due cl b1 q1 ⊢
   generalize ks.map (pln n)=js at *
   match js,lk with
   | [],lk=>rw[V4] at lk;omega
   | [k],_=>
    show SF (n+1) k q=SF n k (FF v ws (kcl n [k]) q 0)++[]
    have:FF v ws (kcl n [k]) q 0=q:=by
     rw[show(kcl n [k]).length=1 from rfl,show List.range 1=[0] from rfl,Ql,Vv,Qk,Vs] at b2;grind
    rw[this,Vn,zCC (ik k Qb) ⋯]
   | k::k'::r,_=>
    show SF (n+1) (.tup [.str v.s,.tup (dvD (ws.map D.int)),.tup (opw v.s (k::k'::r))]) q=_
    rw[yF,oB];exact zLd gk l12 due cl q0 q1
def zIS(Q:List Int)(i j:Nat):dep (bX (Q.map D.int) i j)<=50:=by
 have h:∀ l:List Int,depS (l.map D.int)<=1:=by
  intro l
  induction l with
  | nil=>simp[depS]
  | cons x l ih=>rw[Ql,depS,show dep (D.int x)=0 from rfl];omega
 have:=h Q
 unfold bX;simp only[dep,depS];omega
def zHr(v:Wy):v.con.con=v:=by cases v<;>rfl
def zKp{v:Wy}{ws cs:List Int}{i j m:Nat}{a b:Rat}(due:v.due ws cs)(hc:Cl cs)(hi:i<cs.length)(hj:j<cs.length)(za:Sz m a)(zb:Sz m b)(hm:m<=1000)(h:Rt2 v ws cs i j a b):Rt2 v.con ws cs i j (cR cs i-a) (cR cs j-b):=by
 obtain⟨s0,s1,M,f,al,f0,f1⟩:=h;have d2:=zCf due hi hj;have na:=hc.nn _ (Qg (aO hi));have nb:=hc.nn _ (Qg (aO hj));have ua:=hc.up _ (Qg (aO hi));have ub:=hc.up _ (Qg (aO hj))
 have c2:Cl [cs.getD i 0,cs.getD j 0]:=⟨fun c h=>by
   simp only[Qe,Q7,or_false] at h;rcases h with rfl | rfl<;>assumption,fun c h=>by
   simp only[Qe,Q7,or_false] at h;rcases h with rfl | rfl<;>assumption,by show 1<=2;decide,by show 2<=12;decide⟩
 have sm:=zCK (cs.getD i 0) (cs.getD j 0);have ca:cR cs i=((cs.getD i 0:Int):Rat):=rfl;have cb:cR cs j=((cs.getD j 0:Int):Rat):=rfl;have sc:=c2.sum;have e:(cR cs i-a)+(cR cs j-b)=((([cs.getD i 0,cs.getD j 0]:List Int).sum:Int):Rat)-(a+b):=by rw[sm,ca,cb];grind
 have zS:Sz 120 ((([cs.getD i 0,cs.getD j 0]:List Int).sum:Int):Rat):=⟨by show(([cs.getD i 0,cs.getD j 0]:List Int).sum).natAbs<2^120;omega,by show 1<2^120;decide⟩
 have zq:Sz 2500 (((([cs.getD i 0,cs.getD j 0]:List Int).sum:Int):Rat)-(a+b)):=by
  exact(zS.sub (za.add zb)).mono ⋯
 have s1':a+b<=((([cs.getD i 0,cs.getD j 0]:List Int).sum:Int):Rat):=by rw[sm,<-ca,<-cb];exact s1
 have q0:0<=((([cs.getD i 0,cs.getD j 0]:List Int).sum:Int):Rat)-(a+b):=by grind
 have q1:((([cs.getD i 0,cs.getD j 0]:List Int).sum:Int):Rat)-(a+b)<=((([cs.getD i 0,cs.getD j 0]:List Int).sum:Int):Rat):=by grind
 obtain⟨g,_,al2⟩:=pU (w:=v.con) (ws:=two ws i j) (cs:=[cs.getD i 0,cs.getD j 0]) (wd:=.lst ((two ws i j).map D.int)) (cd:=.lst ([cs.getD i 0,cs.getD j 0].map D.int)) (.inl rfl) (.inl rfl) (m:=2500) ∅ (zCV d2) c2 ⟨q0,q1,zq⟩
 have g0:=zKI d2 c2 s0 s1' al al2 (i:=0) (by show 0<2;decide)
 have g1:=zKI d2 c2 s0 s1' al al2 (i:=1) (by show 1<2;decide)
 unfold Rt2;rw[e];refine⟨q0,by rw[ca,cb,<-sm];exact q1,_,g,al2,?_,?_⟩
 ·rw[g0,f0];rfl
 ·rw[g1,f1];rfl
def zJa{cs:List Int}{xs:List Rat}{m:Nat}:(lkl cs xs).take m=lkl (cs.take m) (xs.take m):=by unfold lkl;rw[List.take_zipWith]
def zJQ{cs:List Int}{xs:List Rat}{m:Nat}:(lkl cs xs).drop m=lkl (cs.drop m) (xs.drop m):=by unfold lkl;rw[List.drop_zipWith]
def zCI{cs:List Int}{xs:List Rat}(h:xs.length=cs.length):(lkl cs xs).length=cs.length:=by unfold lkl;rw[List.length_zipWith];omega
def zCQ:∀ {cs:List Int} {xs:List Rat},xs.length=cs.length->(lkl cs xs).sum=((cs.sum:Int):Rat)-xs.sum
 | [],[],_=>by unfold lkl;simp;grind
 | c::cs,x::xs,h=>by
  have:=zCQ (cs:=cs) (xs:=xs) (by simpa using h)
  have e:lkl (c::cs) (x::xs)=((c:Rat)-x)::lkl cs xs:=rfl;rw[e,Qk,this,Qk,Qk,Qv];grind
def zLc{cs:List Int}{xs:List Rat}{k:Nat}(h:xs.length=cs.length)(hk:k<cs.length):(lkl cs xs).getD k 0=cR cs k-xs.getD k 0:=by
 have h1:(lkl cs xs)[k]?=some (((cs.getD k 0:Int):Rat)-xs.getD k 0):=by
  unfold lkl
  have ex:xs[k]?=some (xs.getD k 0):=by
   rw[Qq,Qj ⋯];rfl
  rw[List.getElem?_zipWith,aO hk,ex]
 rw[Qq,h1];rfl
def zCL{n:Nat}{h:D->D}:∀ {ks:List D} {xs:List Rat} {l:Nat} {k:D},(∀ k∈ks,clm n (h k)=clm n k)->xs.length=(ks.flatMap (clm n)).length->ks[l]?=some k->(pK (fun k=>(clm n k).length) (ks.map h) (lkl (ks.flatMap (clm n)) xs)).getD l []=lkl (clm n k) ((pK (fun k=>(clm n k).length) ks xs).getD l [])/\((pK (fun k=>(clm n k).length) ks xs).getD l []).length=(clm n k).length
 | [],_,l,k,_,_,hl=>by cases l<;>cases hl
 | k0::r,xs,l,k,hh,hx,hl=>by
  rw[Q8,Qi] at hx;have e0:=hh k0 (Qb ..);rw[Ql,pK,pK,Q8];simp only[e0]
  cases l with
  | zero=>
   cases hl;refine⟨?_,by show(xs.take _).length=_;rw[Xb];omega⟩
   show(lkl _ xs).take _=lkl _ (xs.take _)
   rw[zJa,List.take_append_of_le_length (Qd _),V6]
  | succ l=>
   have:=zCL (h:=h) (ks:=r) (xs:=xs.drop (clm n k0).length) (l:=l) (k:=k) (fun k hk=>hh k (Qc _ hk)) (by rw[Vo];omega) (by simpa using hl)
   refine⟨?_,this.2⟩
   show(pK _ (r.map h) ((lkl _ xs).drop _)).getD l []=_
   rw[zJQ,List.drop_append_of_le_length (Qd _),List.drop_length,Yt];exact this.1
def zGx{n:Nat}{ks:List D}(h:∀ k∈ks,clm n (con n k)=clm n k):kcl n (ks.map (con n))=kcl n ks:=by
 unfold kcl;rw[Qw];exact Qy fun k hk=>by show(clm n (con n k)).sum=_;rw[h k hk]
def zKT{n:Nat}{ks:List D}{xs:List Rat}(h:∀ k∈ks,clm n (con n k)=clm n k)(hx:xs.length=(ks.flatMap (clm n)).length){l:Nat}(hl:l<ks.length):sK n (ks.map (con n)) (lkl (ks.flatMap (clm n)) xs) l=cR (kcl n ks) l-sK n ks xs l:=by
 have e:ks[l]?=some ks[l]:=Qj hl;obtain⟨h1,h2⟩:=zCL (n:=n) (h:=con n) h hx e;unfold sK pcs;rw[h1,zCQ h2,(tP (n:=n) e).2]
def zMK{n b i j:Nat}{v:Wy}{ws:List Int}{ks:List D}{xs:List Rat}(h:∀ k∈ks,clm n (con n k)=clm n k)(due:v.due ws (kcl n ks))(hc:Cl (kcl n ks))(am:Am b xs)(hb:b<=300)(hx:xs.length=(ks.flatMap (clm n)).length)(hi:i<ks.length)(hj:j<ks.length):Rt3 n v ws ks xs i j ↔ Rt3 n v.con ws (ks.map (con n)) (lkl (ks.flatMap (clm n)) xs) i j:=by
 have kl:(kcl n ks).length=ks.length:=cI n ks;have z:∀ l,Sz (41+b) (sK n ks xs l):=fun l=>(am.pc l).sum.1
 have zc:∀ l,l<ks.length->Sz 500 (cR (kcl n ks) l-sK n ks xs l):=fun l hl=>by
  have c1:=hc.nn _ (Qg (aO (show l<(kcl n ks).length by omega)))
  have c2:=hc.up _ (Qg (aO (show l<(kcl n ks).length by omega)))
  have zS:Sz 120 (cR (kcl n ks) l):=⟨by show((kcl n ks).getD l 0).natAbs<2^120;omega,by show 1<2^120;decide⟩
  exact(zS.sub (z l)).mono ⋯
 unfold Rt3;rw[zGx h,zKT h hx hi,zKT h hx hj];constructor
 ·exact zKp due hc ⋯ ⋯ (z i) (z j) ⋯
 ·intro r
  have:=zKp (zCV due) hc ⋯ ⋯ (zc i hi) (zc j hj) ∅ r
  have e:∀ x y:Rat,x-(x-y)=y:=by intro x y;grind
  rw[zHr,e,e] at this;exact this
def zLf{n b:Nat}{kd kd':Bool}{v:Wy}{ws:List Int}{ks P:List D}{xs:List Rat}(g:Gc (n+1) (.tup [.str v.s,.tup (ws.map D.int),.tup ks]))(g':Gc (n+1) (.tup [.str v.con.s,.tup (ws.map D.int),.tup (ks.map (con n))]))(hn:n<=8)(hk:∀ k∈ks,IsC n k)(hk':∀ k∈ks.map (con n),IsC n k)(k0:0<ks.length)(h:∀ k∈ks,clm n (con n k)=clm n k)(due:v.due ws (kcl n ks))(am:Am b xs)(am':Am b (lkl (ks.flatMap (clm n)) xs))(hb:b<=300)(hx:xs.length=(ks.flatMap (clm n)).length):
  ∃ r,cZ [.tup [.str v.s,.tup (ws.map D.int),.tup ks],mkA kd xs,.tup P]=.ok (.v r)/\cZ [.tup [.str v.con.s,.tup (ws.map D.int),.tup (ks.map (con n))],mkA kd' (lkl (ks.flatMap (clm n)) xs),.tup P]=.ok (.v r)/\(r=.non∨∃ i j:Nat,r=bX P i j):=by
 have cl:=g.cl hk k0;have kl':(ks.map (con n)).length=ks.length:=Qf ..;have eq:=fun(i j:Nat) (hi:i<ks.length) (hj:j<ks.length)=>zMK (i:=i) (j:=j) h due cl am hb hx hi hj
 have due':v.con.due ws (kcl n (ks.map (con n))):=by rw[zGx h];exact zCV due
 rcases rK (kd:=kd) (P:=P) g hn hk k0 due am ⋯ with⟨e1,r1⟩ | ⟨i,j,ij,jk,e1,n1,m1⟩<;>rcases rK (kd:=kd') (P:=P) g' hn hk' ⋯ due' am' ⋯ with⟨e2,r2⟩ | ⟨i',j',ij',jk',e2,n2,m2⟩
 ·exact⟨.non,e1,e2,.inl rfl⟩
 ·rw[kl'] at jk'
  exact absurd ((eq i' j' ⋯ jk').mp (r1 i' j' ij' jk')) n2
 ·rw[kl'] at r2
  exact absurd ((eq i j ⋯ jk).mpr (r2 i j ij jk)) n1
 ·rw[kl'] at jk' m2
  have no1:¬ (i' < i∨i'=i/\j' < j):=fun z=>n2 ((eq i' j' ⋯ jk').mp (m1 i' j' ij' jk' z))
  have no2:¬ (i<i'∨i=i'/\j<j'):=fun z=>n1 ((eq i j ⋯ jk).mpr (m2 i j ij jk z))
  have ei:i=i':=⋯
  have ej:j=j':=⋯
  subst ei;subst ej;exact⟨_,e1,e2,.inr ⟨i,j,rfl⟩⟩
def zJZ(r:D):Prop:=r=.non∨∃(Q:List D)(i j:Nat),r=bX Q i j
def lN(res:Nat->D):Nat->D
 | 0=>.non
 | m+1=>if isNon (lN res m) then res m else lN res m
def qC{res:Nat->D}:∀ {m:Nat},(∀ l,l<m->res l=.non)->lN res m=.non
 | 0,_=>rfl
 | m+1,h=>by
  rw[lN,qC fun l hl=>h l ⋯];exact h m (X9 m)
def zBl{res:Nat->D}{l:Nat}(hn:isNon (res l)=false)(h:∀ i,i<l->res i=.non):∀ {m:Nat},l<m->lN res m=res l
 | 0,hl=>absurd hl (X1 _)
 | m+1,hl=>by
  rw[lN];rcases Xn (show l<=m by omega) with z | z
  ·rw[zBl hn h z,hn]
   rfl
  ·subst z
   rw[qC h];rfl
def wU{kd:Bool}{n N b:Nat}{v:Wy}{ws:List Int}{ks:List D}{xs:List Rat}{P:List Int}{ro:D}{res:Nat->D}(hn:n<=8)(hk:∀ k∈ks,IsC n k)(l12:(ks.flatMap (clm n)).length<=12)(hP:P.length+(n+1)<=1000)
  (eo:cZ [.tup [.str v.s,.tup (ws.map D.int),.tup ks],mkA kd xs,.tup (P.map D.int)]=.ok (.v ro)) (ho:zJZ ro)
  (hr:∀ l k,ks[l]?=some k->aM N [k,mkA kd ((pcs n ks xs).getD l []),.tup ((P++[(l:Int)]).map D.int)]=.ok (.v (res l))/\zJZ (res l)):
  aM (N+1) [.tup [.str v.s,.tup (ws.map D.int),.tup ks],mkA kd xs,.tup (P.map D.int)]=.ok (.v (if isNon ro then lN res ks.length else ro)):=by
 have pl:(pcs n ks xs).length=ks.length:=kW ks xs;have kl:=mB hk;show bF (aM N) _=_
 rcases ho with rfl | ⟨Q,i,j,rfl⟩
 rotate_left
 ·show _=Res.ok (Rt.v (bX Q i j))
  unfold bF;erw[dW (jH v),eo];symm;unfold bX;symm
 generalize hd:D.tup [.str v.s,.tup (ws.map D.int),.tup ks]=d at *
 have lp:=rE (g:=zAd (eE (gName 5) (eE (gName 6) xK))) (b:=eH (aM N)) (ds:=iI 0 ks) (ρ:=[.val d,.val (mkA kd xs),.val (.tup (P.map D.int)),.val .non,.val (.lst ((pcs n ks xs).map (mkA kd))),.un,.un])
  (fun l ρ=>∃ a3 a5 a6,ρ=[.val d,.val (mkA kd xs),.val (.tup (P.map D.int)),a3,.val (.lst ((pcs n ks xs).map (mkA kd))),a5,a6]/\∀ l',l' < l->res l'=.non)
  (fun l r=>r=.v (res l)/\isNon (res l)=false/\∀ l',l' < l->res l'=.non) ⟨_,_,_,rfl,fun l' h=>absurd h (X1 _)⟩ (by
  rintro l e ρ he ⟨a3,a5,a6,rfl,hp⟩
  obtain⟨k,hk',rfl⟩:=oR he;have hl:l<ks.length:=(Ve.mp hk').1;rw[Q2]
  have ap:rA (.tup (P.map D.int)) (.tup [.int (l:Int)])=.ok (.tup ((P++[(l:Int)]).map D.int)):=by
   rw[Q4];exact Jj (by rw[Qf];show P.length+1<=16777216;omega)
  obtain⟨er,ip⟩:=hr l k hk';rcases ip with z | ⟨Q,i,j,z⟩
  ·rw[z] at er
   refine .inl ⟨[.val d,.val (mkA kd xs),.val (.tup (P.map D.int)),a3,.val (.lst ((pcs n ks xs).map (mkA kd))),.val (.int (l:Int)),.val k],[.val d,.val (mkA kd xs),.val (.tup (P.map D.int)),.val .non,.val (.lst ((pcs n ks xs).map (mkA kd))),.val (.int (l:Int)),.val k],?_,?_,_,_,_,rfl,fun l' h1=>?_⟩
   ·symm
   ·symm
    rw[zEY ⋯];erw[ap,er];symm
   ·rcases Xn (show l'<=l by omega) with y | y
    ·exact hp l' y
    ·subst y;exact z
  ·rw[z] at er
   refine .inr ⟨[.val d,.val (mkA kd xs),.val (.tup (P.map D.int)),a3,.val (.lst ((pcs n ks xs).map (mkA kd))),.val (.int (l:Int)),.val k],.v (bX Q i j),?_,?_,by rw[z],by rw[z];rfl,hp⟩
   ·symm
   ·symm
    rw[zEY ⋯];erw[ap,er];symm;unfold bX
    symm)
 have head:bF (aM N) [d,mkA kd xs,.tup (P.map D.int)]=((loop (zAd (eE (gName 5) (eE (gName 6) xK))) (eH (aM N)) (iI 0 ks) [.val d,.val (mkA kd xs),.val (.tup (P.map D.int)),.val .non,.val (.lst ((pcs n ks xs).map (mkA kd))),.un,.un]).bind (zDb (gX (aM N)))).bind fin:=by
  unfold bF;symm;rw[<-hd,dW (jH v),hd];erw[eo];symm;rw[<-hd,uB (jH v) hn hk l12,hd];symm;rw[<-hd,cO (jH v),hd];symm;rfl
 rw[head];show _=Res.ok (Rt.v (lN res ks.length))
 rcases lp with⟨ρ',e',a3,a5,a6,rfl,hp⟩ | ⟨l,r,hl,e',rfl,h1,h2⟩
 ·rw[e',qC fun l hl=>hp l (by rw[iW];exact hl)]
  rfl
 ·rw[iW] at hl
  rw[e',zBl h1 h2 hl];rfl
def xA{res:Nat->D}(h:∀ l,zJZ (res l)):∀ m,zJZ (lN res m)
 | 0=>.inl rfl
 | m+1=>by
  rw[lN]
  cases isNon (lN res m) with
  | true=>exact h m
  | false=>exact xA h m
def zEg{n:Nat}{d:D}(g:Gc n d)(h8:n<=8):Gc n (con n d)/\clm n (con n d)=clm n d:=by
 obtain⟨_,a,b⟩:=qO n n d g.1 (Qd _) h8 g.2.1;exact⟨⟨a,by rw[b];exact g.2.1,by rw[b];exact g.2.2⟩,b⟩
def zJW{n:Nat}{v:Wy}{a:D}{ks:List D}:con (n+1) (.tup [.str v.s,a,.tup ks])=.tup [.str v.con.s,a,.tup (ks.map (con n))]:=by
 show D.tup [.str (ctr v.s),a,.tup (ks.map (con n))]=_
 rw[zRf]
def uJ{kd kd':Bool}{b:Nat}(hb:b<=300):∀(n N:Nat)(d:D)(xs:List Rat)(P:List Int),Gc n d->n<=N->n<=8->Am b xs->Am b (lkl (clm n d) xs)->xs.length=(clm n d).length->P.length+n<=1000->
  ∃ r,aM N [d,mkA kd xs,.tup (P.map D.int)]=.ok (.v r)/\aM N [con n d,mkA kd' (lkl (clm n d) xs),.tup (P.map D.int)]=.ok (.v r)/\zJZ r
 | 0,_,_,_,_,g,_,_,_,_,_,_=>g.1.elim
 | n+1,0,_,_,_,_,h,_,_,_,_,_=>absurd h ⋯
 | n+1,N+1,d,xs,P,g,hN,h8,am,am',hx,hP=>by
  rcases g.1 with⟨c,rfl⟩ | ⟨w,ws,ks,rfl,hw,k0,k1,w1,hy,hk⟩
  ·have bt:∀ A:D,aM (N+1) [.tup [.str "boat", .int c],A,.tup (P.map D.int)]=.ok (.v .non):=fun A=>by
    show bF (aM N) _=_
    unfold bF;erw[fW];symm
   exact⟨.non,bt _,bt _,.inl rfl⟩
  ·obtain⟨v,rfl⟩:=zCb hy.1
   have due:v.due ws (kcl n ks):=zBt (by rw[cI];exact hy.2)
   have l12:(ks.flatMap (clm n)).length<=12:=g.2.1;have gk:=fun k (mk:k∈ks)=>g.kid (n:=n) hk mk
   have hcl:∀ k∈ks,clm n (con n k)=clm n k:=fun k hm=>(zEg (gk k hm) ⋯).2
   have hk':∀ k∈ks.map (con n),IsC n k:=fun k hm=>by
    obtain⟨y,hy',rfl⟩:=Qt.mp hm;exact(zEg (gk y hy') ⋯).1.1
   have g':=(zEg g h8).1;rw[zJW] at g' ⊢
   have ec:clm (n+1) (.tup [.str v.s,.tup (ws.map D.int),.tup ks])=ks.flatMap (clm n):=rfl;rw[ec] at am' hx ⊢
   obtain⟨ro,eo,eo',ho⟩:=zLf (kd:=kd) (kd':=kd') (P:=P.map D.int) g g' ⋯ hk hk' k0 hcl due am am' hb hx
   have ho':zJZ ro:=by
    rcases ho with z | ⟨i,j,z⟩
    ·exact .inl z
    ·exact .inr ⟨_,i,j,z⟩
   have ih:∀ l:Nat,∃ r:D,zJZ r/\∀ k,ks[l]?=some k->aM N [k,mkA kd ((pcs n ks xs).getD l []),.tup ((P++[(l:Int)]).map D.int)]=.ok (.v r)/\aM N [con n k,mkA kd' ((pcs n (ks.map (con n)) (lkl (ks.flatMap (clm n)) xs)).getD l []),.tup ((P++[(l:Int)]).map D.int)]=.ok (.v r):=fun l=>by
    cases e:ks[l]? with
    | none=>exact⟨.non,.inl rfl,fun k h=>by cases h⟩
    | some k=>
     obtain⟨c1,c2⟩:=zCL (n:=n) (h:=con n) hcl hx e;have ap:=am'.pc (n:=n) (ks:=ks.map (con n)) l;have c1':(pcs n (ks.map (con n)) (lkl (ks.flatMap (clm n)) xs)).getD l []=lkl (clm n k) ((pcs n ks xs).getD l []):=c1;rw[c1'] at ap;obtain⟨r,e1,e2,h3⟩:=uJ hb n N k ((pcs n ks xs).getD l []) (P++[(l:Int)]) (gk k (Qg e)) ⋯ ⋯ (am.pc l) ap c2 (by rw[Qi,X7];omega)
     refine⟨r,h3,fun k' hk'=>?_⟩
     cases hk'
     rw[c1'];exact⟨e1,e2⟩
   obtain⟨res,hres⟩:=Classical.axiomOfChoice ih;have f1:=wU (kd:=kd) (b:=b) (N:=N) (res:=res) ⋯ hk l12 hP eo ho' (fun l k e=>⟨((hres l).2 k e).1,(hres l).1⟩)
   have f2:=wU (kd:=kd') (b:=b) (N:=N) (res:=res) (v:=v.con) (ks:=ks.map (con n)) (xs:=lkl (ks.flatMap (clm n)) xs) ⋯ hk' (by rw[zGr hcl];exact l12) hP eo' ho' (fun l k e=>by
    rw[Qr] at e
    cases e3:ks[l]? with
    | none=>rw[e3] at e;cases e
    | some k0=>
     rw[e3] at e;cases e
     exact⟨((hres l).2 k0 e3).2,(hres l).1⟩)
   rw[Qf] at f2;refine⟨_,f1,f2,?_⟩
   cases isNon ro with
   | true=>exact xA (fun l=>(hres l).1) _
   | false=>exact ho'
def zEa{n b:Nat}{d:D}{kd:Bool}{xs:List Rat}(g:Gc n d)(hn:n<=9)(am:Am b xs)(hb:b<=1200)(hl:xs.length=(clm n d).length):
  (∃ k:Nat,aP [d,mkA kd xs]=.ok (.v (.tup [.str "over", .int (k:Int)]))/\k<(clm n d).length/\¬ (0<=xs.getD k 0/\xs.getD k 0<=cR (clm n d) k)/\∀ i,i<k->0<=xs.getD i 0/\xs.getD i 0<=cR (clm n d) i)∨
  (Wi (clm n d) xs/\∀ r,zJZ r->aM 10 [d,mkA kd xs,.tup []]=.ok (.v r)->aP [d,mkA kd xs]=.ok (.v (if isNon r then .tup [.str "catch", dq xs.sum] else r))):=by
 have l12:=g.2.1
 have head:aP [d,mkA kd xs]=((loop (zAd (eE (gName 2) (eE (gName 3) xK))) eI (iI 0 ((clm n d).map D.int)) [.val d,.val (mkA kd xs),.un,.un,.un]).bind (zDb dL)).bind fin:=by
  unfold aP;symm;rw[zDw g ⋯,Jj hl];erw[qP g ⋯];symm
 rw[head]
 rcases rE (g:=zAd (eE (gName 2) (eE (gName 3) xK))) (b:=eI) (ds:=iI 0 ((clm n d).map D.int)) (ρ:=[.val d,.val (mkA kd xs),.un,.un,.un])
  (fun l ρ=>∃ a2 a3,ρ=[.val d,.val (mkA kd xs),a2,a3,.un]/\∀ i,i<l->0<=xs.getD i 0/\xs.getD i 0<=cR (clm n d) i)
  (fun l r=>r=.v (.tup [.str "over", .int (l:Int)])/\¬ (0<=xs.getD l 0/\xs.getD l 0<=cR (clm n d) l)/\∀ i,i<l->0<=xs.getD i 0/\xs.getD i 0<=cR (clm n d) i) ⟨_,_,rfl,fun i h=>absurd h (X1 _)⟩ (by
  rintro l e ρ he ⟨a2,a3,rfl,hp⟩
  obtain⟨a,ha,rfl⟩:=oR he;have hl':l<(clm n d).length:=by have:=(Ve.mp ha).1;rwa [Qf] at this
  rw[Qr,aO hl'] at ha;cases ha;have cb:=g.2.2 _ (Qg (aO hl'));rw[Q2]
  have mx:xs.getD l 0∈xs:=by
   have h:l<xs.length:=⋯
   rw[Qq,Qj h];exact Xh h
  have zx:=am.each mx;have io:=tJ zx (n:=34) (l:=(((clm n d).getD l 0:Int):Rat)) ⟨by show((clm n d).getD l 0).natAbs<2^34;omega,by show 1<2^34;decide⟩ ⋯
  by_cases c:0<=xs.getD l 0/\xs.getD l 0<=cR (clm n d) l
  ·refine .inl ⟨[.val d,.val (mkA kd xs),.val (.int (l:Int)),.val (.int ((clm n d).getD l 0)),.un],[.val d,.val (mkA kd xs),.val (.int (l:Int)),.val (.int ((clm n d).getD l 0)),.un],?_,?_,_,_,rfl,fun i hi=>?_⟩
   ·symm
   ·symm
    rw[zBk ⋯];erw[cJ];symm;rw[io,Ji (Vb.mpr c.1),Ji (show ¬ (((clm n d).getD l 0:Int):Rat)<xs.getD l 0 from Vb.mpr c.2)];symm
   ·rcases Xn (show i<=l by omega) with z | z
    ·exact hp i z
    ·rw[z];exact c
  ·refine .inr ⟨[.val d,.val (mkA kd xs),.val (.int (l:Int)),.val (.int ((clm n d).getD l 0)),.un],_,?_,?_,rfl,c,hp⟩
   ·symm
   ·have bad:(decide (xs.getD l 0<0) || decide ((((clm n d).getD l 0:Int):Rat)<xs.getD l 0))=true:=by
     rw[Xc,decide_eq_true_iff,decide_eq_true_iff];by_cases q:0<=xs.getD l 0
     ·exact .inr (Vz.mp fun z=>c ⟨q,z⟩)
     ·exact .inl (Vz.mp q)
    erw[zBk ⋯,cJ];symm;rw[io,bad]
    symm) with⟨ρ',e',a2,a3,rfl,hp⟩ | ⟨l,r,hll,e',rfl,h1,h2⟩
 ·rw[e']
  rw[iW,Qf] at hp;have wi:Wi (clm n d) xs:=hp;refine .inr ⟨wi,fun r ip ef=>?_⟩
  show(dL _).bind fin=_
  rcases ip with rfl | ⟨Q,i,j,rfl⟩
  ·symm
   rw[ef];erw[am.tot ⋯];symm
  ·show _=Res.ok (Rt.v (bX Q i j))
   erw[ef];unfold bX;symm
 ·rw[e']
  rw[iW,Qf] at hll;exact .inl ⟨l,rfl,hll,h1,h2⟩
def zId{kd kd':Bool}{b:Nat}{d:D}{xs:List Rat}(hb:b<=300)(g:Gc 8 d)(am:Am b xs)(am':Am b (lkl (clm 8 d) xs))(lx:xs.length=(clm 8 d).length):
  (∃ k:Nat,aP [d,mkA kd xs]=.ok (.v (.tup [.str "over", .int (k:Int)]))/\aP [con 8 d,mkA kd' (lkl (clm 8 d) xs)]=.ok (.v (.tup [.str "over", .int (k:Int)])))∨
  (∃(Q:List D)(i j:Nat),aP [d,mkA kd xs]=.ok (.v (bX Q i j))/\aP [con 8 d,mkA kd' (lkl (clm 8 d) xs)]=.ok (.v (bX Q i j)))∨
  (aP [d,mkA kd xs]=.ok (.v (.tup [.str "catch", dq xs.sum]))/\aP [con 8 d,mkA kd' (lkl (clm 8 d) xs)]=.ok (.v (.tup [.str "catch", dq (((clm 8 d).sum:Rat)-xs.sum)]))):=by
 obtain⟨g',ec⟩:=zEg g (Qd _);have ly:=zCI lx
 have pt:∀ i,i<(clm 8 d).length->((0<=(lkl (clm 8 d) xs).getD i 0/\(lkl (clm 8 d) xs).getD i 0<=cR (clm 8 d) i) ↔ (0<=xs.getD i 0/\xs.getD i 0<=cR (clm 8 d) i)):=fun i hi=>by
  rw[zLc lx hi];constructor<;>rintro⟨h1,h2⟩<;>constructor<;>grind
 have f2:=zEa (kd:=kd') (xs:=lkl (clm 8 d) xs) g' ∅ am' ⋯ (by rw[ec];exact ly)
 rw[ec] at f2;rcases zEa (kd:=kd) g ∅ am ⋯ lx with⟨k,e1,hk,n1,m1⟩ | ⟨w1,h1⟩<;>rcases f2 with⟨k',e2,hk',n2,m2⟩ | ⟨w2,h2⟩
 ·have:k=k':=by
   rcases W3 k k' with z | z | z
   ·exact absurd ((pt k hk).mp (m2 k z)) n1
   ·exact z
   ·exact absurd ((pt k' hk').mpr (m1 k' z)) n2
  subst this;exact .inl ⟨k,e1,e2⟩
 ·exact absurd ((pt k hk).mp (w2 k hk)) n1
 ·exact absurd ((pt k' hk').mpr (w1 k' hk')) n2
 ·obtain⟨r,r1,r2,ip⟩:=uJ (kd:=kd) (kd':=kd') hb 8 10 d xs [] g ∅ (Qd _) am am' lx ∅
  have e1:=h1 r ip r1;have e2:=h2 r ip r2;rw[zCQ lx] at e2;rcases ip with rfl | ⟨Q,i,j,rfl⟩
  ·exact .inr (.inr ⟨e1,e2⟩)
  ·exact .inr (.inl ⟨Q,i,j,e1,e2⟩)
def zMV{d:D}{xs:List Rat}(g:Gc 8 d)(am:Am 260 xs)(lx:xs.length=(clm 8 d).length)(bd:∀ x∈xs,-((2^35:Int):Rat)<=x/\x<=((2^35:Int):Rat)):Am 260 (lkl (clm 8 d) xs):=by
 obtain⟨B,b0,b1,b2⟩:=am.dn
 have mem:∀ y∈lkl (clm 8 d) xs,∃(c:Int)(x:Rat),c∈clm 8 d/\x∈xs/\y=(c:Rat)-x:=by
  have:∀(cs:List Int)(xs:List Rat),∀ y∈lkl cs xs,∃(c:Int)(x:Rat),c∈cs/\x∈xs/\y=(c:Rat)-x:=by
   intro cs
   induction cs with
   | nil=>intro xs y hy;unfold lkl at hy;simp at hy
   | cons c cs ih=>
    intro xs y hy
    cases xs with
    | nil=>unfold lkl at hy;simp at hy
    | cons x xs=>
     have e:lkl (c::cs) (x::xs)=((c:Rat)-x)::lkl cs xs:=rfl;rw[e] at hy;rcases Qe.mp hy with rfl | hy
     ·exact⟨c,x,Qb ..,Qb ..,rfl⟩
     ·obtain⟨c',x',h1,h2,h3⟩:=ih xs y hy
      exact⟨c',x',Qc _ h1,Qc _ h2,h3⟩
  exact this _ _
 refine⟨by rw[zCI lx];exact g.2.1,⟨B,b0,b1,fun y hy=>?_⟩,fun y hy=>?_⟩
 ·obtain⟨c,x,hc,hx,rfl⟩:=mem y hy
  obtain⟨t,ht⟩:=b2 x hx;refine⟨c*B-t,?_⟩
  rw[Uo,Vm,<-ht];grind
 ·obtain⟨c,x,hc,hx,rfl⟩:=mem y hy
  have cb:=g.2.2 c hc;have h:=bd x hx;have c0:((0:Int):Rat)<=(c:Rat):=Q5.mpr cb.1;have c1:(c:Rat)<=((10^9:Int):Rat):=Q5.mpr cb.2;have up:((10^9:Int):Rat)+((2^35:Int):Rat)<=((2^36:Int):Rat):=by rw[<-Qv];exact Q5.mpr ∅
  have z0:((0:Int):Rat)=0:=rfl;have p0:((0:Int):Rat)<=((10^9:Int):Rat):=Q5.mpr ∅
  generalize ((10^9:Int):Rat)=A at *;generalize ((2^35:Int):Rat)=B' at *;generalize ((2^36:Int):Rat)=C at *;constructor<;>grind
def zIf{d:D}(g:Gc 8 d):Gc 8 (pln 8 d)/\clm 8 (pln 8 d)=clm 8 d:=by
 obtain⟨_,a,b⟩:=tK 8 8 d g.1 (Qd _) (Qd _) g.2.1;exact⟨⟨a,by rw[b];exact g.2.1,by rw[b];exact g.2.2⟩,b⟩
def zOo{d:D}{q:Rat}{xs:List Rat}{m:Nat}(g:Gc 8 d)(q0:0<=q)(q1:q<=((clm 8 d).sum:Rat))(zq:Sz m q)(hm:m+34*8<=2000):Sh 8 d q xs ↔ Sh 8 (pln 8 d) q xs:=by
 obtain⟨gp,ec⟩:=zIf g;have e:=zKW g (Qd _) q0 q1;have q1':q<=((clm 8 (pln 8 d)).sum:Rat):=by rw[ec];exact q1
 constructor
 ·intro h
  obtain⟨ys,_,sy⟩:=zM (m:=m) gp ∅ q0 q1' (by have:=zq.2;exact_mod_cast this) hm
  rw[zGM g h q0 q1,<-e,<-zGM gp sy q0 q1'];exact sy
 ·intro h
  obtain⟨ys,_,sy⟩:=zM (m:=m) g ∅ q0 q1 (by have:=zq.2;exact_mod_cast this) hm
  rw[zGM gp h q0 q1',e,<-zGM g sy q0 q1];exact sy
def zKD{d:D}{xs:List Rat}(g:Gc 8 d)(am:Am 260 xs)(lx:xs.length=(clm 8 d).length)(wi:Wi (clm 8 d) xs):AR 8 d xs ↔ AR 8 (pln 8 d) xs:=by
 obtain⟨gp,ec⟩:=zIf g;have a2:A2 Bc xs (clm 8 d):=zPs lx fun i hi=>wi i hi
 have bs:=zJC a2;have sp:=zOo (xs:=xs) g bs.1 bs.2 am.sum.1 ∅
 constructor
 ·intro ar
  exact zF (b:=260) ∅ ∅ gp (sp.mp (zCF (b:=260) ∅ ∅ g ar a2 am)) bs.1 (by rw[ec];exact bs.2) am
 ·intro ar
  exact zF (b:=260) ∅ ∅ g (sp.mpr (zCF (b:=260) ∅ ∅ gp ar (by rw[ec];exact a2) am)) bs.1 bs.2 am
def Tag(t:D):Prop:=(∃ k:Nat,t=.tup [.str "over", .int (k:Int)])∨∃ q:Rat,t=.tup [.str "catch", dq q]
def tY{kd kd':Bool}{d:D}{xs:List Rat}{told:D}(g:Gc 8 d)(am:Am 260 xs)(lx:xs.length=(clm 8 d).length)(e:aP [d,mkA kd xs]=.ok (.v told)):
  dep told<=50/\∃ tp,aP [pln 8 d,mkA kd' xs]=.ok (.v tp)/\((tp=told/\Tag told)∨((∃(Q:List Int)(i j:Nat),told=bX (Q.map D.int) i j)/\∃(Q:List Int)(i j:Nat),tp=bX (Q.map D.int) i j)):=by
 obtain⟨gp,ec⟩:=zIf g;have f2:=zIj (kd:=kd') (xs:=xs) gp ∅ am ∅ (by rw[ec];exact lx)
 rw[ec] at f2
 have inj:∀ t,aP [d,mkA kd xs]=.ok (.v t)->told=t:=fun t h=>by
  rw[e] at h;injection h with h
  injection h
 rcases zIj (kd:=kd) g ∅ am ∅ lx with⟨k,e1,hk,n1,m1⟩ | ⟨Q,i,j,e1,nr,w1⟩ | ⟨e1,ar,w1⟩
 ·have:=inj _ e1
  subst this;refine⟨by simp[dep,depS],?_⟩
  rcases f2 with⟨k',e2,hk',n2,m2⟩ | ⟨_,_,_,_,_,w2⟩ | ⟨_,_,w2⟩
  ·have:k=k':=by
    rcases W3 k k' with z | z | z
    ·exact absurd (m2 k z) n1
    ·exact z
    ·exact absurd (m1 k' z) n2
   subst this;exact⟨_,e2,.inl ⟨rfl,.inl ⟨k,rfl⟩⟩⟩
  ·exact absurd (w2 k hk) n1
  ·exact absurd (w2 k hk) n1
 ·have:=inj _ e1
  subst this;refine⟨zIS Q i j,?_⟩
  rcases f2 with⟨k',e2,hk',n2,m2⟩ | ⟨Q',i',j',e2,_,w2⟩ | ⟨_,ar,w2⟩
  ·exact absurd (w1 k' hk') n2
  ·exact⟨_,e2,.inr ⟨⟨Q,i,j,rfl⟩,Q',i',j',rfl⟩⟩
  ·exact absurd ((zKD g am lx w1).mpr ar) nr
 ·have:=inj _ e1
  subst this;refine⟨by simp[dep,depS,dep_dq],?_⟩
  rcases f2 with⟨k',e2,hk',n2,m2⟩ | ⟨_,_,_,_,nr,w2⟩ | ⟨e2,_,w2⟩
  ·exact absurd (w1 k' hk') n2
  ·exact absurd ((zKD g am lx w1).mp ar) nr
  ·exact⟨_,e2,.inl ⟨rfl,.inr ⟨_,rfl⟩⟩⟩
def zNZ{cs:List Int}{xs:List Rat}(h:xs.length=cs.length):lkl cs xs=(List.range cs.length).map fun i=>cR cs i-xs.getD i 0:=by
 have hl:=zCI h;refine List.ext_getElem (by rw[hl,Qf,Q9]) fun i h1 h2=>?_
 have:=zLc h (k:=i) ⋯
 rw[Qq,Qj h1] at this;rw[List.getElem_map,List.getElem_range,<-this];rfl
abbrev R50(ns:List Int)(d:D)(a5 a6 a7 a8 a9 a10:Sl):Rho:=[.val (.lst (ns.map D.int)),.val d,.val (.lst ((clm 8 d).map D.int)),.val (con 8 d),.val (pln 8 d),a5,a6,a7,a8,a9,a10]
def zLS{ns:List Int}{d:D}(g:Gc 8 d)(hkn:kn 8 d<=6)(c:Int)(a6 a7 a8 a9 a10:Sl):∃ b6 b7 b8 b9 b10,zJ (R50 ns d (.val (.int c)) a6 a7 a8 a9 a10)=.ok (.nx (R50 ns d (.val (.int c)) b6 b7 b8 b9 b10)):=by
 obtain⟨xs,ex,am,lx,bd⟩:=zFQ g hkn c;have am':=zMV g am lx bd;have zq:=am.sum.1;have gs:=g.sum;have l12:=g.2.1
 have lk:∀ a7' a8' a9' a10':Sl,zES lO (aL bE (aB (qR (aB (eOp oIx (aE 2) (aE 11)) (aB (eC (.int 1)) aNil))) (aB (qR (aB (eOp yM (eC (.int 0)) (eOp oIx (eOp oIx (aE 6) (aE 11)) (eC (.int 0)))) (aB (eOp oIx (eOp oIx (aE 6) (aE 11)) (eC (.int 1))) aNil))) aNil))) (R50 ns d (.val (.int c)) (.val (.lst (xs.map dq))) a7' a8' a9' a10') (rng 0 (clm 8 d).length 1)=.ok ((lkl (clm 8 d) xs).map dq):=fun a7' a8' a9' a10'=>by
  have er:rng 0 (clm 8 d).length 1=(List.range (clm 8 d).length).map fun i:Nat=>D.int (i:Int):=by unfold rng;exact Qy fun i _=>by rw[show(0:Int)+(i:Int)*1=(i:Int) by omega]
  rw[er,zNZ lx,Qw];refine kJ (u:=fun i:Nat=>D.int (i:Int)) (by rw[Q9];omega) (fun k hk=>?_)
  have hk':=Qs.mp hk;have hx:k<xs.length:=⋯
  have ix:oIx (.lst (xs.map dq)) (.int (k:Int))=.ok (dq (xs.getD k 0)):=zDm hx;have ick:oIx (.lst ((clm 8 d).map D.int)) (.int (k:Int))=.ok (.int ((clm 8 d).getD k 0)):=nM (Vg k) (aO hk');have cb:=g.2.2 _ (Qg (aO hk'));have zx:=am.each (show xs.getD k 0∈xs by rw[Qq,Qj hx];exact Xh hx)
  have zn:Sz (37+260) (-(xs.getD k 0)):=⟨by rw[Rat.neg_num,Ut];exact zx.1,by rw[Rat.neg_den];exact zx.2⟩
  have zc:Sz 40 (((clm 8 d).getD k 0:Int):Rat):=⟨by show((clm 8 d).getD k 0).natAbs<2^40;omega,by show 1<2^40;decide⟩
  have pp:=jQ zc zn ∅
  have pp':bE [.tup [.int ((clm 8 d).getD k 0),.int 1],dq (-(xs.getD k 0))]=.ok (.v (dq (cR (clm 8 d) k-xs.getD k 0))):=by
   rw[Rat.sub_eq_add_neg];exact pp
  show _=Res.ok (dq (cR (clm 8 d) k-xs.getD k 0))
  erw[ick,ix,ix];symm;rw[zGD,pp'];symm
 have e8:zJ (R50 ns d (.val (.int c)) a6 a7 a8 a9 a10)=zB (R50 ns d (.val (.int c)) (.val (.lst (xs.map dq))) (.val (.lst ((lkl (clm 8 d) xs).map dq))) a8 a9 a10):=by
  unfold zJ zGR;generalize hK:(zB:Sv)=K;erw[ex];symm;rw[zCq ⋯ ⋯,Vp];erw[lk];symm
 have fin:∀ told due tp:D,aP [d,.lst (xs.map dq)]=.ok (.v told)->aP [con 8 d,.lst ((lkl (clm 8 d) xs).map dq)]=.ok (.v due)->aP [pln 8 d,.lst (xs.map dq)]=.ok (.v tp)->dep due<=50->dep told<=50->((due=told/\tp=told/\∃ k:Nat,told=.tup [.str "over", .int (k:Int)])∨(due=told/\(∃(Q:List D)(i j:Nat),told=bX Q i j)/\∃(Q:List D)(i j:Nat),tp=bX Q i j)∨(told=.tup [.str "catch", dq xs.sum]/\due=.tup [.str "catch", dq (((clm 8 d).sum:Rat)-xs.sum)]/\tp=told))->
   zB (R50 ns d (.val (.int c)) (.val (.lst (xs.map dq))) (.val (.lst ((lkl (clm 8 d) xs).map dq))) a8 a9 a10)=.ok (.nx (R50 ns d (.val (.int c)) (.val (.lst (xs.map dq))) (.val (.lst ((lkl (clm 8 d) xs).map dq))) (.val told) (.val due) (.val tp))):=by
  intro told due tp et ed ep dd dt cs;rcases cs with⟨rfl,rfl,k,rfl⟩ | ⟨rfl,⟨Q,i,j,rfl⟩,Q',i',j',rfl⟩ | ⟨rfl,rfl,rfl⟩
  ·symm
   rw[et];erw[show(Str.ofString "over" == Str.ofString "catch")=false from rfl,ed,tU dd,ep];symm;rw[show(Str.ofString "over" == Str.ofString "pair")=false from rfl,Wo];erw[tU dd,show(Str.ofString "over" == Str.ofString "pair")=false from rfl];symm
  ·have i0:oIx (bX Q i j) (.int 0)=.ok (.str "pair"):=rfl
   have j0:oIx (bX Q' i' j') (.int 0)=.ok (.str "pair"):=rfl;generalize bX Q i j=T at *;generalize bX Q' i' j'=T' at *;erw[et,i0,show(Str.ofString "pair" == Str.ofString "catch")=false from rfl,ed,tU dd,ep,i0,i0,j0];symm
  ·have zn:Sz (41+260) (-xs.sum):=⟨by rw[Rat.neg_num,Ut];exact zq.1,by rw[Rat.neg_den];exact zq.2⟩
   have zS:Sz 40 ((clm 8 d).sum:Rat):=⟨by show((clm 8 d).sum).natAbs<2^40;omega,by show 1<2^40;decide⟩
   have pp:=jQ zS zn ∅
   have pp':bE [.tup [.int (clm 8 d).sum,.int 1],dq (-xs.sum)]=.ok (.v (dq (((clm 8 d).sum:Rat)-xs.sum))):=by
    rw[Rat.sub_eq_add_neg];exact pp
   erw[et];symm;rw[zGD,pp'];erw[ed,tU dd,ep];symm;rw[show(Str.ofString "catch" == Str.ofString "pair")=false from rfl,Wo];erw[tU dt,show(Str.ofString "catch" == Str.ofString "pair")=false from rfl];symm
 rw[e8];rcases zId (kd:=true) (kd':=true) ∅ g am am' lx with⟨k,e1,e2⟩ | ⟨Q,i,j,e1,e2⟩ | ⟨e1,e2⟩
 ·obtain⟨dt,tp,ep,h⟩:=tY (kd':=true) g am lx e1
  rcases h with⟨h,_⟩ | ⟨⟨_,_,_,h⟩,_⟩
  ·exact⟨_,_,_,_,_,fin _ _ _ e1 e2 ep dt dt (.inl ⟨rfl,h,k,rfl⟩)⟩
  ·simp[bX] at h
 ·obtain⟨dt,tp,ep,h⟩:=tY (kd':=true) g am lx e1
  rcases h with⟨_,⟨_,h⟩ | ⟨_,h⟩⟩ | ⟨_,Q',i',j',h⟩
  ·simp[bX] at h
  ·simp[bX] at h
  ·exact⟨_,_,_,_,_,fin _ _ _ e1 e2 ep dt dt (.inr (.inl ⟨rfl,⟨Q,i,j,rfl⟩,_,i',j',h⟩))⟩
 ·obtain⟨dt,tp,ep,h⟩:=tY (kd':=true) g am lx e1
  rcases h with⟨h,_⟩ | ⟨⟨_,_,_,h⟩,_⟩
  ·exact⟨_,_,_,_,_,fin _ _ _ e1 e2 ep (by simp[dep,depS,dep_dq]) dt (.inr (.inr ⟨rfl,rfl,h⟩))⟩
  ·simp[bX] at h
def law_true:∀ ns:List Int,ns.length<=63->zLB [.lst (ns.map D.int)]=.ok (.v (.bl true)):=by
 intro ns hl;obtain⟨d,ed,ic,hc,h12,hkn⟩:=zBb ns;have g:Gc 8 d:=⟨ic,h12,hc⟩;have lc:=lU 10 d (eJ ic ∅) (by rw[cK ic ∅];omega)
 rw[cK ic (show 8<=10 by decide)] at lc;obtain⟨fs,ef⟩:=zJy hl (m:=8) ∅ ∅
 have fc:=(qO 8 10 d ic ∅ (Qd _) h12).1
 have fp:=(tK 8 10 d ic ∅ (Qd _) h12).1
 unfold zLB zGe zFy zGT;generalize hK:(zHZ:Sv)=K;erw[ed,lc,fc,fp,<-hK,ef];symm;refine jZ (Q:=fun r=>r.bind fin=.ok (.v (.bl true))) (k:=zDb zEc) (fun i ρ=>∃ a5 a6 a7 a8 a9 a10:Sl,ρ=R50 ns d a5 a6 a7 a8 a9 a10) ⟨_,_,_,_,_,_,rfl⟩ ?_ ?_
 ·rintro i e ρ he ⟨a5,a6,a7,a8,a9,a10,rfl⟩
  obtain⟨c,_,rfl⟩:=Qt.mp (Qg he);obtain⟨b6,b7,b8,b9,b10,eb⟩:=zLS (ns:=ns) g hkn c a6 a7 a8 a9 a10;exact⟨R50 ns d (.val (.int c)) b6 b7 b8 b9 b10,eb,_,_,_,_,_,_,rfl⟩
 ·rintro ρ ⟨a5,a6,a7,a8,a9,a10,rfl⟩
  rfl
end Lw
namespace Lw
open PySem PySem.Spec PyProof.Rows L2 L3
local macro_rules | `(⋯)=>`(by (intro _ _ _ _ _ _ us hl; first | (obtain ⟨_,e⟩:=L3.ln1 hl;subst e;rfl) | (obtain ⟨_,_,e⟩:=L3.ln2 hl;subst e;rfl) | (obtain ⟨_,_,_,e⟩:=L3.ln3 hl;subst e;rfl) | (obtain ⟨_,_,_,_,e⟩:=L3.ln4 hl;subst e;rfl)))
def _root_.L3.CanM.mo{P:Je}{w:Jf}{K:Fg_}{mg:Str->Option Ja}{base:Jd}{j k:Nat}{x:Str}{ps:List Str}{m:Mir}(c:CanM P w K mg base j x ps m)(h:j<=k:=by decide):CanM P w K mg base k x ps m:=c.mono h
section
local macro_rules | `(∅)=>`(⟨rfl,rfl,rfl,by decide +kernel,rfl,by decide +kernel,by decide +kernel⟩)
def top(i:Nat):Jh:=PySem.Challenge.pw_catchhall_k50_whole_lacks_found.main.body.getD i (.Pass ⟨0,0,0,0⟩)
abbrev gJ:Jh:=top 11
def cH:FnScope ["one","two","rest"] ["one","two"] (aG gJ):=∅
abbrev zGE:Jh:=top 12
def zCk:FnScope ["top","bottom","divisor"] ["top","bottom"] (aG zGE):=∅
abbrev zCS:Jh:=top 13
def zJp:FnScope ["number"] ["number"] (aG zCS):=∅
abbrev zFH:Jh:=top 14
def zLr:FnScope ["one","two"] ["one","two"] (aG zFH):=∅
abbrev zCm:Jh:=top 15
def zJX:FnScope ["one","two"] ["one","two"] (aG zCm):=∅
abbrev zCi:Jh:=top 16
def zJw:FnScope ["one","two"] ["one","two"] (aG zCi):=∅
abbrev zFN:Jh:=top 17
def zMO:FnScope ["one","two"] ["one","two"] (aG zFN):=∅
abbrev zIr:Jh:=top 18
def zNn:FnScope ["one","two"] ["one","two"] (aG zIr):=∅
abbrev yO:Jh:=top 19
def zHt:FnScope ["one","two"] ["one","two"] (aG yO):=∅
abbrev lX:Jh:=top 20
def xH:FnScope ["amount","most"] ["amount","most"] (aG lX):=∅
abbrev gK:Jh:=top 21
def rG:FnScope ["amount","most"] ["amount","most"] (aG gK):=∅
abbrev zCl:Jh:=top 22
def sV:FnScope ["some","so_far","each"] ["some"] (aG zCl):=∅
abbrev gN:Jh:=top 23
def oK:FnScope ["some","bottom","each"] ["some"] (aG gN):=∅
abbrev yY:Jh:=top 28
def zHN:FnScope ["way","weights","claims"] ["way","weights","claims"] (aG yY):=∅
abbrev lZ:Jh:=top 29
def zAa:FnScope ["way"] ["way"] (aG lZ):=∅
abbrev iG:Jh:=top 30
def lD:FnScope ["claims","claim"] ["claims"] (aG iG):=∅
abbrev gI:Jh:=top 31
def fT:FnScope ["way","weights","many","due","weight"] ["way","weights","many"] (aG gI):=∅
abbrev jJ:Jh:=top 32
def uR:FnScope ["way"] ["way"] (aG jJ):=∅
abbrev zCg:Jh:=top 33
def zJn:FnScope ["way","weights","claims","catch"] ["way","weights","claims","catch"] (aG zCg):=∅
abbrev dQ:Jh:=top 34
def eK:FnScope ["way","weights","claims","catch","most","lacking"] ["way","weights","claims","catch"] (aG dQ):=∅
abbrev nY:Jh:=top 35
def eQ:FnScope ["claims","catch","left","amounts","claim","amount"] ["claims","catch"] (aG nY):=∅
abbrev mW:Jh:=top 36
def cT:FnScope ["weights","claims","catch","left","weight","amounts","spot","by_weight"] ["weights","claims","catch"] (aG mW):=∅
abbrev kD:Jh:=top 37
def zAM:FnScope ["weights","claims"] ["weights","claims"] (aG kD):=∅
abbrev iR:Jh:=top 38
def gO:FnScope ["claims","catch","most","part"] ["claims","catch"] (aG iR):=∅
abbrev iX:Jh:=top 39
def kK:FnScope ["claims","catch","ones"] ["claims","catch"] (aG iX):=∅
abbrev zHV:Jh:=top 44
def zLs:FnScope ["claim"] ["claim"] (aG zHV):=∅
abbrev zHb:Jh:=top 45
def zHi:FnScope ["way","weights","kids","custom"] ["way","weights","kids"] (aG zHb):=∅
abbrev tW:Jh:=top 46
def zEu:FnScope ["custom"] ["custom"] (aG tW):=∅
abbrev zD:Jh:=top 47
def zFW:FnScope ["custom"] ["custom"] (aG zD):=∅
abbrev lW:Jh:=top 48
def zAh:FnScope ["custom"] ["custom"] (aG lW):=∅
abbrev uS:Jh:=top 49
def zFb:FnScope ["custom"] ["custom"] (aG uS):=∅
abbrev kR:Jh:=top 50
def iS:FnScope ["custom","claims","kid"] ["custom"] (aG kR):=∅
abbrev rF:Jh:=top 51
def zCy:FnScope ["custom"] ["custom"] (aG rF):=∅
abbrev iO:Jh:=top 52
def pN:FnScope ["custom"] ["custom"] (aG iO):=∅
abbrev mX:Jh:=top 53
def qS:FnScope ["custom"] ["custom"] (aG mX):=∅
abbrev zAb:Jh:=top 54
def jL:FnScope ["custom","some","pieces","start","kid","end"] ["custom","some"] (aG zAb):=∅
abbrev zU:Jh:=top 55
def zHS:FnScope ["custom","catch"] ["custom","catch"] (aG zU):=∅
abbrev nH:Jh:=top 56
def fR:FnScope ["custom","catch","amounts","told","kid","amount"] ["custom","catch"] (aG nH):=∅
abbrev mD:Jh:=top 61
def gP:FnScope ["custom","amounts","number","claim","pair"] ["custom","amounts"] (aG mD):=∅
abbrev iB:Jh:=top 62
def sJ:FnScope ["custom","amounts"] ["custom","amounts"] (aG iB):=∅
abbrev iP:Jh:=top 63
def dG:FnScope ["custom","amounts","path","pair","pieces","spot","kid"] ["custom","amounts","path"] (aG iP):=∅
abbrev rH:Jh:=top 64
def kH:FnScope ["custom","amounts","path","many","one","other"] ["custom","amounts","path"] (aG rH):=∅
abbrev qE:Jh:=top 65
def dP:FnScope ["custom","amounts","one","other","pieces","own","kids","claims","weights","right"] ["custom","amounts","one","other"] (aG qE):=∅
abbrev jR:Jh:=top 68
def kU:FnScope ["custom","kids"] ["custom"] (aG jR):=∅
abbrev tM:Jh:=top 69
def sQ:FnScope ["custom","kids"] ["custom"] (aG tM):=∅
abbrev xJ:Jh:=top 70
def uF:FnScope ["way","kids","told","kid"] ["way","kids"] (aG xJ):=∅
abbrev oX:Jh:=top 71
def jO:FnScope ["weights","divisor","weight"] ["weights"] (aG oX):=∅
abbrev kI:Jh:=top 73
def vY:FnScope ["script","k"] ["script","k"] (aG kI):=∅
abbrev lT:Jh:=top 74
def gQ:FnScope ["one","two","rest"] ["one","two"] (aG lT):=∅
abbrev qW:Jh:=top 75
def uY:FnScope ["top","bottom","shared"] ["top","bottom"] (aG qW):=∅
abbrev qG:Jh:=top 76
def zCN:FnScope ["one","two"] ["one","two"] (aG qG):=∅
abbrev oC:Jh:=top 79
def rM:FnScope ["cell","kind","some"] ["cell","kind"] (aG oC):=∅
abbrev qF:Jh:=top 80
def eM:FnScope ["cell","kids","way","weights","most","rest","kid"] ["cell","kids"] (aG qF):=∅
abbrev mH:Jh:=top 81
def bO:FnScope ["script","head","pile","knots","boats","k","cell","turn","many"] ["script"] (aG mH):=∅
abbrev iT:Jh:=top 82
def eZ:FnScope ["custom","claims","kid"] ["custom"] (aG iT):=∅
abbrev oH:Jh:=top 83
def lS:FnScope ["claim","cell","bottom"] ["claim","cell"] (aG oH):=∅
abbrev kX:Jh:=top 84
def cE:FnScope ["custom","cell","claims","amounts","way","one","other","step"] ["custom","cell"] (aG kX):=∅
abbrev mQ:Jh:=top 85
def kC:FnScope ["script","start","many","cells","cell"] ["script","start","many"] (aG mQ):=∅
abbrev sI:Jh:=top 86
def jV:FnScope ["script","custom","claims","other","simple","cell","amounts","lacks","told","due","by_plain"] ["script"] (aG sI):=∅
end
structure Bt (mg:Str->Option Ja):Prop where
 abs:mg "abs" = none
 sorted:mg "sorted" = none
 range:mg "range" = none
 len:mg "len" = none
 sum:mg "sum" = none
 zip:mg "zip" = none
 tuple:mg "tuple" = none
 max:mg "max" = none
 enumerate:mg "enumerate" = none
 min:mg "min" = none
 list:mg "list" = none
structure Kt (K:PySem.W.Frag):Prop where
structure Ct (K:PySem.W.Frag) (mg:Str->Option Ja):Prop where
 BOAT:∃ v u,mg "BOAT" = some u/\cU v u/\IsD K (fun _=>none) v d_BOAT
 CATCH:∃ v u,mg "CATCH" = some u/\cU v u/\IsD K (fun _=>none) v d_CATCH
 DEEPEST:∃ v u,mg "DEEPEST" = some u/\cU v u/\IsD K (fun _=>none) v d_DEEPEST
 HALF:∃ v u,mg "HALF" = some u/\cU v u/\IsD K (fun _=>none) v d_HALF
 MOST_BOATS:∃ v u,mg "MOST_BOATS" = some u/\cU v u/\IsD K (fun _=>none) v d_MOST_BOATS
 NOUGHT:∃ v u,mg "NOUGHT" = some u/\cU v u/\IsD K (fun _=>none) v nJ
 OPENED:∃ v u,mg "OPENED" = some u/\cU v u/\IsD K (fun _=>none) v d_OPENED
 OVER:∃ v u,mg "OVER" = some u/\cU v u/\IsD K (fun _=>none) v d_OVER
 PAIR:∃ v u,mg "PAIR" = some u/\cU v u/\IsD K (fun _=>none) v d_PAIR
 WEIGHTED:∃ v u,mg "WEIGHTED" = some u/\cU v u/\IsD K (fun _=>none) v d_WEIGHTED
 CONTRARY:∃ a,IsTab K mg "CONTRARY" aR a
structure Rt (K:PySem.W.Frag) (mg:Str->Option Ja):Prop where
 BadClaim:∃ C,Err K mg "BadClaim" C
 BadWay:∃ C,Err K mg "BadWay" C
 BadWeights:∃ C,Err K mg "BadWeights" C
 NoFraction:∃ C,Err K mg "NoFraction" C
 Outside:∃ C,Err K mg "Outside" C
 TooMany:∃ C,Err K mg "TooMany" C
 Unlike:∃ C,Err K mg "Unlike" C
structure Et (K:PySem.W.Frag) (mg:Str->Option Ja):Prop where
 co_Outside:Cat K mg "Outside" "Outside"
def zQu{K:Fg_}{h:Jd}{mg:Str->Option Ja}{t0 t1 t2 t3 t4 t5 t6 t7 t8 t9 t10 t11 t12 t13 t14:Tok}{pHALF0:Jc}{o_pHALF0:Option Jc}{n_pHALF0:Nat}{s_pHALF0:Array (Option Ja)}{pNOUGHT1:Jc}{o_pNOUGHT1:Option Jc}{n_pNOUGHT1:Nat}{s_pNOUGHT1:Array (Option Ja)}{pOPENED2:Jc}{o_pOPENED2:Option Jc}{n_pOPENED2:Nat}{s_pOPENED2:Array (Option Ja)}{pWEIGHTED3:Jc}{o_pWEIGHTED3:Option Jc}{n_pWEIGHTED3:Nat}{s_pWEIGHTED3:Array (Option Ja)}{a_CONTRARY:Jc}(X:K.In h)(G:h.Ns mainGlobals mg)(n_BOAT:PySem.W.nsIn K mainGlobals "BOAT" = some (some (.str "boat" t0)))(n_CATCH:PySem.W.nsIn K mainGlobals "CATCH" = some (some (.str "catch" t1)))(n_DEEPEST:PySem.W.nsIn K mainGlobals "DEEPEST" = some (some (.int (8) t2)))(n_HALF:PySem.W.nsIn K mainGlobals "HALF" = some (some (.ref pHALF0)))(pHALF0_l:K.lookup pHALF0=some ⟨.type "tuple", o_pHALF0,.seq #[.int (1) t3,.int (2) t4] n_pHALF0,s_pHALF0⟩)(n_MOST_BOATS:PySem.W.nsIn K mainGlobals "MOST_BOATS" = some (some (.int (12) t5)))(n_NOUGHT:PySem.W.nsIn K mainGlobals "NOUGHT" = some (some (.ref pNOUGHT1)))(pNOUGHT1_l:K.lookup pNOUGHT1=some ⟨.type "tuple", o_pNOUGHT1,.seq #[.int (0) t6,.int (1) t7] n_pNOUGHT1,s_pNOUGHT1⟩)(n_OPENED:PySem.W.nsIn K mainGlobals "OPENED" = some (some (.ref pOPENED2)))(pOPENED2_l:K.lookup pOPENED2=some ⟨.type "tuple", o_pOPENED2,.seq #[.str "row" t8,.str "back" t9,.str "part" t10] n_pOPENED2,s_pOPENED2⟩)(n_OVER:PySem.W.nsIn K mainGlobals "OVER" = some (some (.str "over" t11)))(n_PAIR:PySem.W.nsIn K mainGlobals "PAIR" = some (some (.str "pair" t12)))(n_WEIGHTED:PySem.W.nsIn K mainGlobals "WEIGHTED" = some (some (.ref pWEIGHTED3)))(pWEIGHTED3_l:K.lookup pWEIGHTED3=some ⟨.type "tuple", o_pWEIGHTED3,.seq #[.str "even" t13,.str "lack" t14] n_pWEIGHTED3,s_pWEIGHTED3⟩)(n_CONTRARY:PySem.W.nsIn K mainGlobals "CONTRARY" = some (some (.ref a_CONTRARY)))(aR:PyProof.Rows.KTD.tabLook (PyProof.Rows.KTD.datLooks fun a=>K.lookup a) (fun a=>K.lookup a) a_CONTRARY (zJL Lw.aR)=true):Ct K mg:=⟨⟨.str "boat", _,Vc X G n_BOAT,⟨_,rfl⟩,(.str _)⟩,⟨.str "catch", _,Vc X G n_CATCH,⟨_,rfl⟩,(.str _)⟩,⟨.int (8),_,Vc X G n_DEEPEST,⟨_,rfl⟩,(.int _)⟩,⟨.ref pHALF0,_,Vc X G n_HALF,rfl,(.tup (.inr ⟨_,_,_,pHALF0_l,rfl,rfl,Uw rfl,(.cons (show cU (.int (1)) _ from ⟨_,rfl⟩) (.cons (show cU (.int (2)) _ from ⟨_,rfl⟩) .nil))⟩) (.cons (.int _) (.cons (.int _) .nil)))⟩,⟨.int (12),_,Vc X G n_MOST_BOATS,⟨_,rfl⟩,(.int _)⟩,⟨.ref pNOUGHT1,_,Vc X G n_NOUGHT,rfl,(.tup (.inr ⟨_,_,_,pNOUGHT1_l,rfl,rfl,Uw rfl,(.cons (show cU (.int (0)) _ from ⟨_,rfl⟩) (.cons (show cU (.int (1)) _ from ⟨_,rfl⟩) .nil))⟩) (.cons (.int _) (.cons (.int _) .nil)))⟩,⟨.ref pOPENED2,_,Vc X G n_OPENED,rfl,(.tup (.inr ⟨_,_,_,pOPENED2_l,rfl,rfl,Uw rfl,(.cons (show cU (.str "row") _ from ⟨_,rfl⟩) (.cons (show cU (.str "back") _ from ⟨_,rfl⟩) (.cons (show cU (.str "part") _ from ⟨_,rfl⟩) .nil)))⟩) (.cons (.str _) (.cons (.str _) (.cons (.str _) .nil))))⟩,⟨.str "over", _,Vc X G n_OVER,⟨_,rfl⟩,(.str _)⟩,⟨.str "pair", _,Vc X G n_PAIR,⟨_,rfl⟩,(.str _)⟩,⟨.ref pWEIGHTED3,_,Vc X G n_WEIGHTED,rfl,(.tup (.inr ⟨_,_,_,pWEIGHTED3_l,rfl,rfl,Uw rfl,(.cons (show cU (.str "even") _ from ⟨_,rfl⟩) (.cons (show cU (.str "lack") _ from ⟨_,rfl⟩) .nil))⟩) (.cons (.str _) (.cons (.str _) .nil)))⟩,⟨a_CONTRARY,Vc X G n_CONTRARY,fun h X=>PyProof.Rows.KTD.text_of_look X aR⟩⟩
def zQL{K:Fg_}{h:Jd}{mg:Str->Option Ja}{Me:Jc}{Mf:Jc}{Mg:Jc}{Mh:Jc}{Mi:Jc}{Mj:Jc}{Mk:Jc}(X:K.In h)(G:h.Ns mainGlobals mg)(n_BadClaim:PySem.W.nsIn K mainGlobals "BadClaim" = some (some (.ref Me)))(x_BadClaim:PySem.W.excIn K Me [.type "ValueError", .type "Exception", .type "BaseException", .type "object"] "ValueError.__new__" = true)(n_BadWay:PySem.W.nsIn K mainGlobals "BadWay" = some (some (.ref Mf)))(x_BadWay:PySem.W.excIn K Mf [.type "ValueError", .type "Exception", .type "BaseException", .type "object"] "ValueError.__new__" = true)(n_BadWeights:PySem.W.nsIn K mainGlobals "BadWeights" = some (some (.ref Mg)))(x_BadWeights:PySem.W.excIn K Mg [.type "ValueError", .type "Exception", .type "BaseException", .type "object"] "ValueError.__new__" = true)(n_NoFraction:PySem.W.nsIn K mainGlobals "NoFraction" = some (some (.ref Mh)))(x_NoFraction:PySem.W.excIn K Mh [.type "ValueError", .type "Exception", .type "BaseException", .type "object"] "ValueError.__new__" = true)(n_Outside:PySem.W.nsIn K mainGlobals "Outside" = some (some (.ref Mi)))(x_Outside:PySem.W.excIn K Mi [.type "ValueError", .type "Exception", .type "BaseException", .type "object"] "ValueError.__new__" = true)(n_TooMany:PySem.W.nsIn K mainGlobals "TooMany" = some (some (.ref Mj)))(x_TooMany:PySem.W.excIn K Mj [.type "ValueError", .type "Exception", .type "BaseException", .type "object"] "ValueError.__new__" = true)(n_Unlike:PySem.W.nsIn K mainGlobals "Unlike" = some (some (.ref Mk)))(x_Unlike:PySem.W.excIn K Mk [.type "ValueError", .type "Exception", .type "BaseException", .type "object"] "ValueError.__new__" = true):Rt K mg:=⟨tL X G n_BadClaim x_BadClaim Yj,tL X G n_BadWay x_BadWay Yj,tL X G n_BadWeights x_BadWeights Yj,tL X G n_NoFraction x_NoFraction Yj,tL X G n_Outside x_Outside Yj,tL X G n_TooMany x_TooMany Yj,tL X G n_Unlike x_Unlike Yj⟩
def zRc{K:Fg_}{h:Jd}{mg:Str->Option Ja}{Mi:Jc}(X:K.In h)(G:h.Ns mainGlobals mg)
  (n_Outside:PySem.W.nsIn K mainGlobals "Outside" = some (some (.ref Mi)))
  (g5:PySem.W.specialIn K (.builtin "object.__class__") "__get__" = some (some (.builtin "getset_descriptor.__get__")))
  (g6:PySem.W.takesIn K (.builtin "object.__class__")=some true)
  (e1_Outside:PySem.W.hasDictIn K Mi=true)
  (e2_Outside:PySem.W.findIn K (.ref Mi) "__getattribute__" = some (some (.builtin "BaseException.__getattribute__")))
  (e3_Outside:PySem.W.findIn K (.ref Mi) "__getattr__" = some none)
  (e4_Outside:PySem.W.findIn K (.ref Mi) "__class__" = some (some (.builtin "object.__class__")))
  (e7_Outside:PySem.W.mroIn K Mi (.type "object")=some true)
  (e8_Outside:PySem.W.mroIn K Mi (.type "BaseException")=some true)
  (cx_Outside:PySem.W.typeIn K (.ref Mi)=some (.type "type"))
  (eo_Outside:PySem.W.mroIn K Mi (.ref Mi)=some true):Et K mg:=by
 refine⟨⟨Mi,Mi,Vc X G n_Outside,Vc X G n_Outside,(zPz e1_Outside e2_Outside e3_Outside e4_Outside g5 g6 e7_Outside e8_Outside),zOF cx_Outside e1_Outside e8_Outside,eo_Outside⟩⟩
section
variable(P:Je)(w:Jf){K:Fg_}{mg:Str->Option Ja}(base:Jd)(k:Nat){f:Jc}{fd:FuncData}
set_option hygiene false in
local macro_rules | `(∅)=>`(CanM P w K mg base)
def zHx:RankDef gN:=⟨rfl,rfl,rfl,rfl,rfl,fun _ _ _=>⟨_,_,rfl,rfl,rfl⟩⟩
section
variable(B:Bt mg)(KT:Kt K)(C:Ct K mg)(R:Rt K mg)(ET:Et K mg)
variable(Qap:∅ k "common_divisor" ["one","two"] cA)(Qb5:∅ k "less" ["one","two"] mJ)(Qaz:∅ k "refuse_way" ["way"] bW)(Qar:∅ k "refuse_claims" ["claims"] dR)(Qaq:∅ k "refuse_weights" ["way","weights","many"] bA)(Qbp:∅ k "is_boat" ["custom"] bH)(Qa9:∅ k "_law_shared" ["one","two"] gA)(Qb7:∅ k "made" ["top","bottom"] iF)(Qa8:∅ k "is_outside" ["amount","most"] cS)(Qbr:∅ k "way_of" ["custom"] cQ)(Qbo:∅ k "kids_of" ["custom"] aV)(Qbf:∅ k "_law_frac" ["top","bottom"] dX)(Qb4:∅ k "plus" ["one","two"] lC)(Qbu:∅ k "lesser" ["one","two"] kE)(Qby:∅ k "minus" ["one","two"] iE)(Qb2:∅ k "whole" ["number"] cC)(Qbs:CanR P w K mg base k nD)(Qbc:∅ k "levels_of" ["weights","claims"] fS)(Qb6:∅ k "over" ["one","two"] uE)(Qb1:∅ k "times" ["one","two"] kB)(Qa7:∅ k "even_dealt" ["weights","claims","catch"] dA)(Qba:∅ k "row_dealt" ["claims","catch"] fQ)(Qa4:∅ k "part_dealt" ["claims","catch"] eT)(Qa3:∅ k "half_dealt" ["claims","catch"] eX)(Qat:∅ k "rightly_dealt" ["way","weights","claims","catch"] (aQ 2))(Qbw:∅ k "looked" ["way","weights","claims"] oP)(Qao:∅ k "refuse_outside" ["amount","most"] bN)(Qa5:∅ k "_law_claims" ["custom"] (dD 10))(Qbb:∅ k "claims_of" ["custom"] (bQ 10))(Qbq:∅ k "deep_of" ["custom"] (hU 10))(Qbh:∅ k "claim_of" ["custom"] dM)(Qbt:∅ k "by_kid" ["custom","some"] iL)(Qa6:∅ k "weights_of" ["custom"] bJ)(Qbz:∅ k "total" ["some"] kO)(Qb0:∅ k "dealt" ["way","weights","claims","catch"] iZ)(Qb8:∅ k "knot" ["way","weights","kids"] mF)(Qbi:∅ k "is_wrong" ["custom","amounts","one","other"] jM)(Qaw:∅ k "_law_cell_at" ["script","k"] dF)(Qbj:∅ k "_law_knot" ["cell","kids"] fU)(Qb9:∅ k "boat" ["claim"] zAT)(Qbd:∅ k "_law_claim" ["cell","kind"] gW)(Qau:∅ k "contrary_way" ["way"] dJ)(Qbk:∅ k "contrary" ["custom"] (eS 10))(Qbn:∅ k "divided" ["weights"] jT)(Qbx:∅ k "opened" ["way","kids"] mZ)(Qb3:∅ k "plain" ["custom"] (lP 10))(Qa1:∅ k "kid_claims" ["custom"] eV)(Qbg:∅ k "dealt_on" ["custom","catch"] (eU 10))(Qbm:∅ k "own_pair" ["custom","amounts","path"] cZ)(Qa2:∅ k "first_pair" ["custom","amounts","path"] (aM 10))(Qas:∅ k "refuse_unlike" ["custom","amounts"] dS)(Qbv:∅ k "shares" ["custom","catch"] pT)(Qbe:∅ k "_law_catch" ["claim","cell"] cW)(Qbl:∅ k "_law_plus" ["one","two"] bE)(Qay:∅ k "_law_custom" ["script"] gE)(Qax:∅ k "_law_folded" ["script","start","many"] fY)(Qav:∅ k "_law_amounts" ["custom","cell"] fG)(Qa0:∅ k "found_back" ["custom","amounts"] aP)
def rB(F:Fn K mg "common_divisor" gJ ["one","two"] f fd):∅ (k+1) "common_divisor" ["one","two"] cA:=
  fJ F cH fun W WR=>(aD (s_z 0 cH.nd (aZ zP zFR rfl B.abs boot_abs (bI 0)))
 (aD (s_z 1 cH.nd (aZ zP zFR rfl B.abs boot_abs (bI 1)))
 (aD (zIg W.own (tst (neA W.u) zKb (aN 1) bK (bG _)) (aD (s_z 2 cH.nd (aS bL eA (aN 0) (aN 1)))
 (aD (s_z 0 cH.nd (aN 1))
 (aH (s_z 1 cH.nd (aN 2))))))
 (aH (bY (aN 0))))))
def zIK(F:Fn K mg "whole" zCS ["number"] f fd):∅ (k+1) "whole" ["number"] cC:=
 fJ F zJp fun W WR=>(aH (bY (fB (aA (aN 0) (aA bK aK dB) aJ))))
def zNc(F:Fn K mg "less" zIr ["one","two"] f fd):∅ (k+1) "less" ["one","two"] mJ:=
 fJ F zNn fun W WR=>(aH (bY (zHe zBd zKc (aS cV jA (gG 0) (gG 1)) (aS cV jA (gG 1) (gG 0)) (bG _))))
def zFo(F:Fn K mg "ranked" gN ["some"] f fd){T:Jc}(hT:pO K mg T)(hB:BMn base mg):CanR P w K mg base (k+1) nD:=
 zLW F oK zHx hT hB B.sorted B.range B.len rfl fun cdv A outer s H E G W WR=>⟨(s_z 1 oK.nd bK),(kQ W.own W.calm (jX (aN 0)) (g_z 2 oK.nd) bT (aH (s_z 1 oK.nd (aS cV jA (aN 1) (gG 2)))))⟩
def xM(F:Fn K mg "refuse_way" lZ ["way"] f fd):∅ (k+1) "refuse_way" ["way"] bW:=
 fJ F zAa fun W WR=>(aH (iY (zIO C.CONTRARY.choose_spec rfl (aN 0) (by with_unfolding_all rfl)) (aH (jC W WR R.BadWay rfl zFi)) bP))
def sF(F:Fn K mg "refuse_claims" iG ["claims"] f fd):∅ (k+1) "refuse_claims" ["claims"] dR:=
  fJ F lD fun W WR=>(aD (iY (tst (eqA W.u) zAm (aZ aT dY rfl B.len Q6 (bI 0)) bK (bG _)) (aH (jC W WR R.BadClaim rfl zFi)) bP)
 (aH (kQ W.own W.calm (jX (aN 0)) (g_z 1 lD.nd) bT (aH (iY (tst zBd zKc (aN 1) bK (bG _)) (aH (jC W WR R.BadClaim rfl zFi)) bP)))))
def qL(F:Fn K mg "refuse_weights" gI ["way","weights","many"] f fd):∅ (k+1) "refuse_weights" ["way","weights","many"] bA:=
  fJ F fT fun W WR=>(aD (s_z 3 fT.nd (zLI (tst (inA W.u) zRx (aN 0) (fI rfl C.WEIGHTED) (by with_unfolding_all rfl)) (aN 2) bK))
 (aD (iY (tst (neA W.u) zKb (aZ aT dY rfl B.len Q6 (bI 1)) (aN 3) (bG _)) (aH (jC W WR R.BadWeights rfl zFi)) bP)
 (aH (kQ W.own W.calm (jX (aN 1)) (g_z 4 fT.nd) bT (aH (iY (PWd.pt (zOe (tst zBd zKc (aN 4) bK (bG _)) (zJM (tst zAl zIP (aN 4) (aS iD uT bK bK) (bG _))))) (aH (jC W WR R.BadWeights rfl zFi)) bP))))))
def zMx(F:Fn K mg "boat" zHV ["claim"] f fd):∅ (k+1) "boat" ["claim"] zAT:=
  fJ F zLs fun W WR=>(aD (iY (PWd.pt (zOe (tst zBd zKc (aN 0) bK (bG _)) (zJM (tst zAl zIP (aN 0) (aS iD uT bK bK) (bG _))))) (aH (jC W WR R.BadClaim rfl zFi)) bP)
 (aH (bY (fB (aA (fI rfl C.BOAT) (bI 0) aJ)))))
def zEr(F:Fn K mg "is_boat" tW ["custom"] f fd):∅ (k+1) "is_boat" ["custom"] bH:=
 fJ F zEu fun W WR=>(aH (bY (zHe (eqA W.u) zAm (gG 0) (fI rfl C.BOAT) (bG _))))
def zGJ(F:Fn K mg "way_of" zD ["custom"] f fd):∅ (k+1) "way_of" ["custom"] cQ:=
 fJ F zFW fun W WR=>(aH (bY (gG 0)))
def yX(F:Fn K mg "weights_of" lW ["custom"] f fd):∅ (k+1) "weights_of" ["custom"] bJ:=
 fJ F zAh fun W WR=>(aH (bY (gG 0)))
def vK(F:Fn K mg "_law_cell_at" kI ["script","k"] f fd):∅ (k+1) "_law_cell_at" ["script","k"] dF:=
  fJ F vY fun W WR=>(aD (iY (tst zBd zKc (aN 1) (aZ aT dY rfl B.len Q6 (bI 0)) (bG _)) (aH (bY (wA (aN 0) 1))) bP)
 (aH (bY bK)))
def yN(F:Fn K mg "_law_shared" lT ["one","two"] f fd):∅ (k+1) "_law_shared" ["one","two"] gA:=
  fJ F gQ fun W WR=>(aD (zIg W.own (tst zAl zIP (aN 1) bK (bG _)) (aD (s_z 2 gQ.nd (aS bL eA (aN 0) (aN 1)))
 (aD (s_z 0 gQ.nd (aN 1))
 (aH (s_z 1 gQ.nd (aN 2))))))
 (aH (bY (aN 0))))
def zBQ(F:Fn K mg "_law_claim" oC ["cell","kind"] f fd):∅ (k+1) "_law_claim" ["cell","kind"] gW:=
  fJ F rM fun W WR=>(aD (s_z 2 rM.nd (PEf.d (dI (aA (aS bL eA (aS bS fK (aN 0) bK) bK) (aA (aS bL eA (aS bS fK (aN 0) bK) bK) (aA (aS bL eA (aS bS fK (aN 0) bK) (aS cY jI (aS iD uT bK bK) bK)) (aA (aS cV jA (aS bL eA (aS bS fK (aN 0) bK) bK) (aS iD uT bK bK)) aK aX) aX) aX) aX))))
 (aH (bY (zAV gH zKR (aN 2) (aS bL eA (aS cY jI (aN 1) (aS bS fK (aS bL eA (aN 0) bK) bK)) bK) (fun _ _=>rfl)))))
def xQ(F:Fn K mg "_law_folded" mQ ["script","start","many"] f fd):∅ (k+1) "_law_folded" ["script","start","many"] fY:=
  fJ F kC fun W WR=>(aD (uL (i:=3) kC.nd rfl (Or.inl rfl) (dI aK))
 (aD (kQ W.own W.calm (jX (PEf.d (zFv (PEf.d (dI (aA bK aK dB))) (PEf.d (xU (aN 0) (uO (aN 1)) zDd))))) (g_z 4 kC.nd) bT (aH (iY (PTd.frz (tst zBd zKc (aZ aT dY rfl B.len Q6 (bI 3)) (aN 2) (bG _))) (aH (zEA (i:=3) (pv 3) (aN 4))) (aH (zNJ (i:=3) (pv 3) (pv 3) bK bK (aN 4) (aS iD uT bK bK))))))
 (aH (iM 3 (pv 3)))))
def zNo(F:Fn K mg "made" zGE ["top","bottom"] f fd):∅ (k+1) "made" ["top","bottom"] iF:=
  fJ F zCk fun W WR=>(aD (iY (tst (eqA W.u) zAm (aN 1) bK (bG _)) (aH (jC W WR R.NoFraction rfl zFi)) bP)
 (aD (s_z 2 zCk.nd (aF W Qap rfl (aA (aN 0) (bI 1) aJ)))
 (aD (iY (tst zBd zKc (aN 1) bK (bG _)) (aH (s_z 2 zCk.nd (zFL (aN 2)))) bP)
 (aH (bY (fB (aA (aS bS fK (aN 0) (aN 2)) (aA (aS bS fK (aN 1) (aN 2)) aK aX) aX)))))))
def zHz(F:Fn K mg "lesser" yO ["one","two"] f fd):∅ (k+1) "lesser" ["one","two"] kE:=
 fJ F zHt fun W WR=>(aH (bY (zLI (zIu (aF W Qb5 rfl (aA (aN 0) (bI 1) aJ))) (aN 0) (aN 1))))
def zV(F:Fn K mg "is_outside" lX ["amount","most"] f fd):∅ (k+1) "is_outside" ["amount","most"] cS:=
 fJ F xH fun W WR=>(aH (bY (zQJ (aF W Qb5 rfl (aA (aN 0) (aA (fI rfl C.NOUGHT) aK aJ) aJ)) (zOJ (aF W Qb5 rfl (aA (aN 1) (bI 0) aJ))))))
def zGi(F:Fn K mg "looked" yY ["way","weights","claims"] f fd):∅ (k+1) "looked" ["way","weights","claims"] oP:=
  fJ F zHN fun W WR=>(aD (nU (aF W Qaz rfl (bI 0)))
 (aD (nU (aF W Qar rfl (bI 2)))
 (aH (nU (aF W Qaq rfl (aA (aN 0) (aA (aN 1) (aA (aZ aT dY rfl B.len Q6 (bI 2)) aK aI) aJ) aJ))))))
def uG(F:Fn K mg "contrary_way" jJ ["way"] f fd):∅ (k+1) "contrary_way" ["way"] dJ:=
  fJ F uR fun W WR=>(aD (nU (aF W Qaz rfl (bI 0)))
 (aH (bY (zKl C.CONTRARY.choose_spec rfl (aN 0) (fun _ _=>rfl)))))
def zEV(F:Fn K mg "kids_of" uS ["custom"] f fd):∅ (k+1) "kids_of" ["custom"] aV:=
 fJ F zFb fun W WR=>(aH (bY (zLI (zIu (aF W Qbp rfl (bI 0))) (fB aK) (gG 0))))
def zEC(F:Fn K mg "divided" oX ["weights"] f fd):∅ (k+1) "divided" ["weights"] jT:=
  fJ F jO fun W WR=>(aD (s_z 1 jO.nd bK)
 (aD (kQ W.own W.calm (jX (aN 0)) (g_z 2 jO.nd) bT (aH (s_z 1 jO.nd (aF W Qap rfl (aA (aN 1) (bI 2) aJ)))))
 (aH (iC (pJ W jO.nd rfl (sc:=aG oX) rfl rfl (by decide +kernel) (jX (aN 0)) (fun C2 s2 H2 fp2 G W=>⟨rR,(aS bS fK (aN 3) (aN 1))⟩))))))
def zCZ(F:Fn K mg "_law_frac" qW ["top","bottom"] f fd):∅ (k+1) "_law_frac" ["top","bottom"] dX:=
  fJ F uY fun W WR=>(aD (s_z 2 uY.nd (aF W Qa9 rfl (aA (aZ zP zFR rfl B.abs boot_abs (bI 0)) (bI 1) aI)))
 (aH (bY (fB (aA (aS bS fK (aN 0) (aN 2)) (aA (aS bS fK (aN 1) (aN 2)) aK aX) aX)))))
def zNq(F:Fn K mg "plus" zFH ["one","two"] f fd):∅ (k+1) "plus" ["one","two"] lC:=
 fJ F zLr fun W WR=>(aH (bY (aF W Qb7 rfl (aA (aS cY jI (aS cV jA (gG 0) (gG 1)) (aS cV jA (gG 1) (gG 0))) (aA (aS cV jA (gG 0) (gG 1)) aK aX) aX))))
def zJe(F:Fn K mg "minus" zCm ["one","two"] f fd):∅ (k+1) "minus" ["one","two"] iE:=
 fJ F zJX fun W WR=>(aH (bY (aF W Qb7 rfl (aA (aS zBO zHy (aS cV jA (gG 0) (gG 1)) (aS cV jA (gG 1) (gG 0))) (aA (aS cV jA (gG 0) (gG 1)) aK aX) aX))))
def zJK(F:Fn K mg "times" zCi ["one","two"] f fd):∅ (k+1) "times" ["one","two"] kB:=
 fJ F zJw fun W WR=>(aH (bY (aF W Qb7 rfl (aA (aS cV jA (gG 0) (gG 1)) (aA (aS cV jA (gG 0) (gG 1)) aK aX) aX))))
def zLz(F:Fn K mg "over" zFN ["one","two"] f fd):∅ (k+1) "over" ["one","two"] uE:=
 fJ F zMO fun W WR=>(aH (bY (aF W Qb7 rfl (aA (aS cV jA (gG 0) (gG 1)) (aA (aS cV jA (gG 0) (gG 1)) aK aX) aX))))
def qD(F:Fn K mg "refuse_outside" gK ["amount","most"] f fd):∅ (k+1) "refuse_outside" ["amount","most"] bN:=
 fJ F rG fun W WR=>(aH (iY (zIu (aF W Qa8 rfl (aA (aN 0) (bI 1) aJ))) (aH (jC W WR R.Outside rfl zFi)) bP))
def zAu(F:Fn K mg "levels_of" kD ["weights","claims"] f fd):∅ (k+1) "levels_of" ["weights","claims"] fS:=
 fJ F zAM fun W WR=>(aH (iC (zBn (N:=["weights","claims"]) W (by decide +kernel) rfl (sc:=aG kD) rfl rfl (by decide +kernel) (zMq rfl B.zip (aA (aN 1) (bI 0) aJ)) (fun C2 s2 H2 fp2 G W=>(aF W Qb7 rfl (aA (aN 2) (bI 3) aJ))))))
def zGo(F:Fn K mg "opened" xJ ["way","kids"] f fd):∅ (k+1) "opened" ["way","kids"] mZ:=
  fJ F uF fun W WR=>(aD (iY (tst (zPI W.u) zNp (aN 0) (fI rfl C.OPENED) (by with_unfolding_all rfl)) (aH (bY (aN 1))) bP)
 (aD (uL (i:=2) uF.nd rfl (Or.inl rfl) (dI aK))
 (aD (kQ W.own W.calm (jX (aN 1)) (g_z 3 uF.nd) bT (aH (iY (tst (eqA W.u) zAm (aF W Qbr rfl (bI 3)) (aN 0) (bG _)) (aH (zPe (i:=2) (pv 2) (aF W Qbo rfl (bI 3)))) (aH (zEA (i:=2) (pv 2) (aN 3))))))
 (aH (iM 2 (pv 2))))))
def zCx(F:Fn K mg "_law_plus" qG ["one","two"] f fd):∅ (k+1) "_law_plus" ["one","two"] bE:=
 fJ F zCN fun W WR=>(aH (bY (aF W Qbf rfl (aA (aS cY jI (aS cV jA (gG 0) (gG 1)) (aS cV jA (gG 1) (gG 0))) (aA (aS cV jA (gG 0) (gG 1)) aK aX) aX))))
def zAI(F:Fn K mg "_law_catch" oH ["claim","cell"] f fd):∅ (k+1) "_law_catch" ["claim","cell"] cW:=
  fJ F lS fun W WR=>(aD (s_z 1 lS.nd (aS bL eA (aN 1) (aS iD uT bK bK)))
 (aD (s_z 2 lS.nd (zAV gH zKR (PEf.d (dI (aA bK (aA bK (aA bK (aA bK (aA (aS cY jI bK (aS bL eA (aS bS fK (aN 1) bK) bK)) aK aX) dB) dB) dB) dB))) (aS bL eA (aN 1) bK) (fun _ _=>rfl)))
 (aH (bY (aF W Qbf rfl (aA (aS bL eA (aS bS fK (aN 1) bK) (aS cY jI (aS cV jA (aN 0) (aN 2)) bK)) (bI 2) aX))))))
def zJk(F:Fn K mg "total" zCl ["some"] f fd):∅ (k+1) "total" ["some"] kO:=
  fJ F sV fun W WR=>(aD (s_z 1 sV.nd (fI rfl C.NOUGHT))
 (aD (kQ W.own W.calm (jX (aN 0)) (g_z 2 sV.nd) bT (aH (s_z 1 sV.nd (aF W Qb4 rfl (aA (aN 1) (bI 2) aJ)))))
 (aH (bY (aN 1)))))
def zBh(F:Fn K mg "row_dealt" nY ["claims","catch"] f fd):∅ (k+1) "row_dealt" ["claims","catch"] fQ:=
  fJ F eQ fun W WR=>(aD (s_z 2 eQ.nd (aN 1))
 (aD (uL (i:=3) eQ.nd rfl (Or.inl rfl) (dI aK))
 (aD (kQ W.own W.calm (jX (aN 0)) (g_z 4 eQ.nd) bT (aD (s_z 5 eQ.nd (aF W Qbu rfl (aA (aN 2) (aA (aF W Qb2 rfl (bI 4)) aK aI) aJ)))
 (aD (zEA (i:=3) (pv 3) (aN 5))
 (aH (s_z 2 eQ.nd (aF W Qby rfl (aA (aN 2) (bI 5) aJ)))))))
 (aH (iM 3 (pv 3))))))
def zE(F:Fn K mg "even_dealt" mW ["weights","claims","catch"] f fd):∅ (k+1) "even_dealt" ["weights","claims","catch"] dA:=
  fJ F cT fun W WR=>(aD (s_z 3 cT.nd (aN 2))
 (aD (s_z 4 cT.nd (aZ (kT W.calm) vB rfl B.sum iH (bI 0)))
 (aD (uL (i:=5) cT.nd rfl (Or.inl rfl) (zGk (dI (aA (fI rfl C.NOUGHT) aK aJ)) (aZ aT dY rfl B.len Q6 (bI 1))))
 (zLM W Qbs zRo zOn rfl (aA (PEf.d (cD W Qbc rfl (aA (aN 0) (bI 1) aJ))) aK aI) (g_z 6 cT.nd) bT (aD (s_z 7 cT.nd (aF W Qb6 rfl (aA (aF W Qb1 rfl (aA (aN 3) (aA (aF W Qb2 rfl (aA (wA (aN 0) 6) aK bM)) aK aI) aJ)) (aA (aF W Qb2 rfl (bI 4)) aK aI) aI)))
 (aD (zFT (i:=5) (pv 5) (aN 6) (aF W Qbu rfl (aA (aN 7) (aA (aF W Qb2 rfl (aA (wA (aN 1) 6) aK bM)) aK aI) aJ)))
 (aD (s_z 3 cT.nd (PEd.frz (aF W Qby rfl (aA (aN 3) (aA (wA (aN 5) 6) aK bM) aJ))))
 (aH (zQX (i:=4) cT.nd rfl (Or.inl rfl) (wA (aN 0) 6) zNU zLF zJY))))) (aH (iM 5 (pv 5)))))))
def xI(F:Fn K mg "part_dealt" iR ["claims","catch"] f fd):∅ (k+1) "part_dealt" ["claims","catch"] eT:=
  fJ F gO fun W WR=>(aD (s_z 2 gO.nd (aZ (kT W.calm) vB rfl B.sum iH (bI 0)))
 (aD (iY (tst (eqA W.u) zAm (aN 2) bK (bG _)) (aH (iC (zGk (dI (aA (fI rfl C.NOUGHT) aK aJ)) (aZ aT dY rfl B.len Q6 (bI 0))))) bP)
 (aD (s_z 3 gO.nd (aF W Qb6 rfl (aA (aN 1) (aA (aF W Qb2 rfl (bI 2)) aK aI) aJ)))
 (aH (iC (pJ W gO.nd rfl (sc:=aG iR) rfl rfl (by decide +kernel) (jX (aN 0)) (fun C2 s2 H2 fp2 G W=>⟨rR,(aF W Qb1 rfl (aA (aN 3) (aA (aF W Qb2 rfl (bI 4)) aK aI) aJ))⟩)))))))
def zAj(F:Fn K mg "half_dealt" iX ["claims","catch"] f fd):∅ (k+1) "half_dealt" ["claims","catch"] eX:=
  fJ F kK fun W WR=>(aD (s_z 2 kK.nd (PEf.d (zGk (dI (aA bK aK dB)) (aZ aT dY rfl B.len Q6 (bI 0)))))
 (aH (iC (pJ W kK.nd rfl (sc:=aG iX) rfl rfl (by decide +kernel) (jX (PEf.d (cD W Qa7 rfl (aA (aN 2) (aA (aN 0) (aA (aF W Qb4 rfl (aA (aN 1) (bI 1) aJ)) aK aI) aJ) aJ)))) (fun C2 s2 H2 fp2 G W=>⟨rR,(aF W Qb1 rfl (aA (aN 3) (aA (fI rfl C.HALF) aK aJ) aJ))⟩)))))
def sL{r:Mir}(F:Fn K mg "rightly_dealt" dQ ["way","weights","claims","catch"] f fd)(Qat:∅ k "rightly_dealt" ["way","weights","claims","catch"] r):∅ (k+1) "rightly_dealt" ["way","weights","claims","catch"] (aU r):=
  fJ F eK fun W WR=>(aD (s_z 4 eK.nd (aF W Qb2 rfl (aA (aZ (kT W.calm) vB rfl B.sum iH (bI 2)) aK aI)))
 (aD (iY (tst (eqA W.u) zAm (aN 0) (qU gC fun _=>.str _) (bG _)) (aH (iC (cD W Qba rfl (aA (aN 2) (bI 3) aJ)))) bP)
 (aD (iY (tst (eqA W.u) zAm (aN 0) (qU gC fun _=>.str _) (bG _)) (aH (iC (cD W Qa7 rfl (aA (aN 1) (aA (aN 2) (bI 3) aJ) aJ)))) bP)
 (aD (iY (tst (eqA W.u) zAm (aN 0) (qU gC fun _=>.str _) (bG _)) (aH (iC (cD W Qa4 rfl (aA (aN 2) (bI 3) aJ)))) bP)
 (aD (iY (PWd.pt (zJu (tst (eqA W.u) zAm (aN 0) (qU gC fun _=>.str _) (bG _)) (zDi (zSe (zIu (aF W Qb5 rfl (aA (aN 4) (aA (aF W Qb4 rfl (aA (aN 3) (bI 3) aJ)) aK aI) aJ))))))) (aH (iC (cD W Qa3 rfl (aA (aN 2) (bI 3) aJ)))) bP)
 (aD (s_z 5 eK.nd (PEf.d (cD W Qat rfl (aA (zKl C.CONTRARY.choose_spec rfl (aN 0) (fun _ _=>rfl)) (aA (aN 1) (aA (aN 2) (aA (aF W Qby rfl (aA (aN 4) (bI 3) aJ)) aK aI) aJ) aJ) bM))))
 (aH (iC (zBn (N:=["way","weights","claims","catch","most","lacking"]) W (by decide +kernel) rfl (sc:=aG dQ) rfl rfl (by decide +kernel) (zMq rfl B.zip (aA (aN 2) (bI 5) aJ)) (fun C2 s2 H2 fp2 G W=>(aF W Qby rfl (aA (aF W Qb2 rfl (bI 6)) (bI 7) aI))))))))))))
def lB(F:Fn K mg "rightly_dealt" dQ ["way","weights","claims","catch"] f fd):∀ n:Nat,∅ (k+1+n) "rightly_dealt" ["way","weights","claims","catch"] (aQ n)
 | 0=>kN F eK fun cdv A outer s H E G W WR=>zAC
 | n+1=>sL _ _ _ (k+1+n) B C F (Qb2:=Qb2.mono (by omega)) (Qba:=Qba.mono (by omega)) (Qa7:=Qa7.mono (by omega)) (Qa4:=Qa4.mono (by omega)) (Qa3:=Qa3.mono (by omega)) (Qby:=Qby.mono (by omega)) (Qb5:=Qb5.mono (by omega)) (Qb4:=Qb4.mono (by omega)) (Qat:=lB F n)
def zII(F:Fn K mg "dealt" zCg ["way","weights","claims","catch"] f fd):∅ (k+1) "dealt" ["way","weights","claims","catch"] iZ:=
  fJ F zJn fun W WR=>(aD (nU (aF W Qbw rfl (aA (aN 0) (aA (aN 1) (bI 2) aJ) aJ)))
 (aD (nU (aF W Qao rfl (aA (aN 3) (aA (aF W Qb2 rfl (aA (aZ (kT W.calm) vB rfl B.sum iH (bI 2)) aK aI)) aK aI) aJ)))
 (aH (iC (cD W Qat rfl (aA (aN 0) (aA (aN 1) (aA (aN 2) (bI 3) aJ) aJ) aJ))))))
def yG{r:Mir}(F:Fn K mg "_law_claims" iT ["custom"] f fd)(Qa5:∅ k "_law_claims" ["custom"] r):∅ (k+1) "_law_claims" ["custom"] (iU r):=
  fJ F eZ fun W WR=>(aD (iY (tst (eqA W.u) zAm (gG 0) (qU gC fun _=>.str _) (bG _)) (aH (bY (PEf.d (dI (aA (gG 0) aK bM))))) bP)
 (aD (s_z 1 eZ.nd (PEf.d (dI aK)))
 (aD (kQ W.own W.calm (jX (gG 0)) (g_z 2 eZ.nd) bT (aH (s_z 1 eZ.nd (PEf.d (zFv (aN 1) (aF W Qa5 rfl (bI 2)))))))
 (aH (bY (aN 1))))))
def oO(F:Fn K mg "_law_claims" iT ["custom"] f fd)  : ∀ n:Nat,∅ (k+1+n) "_law_claims" ["custom"] (dD n)
 | 0=>kN F eZ fun cdv A outer s H E G W WR=>zAC
 | n+1=>yG _ _ _ (k+1+n) F  (Qa5:=oO F  n)
def zBw{r:Mir}(F:Fn K mg "claims_of" kR ["custom"] f fd)(Qbb:∅ k "claims_of" ["custom"] r):∅ (k+1) "claims_of" ["custom"] (kM r):=
  fJ F iS fun W WR=>(aD (iY (zIu (aF W Qbp rfl (bI 0))) (aH (iC (dI (aA (gG 0) aK bM)))) bP)
 (aD (uL (i:=1) iS.nd rfl (Or.inl rfl) (dI aK))
 (aD (kQ W.own W.calm (jX (aF W Qbo rfl (bI 0))) (g_z 2 iS.nd) bT (aH (zNA (i:=1) (pv 1) (cD W Qbb rfl (bI 2)))))
 (aH (iM 1 (pv 1))))))
def rV(F:Fn K mg "claims_of" kR ["custom"] f fd):∀ n:Nat,∅ (k+1+n) "claims_of" ["custom"] (bQ n)
 | 0=>kN F iS fun cdv A outer s H E G W WR=>zAC
 | n+1=>zBw _ _ _ (k+1+n) F (Qbp:=Qbp.mono (by omega)) (Qbo:=Qbo.mono (by omega)) (Qbb:=rV F n)
def zEF{r:Mir}(F:Fn K mg "deep_of" mX ["custom"] f fd)(Qbq:∅ k "deep_of" ["custom"] r):∅ (k+1) "deep_of" ["custom"] (oY r):=
 fJ F qS fun W WR=>(aH (bY (aS cY jI bK (zLV W.calm rfl B.max (PEf.d (pJ W qS.nd rfl (sc:=aG mX) rfl rfl (by decide +kernel) (jX (aF W Qbo rfl (bI 0))) (fun C2 s2 H2 fp2 G W=>⟨rR,(aF W Qbq rfl (bI 1))⟩))) bK))))
def wR(F:Fn K mg "deep_of" mX ["custom"] f fd):∀ n:Nat,∅ (k+1+n) "deep_of" ["custom"] (hU n)
 | 0=>kN F qS fun cdv A outer s H E G W WR=>zAC
 | n+1=>zEF _ _ _ (k+1+n) B F (Qbo:=Qbo.mono (by omega)) (Qbq:=wR F n)
def zLm(F:Fn K mg "knot" zHb ["way","weights","kids"] f fd):∅ (k+1) "knot" ["way","weights","kids"] mF:=
  fJ F zHi fun W WR=>(aD (nU (aF W Qaz rfl (bI 0)))
 (aD (nU (aF W Qaq rfl (aA (aN 0) (aA (aN 1) (aA (aZ aT dY rfl B.len Q6 (bI 2)) aK aI) aJ) aJ)))
 (aD (s_z 3 zHi.nd (fB (aA (aN 0) (aA (zAp oQ zKQ rfl B.tuple boot_tuple (bI 1)) (aA (zAp oQ zKQ rfl B.tuple boot_tuple (bI 2)) aK aI) aI) aJ)))
 (aD (iY (PWd.pt (zOe (tst (eqA W.u) zAm (aZ aT dY rfl B.len Q6 (bI 2)) bK (bG _)) (zOe (tst zAl zIP (aZ aT dY rfl B.len Q6 (aA (PEf.d (cD W Qbb rfl (bI 3))) aK aI)) (fI rfl C.MOST_BOATS) (bG _)) (zJM (tst zAl zIP (aF W Qbq rfl (bI 3)) (fI rfl C.DEEPEST) (bG _)))))) (aH (jC W WR R.TooMany rfl zFi)) bP)
 (aH (bY (aN 3)))))))
def zBX(F:Fn K mg "claim_of" rF ["custom"] f fd):∅ (k+1) "claim_of" ["custom"] dM:=
 fJ F zCy fun W WR=>(aH (bY (aZ (kT W.calm) vB rfl B.sum iH (aA (PEf.d (cD W Qbb rfl (bI 0))) aK aI))))
def zGO(F:Fn K mg "by_kid" zAb ["custom","some"] f fd):∅ (k+1) "by_kid" ["custom","some"] iL:=
  fJ F jL fun W WR=>(aD (uL (i:=2) jL.nd rfl (Or.inl rfl) (dI aK))
 (aD (s_z 3 jL.nd bK)
 (aD (kQ W.own W.calm (jX (aF W Qbo rfl (bI 0))) (g_z 4 jL.nd) bT (aD (s_z 5 jL.nd (aS cY jI (aN 3) (aZ aT dY rfl B.len Q6 (aA (PEf.d (cD W Qbb rfl (bI 4))) aK aI))))
 (aD (zEA (i:=2) (pv 2) (zGz (aN 1) (uO (aN 3)) (uO (aN 5))))
 (aH (s_z 3 jL.nd (aN 5))))))
 (aH (iM 2 (pv 2))))))
def sE(F:Fn K mg "refuse_unlike" iB ["custom","amounts"] f fd):∅ (k+1) "refuse_unlike" ["custom","amounts"] dS:=
 fJ F sJ fun W WR=>(aH (iY (tst (neA W.u) zKb (aZ aT dY rfl B.len Q6 (bI 1)) (aZ aT dY rfl B.len Q6 (aA (PEf.d (cD W Qbb rfl (bI 0))) aK aI)) (bG _)) (aH (jC W WR R.Unlike rfl zFi)) bP))
def xO(F:Fn K mg "kid_claims" iO ["custom"] f fd):∅ (k+1) "kid_claims" ["custom"] eV:=
 fJ F pN fun W WR=>(aH (iC (pJ W pN.nd rfl (sc:=aG iO) rfl rfl (by decide +kernel) (jX (aF W Qbo rfl (bI 0))) (fun C2 s2 H2 fp2 G W=>⟨rR,(aF W Qbh rfl (bI 1))⟩))))
def zCT(F:Fn K mg "is_wrong" qE ["custom","amounts","one","other"] f fd):∅ (k+1) "is_wrong" ["custom","amounts","one","other"] jM:=
  fJ F dP fun W WR=>(aD (s_z 4 dP.nd (PEf.d (cD W Qbt rfl (aA (aN 0) (bI 1) aJ))))
 (aD (s_z 5 dP.nd (PEf.d (dI (aA (aF W Qbz rfl (aA (wA (aN 4) 2) aK bM)) (aA (aF W Qbz rfl (aA (wA (aN 4) 3) aK bM)) aK aI) aI))))
 (aD (s_z 6 dP.nd (aF W Qbo rfl (bI 0)))
 (aD (s_z 7 dP.nd (PEf.d (dI (aA (aF W Qbh rfl (aA (wA (aN 6) 2) aK bM)) (aA (aF W Qbh rfl (aA (wA (aN 6) 3) aK bM)) aK aI) aI))))
 (aD (s_z 8 dP.nd (aF W Qa6 rfl (bI 0)))
 (aD (iY (tst zAl zIP (aZ aT dY rfl B.len Q6 (bI 8)) bK (bG _)) (aH (s_z 8 dP.nd (PEf.d (dI (aA (wA (aN 8) 2) (aA (wA (aN 8) 3) aK bM) bM))))) bP)
 (aD (zOP W zGn ET.co_Outside rfl (zQs (zQZ (i:=9) dP.nd rfl (Or.inl rfl) W Qb0 rfl (have W:=W.nox;(aA (aF W Qbr rfl (bI 0)) (aA (aN 8) (aA (aN 7) (aA (aF W Qb4 rfl (aA (gG 5) (aA (gG 5) aK bM) bM)) aK aI) aJ) aJ) aI)))) (fun ea W=>(aH (bY (qU zGp fun _=>.bl _)))))
 (aH (bY (zHe (neA W.u) zKb (aN 9) (aN 5) (bG _)))))))))))
def zCn(F:Fn K mg "_law_knot" qF ["cell","kids"] f fd):∅ (k+1) "_law_knot" ["cell","kids"] fU:=
  fJ F eM fun W WR=>(aD (s_z 2 eM.nd (zAV gH zKR (PEf.d (dI (aA (qU gC fun _=>.str _) (aA (qU gC fun _=>.str _) (aA (qU gC fun _=>.str _) (aA (qU gC fun _=>.str _) (aA (qU gC fun _=>.str _) zFi dB) dB) dB) dB) dB))) (aS bL eA (aN 0) bK) (fun _ _=>rfl)))
 (aD (uL (i:=3) eM.nd rfl (Or.inl rfl) (dI aK))
 (aD (iY (tst (inA W.u) zRx (aN 2) (fB (aA (qU gC fun _=>.str _) zFi dB)) (by with_unfolding_all rfl)) (aD (s_z 4 eM.nd (zAV gH zKR (PEf.d (dI (aA bK (aA bK (aA bK (aA (aS iD uT bK bK) aK aX) dB) dB) dB))) (aS bL eA (aS bS fK (aN 0) bK) bK) (fun _ _=>rfl)))
 (aD (s_z 5 eM.nd (aS bS fK (aN 0) bK))
 (aH (kQ W.own W.calm (jX (aN 1)) (g_z 6 eM.nd) bT (aD (zEA (i:=3) (pv 3) (aS cY jI bK (aS bL eA (aN 5) (aN 4))))
 (aH (s_z 5 eM.nd (aS bS fK (aN 5) bK)))))))) bP)
 (dO.frzAt 3 (aH (bY (aF W Qb8 rfl (aA (aN 2) (aA (aN 3) (bI 1) aJ) aJ))))))))
def zCO(F:Fn K mg "own_pair" rH ["custom","amounts","path"] f fd):∅ (k+1) "own_pair" ["custom","amounts","path"] cZ:=
  fJ F kH fun W WR=>(aD (s_z 3 kH.nd (aZ aT dY rfl B.len Q6 (aA (aF W Qbo rfl (bI 0)) aK aI)))
 (aD (kQ W.own W.calm (zFr rfl B.range (bI 3)) (g_z 4 kH.nd) bT (aH (kQ W.own W.calm (zOx rfl B.range (aA (aS cY jI (aN 4) bK) (bI 3) aX)) (g_z 5 kH.nd) bT (aH (iY (zIu (aF W Qbi rfl (aA (aN 0) (aA (aN 1) (aA (aN 4) (bI 5) aJ) aJ) aJ))) (aH (bY (fB (aA (fI rfl C.PAIR) (aA (aN 2) (aA (aN 4) (bI 5) aJ) aJ) aJ)))) bP)))))
 (aH (bY (qU wO fun _=>.non)))))
def xY(F:Fn K mg "_law_custom" mH ["script"] f fd):∅ (k+1) "_law_custom" ["script"] gE:=
  fJ F bO fun W WR=>(aD (s_z 1 bO.nd (aS bL eA (aF W Qaw rfl (aA (aN 0) (aA bK aK dB) aJ)) (aS iD uT bK bK)))
 (aD (uL (i:=2) bO.nd rfl (Or.inl rfl) (dI aK))
 (aD (s_z 3 bO.nd bK)
 (aD (s_z 4 bO.nd (aS cY jI bK (aS bL eA (aN 1) bK)))
 (aD (iY (tst (eqA W.u) zAm (aS bL eA (aS bS fK (aN 1) bK) bK) bK (bG _)) (aH (s_z 4 bO.nd (aS cY jI (aN 4) bK))) bP)
 (aD (kQ W.own W.calm (zFr rfl B.range (bI 4)) (g_z 5 bO.nd) bT (aD (s_z 6 bO.nd (aS bL eA (aF W Qaw rfl (aA (aN 0) (aA (aS cY jI bK (aN 5)) aK aX) aJ)) (aS iD uT bK bK)))
 (aD (zEA (i:=2) (pv 2) (aF W Qb9 rfl (aA (aF W Qbd rfl (aA (aN 6) (aA (aS bL eA (aS bS fK (aN 1) bK) bK) aK aX) aJ)) aK aI)))
 (aD (s_z 7 bO.nd (aS bL eA (aF W Qaw rfl (aA (aN 0) (aA (aS cY jI bK (aN 5)) aK aX) aJ)) (aS iD uT bK bK)))
 (aH (iY (PWd.pt (zJu (tst (eqA W.u) zAm (aS bL eA (aN 7) bK) bK (bG _)) (zDi (tst zBd zKc (aN 3) bK (bG _))))) (aD (s_z 3 bO.nd (aS cY jI (aN 3) bK))
 (aD (s_z 8 bO.nd (PEd.frz (aS cY jI bK (aS bL eA (aS bS fK (aN 7) bK) (aZ (zHw W.calm) zOy rfl B.min boot_min (aA bK (aA (aZ aT dY rfl B.len Q6 (bI 2)) aK aI) dB))))))
 (aH (uL (i:=2) bO.nd rfl (Or.inl rfl) (PEf.frz (zFv (PEf.d (xU (aN 2) zDd (uO (zFL (aN 8))))) (PEf.d (dI (aA (aF W Qbj rfl (aA (aS bS fK (aN 7) bK) (aA (PEf.d (xU (aN 2) (uO (zFL (aN 8))) zDd)) aK bM) aX)) aK aI))))))))) bP))))))
 (dO.frzAt 2 (aD (iY (PWd.pt (zOe (tst zAl zIP (aZ aT dY rfl B.len Q6 (bI 2)) bK (bG _)) (zJM (tst zAl zIP (aS bL eA (aS bS fK (aN 1) bK) bK) bK (bG _))))) (aH (bY (aF W Qbj rfl (aA (aS bS fK (aN 1) bK) (bI 2) aX)))) bP)
 (aH (bY (gG 2)))))))))))
def zCB{r:Mir}(F:Fn K mg "contrary" jR ["custom"] f fd)(Qbk:∅ k "contrary" ["custom"] r):∅ (k+1) "contrary" ["custom"] (nF r):=
  fJ F kU fun W WR=>(aD (iY (zIu (aF W Qbp rfl (bI 0))) (aH (bY (aN 0))) bP)
 (aD (zGl (i:=1) kU.nd rfl (Or.inl rfl) (PCf.d (zN W kU.nd rfl (sc:=aG jR) rfl rfl (by decide +kernel) (jX (aF W Qbo rfl (bI 0))) (fun C2 s2 H2 fp2 G W=>⟨rR,(aF W Qbk rfl (bI 2))⟩))) rfl)
 (aH (bY (aF W Qb8 rfl (aA (aF W Qau rfl (aA (aF W Qbr rfl (bI 0)) aK aI)) (aA (aF W Qa6 rfl (bI 0)) (bI 1) aI) aI))))))
def tT(F:Fn K mg "contrary" jR ["custom"] f fd):∀ n:Nat,∅ (k+1+n) "contrary" ["custom"] (eS n)
 | 0=>kN F kU fun cdv A outer s H E G W WR=>zAC
 | n+1=>zCB _ _ _ (k+1+n) F (Qbp:=Qbp.mono (by omega)) (Qb8:=Qb8.mono (by omega)) (Qau:=Qau.mono (by omega)) (Qa6:=Qa6.mono (by omega)) (Qbo:=Qbo.mono (by omega)) (Qbr:=Qbr.mono (by omega)) (Qbk:=tT F n)
def zIW{r:Mir}(F:Fn K mg "plain" tM ["custom"] f fd)(Qb3:∅ k "plain" ["custom"] r):∅ (k+1) "plain" ["custom"] (yC r):=
  fJ F sQ fun W WR=>(aD (iY (zIu (aF W Qbp rfl (bI 0))) (aH (bY (aN 0))) bP)
 (aD (zGl (i:=1) sQ.nd rfl (Or.inl rfl) (PCf.d (zN W sQ.nd rfl (sc:=aG tM) rfl rfl (by decide +kernel) (jX (aF W Qbo rfl (bI 0))) (fun C2 s2 H2 fp2 G W=>⟨rR,(aF W Qb3 rfl (bI 2))⟩))) rfl)
 (aD (iY (tst (eqA W.u) zAm (aZ aT dY rfl B.len Q6 (bI 1)) bK (bG _)) (aH (bY (gG 1))) bP)
 (aH (bY (aF W Qb8 rfl (aA (aF W Qbr rfl (bI 0)) (aA (PEf.d (cD W Qbn rfl (aA (aF W Qa6 rfl (bI 0)) aK aI))) (aA (aF W Qbx rfl (aA (aF W Qbr rfl (bI 0)) (bI 1) aI)) aK aI) aI) aI)))))))
def zDn(F:Fn K mg "plain" tM ["custom"] f fd):∀ n:Nat,∅ (k+1+n) "plain" ["custom"] (lP n)
 | 0=>kN F sQ fun cdv A outer s H E G W WR=>zAC
 | n+1=>zIW _ _ _ (k+1+n) B F (Qbp:=Qbp.mono (by omega)) (Qb8:=Qb8.mono (by omega)) (Qbr:=Qbr.mono (by omega)) (Qbn:=Qbn.mono (by omega)) (Qbx:=Qbx.mono (by omega)) (Qbo:=Qbo.mono (by omega)) (Qa6:=Qa6.mono (by omega)) (Qb3:=zDn F n)
def zCR{r:Mir}(F:Fn K mg "dealt_on" nH ["custom","catch"] f fd)(Qbg:∅ k "dealt_on" ["custom","catch"] r):∅ (k+1) "dealt_on" ["custom","catch"] (gU r):=
  fJ F fR fun W WR=>(aD (iY (zIu (aF W Qbp rfl (bI 0))) (aH (iC (dI (bI 1)))) bP)
 (aD (s_z 2 fR.nd (PEf.d (cD W Qb0 rfl (aA (aF W Qbr rfl (bI 0)) (aA (aF W Qa6 rfl (bI 0)) (aA (PEf.d (cD W Qa1 rfl (bI 0))) (bI 1) aI) aI) aI))))
 (aD (uL (i:=3) fR.nd rfl (Or.inl rfl) (dI aK))
 (aD (kQ W.own W.calm (zMq rfl B.zip (aA (aF W Qbo rfl (bI 0)) (bI 2) aI)) (zMW W.calm (qY (g_z 4 fR.nd) (qY (g_z 5 fR.nd) zGg)) (rC (rC zFO))) (zCM (nI bT (nI bT zCt))) (aH (zNA (i:=3) (pv 3) (cD W Qbg rfl (aA (aN 4) (bI 5) aJ)))))
 (aH (iM 3 (pv 3)))))))
def uA(F:Fn K mg "dealt_on" nH ["custom","catch"] f fd):∀ n:Nat,∅ (k+1+n) "dealt_on" ["custom","catch"] (eU n)
 | 0=>kN F fR fun cdv A outer s H E G W WR=>zAC
 | n+1=>zCR _ _ _ (k+1+n) B F (Qbp:=Qbp.mono (by omega)) (Qb0:=Qb0.mono (by omega)) (Qbr:=Qbr.mono (by omega)) (Qa6:=Qa6.mono (by omega)) (Qa1:=Qa1.mono (by omega)) (Qbo:=Qbo.mono (by omega)) (Qbg:=uA F n)
def zHg(F:Fn K mg "shares" zU ["custom","catch"] f fd):∅ (k+1) "shares" ["custom","catch"] pT:=
  fJ F zHS fun W WR=>(aD (nU (aF W Qao rfl (aA (aN 1) (aA (aF W Qb2 rfl (aA (aF W Qbh rfl (bI 0)) aK aI)) aK aI) aJ)))
 (aH (iC (cD W Qbg rfl (aA (aN 0) (bI 1) aJ)))))
def zAi{r:Mir}(F:Fn K mg "first_pair" iP ["custom","amounts","path"] f fd)(Qa2:∅ k "first_pair" ["custom","amounts","path"] r):∅ (k+1) "first_pair" ["custom","amounts","path"] (bF r):=
  fJ F dG fun W WR=>(aD (iY (zIu (aF W Qbp rfl (bI 0))) (aH (bY (qU wO fun _=>.non))) bP)
 (aD (s_z 3 dG.nd (aF W Qbm rfl (aA (aN 0) (aA (aN 1) (bI 2) aJ) aJ)))
 (aD (iY (yB (aN 3) wO (bG _)) (aH (bY (aN 3))) bP)
 (aD (s_z 4 dG.nd (PEf.d (cD W Qbt rfl (aA (aN 0) (bI 1) aJ))))
 (aD (kQ W.own W.calm (zKX rfl B.enumerate (aF W Qbo rfl (bI 0))) (zMW W.calm (qY (g_z 5 dG.nd) (qY (g_z 6 dG.nd) zGg)) (rC (rC zFO))) (zCM (nI bT (nI bT zCt))) (aD (s_z 3 dG.nd (aF W Qa2 rfl (aA (aN 6) (aA (wA (aN 4) 5) (aA (aS cY jI (aN 2) (fB (bI 5))) aK aX) bM) aJ)))
 (aH (iY (yB (aN 3) wO (bG _)) (aH (bY (aN 3))) bP))))
 (aH (bY (qU wO fun _=>.non))))))))
def oV(F:Fn K mg "first_pair" iP ["custom","amounts","path"] f fd):∀ n:Nat,∅ (k+1+n) "first_pair" ["custom","amounts","path"] (aM n)
 | 0=>kN F dG fun cdv A outer s H E G W WR=>zAC
 | n+1=>zAi _ _ _ (k+1+n) B F (Qbp:=Qbp.mono (by omega)) (Qbm:=Qbm.mono (by omega)) (Qbt:=Qbt.mono (by omega)) (Qbo:=Qbo.mono (by omega)) (Qa2:=oV F n)
def zG(F:Fn K mg "found_back" mD ["custom","amounts"] f fd):∅ (k+1) "found_back" ["custom","amounts"] aP:=
  fJ F gP fun W WR=>(aD (nU (aF W Qas rfl (aA (aN 0) (bI 1) aJ)))
 (aD (kQ W.own W.calm (zKX rfl B.enumerate (PEf.d (cD W Qbb rfl (bI 0)))) (zMW W.calm (qY (g_z 2 gP.nd) (qY (g_z 3 gP.nd) zGg)) (rC (rC zFO))) (zCM (nI bT (nI bT zCt))) (aH (iY (zIu (aF W Qa8 rfl (aA (wA (aN 1) 2) (aA (aF W Qb2 rfl (bI 3)) aK aI) bM))) (aH (bY (fB (aA (fI rfl C.OVER) (bI 2) aJ)))) bP)))
 (aD (s_z 4 gP.nd (aF W Qa2 rfl (aA (aN 0) (aA (aN 1) (aA (fB aK) aK kF) aJ) aJ)))
 (aD (iY (yB (aN 4) wO (bG _)) (aH (bY (aN 4))) bP)
 (aH (bY (fB (aA (fI rfl C.CATCH) (aA (aF W Qbz rfl (bI 1)) aK aI) aJ))))))))
def vT(F:Fn K mg "_law_amounts" kX ["custom","cell"] f fd):∅ (k+1) "_law_amounts" ["custom","cell"] fG:=
  fJ F cE fun W WR=>(aD (s_z 1 cE.nd (aS bL eA (aN 1) (aS iD uT bK bK)))
 (aD (s_z 2 cE.nd (aF W Qa5 rfl (bI 0)))
 (aD (uL (i:=3) cE.nd rfl (Or.inl rfl) (cD W Qbv rfl (aA (aN 0) (aA (aF W Qbe rfl (aA (aZ (kT W.calm) vB rfl B.sum iH (bI 2)) (aA (aS bS fK (aN 1) bK) aK aX) aI)) aK aI) aJ)))
 (aD (s_z 4 cE.nd (aS bL eA (aN 1) bK))
 (aD (s_z 5 cE.nd (aS bL eA (aS bS fK (aN 1) bK) (aZ aT dY rfl B.len Q6 (bI 2))))
 (aD (s_z 6 cE.nd (aS bL eA (aS bS fK (aN 1) bK) (aZ aT dY rfl B.len Q6 (bI 2))))
 (aD (s_z 7 cE.nd (aF W Qbf rfl (aA (aS cY jI bK (aS bL eA (aS bS fK (aN 1) bK) bK)) (aA (aS cY jI bK (aS bL eA (aS bS fK (aN 1) bK) bK)) aK aX) aX)))
 (aD (iY (tst zAl zIP (aN 4) bK (bG _)) (aD (zFT (i:=3) (pv 3) (aN 5) (PEd.frz (aF W Qbl rfl (aA (wA (aN 3) 5) (bI 7) bM))))
 (aH (zFT (i:=3) (pv 3) (aN 6) (PEd.frz (aF W Qbl rfl (aA (wA (aN 3) 6) (aA (fB (aA (aS zBO zHy bK (gG 7)) (aA (gG 7) aK bM) aX)) aK kF) bM)))))) bP)
 (aD (iY (tst (eqA W.u) zAm (aN 4) bK (bG _)) (aH (zFT (i:=3) (pv 3) (aN 5) (aF W Qbe rfl (aA (wA (aN 2) 5) (aA (aS bS fK (aN 1) bK) aK aX) bM)))) bP)
 (aD (iY (tst (eqA W.u) zAm (aN 4) bK (bG _)) (aH (zFT (i:=3) (pv 3) (aN 5) (PEd.frz (aF W Qbl rfl (aA (wA (aN 3) 5) (aA (fB (aA (aS cV jA (wA (aN 2) 5) (zAV gH zKR (PEf.d (dI (aA bK (aA (aS zBO zHy bK bK) aK aX) dB))) (aS bL eA (aS bS fK (aN 1) bK) bK) (fun _ _=>rfl))) (aA bK aK dB) aX)) aK kF) bM))))) bP)
 (aH (iM 3 (pv 3)))))))))))))
def zPG(F:Fn K mg "law" sI ["script"] f fd):FnOk P w K mg base (CX1 P w) (k+1) f fd ["script"] (spM K mg 1 zLB):=
  zPN F jV fun cdv A outer s H E G W WR=>(aD (s_z 1 jV.nd (aF W Qay rfl (bI 0)))
 (aD (s_z 2 jV.nd (aF W Qa5 rfl (bI 1)))
 (aD (s_z 3 jV.nd (aF W Qbk rfl (bI 1)))
 (aD (s_z 4 jV.nd (aF W Qb3 rfl (bI 1)))
 (aD (kQ W.own W.calm (jX (PEf.d (cD W Qax rfl (aA (aN 0) (aA bK (aA bK aK dB) dB) aJ)))) (g_z 5 jV.nd) bT (aD (s_z 6 jV.nd (PEf.d (cD W Qav rfl (aA (aN 1) (bI 5) aJ))))
 (aD (zGl (i:=7) jV.nd rfl (Or.inl rfl) (PCf.d (zN W jV.nd rfl (sc:=aG sI) rfl rfl (by decide +kernel) (zFr rfl B.range (aA (aZ aT dY rfl B.len Q6 (bI 2)) aK aI)) (fun C2 s2 H2 fp2 G W=>⟨rR,(aF W Qbl rfl (aA (fB (aA (wA (aN 2) 11) (aA bK aK dB) bM)) (aA (fB (aA (aS zBO zHy bK (zQd (wA (aN 6) 11))) (aA (zQd (wA (aN 6) 11)) aK bM) aX)) aK kF) kF))⟩))) rfl)
 (aD (s_z 8 jV.nd (aF W Qa0 rfl (aA (aN 1) (aA (PEf.d (zGA rfl B.list boot_list (bI 6))) aK aI) aJ)))
 (aD (s_z 9 jV.nd (aN 8))
 (aD (iY (tst (eqA W.u) zAm (gG 8) (qU gC fun _=>.str _) (bG _)) (aH (s_z 9 jV.nd (fB (aA (qU gC fun _=>.str _) (aA (aF W Qbl rfl (aA (fB (aA (aZ (kT W.calm) vB rfl B.sum iH (bI 2)) (aA bK aK dB) aI)) (aA (fB (aA (aS zBO zHy bK (zQd (gG 8))) (aA (zQd (gG 8)) aK bM) aX)) aK kF) kF)) aK aI) dB)))) bP)
 (aD (iY (tst (neA W.u) zKb (aF W Qa0 rfl (aA (aN 3) (bI 7) aJ)) (aN 9) (bG _)) (aH (bY (qU zGp fun _=>.bl _))) bP)
 (aD (s_z 10 jV.nd (aF W Qa0 rfl (aA (aN 4) (aA (PEf.d (zGA rfl B.list boot_list (bI 6))) aK aI) aJ)))
 (aD (iY (PWd.pt (zJu (tst (neA W.u) zKb (gG 8) (qU gC fun _=>.str _) (bG _)) (zDi (tst (neA W.u) zKb (aN 10) (aN 8) (bG _))))) (aH (bY (qU zGp fun _=>.bl _))) bP)
 (aH (iY (PWd.pt (zJu (tst (eqA W.u) zAm (gG 8) (qU gC fun _=>.str _) (bG _)) (zDi (tst (neA W.u) zKb (gG 10) (qU gC fun _=>.str _) (bG _))))) (aH (bY (qU zGp fun _=>.bl _))) bP)))))))))))
 (aH (bY (qU zGp fun _=>.bl _))))))))
end
end
def FnK(K:PySem.W.Frag)(x:Str)(st:Jh):Prop:=∃ f oc od sl kV dc pm an cd ct,PySem.W.nsIn K mainGlobals x=some (some (.ref f))/\K.lookup f=some ⟨oc,od,.func (PySem.W.fnOf x x (jD st) (eN st) (aG st) .none kV dc pm an cd ct),sl⟩/\PySem.W.codeIn K cd x=true/\PySem.W.keepIn K (.ref f)=true
def fk{K:Fg_}{h:Jd}{mg:Str->Option Ja}{x:Str}{st:Jh}(X:K.In h)(G:h.Ns mainGlobals mg)(d:FnK K x st)(ps:List Str)(hb:∀ (kV doc pm:Ja) (an:Option Jc) (cdv ct:Ja) (us:List Ja),us.length=ps.length->bindArgs (PySem.W.fnOf x x (jD st) (eN st) (aG st) .none kV doc pm an cdv ct) ⟨us,[]⟩=pure (ps.zip us)):∃ f fd,Fn K mg x st ps f fd:=by
 obtain⟨f,oc,od,sl,kV,dc,pm,an,cd,ct,a,l,c,k⟩:=d;exact⟨f,_,wW (st:=st) l c k,(wW (st:=st) l c k).binds (ps:=ps) hb,k,Vc X G a⟩
def fkm{K:Fg_}{x:Str}{st:Jh}{f:Jc}{oc:Ja}{od an:Option Jc}{sl:Array (Option Ja)}{kV dc pm cd ct:Ja}(a:PySem.W.nsIn K mainGlobals x=some (some (.ref f)))(l:K.lookup f=some ⟨oc,od,.func (PySem.W.fnOf x x (jD st) (eN st) (aG st) .none kV dc pm an cd ct),sl⟩)(c:PySem.W.codeIn K cd x=true)(k:PySem.W.keepIn K (.ref f)=true):FnK K x st:=⟨f,oc,od,sl,kV,dc,pm,an,cd,ct,a,l,c,k⟩
def zOv{l:PySem.W.OpenLaw}{w:Jf}{K:Fg_}{h:Jd}{mg:Str->Option Ja}{fa f12 f58:Jc}(X:K.In h)(G:h.Ns mainGlobals mg)(hfa:mg "law" = some (.ref fa))
  {od12 an12:Option Jc} {sl12:Array (Option Ja)} {oc12 kV12 dc12 pm12 ct12:Ja}
  {od58 an58:Option Jc} {sl58:Array (Option Ja)} {oc58 kV58 dc58 pm58 cd58 ct58:Ja}
  (d0:FnK K "common_divisor" gJ)
  (d1:FnK K "made" zGE)
  (d2:FnK K "whole" zCS)
  (d3:FnK K "plus" zFH)
  (d4:FnK K "minus" zCm)
  (d5:FnK K "times" zCi)
  (d6:FnK K "over" zFN)
  (d7:FnK K "less" zIr)
  (d8:FnK K "lesser" yO)
  (d9:FnK K "is_outside" lX)
  (d10:FnK K "refuse_outside" gK)
  (d11:FnK K "total" zCl)
  {cR T:Jc}
  (a12:PySem.W.nsIn K mainGlobals "ranked" = some (some (.ref f12))) (l12:K.lookup f12=some ⟨oc12,od12,.func (PySem.W.fnOf "ranked" "ranked" (jD gN) (eN gN) (aG gN) .none kV12 dc12 pm12 an12 (.ref cR) ct12),sl12⟩) (c12:PySem.W.codeIn K (.ref cR) "ranked" = true) (k12:PySem.W.keepIn K (.ref f12)=true)
  (tq:PySem.W.codeHdIn K cR T=true) (tn:K.lookup T=none)
  (d13:FnK K "looked" yY)
  (d14:FnK K "refuse_way" lZ)
  (d15:FnK K "refuse_claims" iG)
  (d16:FnK K "refuse_weights" gI)
  (d17:FnK K "contrary_way" jJ)
  (d18:FnK K "dealt" zCg)
  (d19:FnK K "rightly_dealt" dQ)
  (d20:FnK K "row_dealt" nY)
  (d21:FnK K "even_dealt" mW)
  (d22:FnK K "levels_of" kD)
  (d23:FnK K "part_dealt" iR)
  (d24:FnK K "half_dealt" iX)
  (d25:FnK K "boat" zHV)
  (d26:FnK K "knot" zHb)
  (d27:FnK K "is_boat" tW)
  (d28:FnK K "way_of" zD)
  (d29:FnK K "weights_of" lW)
  (d30:FnK K "kids_of" uS)
  (d31:FnK K "claims_of" kR)
  (d32:FnK K "claim_of" rF)
  (d33:FnK K "kid_claims" iO)
  (d34:FnK K "deep_of" mX)
  (d35:FnK K "by_kid" zAb)
  (d36:FnK K "shares" zU)
  (d37:FnK K "dealt_on" nH)
  (d38:FnK K "found_back" mD)
  (d39:FnK K "refuse_unlike" iB)
  (d40:FnK K "first_pair" iP)
  (d41:FnK K "own_pair" rH)
  (d42:FnK K "is_wrong" qE)
  (d43:FnK K "contrary" jR)
  (d44:FnK K "plain" tM)
  (d45:FnK K "opened" xJ)
  (d46:FnK K "divided" oX)
  (d47:FnK K "_law_cell_at" kI)
  (d48:FnK K "_law_shared" lT)
  (d49:FnK K "_law_frac" qW)
  (d50:FnK K "_law_plus" qG)
  (d51:FnK K "_law_claim" oC)
  (d52:FnK K "_law_knot" qF)
  (d53:FnK K "_law_custom" mH)
  (d54:FnK K "_law_claims" iT)
  (d55:FnK K "_law_catch" oH)
  (d56:FnK K "_law_amounts" kX)
  (d57:FnK K "_law_folded" mQ)
  (a58:PySem.W.nsIn K mainGlobals "law" = some (some (.ref f58))) (l58:K.lookup f58=some ⟨oc58,od58,.func (PySem.W.fnOf "law" "law" (jD sI) (eN sI) (aG sI) .none kV58 dc58 pm58 an58 cd58 ct58),sl58⟩) (c58:PySem.W.codeIn K cd58 "law" = true) (k58:PySem.W.keepIn K (.ref f58)=true)
  (z_abs:PySem.W.nsIn K mainGlobals "abs" = some none)
  (z_sorted:PySem.W.nsIn K mainGlobals "sorted" = some none)
  (z_range:PySem.W.nsIn K mainGlobals "range" = some none)
  (z_len:PySem.W.nsIn K mainGlobals "len" = some none)
  (z_sum:PySem.W.nsIn K mainGlobals "sum" = some none)
  (z_zip:PySem.W.nsIn K mainGlobals "zip" = some none)
  (z_tuple:PySem.W.nsIn K mainGlobals "tuple" = some none)
  (z_max:PySem.W.nsIn K mainGlobals "max" = some none)
  (z_enumerate:PySem.W.nsIn K mainGlobals "enumerate" = some none)
  (z_min:PySem.W.nsIn K mainGlobals "min" = some none)
  (z_list:PySem.W.nsIn K mainGlobals "list" = some none)
  (KT:Kt K) (CC:∀(h:Jd)(mg:Str->Option Ja),K.In h->h.Ns mainGlobals mg->Ct K mg) (RR:∀(h:Jd)(mg:Str->Option Ja),K.In h->h.Ns mainGlobals mg->Rt K mg) (EE:∀(h:Jd)(mg:Str->Option Ja),K.In h->h.Ns mainGlobals mg->Et K mg)
  : K.lookup T=none/\pO K mg T/\∃ fd:FuncData,(∀(s:Jb)(v:Ja),BindsTo s fd ⟨[v],[]⟩ [("script", v)])/\∀ base:Jd,K.In base->base.Ns mainGlobals mg->BMn base mg->FnOk l.prog w K mg base (CX1 l.prog w) 29 fa fd ["script"] (zPS K mg):=by
 have e:=hfa.symm.trans (Vc X G a58);cases e;have B:Bt mg:=⟨V9 X G z_abs,V9 X G z_sorted,V9 X G z_range,V9 X G z_len,V9 X G z_sum,V9 X G z_zip,V9 X G z_tuple,V9 X G z_max,V9 X G z_enumerate,V9 X G z_min,V9 X G z_list⟩;have C:Ct K mg:=CC h mg X G;have R:Rt K mg:=RR h mg X G;have ET:Et K mg:=EE h mg X G;have hT:pO K mg T:=⟨f12,_,_,_,_,cR,Vc X G a12,l12,rfl,fun h X=>PySem.W.codeHd_of_K X tq⟩
 refine⟨tn,hT,?_⟩
 refine⟨PySem.W.fnOf "law" "law" (jD sI) (eN sI) (aG sI) .none kV58 dc58 pm58 an58 cd58 ct58,fun s v=>.of_eq rfl,fun base _ _ hB=>?_⟩
 obtain⟨_,_,F0⟩:=fk X G d0 ["one","two"] ⋯
 have Qap:=rB l.prog w base 0 B F0;obtain⟨_,_,F2⟩:=fk X G d2 ["number"] ⋯
 have Qb2:=zIK l.prog w base 0 F2;obtain⟨_,_,F7⟩:=fk X G d7 ["one","two"] ⋯
 have Qb5:=zNc l.prog w base 0 F7;have F12:Fn K mg "ranked" gN ["some"] _ _:=⟨wW (st:=gN) l12 c12 k12,(wW (st:=gN) l12 c12 k12).binds (ps:=["some"]) ⋯,k12,Vc X G a12⟩
 have Qbs:=zFo l.prog w base 0 B F12 hT hB;obtain⟨_,_,F14⟩:=fk X G d14 ["way"] ⋯
 have Qaz:=xM l.prog w base 0 C R F14;obtain⟨_,_,F15⟩:=fk X G d15 ["claims"] ⋯
 have Qar:=sF l.prog w base 0 B R F15;obtain⟨_,_,F16⟩:=fk X G d16 ["way","weights","many"] ⋯
 have Qaq:=qL l.prog w base 0 B C R F16;obtain⟨_,_,F25⟩:=fk X G d25 ["claim"] ⋯
 have Qb9:=zMx l.prog w base 0 C R F25;obtain⟨_,_,F27⟩:=fk X G d27 ["custom"] ⋯
 have Qbp:=zEr l.prog w base 0 C F27;obtain⟨_,_,F28⟩:=fk X G d28 ["custom"] ⋯
 have Qbr:=zGJ l.prog w base 0 F28;obtain⟨_,_,F29⟩:=fk X G d29 ["custom"] ⋯
 have Qa6:=yX l.prog w base 0 F29;obtain⟨_,_,F47⟩:=fk X G d47 ["script","k"] ⋯
 have Qaw:=vK l.prog w base 0 B F47;obtain⟨_,_,F48⟩:=fk X G d48 ["one","two"] ⋯
 have Qa9:=yN l.prog w base 0 F48;obtain⟨_,_,F51⟩:=fk X G d51 ["cell","kind"] ⋯
 have Qbd:=zBQ l.prog w base 0 F51;obtain⟨_,_,F57⟩:=fk X G d57 ["script","start","many"] ⋯
 have Qax:=xQ l.prog w base 0 B F57;obtain⟨_,_,F1⟩:=fk X G d1 ["top","bottom"] ⋯
 have Qb7:=zNo l.prog w base 1 R Qap.mo F1;obtain⟨_,_,F8⟩:=fk X G d8 ["one","two"] ⋯
 have Qbu:=zHz l.prog w base 1 Qb5.mo F8;obtain⟨_,_,F9⟩:=fk X G d9 ["amount","most"] ⋯
 have Qa8:=zV l.prog w base 1 C Qb5.mo F9;obtain⟨_,_,F13⟩:=fk X G d13 ["way","weights","claims"] ⋯
 have Qbw:=zGi l.prog w base 1 B Qaz.mo Qar.mo Qaq.mo F13;obtain⟨_,_,F17⟩:=fk X G d17 ["way"] ⋯
 have Qau:=uG l.prog w base 1 C Qaz.mo F17;obtain⟨_,_,F30⟩:=fk X G d30 ["custom"] ⋯
 have Qbo:=zEV l.prog w base 1 Qbp.mo F30;obtain⟨_,_,F46⟩:=fk X G d46 ["weights"] ⋯
 have Qbn:=zEC l.prog w base 1 Qap.mo F46;obtain⟨_,_,F49⟩:=fk X G d49 ["top","bottom"] ⋯
 have Qbf:=zCZ l.prog w base 1 B Qa9.mo F49;obtain⟨_,_,F3⟩:=fk X G d3 ["one","two"] ⋯
 have Qb4:=zNq l.prog w base 2 Qb7.mo F3;obtain⟨_,_,F4⟩:=fk X G d4 ["one","two"] ⋯
 have Qby:=zJe l.prog w base 2 Qb7.mo F4;obtain⟨_,_,F5⟩:=fk X G d5 ["one","two"] ⋯
 have Qb1:=zJK l.prog w base 2 Qb7.mo F5;obtain⟨_,_,F6⟩:=fk X G d6 ["one","two"] ⋯
 have Qb6:=zLz l.prog w base 2 Qb7.mo F6;obtain⟨_,_,F10⟩:=fk X G d10 ["amount","most"] ⋯
 have Qao:=qD l.prog w base 2 R Qa8.mo F10;obtain⟨_,_,F22⟩:=fk X G d22 ["weights","claims"] ⋯
 have Qbc:=zAu l.prog w base 2 B Qb7.mo F22;obtain⟨_,_,F45⟩:=fk X G d45 ["way","kids"] ⋯
 have Qbx:=zGo l.prog w base 2 C Qbr.mo Qbo.mo F45;obtain⟨_,_,F50⟩:=fk X G d50 ["one","two"] ⋯
 have Qbl:=zCx l.prog w base 2 Qbf.mo F50;obtain⟨_,_,F55⟩:=fk X G d55 ["claim","cell"] ⋯
 have Qbe:=zAI l.prog w base 2 Qbf.mo F55;obtain⟨_,_,F11⟩:=fk X G d11 ["some"] ⋯
 have Qbz:=zJk l.prog w base 3 C Qb4.mo F11;obtain⟨_,_,F20⟩:=fk X G d20 ["claims","catch"] ⋯
 have Qba:=zBh l.prog w base 3 Qbu.mo Qby.mo Qb2.mo F20;obtain⟨_,_,F21⟩:=fk X G d21 ["weights","claims","catch"] ⋯
 have Qa7:=zE l.prog w base 3 B C F21 (Qbs:=Qbs.mono (by decide)) (Qbc:=Qbc.mo) (Qb6:=Qb6.mo) (Qbu:=Qbu.mo) (Qby:=Qby.mo) (Qb1:=Qb1.mo) (Qb2:=Qb2.mo)
 obtain⟨_,_,F23⟩:=fk X G d23 ["claims","catch"] ⋯
 have Qa4:=xI l.prog w base 3 B C Qb2.mo Qb6.mo Qb1.mo F23;obtain⟨_,_,F24⟩:=fk X G d24 ["claims","catch"] ⋯
 have Qa3:=zAj l.prog w base 4 B C Qb4.mo Qb1.mo Qa7.mo F24;obtain⟨_,_,F19⟩:=fk X G d19 ["way","weights","claims","catch"] ⋯
 have Qat:=lB l.prog w base 5 B C Qb5.mo Qb4.mo Qby.mo Qb2.mo Qa7.mo Qba.mo Qa4.mo Qa3.mo F19 2;obtain⟨_,_,F18⟩:=fk X G d18 ["way","weights","claims","catch"] ⋯
 have Qb0:=zII l.prog w base 8 B Qb2.mo Qat.mo Qbw.mo Qao.mo F18;obtain⟨_,_,F54⟩:=fk X G d54 ["custom"] ⋯
 have Qa5:=oO l.prog w base 0 F54  10;obtain⟨_,_,F31⟩:=fk X G d31 ["custom"] ⋯
 have Qbb:=rV l.prog w base 2 Qbp.mo Qbo.mo F31 10;obtain⟨_,_,F34⟩:=fk X G d34 ["custom"] ⋯
 have Qbq:=wR l.prog w base 2 B Qbo.mo F34 10;obtain⟨_,_,F26⟩:=fk X G d26 ["way","weights","kids"] ⋯
 have Qb8:=zLm l.prog w base 13 B C R Qaz.mo Qaq.mo Qbb.mo Qbq.mo F26;obtain⟨_,_,F32⟩:=fk X G d32 ["custom"] ⋯
 have Qbh:=zBX l.prog w base 13 B Qbb.mo F32;obtain⟨_,_,F35⟩:=fk X G d35 ["custom","some"] ⋯
 have Qbt:=zGO l.prog w base 13 B Qbo.mo Qbb.mo F35;obtain⟨_,_,F39⟩:=fk X G d39 ["custom","amounts"] ⋯
 have Qas:=sE l.prog w base 13 B R Qbb.mo F39;obtain⟨_,_,F33⟩:=fk X G d33 ["custom"] ⋯
 have Qa1:=xO l.prog w base 14 Qbo.mo Qbh.mo F33;obtain⟨_,_,F42⟩:=fk X G d42 ["custom","amounts","one","other"] ⋯
 have Qbi:=zCT l.prog w base 14 B ET Qbr.mo Qbo.mo Qb4.mo Qbh.mo Qbt.mo Qa6.mo Qbz.mo Qb0.mo F42;obtain⟨_,_,F52⟩:=fk X G d52 ["cell","kids"] ⋯
 have Qbj:=zCn l.prog w base 14 Qb8.mo F52;obtain⟨_,_,F41⟩:=fk X G d41 ["custom","amounts","path"] ⋯
 have Qbm:=zCO l.prog w base 15 B C Qbo.mo Qbi.mo F41;obtain⟨_,_,F53⟩:=fk X G d53 ["script"] ⋯
 have Qay:=xY l.prog w base 15 B Qaw.mo Qbj.mo Qb9.mo Qbd.mo F53;obtain⟨_,_,F43⟩:=fk X G d43 ["custom"] ⋯
 have Qbk:=tT l.prog w base 14 Qbp.mo Qbr.mo Qbo.mo Qa6.mo Qb8.mo Qau.mo F43 10;obtain⟨_,_,F44⟩:=fk X G d44 ["custom"] ⋯
 have Qb3:=zDn l.prog w base 14 B Qbp.mo Qbr.mo Qbo.mo Qa6.mo Qb8.mo Qbn.mo Qbx.mo F44 10;obtain⟨_,_,F37⟩:=fk X G d37 ["custom","catch"] ⋯
 have Qbg:=uA l.prog w base 15 B Qbp.mo Qbr.mo Qbo.mo Qa6.mo Qb0.mo Qa1.mo F37 10;obtain⟨_,_,F36⟩:=fk X G d36 ["custom","catch"] ⋯
 have Qbv:=zHg l.prog w base 26 Qb2.mo Qao.mo Qbh.mo Qbg.mo F36;obtain⟨_,_,F40⟩:=fk X G d40 ["custom","amounts","path"] ⋯
 have Qa2:=oV l.prog w base 16 B Qbp.mo Qbo.mo Qbt.mo Qbm.mo F40 10;obtain⟨_,_,F38⟩:=fk X G d38 ["custom","amounts"] ⋯
 have Qa0:=zG l.prog w base 27 B C Qa8.mo Qb2.mo Qbb.mo Qbz.mo Qa2.mo Qas.mo F38;obtain⟨_,_,F56⟩:=fk X G d56 ["custom","cell"] ⋯
 have Qav:=vT l.prog w base 27 B Qbf.mo Qa5.mo Qbv.mo Qbe.mo Qbl.mo F56;have F58:Fn K mg "law" sI ["script"] _ _:=⟨wW (st:=sI) l58 c58 k58,(wW (st:=sI) l58 c58 k58).binds (ps:=["script"]) ⋯,k58,Vc X G a58⟩
 have Qca:=zPG l.prog w base 28 B Qa5.mo Qbk.mo Qb3.mo Qbl.mo Qay.mo Qax.mo Qav.mo Qa0.mo F58;exact zNr Qca law_true
end Lw
open PySem PySem.W PyProof.Rows
local macro_rules | `(tactic| walk_at "fk")=>`(tactic| (refine' Lw.fkm ?a ?l ?c ?k;(case a=>k_is);(case l=>k_is);(case c=>k_is);(case k=>k_is)))
set_option maxRecDepth 100000 in
set_option maxHeartbeats 0 in
theorem PySem.Challenge.cw_catchhall_k50_whole_lacks_found_holds : PySem.Challenge.rw_catchhall_k50_whole_lacks_found.Holds := by
 w_on;o_law;k_head;(case hw=>w_witness2)
 k_fill
 refine L3.zQE (l:=PySem.Challenge.rw_catchhall_k50_whole_lacks_found) (k:=29) rfl rfl ⟨rfl,by decide,by decide⟩ (fun w h Y=>PySem.W.km_in_of Y) (fun w h Y=>PySem.W.km_tabs_of Y _ (.head _)) ?F
 case F=>
  intro w mg fa h KX G hmg
  refine' Lw.zOv KX G hmg ?d0 ?d1 ?d2 ?d3 ?d4 ?d5 ?d6 ?d7 ?d8 ?d9 ?d10 ?d11 ?a12 ?l12 ?c12 ?k12 ?tq ?tn ?d13 ?d14 ?d15 ?d16 ?d17 ?d18 ?d19 ?d20 ?d21 ?d22 ?d23 ?d24 ?d25 ?d26 ?d27 ?d28 ?d29 ?d30 ?d31 ?d32 ?d33 ?d34 ?d35 ?d36 ?d37 ?d38 ?d39 ?d40 ?d41 ?d42 ?d43 ?d44 ?d45 ?d46 ?d47 ?d48 ?d49 ?d50 ?d51 ?d52 ?d53 ?d54 ?d55 ?d56 ?d57 ?a58 ?l58 ?c58 ?k58 ?z_abs ?z_sorted ?z_range ?z_len ?z_sum ?z_zip ?z_tuple ?z_max ?z_enumerate ?z_min ?z_list ?KT ?CC ?RR ?EE
  (case a12|l12|c12|k12=>k_is)
  (case tq=>first | k_is | kernel_rfl | kn_code | decide +kernel)
  (case tn=>first | k_is | kernel_rfl | kn_code | decide +kernel)
  (case a58|l58|c58|k58=>k_is)
  (case d0|d1|d2|d3|d4|d5|d6|d7|d8|d9|d10|d11|d13|d14|d15|d16|d17|d18|d19|d20|d21|d22|d23|d24|d25|d26|d27|d28|d29|d30|d31|d32|d33|d34|d35|d36|d37|d38|d39|d40|d41|d42|d43|d44|d45|d46|d47|d48|d49|d50|d51|d52|d53|d54|d55|d56|d57=>walk_at "fk")
  (case z_abs|z_sorted|z_range|z_len|z_sum|z_zip|z_tuple|z_max|z_enumerate|z_min|z_list=>k_is)
  (case KT=>refine' ⟨⟩<;>(first | kit_is | (show _=some true;kit_is) | (show _=some false;kit_is) | rfl | decide +kernel))
  (case CC=>
   intro h mg X G
   refine' Lw.zQu X G ?n_BOAT ?n_CATCH ?n_DEEPEST ?n_HALF ?pHALF0_l ?n_MOST_BOATS ?n_NOUGHT ?pNOUGHT1_l ?n_OPENED ?pOPENED2_l ?n_OVER ?n_PAIR ?n_WEIGHTED ?pWEIGHTED3_l ?n_CONTRARY ?aR<;>try first | k_is | kit_is | k_exc | rfl | decide +kernel | kernel_rfl)
  (case RR=>
   intro h mg X G
   refine' Lw.zQL X G ?n_BadClaim ?x_BadClaim ?n_BadWay ?x_BadWay ?n_BadWeights ?x_BadWeights ?n_NoFraction ?x_NoFraction ?n_Outside ?x_Outside ?n_TooMany ?x_TooMany ?n_Unlike ?x_Unlike<;>try first | k_is | kit_is | k_exc | rfl | decide +kernel | kernel_rfl)
  (case EE=>
   intro h mg X G
   refine' Lw.zRc X G ?n_Outside ?g5 ?g6 ?e1_Outside ?e2_Outside ?e3_Outside ?e4_Outside ?e7_Outside ?e8_Outside ?cx_Outside ?eo_Outside<;>try first | k_is | kit_is | k_exc | rfl | decide +kernel | kernel_rfl)
