
import PyProof.Rows.All
import Wide.All
import OpenK.AllK
import Wide.FinOn
import Lean
import PyProof.EqAt
import PyProof.EqKinds
import PyProof.TupleCall
import PyProof.NeKinds
import KE.KRevIter
import PyProof.Rows.SumAny
import PySem.Challenge.RW_catchhall_k40_alike_or_not
noncomputable section
set_option Elab.async false
set_option linter.all false
set_option maxRecDepth 100000
def Qb:=@List.mem_cons_self
def Qc:=@List.mem_cons
def Qd:=@List.mem_cons_of_mem
def Qe:=@List.length_map
def Qf:=@Nat.le_refl
def Qg:=@Rat.le_refl
def Qh:=@Rat.le_of_lt
def Qi:=@List.length_append
def Qj:=@List.mem_of_getElem?
def Qk:=@List.mem_range
def Ql:=@List.size_toArray
def Qm:=@List.mem_map
def Qn:=@List.length_cons
def Qo:=@List.map_cons
def Qp:=@List.pairwise_cons
def Qq:=@List.getElem?_eq_getElem
def Qr:=@List.mem_singleton
def Qs:=@Nat.lt_of_lt_of_le
def Qt:=@Nat.ne_of_lt
def Qu:=@List.getElem?_map
def Qv:=@List.getD_eq_getElem?_getD
def Qw:=@List.map_map
def Qx:=@List.mem_append_right
def Qy:=@List.getElem?_eq_some_iff
def Qz:=@List.getElem?_eq_none
def Q2:=@List.length_range
def Q3:=@Rat.le_trans
def Q4:=@List.sum_cons
def Q5:=@Nat.le_trans
def Q6:=@PySem.boot_len
def Q7:=@List.length_set
def Q8:=@List.mem_append
def Q9:=@List.map_append
def Va:=@List.getElem?_set_ne
def Vb:=@List.getElem?_set_self
def Vc:=@List.mem_append_left
def Vd:=@Rat.div_def
def Ve:=@Rat.intCast_add
def Vf:=@List.append_nil
def Vg:=@PySem.W.mg_of
def Vh:=@List.getElem?_append_right
def Vi:=@Int.emod_nonneg
def Vj:=@Option.some.inj
def Vk:=@List.getElem?_append_left
def Vl:=@Nat.zero_le
def Vm:=@Rat.intCast_mul
def Vn:=@List.getLast?_eq_getElem?
def Vo:=@List.length_reverse
def Vp:=@List.map_congr_left
def Vq:=@PySem.W.mg_none_of
def Vr:=@List.append_assoc
def Vs:=@Rat.mul_le_mul_of_nonneg_right
def Vt:=@Rat.div_mul_cancel
def Vu:=@List.flatMap_cons
def Vv:=@Nat.lt_irrefl
def Vw:=@Int.mul_one
def Vx:=@List.take_length
def Vy:=@Nat.lt_succ_self
def Vz:=@List.lookup_cons
def V0:=@Nat.succ_pos
def V3:=@List.not_mem_nil
def V4:=@Int.emod_lt_of_pos
def V5:=@Rat.le_total
def V6:=@Rat.not_lt
def V7:=@List.sum_append
def V8:=@Bool.and_eq_true
def V9:=@Nat.pow_le_pow_right
def Xa:=@List.getElem?_range
def Xb:=@Rat.mul_inv_cancel
def Xc:=@Rat.intCast_le_intCast
def Xd:=@List.map_nil
def Xe:=@Rat.num_divInt_den
def Xf:=@Int.toNat_natCast
def Xg:=@List.all_eq_true
def Xh:=@Int.le_refl
def Xi:=@Int.natCast_nonneg
def Xj:=@Nat.le_of_lt
def Xk:=@Bool.or_eq_true
def Xl:=@Nat.zero_add
def Xm:=@Int.le_trans
def Xn:=@Bool.false_eq_true
def Xo:=@Nat.lt_succ_of_lt
def Xp:=@Nat.sub_self
def Xq:=@List.length_take
def Xr:=@PySem.mem_of_lookup
def Xs:=@List.length_drop
def Xt:=@List.replicate_succ
def Xu:=@List.nil_append
def Xv:=@Nat.lt_of_le_of_lt
def Xw:=@List.head?_eq_getElem?
def Xx:=@List.pairwise_map
def Xy:=@List.getLast?_map
def Xz:=@Rat.mul_le_mul_of_nonneg_left
def X0:=@List.mem_of_mem_take
def X1:=@List.flatMap_append
def X2:=@PySem.F.excBase_ValueError
def X3:=@Array.length_toList
def X4:=@PyProof.Rows.callWith_type1
def X5:=@List.nodup_cons
def X6:=@List.length_replicate
def X7:=@List.flatten_cons
def X8:=@Int.le_of_lt
def X9:=@Int.mul_ne_zero
def Yc:=@List.length_nil
def Yd:=@List.getLast?_cons
def Yf:=@Nat.lt_or_eq_of_le
def Yg:=@List.mem_iff_getElem?
def Yh:=@PySem.W.kia_one
def Yi:=@List.ext_getElem?
def Yj:=@Rat.le_of_mul_le_mul_right
def Yk:=@Bool.false_ne_true
def Ym:=@Nat.ne_of_gt
def Yn:=@List.of_mem_zip
def Yo:=@List.Pairwise.imp_of_mem
def Yp:=@Int.natCast_add
def Yq:=@Int.add_mul
def Yr:=@Rat.divInt_eq_div
def Ys:=@Int.zero_add
def Yt:=@List.getLast?_cons_cons
def Yu:=@Rat.intCast_nonneg
def Yv:=@List.mem_filter
def Yw:=@List.filterMap_cons
def Yy:=@Int.pow_pos
def Yz:=@List.head?_map
def Y0:=@Rat.mul_nonneg
def Y1:=@List.take_append_drop
def Y2:=@Option.isSome_iff_exists
def Y3:=@List.getElem?_replicate
def Y4:=@Nat.max_le
def Y5:=@Nat.min_eq_left
def Y6:=@List.take_of_length_le
def Y7:=@List.drop_eq_nil_of_le
def Y8:=@Nat.succ_le_succ
def Y9:=@List.pairwise_iff_getElem
def Ua:=@List.eq_nil_of_length_eq_zero
def Ub:=@Nat.min_self
def Uc:=@List.drop_eq_getElem_cons
def Ud:=@List.forIn_cons
def Ue:=@List.filterMap_cons_none
def Uf:=@List.filterMap_cons_some
def Ug:=@List.take_zero
def Uh:=@Nat.succ.inj
def Ui:=@List.cons_append
def Uj:=@Nat.le_of_eq
def Uk:=@List.getElem?_reverse
def Ul:=@Bool.or_false
def Um:=@Int.mul_pos
def Uo:=@List.take_succ_cons
def Up:=@Int.add_assoc
def Uq:=@Classical.choose_spec
def Ur:=@List.pairwise_singleton
def Us:=@List.mem_reverse
def Ut:=@List.mem_of_mem_drop
def Uu:=@List.flatMap_def
def Uv:=@List.flatMap_nil
def Uw:=@PySem.W.hideAll_get
def Ux:=@List.mem_filterMap
def Uy:=@PySem.F.slot_tuple_add
def Uz:=@PySem.F.entry_tuple_add
def U0:=@PySem.F.args_tuple_add_2
def U1:=@List.foldl_cons
def U2:=@List.length_singleton
def U3:=@Bool.and_false
def U5:=@Array.getElem?_toList
def U6:=@Nat.le_total
def U7:=@Int.gcd_dvd_left
def U8:=@Int.gcd_dvd_right
def U9:=@Rat.divInt_mul_divInt
def Wa:=@List.take_succ
def Wb:=@Nat.min_eq_right
def Wc:=@Rat.zero_mul
def Wd:=@List.mem_of_getLast?
def We:=@Nat.lt_trichotomy
def Wf:=@Nat.eq_zero_or_pos
def Wg:=@PySem.intBits_le_iff
def Wh:=@List.any_cons
def Wi:=@PySem.F.plainAttrs_list
def Wj:=@List.set_append_right
def Wk:=@List.range_succ
def Wl:=@Nat.succ_ne_self
def Wm:=@Nat.add_sub_cancel
def Wn:=@List.length_zip
def Wo:=@Int.mul_nonneg
def Wp:=@Int.mul_comm
def Wq:=@Int.mul_assoc
def Wr:=@List.sum_nil
def Ws:=@Rat.intCast_sub
def Wu:=@List.take_left
def Wv:=@List.getLast?_reverse
def Ww:=@List.pairwise_append
def Wx:=@Int.add_zero
def Wz:=@List.getElem?_drop
def W3:=@List.map_id'
def W4:=@Int.pow_add
def W5:=@List.range_eq_range'
def W6:=@Nat.le_of_ble_eq_true
def W7:=@List.getElem?_eq_none_iff
def W8:=@PySem.W.cellsFrom_some
def W9:=@List.length_dropLast
def Qaa:=@Int.eq_ofNat_of_zero_le
def Qab:=@Int.neg_ediv_of_dvd
def Qac:=@Int.fdiv_eq_ediv_of_nonneg
def Qad:=@Int.fmod_eq_emod_of_nonneg
def Qae:=@Array.getElem?_eq_some_iff
def Qaf:=@PySem.F.plain_list_iadd
def Qag:=@List.toList_toArray
def Qah:=@List.mergeSort_perm
def Qai:=@List.pairwise_mergeSort
def Qaj:=@List.getElem?_zip_eq_some
def Qak:=@Nat.lt_two_pow_self
def Qal:=@Nat.le_of_succ_le_succ
def Qam:=@Classical.byContradiction
abbrev Fg_:=PySem.W.Frag
abbrev Ja:=PySem.Value
abbrev Jb:=PySem.Shared
abbrev Jc:=PySem.Addr
abbrev Je:=PySem.Heap
abbrev Jf:=PySem.Program
abbrev Jg:=PySem.World
abbrev Jh:=PySem.Around
abbrev Ji:=PySem.Stmt
def Jj:=@decide_eq_false
def Jk:=@if_pos
def Jl:=@if_neg
def Jm:=@PySem.wpAny_Name
def Jn:=@PySem.wpAny_isTrue_Compare1
def Jo:=@PySem.wpAny_execs_nil
def Jp:=@PySem.wpAny_execs_cons
def Jq:=@PySem.wpAny_assign_Name
def Jr:=@PySem.wpAny_bind
def Js:=@PySem.wpAny_passesOwn
def Ju:=@PySem.wpAny_pure
def Jv:=@PyProof.Rows.boot_range
def Jw:=@PySem.sizeLine_eq
def Jx:=@PySem.wpAny_Call_Name_kw
def Jy:=@PySem.concat_meets
def Jz:=@PySem.noFill_tuple_add
def J0:=@PySem.seq_tuple_add
def J1:=@PyProof.Rows.Subscript_
def J2:=@PySem.seqIndex_of
def J3:=@PySem.seqIndex_neg
def J4:=@PyProof.Rows.subscriptTail_builtinR
def J5:=@PySem.wpAny_getItem_list_slice
def J6:=@decide_eq_true
def J7:=@dif_pos
def J8:=@of_decide_eq_true
def J9:=@decide_eq_true_eq
def Ma:=@PyProof.Rows.boot_isinstance
def Mb:=@PySem.wpAny_comprehension_free
def Mc:=@PySem.lookup_relabel_local
def Md:=@PySem.codeAny_compStart_list
def Me:=@PySem.wpAny_pyIter_enum
def Mf:=@PySem.wpAny_pyIter_revIter
def Mh:=@PyProof.Rows.boot_tuple
namespace L2
open PySem PySem.Spec PyProof.Rows
abbrev Key:=Sum Int Str
def zRN:Key->Ja->Bool
 | .inl k,v=>Value.isInt k v
 | .inr x,v=>Value.isStrOf x v
def zUk(w:Jg):Key->Int
 | .inl k=>hashInt k
 | .inr x=>hashStr w x
def dE:∀ {k:Key} {v:Ja},zRN k v=true->(∃ i t,k=Sum.inl i/\v=Value.int i t)∨(∃ x t,k=Sum.inr x/\v=Value.str x t)
 | .inl i,v,h=>by
  obtain⟨t,e⟩:=Value.isInt_shape (k:=i) (v:=v) h;exact .inl ⟨i,t,rfl,e⟩
 | .inr x,v,h=>by
  obtain⟨t,e⟩:=Value.isStrOf_shape (x:=x) (v:=v) h;exact .inr ⟨x,t,rfl,e⟩
def zRD(a b:Int):decide ((Sum.inl a:Key)=Sum.inl b)=(a==b):=by
 by_cases e:a=b
 ·subst e;simp
 ·have h:¬ (Sum.inl a:Key)=Sum.inl b:=fun q=>e (Sum.inl.inj q)
  rw[Jj h];exact(beq_eq_false_iff_ne.mpr e).symm
def zRh(a b:Str):decide ((Sum.inr a:Key)=Sum.inr b)=decide (a=b):=by
 by_cases e:a=b
 ·subst e;simp
 ·have h:¬ (Sum.inr a:Key)=Sum.inr b:=fun q=>e (Sum.inr.inj q)
  rw[Jj h,Jj e]
def zRE(a:Int)(b:Str):decide ((Sum.inl a:Key)=Sum.inr b)=false:=Jj (fun q=>nomatch q)
def zRo(a:Str)(b:Int):decide ((Sum.inr a:Key)=Sum.inl b)=false:=Jj (fun q=>nomatch q)
def zJN(prog:Jf)(w:Jg):PySem.KeyKind prog w Key where
 is:=zRN
 hash:=zUk w
 inj:=fun v a b ha hb=>by
  rcases dE ha with⟨i,t,rfl,rfl⟩ | ⟨x,t,rfl,rfl⟩
  ·rcases dE hb with⟨j,u,rfl,e⟩ | ⟨y,u,rfl,e⟩
   ·injection e with e1 _;rw[e1]
   ·exact nomatch e
  ·rcases dE hb with⟨j,u,rfl,e⟩ | ⟨y,u,rfl,e⟩
   ·exact nomatch e
   ·injection e with e1 _;rw[e1]
 byValue:=fun k v h=>by
  rcases dE h with⟨i,t,rfl,rfl⟩ | ⟨x,t,rfl,rfl⟩<;>rfl
 pyHash:=fun hv h=>by
  rcases dE hv with⟨i,t,rfl,rfl⟩ | ⟨x,t,rfl,rfl⟩
  ·exact wpAny_pyHash_int h
  ·exact wpAny_pyHash_str h
 eqBool:=fun hu hv h=>by
  rcases dE hu with⟨i,t,rfl,rfl⟩ | ⟨x,t,rfl,rfl⟩
  ·rcases dE hv with⟨j,u,rfl,rfl⟩ | ⟨y,u,rfl,rfl⟩
   ·rw[zRD] at h;exact wpAny_eqBool_int h
   ·rw[zRE] at h;exact SeqAt.EqAt.int_str i t y u _ _ _ _ h
  ·rcases dE hv with⟨j,u,rfl,rfl⟩ | ⟨y,u,rfl,rfl⟩
   ·rw[zRo] at h;exact SeqAt.EqAt.str_int x t j u _ _ _ _ h
   ·rw[zRh] at h;exact wpAny_eqBool_str h
 «strs» := fun k x t v h=>by
  rcases dE h with⟨i,u,rfl,e⟩ | ⟨y,u,rfl,e⟩
  ·exact nomatch e
  ·injection e with e1 _
   subst e1;cases v<;>rfl
inductive V where
 | non | bl (b:Bool) | int (i:Int) | str (x:Str) | byt (b:Array UInt8) | flt (b:UInt64) | ref (a:Jc) | ty (n:String)
 deriving DecidableEq
def cW:V->Ja->Prop
 | .non,u=>u=Value.none
 | .bl b,u=>u=Value.bool b
 | .int i,u=>∃ t,u=Value.int i t
 | .str x,u=>∃ t,u=Value.str x t
 | .byt b,u=>∃ t,u=Value.bytes b t
 | .flt b,u=>∃ t,u=Value.float b t
 | .ref a,u=>u=Value.ref a
 | .ty n,u=>u=Value.type n
abbrev cX:List V->List Ja->Prop:=Paired cW
def cX.length{xs:List V}{us:List Ja}(r:cX xs us):xs.length=us.length:=Paired.length r
def cX.get:∀ {xs:List V} {us:List Ja} {i:Nat} {x:V},cX xs us->xs[i]?=some x->∃ u,us[i]?=some u/\cW x u
 | _,_,_,_,.nil,e=>by simp at e
 | _,_,0,_,.cons r _,e=>by simp at e;subst e;exact⟨_,rfl,r⟩
 | _,_,i+1,x,.cons _ t,e=>by
  obtain⟨u,h1,h2⟩:=cX.get (i:=i) (x:=x) t (by simpa using e)
  exact⟨u,by simpa using h1,h2⟩
def cX.set{x:V}{u:Ja}(r:cW x u):∀ {xs:List V} {us:List Ja} (i:Nat),cX xs us->cX (xs.set i x) (us.set i u)
 | _,_,_,.nil=>.nil
 | _,_,0,.cons _ t=>.cons r t
 | _,_,i+1,.cons q t=>.cons q (cX.set r i t)
def cX.append:∀ {xs ys:List V} {us ws:List Ja},cX xs us->cX ys ws->cX (xs++ys) (us++ws)
 | _,_,_,_,.nil,s=>s
 | _,_,_,_,.cons r t,s=>.cons r (cX.append t s)
def cX.take:∀ {xs:List V} {us:List Ja} (n:Nat),cX xs us->cX (xs.take n) (us.take n)
 | _,_,0,_=>.nil
 | _,_,_+1,.nil=>.nil
 | _,_,n+1,.cons r t=>.cons r (cX.take n t)
def cX.drop:∀ {xs:List V} {us:List Ja} (n:Nat),cX xs us->cX (xs.drop n) (us.drop n)
 | _,_,0,r=>r
 | _,_,_+1,.nil=>.nil
 | _,_,n+1,.cons _ t=>cX.drop n t
def cX.none_of:∀ {xs:List V} {us:List Ja} {i:Nat},cX xs us->xs[i]?=none->us[i]?=none:=fun {xs us i} r e=>by
 have h1:=r.length;have h2:xs.length<=i:=W7.mp e;exact W7.mpr (by omega)
def zTD:Option V->Option Ja->Prop
 | some v,some u=>cW v u
 | none,none=>True
 | _,_=>False
def KV{r:Type}:List (r×V)->List (r×Ja)->Prop:=Paired fun(p:r×V) (q:r×Ja)=>p.1=q.1/\cW p.2 q.2
def kV:Key->V
 | .inl i=>.int i
 | .inr x=>.str x
inductive HO where
 | lst (xs:List V)
 | tup (xs:List V)
 | dK (kvs:List (Key×V)) | dT (kvs:List (List Key×V))
 | set (S:Int->Bool) (n:Nat)
 | ins (C dx:Jc) (fs:List (Str×V))
 | own (x:Jc)
 | xd (fs:List (Str×V))
 | met (f x:Jc)
 | rng (lo hi:Int)
 | frz (o:Obj) (u:HO)
 | tbl (ps:Array Ja)
 | ext (φ:Je->Prop)
abbrev Hp:=Jc->Option HO
def upd(H:Hp)(a:Jc)(o:HO):Hp:=fun b=>if b=a then some o else H b
def aR{H:Hp}{a:Jc}{o:HO}:upd H a o a=some o:=by unfold upd;rw[Jk rfl]
def aV{H:Hp}{a b:Jc}{o:HO}(h:b≠a):upd H a o b=H b:=by unfold upd;rw[Jl h]
def zQb{H:Hp}{a b:Jc}{o u:HO}(h:H a=some o)(h':H b=some u)(d:o≠u):a≠b:=by
 intro e;subst e;rw[h] at h';exact d (Vj h')
def aY{H:Hp}{a b:Jc}{o:HO}(h:H a=some o)(h':H b=none):a≠b:=by
 intro e;subst e;rw[h] at h';cases h'
section
variable(P:Jf)(w:Jg)
def mQ(H:Hp)(h:Je)(a:Jc):HO->Prop
 | .lst xs=>xs.length<=sizeLine/\∃(its:List Ja)(n:Nat),cX xs its/\h.get? a=some { cls:=.type "list", data:=.seq its.toArray n }
 | .tup xs=>xs.length<=sizeLine/\∃ its:List Ja,cX xs its/\IsTup h a its.toArray
 | .dK kvs=>kvs.length<=sizeLine/\(a==sysModules)=false/\∃ vs,KV kvs vs/\h.DictOf (zJN P w) a vs
 | .dT kvs=>kvs.length<=sizeLine/\(a==sysModules)=false/\∃ xs:List (List Key×Jc×Ja),
   Paired (fun(p:List Key×V) (q:List Key×Jc×Ja)=>p.1=q.1/\H q.2.1=some (.tup (p.1.map kV))/\cW p.2 q.2.2) kvs xs/\
   ∃ o es ep,h.get? a=some o/\o.ExactDict/\o.data=.dict es ep/\es.toList=xs.map (entryOfKey (tupleKind (zJN P w)))/\(xs.map (·.1)).Nodup
 | .set S n=>h.SetOf (intKind P w) a S n
 | .ins C dx fs=>H dx=some (.own a)/\fs.length<=1000/\dx≠a/\h.get? a=some (PySem.W.instObj C dx)/\
   ∃ mA,h.Ns1 dx mA/\(∀ f,zTD (fs.lookup f) (mA f))/\PySem.Within mA (fs.map (·.1))
 | .own _=>∃ o,h.get? a=some o
 | .xd fs=>∃ mA,h.Ns1 a mA/\∀ f,zTD (fs.lookup f) (mA f)
 | .rng lo hi=>∃ t u v,h.get? a=some { cls:=.type "range", data:=.fields #[.int lo t,.int hi u,.int 1 v] }
 | .frz o u=>h.get? a=some o/\mQ H h a u
 | .tbl ps=>h.get? a=some { cls:=.none,data:=.fields ps }
 | .met f x=>h.get? a=some (PySem.W.methodObj (.ref f) (.ref x))
 | .ext r=>r h/\(∃ o,h.get? a=some o)/\∀ h1 h2:Je,r h1->(∀ o,h1.get? a=some o->h2.get? a=some o)->r h2
def HOk(H:Hp)(h:Je):Prop:=∀ a o,H a=some o->mQ P w H h a o
end
section
variable{P:Jf}{w:Jg}{H H':Hp}{h h':Je}{a:Jc}{o:HO}
def mQ.lt(x:mQ P w H h a o):a<h.objs.size:=by
 cases o with
 | lst xs=>obtain⟨_,_,_,_,e⟩:=x;exact Heap.lt_size e
 | tup xs=>obtain⟨_,_,_,p⟩:=x;exact p.lt
 | dK kvs=>obtain⟨_,_,_,_,o,_,_,e,_⟩:=x;exact Heap.lt_size e
 | dT kvs=>obtain⟨_,_,_,_,o,_,_,e,_⟩:=x;exact Heap.lt_size e
 | set S n=>obtain⟨o,_,_,_,e,_⟩:=x;exact Heap.lt_size e
 | ins C dx fs=>obtain⟨_,_,_,e,_⟩:=x;exact Heap.lt_size e
 | own y=>obtain⟨_,e⟩:=x;exact Heap.lt_size e
 | xd fs=>obtain⟨_,⟨_,_,_,e,_⟩,_⟩:=x;exact Heap.lt_size e
 | rng lo hi=>obtain⟨_,_,_,e⟩:=x;exact Heap.lt_size e
 | frz ob u=>obtain⟨e,_⟩:=x;exact Heap.lt_size e
 | tbl ps=>exact Heap.lt_size (show h.get? a=some _ from x)
 | met f y=>exact Heap.lt_size (show h.get? a=some _ from x)
 | ext i=>obtain⟨_,⟨_,e⟩,_⟩:=x;exact Heap.lt_size e
def Paired.mapP{s g:Type}{F G:s->g->Prop}:∀ {l₁:List s} {l₂:List g},Paired F l₁ l₂->(∀ a b,F a b->G a b)->Paired G l₁ l₂
 | _,_,.nil,_=>.nil
 | _,_,.cons r t,f=>.cons (f _ _ r) (Paired.mapP t f)
def mQ.stay(x:mQ P w H h a o)(k:∀ b u,(b=a∨H b=some (.own a))->h.get? b=some u->h'.get? b=some u)
  (ho:∀ b,H b=some (.own a)->H' b=some (.own a)) (ht:∀ b xs,H b=some (.tup xs)->H' b=some (.tup xs)):mQ P w H' h' a o:=by
 induction o with
 | lst xs=>obtain⟨z,its,n,r,e⟩:=x;exact⟨z,its,n,r,k _ _ (.inl rfl) e⟩
 | tup xs=>obtain⟨z,its,r,ob,e,c⟩:=x;exact⟨z,its,r,ob,k _ _ (.inl rfl) e,c⟩
 | dK kvs=>obtain⟨z,y,vs,r,ob,es,ep,e,c⟩:=x;exact⟨z,y,vs,r,ob,es,ep,k _ _ (.inl rfl) e,c⟩
 | dT kvs=>
  obtain⟨z,y,xs,r,ob,es,ep,e,c⟩:=x;exact⟨z,y,xs,Paired.mapP r fun p q z=>⟨z.1,ht _ _ z.2.1,z.2.2⟩,ob,es,ep,k _ _ (.inl rfl) e,c⟩
 | set S n=>obtain⟨ob,es,ep,t,e,c⟩:=x;exact⟨ob,es,ep,t,k _ _ (.inl rfl) e,c⟩
 | ins C dx fs=>
  obtain⟨d,z,ne,e,mA,⟨od,es,ep,e2,c⟩,r⟩:=x;exact⟨ho _ d,z,ne,k _ _ (.inl rfl) e,mA,⟨od,es,ep,k _ _ (.inr d) e2,c⟩,r⟩
 | own y=>obtain⟨ob,e⟩:=x;exact⟨ob,k _ _ (.inl rfl) e⟩
 | xd fs=>obtain⟨mA,⟨od,es,ep,e,c⟩,r⟩:=x;exact⟨mA,⟨od,es,ep,k _ _ (.inl rfl) e,c⟩,r⟩
 | rng lo hi=>obtain⟨t,u,v,e⟩:=x;exact⟨t,u,v,k _ _ (.inl rfl) e⟩
 | frz ob u ih=>obtain⟨e,q⟩:=x;exact⟨k _ _ (.inl rfl) e,ih q⟩
 | tbl ps=>
  have e:h.get? a=some { cls:=.none,data:=.fields ps }:=x;show h'.get? a=some { cls:=.none,data:=.fields ps }
  exact k a _ (.inl rfl) e
 | met f y=>
  have e:h.get? a=some (PySem.W.methodObj (.ref f) (.ref y)):=x;show h'.get? a=some (PySem.W.methodObj (.ref f) (.ref y))
  exact k a _ (.inl rfl) e
 | ext i=>obtain⟨p,⟨o,e⟩,st⟩:=x;exact⟨st _ _ p fun o q=>k _ _ (.inl rfl) q,⟨o,k _ _ (.inl rfl) e⟩,st⟩
def HOk.lt(x:HOk P w H h)(e:H a=some o):a<h.objs.size:=(x a o e).lt
def HOk.fresh(x:HOk P w H h)(e:h.objs.size<=a):H a=none:=by
 cases q:H a with
 | none=>rfl
 | some u=>exact absurd (Qs (x.lt q) e) (Vv _)
def HOk.kept(x:HOk P w H h)(k:∀ b u,h.get? b=some u->h'.get? b=some u):HOk P w H h':=fun a o e=>
 (x a o e).stay (fun b u _ q=>k b u q) (fun _ q=>q) fun _ _ q=>q
def HOk.laid(x:HOk P w H h)(k:∀ b u,h.get? b=some u->h'.get? b=some u)(hp:h.objs.size<=a)(new:mQ P w (upd H a o) h' a o):HOk P w (upd H a o) h':=fun b u e=>by
 have hn:=x.fresh hp;by_cases hb:b=a
 ·subst hb;rw[aR] at e;cases e;exact new
 ·rw[aV hb] at e
  exact(x b u e).stay (fun c v _ q=>k c v q) (fun c q=>by rw[aV (aY q hn)];exact q) fun c xs q=>by rw[aV (aY q hn)];exact q
end
def Rd(H:Hp)(a:Jc)(u:HO):Prop:=H a=some u∨∃ o,H a=some (.frz o u)
def Rd.ok{P:Jf}{w:Jg}{H:Hp}{h:Je}{a:Jc}{u:HO}(r:Rd H a u)(x:HOk P w H h):mQ P w H h a u:=by
 rcases r with r | ⟨o,r⟩
 ·exact x a u r
 ·obtain⟨_,q⟩:=x a _ r
  exact q
def Mut:Option HO->Prop
 | some (.lst _)=>True
 | some (.dK _)=>True
 | some (.dT _)=>True
 | some (.set _ _)=>True
 | some (.ins _ _ _)=>True
 | some (.ext _)=>True
 | _=>False
section
variable{P:Jf}{w:Jg}{H:Hp}{h h':Je}{x e:Jc}{o':HO}
def HOk.write(ok:HOk P w H h)(mu:Mut (H x))(he:e=x∨H e=some (.own x))(k:∀ b u,b≠e->h.get? b=some u->h'.get? b=some u)(heo:∃ u,h'.get? e=some u)
  (new:mQ P w (upd H x o') h' x o'):HOk P w (upd H x o') h':=fun b u q=>by
 have nown:∀ c y,H c=some (.own y)->c≠x:=fun c y r z=>by subst z;rw[r] at mu;exact mu
 have ntup:∀ c xs,H c=some (.tup xs)->c≠x:=fun c xs r z=>by subst z;rw[r] at mu;exact mu
 by_cases hb:b=x
 ·subst hb;rw[aR] at q;cases q;exact new
 ·rw[aV hb] at q
  by_cases hbe:b=e
  ·have q':H b=some (.own x):=by
    rcases he with z | z
    ·exact absurd (hbe.trans z) hb
    ·rw[hbe];exact z
   rw[q] at q';cases q'
   obtain⟨v,hv⟩:=heo;exact⟨v,by rw[hbe];exact hv⟩
  ·refine(ok b u q).stay (fun c v hc r=>k c v ?_ r) (fun c r=>by rw[aV (nown c b r)];exact r) fun c xs r=>by rw[aV (ntup c xs r)];exact r
   rcases hc with rfl | hc
   ·exact hbe
   ·rintro rfl
    rcases he with z | z
    ·exact nown c b hc z
    ·rw[hc] at z;cases z;exact hb rfl
end
structure Un (fs ex:List Jc) (H H':Hp) (h h':Je):Prop where
 keep:∀ b o,h.get? b=some o->H b=none->b∉fs->b∉ex->h'.get? b=some o
 slot:∀ b o,h.get? b=some o->H b=none->b∈fs->b∉ex->∃ sl,h'.get? b=some { o with slots:=sl }
 free:∀ b o,h.get? b=some o->H b=none->b∉ex->H' b=none
 there:∀ b o,h.get? b=some o->b∉ex->∃ o',h'.get? b=some o'
 tups:∀ b xs,H b=some (.tup xs)->H' b=some (.tup xs)
 frzs:∀ b o u,H b=some (.frz o u)->H' b=some (.frz o u)
 tbls:∀ b ps,H b=some (.tbl ps)->∃ more,H' b=some (.tbl (ps++more))
section
variable{fs fs' ex ex':List Jc}{H H1 H2:Hp}{h h1 h2 h':Je}{a x e:Jc}{o:HO}
def Un.any(u:Un fs ex H H1 h h1){b:Jc}{ob:Obj}(q:h.get? b=some ob)(n:H b=none)(hx:b∉ex):∃ sl,h1.get? b=some { ob with slots:=sl }:=by
 by_cases hb:b∈fs
 ·exact u.slot b ob q n hb hx
 ·exact⟨ob.slots,u.keep b ob q n hb hx⟩
def Un.kept(k:∀ b u,h.get? b=some u->h'.get? b=some u):Un fs ex H H h h':=
 ⟨fun b ob q _ _ _=>k b ob q,fun b ob q _ _ _=>⟨ob.slots,k b ob q⟩,fun _ _ _ n _=>n,fun b ob q _=>⟨ob,k b ob q⟩,fun _ _ q=>q,fun _ _ _ q=>q,fun _ ps q=>⟨#[],by rw[q];simp⟩⟩
def Un.refl:Un fs ex H H h h:=Un.kept fun _ _ q=>q
def Un.laid(k:∀ b u,h.get? b=some u->h'.get? b=some u)(hp:h.objs.size<=a)(hn:H a=none):Un fs ex H (upd H a o) h h' where
 keep:=fun b u q _ _ _=>k b u q
 slot:=fun b u q _ _ _=>⟨u.slots,k b u q⟩
 free:=fun b u q n _=>by rw[aV (Qt (Qs (Heap.lt_size q) hp))];exact n
 there:=fun b u q _=>⟨u,k b u q⟩
 tups:=fun b xs q=>by rw[aV (aY q hn)];exact q
 frzs:=fun b u xs q=>by rw[aV (aY q hn)];exact q
 tbls:=fun b ps q=>⟨#[],by rw[aV (aY q hn),q];simp⟩
def Un.write(mu:Mut (H x))(he:e=x∨H e=some (.own x))(k:∀ b u,b≠e->h.get? b=some u->h'.get? b=some u)(heo:∃ u,h'.get? e=some u):Un fs ex H (upd H x o) h h':=by
 have hx:∀ b,H b=none->b≠x:=fun b n z=>by subst z;rw[n] at mu;exact mu
 have hb:∀ b,H b=none->b≠e:=fun b n z=>by
  subst z;rcases he with r | r
  ·exact hx b n r
  ·rw[n] at r;cases r
 have hm:∀ b u,H b=some u->¬ Mut (some u)->b≠x:=fun b u q nm z=>by subst z;rw[q] at mu;exact nm mu
 refine⟨fun b u q n _ _=>k b u (hb b n) q,fun b u q n _ _=>⟨u.slots,k b u (hb b n) q⟩,fun b u q n _=>by rw[aV (hx b n)];exact n,fun b u q _=>?_,
  fun b xs q=>by rw[aV (hm b _ q fun z=>z)];exact q,fun b u xs q=>by rw[aV (hm b _ q fun z=>z)];exact q,fun b ps q=>⟨#[],by rw[aV (hm b _ q fun z=>z),q];simp⟩⟩
 by_cases hbe:b=e
 ·subst hbe;exact heo
 ·exact⟨u,k b u hbe q⟩
end
def trk(h:Je)(H:Hp):List Jc:=(List.range h.objs.size).filter fun a=>(H a).isSome
def zKq(h:Je)(H:Hp):Je:=PySem.W.hideAll h (trk h H)
def zHB(h:Je)(H:Hp):(zKq h H).objs.size=h.objs.size:=PySem.W.hideAll_size _ _
def zLO{h:Je}{H:Hp}{b:Jc}{o:Obj}(e:h.get? b=some o)(n:H b=none):(zKq h H).get? b=some o:=
 Uw _ e fun hm=>by
  have q:(H b).isSome=true:=(Yv.mp hm).2;rw[n] at q;simp at q
def zPr{h:Je}{H:Hp}{b:Jc}{o:Obj}(e:(zKq h H).get? b=some o):h.get? b=some o/\H b=none:=by
 have e':h.get? b=some o:=PySem.W.of_hideAll (trk h H) e;refine⟨e',?_⟩
 cases q:H b with
 | none=>rfl
 | some x=>
  have hm:b∈trk h H:=Yv.mpr ⟨Qk.mpr (Heap.lt_size e'),by simp[q]⟩
  have z:(zKq h H).get? b=none:=PySem.W.hideAll_none (trk h H) hm;rw[z] at e;cases e
def zNT(g h:Je)(L:Jc):List (Jc×Obj):=(List.range h.objs.size).filterMap fun a=>if a=L∨(g.get? a).isSome=true then none else (h.get? a).map fun o=>(a,o)
def rest(g h:Je)(L d:Jc):List (Jc×Obj):=(zNT g h L).filter fun p=>decide (p.1≠d)
structure Mod (K:PySem.W.Frag) (mg:Str->Option Ja) (base:Je):Prop where
 kin:K.In base
 glob:base.Ns mainGlobals mg
 blt:∃ mb,base.Ns builtinsNs mb/\∀ x:Str,x ≠ "__name__" -> mb x=bootBuiltins x
 nolimit:base.NoLimit
structure Cx where
 prog:Jf
 w:Jg
 K:PySem.W.Frag
 mg:Str->Option Ja
 base:Je
 A:Jh
 N:List Str
 s₀:Jb
 H₀:Hp
 env:Env
 outer:List Env
 stack:List Env
 ex:List Jc
 fn:Str->Bool
 calm:Bool
 pn:List (Jc×Obj)
 xe:Ja->Jb->Prop
def frs(l:List Env):List Jc:=l.filterMap (·.frame)
abbrev Cx.fs(X:Cx):List Jc:=frs X.outer
def Vis(sc:Scope)(x:Str):Prop:=sc.names.lookup x=some .local∨sc.names.lookup x=some .cell∨sc.names.lookup x=some .free
def Loc(sc:Scope)(x:Str):Prop:=sc.names.lookup x=some .local∨sc.names.lookup x=some .cell
def zUu(env:Env)(h:Je)(m:Str->Option Ja)(x:Str)(u:Ja):Prop:=
 (env.kindOf x=some .local/\m x=some u)∨((env.kindOf x=some .cell∨env.kindOf x=some .free)/\∃ c,env.cells.lookup x=some c/\h.IsCell c (some u))
structure Cx.Ok (X:Cx):Prop where
 mod:Mod X.K X.mg X.base
 kind:X.env.scope.kind=.function
 glob:X.env.globals=mainGlobals
 blt:X.env.builtins=builtinsNs
 above:X.s₀.heap.objs.size<=X.env.locals
 inj:∀ x y c,X.env.cells.lookup x=some c->X.env.cells.lookup y=some c->x=y
 has:∀ x,(X.env.kindOf x=some .cell∨X.env.kindOf x=some .free)->∃ c,X.env.cells.lookup x=some c
 cab:∀ x c,X.fn x=true->X.env.cells.lookup x=some c->X.s₀.heap.objs.size<=c
 hd:X.calm=true->X.A.handled=none
 frames:X.A.frames=some X.stack
 stk:X.stack=X.outer∨(X.stack=X.env::X.outer/\X.env.frame=some X.env.locals)
 exf:∀ b∈X.ex,b≠X.env.locals/\∀ x c,X.env.cells.lookup x=some c->c≠b
 bs:∀ b o,X.base.get? b=some o->X.s₀.heap.get? b=some o/\X.H₀ b=none
 bsz:X.base.objs.size<=X.s₀.heap.objs.size
 noex:∀ b o,X.base.get? b=some o->b∉X.ex
 exfs:∀ b∈X.ex,b∉X.fs
 funs:X.s₀.heap.FunFrames X.base X.outer
 frf:∀ b∈X.fs,X.H₀ b=none
structure Inv (X:Cx) (Mi:List (Jc×Obj)) (σ:List (Option V)) (H:Hp) (s:Jb):Prop where
 ok:X.Ok
 os:s.os=X.s₀.os
 bare:AllBare s.gens
 base:Un X.fs X.ex X.H₀ H X.s₀.heap s.heap
 loc:∃ m,s.heap.Ns X.env.locals m/\∀(i:Nat)(x:Str)(v:V),X.N[i]?=some x->σ[i]?=some (some v)->Vis X.env.scope x->∃ u,cW v u/\zUu X.env s.heap m x u
 cell:∀ x c,X.env.cells.lookup x=some c->∃ v,s.heap.IsCell c v
 free:H X.env.locals=none
 freeC:∀ x c,X.env.cells.lookup x=some c->H c=none
 pin:∀ p∈X.pn++Mi,s.heap.get? p.1=some p.2/\H p.1=none/\p.1≠X.env.locals/\p.1∉X.fs/\∀ v,p.2.data≠.cell v
 hok:HOk X.prog X.w H s.heap
 len:σ.length=X.N.length
section
variable{X:Cx}{Mi:List (Jc×Obj)}{σ:List (Option V)}{H H':Hp}{s:Jb}{h':Je}
def Cx.Ok.nofr(ok:X.Ok){b:Jc}{o:Obj}(e:X.base.get? b=some o):b∉X.fs:=fun hb=>by
 have:=(ok.funs.mem hb).1
 rw[e] at this;cases this
def Inv.bs(I:Inv X Mi σ H s):∀ b o,X.base.get? b=some o->s.heap.get? b=some o/\H b=none:=fun b o e=>
 ⟨I.base.keep b o (I.ok.bs b o e).1 (I.ok.bs b o e).2 (I.ok.nofr e) (I.ok.noex b o e),I.base.free b o (I.ok.bs b o e).1 (I.ok.bs b o e).2 (I.ok.noex b o e)⟩
def Inv.bk(I:Inv X Mi σ H s):∀ b o,X.base.get? b=some o->s.heap.get? b=some o:=fun b o e=>(I.bs b o e).1
def Inv.mod(I:Inv X Mi σ H s):Mod X.K X.mg X.base:=I.ok.mod
def Inv.kIn(I:Inv X Mi σ H s):X.K.In s.heap:=I.ok.mod.kin.keeps I.bk
def Inv.lt(I:Inv X Mi σ H s):X.env.locals<s.heap.objs.size:=let ⟨_,hn,_⟩:=I.loc;hn.lt
def Inv.sz(I:Inv X Mi σ H s):X.s₀.heap.objs.size<=s.heap.objs.size:=Q5 I.ok.above (Xj I.lt)
def Inv.nofs(I:Inv X Mi σ H s){a:Jc}(h:s.heap.objs.size<=a):a∉X.fs:=fun hb=>by
 obtain⟨_,o,ho,_⟩:=I.ok.funs.mem hb;exact absurd (Qs (Heap.lt_size ho) (Q5 I.sz h)) (Vv _)
def Inv.cne(I:Inv X Mi σ H s):∀ x c,X.env.cells.lookup x=some c->c≠X.env.locals:=fun x c e z=>by
 obtain⟨v,o,ho,hd⟩:=I.cell x c e;obtain⟨m,⟨o',es,ep,ho',hd',_⟩,_⟩:=I.loc;rw[z,ho'] at ho;cases ho;rw[hd'] at hd;cases hd
def Inv.funs(I:Inv X Mi σ H s):s.heap.FunFrames X.base X.outer:=by
 have all:∀(l:List Env),(∀ b∈frs l,b∈X.fs)->X.s₀.heap.FunFrames X.base l->s.heap.FunFrames X.base l:=by
  intro l
  induction l with
  | nil=>intro _ _;trivial
  | cons env r ih=>
   intro hs hl;obtain⟨hk,⟨L,o,hf,hn,ho,hd⟩,hr⟩:=hl;have hL:L∈X.fs:=hs L (by unfold frs;rw[Yw,hf];exact Qb)
   obtain⟨sl,e⟩:=I.base.slot L o ho (I.ok.frf L hL) hL fun z=>I.ok.exfs L z hL
   exact⟨hk,⟨L,_,hf,hn,e,hd⟩,ih (fun b hb=>hs b (by unfold frs;rw[Yw,hf];exact Qd _ hb)) hr⟩
 exact all X.outer (fun _ hb=>hb) I.ok.funs
def Inv.stack(I:Inv X Mi σ H s):s.heap.FunFrames X.base X.stack:=by
 rcases I.ok.stk with e | ⟨e,hf⟩
 ·rw[e];exact I.funs
 ·rw[e]
  obtain⟨m,hn,_⟩:=I.loc;refine .cons (by rw[I.ok.kind];decide) hf hn ?_ I.funs
  exact Heap.get?_none_of_le (Q5 I.ok.bsz I.ok.above)
def Inv.stkSub(I:Inv X Mi σ H s):∀ b∈frs X.stack,b∈X.env.locals::X.fs:=fun b hb=>by
 rcases I.ok.stk with e | ⟨e,hf⟩
 ·rw[e] at hb;exact Qd _ hb
 ·rw[e] at hb
  unfold frs at hb;rw[Yw,hf] at hb;exact hb
def Inv.stkFree(I:Inv X Mi σ H s):∀ b∈frs X.stack,H b=none:=fun b hb=>by
 rcases Qc.mp (I.stkSub b hb) with e | hb
 ·rw[e];exact I.free
 ·obtain⟨_,o,ho,_⟩:=I.ok.funs.mem hb
  exact I.base.free b o ho (I.ok.frf b hb) fun z=>I.ok.exfs b z hb
def Inv.step{g':Array GenState}{t':Nat}{d':Drawn}{ch:List Jc}(I:Inv X Mi σ H s)
  (hch:∀ b∈ch,(b∈X.ex∨X.s₀.heap.objs.size<=b)/\b≠X.env.locals/\(∀ x c,X.env.cells.lookup x=some c->c≠b)/\∀ p∈X.pn++Mi,p.1≠b)
  (keep:∀ b o,b≠X.env.locals->b∉X.fs->b∉ch->s.heap.get? b=some o->H b=none->h'.get? b=some o)
  (slot:∀ b o,b≠X.env.locals->b∈X.fs->b∉ch->s.heap.get? b=some o->H b=none->∃ sl,h'.get? b=some { o with slots:=sl }) (free:∀ b o,b∉ch->s.heap.get? b=some o->H b=none->H' b=none)
  (there:∀ b o,b∉ch->s.heap.get? b=some o->∃ o',h'.get? b=some o')
  (tups:∀ b xs,H b=some (.tup xs)->H' b=some (.tup xs)) (frzs:∀ b o u,H b=some (.frz o u)->H' b=some (.frz o u)) (tbls:∀ b ps,H b=some (.tbl ps)->∃ more,H' b=some (.tbl (ps++more)))
  (ns:∀ m,s.heap.Ns X.env.locals m->h'.Ns X.env.locals m) (hok:HOk X.prog X.w H' h') (hg:AllBare g'):
  Inv X Mi σ H' { s with heap:=h',gens:=g',drawn:=d',toks:=t' }:=by
 have neL:∀ b o,X.s₀.heap.get? b=some o->b≠X.env.locals:=fun b o e=>Qt (Qs (Heap.lt_size e) I.ok.above)
 have neC:∀ b o,X.s₀.heap.get? b=some o->b∉X.ex->b∉ch:=fun b o e hx hb=>by
  rcases (hch b hb).1 with z | z
  ·exact hx z
  ·exact absurd (Qs (Heap.lt_size e) z) (Vv _)
 have cellK:∀ x c,X.env.cells.lookup x=some c->∀ v,s.heap.IsCell c v->h'.IsCell c v:=fun x c e v ⟨o,ho,hd⟩=>by
  have nch:c∉ch:=fun z=>(hch c z).2.2.1 x c e rfl
  by_cases hc:c∈X.fs
  ·obtain⟨sl,q⟩:=slot c o (I.cne x c e) hc nch ho (I.freeC x c e)
   exact⟨_,q,hd⟩
  ·exact⟨o,keep c o (I.cne x c e) hc nch ho (I.freeC x c e),hd⟩
 refine⟨I.ok,I.os,hg,⟨fun b o e n hb hx=>?_,fun b o e n hb hx=>?_,fun b o e n hx=>?_,fun b o e hx=>?_,fun b xs e=>tups b xs (I.base.tups b xs e),fun b o xs e=>frzs b o xs (I.base.frzs b o xs e),fun b ps e=>?_⟩,?_,fun x c e=>?_,?_,fun x c e=>?_,fun p hp=>?_,hok,I.len⟩
 ·exact keep b o (neL b o e) hb (neC b o e hx) (I.base.keep b o e n hb hx) (I.base.free b o e n hx)
 ·obtain⟨sl,e1⟩:=I.base.slot b o e n hb hx
  obtain⟨sl',e2⟩:=slot b _ (neL b o e) hb (neC b o e hx) e1 (I.base.free b o e n hx);exact⟨sl',e2⟩
 ·obtain⟨o',e1⟩:=I.base.there b o e hx
  exact free b o' (neC b o e hx) e1 (I.base.free b o e n hx)
 ·obtain⟨o',e1⟩:=I.base.there b o e hx
  exact there b o' (neC b o e hx) e1
 ·obtain⟨m1,e1⟩:=I.base.tbls b ps e
  obtain⟨m2,e2⟩:=tbls b _ e1;exact⟨m1++m2,by rw[e2,Array.append_assoc]⟩
 ·obtain⟨m,hn,hl⟩:=I.loc
  refine⟨m,ns m hn,fun i x v e1 e2 e3=>?_⟩
  obtain⟨u,r,l⟩:=hl i x v e1 e2 e3;refine⟨u,r,?_⟩
  rcases l with l | ⟨k,c,e,z⟩
  ·exact .inl l
  ·exact .inr ⟨k,c,e,cellK x c e _ z⟩
 ·obtain⟨v,z⟩:=I.cell x c e
  exact⟨v,cellK x c e v z⟩
 ·obtain⟨m,⟨o,_,_,ho,_⟩,_⟩:=I.loc
  exact free _ o (fun z=>(hch _ z).2.1 rfl) ho I.free
 ·obtain⟨v,o,ho,hd⟩:=I.cell x c e
  exact free c o (fun z=>(hch c z).2.2.1 x c e rfl) ho (I.freeC x c e)
 ·obtain⟨e,n,ne,nf,d⟩:=I.pin p hp
  have nch:p.1∉ch:=fun z=>(hch p.1 z).2.2.2 p hp rfl
  exact⟨keep p.1 p.2 ne nf nch e n,free p.1 p.2 nch e n,ne,nf,d⟩
def Inv.un{t':Nat}(I:Inv X Mi σ H s)(u:Un X.fs [] H H' s.heap h')(hok:HOk X.prog X.w H' h'):Inv X Mi σ H' { s with heap:=h',toks:=t' }:=by
 obtain⟨m,⟨o,es,ep,ho,r⟩,_⟩:=id I.loc;obtain⟨sl,hL⟩:=u.any ho I.free (by simp)
 exact I.step (g':=s.gens) (d':=s.drawn) (ch:=[]) (fun _ z=>nomatch z) (fun b o _ hb _ e n=>u.keep b o e n hb (by simp)) (fun b o _ hb _ e n=>u.slot b o e n hb (by simp)) (fun b o _ e n=>u.free b o e n (by simp)) (fun b o _ e=>u.there b o e (by simp)) u.tups u.frzs u.tbls (fun m' hm=>by
  obtain⟨o',es',ep',ho',r'⟩:=hm;rw[ho] at ho';cases ho'
  exact⟨_,es',ep',hL,r'⟩) hok I.bare
def Inv.call{g':Array GenState}{t':Nat}{d':Drawn}{ch:List Jc}(I:Inv X Mi σ H s)(u:Un (frs X.stack) ch H H' s.heap h')(hok:HOk X.prog X.w H' h')(hg:AllBare g')
  (hch:∀ b∈ch,(b∈X.ex∨X.s₀.heap.objs.size<=b)/\b≠X.env.locals/\(∀ x c,X.env.cells.lookup x=some c->c≠b)/\∀ p∈X.pn++Mi,p.1≠b):
  Inv X Mi σ H' { s with heap:=h',gens:=g',drawn:=d',toks:=t' }:=by
 obtain⟨m,⟨o,es,ep,ho,r⟩,_⟩:=id I.loc;obtain⟨sl,hL⟩:=u.any ho I.free fun z=>(hch _ z).2.1 rfl
 exact I.step (ch:=ch) hch (fun b o hL hb hc e n=>u.keep b o e n (fun z=>(Qc.mp (I.stkSub b z)).elim hL hb) hc) (fun b o _ _ hc e n=>u.any e n hc) (fun b o hc e n=>u.free b o e n hc) (fun b o hc e=>u.there b o e hc) u.tups u.frzs u.tbls (fun m' hm=>by
  obtain⟨o',es',ep',ho',r'⟩:=hm;rw[ho] at ho';cases ho'
  exact⟨_,es',ep',hL,r'⟩) hok hg
def Inv.turned{t':Nat}{it:Jc}(I:Inv X Mi σ H s)(k:∀ b o,b≠it->s.heap.get? b=some o->h'.get? b=some o)(hn:H it=none)(hL:it≠X.env.locals)
  (h1:it∈X.ex∨X.s₀.heap.objs.size<=it) (h2:∀ x c,X.env.cells.lookup x=some c->c≠it) (h3:∀ p∈X.pn++Mi,p.1≠it):Inv X Mi σ H { s with heap:=h',toks:=t' }:=by
 have nit:∀ b u,H b=some u->b≠it:=fun b u e z=>by rw[z,hn] at e;cases e
 refine I.step (g':=s.gens) (d':=s.drawn) (ch:=[it]) (fun b hb=>?_) (fun b o _ _ hc e _=>k b o (fun z=>hc (by simp[z])) e) (fun b o _ _ hc e _=>⟨o.slots,k b o (fun z=>hc (by simp[z])) e⟩) (fun _ _ _ _ n=>n)
  (fun b o hc e=>⟨o,k b o (fun z=>hc (by simp[z])) e⟩) (fun _ _ e=>e) (fun _ _ _ e=>e) (fun b ps e=>⟨#[],by rw[e];simp⟩) (fun m hm=>?_) (fun b u e=>?_) I.bare
 ·have e:b=it:=by simpa using hb
  subst e;exact⟨h1,hL,h2,h3⟩
 ·obtain⟨o,es,ep,ho,r⟩:=hm
  exact⟨o,es,ep,k _ o (Ne.symm hL) ho,r⟩
 ·refine(I.hok b u e).stay (fun c v hc q=>k c v ?_ q) (fun _ q=>q) fun _ _ q=>q
  rcases hc with z | z
  ·rw[z];exact nit b u e
  ·exact nit c _ z
def Inv.tok(I:Inv X Mi σ H s)(t:Nat):Inv X Mi σ H { s with toks:=t }:=I.un (h':=s.heap) (t':=t) Un.refl I.hok
def Inv.kept{t':Nat}(I:Inv X Mi σ H s)(k:∀ b u,s.heap.get? b=some u->h'.get? b=some u):Inv X Mi σ H { s with heap:=h',toks:=t' }:=I.un (Un.kept k) (I.hok.kept k)
def Inv.laid{a:Jc}{o:HO}{t':Nat}(I:Inv X Mi σ H s)(k:∀ b u,s.heap.get? b=some u->h'.get? b=some u)(hp:s.heap.objs.size<=a)(new:mQ X.prog X.w (upd H a o) h' a o):
  Inv X Mi σ (upd H a o) { s with heap:=h',toks:=t' }:=I.un (Un.laid k hp (I.hok.fresh hp)) (I.hok.laid k hp new)
def Inv.write{x e:Jc}{o:HO}{t':Nat}(I:Inv X Mi σ H s)(mu:Mut (H x))(he:e=x∨H e=some (.own x))(k:∀ b u,b≠e->s.heap.get? b=some u->h'.get? b=some u)(heo:∃ u,h'.get? e=some u)
  (new:mQ X.prog X.w (upd H x o) h' x o):Inv X Mi σ (upd H x o) { s with heap:=h',toks:=t' }:=I.un (Un.write mu he k heo) (I.hok.write mu he k heo new)
def Inv.pins_of{pins':List (Jc×Obj)}(I:Inv X Mi σ H s)(h:∀ p∈pins',s.heap.get? p.1=some p.2/\H p.1=none/\p.1≠X.env.locals/\p.1∉X.fs/\∀ v,p.2.data≠.cell v):Inv X pins' σ H s:=
 ⟨I.ok,I.os,I.bare,I.base,I.loc,I.cell,I.free,I.freeC,fun p hp=>(Q8.mp hp).elim (fun z=>I.pin p (Vc _ z)) (h p),I.hok,I.len⟩
def zAl{N:List Str}(hN:N.Nodup){i j:Nat}{x:Str}(a:N[i]?=some x)(b:N[j]?=some x):i=j:=by
 obtain⟨h1,e1⟩:=Qy.mp a;obtain⟨h2,e2⟩:=Qy.mp b;exact(List.getElem_inj hN).mp (e1.trans e2.symm)
def zBI{M:Model}{A:Jh}{E:Ja->Jb->Prop}{i:Nat}{x:Str}{v:V}{u:Ja}{Q:Unit->Jb->Prop}(I:Inv X Mi σ H s)(hN:X.N.Nodup)(hi:X.N[i]?=some x)(hx:Loc X.env.scope x)(r:cW v u)
  (h:∀ s',Inv X Mi (σ.set i (some v)) H s'->(∃ a,Heap.SameBut a s.heap s'.heap/\(a=X.env.locals∨X.env.cells.lookup x=some a))->Q () s') (hf:X.fn x=true∨X.env.scope.names.lookup x=some .local:=by first | exact .inl rfl | exact .inr rfl | assumption):wpAny M A (storeName X.env x u) Q E s:=by
 obtain⟨m,hn,hl⟩:=id I.loc;have hcls:(X.env.scope.kind==.class || (X.env.scope.kind==.module && X.env.locals != X.env.globals))=false:=by rw[I.ok.kind];rfl
 have hiσ:i<σ.length:=by rw[I.len];exact(Qy.mp hi).1
 have cne:=I.cne
 have tracked:∀ {a:Jc} {h':Je},(∃ o,s.heap.get? a=some o/\H a=none)->Heap.SameBut a s.heap h'->HOk X.prog X.w H h':=fun {a h'} ha hs b ob e=>by
  obtain⟨_,_,hfree⟩:=ha;refine(I.hok b ob e).stay (fun c w' hc q=>(hs.2 c ?_).trans q) (fun _ q=>q) fun _ _ q=>q
  rintro rfl
  rcases hc with rfl | hc
  ·rw[hfree] at e;cases e
  ·rw[hfree] at hc;cases hc
 rcases hx with hk | hk
 ·refine wpAny_storeName_local hk hn (fun h' hn' hs=>?_) hcls
  obtain⟨oL,_,_,hoL,_⟩:=id hn;refine h _ ⟨I.ok,I.os,I.bare,⟨fun b o e n hb hx=>?_,fun b o e n hb hx=>?_,I.base.free,fun b o e hx=>?_,I.base.tups,I.base.frzs,I.base.tbls⟩,⟨_,hn',fun j y v' e1 e2 e3=>?_⟩,fun y c e=>?_,I.free,I.freeC,fun p hp=>?_,tracked ⟨oL,hoL,I.free⟩ hs,by simpa using I.len⟩ ⟨_,hs,.inl rfl⟩
  ·exact(hs.2 b (Qt (Qs (Heap.lt_size e) I.ok.above))).trans (I.base.keep b o e n hb hx)
  ·obtain⟨sl,e1⟩:=I.base.slot b o e n hb hx
   exact⟨sl,(hs.2 b (Qt (Qs (Heap.lt_size e) I.ok.above))).trans e1⟩
  ·obtain⟨o',e1⟩:=I.base.there b o e hx
   exact⟨o',(hs.2 b (Qt (Qs (Heap.lt_size e) I.ok.above))).trans e1⟩
  ·by_cases hj:j=i
   ·subst hj
    rw[hi] at e1;cases e1
    rw[Vb hiσ] at e2;cases e2;exact⟨u,r,.inl ⟨hk,by simp⟩⟩
   ·rw[Va (Ne.symm hj)] at e2
    obtain⟨u',r',q⟩:=hl j y v' e1 e2 e3;refine⟨u',r',?_⟩
    rcases q with⟨k,e⟩ | ⟨k,c,e,z⟩
    ·refine .inl ⟨k,?_⟩
     have:y≠x:=fun e=>hj (zAl hN e1 (e ▸ hi))
     simp[this,e]
    ·exact .inr ⟨k,c,e,z.sameBut hs (cne y c e)⟩
  ·obtain⟨w',z⟩:=I.cell y c e
   exact⟨w',z.sameBut hs (cne y c e)⟩
  ·obtain⟨e,n,ne,nf,d⟩:=I.pin p hp
   exact⟨(hs.2 p.1 ne).trans e,n,ne,nf,d⟩
 ·have hfn:X.fn x=true:=by
   rcases hf with z | z
   ·exact z
   ·rw[z] at hk;cases hk
  obtain⟨c,hc⟩:=I.ok.has x (.inl hk);obtain⟨w',z⟩:=I.cell x c hc;refine wpAny_storeName_cell I.ok.kind hk hc z (fun h' hc' hs=>?_)
  obtain⟨oc,hoc,hocd⟩:=id z;refine h { s with heap:=h' } ⟨I.ok,I.os,I.bare,⟨fun b o e n hb hx=>?_,fun b o e n hb hx=>?_,I.base.free,fun b o e hx=>?_,I.base.tups,I.base.frzs,I.base.tbls⟩,⟨m,hn.sameBut hs (Ne.symm (cne x c hc)),fun j y v' e1 e2 e3=>?_⟩,fun y c' e=>?_,I.free,I.freeC,fun p hp=>?_,tracked ⟨oc,hoc,I.freeC x c hc⟩ hs,by simpa using I.len⟩ ⟨c,hs,.inr hc⟩
  ·exact(hs.2 b (Qt (Qs (Heap.lt_size e) (I.ok.cab x c hfn hc)))).trans (I.base.keep b o e n hb hx)
  ·obtain⟨sl,e1⟩:=I.base.slot b o e n hb hx
   exact⟨sl,(hs.2 b (Qt (Qs (Heap.lt_size e) (I.ok.cab x c hfn hc)))).trans e1⟩
  ·obtain⟨o',e1⟩:=I.base.there b o e hx
   exact⟨o',(hs.2 b (Qt (Qs (Heap.lt_size e) (I.ok.cab x c hfn hc)))).trans e1⟩
  ·by_cases hj:j=i
   ·subst hj
    rw[hi] at e1;cases e1
    rw[Vb hiσ] at e2;cases e2;exact⟨u,r,.inr ⟨.inl hk,c,hc,hc'⟩⟩
   ·rw[Va (Ne.symm hj)] at e2
    obtain⟨u',r',q⟩:=hl j y v' e1 e2 e3;refine⟨u',r',?_⟩
    rcases q with q | ⟨k,c',e,z'⟩
    ·exact .inl q
    ·refine .inr ⟨k,c',e,z'.sameBut hs ?_⟩
     rintro rfl
     exact hj (zAl hN e1 (I.ok.inj _ _ _ e hc ▸ hi))
  ·by_cases hcc:c'=c
   ·subst hcc;exact⟨_,hc'⟩
   ·obtain⟨w2,z2⟩:=I.cell y c' e
    exact⟨w2,z2.sameBut hs hcc⟩
  ·obtain⟨e,n,ne,nf,d⟩:=I.pin p hp
   refine⟨(hs.2 p.1 ?_).trans e,n,ne,nf,d⟩
   intro q;rw[q,hoc] at e;have q':oc=p.2:=Vj e;exact d w' (by rw[<-q'];exact hocd)
def pZ{M:Model}{A:Jh}{E:Ja->Jb->Prop}{i:Nat}{x:Str}{v:V}{u:Ja}{Q:Unit->Jb->Prop}(I:Inv X Mi σ H s)(hN:X.N.Nodup)(hi:X.N[i]?=some x)(hx:Loc X.env.scope x)(r:cW v u)
  (h:∀ s',Inv X Mi (σ.set i (some v)) H s'->Q () s') (hf:X.fn x=true∨X.env.scope.names.lookup x=some .local:=by first | exact .inl rfl | exact .inr rfl | assumption):wpAny M A (storeName X.env x u) Q E s:=
 zBI I hN hi hx r (fun s' I' _=>h s' I') hf
def Inv.call'{s':Jb}{ch:List Jc}(I:Inv X Mi σ H s)(ho:s'.os=s.os)(u:Un (frs X.stack) ch H H' s.heap s'.heap)(hok:HOk X.prog X.w H' s'.heap)(hg:AllBare s'.gens)
  (hch:∀ b∈ch,(b∈X.ex∨X.s₀.heap.objs.size<=b)/\b≠X.env.locals/\(∀ x c,X.env.cells.lookup x=some c->c≠b)/\∀ p∈X.pn++Mi,p.1≠b):Inv X Mi σ H' s':=by
 obtain⟨h',g',d',t',o'⟩:=s';have e:o'=s.os:=ho;subst e;exact I.call (g':=g') (t':=t') (d':=d') u hok hg hch
end
abbrev XK:=Ja->Option Jc->Hp->Prop
abbrev St:=List (Option V)
abbrev VK:=V->Hp->Prop
abbrev TE:=St->Hp->VK->Prop
abbrev TT:=St->Hp->(Bool->Hp->Prop)->Prop
abbrev TA:=St->Hp->(List V->Hp->Prop)->Prop
structure Ends where
 nx:St->Hp->Prop
 rt:VK
 bk:St->Hp->Prop:=fun _ _=>False
 ct:St->Hp->Prop:=fun _ _=>False
abbrev TS:=Ends->St->Hp->Prop
def EP(X:Cx)(Mi:List (Jc×Obj))(r:St)(Q:VK)(u:Ja)(s':Jb):Prop:=∃ v H',Inv X Mi r H' s'/\cW v u/\Q v H'
def TP(X:Cx)(Mi:List (Jc×Obj))(r:St)(Q:Bool->Hp->Prop)(b:Bool)(s':Jb):Prop:=∃ H',Inv X Mi r H' s'/\Q b H'
def AP(X:Cx)(Mi:List (Jc×Obj))(r:St)(Q:List V->Hp->Prop)(us:List Ja)(s':Jb):Prop:=∃ vs H',Inv X Mi r H' s'/\cX vs us/\Q vs H'
def SP(X:Cx)(Mi:List (Jc×Obj))(D:Ends)(f:Flow)(s':Jb):Prop:=
 match f with
 | .next=>∃ r' H',Inv X Mi r' H' s'/\D.nx r' H'
 | .brk=>∃ r' H',Inv X Mi r' H' s'/\D.bk r' H'
 | .cont=>∃ r' H',Inv X Mi r' H' s'/\D.ct r' H'
 | .ret u=>∃ v r' H',Inv X Mi r' H' s'/\cW v u/\D.rt v H'
def PE(X:Cx)(e:Expr)(t:TE):Prop:=
 ∀(Mi:List (Jc×Obj))(s:Jb)(r:St)(H:Hp)(Q:VK),Inv X Mi r H s->t r H Q->wpAny (model X.prog X.w) X.A (eval e X.env) (EP X Mi r Q) X.xe s
def PT(X:Cx)(e:Expr)(t:TT):Prop:=
 ∀(Mi:List (Jc×Obj))(s:Jb)(r:St)(H:Hp)(Q:Bool->Hp->Prop),Inv X Mi r H s->t r H Q->wpAny (model X.prog X.w) X.A (isTrue e X.env (eval e X.env)) (TP X Mi r Q) X.xe s
def PW(X:Cx)(e:Expr)(t:TT):Prop:=
 ∀(whole:Sem Ja)(Mi:List (Jc×Obj))(s:Jb)(r:St)(H:Hp)(Q:Bool->Hp->Prop),Inv X Mi r H s->t r H Q->wpAny (model X.prog X.w) X.A (isTrue e X.env whole) (TP X Mi r Q) X.xe s
def PW.pt{X:Cx}{e:Expr}{t:TT}(h:PW X e t):PT X e t:=h _
def PA(X:Cx)(es:List Expr)(t:TA):Prop:=
 ∀(pos:Pos)(Mi:List (Jc×Obj))(s:Jb)(r:St)(H:Hp)(Q:List V->Hp->Prop),Inv X Mi r H s->t r H Q->wpAny (model X.prog X.w) X.A (spliced (backTo pos (starEach es X.env))) (AP X Mi r Q) X.xe s
def PS(X:Cx)(st:Ji)(t:TS):Prop:=
 ∀(Mi:List (Jc×Obj))(s:Jb)(r:St)(H:Hp)(D:Ends),Inv X Mi r H s->t D r H->wpAny (model X.prog X.w) X.A (exec st X.env) (SP X Mi D) X.xe s
def PSs(X:Cx)(st:List Ji)(t:TS):Prop:=
 ∀(Mi:List (Jc×Obj))(s:Jb)(r:St)(H:Hp)(D:Ends),Inv X Mi r H s->t D r H->wpAny (model X.prog X.w) X.A (execs st X.env) (SP X Mi D) X.xe s
def thn{r:Type}{t:Sem r}{Q Q':r->Jb->Prop}{M:Model}{A:Jh}{E:Ja->Jb->Prop}{s:Jb}(h:wpAny M A t Q E s)(hQ:∀ a s,Q a s->Q' a s):wpAny M A t Q' E s:=wpAny_mono h hQ fun _ _ x=>x
section
variable{X:Cx}
def bin{a b:Expr}{ta tb:TE}(ha:PE X a ta)(hb:PE X b tb){Mi:List (Jc×Obj)}{s:Jb}{p:St}{H:Hp}{R:V->V->Hp->Prop}(I:Inv X Mi p H s)(h:ta p H fun x H1=>tb p H1 fun y H2=>R x y H2)
  {g:Type} {Q:g->Jb->Prop} {f:Ja->Ja->Sem g}
  (hf:∀ v u s2 x y H2,Inv X Mi p H2 s2->cW x v->cW y u->R x y H2->wpAny (model X.prog X.w) X.A (f v u) Q X.xe s2):
  wpAny (model X.prog X.w) X.A (eval a X.env) (fun v s₁=>wpAny (model X.prog X.w) X.A (eval b X.env) (fun u s₂=>wpAny (model X.prog X.w) X.A (f v u) Q X.xe s₂) X.xe s₁) X.xe s:=by
 refine thn (ha Mi s p H _ I h) fun v s1 ⟨x,H1,I1,r1,q1⟩=>?_
 refine thn (hb Mi s1 p H1 _ I1 q1) fun u s2 ⟨y,H2,I2,r2,q2⟩=>?_
 exact hf v u s2 x y H2 I2 r1 r2 q2
abbrev zDh(i:Nat):TE:=fun p H Q=>∃ v,p[i]?=some (some v)/\Q v H
abbrev tC(v:V):TE:=fun _ H Q=>Q v H
def vV{i:Nat}{x:Str}{pos:Pos}(hN:X.N[i]?=some x)(hv:Vis X.env.scope x)(hd:(x==("__debug__" : Str))=false:=by decide)(hcd:(x==("__classdict__" : Str))=false:=by decide):PE X (.Name x pos) (zDh i):=by
 intro Mi s p H Q I h;obtain⟨v,e,h⟩:=h;obtain⟨m,hn,hl⟩:=I.loc;obtain⟨u,r,l⟩:=hl i x v hN e hv;have fin:EP X Mi p Q u s:=⟨v,H,I,r,h⟩;rcases l with⟨hk,hm⟩ | ⟨hk,c,hc,hcell⟩
 ·exact Jm (wpAny_loadName_local I.ok.kind hk hn hm fin) hd
 ·rcases hk with hk | hk
  ·exact Jm (wpAny_loadName_cell I.ok.kind hk hc hcell fin) hd
  ·exact Jm (wpAny_loadName_free I.ok.kind hk hc hcell fin hcd) hd
def zJf{i j pos}:PE X (.Constant (.int i) j pos) (tC (.int i)):=fun _ _ _ H _ I h=>wpAny_Constant_int ⟨.int i,H,I.tok _,⟨_,rfl⟩,h⟩
def sB{b j pos}:PE X (.Constant (.bool b) j pos) (tC (.bl b)):=fun _ _ _ H _ I h=>Constant_bool ⟨.bl b,H,I,rfl,h⟩
def zIe{j pos}:PE X (.Constant .none j pos) (tC .non):=fun _ _ _ H _ I h=>Constant_none ⟨.non,H,I,rfl,h⟩
def dU{x j pos}:PE X (.Constant (.str x) j pos) (tC (.str x)):=fun _ _ _ H _ I h=>Calls.Constant_str ⟨.str x,H,I.tok _,⟨_,rfl⟩,h⟩
def Gl(X:Cx)(x:Str):Prop:=X.env.kindOf x=some .globalImplicit
def wQ{E:Ja->Jb->Prop}{Mi:List (Jc×Obj)}{s:Jb}{p:St}{H:Hp}{x:Str}{u:Ja}{pos:Pos}{Q:Ja->Jb->Prop}(I:Inv X Mi p H s)(hg:Gl X x)(hm:X.mg x=some u)(h:Q u s)
  (hd:(x==("__debug__" : Str))=false:=by decide):wpAny (model X.prog X.w) X.A (eval (.Name x pos) X.env) Q E s:=
 Calls.Name_function_global I.ok.kind hg (Calls.loadGlobal_global (by rw[I.ok.glob];exact I.mod.glob.keeps I.bk) hm h) hd
def nQ{E:Ja->Jb->Prop}{Mi:List (Jc×Obj)}{s:Jb}{p:St}{H:Hp}{x:Str}{u:Ja}{pos:Pos}{Q:Ja->Jb->Prop}(I:Inv X Mi p H s)(hg:Gl X x)(hm:X.mg x=none)(hv:bootBuiltins x=some u)(h:Q u s)
  (hn:x ≠ "__name__" := by decide) (hd:(x==("__debug__" : Str))=false:=by decide):wpAny (model X.prog X.w) X.A (eval (.Name x pos) X.env) Q E s:=by
 obtain⟨mb,h1,h2⟩:=I.mod.blt;exact Calls.Name_function_global I.ok.kind hg (Calls.loadGlobal_builtin (by rw[I.ok.glob];exact I.mod.glob.keeps I.bk) hm (by rw[I.ok.blt];exact h1.keeps I.bk) ((h2 x hn).trans hv) h) hd
def zDM{x:Str}{v:V}{u:Ja}{pos:Pos}(hg:Gl X x)(hm:X.mg x=some u)(r:cW v u)(hd:(x==("__debug__" : Str))=false:=by decide):PE X (.Name x pos) (tC v):=
 fun _ _ _ H _ I h=>wQ I hg hm ⟨v,H,I,r,h⟩ hd
def zJi{x:Str}{v:V}{u:Ja}{pos:Pos}(hg:Gl X x)(hm:X.mg x=none)(hv:bootBuiltins x=some u)(r:cW v u)(hn:x ≠ "__name__" := by decide)(hd:(x==("__debug__" : Str))=false:=by decide):PE X (.Name x pos) (tC v):=
 fun _ _ _ H _ I h=>nQ I hg hm hv ⟨v,H,I,r,h⟩ hn hd
variable{a b:Expr}{ta tb:TE}{pos:Pos}
def PC(X:Cx)(op:CmpOp)(a b:Expr)(t:TE):Prop:=
 ∀(Mi:List (Jc×Obj))(s:Jb)(p:St)(H:Hp)(Q:VK),Inv X Mi p H s->t p H Q->
  wpAny (model X.prog X.w) X.A (eval a X.env) (fun v s₁=>wpAny (model X.prog X.w) X.A (eval b X.env) (fun u s₂=>wpAny (model X.prog X.w) X.A (compareOp op v u) (EP X Mi p Q) X.xe s₂) X.xe s₁) X.xe s
def zKU(b:Expr){op:CmpOp}(h:op≠.In)(h2:op≠.NotIn):behindInMarks op b=false:=by
 have e1:(op==CmpOp.In)=false:=by cases op<;>first | rfl | exact absurd rfl h
 have e2:(op==CmpOp.NotIn)=false:=by cases op<;>first | rfl | exact absurd rfl h2
 cases b<;>simp[behindInMarks,e1,e2]
abbrev tB(t:TE):TT:=fun p H Q=>t p H fun x H1=>∃ c,x=.bl c/\Q c H1
def zTB{op:CmpOp}{t:TE}(h:PC X op a b t)(h1:behindInMarks op b=false:=by first | exact zKU _ (by decide) (by decide) | rfl):PT X (.Compare a [op] [b] pos) (tB t):=by
 intro Mi s p H Q I hw;refine Jn (thn (h Mi s p H _ I hw) fun v s1 h1=>thn h1 fun u s2 h2=>thn h2 fun c s3 ⟨x,H1,I1,r1,q1⟩=>?_) h1
 obtain⟨d,rfl,q⟩:=q1;cases r1;exact wpAny_truthy_bool ⟨H1,I1,q⟩
def zSa{e:Expr}{t:TE}(h:PE X e t)(he:∀ whole,isTrue e X.env whole=(do let v <-whole;standAt e.pos;holding [v] (truthy v)):=by intro _;rfl):PT X e (tB t):=by
 intro Mi s p H Q I hw;refine isTrue_plain (thn (h Mi s p H _ I hw) fun v s1 ⟨x,H1,I1,r1,q1⟩=>?_) (he _)
 obtain⟨d,rfl,q⟩:=q1;cases r1;exact wpAny_truthy_bool ⟨H1,I1,q⟩
variable{tA tB':TT}{rest:List Expr}
abbrev zUo(t u:TT):TT:=fun p H Q=>t p H fun c H1=>if c=true then u p H1 Q else Q false H1
abbrev tOr(t u:TT):TT:=fun p H Q=>t p H fun c H1=>if c=true then Q true H1 else u p H1 Q
abbrev zTX(t:TT):TT:=fun p H Q=>t p H fun c H1=>Q (!c) H1
def zNN(ha:PT X a tA):PW X (.BoolOp .And [a] pos) tA:=by
 intro wh Mi s p H Q I h;refine isTrue_and (thn (ha Mi s p H Q I h) fun c s1 e=>?_)
 cases c with
 | true=>exact isTrue_and_nil e
 | false=>exact e
def zQM(ha:PT X a tA):PW X (.BoolOp .Or [a] pos) tA:=by
 intro wh Mi s p H Q I h;refine isTrue_or (thn (ha Mi s p H Q I h) fun c s1 e=>?_)
 cases c with
 | false=>exact isTrue_or_nil e
 | true=>exact e
def zRY(ha:PT X a tA)(hb:PW X (.BoolOp .And (b::rest) pos) tB'):PW X (.BoolOp .And (a::b::rest) pos) (zUo tA tB'):=by
 intro wh Mi s p H Q I h;refine isTrue_and (thn (ha Mi s p H _ I h) fun c s1 ⟨H1,I1,q1⟩=>?_)
 cases c with
 | true=>exact hb wh Mi s1 p H1 Q I1 q1
 | false=>exact⟨H1,I1,q1⟩
def zSU(ha:PT X a tA)(hb:PW X (.BoolOp .Or (b::rest) pos) tB'):PW X (.BoolOp .Or (a::b::rest) pos) (tOr tA tB'):=by
 intro wh Mi s p H Q I h;refine isTrue_or (thn (ha Mi s p H _ I h) fun c s1 ⟨H1,I1,q1⟩=>?_)
 cases c with
 | true=>exact⟨H1,I1,q1⟩
 | false=>exact hb wh Mi s1 p H1 Q I1 q1
def zQW(ha:PT X a tA):PT X (.UnaryOp .Not a pos) (zTX tA):=by
 intro Mi s p H Q I h;exact isTrue_not (ha Mi s p H (fun c H1=>Q (!c) H1) I h)
abbrev zTh(ta tb:TE):TE:=fun p H Q=>ta p H fun x H1=>∃ c,x=.bl c/\if c=true then tb p H1 Q else Q (.bl false) H1
abbrev zUs(ta tb:TE):TE:=fun p H Q=>ta p H fun x H1=>∃ c,x=.bl c/\if c=true then Q (.bl true) H1 else tb p H1 Q
def zPS{op}{t:TE}(h:PE X a t):PE X (.BoolOp op [a] pos) t:=fun Mi s p H Q I hw=>BoolOp_one (h Mi s p H Q I hw)
def zPQ(ha:PE X a ta)(hb:PE X (.BoolOp .And (b::rest) pos) tb):PE X (.BoolOp .And (a::b::rest) pos) (zTh ta tb):=by
 intro Mi s p H Q I h;refine BoolOp_and (thn (ha Mi s p H _ I h) fun v s1 ⟨x,H1,I1,r1,q1⟩=>?_)
 obtain⟨c,rfl,q1⟩:=q1;cases r1;refine wpAny_truthy_bool ?_
 cases c with
 | true=>exact hb Mi s1 p H1 Q I1 q1
 | false=>exact⟨.bl false,H1,I1,rfl,q1⟩
def zSX(ha:PE X a ta)(hb:PE X (.BoolOp .Or (b::rest) pos) tb):PE X (.BoolOp .Or (a::b::rest) pos) (zUs ta tb):=by
 intro Mi s p H Q I h;refine BoolOp_or (thn (ha Mi s p H _ I h) fun v s1 ⟨x,H1,I1,r1,q1⟩=>?_)
 obtain⟨c,rfl,q1⟩:=q1;cases r1;refine wpAny_truthy_bool ?_
 cases c with
 | false=>exact hb Mi s1 p H1 Q I1 q1
 | true=>exact⟨.bl true,H1,I1,rfl,q1⟩
abbrev tIf(t:TT)(ta tb:TE):TE:=fun p H Q=>t p H fun c H1=>if c=true then ta p H1 Q else tb p H1 Q
def zKI{c:Expr}(hc:PT X c tA)(ha:PE X a ta)(hb:PE X b tb):PE X (.IfExp c a b pos) (tIf tA ta tb):=by
 intro Mi s p H Q I h;refine wpAny_IfExp (thn (hc Mi s p H _ I h) fun d s1 ⟨H1,I1,q1⟩=>?_)
 cases d with
 | true=>exact ha Mi s1 p H1 Q I1 q1
 | false=>exact hb Mi s1 p H1 Q I1 q1
end
def SqL(K:PySem.W.Frag)(H:Hp)(a:Jc)(xs:List V):Prop:=
 Rd H a (.lst xs)∨
  ∃(o:Obj)(its:Array Ja)(n:Nat),K.lookup a=some o/\o.cls=.type "list" /\ o.dict=none/\o.data=.seq its n/\its.size<=sizeLine/\cX xs its.toList
def SqT(K:PySem.W.Frag)(H:Hp)(a:Jc)(xs:List V):Prop:=
 Rd H a (.tup xs)∨
  ∃(o:Obj)(its:Array Ja)(n:Nat),K.lookup a=some o/\o.cls=.type "tuple" /\ o.data=.seq its n/\its.size<=sizeLine/\cX xs its.toList
def zTZ:Ja->Option V
 | .none=>some .non
 | .bool b=>some (.bl b)
 | .int i _=>some (.int i)
 | .str x _=>some (.str x)
 | .bytes b _=>some (.byt b)
 | .float b _=>some (.flt b)
 | .ref a=>some (.ref a)
 | .type n=>some (.ty n)
 | _=>none
def cW.abs{x:V}{u:Ja}(r:cW x u):zTZ u=some x:=by
 cases x with
 | non=>cases r;rfl
 | bl _=>cases r;rfl
 | int _=>obtain⟨t,rfl⟩:=r;rfl
 | str _=>obtain⟨t,rfl⟩:=r;rfl
 | byt _=>obtain⟨t,rfl⟩:=r;rfl
 | flt _=>obtain⟨t,rfl⟩:=r;rfl
 | ref _=>cases r;rfl
 | ty _=>cases r;rfl
def cW.inj{x y:V}{u:Ja}(r:cW x u)(q:cW y u):x=y:=Vj (r.abs.symm.trans q.abs)
def cX.inj:∀ {xs ys:List V} {us:List Ja},cX xs us->cX ys us->xs=ys
 | _,_,_,.nil,.nil=>rfl
 | _,_,_,.cons r t,.cons r' t'=>by rw[r.inj r',cX.inj t t']
section
variable{X:Cx}{Mi:List (Jc×Obj)}{b:St}{H:Hp}{s:Jb}{a:Jc}{xs ys:List V}
def SqL.of{K:Fg_}(h:H a=some (.lst xs)):SqL K H a xs:=.inl (.inl h)
def SqT.of{K:Fg_}(h:H a=some (.tup xs)):SqT K H a xs:=.inl (.inl h)
def Inv.list(I:Inv X Mi b H s)(h:SqL X.K H a xs):∃ its:List Ja,cX xs its/\PlainL s.heap a its.toArray/\xs.length<=sizeLine:=by
 rcases h with h | ⟨o,its,n,hk,hc,hd,hs,hz,r⟩
 ·obtain⟨z,its,n,r,e⟩:=h.ok I.hok
  exact⟨its,r,⟨_,n,e,rfl,rfl,rfl⟩,z⟩
 ·refine⟨its.toList,r,⟨o,n,I.kIn a o hk,hc,hd,by simpa using hs⟩,?_⟩
  have e:=r.length;simp only[X3] at e;omega
def Inv.tuple(I:Inv X Mi b H s)(h:SqT X.K H a xs):∃ its:List Ja,cX xs its/\IsTup s.heap a its.toArray/\xs.length<=sizeLine:=by
 rcases h with h | ⟨o,its,n,hk,hc,hs,hz,r⟩
 ·obtain⟨z,its,r,p⟩:=h.ok I.hok
  exact⟨its,r,p,z⟩
 ·refine⟨its.toList,r,⟨o,I.kIn a o hk,hc,n,by simpa using hs⟩,?_⟩
  have e:=r.length;simp only[X3] at e;omega
def Inv.list_inj(I:Inv X Mi b H s)(h:SqL X.K H a xs)(h':SqL X.K H a ys):xs=ys:=by
 obtain⟨its,r,⟨o,n,e,_,_,d⟩,_⟩:=I.list h;obtain⟨its',r',⟨o',n',e',_,_,d'⟩,_⟩:=I.list h';rw[e] at e';cases e'
 rw[d] at d';injection d' with d1 _
 have:its=its':=by simpa using congrArg Array.toList d1
 subst this;exact r.inj r'
def Inv.tuple_inj(I:Inv X Mi b H s)(h:SqT X.K H a xs)(h':SqT X.K H a ys):xs=ys:=by
 obtain⟨its,r,⟨o,e,_,n,d⟩,_⟩:=I.tuple h;obtain⟨its',r',⟨o',e',_,n',d'⟩,_⟩:=I.tuple h';rw[e] at e';cases e'
 rw[d] at d';injection d' with d1 _
 have:its=its':=by simpa using congrArg Array.toList d1
 subst this;exact r.inj r'
end
abbrev Cx.wish(X:Cx)(E:Ja->Jb->Prop):Cx:={ X with xe:=E }
abbrev Cx.nox(X:Cx):Cx:=X.wish fun _ _=>False
def Cx.Ok.wish{X:Cx}(ok:X.Ok)(E:Ja->Jb->Prop):(X.wish E).Ok:=
 ⟨ok.mod,ok.kind,ok.glob,ok.blt,ok.above,ok.inj,ok.has,ok.cab,ok.hd,ok.frames,ok.stk,ok.exf,ok.bs,ok.bsz,ok.noex,ok.exfs,ok.funs,ok.frf⟩
def Cx.Ok.unwish{X:Cx}{E:Ja->Jb->Prop}(ok:(X.wish E).Ok):X.Ok:=
 ⟨ok.mod,ok.kind,ok.glob,ok.blt,ok.above,ok.inj,ok.has,ok.cab,ok.hd,ok.frames,ok.stk,ok.exf,ok.bs,ok.bsz,ok.noex,ok.exfs,ok.funs,ok.frf⟩
section
variable{X:Cx}{Mi:List (Jc×Obj)}{r:St}{H:Hp}{s:Jb}{E:Ja->Jb->Prop}
def Inv.wish(I:Inv X Mi r H s)(E:Ja->Jb->Prop):Inv (X.wish E) Mi r H s:=⟨I.ok.wish E,I.os,I.bare,I.base,I.loc,I.cell,I.free,I.freeC,I.pin,I.hok,I.len⟩
def Inv.unwish(I:Inv (X.wish E) Mi r H s):Inv X Mi r H s:=⟨I.ok.unwish,I.os,I.bare,I.base,I.loc,I.cell,I.free,I.freeC,I.pin,I.hok,I.len⟩
end
section
variable{X:Cx}{st:Ji}{rest:List Ji}{t u:TS}{e:Expr}{te:TE}{pos:Pos}
abbrev zSC:TS:=fun D r H=>D.nx r H
abbrev zSD(t u:TS):TS:=fun D r H=>t { D with nx:=u D } r H
def zOt:PSs X [] zSC:=fun _ _ r H _ I h=>Jo ⟨r,H,I,h⟩
def tZ(h1:PS X st t)(h2:PSs X rest u):PSs X (st::rest) (zSD t u):=by
 intro Mi s r H D I h;refine Jp (thn (h1 Mi s r H { D with nx:=u D } I h) fun f s1 q=>?_)
 cases f with
 | next=>
  obtain⟨r',H',I',q⟩:=q;exact h2 Mi s1 r' H' D I' q
 | ret v=>exact q
 | brk=>exact q
 | cont=>exact q
def zDD(h1:PS X st t):PSs X [st] t:=by
 intro Mi s r H D I h;refine Jp (thn (h1 Mi s r H D I h) fun f s1 q=>?_)
 cases f with
 | next=>exact Jo q
 | ret v=>exact q
 | brk=>exact q
 | cont=>exact q
def Inv.quiet{Mi:List (Jc×Obj)}{r:St}{H:Hp}{s:Jb}(I:Inv X Mi r H s):interactive X.env=false:=by simp[interactive,I.ok.kind]
abbrev zSY(te:TE):TS:=fun D r H=>te r H fun _ H1=>D.nx r H1
def zAY(he:PE X e te)(hs:swapsWith e none pos.line X.env=pure false:=by rfl):PS X (.Expr e pos) (zSY te):=by
 intro Mi s r H D I h;exact wpAny_Expr_any (thn (he Mi s r H _ I h) fun v s1 ⟨x,H1,I1,r1,q1⟩=>⟨r,H1,I1,q1⟩) I.quiet hs
abbrev zTL(te:TE):TS:=fun D r H=>te r H D.rt
def zEG(he:PE X e te):PS X (.Return (some e) pos) (zTL te):=by
 intro Mi s r H D I h;exact wpAny_Return_some (thn (he Mi s r H _ I h) fun v s1 ⟨x,H1,I1,r1,q1⟩=>⟨x,r,H1,I1,r1,q1⟩)
abbrev zUj(c:TT)(t u:TS):TS:=fun D r H=>c r H fun b H1=>if b=true then t D r H1 else u D r H1
def zSr{c:Expr}{a b:List Ji}{tc:TT}(hc:PT X c tc)(ha:PSs X a t)(hb:PSs X b u):PS X (.If c a b pos) (zUj tc t u):=by
 intro Mi s r H D I h;refine wpAny_If (thn (hc Mi s r H _ I h) fun d s1 ⟨H1,I1,q1⟩=>?_)
 cases d with
 | true=>exact ha Mi s1 r H1 D I1 q1
 | false=>exact hb Mi s1 r H1 D I1 q1
end
abbrev TG:=V->St->Hp->(St->Hp->Prop)->Prop
abbrev TGs:=List V->St->Hp->(St->Hp->Prop)->Prop
def PG(X:Cx)(target:Expr)(t:TG):Prop:=
 ∀(Mi:List (Jc×Obj))(s:Jb)(r:St)(H:Hp)(v:V)(u:Ja)(Q:St->Hp->Prop),Inv X Mi r H s->cW v u->t v r H Q->
  wpAny (model X.prog X.w) X.A (assign target X.env u) (fun _ s'=>∃ r' H',Inv X Mi r' H' s'/\Q r' H') X.xe s
def PGs(X:Cx)(ts:List Expr)(t:TGs):Prop:=
 ∀(Mi:List (Jc×Obj))(s:Jb)(r:St)(H:Hp)(vs:List V)(us:List Ja)(Q:St->Hp->Prop),Inv X Mi r H s->cX vs us->t vs r H Q->
  wpAny (model X.prog X.w) X.A (assignInOrder ((assignEach ts X.env).map (·.2)) us) (fun _ s'=>∃ r' H',Inv X Mi r' H' s'/\Q r' H') X.xe s
abbrev zSu:=V->V->V->Hp->(Hp->Prop)->Prop
def zTS(X:Cx)(t:zSu):Prop:=
 ∀(Mi:List (Jc×Obj))(s:Jb)(r:St)(H:Hp)(o i v:V)(ov iv u:Ja)(Q:Hp->Prop),Inv X Mi r H s->cW o ov->cW i iv->cW v u->t o i v H Q->
  wpAny (model X.prog X.w) X.A (setItem ov iv u) (fun _ s'=>∃ H',Inv X Mi r H' s'/\Q H') X.xe s
abbrev TIp:=V->V->Hp->VK->Prop
def PIp(X:Cx)(op:Operator)(t:TIp):Prop:=
 ∀(Mi:List (Jc×Obj))(s:Jb)(r:St)(H:Hp)(x y:V)(v u:Ja)(Q:VK),Inv X Mi r H s->cW x v->cW y u->t x y H Q->
  wpAny (model X.prog X.w) X.A (inplaceOp op v u) (EP X Mi r Q) X.xe s
section
variable{X:Cx}{pos:Pos}
abbrev gName(i:Nat):TG:=fun v p H Q=>Q (p.set i (some v)) H
def zEh{i:Nat}{x:Str}(hN:X.N.Nodup)(hi:X.N[i]?=some x)(hx:Loc X.env.scope x)(hf:X.fn x=true∨X.env.scope.names.lookup x=some .local:=by first | exact .inl rfl | exact .inr rfl | assumption):PG X (.Name x pos) (gName i):=by
 intro Mi s p H v u Q I r h;exact Jq (pZ I hN hi hx r (fun s' I'=>⟨_,H,I',h⟩) hf)
def zGY:TGs:=fun vs p H Q=>vs=[]/\Q p H
def mP(t:TG)(u:TGs):TGs:=fun vs p H Q=>∃ v r,vs=v::r/\t v p H fun p' H'=>u r p' H' Q
def zJa:PGs X [] zGY:=by
 intro Mi s p H vs us Q I r h;obtain⟨e,h⟩:=h;subst e;cases r;exact assignInOrder_nil ⟨p,H,I,h⟩
def zX{e:Expr}{es:List Expr}{t:TG}{u:TGs}(h1:PG X e t)(h2:PGs X es u)
  (hs:(assignEach (e::es) X.env).map (·.2)=assign e X.env::(assignEach es X.env).map (·.2):=by rfl):PGs X (e::es) (mP t u):=by
 intro Mi s p H vs us Q I r h;obtain⟨v,vr,e1,h⟩:=h;subst e1
 cases r with
 | cons r rr=>
  rw[hs];refine assignInOrder_cons (thn (h1 Mi s p H _ _ _ I r h) fun _ s1 ⟨p1,H1,I1,q1⟩=>?_)
  exact h2 Mi s1 p1 H1 _ _ Q I1 rr q1
def zGW(K:PySem.W.Frag)(n:Nat)(t:TGs):TG:=fun v p H Q=>∃ a xs,v=.ref a/\SqT K H a xs/\xs.length=n/\t xs p H Q
def zMq{es:List Expr}{k:Nat}{t:TGs}{n:Nat}(hc:X.calm=true)(h:PGs X es t)
  (hn:(assignEach es X.env).length=n:=by rfl) (hst:(assignEach es X.env).findIdx? (·.1)=none:=by rfl):PG X (.Tuple es k pos) (zGW X.K n t):=by
 intro Mi s p H v u Q I r hw;obtain⟨a,xs,e1,hq,hl,hw⟩:=hw;subst e1;cases r;obtain⟨its,rv,ht,hz⟩:=I.tuple hq;refine assign_Tuple_tuple (I.ok.hd hc) ht (by simp[hn,<-hl,rv.length]) hst fun h' hx=>?_
 have I1:Inv X Mi p H { s with heap:=h' }:=I.kept (t':=s.toks) fun b o e=>hx b o (Qt (Heap.lt_size e)) e
 exact h Mi _ p H xs _ Q I1 (by simpa using rv) hw
def zUt(to ti:TE)(t:zSu):TG:=fun v p H Q=>to p H fun o H1=>ti p H1 fun i H2=>t o i v H2 fun H3=>Q p H3
def zRq{o i:Expr}{to ti:TE}{t:zSu}(ho:PE X o to)(hi:PE X i ti)(hs:zTS X t)
  (ha:∀ v,assign (.Subscript o i pos) X.env v=(do
   let ov <-holding [v] (eval o X.env)
   let iv <-holding [v,ov] (eval i X.env)
   standAt pos
   holding [v,ov,iv] (setItem ov iv v)
   release [v,ov,iv] []):=by intro _;rfl):PG X (.Subscript o i pos) (zUt to ti t):=by
 intro Mi s p H v u Q I r h;rw[ha];refine Jr (wpAny_holding (thn (ho Mi s p H _ I h) fun ov s1 ⟨x,H1,I1,r1,q1⟩=>?_))
 refine Jr (wpAny_holding (thn (hi Mi s1 p H1 _ I1 q1) fun iv s2 ⟨y,H2,I2,r2,q2⟩=>?_))
 refine Jr (wpAny_standAt (Jr (wpAny_holding (thn (hs Mi s2 p H2 x y v ov iv u _ I2 r1 r2 r q2) fun _ s3 ⟨H3,I3,q3⟩=>?_))))
 exact wpAny_release ⟨p,H3,I3,q3⟩
abbrev zTa(te:TE)(g:TG):TS:=fun D p H=>te p H fun x H1=>g x p H1 D.nx
def zRS{tg e:Expr}{te:TE}{g:TG}(he:PE X e te)(hg:PG X tg g)(hs:swapsWithSole [tg] e pos.line X.env=pure false:=by rfl)(hw:swappedStores [tg] e X.env=pure none:=by rfl)
  (h1:(assignEach [tg] X.env).map (·.2)=[assign tg X.env]:=by rfl):PS X (.Assign [tg] e pos) (zTa te g):=by
 intro Mi s p H D I h;refine wpAny_Assign_stores (thn (he Mi s p H _ I h) fun v s1 ⟨x,H1,I1,r1,q1⟩=>?_) hs hw
 rw[h1];exact thn (hg Mi s1 p H1 x v _ I1 r1 q1) fun _ s2 q=>q
def zMV{i:Nat}{x:Str}{e:Expr}{te:TE}{pos':Pos}(hN:X.N.Nodup)(hi:X.N[i]?=some x)(hx:Loc X.env.scope x)(he:PE X e te)(hs:swapsWith e (some (.Name x pos')) pos.line X.env=pure false:=by rfl)(hf:X.fn x=true∨X.env.scope.names.lookup x=some .local:=by first | exact .inl rfl | exact .inr rfl | assumption):
  PS X (.Assign [.Name x pos'] e pos) (zTa te (gName i)):=by
 intro Mi s p H D I h;refine wpAny_Assign_Name (thn (he Mi s p H _ I h) fun v s1 ⟨y,H1,I1,r1,q1⟩=>?_) hs
 exact pZ I1 hN hi hx r1 (fun s2 I2=>⟨_,H1,I2,q1⟩) hf
abbrev zUr(i:Nat)(te:TE)(ti:TIp):TS:=fun D p H=>∃ x,p[i]?=some (some x)/\te p H fun y H1=>ti x y H1 fun z H2=>D.nx (p.set i (some z)) H2
def zPK{i:Nat}{x:Str}{e:Expr}{te:TE}{op:Operator}{ti:TIp}{pos':Pos}(hN:X.N.Nodup)(hi:X.N[i]?=some x)(hx:Loc X.env.scope x)(he:PE X e te)(ho:PIp X op ti)(hf:X.fn x=true∨X.env.scope.names.lookup x=some .local:=by first | exact .inl rfl | exact .inr rfl | assumption):
  PS X (.AugAssign (.Name x pos') op e pos) (zUr i te ti):=by
 intro Mi s p H D I h;obtain⟨v,e1,h⟩:=h;obtain⟨m,hn,hl⟩:=I.loc;have vis:Vis X.env.scope x:=by rcases hx with k | k;exact .inl k;exact .inr (.inl k)
 obtain⟨u,r,l⟩:=hl i x v hi e1 vis;refine wpAny_AugAssign_Name ?_
 have go:wpAny (model X.prog X.w) X.A (eval e X.env) (fun w s₂=>wpAny (model X.prog X.w) X.A (inplaceOp op u w) (fun r s₃=>wpAny (model X.prog X.w) X.A (storeName X.env x r) (fun _=>SP X Mi D .next) X.xe s₃) X.xe s₂) X.xe s:=by
  refine thn (he Mi s p H _ I h) fun w s1 ⟨y,H1,I1,r1,q1⟩=>?_
  refine thn (ho Mi s1 p H1 v y u w _ I1 r r1 q1) fun z s2 ⟨zv,H2,I2,r2,q2⟩=>?_
  exact pZ I2 hN hi hx r2 (fun s3 I3=>⟨_,H2,I3,q2⟩) hf
 rcases l with⟨hk,hm⟩ | ⟨hk,c,hc,hcell⟩
 ·exact wpAny_loadName_local I.ok.kind hk hn hm go
 ·rcases hk with hk | hk
  ·exact wpAny_loadName_cell I.ok.kind hk hc hcell go
  ·rcases hx with k | k
   ·have:X.env.scope.names.lookup x=some .free:=hk
    rw[k] at this;cases this
   ·have:X.env.scope.names.lookup x=some .free:=hk
    rw[k] at this;cases this
def ipI(f:Int->Int->Int):TIp:=fun x y H Q=>∃ i j,x=.int i/\y=.int j/\Q (.int (f i j)) H
def zFG:PIp X .Add (ipI fun i j=>i+j):=by
 intro Mi s p H x y v u Q I r1 r2 h;obtain⟨i,j,e1,e2,q⟩:=h;subst e1;subst e2
 obtain⟨t,rfl⟩:=r1;obtain⟨t',rfl⟩:=r2;exact iadd_int ⟨.int _,H,I.tok _,⟨_,rfl⟩,q⟩
def zMi:PIp X .Sub (ipI fun i j=>i-j):=by
 intro Mi s p H x y v u Q I r1 r2 h;obtain⟨i,j,e1,e2,q⟩:=h;subst e1;subst e2
 obtain⟨t,rfl⟩:=r1;obtain⟨t',rfl⟩:=r2;exact isub_int ⟨.int _,H,I.tok _,⟨_,rfl⟩,q⟩
end
section
variable{X:Cx}{pos:Pos}
def zRH(c:TT)(tb:TS):TS:=fun D r H=>∃ W:Nat->St->Hp->Prop,(∃ m,W m r H)/\∀ m r H,W m r H->
 c r H fun b H1=>if b=true then ∃ N:St->Hp->Prop,(∀ r' H',N r' H'->∃ m',m' < m/\W m' r' H')/\tb { D with nx:=N,ct:=N,bk:=D.nx } r H1 else D.nx r H1
def zKO{c:Expr}{body:List Ji}{tc:TT}{tb:TS}(hp:PassesOwn (model X.prog X.w) X.A X.env X.xe)(hc:PT X c tc)(hb:PSs X body tb):PS X (.While c body [] pos) (zRH tc tb):=by
 intro Mi s r H D I h;obtain⟨W,⟨m0,w0⟩,turn⟩:=h;refine wpAny_While (codeAny_whileLoop (fun n s'=>∃ r' H',Inv X Mi r' H' s'/\W n r' H') ?_ m0 ⟨r,H,I,w0⟩)
 rintro n s1 ⟨r1,H1,I1,w1⟩
 refine Js hp (thn (hc Mi s1 r1 H1 _ I1 (turn n r1 H1 w1)) fun b s2 ⟨H2,I2,q2⟩=>?_)
 cases b with
 | true=>
  obtain⟨N,hN,q2⟩:=q2;rw[Jk rfl];refine Js hp (thn (hb Mi s2 r1 H2 _ I2 q2) fun f s3 q3=>?_)
  cases f with
  | next=>
   obtain⟨r3,H3,I3,n3⟩:=q3;obtain⟨m',hm,w3⟩:=hN r3 H3 n3;exact⟨m',hm,r3,H3,I3,w3⟩
  | cont=>
   obtain⟨r3,H3,I3,n3⟩:=q3;obtain⟨m',hm,w3⟩:=hN r3 H3 n3;exact⟨m',hm,r3,H3,I3,w3⟩
  | brk=>exact q3
  | ret v=>exact q3
 | false=>
  rw[Jl Yk];exact Jo ⟨r1,H2,I2,q2⟩
end
structure It where
 go:Nat->Hp->Prop
 yld:Nat->Hp->V->Hp->Prop
 stop:Nat->Hp->Prop
def tN(X:Cx)(Mi:List (Jc×Obj))(H:Hp)(b:Jc):Prop:=
 H b=none/\b≠X.env.locals/\b∉X.fs/\(b∈X.ex∨X.s₀.heap.objs.size<=b)/\(∀ x c,X.env.cells.lookup x=some c->c≠b)/\∀ p∈X.pn++Mi,p.1≠b
def Inv.fpOk{X:Cx}{Mi:List (Jc×Obj)}{r:St}{H H':Hp}{s:Jb}{b:Jc}(I:Inv X Mi r H s)(hb:s.heap.objs.size<=b)(hn:H' b=none):tN X Mi H' b:=by
 refine⟨hn,Ym (Qs I.lt hb),I.nofs hb,.inr (Q5 I.sz hb),fun x c e z=>?_,fun p hp z=>?_⟩
 ·obtain⟨v,q⟩:=I.cell x c e
  exact absurd (Qs q.lt (by rw[z];exact hb)) (Vv _)
 ·exact absurd (Qs (Heap.lt_size (I.pin p hp).1) (by rw[z];exact hb)) (Vv _)
structure Turn (P:Jf) (w:Jg) (K:PySem.W.Frag) (tg:Expr) (J:It) (fp:List Jc) (it:Jc) (tn:Nat->Je->Prop):Prop where
 mem:it∈fp
 obj:∀ i h,tn i h->∀ b∈fp,∃ o,h.get? b=some o/\∀ v,o.data≠.cell v
 keep:∀ i h h',tn i h->(∀ b∈fp,∀ o,h.get? b=some o->h'.get? b=some o)->tn i h'
 item:∀(X:Cx),X.prog=P->X.w=w->X.K=K->X.calm=true->∀(i:Nat)(Mi:List (Jc×Obj))(s:Jb)(σ:St)(H:Hp)(E:Ja->Jb->Prop),Inv X Mi σ H s->(∀ b∈fp,tN X Mi H b)->tn i s.heap->J.go i H->
  wpAny (model P w) X.A (pyNext (.ref it)) (fun r s1=>∃ u,r=some u/\
   wpAny (model P w) X.A (letOwnedTupleGo tg (.ref it) u) (fun _ s2=>∃ x H',Inv X Mi σ H' s2/\cW x u/\J.yld i H x H'/\tn (i+1) s2.heap/\∀ b∈fp,H' b=none) E s1) E s
 done:∀(X:Cx),X.prog=P->X.w=w->X.K=K->X.calm=true->∀(i:Nat)(Mi:List (Jc×Obj))(s:Jb)(σ:St)(H:Hp)(E:Ja->Jb->Prop),Inv X Mi σ H s->(∀ b∈fp,tN X Mi H b)->tn i s.heap->J.stop i H->
  wpAny (model P w) X.A (pyNext (.ref it)) (fun r s1=>r=none/\Inv X Mi σ H s1) E s
 self:∀(A:Jh)(i:Nat)(s:Jb)(Q:Ja->Jb->Prop)(E:Ja->Jb->Prop),tn i s.heap->Q (.ref it) s->wpAny (model P w) A (pyIter (.ref it)) Q E s
abbrev TI:=St->Hp->(It->Hp->Prop)->Prop
def PIE(X:Cx)(Mi:List (Jc×Obj))(r:St)(tg:Expr)(R:It->Hp->Prop)(itv:Ja)(s2:Jb):Prop:=
 ∃(it:Jc)(fp:List Jc)(tn:Nat->Je->Prop)(J:It)(H':Hp),itv=.ref it/\Inv X Mi r H' s2/\Turn X.prog X.w X.K tg J fp it tn/\tn 0 s2.heap/\(∀ b∈fp,tN X Mi H' b)/\R J H'
def PI(X:Cx)(tg iter:Expr)(wi:TI):Prop:=
 ∀(Mi:List (Jc×Obj))(s:Jb)(r:St)(H:Hp)(R:It->Hp->Prop),Inv X Mi r H s->wi r H R->
  wpAny (model X.prog X.w) X.A (eval iter X.env) (fun v s1=>wpAny (model X.prog X.w) X.A (pyIter v) (PIE X Mi r tg R) X.xe s1) X.xe s
def zLP{M:Model}{A:Jh}{E:Ja->Jb->Prop}{s:Jb}{tg:Expr}{it:Jc}{u:Ja}{o:Obj}{n:String}{vs:Array Ja}{Q:Unit->Jb->Prop}(ho:s.heap.get? it=some o)(hc:o.cls=.type n)(hd:o.data=.fields vs)
    (hn:["enumerate","zip","dict_itemiterator","dict_reverseitemiterator","odict_iterator","itertools.zip_longest","itertools.pairwise"].contains n=false) (hQ:Q () s):wpAny M A (letOwnedTupleGo tg (.ref it) u) Q E s:=by
  unfold letOwnedTupleGo
  cases tg<;>first
    | exact Ju hQ
    | (cases u<;>first
        | exact Ju hQ
        | (refine Jr (wpAny_load ho ?_)
           rw[hc,hd];show wpAny M A (if (["enumerate","zip","dict_itemiterator","dict_reverseitemiterator","odict_iterator","itertools.zip_longest","itertools.pairwise"].contains n && vs[0]?==some (rawInt _))=true then _ else _) Q E s
           rw[Jl (by intro h;rw[hn,Bool.false_and] at h;cases h)]
           exact Ju hQ))
def Itl(K:PySem.W.Frag)(a:Jc):It:=
 ⟨fun i H=>∃ xs x,SqL K H a xs/\xs[i]?=some x,fun i H x H'=>H'=H/\∀ xs,SqL K H a xs->xs[i]?=some x,fun i H=>∃ xs,SqL K H a xs/\xs.length<=i⟩
def Itt(K:PySem.W.Frag)(a:Jc):It:=
 ⟨fun i H=>∃ xs x,SqT K H a xs/\xs[i]?=some x,fun i H x H'=>H'=H/\∀ xs,SqT K H a xs->xs[i]?=some x,fun i H=>∃ xs,SqT K H a xs/\xs.length<=i⟩
def Itr(lo:Int)(n:Nat):It:=⟨fun i _=>i<n,fun i H x H'=>H'=H/\x=.int (lo+i),fun i _=>n<=i⟩
def zCX{P:Jf}{w:Jg}{K:Fg_}{tg:Expr}(a it:Jc):Turn P w K tg (Itl K a) [it] it (fun i h=>h.IsListIter it a i) where
 mem:=by simp
 obj:=fun i h st b hb=>by
  have e:b=it:=by simpa using hb
  subst e;obtain⟨o,e,c,d⟩:=st;exact⟨o,e,fun v z=>by rw[d] at z;cases z⟩
 keep:=fun i h h' st k=>st.at fun o e=>k it (by simp) o e
 item:=by
  intro X hP hw hK hc i Mi s r H E I hf st hg;subst hP hw hK;obtain⟨xs,x,hq,hx⟩:=hg;obtain⟨its,rv,p,hz⟩:=I.list hq;obtain⟨u,hu,ru⟩:=rv.get hx;obtain⟨f0,f1,f2,f3,f4,f5⟩:=hf it (by simp)
  refine wpAny_pyNext_list_item st p.isList (x:=u) (by simpa using hu) fun h' st' sb=>?_
  have I1:Inv X Mi r H { s with heap:=h' }:=I.turned (t':=s.toks) (fun b o hb e=>(sb.2 b hb).trans e) f0 f1 f3 f4 f5
  obtain⟨o,e,c,d⟩:=id st';exact⟨u,rfl,zLP (s:={ s with heap:=h' }) e c d (by decide) ⟨x,H,I1,ru,⟨rfl,fun ys hy=>by rw[I.list_inj hy hq];exact hx⟩,st',fun b hb=>(hf b hb).1⟩⟩
 done:=by
  intro X hP hw hK hc i Mi s r H E I hf st hg;subst hP hw hK;obtain⟨xs,hq,hx⟩:=hg;obtain⟨its,rv,p,hz⟩:=I.list hq;obtain⟨f0,f1,f2,f3,f4,f5⟩:=hf it (by simp)
  have hl:=rv.length;exact wpAny_pyNext_list_end (I.ok.hd hc) st p.isList (by simp;omega) fun h' eb=>⟨rfl,I.turned (t':=s.toks) (fun b o hb e=>eb b o hb e) f0 f1 f3 f4 f5⟩
 self:=fun _ _ _ _ _ st h=>wpAny_pyIter_listiter st h
def zGh{P:Jf}{w:Jg}{K:Fg_}{tg:Expr}(a it:Jc):Turn P w K tg (Itt K a) [it] it (fun i h=>h.IsTupleIter it a i) where
 mem:=by simp
 obj:=fun i h st b hb=>by
  have e:b=it:=by simpa using hb
  subst e;obtain⟨o,e,c,d⟩:=st;exact⟨o,e,fun v z=>by rw[d] at z;cases z⟩
 keep:=fun i h h' st k=>st.at fun o e=>k it (by simp) o e
 item:=by
  intro X hP hw hK hc i Mi s r H E I hf st hg;subst hP hw hK;obtain⟨xs,x,hq,hx⟩:=hg;obtain⟨its,rv,p,hz⟩:=I.tuple hq;obtain⟨u,hu,ru⟩:=rv.get hx;obtain⟨f0,f1,f2,f3,f4,f5⟩:=hf it (by simp)
  refine wpAny_pyNext_tuple_item st (show s.heap.IsTuple a its.toArray from p) (x:=u) (by simpa using hu) fun h' st' sb=>?_
  have I1:Inv X Mi r H { s with heap:=h' }:=I.turned (t':=s.toks) (fun b o hb e=>(sb.2 b hb).trans e) f0 f1 f3 f4 f5
  obtain⟨o,e,c,d⟩:=id st';exact⟨u,rfl,zLP (s:={ s with heap:=h' }) e c d (by decide) ⟨x,H,I1,ru,⟨rfl,fun ys hy=>by rw[I.tuple_inj hy hq];exact hx⟩,st',fun b hb=>(hf b hb).1⟩⟩
 done:=by
  intro X hP hw hK hc i Mi s r H E I hf st hg;subst hP hw hK;obtain⟨xs,hq,hx⟩:=hg;obtain⟨its,rv,p,hz⟩:=I.tuple hq;obtain⟨f0,f1,f2,f3,f4,f5⟩:=hf it (by simp)
  have hl:=rv.length;exact wpAny_pyNext_tuple_end (I.ok.hd hc) st (show s.heap.IsTuple a its.toArray from p) (by simp;omega) fun h' eb=>⟨rfl,I.turned (t':=s.toks) (fun b o hb e=>eb b o hb e) f0 f1 f3 f4 f5⟩
 self:=fun _ _ _ _ _ st h=>wpAny_pyIter_tupleiter st h
def zGG{P:Jf}{w:Jg}{K:Fg_}{tg:Expr}(it:Jc)(lo:Int)(n:Nat):Turn P w K tg (Itr lo n) [it] it (fun i h=>IsRangeIter h it (lo+(i:Nat)*1) ((n:Int)-(i:Nat)) 1) where
 mem:=by simp
 obj:=fun i h st b hb=>by
  have e:b=it:=by simpa using hb
  subst e
  exact⟨_,st,fun v z=>by
   have z':Data.fields _=Data.cell v:=z
   cases z'⟩
 keep:=fun i h h' st k=>k it (by simp) _ st
 item:=by
  intro X hP hw hK hc i Mi s r H E I hf st hg;subst hP hw hK;obtain⟨f0,f1,f2,f3,f4,f5⟩:=hf it (by simp)
  have W:=Walks.range (prog:=X.prog) (w:=X.w) (I.ok.hd hc) it lo 1 n;refine W.item i s _ _ hg st fun v h' tk hv st' kk=>?_
  obtain⟨t,rfl⟩:=hv;have I1:Inv X Mi r H { s with heap:=h',toks:=tk }:=I.turned (fun b o hb e=>kk b o (by simpa using hb) e) f0 f1 f3 f4 f5
  refine⟨_,rfl,zLP (s:={ s with heap:=h',toks:=tk }) (n := "range_iterator") st' rfl rfl (by decide) ⟨.int (lo+i),H,I1,⟨t,?_⟩,⟨rfl,rfl⟩,st',fun b hb=>(hf b hb).1⟩⟩
  rw[Vw]
 done:=by
  intro X hP hw hK hc i Mi s r H E I hf st hg;subst hP hw hK;obtain⟨f0,f1,f2,f3,f4,f5⟩:=hf it (by simp)
  exact wpAny_pyNext_range_end (I.ok.hd hc) st (by have:n<=i:=hg;omega) fun h' eb=>⟨rfl,I.turned (t':=s.toks) (fun b o hb e=>eb b o hb e) f0 f1 f3 f4 f5⟩
 self:=fun _ _ _ _ _ st h=>wpAny_pyIter_rangeiter st h
section
variable{X:Cx}{tg:Expr}
abbrev zSy(K:PySem.W.Frag)(tl:TE):TI:=fun c H R=>tl c H fun x H1=>∃ a,x=.ref a/\(∃ xs,SqL K H1 a xs)/\R (Itl K a) H1
def zOT{l:Expr}{tl:TE}(hl:PE X l tl):PI X tg l (zSy X.K tl):=by
 intro Mi s c H R I h;refine thn (hl Mi s c H _ I h) fun v s1 ⟨x,H1,I1,r1,q1⟩=>?_
 obtain⟨a,e,⟨xs,hq⟩,q⟩:=q1;subst e;cases r1;obtain⟨its,rv,p,hz⟩:=I1.list hq;refine wpAny_pyIter_list p.isList ?_
 refine⟨s1.heap.objs.size,[s1.heap.objs.size],_,_,H1,rfl,I1.kept (t':=s1.toks) fun b o e=>Heap.get?_push_of_some _ e,zCX a _,⟨_,Heap.get?_push_size _ rfl,rfl,rfl⟩,fun b hb=>?_,q⟩
 have e:b=s1.heap.objs.size:=by simpa using hb
 subst e;exact I1.fpOk (Qf _) (I1.hok.fresh (Qf _))
def zEO{Mi:List (Jc×Obj)}{c:St}{H:Hp}{s:Jb}{R:It->Hp->Prop}{E:Ja->Jb->Prop}{lo hi:Int}{t u v:Tok}{tk:Nat}(I:Inv X Mi c H s)(h1:-(2^62)<=lo)(h2:lo<2^62)(h3:-(2^62)<=hi)(h4:hi<2^62)
  (q:R (Itr lo (hi-lo).toNat) H):wpAny (model X.prog X.w) X.A (pyIter (.ref s.heap.objs.size)) (PIE X Mi c tg R) E { s with heap:=s.heap.push { cls:=.type "range", data:=.fields #[.int lo t,.int hi u,.int 1 v] },toks:=tk }:=by
 refine wpAny_pyIter_range (IsRange.new ..) (small_one h1 h2 h3 h4) ?_
 have I1:Inv X Mi c H { s with heap:=s.heap.push { cls:=.type "range", data:=.fields #[.int lo t,.int hi u,.int 1 v] },toks:=tk }:=I.kept fun b o e=>Heap.get?_push_of_some _ e
 refine⟨(s.heap.push { cls:=.type "range", data:=.fields #[.int lo t,.int hi u,.int 1 v] }).objs.size,[(s.heap.push { cls:=.type "range", data:=.fields #[.int lo t,.int hi u,.int 1 v] }).objs.size],_,_,H,rfl,
  I1.kept (t':=tk) fun b o e=>Heap.get?_push_of_some _ e,zGG _ lo (hi-lo).toNat,?_,fun b hb=>?_,q⟩
 ·have e1:lo+((0:Nat):Int)*1=lo:=by simp
  have e2:(((hi-lo).toNat:Nat):Int)-((0:Nat):Int)=Builtin.Range.rangeSize lo hi 1:=by rw[rangeSize_one];split<;>omega
  show IsRangeIter _ _ (lo+((0:Nat):Int)*1) ((((hi-lo).toNat:Nat):Int)-((0:Nat):Int)) 1
  rw[e1,e2];exact Heap.get?_push_size _ rfl
 ·have e:b=(s.heap.push { cls:=.type "range", data:=.fields #[.int lo t,.int hi u,.int 1 v] }).objs.size:=by simpa using hb
  subst e;exact I1.fpOk (Qf _) (I1.hok.fresh (Qf _))
abbrev xE(ta:TA):TI:=fun c H R=>ta c H fun vs H1=>∃ j:Int,vs=[.int j]/\-(2^62)<=j/\j<2^62/\R (Itr 0 j.toNat) H1
abbrev zIu(ta:TA):TI:=fun c H R=>ta c H fun vs H1=>∃ i j:Int,vs=[.int i,.int j]/\(-(2^62)<=i/\i<2^62/\-(2^62)<=j/\j<2^62)/\R (Itr i (j-i).toNat) H1
def zIm{a:Expr}{ta:TA}{p pos:Pos}(hg:Gl X "range")(hm:X.mg "range" = none)(ha:PA X [a] ta)(hs:starEach [a] X.env=[(false,eval a X.env)]:=by rfl):PI X tg (.Call (.Name "range" p) [a] [] pos) (xE ta):=by
 intro Mi s c H R I h;refine Call_ (nQ I hg hm Jv (X4 (thn (ha pos Mi s c H _ I h) fun us s1 ⟨vs,H1,I1,r1,q1⟩=>?_) hs rfl))
 obtain⟨j,e,q1,q2,q⟩:=q1;subst e
 cases r1 with
 | cons r rr=>
  cases rr;obtain⟨t,rfl⟩:=r;exact call_range_1 (zEO I1 (by omega) (by omega) q1 q2 (by simpa using q))
def zIG{a b:Expr}{ta:TA}{p pos:Pos}(hg:Gl X "range")(hm:X.mg "range" = none)(ha:PA X [a,b] ta)(hs:starEach [a,b] X.env=[(false,eval a X.env),(false,eval b X.env)]:=by rfl)(hs2:starEach [b] X.env=[(false,eval b X.env)]:=by rfl):
  PI X tg (.Call (.Name "range" p) [a,b] [] pos) (zIu ta):=by
 intro Mi s c H R I h;refine Call_ (nQ I hg hm Jv (X4 (thn (ha pos Mi s c H _ I h) fun us s1 ⟨vs,H1,I1,r1,q1⟩=>?_) (by rw[hs,hs2]) (by rw[hs2];rfl)))
 obtain⟨i,j,e,⟨q1,q2,q3,q4⟩,q⟩:=q1;subst e
 cases r1 with
 | cons r rr=>
  cases rr with
  | cons r' rr=>
   cases rr;obtain⟨t,rfl⟩:=r;obtain⟨t',rfl⟩:=r';exact call_range_2 (zEO I1 q1 q2 q3 q4 q)
abbrev zTG(wi:TI)(g:TG)(tb:TS):TS:=fun D c H=>wi c H fun J H1=>∃ W:Nat->Nat->St->Hp->Prop,(∃ m,W 0 m c H1)/\∀ i m c H,W i m c H->
 (J.stop i H/\D.nx c H)∨(J.go i H/\∃ N:St->Hp->Prop,(∀ c' H',N c' H'->∃ m',m' < m/\W (i+1) m' c' H')/\∀ x H',J.yld i H x H'->g x c H' fun c2 H2=>tb { D with nx:=N,ct:=N,bk:=D.nx } c2 H2)
def vY(fp:List Jc)(h:Je):List (Jc×Obj):=fp.filterMap fun b=>(h.get? b).map fun o=>(b,o)
def fN{fp:List Jc}{h:Je}{b:Jc}{o:Obj}(hb:b∈fp)(e:h.get? b=some o):(b,o)∈vY fp h:=Ux.mpr ⟨b,hb,by rw[e];rfl⟩
def zIn{fp:List Jc}{h:Je}{p:Jc×Obj}(hp:p∈vY fp h):p.1∈fp/\h.get? p.1=some p.2:=by
 obtain⟨b,hb,e⟩:=Ux.mp hp
 cases q:h.get? b with
 | none=>rw[q] at e;cases e
 | some o=>
  rw[q] at e;have e':(b,o)=p:=Vj e;subst e';exact⟨hb,q⟩
def Inv.pinned{Mi:List (Jc×Obj)}{c:St}{H:Hp}{s:Jb}{fp:List Jc}(I:Inv X Mi c H s)(hf:∀ b∈fp,tN X Mi H b)(ho:∀ b∈fp,∃ o,s.heap.get? b=some o/\∀ v,o.data≠.cell v):Inv X (Mi++vY fp s.heap) c H s:=
 I.pins_of fun p hp=>(Q8.mp hp).elim (fun z=>I.pin p (Qx _ z)) fun z=>by
  obtain⟨hb,e⟩:=zIn z;obtain⟨f0,f1,f2,_⟩:=hf p.1 hb;obtain⟨o,e',d⟩:=ho p.1 hb;rw[e] at e';cases e'
  exact⟨e,f0,f1,f2,d⟩
def Inv.unpinned{Mi pl:List (Jc×Obj)}{c:St}{H:Hp}{s:Jb}(I:Inv X (Mi++pl) c H s):Inv X Mi c H s:=I.pins_of fun p hp=>I.pin p (Qx _ (Vc _ hp))
def zMf{iter:Expr}{body:List Ji}{wi:TI}{g:TG}{tb:TS}{pos:Pos}(hp:PassesOwn (model X.prog X.w) X.A X.env X.xe)(hc:X.calm=true)(hi:PI X tg iter wi)(hg:PG X tg g)(hb:PSs X body tb)
  (hs:∀ x,foldedSetIterable iter X.env x=pure x:=by intro _;rfl):PS X (.For tg iter body [] pos) (zTG wi g tb):=by
 intro Mi s c H D I h;refine wpAny_For (thn (hi Mi s c H _ I h) fun v s1 h1=>thn h1 fun itv s2 h2=>?_) hs
 obtain⟨it,fp,tn,J,H2,e,I2,T,st2,f2,W,⟨m0,w0⟩,turn⟩:=h2;subst e;have stat:∀ {H':Hp},(∀ b∈fp,H' b=none)->∀ b∈fp,tN X Mi H' b:=fun hn b hb=>⟨hn b hb,(f2 b hb).2⟩
 refine codeAny_forLoop_any (fun n s'=>∃ i c' H',Inv X Mi c' H' s'/\tn i s'.heap/\(∀ b∈fp,H' b=none)/\W i n c' H') ?_ m0 ⟨0,c,H2,I2,st2,fun b hb=>(f2 b hb).1,w0⟩
 rintro n s3 ⟨i,c3,H3,I3,st3,fr3,w3⟩
 rcases turn i n c3 H3 w3 with⟨stop,qn⟩ | ⟨go,N,hN,step⟩
 ·refine Js hp (thn (T.done X rfl rfl rfl hc i Mi s3 c3 H3 X.xe I3 (stat fr3) st3 stop) fun r s4 ⟨hr,I4⟩=>?_)
  subst hr;exact Jo ⟨c3,H3,I4,qn⟩
 ·refine Js hp (thn (T.item X rfl rfl rfl hc i Mi s3 c3 H3 X.xe I3 (stat fr3) st3 go) fun r s4 ⟨u,hr,h4⟩=>?_)
  subst hr;refine Js hp (thn h4 fun _ s5 ⟨x,H5,I5,r5,y5,st5,fr5⟩=>?_)
  have I5':=I5.pinned (stat fr5) (T.obj _ _ st5);refine Js hp (thn (hg _ s5 c3 H5 x u _ I5' r5 (step x H5 y5)) fun _ s6 ⟨c6,H6,I6,q6⟩=>?_)
  refine Js hp (thn (hb _ s6 c6 H6 _ I6 q6) fun f s7 q7=>?_)
  have again:∀ {c7:St} {H7:Hp},Inv X (Mi++vY fp s5.heap) c7 H7 s7->N c7 H7->∃ m,m<n/\∃ i c' H',Inv X Mi c' H' s7/\tn i s7.heap/\(∀ b∈fp,H' b=none)/\W i m c' H':=fun {c7 H7} I7 n7=>by
   obtain⟨m',hm,w7⟩:=hN c7 H7 n7;refine⟨m',hm,i+1,c7,H7,I7.unpinned,T.keep _ _ _ st5 fun b hb o e=>(I7.pin (b,o) (Qx _ (Qx _ (fN hb e)))).1,fun b hb=>?_,w7⟩
   obtain⟨o,e,d⟩:=T.obj _ _ st5 b hb;exact(I7.pin (b,o) (Qx _ (Qx _ (fN hb e)))).2.1
  cases f with
  | next=>obtain⟨c7,H7,I7,n7⟩:=q7;exact again I7 n7
  | cont=>obtain⟨c7,H7,I7,n7⟩:=q7;exact again I7 n7
  | brk=>obtain⟨c7,H7,I7,q7⟩:=q7;exact⟨c7,H7,I7.unpinned,q7⟩
  | ret v=>obtain⟨x7,c7,H7,I7,r7,q7⟩:=q7;exact⟨x7,c7,H7,I7.unpinned,r7,q7⟩
end
abbrev R2:=V->V->Hp->VK->Prop
def OpR(X:Cx)(f:Ja->Ja->Sem Ja)(r:R2):Prop:=
 ∀(Mi:List (Jc×Obj))(s:Jb)(p:St)(H:Hp)(x y:V)(v u:Ja)(Q:VK),Inv X Mi p H s->cW x v->cW y u->r x y H Q->
  wpAny (model X.prog X.w) X.A (f v u) (EP X Mi p Q) X.xe s
def UnR(X:Cx)(f:Ja->Sem Ja)(r:V->Hp->VK->Prop):Prop:=
 ∀(Mi:List (Jc×Obj))(s:Jb)(p:St)(H:Hp)(x:V)(v:Ja)(Q:VK),Inv X Mi p H s->cW x v->r x H Q->
  wpAny (model X.prog X.w) X.A (f v) (EP X Mi p Q) X.xe s
def rN(X:Cx)(f:Ja)(r:List V->Hp->VK->Prop):Prop:=
 ∀(Mi:List (Jc×Obj))(s:Jb)(p:St)(H:Hp)(xs:List V)(us:List Ja)(Q:VK),Inv X Mi p H s->cX xs us->r xs H Q->
  wpAny (model X.prog X.w) X.A (call f us) (EP X Mi p Q) X.xe s
abbrev tOp(r:R2)(ta tb:TE):TE:=fun s H Q=>ta s H fun x H1=>tb s H1 fun y H2=>r x y H2 Q
abbrev tUn(r:V->Hp->VK->Prop)(ta:TE):TE:=fun s H Q=>ta s H fun x H1=>r x H1 Q
def rI(C:Int->Int->Prop)(g:Int->Int->V):R2:=fun x y H Q=>∃ i j,x=.int i/\y=.int j/\C i j/\Q (g i j) H
def rI0(g:Int->Int->V):R2:=fun x y H Q=>∃ i j,x=.int i/\y=.int j/\Q (g i j) H
def rU(g:Int->V):V->Hp->VK->Prop:=fun x H Q=>∃ i,x=.int i/\Q (g i) H
section
variable{X:Cx}{a b c:Expr}{ta tb tc:TE}{pos:Pos}
def zSt(ha:PE X a ta)(hb:PE X b tb){Mi:List (Jc×Obj)}{s:Jb}{p:St}{H:Hp}{R:V->V->Hp->Prop}(I:Inv X Mi p H s)
  (h:ta p H fun x H1=>tb p H1 fun y H2=>R x y H2) {Q:Ja->Jb->Prop} {f:Ja->Ja->Sem Ja}
  (hf:∀ v u s2 x y H2,Inv X Mi p H2 s2->cW x v->cW y u->R x y H2->wpAny (model X.prog X.w) X.A (f v u) Q X.xe s2):
  wpAny (model X.prog X.w) X.A (eval a X.env) (fun v s₁=>wpAny (model X.prog X.w) X.A (eval b X.env) (fun u s₂=>wpAny (model X.prog X.w) X.A (f v u) Q X.xe s₂) X.xe s₁) X.xe s:=by
 refine thn (ha Mi s p H _ I h) fun v s1 ⟨x,H1,I1,r1,q1⟩=>?_
 refine thn (hb Mi s1 p H1 _ I1 q1) fun u s2 ⟨y,H2,I2,r2,q2⟩=>?_
 exact hf v u s2 x y H2 I2 r1 r2 q2
def zJv{op:Operator}{r:R2}(ho:OpR X (binaryOp op) r)(ha:PE X a ta)(hb:PE X b tb):PE X (.BinOp a op b pos) (tOp r ta tb):=by
 intro Mi s p H Q I h;exact wpAny_BinOp (zSt ha hb I h fun v u s2 x y H2 I2 rx ry q=>ho Mi s2 p H2 x y v u Q I2 rx ry q)
def zSG{op:UnaryOp}{r:V->Hp->VK->Prop}(ho:UnR X (unaryOp op) r)(ha:PE X a ta):PE X (.UnaryOp op a pos) (tUn r ta):=by
 intro Mi s p H Q I h;exact UnaryOp_ (thn (ha Mi s p H _ I h) fun v s1 ⟨x,H1,I1,r1,q1⟩=>ho Mi s1 p H1 x v Q I1 r1 q1)
def opI{f:Ja->Ja->Sem Ja}{C:Int->Int->Prop}{g:Int->Int->Int}
  (rule:∀(i j:Int)(t u:Tok)(s:Jb)(Q:Ja->Jb->Prop)(E:Ja->Jb->Prop),C i j->Q (.int (g i j) s.toks) { s with toks:=s.toks+1 }->wpAny (model X.prog X.w) X.A (f (.int i t) (.int j u)) Q E s):
  OpR X f (rI C fun i j=>.int (g i j)):=by
 intro Mi s p H x y v u Q I rx ry h;obtain⟨i,j,rfl,rfl,hc,q⟩:=h;obtain⟨t,rfl⟩:=rx;obtain⟨t',rfl⟩:=ry;exact rule i j t t' s _ _ hc ⟨.int (g i j),H,I.tok _,⟨_,rfl⟩,q⟩
def zTU{f:Ja->Ja->Sem Ja}{g:Int->Int->Int}
  (rule:∀(i j:Int)(t u:Tok)(s:Jb)(Q:Ja->Jb->Prop)(E:Ja->Jb->Prop),Q (.int (g i j) s.toks) { s with toks:=s.toks+1 }->wpAny (model X.prog X.w) X.A (f (.int i t) (.int j u)) Q E s):
  OpR X f (rI0 fun i j=>.int (g i j)):=by
 intro Mi s p H x y v u Q I rx ry h;obtain⟨i,j,rfl,rfl,q⟩:=h;obtain⟨t,rfl⟩:=rx;obtain⟨t',rfl⟩:=ry;exact rule i j t t' s _ _ ⟨.int (g i j),H,I.tok _,⟨_,rfl⟩,q⟩
def zTV{f:Ja->Ja->Sem Ja}{g:Int->Int->Bool}
  (rule:∀(i j:Int)(t u:Tok)(s:Jb)(Q:Ja->Jb->Prop)(E:Ja->Jb->Prop),Q (.bool (g i j)) s->wpAny (model X.prog X.w) X.A (f (.int i t) (.int j u)) Q E s):
  OpR X f (rI0 fun i j=>.bl (g i j)):=by
 intro Mi s p H x y v u Q I rx ry h;obtain⟨i,j,rfl,rfl,q⟩:=h;obtain⟨t,rfl⟩:=rx;obtain⟨t',rfl⟩:=ry;exact rule i j t t' s _ _ ⟨.bl (g i j),H,I,rfl,q⟩
def zSm(i j:Int):Prop:=(-(2^64)<i/\i<2^64)∨(-(2^64)<j/\j<2^64)
def zSm.ok{i j:Int}(h:zSm i j):IntMulOk i j:=by
 rcases h with⟨h1,h2⟩ | ⟨h1,h2⟩
 ·exact .of_left (intBits_le_64 h1 h2)
 ·exact .of_right (intBits_le_64 h1 h2)
def zQJ:OpR X (binaryOp .Add) (rI0 fun i j=>.int (i+j)):=zTU fun _ _ _ _ _ _ _ q=>add_int q
def yP:OpR X (binaryOp .Sub) (rI0 fun i j=>.int (i-j)):=zTU fun _ _ _ _ _ _ _ q=>sub_int q
def cN:OpR X (binaryOp .Mod) (rI (fun _ j=>j≠0) fun i j=>.int (i.fmod j)):=opI fun _ _ _ _ _ _ _ hc q=>mod_int' hc q
def unI{f:Ja->Sem Ja}{g:Int->Int}
  (rule:∀(i:Int)(t:Tok)(s:Jb)(Q:Ja->Jb->Prop)(E:Ja->Jb->Prop),Q (.int (g i) s.toks) { s with toks:=s.toks+1 }->wpAny (model X.prog X.w) X.A (f (.int i t)) Q E s):
  UnR X f (rU fun i=>.int (g i)):=by
 intro Mi s p H x v Q I rx h;obtain⟨i,rfl,q⟩:=h;obtain⟨t,rfl⟩:=rx;exact rule i t s _ _ ⟨.int (g i),H,I.tok _,⟨_,rfl⟩,q⟩
def zQi:UnR X (unaryOp .USub) (rU fun i=>.int (-i)):=unI fun _ _ _ _ _ q=>neg_int q
end
section
variable{X:Cx}{a b c:Expr}{ta tb tc:TE}{pos:Pos}
def zQj{Mi:List (Jc×Obj)}{p:St}{H:Hp}{s:Jb}{Q:VK}{k k':Bool}(I:Inv X Mi p H s)(q:Q (.bl k) H)(e:k=k'):EP X Mi p Q (.bool k') s:=by
 subst e;exact⟨.bl k,H,I,rfl,q⟩
def zAS:OpR X (compareOp .Lt) (rI0 fun i j=>.bl (decide (i<j))):=zTV fun _ _ _ _ _ _ _ q=>lt_int q
def zDk:OpR X (compareOp .Gt) (rI0 fun i j=>.bl (decide (j<i))):=zTV fun _ _ _ _ _ _ _ q=>gt_int q
def zRg:OpR X (compareOp .Is) (fun x y H Q=>y=.non/\Q (.bl (decide (x=.non))) H):=by
 intro Mi s p H x y v u Q I rx ry h;obtain⟨rfl,q⟩:=h;cases ry;refine is_none_gen (zQj I q ?_)
 cases x<;>first
  | (cases rx;rfl)
  | (obtain⟨t,rfl⟩:=rx;rfl)
def OpR.or{f:Ja->Ja->Sem Ja}{r r':R2}(h:OpR X f r)(h':OpR X f r'):OpR X f (fun x y H Q=>r x y H Q∨r' x y H Q):=by
 intro Mi s p H x y v u Q I rx ry q;rcases q with q | q
 ·exact h Mi s p H x y v u Q I rx ry q
 ·exact h' Mi s p H x y v u Q I rx ry q
def aW(b:Expr){op:CmpOp}(h:op≠.In:=by decide)(h2:op≠.NotIn:=by decide):behindInMarks op b=false:=by
 have e1:(op==CmpOp.In)=false:=by cases op<;>first | rfl | exact absurd rfl h
 have e2:(op==CmpOp.NotIn)=false:=by cases op<;>first | rfl | exact absurd rfl h2
 cases b<;>simp[behindInMarks,e1,e2]
def zHu{op:CmpOp}{r:R2}(ho:OpR X (compareOp op) r)(ha:PE X a ta)(hb:PE X b tb)(hm:behindInMarks op b=false):PE X (.Compare a [op] [b] pos) (tOp r ta tb):=by
 intro Mi s p H Q I h;exact wpAny_Compare1 (zSt ha hb I h fun v u s2 x y H2 I2 rx ry q=>ho Mi s2 p H2 x y v u Q I2 rx ry q) hm
abbrev zQe(t:TE):TT:=fun p H Q=>t p H fun x H'=>∃ k,x=.bl k/\Q k H'
def zHx{op:CmpOp}{r:R2}(ho:OpR X (compareOp op) r)(ha:PE X a ta)(hb:PE X b tb)(hm:behindInMarks op b=false):PT X (.Compare a [op] [b] pos) (zQe (tOp r ta tb)):=by
 intro Mi s p H Q I h
 refine Jn (thn (ha Mi s p H _ I h) fun v s1 ⟨x,H1,I1,r1,q1⟩=>thn (hb Mi s1 p H1 _ I1 q1) fun u s2 ⟨y,H2,I2,r2,q2⟩=>
  thn (ho Mi s2 p H2 x y v u _ I2 r1 r2 q2) fun c s3 ⟨z,H3,I3,r3,k,e,q3⟩=>?_) hm
 subst e;cases r3;exact wpAny_truthy_bool ⟨H3,I3,q3⟩
def zEB:(sizeLine:Nat)<2^63:=by rw[Jw];decide
def zDp{x:V}{us:List Ja}(r:cX [x] us):∃ u,us=[u]/\cW x u:=by
 cases r with
 | cons r1 r2=>cases r2;exact⟨_,rfl,r1⟩
def zLR{x y:V}{us:List Ja}(r:cX [x,y] us):∃ u w',us=[u,w']/\cW x u/\cW y w':=by
 cases r with
 | cons r1 r2=>
  cases r2 with
  | cons r3 r4=>cases r4;exact⟨_,_,rfl,r1,r3⟩
def zAU:rN X (.builtin "abs") (fun xs H Q=>∃ i,xs=[.int i]/\Q (.int (if i<0 then -i else i)) H):=by
 intro Mi s p H xs us Q I r h;obtain⟨i,rfl,q⟩:=h;obtain⟨u,rfl,t,rfl⟩:=zDp r;exact call_abs_int fun u tk=>⟨.int (if i<0 then -i else i),H,I.tok _,⟨_,rfl⟩,q⟩
def zHa(hc:X.calm=true):rN X (.builtin "min") (fun xs H Q=>∃ i j,xs=[.int i,.int j]/\Q (.int (if j<i then j else i)) H):=by
 intro Mi s p H xs us Q I r h;obtain⟨i,j,rfl,q⟩:=h;obtain⟨u,w',rfl,⟨t,rfl⟩,⟨t',rfl⟩⟩:=zLR r;refine min_two_ints (I.ok.hd hc) fun h' tk k=>⟨_,H,I.kept k,?_,q⟩
 by_cases hj:j<i
 ·rw[Jk hj,Jk hj];exact⟨_,rfl⟩
 ·rw[Jl hj,Jl hj];exact⟨_,rfl⟩
end
structure Room (k:Nat) (A:Jh):Prop where
 hd:A.handled=none
 dp:A.depth+3*k+5<recursionLimit
 un:A.units+16*k+200<cLine
def Room.mono{j k:Nat}{A:Jh}(r:Room k A)(h:j<=k):Room j A:=⟨r.hd,by have:=r.dp;omega,by have:=r.un;omega⟩
def Room.deeper{k:Nat}{A:Jh}(r:Room (k+1) A)(env:Env):Room k (A.deeper env):=
 ⟨r.hd,by have:=r.dp;show A.depth+1+3*k+5<_;omega,by have:=r.un;show A.units+3+16*k+200<_;omega⟩
def Room.depth{k:Nat}{A:Jh}(r:Room k A):A.depth<recursionLimit:=by have:=r.dp;omega
def Room.units{k:Nat}{A:Jh}(r:Room k A):A.units+64<cLine:=by have:=r.un;omega
abbrev zUi:TA:=fun _ H Q=>Q [] H
abbrev zSW(ta:TE)(tr:TA):TA:=fun r H Q=>ta r H fun x H1=>tr r H1 fun xs H2=>Q (x::xs) H2
section
variable{X:Cx}{e:Expr}{es:List Expr}{te:TE}{t:TA}{pos:Pos}
def kZ:PA X [] zUi:=fun _ _ _ _ H Q I h=>Calls.spliced_nil ⟨[],H,I,.nil,h⟩
def eQ(ha:PE X e te)(hr:PA X es t)(hs:starEach (e::es) X.env=(false,eval e X.env)::starEach es X.env:=by rfl):PA X (e::es) (zSW te t):=by
 intro pos Mi s a H Q I h;rw[hs];show wpAny _ _ (spliced ((false,eval e X.env)::backTo pos (starEach es X.env))) _ _ s
 refine Calls.spliced_cons (thn (ha Mi s a H _ I h) fun u s1 ⟨x,H1,I1,r1,q1⟩=>?_)
 exact thn (hr pos Mi s1 a H1 _ I1 q1) fun us s2 ⟨xs,H2,I2,r2,q2⟩=>⟨x::xs,H2,I2,.cons r1 r2,q2⟩
abbrev zUd(t:TA):TE:=fun a H Q=>t a H fun xs H1=>xs.length<=sizeLine/\∀ p,H1 p=none->Q (.ref p) (upd H1 p (.tup xs))
abbrev zUA(t:TA):TE:=fun a H Q=>t a H fun xs H1=>xs.length<=sizeLine/\∀ p,H1 p=none->Q (.ref p) (upd H1 p (.lst xs))
def zMh{x1}(h:PA X es t):PE X (.Tuple es x1 pos) (zUd t):=by
 intro Mi s a H Q I hq;refine wpAny_Tuple_spliced (thn (h pos Mi s a H _ I hq) fun us s1 ⟨xs,H1,I1,r,z,q⟩=>⟨by rw[<-r.length];exact z,?_⟩)
 have hf:H1 s1.heap.objs.size=none:=I1.hok.fresh (Qf _);refine⟨.ref s1.heap.objs.size,upd H1 s1.heap.objs.size (.tup xs),I1.laid (t':=s1.toks) (fun b u e=>Heap.get?_push_of_some _ e) (Qf _) ?_,rfl,q _ hf⟩
 exact⟨z,us,r,⟨_,Heap.get?_push_size _ rfl,rfl,_,rfl⟩⟩
def zQQ(h:PA X es t):PE X (.List es pos) (zUA t):=by
 intro Mi s a H Q I hq;refine wpAny_List_spliced (thn (h pos Mi s a H _ I hq) fun us s1 ⟨xs,H1,I1,r,z,q⟩=>⟨by rw[<-r.length];exact z,?_⟩)
 have hf:H1 s1.heap.objs.size=none:=I1.hok.fresh (Qf _);refine⟨.ref s1.heap.objs.size,upd H1 s1.heap.objs.size (.lst xs),I1.laid (t':=s1.toks) (fun b u e=>Heap.get?_push_of_some _ e) (Qf _) ?_,rfl,q _ hf⟩
 exact⟨z,us,0,r,Heap.get?_push_size _ rfl⟩
end
abbrev Sp:=List V->Hp->VK->XK->Prop
abbrev CXT:=List Env->Hp->Jb->XK->Ja->Jb->Prop
structure Env0 (P:Jf) (w:Jg) (K:PySem.W.Frag) (mg:Str->Option Ja) (base:Je) (A:Jh) (outer:List Env) (s:Jb) (H:Hp):Prop where
 frames:A.frames=some outer
 mod:Mod K mg base
 bs:∀ b o,base.get? b=some o->s.heap.get? b=some o/\H b=none
 bsz:base.objs.size<=s.heap.objs.size
 funs:s.heap.FunFrames base outer
 frf:∀ b∈frs outer,H b=none
 hok:HOk P w H s.heap
 bare:AllBare s.gens
def CE(outer:List Env)(P:Jf)(w:Jg)(H:Hp)(s:Jb)(Q:VK)(u:Ja)(s':Jb):Prop:=
 ∃ v H',s'.os=s.os/\AllBare s'.gens/\Un (frs outer) [] H H' s.heap s'.heap/\HOk P w H' s'.heap/\cW v u/\Q v H'
def CR(CX:CXT)(outer:List Env)(P:Jf)(w:Jg)(H:Hp)(s:Jb)(Q:VK)(E:XK)(r:Result)(s':Jb):Prop:=
 match r with
 | .ok (.ret u)=>CE outer P w H s Q u s'
 | .ok _=>False
 | .error e=>CX outer H s E e s'
structure FnOk (P:Jf) (w:Jg) (K:PySem.W.Frag) (mg:Str->Option Ja) (base:Je) (CX:CXT) (k:Nat) (f:Jc) (fd:FuncData) (ps:List Str) (sp:Sp):Prop where
 len:∀ vs H Q E,sp vs H Q E->vs.length=ps.length
 run:∀(A:Jh)(outer:List Env)(s:Jb)(H:Hp)(args:Args)(us:List Ja)(vs:List V)(Q:VK)(E:XK),Room k A->Env0 P w K mg base A outer s H->BindsTo s fd args (ps.zip us)->cX vs us->sp vs H Q E->
  codeAny (model P w) A (.call (.ref f) args) (CR CX outer P w H s Q E) s
def FnOk.mono{P:Jf}{w:Jg}{K:Fg_}{mg:Str->Option Ja}{base:Je}{CX:CXT}{j k:Nat}{f:Jc}{fd:FuncData}{ps:List Str}{sp:Sp}(F:FnOk P w K mg base CX j f fd ps sp)(h:j<=k):
  FnOk P w K mg base CX k f fd ps sp:=⟨F.len,fun A outer s H args us vs Q E hr=>F.run A outer s H args us vs Q E (hr.mono h)⟩
def FnOk.imp{P:Jf}{w:Jg}{K:Fg_}{mg:Str->Option Ja}{base:Je}{CX:CXT}{k:Nat}{f:Jc}{fd:FuncData}{ps:List Str}{sp sp':Sp}(F:FnOk P w K mg base CX k f fd ps sp)
  (h:∀ vs H Q E,sp' vs H Q E->sp vs H Q E):FnOk P w K mg base CX k f fd ps sp':=
 ⟨fun vs H Q E q=>F.len vs H Q E (h _ _ _ _ q),fun A outer s H args us vs Q E hr he hb hv hs=>F.run A outer s H args us vs Q E hr he hb hv (h _ _ _ _ hs)⟩
def Env0.in1{P:Jf}{w:Jg}{K:Fg_}{mg:Str->Option Ja}{base:Je}{A:Jh}{outer:List Env}{s:Jb}{H:Hp}(e:Env0 P w K mg base A outer s H):
  Env0 P w K mg base A.in1 outer s H:=⟨e.frames,e.mod,e.bs,e.bsz,e.funs,e.frf,e.hok,e.bare⟩
section
variable{X:Cx}{Mi:List (Jc×Obj)}{p:St}{H:Hp}{s s':Jb}
def Inv.env0(I:Inv X Mi p H s):Env0 X.prog X.w X.K X.mg X.base X.A X.stack s H:=
 ⟨I.ok.frames,I.ok.mod,I.bs,Q5 I.ok.bsz I.sz,I.stack,I.stkFree,I.hok,I.bare⟩
def Inv.after{Q:VK}{u:Ja}(I:Inv X Mi p H s)(h:CE X.stack X.prog X.w H s Q u s'):EP X Mi p Q u s':=by
 obtain⟨v,H',os,bare,un,hok,r,q⟩:=h;obtain⟨hh,g,d,t,os'⟩:=s';obtain rfl:os'=s.os:=os;exact⟨v,H',I.call (h':=hh) (g':=g) (d':=d) (t':=t) (ch:=[]) un hok bare (fun b z=>absurd z (by simp)),r,q⟩
end
abbrev zNw(sp:Sp)(dvs:List V)(E:XK)(t:TA):TE:=fun r H Q=>t r H fun vs H1=>sp (vs++dvs) H1 Q E
def zCT(K:PySem.W.Frag)(fd:FuncData)(ps:List Str)(ds:List Ja):Prop:=
 ∀(s:Jb)(us:List Ja),K.In s.heap->(us++ds).length=ps.length->BindsTo s fd ⟨us,[]⟩ (ps.zip (us++ds))
def zCT.all{K:Fg_}{fd:FuncData}{ps:List Str}(h:∀ us:List Ja,us.length=ps.length->bindArgs fd ⟨us,[]⟩=pure (ps.zip us)):zCT K fd ps []:=fun s us _ hl=>by
 rw[Vf] at hl ⊢
 exact .of_eq (h us hl)
def zFt(CX:CXT)(X:Cx)(E:XK):Prop:=∀(Mi:List (Jc×Obj))(r:St)(H:Hp)(s:Jb)(e:Ja)(s':Jb),Inv X Mi r H s->CX X.stack H s E e s'->X.xe e s'
section
variable{X:Cx}{CX:CXT}{k:Nat}{f C:Jc}{fd:FuncData}{ps:List Str}{sp:Sp}{dvs:List V}{ds:List Ja}{E:XK}{x m:Str}{p pos apos:Pos}{e o:Expr}{es:List Expr}{ta:TE}{t:TA}
def zRb{Mi:List (Jc×Obj)}{a:St}{H:Hp}{s:Jb}{Q:VK}{us:List Ja}{vs:List V}(F:FnOk X.prog X.w X.K X.mg X.base CX k f fd ps sp)(hr:Room k X.A)(hb:zCT X.K fd ps ds)(hd:cX dvs ds)(hx:zFt CX X E)
  (I:Inv X Mi a H s) (r:cX vs us) (h:sp (vs++dvs) H Q E):wpAny (model X.prog X.w) X.A (call (.ref f) us) (EP X Mi a Q) X.xe s:=by
 have r2:cX (vs++dvs) (us++ds):=r.append hd;have hl:(us++ds).length=ps.length:=by rw[<-r2.length];exact F.len _ _ _ _ h
 refine wpAny_call (codeAny_mono (F.run X.A X.stack s H ⟨us,[]⟩ (us++ds) (vs++dvs) Q E hr I.env0 (hb s us I.kIn hl) r2 h) fun r s' hq=>?_)
 cases r with
 | error e=>exact hx Mi a H s e s' I hq
 | ok fl=>
  cases fl with
  | ret u=>exact I.after hq
  | next=>exact False.elim hq
  | brk=>exact False.elim hq
  | cont=>exact False.elim hq
def zDw(F:FnOk X.prog X.w X.K X.mg X.base CX k f fd ps sp)(hr:Room k X.A)(hg:Gl X x)(hm:X.mg x=some (.ref f))(hk:PySem.W.keepIn X.K (.ref f)=true)(hb:zCT X.K fd ps ds)(hd:cX dvs ds)(hx:zFt CX X E)
  (ha:PA X (e::es) t) (hdb:(x==("__debug__" : Str))=false:=by decide) (he:starEach (e::es) X.env=(false,eval e X.env)::starEach es X.env:=by rfl) (hpl:(backTo pos (starEach es X.env)).any (·.1)=false:=by rfl):
  PE X (.Call (.Name x p) (e::es) [] pos) (zNw sp dvs E t):=by
 intro Mi s a H Q I h;refine Jx (wQ I hg hm ?_ hdb)
 refine PySem.W.callWith_K (h₀:=X.base) I.ok.mod.kin hk (thn (ha pos Mi s a H _ I h) fun us s1 ⟨vs,H1,I1,r,q⟩=>⟨I1.kIn,?_⟩) he hpl
 exact zRb F hr hb hd hx I1 r q
end
structure FnScope (N P:List Str) (sc:Scope):Prop where
 kind:sc.kind=.function
 co:sc.isCoroutine=false
 gen:sc.isGenerator=false
 nd:N.Nodup
 pre:N.take P.length=P
 par:∀ x∈P,sc.names.lookup x=some .local∨sc.names.lookup x=some .cell
 nofree:∀ y∈sc.names,y.2≠.free
def zDb{kindOf:Str->Option NameKind}{x:Str}:∀ {binds:List (Str×Ja)} {m:Str->Option Ja},(∀ v,(x,v)∉binds)->bindL kindOf binds m x=m x
 | [],_,_=>rfl
 | (n,v)::r,m,h=>by
  unfold bindL;rw[zDb fun w hw=>h w (Qd _ hw)];split
  ·have:x≠n:=by rintro rfl;exact h v Qb
   simp[this]
  ·rfl
def zCm{kindOf:Str->Option NameKind}{x:Str}:∀ {binds:List (Str×Ja)} {m:Str->Option Ja},(∀ v,(x,v)∉binds)->bindC kindOf binds m x=m x
 | [],_,_=>rfl
 | (n,v)::r,m,h=>by
  unfold bindC;rw[zCm fun w hw=>h w (Qd _ hw)];split
  ·rfl
  ·have:x≠n:=by rintro rfl;exact h v Qb
   simp[this]
def zCM{kindOf:Str->Option NameKind}{x:Str}{v:Ja}:∀ {P:List Str} {vs:List Ja} {i:Nat} {m:Str->Option Ja},P.Nodup->P[i]?=some x->vs[i]?=some v->kindOf x=some .local->
  bindL kindOf (P.zip vs) m x=some v
 | [],_,_,_,_,h,_,_=>by simp at h
 | _::_,[],_,_,_,_,h,_=>by simp at h
 | p::P,w::vs,0,m,nd,h1,h2,hk=>by
  simp at h1 h2;subst h1;subst h2
  show bindL kindOf ((p,w)::P.zip vs) m p=_
  unfold bindL;rw[zDb fun v hv=>(X5.mp nd).1 (Yn hv).1,Jk hk];simp
 | p::P,w::vs,i+1,m,nd,h1,h2,hk=>by
  show bindL kindOf ((p,w)::P.zip vs) m x=_
  unfold bindL;exact zCM (i:=i) (X5.mp nd).2 (by simpa using h1) (by simpa using h2) hk
def zBB{kindOf:Str->Option NameKind}{x:Str}{v:Ja}:∀ {P:List Str} {vs:List Ja} {i:Nat} {m:Str->Option Ja},P.Nodup->P[i]?=some x->vs[i]?=some v->kindOf x≠some .local->
  bindC kindOf (P.zip vs) m x=some v
 | [],_,_,_,_,h,_,_=>by simp at h
 | _::_,[],_,_,_,_,h,_=>by simp at h
 | p::P,w::vs,0,m,nd,h1,h2,hk=>by
  simp at h1 h2;subst h1;subst h2
  show bindC kindOf ((p,w)::P.zip vs) m p=_
  unfold bindC;rw[zCm fun v hv=>(X5.mp nd).1 (Yn hv).1,Jl hk];simp
 | p::P,w::vs,i+1,m,nd,h1,h2,hk=>by
  show bindC kindOf ((p,w)::P.zip vs) m x=_
  unfold bindC;exact zBB (i:=i) (X5.mp nd).2 (by simpa using h1) (by simpa using h2) hk
def start(N:List Str)(vs:List V):St:=vs.map some++List.replicate (N.length-vs.length) none
def zGi(CX:CXT)(P:Jf)(w:Jg)(K:PySem.W.Frag)(mg:Str->Option Ja)(base:Je)(N:List Str)(qual:Str)(scope:Scope)(f:Jc)(cd:Ja)(A:Jh)(outer:List Env)(s:Jb)(H:Hp)(E:XK):Cx where
 prog:=P
 w:=w
 K:=K
 mg:=mg
 base:=base
 A:=A.deeper (envOfC qual scope s.heap.objs.size f cd)
 N:=N
 s₀:=s
 H₀:=H
 env:=envOfC qual scope s.heap.objs.size f cd
 outer:=outer
 stack:=envOfC qual scope s.heap.objs.size f cd::outer
 ex:=[]
 calm:=true
 fn:=fun _=>true
 pn:=[]
 xe:=fun e s'=>wpAny (model P w) (A.deeper (envOfC qual scope s.heap.objs.size f cd)) (leaving (envOfC qual scope s.heap.objs.size f cd) e) (fun _ s''=>CX outer H s E e s'') (fun e' s''=>CX outer H s E e' s'') s'
def zEC{sc:Scope}{n:Nat}{x:Str}(h:sc.names.lookup x=some .cell):∃ c,(cellsFrom n sc.names []).lookup x=some c:=by
 have q:=W8 sc.names n [] (.inl h);exact Y2.mp q
def zJV{CX:CXT}{P:Jf}{w:Jg}{K:Fg_}{mg:Str->Option Ja}{base:Je}{N ps:List Str}{qual:Str}{scope:Scope}{f:Jc}{cd:Ja}{A:Jh}{outer:List Env}{s s1:Jb}{H:Hp}{E:XK}{us:List Ja}{vs:List V}
  (S:FnScope N ps scope) (hd:A.handled=none) (e0:Env0 P w K mg base A outer s H) (hl:vs.length=ps.length) (r:cX vs us)
  (x:InCallC s s.heap.objs.size (bindL (envOfC qual scope s.heap.objs.size f cd).kindOf (ps.zip us) fun _=>none) (cellsFrom (s.heap.objs.size+1) scope.names []) (bindC (envOfC qual scope s.heap.objs.size f cd).kindOf (ps.zip us) fun _=>none) s1):
  Inv (zGi CX P w K mg base N qual scope f cd A outer s H E) [] (start N vs) H s1:=by
 have hpl:ps.length<=N.length:=by have:=congrArg List.length S.pre;rw[Xq] at this;omega
 obtain⟨h1,tk,rfl,hk⟩:=x.done;have noA:∀ b:Jc,b∉(zGi CX P w K mg base N qual scope f cd A outer s H E).ex:=fun b z=>absurd (show b∈([]:List Jc) from z) (by simp)
 refine⟨⟨e0.mod,S.kind,rfl,rfl,Qf _,fun y z c h1 h2=>?_,fun y hy=>?_,fun y c _ h=>?_,fun _=>hd,Around.frames_deeper e0.frames,.inr ⟨rfl,rfl⟩,fun b z=>absurd z (noA b),e0.bs,e0.bsz,fun b _ _=>noA b,fun b z=>absurd z (noA b),e0.funs,e0.frf⟩,
  rfl,e0.bare,Un.kept hk,⟨_,x.toInCall.ns,fun i y v h1 h2 h3=>?_⟩,fun y c h=>⟨_,x.cell y c h⟩,e0.hok.fresh (Qf _),fun y c h=>?_,fun p hp=>absurd (show p∈([]:List (Jc×Obj)) from hp) (by simp),e0.hok.kept hk,?_⟩
 ·exact name_of_addr x.apart (Xr h1) (Xr h2)
 ·have hy:scope.names.lookup y=some .cell∨scope.names.lookup y=some .free:=hy
  rcases hy with hy | hy
  ·exact zEC hy
  ·exact absurd rfl (S.nofree _ (Xr hy))
 ·exact Xj (x.above y c (Xr h))
 ·have hi:i<vs.length:=by
   unfold start at h2;by_cases hi:i<vs.length
   ·exact hi
   ·rw[Vh (by simpa using hi)] at h2
    rw[Y3] at h2;split at h2<;>cases h2
  have ha:vs[i]?=some v:=by
   unfold start at h2;rw[Vk (by simpa using hi),Qu] at h2
   cases e:vs[i]? with
   | none=>rw[e] at h2;cases h2
   | some a=>rw[e] at h2;cases h2;rfl
  obtain⟨u,hu,rv⟩:=r.get ha
  have hp:ps[i]?=some y:=by
   rw[<-S.pre,List.getElem?_take_of_lt (by omega)];exact h1
  have ndP:ps.Nodup:=by rw[<-S.pre];exact S.nd.sublist (List.take_sublist _ _)
  refine⟨u,rv,?_⟩
  rcases S.par y (Qj hp) with k | k
  ·exact .inl ⟨k,zCM ndP hp hu k⟩
  ·obtain⟨c,e⟩:=zEC (n:=s.heap.objs.size+1) k
   refine .inr ⟨.inl k,c,e,?_⟩
   have q:=x.cell y c e;rw[zBB ndP hp hu (by show scope.names.lookup y≠_;rw[k];decide)] at q;exact q
 ·exact e0.hok.fresh (Xj (x.above y c (Xr h)))
 ·unfold start
  show _=N.length
  rw[Qi,Qe,X6];omega
def zQg{CX:CXT}{P:Jf}{w:Jg}{K:Fg_}{mg:Str->Option Ja}{base:Je}{k:Nat}{f:Jc}{name qual:Str}{params:Arguments}{body:List Ji}{scope:Scope}{dV kV doc pm cdv ct oc:Ja}{an od:Option Jc}
  {osl:Array (Option Ja)} {N ps:List Str} {sp:Sp} (lk:K.lookup f=some ⟨oc,od,.func (PySem.W.fnOf name qual params body scope dV kV doc pm an cdv ct),osl⟩) (hcd:PySem.W.codeIn K cdv qual=true) (S:FnScope N ps scope)
  (len:∀ vs H Q E,sp vs H Q E->vs.length=ps.length)
  (hbody:∀(A:Jh)(outer:List Env)(s:Jb)(H:Hp)(vs:List V)(Q:VK)(E:XK),Room k (A.deeper (envOfC qual scope s.heap.objs.size f cdv))->sp vs H Q E->
   ∃ t,PSs (zGi CX P w K mg base N qual scope f cdv A outer s H E) body t/\t { nx:=fun _ H'=>Q .non H',rt:=Q } (start N vs) H):
  FnOk P w K mg base CX (k+1) f (PySem.W.fnOf name qual params body scope dV kV doc pm an cdv ct) ps sp:=by
 refine⟨len,fun A outer s H args us vs Q E hr e0 hb r hsp=>?_⟩
 have hl:=len _ _ _ _ hsp;have KX:K.In s.heap:=e0.mod.kin.keeps fun b o e=>(e0.bs b o e).1
 have lim:s.heap.NoLimit:=e0.mod.nolimit.keeps fun b o e=>(e0.bs b o e).1
 have hkind:∀ y∈ps.zip us,scope.names.lookup y.1=some .local∨(scope.names.lookup y.1=some .cell/\((cellsFrom (s.heap.objs.size+1) scope.names []).lookup y.1).isSome=true):=fun ⟨n,v⟩ hy=>by
  rcases S.par n (Yn hy).1 with q | q
  ·exact .inl q
  ·exact .inr ⟨q,W8 _ _ _ (.inl q)⟩
 refine codeAny_call_function hr.depth (KX _ _ lk) rfl S.co S.gen rfl (PySem.W.codeRec_of KX hcd) (hb _ _ _ _ ?_)
 refine wpAny_newFunctionEnv_cells S.kind hkind fun env he s1 x=>?_
 subst he;refine⟨lim.keeps x.toInCall.keep,codeAny_func ?_⟩
 obtain⟨t,ht,hq⟩:=hbody A outer s H vs Q E (hr.deeper _) hsp;have I:Inv (zGi CX P w K mg base N qual scope f cdv A outer s H E) [] (start N vs) H s1:=zJV S hr.hd e0 hl r x;refine wpAny_mono (ht [] s1 (start N vs) H _ I hq) (fun fl s' hs=>?_) fun e s' hs=>hs
 have fin:∀ {r':St} {H':Hp} {v:V} {u:Ja},Inv (zGi CX P w K mg base N qual scope f cdv A outer s H E) [] r' H' s'->cW v u->Q v H'->CE outer P w H s Q u s':=
  fun {r' H' v u} J rv q=>⟨v,H',J.os,J.bare,J.base,J.hok,rv,q⟩
 cases fl with
 | ret u=>
  obtain⟨v,r',H',J,rv,q⟩:=hs;exact fin J rv q
 | next=>
  obtain⟨r',H',J,q⟩:=hs;exact fin (v:=V.non) (u:=Value.none) J rfl q
 | brk=>
  obtain⟨_,_,_,q⟩:=hs;exact False.elim q
 | cont=>
  obtain⟨_,_,_,q⟩:=hs;exact False.elim q
section
variable{X:Cx}{x:Str}{p pos:Pos}{e:Expr}{es:List Expr}{t:TA}{id T:String}{r:List V->Hp->VK->Prop}
abbrev tCB(r:List V->Hp->VK->Prop)(t:TA):TE:=fun a H Q=>t a H fun vs H1=>r vs H1 Q
def rC(hc:rN X (.builtin id) r)(hg:Gl X x)(hm:X.mg x=none)(hv:bootBuiltins x=some (.builtin id))(ha:PA X (e::es) t)(hn:x ≠ "__name__" := by decide)(hdb:(x==("__debug__" : Str))=false:=by decide)
  (he:starEach (e::es) X.env=(false,eval e X.env)::starEach es X.env:=by rfl) (hpl:(backTo pos (starEach es X.env)).any (·.1)=false:=by rfl):PE X (.Call (.Name x p) (e::es) [] pos) (tCB r t):=by
 intro Mi s a H Q I h;refine Jx (nQ I hg hm hv ?_ hn hdb)
 exact PyProof.Rows.callWith_builtin1 (thn (ha pos Mi s a H _ I h) fun us s1 ⟨vs,H1,I1,r1,q1⟩=>hc Mi s1 a H1 vs us Q I1 r1 q1) he hpl
def zCz(hc:rN X (.type T) r)(hg:Gl X x)(hm:X.mg x=none)(hv:bootBuiltins x=some (.type T))(ha:PA X (e::es) t)(hn:x ≠ "__name__" := by decide)(hdb:(x==("__debug__" : Str))=false:=by decide)
  (he:starEach (e::es) X.env=(false,eval e X.env)::starEach es X.env:=by rfl) (hpl:(backTo pos (starEach es X.env)).any (·.1)=false:=by rfl):PE X (.Call (.Name x p) (e::es) [] pos) (tCB r t):=by
 intro Mi s a H Q I h;refine Jx (nQ I hg hm hv ?_ hn hdb)
 exact X4 (thn (ha pos Mi s a H _ I h) fun us s1 ⟨vs,H1,I1,r1,q1⟩=>hc Mi s1 a H1 vs us Q I1 r1 q1) he hpl
end
end L2
namespace HT
open PySem PyProof.Rows
section
open PySem.SeqAt
open PySem.AutoSeq1 (wpAny_loadPart')
open PySem.MeetsSeq PySem.MeetsSeq2 PySem.MeetsSeq3
end
section
variable{prog:Jf}{w:Jg}{A:Jh}{E:Ja->Jb->Prop}{s:Jb}
def cat_tup{t b:Jc}{vs ws:List Ja}{Q:Ja->Jb->Prop}(ht:IsTup s.heap t vs.toArray)(hb:IsTup s.heap b ws.toArray)(hv:vs≠[])
  (h1:ws=[]->Q (.ref t) s) (h2:ws≠[]->Q (.ref s.heap.objs.size) { s with heap:=s.heap.push { cls:=.type "tuple", data:=.seq (vs++ws).toArray } })
  (hsz:vs.length+ws.length<=sizeLine):wpAny (model prog w) A (binaryOp .Add (.ref t) (.ref b)) Q E s:=by
 obtain⟨⟨cls,dd,data,sl⟩,ho,hc,n,hd⟩:=id ht;obtain⟨⟨cls2,dd2,data2,sl2⟩,ho2,hc2,n2,hd2⟩:=id hb;simp only at hc hd hc2 hd2
 subst hc hd hc2 hd2;have e:vs.toArray++ws.toArray=(vs++ws).toArray:=by simp
 by_cases hw:ws=[]
 ·exact Jy ⟨_,ho,rfl⟩ ⟨_,ho2,rfl⟩ Jz J0 Uy Uz (U0 _ _)
   (tuple_addW1 t b vs.toArray ws.toArray n n2 dd dd2 sl sl2 (by simpa using hv) (by simp[hw])) ⟨ho,ho2,h1 hw⟩
 ·refine Jy ⟨_,ho,rfl⟩ ⟨_,ho2,rfl⟩ Jz J0 Uy Uz (U0 _ _)
   (tuple_addW2 t b vs.toArray ws.toArray n n2 dd dd2 sl sl2 (by simpa using hv) (by simpa using hw) (by rw[Ql,Ql];exact hsz)) ⟨ho,ho2,?_⟩
  rw[e];exact h2 hw
def sIx(n d:Nat):Option Int->Nat
 | none=>d
 | some v=>if v<0 then (v+(n:Int)).toNat else min v.toNat n
end
end HT
namespace L2
open PySem PySem.Spec PyProof.Rows
local macro_rules | `(⋯)=>`(by omega)
abbrev TO:=St->Hp->(Option Int->Hp->Prop)->Prop
def PO(X:Cx)(e:Option Expr)(t:TO):Prop:=
 ∀(Mi:List (Jc×Obj))(s:Jb)(r:St)(H:Hp)(Q:Option Int->Hp->Prop),Inv X Mi r H s->t r H Q->
  wpAny (model X.prog X.w) X.A (evalPart e X.env) (fun u s'=>∃ o H',Inv X Mi r H' s'/\IsPart u o/\Q o H') X.xe s
abbrev zPf:TO:=fun _ H Q=>Q none H
abbrev zTt(t:TE):TO:=fun r H Q=>t r H fun x H1=>∃ i,x=.int i/\Q (some i) H1
section
variable{X:Cx}{e:Expr}{te:TE}{lo hi:Option Expr}{tl th:TO}{pos p2:Pos}
def zOl:PO X none zPf:=by
 intro Mi s c H Q I h;rw[evalPart_none];exact Ju ⟨none,H,I,.none,h⟩
def zOZ(h:PE X e te):PO X (some e) (zTt te):=by
 intro Mi s c H Q I hw;rw[evalPart_some];refine thn (h Mi s c H _ I hw) fun u s1 ⟨x,H1,I1,r1,q1⟩=>?_
 obtain⟨i,rfl,q⟩:=q1;obtain⟨t,rfl⟩:=r1;exact⟨some i,H1,I1,.int i t,q⟩
def SlR(X:Cx)(r:V->Option Int->Option Int->Hp->VK->Prop):Prop:=
 ∀(Mi:List (Jc×Obj))(s:Jb)(c:St)(H:Hp)(x:V)(v vl vu:Ja)(lo hi:Option Int)(sl:Jc)(Q:VK),Inv X Mi c H s->cW x v->s.heap.IsSliceOf sl vl vu .none->IsPart vl lo->IsPart vu hi->r x lo hi H Q->
  ∃ T id,typeLookup (.type T) "__getitem__" = pure (some (.builtin id))/\s.TypeIs v T/\wpAny (model X.prog X.w) X.A (getItem v (.ref sl)) (EP X Mi c Q) X.xe s
abbrev tSl(r:V->Option Int->Option Int->Hp->VK->Prop)(te:TE)(tl th:TO):TE:=fun c H Q=>te c H fun x H1=>tl c H1 fun l H2=>th c H2 fun u H3=>r x l u H3 Q
def zKJ{r:V->Option Int->Option Int->Hp->VK->Prop}(hr:SlR X r)(he:PE X e te)(hl:PO X lo tl)(hu:PO X hi th):PE X (.Subscript e (.Slice lo hi none p2) pos) (tSl r te tl th):=by
 intro Mi s c H Q I h;refine J1 (thn (he Mi s c H _ I h) fun v s1 ⟨x,H1,I1,r1,q1⟩=>?_)
 refine wpAny_Slice (thn (hl Mi s1 c H1 _ I1 q1) fun vl s2 ⟨l,H2,I2,pl,q2⟩=>thn (hu Mi s2 c H2 _ I2 q2) fun vu s3 ⟨u,H3,I3,pu,q3⟩=>?_)
 rw[evalPart_none];refine Ju ?_
 have I4:Inv X Mi c H3 { s3 with heap:=s3.heap.push { cls:=.type "slice", data:=.fields #[vl,vu,.none] } }:=I3.kept (t':=s3.toks) fun b ob q=>Heap.get?_push_of_some _ q
 obtain⟨T,id,hT,ht,hg⟩:=hr Mi { s3 with heap:=s3.heap.push { cls:=.type "slice", data:=.fields #[vl,vu,.none] } } c H3 x v vl vu l u s3.heap.objs.size Q I4 r1 (Heap.IsSliceOf.new ..) pl pu q3;show wpAny (model X.prog X.w) X.A (subscriptTail e (.Slice lo hi none p2) v (.ref s3.heap.objs.size)) (EP X Mi c Q) X.xe { s3 with heap:=s3.heap.push { cls:=.type "slice", data:=.fields #[vl,vu,.none] } }
 exact tail_any (ops:=[.ref s3.heap.objs.size,v]) ht hT hg (by with_unfolding_all rfl)
def zPE(xs:List V)(lo hi:Option Int):List V:=(xs.drop (HT.sIx xs.length 0 lo)).take (HT.sIx xs.length xs.length hi-HT.sIx xs.length 0 lo)
def zDo(xs:List V)(lo hi:Option Int):(zPE xs lo hi).length<=xs.length:=by
 unfold zPE;rw[Xq,Xs];omega
def zQP(K:PySem.W.Frag):R2:=fun x y H Q=>∃ a b xs ys,x=.ref a/\y=.ref b/\SqT K H a xs/\SqT K H b ys/\xs≠[]/\xs.length+ys.length<=sizeLine/\
 (ys=[]->Q (.ref a) H)/\(ys≠[]->∀ p,H p=none->Q (.ref p) (upd H p (.tup (xs++ys))))
def cX.nil_iff{xs:List V}{us:List Ja}(r:cX xs us):us=[] ↔ xs=[]:=by
 cases r with
 | nil=>simp
 | cons _ _=>simp
def zOu:OpR X (binaryOp .Add) (zQP X.K):=by
 intro Mi s c H x y v u Q I rx ry h;obtain⟨a,b,xs,ys,rfl,rfl,ha,hb,hx,hz,q1,q2⟩:=h;cases rx;cases ry;obtain⟨its,r1,p1,_⟩:=I.tuple ha;obtain⟨its2,r2,p2,_⟩:=I.tuple hb;refine HT.cat_tup p1 p2 (fun z=>hx (r1.nil_iff.mp z)) (fun z=>⟨.ref a,H,I,rfl,q1 (r2.nil_iff.mp z)⟩) (fun z=>?_) (by rw[<-r1.length,<-r2.length];exact hz)
 refine⟨.ref s.heap.objs.size,_,I.laid (t':=s.toks) (o:=.tup (xs++ys)) (fun b ob q=>Heap.get?_push_of_some _ q) (Qf _) ?_,rfl,q2 (fun w=>z (r2.nil_iff.mpr w)) _ (I.hok.fresh (Qf _))⟩
 exact⟨by rw[Qi];exact hz,_,r1.append r2,IsTup.new _ _⟩
end
def ixN(n:Nat)(i:Int):Option Nat:=if 0<=i then (if i<n then some i.toNat else none) else if -(n:Int)<=i then some (i+n).toNat else none
def atI{r:Type}(xs:List r)(i:Int):Option r:=(ixN xs.length i).bind fun j=>xs[j]?
def zHF{n:Nat}{i:Int}{j:Nat}(h:ixN n i=some j):seqIndex? i n=some j/\j<n/\-(n:Int)<=i/\i<n:=by
 unfold ixN at h;by_cases h0:0<=i
 ·rw[Jk h0] at h
  by_cases h1:i<n
  ·rw[Jk h1] at h
   have e:i.toNat=j:=Vj h;exact⟨by rw[J2 h0 h1,e],by omega,by omega,h1⟩
  ·rw[Jl h1] at h;cases h
 ·rw[Jl h0] at h
  by_cases h1:-(n:Int)<=i
  ·rw[Jk h1] at h
   have e:(i+n).toNat=j:=Vj h;exact⟨by rw[J3 ⋯ h1,e],by omega,h1,by omega⟩
  ·rw[Jl h1] at h;cases h
def zHC{r:Type}{xs:List r}{i:Int}{v:r}(h:atI xs i=some v):∃ j,seqIndex? i xs.length=some j/\xs[j]?=some v/\j<xs.length/\-(xs.length:Int)<=i/\i<xs.length:=by
 unfold atI at h
 cases e:ixN xs.length i with
 | none=>rw[e] at h;cases h
 | some j=>
  rw[e] at h;obtain⟨h1,h2,h3,h4⟩:=zHF e;exact⟨j,h1,h,h2,h3,h4⟩
def zDy{r:Type}{xs:List r}{j:Nat}{v:r}(h:xs[j]?=some v):atI xs (j:Int)=some v:=by
 have hj:j<xs.length:=(Qy.mp h).1
 have e:ixN xs.length (j:Int)=some j:=by
  unfold ixN;rw[Jk ⋯,Jk ⋯];simp
 unfold atI;rw[e];exact h
def zDQ(b:Expr):Prop:=∀ o i,subscripted b false o i=operate [o,i] (getItem o i)
def IxR(X:Cx)(r:R2):Prop:=
 ∀(value slice:Expr)(Mi:List (Jc×Obj))(s:Jb)(p:St)(H:Hp)(x y:V)(v u:Ja)(Q:VK),Inv X Mi p H s->cW x v->cW y u->r x y H Q->
  subscripted slice false v u=operate [v,u] (getItem v u)->wpAny (model X.prog X.w) X.A (subscriptTail value slice v u) (EP X Mi p Q) X.xe s
def MtR(X:Cx)(id:String)(r:V->List V->Hp->VK->Prop):Prop:=
 ∀(Mi:List (Jc×Obj))(s:Jb)(p:St)(H:Hp)(x:V)(xs:List V)(v:Ja)(us:List Ja)(Q:VK),Inv X Mi p H s->cW x v->cX xs us->r x xs H Q->
  wpAny (model X.prog X.w) X.A (call (.builtin id) (v::us)) (EP X Mi p Q) X.xe s
section
variable{X:Cx}{a b:Expr}{ta tb:TE}{pos:Pos}
def IxR.or{r r':R2}(h:IxR X r)(h':IxR X r'):IxR X (fun x y H Q=>r x y H Q∨r' x y H Q):=by
 intro value slice Mi s d H x y v u Q I rx ry q hs;rcases q with q | q
 ·exact h value slice Mi s d H x y v u Q I rx ry q hs
 ·exact h' value slice Mi s d H x y v u Q I rx ry q hs
def zGo{r:R2}(hr:IxR X r)(ha:PE X a ta)(hb:PE X b tb)(hs:zDQ b):PE X (.Subscript a b pos) (tOp r ta tb):=by
 intro Mi s d H Q I h;exact J1 (zSt ha hb I h fun v u s2 x y H2 I2 rx ry q=>hr a b Mi s2 d H2 x y v u Q I2 rx ry q (hs _ _))
def zSe(K:PySem.W.Frag):R2:=fun x y H Q=>∃ p xs i v,x=.ref p/\y=.int i/\SqL K H p xs/\atI xs i=some v/\Q v H
def zSk(K:PySem.W.Frag):R2:=fun x y H Q=>∃ p xs i v,x=.ref p/\y=.int i/\SqT K H p xs/\atI xs i=some v/\Q v H
def zOC:IxR X (zSe X.K):=by
 intro value slice Mi s d H x y v u Q I rx ry h hs;obtain⟨p,xs,i,z,rfl,rfl,hq,he,q⟩:=h;cases rx;obtain⟨t,rfl⟩:=ry;obtain⟨its,r,pl,hz⟩:=I.list hq;obtain⟨j,h1,h2,h3,h4,h5⟩:=zHC he;obtain⟨w,ew,rw'⟩:=r.get h2;have hl:=r.length;have hn:=zEB;have fin:EP X Mi d Q w s:=⟨z,H,I,rw',q⟩;by_cases h0:0<=i
 ·have hj:i.toNat=j:=by
   rw[J2 h0 h5] at h1;exact Vj h1
  exact item_listR pl.isList h0 ⋯ (by rw[hj];simpa using ew) fin hs
 ·have hj:(i+(its.toArray.size:Int)).toNat=j:=by
   rw[J3 ⋯ h4] at h1;rw[Ql,<-hl];exact Vj h1
  exact J4 (x:=w) pl.isList.typeIs slot_list_getitem.lookup
   (wpAny_getItem_list_neg (Q:=fun r s'=>r=w/\EP X Mi d Q r s') pl.isList ⋯ (by rw[Ql]<;>omega) ⋯ (by rw[hj];simpa using ew) ⟨rfl,fin⟩) hs
def zQY:IxR X (zSk X.K):=by
 intro value slice Mi s d H x y v u Q I rx ry h hs;obtain⟨p,xs,i,z,rfl,rfl,hq,he,q⟩:=h;cases rx;obtain⟨t,rfl⟩:=ry;obtain⟨its,r,pl,hz⟩:=I.tuple hq;obtain⟨j,h1,h2,h3,h4,h5⟩:=zHC he;obtain⟨w,ew,rw'⟩:=r.get h2;have hl:=r.length;have hn:=zEB;have fin:EP X Mi d Q w s:=⟨z,H,I,rw',q⟩
 exact J4 (x:=w) pl.typeIs slot_tuple_getitem.lookup
  (getItem_tuple (j:=j) (Q:=fun r s'=>r=w/\EP X Mi d Q r s') pl ⋯ ⋯ (by rw[Ql,<-hl];exact h1) (by simpa using ew) ⟨rfl,fin⟩) hs
def zGl(its:List Ja)(n j:Nat)(u:Ja):Obj.mapSeq (·.setIfInBounds j u) { cls:=.type "list", data:=.seq its.toArray n }={ cls:=.type "list", data:=.seq (its.set j u).toArray n }:=by
 simp[Obj.mapSeq]
def Inv.lst{Mi:List (Jc×Obj)}{d:St}{H:Hp}{s:Jb}{p:Jc}{xs:List V}(I:Inv X Mi d H s)(h:H p=some (.lst xs)):
  ∃(its:List Ja)(n:Nat),cX xs its/\s.heap.get? p=some { cls:=.type "list", data:=.seq its.toArray n }/\xs.length<=sizeLine:=by
 obtain⟨z,its,n,r,e⟩:=I.hok p _ h;exact⟨its,n,r,e,z⟩
def Inv.lstUpd{Mi:List (Jc×Obj)}{d:St}{H:Hp}{s:Jb}{p:Jc}{xs ys:List V}{its its':List Ja}{n n':Nat}{f:Obj->Obj}(I:Inv X Mi d H s)(h:H p=some (.lst xs))
  (ho:s.heap.get? p=some { cls:=.type "list", data:=.seq its.toArray n }) (hf:f { cls:=.type "list", data:=.seq its.toArray n }={ cls:=.type "list", data:=.seq its'.toArray n' }) (r:cX ys its') (hz:ys.length<=sizeLine) (t:Nat):
  Inv X Mi d (upd H p (.lst ys)) { s with heap:=s.heap.update p f,toks:=t }:=by
 have e:(s.heap.update p f).get? p=some { cls:=.type "list", data:=.seq its'.toArray n' }:=by
  rw[Heap.get?_update_self f ho (by rw[hf]<;>rfl),hf]
 refine I.write (x:=p) (e:=p) (by rw[h];trivial) (.inl rfl) (fun b u hb q=>(Heap.get?_update_other _ _ (Ne.symm hb)).trans q) ⟨_,e⟩ ?_
 exact⟨hz,its',n',r,e⟩
def zSO:V->V->V->Hp->(Hp->Prop)->Prop:=fun o i v H Q=>∃ p xs k j,o=.ref p/\i=.int k/\H p=some (.lst xs)/\ixN xs.length k=some j/\Q (upd H p (.lst (xs.set j v)))
def zLw:zTS X zSO:=by
 intro Mi s d H o i v ov iv u Q I ro ri rv h;obtain⟨p,xs,k,j,rfl,rfl,hp,hj,q⟩:=h;cases ro;obtain⟨t,rfl⟩:=ri;obtain⟨its,n,r,ho,hz⟩:=I.lst hp;obtain⟨h1,h2,h3,h4⟩:=zHF hj;have hl:=r.length;have hn:=zEB
 have I':Inv X Mi d (upd H p (.lst (xs.set j v))) { s with heap:=s.heap.update p (Obj.mapSeq (·.setIfInBounds j u)) }:=
  I.lstUpd hp ho (zGl its n j u) (r.set rv j) (by rw[Q7];exact hz) s.toks
 by_cases h0:0<=k
 ·have hk:k.toNat=j:=by
   rw[J2 h0 h4] at h1;exact Vj h1
  exact PySem.W.ki_setAt ho h0 ⋯ (by rw[Ql,<-hl];exact h4) (by rw[hk];exact⟨_,I',q⟩)
 ·have hk:(k+(its.toArray.size:Int)).toNat=j:=by
   rw[J3 ⋯ h3] at h1;rw[Ql,<-hl];exact Vj h1
  exact PySem.W.ki_setBack ho ⋯ (by rw[Ql,<-hl];exact h3) ⋯ (by rw[hk];exact⟨_,I',q⟩)
def zCF(lo hi:Option Int)(n:Nat):(sliceBounds lo hi none n).1=((HT.sIx n 0 lo:Nat):Int)/\(sliceBounds lo hi none n).2.1=((HT.sIx n n hi:Nat):Int)/\(sliceBounds lo hi none n).2.2=1:=by
 refine⟨?_,?_,rfl⟩
 ·cases lo with
  | none=>simp[sliceBounds,HT.sIx]
  | some i=>
   simp only[sliceBounds,HT.sIx,Option.getD_none,show(1:Int) > 0 by decide,if_true];by_cases h:i<0
   ·simp only[h,if_true]<;>omega
   ·simp only[h,if_false]<;>omega
 ·cases hi with
  | none=>simp[sliceBounds,HT.sIx]
  | some i=>
   simp only[sliceBounds,HT.sIx,Option.getD_none,show(1:Int) > 0 by decide,if_true];by_cases h:i<0
   ·simp only[h,if_true]<;>omega
   ·simp only[h,if_false]<;>omega
def zAD(its:List Ja)(lo hi:Option Int):slicePick its.toArray lo hi none=((its.drop (HT.sIx its.length 0 lo)).take (HT.sIx its.length its.length hi-HT.sIx its.length 0 lo)).toArray:=by
 obtain⟨h1,h2,h3⟩:=zCF lo hi its.toArray.size;unfold slicePick;rw[h1,h2,h3];simp only[sliceRange_one,pick_run,Ql]<;>rfl
def zUy(K:PySem.W.Frag):V->Option Int->Option Int->Hp->VK->Prop:=fun x lo hi H Q=>∃ a xs,x=.ref a/\SqL K H a xs/\∀ p,H p=none->Q (.ref p) (upd H p (.lst (zPE xs lo hi)))
def zPe:SlR X (zUy X.K):=by
 intro Mi s d H x v vl vu lo hi sl Q I rx hs pl pu h;obtain⟨a,xs,rfl,hx,q⟩:=h;cases rx;obtain⟨its,r,ht,hz⟩:=I.list hx;have hlen:=r.length;refine⟨"list", _,slot_list_getitem.lookup,ht.isList.typeIs,?_⟩
 refine J5 ht.isList hs pl pu .none (by simp) ?_ (by rw[Ql]<;>omega)
 rw[zAD,<-hlen];refine⟨.ref s.heap.objs.size,_,I.laid (t':=s.toks) (o:=.lst (zPE xs lo hi)) (fun b ob q=>Heap.get?_push_of_some _ q) (Qf _) ?_,rfl,q _ (I.hok.fresh (Qf _))⟩
 exact⟨Q5 (zDo xs lo hi) hz,_,0,(r.drop (HT.sIx xs.length 0 lo)).take (HT.sIx xs.length xs.length hi-HT.sIx xs.length 0 lo),Heap.get?_push_size _ rfl⟩
def aO:rN X (.builtin "len") (fun xs H Q=>∃ p ys,xs=[.ref p]/\(SqL X.K H p ys∨SqT X.K H p ys)/\Q (.int ys.length) H):=by
 intro Mi s d H xs us Q I r h;obtain⟨p,ys,rfl,hq,q⟩:=h;obtain⟨u,rfl,rx⟩:=zDp r;cases rx;have hn:=zEB;rcases hq with hq | hq
 ·obtain⟨its,r',pl,hz⟩:=I.list hq
  have hlen:=r'.length;exact Calls.call_len_list pl.isList (by simp only[Ql]<;>omega) ⟨.int ys.length,H,I.tok _,⟨s.toks+1,by rw[Ql,hlen]⟩,q⟩
 ·obtain⟨its,r',pl,hz⟩:=I.tuple hq
  have hlen:=r'.length;exact len_tuple pl (by simp only[Ql]<;>omega) ⟨.int ys.length,H,I.tok _,⟨s.toks+1,by rw[Ql,hlen]⟩,q⟩
def zCi:rN X (.type "list") (fun xs H Q=>∃ p ys,xs=[.ref p]/\(SqL X.K H p ys∨SqT X.K H p ys)/\∀ l,H l=none->Q (.ref l) (upd H l (.lst ys))):=by
 intro Mi s d H xs us Q I r h;obtain⟨p,ys,rfl,hq,q⟩:=h;obtain⟨u,rfl,rx⟩:=zDp r;cases rx
 have fin:∀(its:List Ja),cX ys its->ys.length<=sizeLine->∀(h':Je)(c':Nat),(∀ b o',s.heap.get? b=some o'->h'.get? b=some o')->
   h'.get? s.heap.objs.size=some { cls:=.type "list", dict:=none,data:=.seq its.toArray c',slots:=#[] }->EP X Mi d Q (.ref s.heap.objs.size) { s with heap:=h' }:=fun its r' hz h' c' kp e=>
  ⟨.ref s.heap.objs.size,_,I.laid (t':=s.toks) kp (Qf _) (show mQ X.prog X.w _ h' _ (.lst ys) from ⟨hz,its,c',r',e⟩),rfl,q _ (I.hok.fresh (Qf _))⟩
 rcases hq with hq | hq
 ·obtain⟨its,r',pl,hz⟩:=I.list hq
  have hlen:=r'.length;obtain⟨o,ho,hc,n,hd⟩:=pl.isList;exact call_list_seq p (.inl rfl) ho hc hd (fun h' c' kp e=>fin its r' hz h' c' kp e) (by simp only[Ql]<;>omega)
 ·obtain⟨its,r',pl,hz⟩:=I.tuple hq
  have hlen:=r'.length;obtain⟨o,ho,hc,n,hd⟩:=pl;exact call_list_seq p (.inr rfl) ho hc hd (fun h' c' kp e=>fin its r' hz h' c' kp e) (by simp only[Ql]<;>omega)
def lU:rN X (.type "tuple") (fun xs H Q=>∃ p ys,xs=[.ref p]/\((SqL X.K H p ys/\∀ l,H l=none->Q (.ref l) (upd H l (.tup ys)))∨(SqT X.K H p ys/\Q (.ref p) H))):=by
 intro Mi s d H xs us Q I r h;obtain⟨p,ys,rfl,h⟩:=h;obtain⟨u,rfl,rx⟩:=zDp r;cases rx;rcases h with⟨hq,q⟩ | ⟨hq,q⟩
 ·obtain⟨its,r',pl,hz⟩:=I.list hq
  have hlen:=r'.length;refine call_tuple_list pl.isList (fun h' kp=>?_) (by simp only[Ql]<;>omega)
  have I1:Inv X Mi d H { s with heap:=h' }:=I.kept (t':=s.toks) kp
  have I2:Inv X Mi d (upd H h'.objs.size (.tup ys)) { s with heap:=h'.push { cls:=.type "tuple", data:=.seq its.toArray } }:=
   I1.laid (t':=s.toks) (fun b o e=>Heap.get?_push_of_some _ e) (Qf _) (show mQ X.prog X.w _ _ _ (.tup ys) from ⟨hz,its,r',IsTup.new _ _⟩)
  exact⟨.ref h'.objs.size,_,I2,rfl,q _ (I1.hok.fresh (Qf _))⟩
 ·obtain⟨its,r',pl,hz⟩:=I.tuple hq
  exact call_tuple_same pl ⟨.ref p,H,I,rfl,q⟩
def tyV(K:PySem.W.Frag)(T:String)(x:V)(H:Hp):Prop:=match x with
 | .str _=>T = "str"
 | .int _=>T = "int"
 | .ref p=>(T = "list" /\ ∃ xs,SqL K H p xs)∨(T = "tuple" /\ ∃ o,K.lookup p=some o/\o.cls=.type "tuple" /\ o.dict=none)∨
   (T = "dict" /\ ((∃ kvs,H p=some (.dK kvs))∨∃ kvs,H p=some (.dT kvs)))∨(T = "set" /\ ∃ S n,H p=some (.set S n))
 | _=>False
def zMQ{Mi:List (Jc×Obj)}{d:St}{H:Hp}{s:Jb}{T:String}{x:V}{v:Ja}(I:Inv X Mi d H s)(r:cW x v)(ty:tyV X.K T x H):
  s.TypeIs v T/\∀ a,v=.ref a->∃ ob,s.heap.get? a=some ob/\ob.dict=none:=by
 cases x with
 | str z=>
  obtain⟨t,rfl⟩:=r;cases (show T = "str" from ty)
  exact⟨typeIs_str s z t,fun _ e=>nomatch e⟩
 | int i=>
  obtain⟨t,rfl⟩:=r;cases (show T = "int" from ty)
  exact⟨typeIs_int s i t,fun _ e=>nomatch e⟩
 | ref p=>
  cases r;rcases ty with⟨rfl,xs,hq⟩ | ⟨rfl,o,hk,hc,hd⟩ | ⟨rfl,hk⟩ | ⟨rfl,S,n,hk⟩
  ·obtain⟨its,_,pl,_⟩:=I.list hq
   refine⟨pl.isList.typeIs,fun a e=>?_⟩
   cases e;obtain⟨o,n,e,c,hd,_⟩:=pl;exact⟨o,e,hd⟩
  ·refine⟨⟨o,I.kIn p o hk,hc⟩,fun a e=>?_⟩
   cases e;exact⟨o,I.kIn _ o hk,hd⟩
  ·have z:∃ o,s.heap.get? p=some o/\o.ExactDict:=by
    rcases hk with⟨kvs,hk⟩ | ⟨kvs,hk⟩
    ·obtain⟨_,_,_,_,o,_,_,e,ex,_⟩:=I.hok p _ hk
     exact⟨o,e,ex⟩
    ·obtain⟨_,_,_,_,o,_,_,e,ex,_⟩:=I.hok p _ hk
     exact⟨o,e,ex⟩
   obtain⟨o,e,ex⟩:=z;refine⟨⟨o,e,ex.1⟩,fun a e2=>?_⟩
   cases e2;exact⟨o,e,ex.2.1⟩
  ·obtain⟨o,_,_,_,e,ex,_⟩:=I.hok p _ hk
   refine⟨⟨o,e,ex.1⟩,fun a e2=>?_⟩
   cases e2;exact⟨o,e,ex.2.1⟩
 | _=>exact False.elim ty
abbrev zUx(K:PySem.W.Frag)(T:String)(r:V->List V->Hp->VK->Prop)(to:TE):TE:=fun d H Q=>to d H fun x H1=>tyV K T x H1/\r x [] H1 Q
abbrev tBM(K:PySem.W.Frag)(T:String)(r:V->List V->Hp->VK->Prop)(to:TE)(t:TA):TE:=fun d H Q=>to d H fun x H1=>tyV K T x H1/\t d H1 fun xs H2=>r x xs H2 Q
variable{o e:Expr}{es:List Expr}{to:TE}{t:TA}{name:Str}{apos cpos:Pos}{T id:String}{r:V->List V->Hp->VK->Prop}
def zRw(pa:PlainAttrs T)(slot:Slot T name id)(hty:typeOf (.builtin id)=pure (.type "method_descriptor"))(hm:MtR X id r)(ho:PE X o to)
  (hbase:attributeBase o name X.env (eval o X.env)=eval o X.env:=by rfl) (hline:(apos.endLine==cpos.line)=true:=by rfl):PE X (.Call (.Attribute o name apos) [] [] cpos) (zUx X.K T r to):=by
 intro Mi s d H Q I h;refine wpAny_Call_method0_late hbase hline (thn (ho Mi s d H _ I h) fun v s1 ⟨x,H1,I1,r1,ty,q1⟩=>?_)
 obtain⟨h1,h2⟩:=zMQ I1 r1 ty;exact⟨T,id,pa,slot,hty,h1,h2,Calls.callWith_builtin rfl (PySem.evalArgs_none (hm Mi s1 d H1 x [] v [] Q I1 r1 .nil q1))⟩
def zQB(pa:PlainAttrs T)(slot:Slot T name id)(hty:typeOf (.builtin id)=pure (.type "method_descriptor"))(hm:MtR X id r)(ho:PE X o to)(ha:PA X (e::es) t)
  (hbase:attributeBase o name X.env (eval o X.env)=eval o X.env:=by rfl)
  (hfew:((backTo cpos (starEach (e::es) X.env)).all (fun x=>!x.1) && (backToKw cpos (keywordEach [] X.env)).all (fun x=>x.1.isSome)
   && decide ((e::es).length+([]:List Keyword).length+(if ([]:List Keyword).isEmpty then 0 else 1)<30))=true:=by rfl)
  (hline:(apos.endLine==cpos.line)=true:=by rfl) (hs:starEach (e::es) X.env=(false,eval e X.env)::starEach es X.env:=by rfl) (hplain:(backTo cpos (starEach es X.env)).any (·.1)=false:=by rfl):
  PE X (.Call (.Attribute o name apos) (e::es) [] cpos) (tBM X.K T r to t):=by
 intro Mi s d H Q I h;refine wpAny_Call_method_late hbase hfew hline rfl (thn (ho Mi s d H _ I h) fun v s1 ⟨x,H1,I1,r1,ty,q1⟩=>?_)
 obtain⟨h1,h2⟩:=zMQ I1 r1 ty;refine⟨T,id,pa,slot,hty,h1,h2,?_⟩
 have hA:=ha cpos Mi s1 d H1 _ I1 q1;rw[hs] at hA ⊢
 refine Calls.callWith_builtin (by show(false || (backTo cpos (starEach es X.env)).any (·.1))=false;rw[hplain]<;>rfl) (Calls.evalArgs_plain ?_)
 exact thn hA fun us s2 ⟨vs,H2,I2,r2,q2⟩=>hm Mi s2 d H2 x vs v us Q I2 r1 r2 q2
end
def MtM(X:Cx)(id:String)(r:V->List V->Hp->VK->Prop):Prop:=
 ∀(Mi:List (Jc×Obj))(s:Jb)(p:St)(H:Hp)(x:V)(xs:List V)(v:Ja)(us:List Ja)(Q:VK),Inv X Mi p H s->cW x v->cX xs us->r x xs H Q->
  wpAny (model X.prog X.w) X.A (call (.builtin id) (v::us)) (EP X Mi p Q) X.xe s
def cX.one:∀ {x:V} {us:List Ja},cX [x] us->∃ u,us=[u]/\cW x u
 | _,_,.cons r .nil=>⟨_,rfl,r⟩
def cX.zero:∀ {us:List Ja},cX [] us->us=[]
 | _,.nil=>rfl
def cX.dropLast{xs:List V}{us:List Ja}(h:cX xs us):cX xs.dropLast us.dropLast:=by
 induction h with
 | nil=>exact .nil
 | cons r t ih=>
  cases t with
  | nil=>exact .nil
  | cons q t'=>exact .cons r ih
def cX.rep{xs:List V}{us:List Ja}(h:cX xs us):∀ k:Nat,cX (List.replicate k xs).flatten (List.replicate k us).flatten
 | 0=>.nil
 | k+1=>by
  rw[Xt,Xt,X7,X7];exact cX.append h (cX.rep h k)
def zGE{s:Type}(l:List s):l.eraseIdx (l.length-1)=l.dropLast:=by
 induction l with
 | nil=>rfl
 | cons a r ih=>
  cases r with
  | nil=>rfl
  | cons b r=>
   have e:(a::b::r).length-1=((b::r).length-1)+1:=by
    have h1:(a::b::r).length=r.length+2:=rfl;have h2:(b::r).length=r.length+1:=rfl;omega
   rw[e,List.eraseIdx_cons_succ,ih]
   all_goals rfl
def zCG(its:List Ja):∀(k:Nat)(acc:List Ja),
  List.foldl (fun x1 x2=>x1++x2) acc.toArray (List.replicate k its.toArray)=(acc++(List.replicate k its).flatten).toArray
 | 0,acc=>by simp
 | k+1,acc=>by
  have e:acc.toArray++its.toArray=(acc++its).toArray:=by simp
  have e2:(acc++its)++(List.replicate k its).flatten=acc++(List.replicate (k+1) its).flatten:=by
   rw[Xt,X7,Vr]
  rw[<-e2,<-zCG its k (acc++its),<-e,Xt,U1]
section
variable{X:Cx}{Mi:List (Jc×Obj)}{p:St}{H:Hp}{s:Jb}{l b:Jc}{xs ys zs:List V}
def Inv.lset{its its':List Ja}{n:Nat}{f:Array Ja->Array Ja}{t':Nat}(I:Inv X Mi p H s)(hH:H l=some (.lst xs))
  (e:s.heap.get? l=some { cls:=.type "list", data:=.seq its.toArray n }) (hf:f its.toArray=its'.toArray) (hv:cX ys its') (hz:ys.length<=sizeLine):
  Inv X Mi p (upd H l (.lst ys)) { s with heap:=s.heap.update l (Obj.mapSeq f),toks:=t' }:=by
 have q:=PySem.IsL.update e f;rw[hf] at q;refine I.write (x:=l) (e:=l) (by rw[hH];exact trivial) (.inl rfl) (fun b' u hb hu=>(Heap.get?_update_other s.heap (Obj.mapSeq f) (Ne.symm hb)).trans hu) ⟨_,q⟩ ?_
 exact⟨hz,its',_,hv,q⟩
def Inv.lnew{its:List Ja}{t':Nat}(I:Inv X Mi p H s)(hv:cX ys its)(hz:ys.length<=sizeLine):
  Inv X Mi p (upd H s.heap.objs.size (.lst ys)) { s with heap:=s.heap.push { cls:=.type "list", data:=.seq its.toArray },toks:=t' }:=
 I.laid (fun _ _ q=>Heap.get?_push_of_some _ q) (Qf _) ⟨hz,its,0,hv,Heap.get?_push_size _ rfl⟩
def Inv.fresh(I:Inv X Mi p H s):H s.heap.objs.size=none:=I.hok.fresh (Qf _)
def Inv.lstM(I:Inv X Mi p H s)(hH:H l=some (.lst xs)):xs.length<=sizeLine/\∃(its:List Ja)(n:Nat),cX xs its/\xs.length=its.length/\s.heap.get? l=some { cls:=.type "list", data:=.seq its.toArray n }:=by
 obtain⟨z,its,n,r,e⟩:=I.hok l _ hH;exact⟨z,its,n,r,r.length,e⟩
def zEF{n:Nat}(h:n<=sizeLine):Builtin.List.listTooLong n=false:=by
 unfold Builtin.List.listTooLong;exact Jj ⋯
end
section
variable{X:Cx}
def zPq:V->List V->Hp->VK->Prop:=fun x vs H Q=>∃ l xs y,x=.ref l/\vs=[y]/\H l=some (.lst xs)/\xs.length<sizeLine/\Q .non (upd H l (.lst (xs++[y])))
def uT:MtM X "list.append" zPq:=by
 intro Mi s c H x vs v us Q I rx rv h;obtain⟨l,xs,y,rfl,rfl,hH,hz,q⟩:=h;cases rx;obtain⟨u,rfl,ru⟩:=rv.one;obtain⟨z,its,n,r,hl,e⟩:=I.lstM hH;refine call_meets F.slot_list_append ⟨_,e,rfl⟩ F.entry_list_append (F.args_list_append_2 _ _) (PySem.list_append l its.toArray n u (by rw[Ql];omega)) ⟨e,?_⟩
 refine⟨.non,_,I.lset (its':=its++[u]) hH e (by simp) (r.append (.cons ru .nil)) ?_,rfl,q⟩
 rw[Qi,U2];omega
def zOL:V->List V->Hp->VK->Prop:=fun x vs H Q=>∃ l b xs zs,x=.ref l/\vs=[.ref b]/\H l=some (.lst xs)/\H b=some (.lst zs)/\xs.length+zs.length<=sizeLine/\Q .non (upd H l (.lst (xs++zs)))
def zJc:MtM X "list.extend" zOL:=by
 intro Mi s c H x vs v us Q I rx rv h;obtain⟨l,b,xs,zs,rfl,rfl,hH,hB,hz,q⟩:=h;cases rx;obtain⟨u,rfl,ru⟩:=rv.one;cases ru;obtain⟨z,its,n,r,hl,e⟩:=I.lstM hH;obtain⟨z2,its2,n2,r2,hl2,e2⟩:=I.lstM hB;have hsz:its.toArray.size+its2.toArray.size<=sizeLine:=by rw[Ql,Ql];omega
 have hlong:¬ (!its.toArray.isEmpty && Builtin.List.listTooLong (its.toArray.size+its2.toArray.size))=true:=by
  rw[zEF hsz,U3];exact Yk
 refine call_meets F.slot_list_extend ⟨_,e,rfl⟩ F.entry_list_extend (F.args_list_extend_2 _ _)
  (AutoSeq1.list_extend_list_list_0 l its.toArray n b its2.toArray n2 hlong (by rw[Ql];omega) ⋯) ⟨e,e2,?_⟩
 refine⟨.non,_,I.lset (its':=its++its2) hH e (by simp) (r.append r2) ?_,rfl,q⟩
 rw[Qi];omega
def zUp:V->List V->Hp->VK->Prop:=fun x vs H Q=>∃ l xs y,x=.ref l/\vs=[]/\H l=some (.lst xs)/\xs[xs.length-1]?=some y/\Q y (upd H l (.lst xs.dropLast))
def zQx:MtM X "list.pop" zUp:=by
 intro Mi s c H x vs v us Q I rx rv h;obtain⟨l,xs,y,rfl,rfl,hH,hy,q⟩:=h;cases rx;have hus:=rv.zero;subst hus;obtain⟨z,its,n,r,hl,e⟩:=I.lstM hH;obtain⟨u,hu,ru⟩:=r.get hy
 have hy':its.toArray[its.toArray.size-1]?=some u:=by
  show its.toArray[its.length-1]?=some u
  rw[<-U5,<-hl];exact hu
 refine call_meets F.slot_list_pop ⟨_,e,rfl⟩ F.entry_list_pop (F.args_list_pop_1 _) (MeetsSeq.list_pop_last l its.toArray n u hy' (by rw[Ql];omega)) ⟨e,?_⟩
 refine⟨y,_,I.lset (its':=its.dropLast) hH e ?_ r.dropLast ?_,ru,q⟩
 ·show its.toArray.eraseIdxIfInBounds (its.toArray.size-1)=its.dropLast.toArray
  rw[Ql,List.eraseIdxIfInBounds_toArray,zGE]
 ·rw[W9]
  omega
def zUn:R2:=fun x y H Q=>∃ l k xs,x=.ref l/\y=.int k/\H l=some (.lst xs)/\-(2^63)<=k/\k<2^63/\xs.length*k.toNat<=sizeLine/\
 ∀ p,H p=none->Q (.ref p) (upd H p (.lst (List.replicate k.toNat xs).flatten))
def zOc{d:Type}(xs:List d)(k:Nat):(List.replicate k xs).flatten.length=k*xs.length:=by
 induction k with
 | zero=>simp
 | succ k ih=>rw[Xt,X7,Qi,ih,Nat.succ_mul,Nat.add_comm]
def zRd:OpR X (binaryOp .Mult) zUn:=by
 intro Mi s c H x y v u Q I rx ry h;obtain⟨l,k,xs,rfl,rfl,hH,h1,h2,hz,q⟩:=h;cases rx;obtain⟨t,rfl⟩:=ry;obtain⟨z,its,n,r,hl,e⟩:=I.lstM hH;have hlen:its.toArray.size*k.toNat<=sizeLine:=by rw[Ql,<-hl];exact hz
 have hcap:¬ its.toArray.size*k.toNat > (2^63-1) / 8:=by
  have:(sizeLine:Nat)<=(2^63-1) / 8:=by decide
  omega
 have hfit:¬ (!Builtin.List.listFitsIndex k)=true:=by
  rw[fitsIndex_both h1 h2];exact Yk
 have hlong:¬ Builtin.List.listTooLong (its.toArray.size*k.toNat)=true:=by
  rw[zEF hlen];exact Yk
 have hnew:List.foldl (fun x1 x2=>x1++x2) #[] (List.replicate (if its.toArray.isEmpty=true then 0 else k.toNat) its.toArray)=(List.replicate k.toNat its).flatten.toArray:=by
  have f0:∀ m:Nat,List.foldl (fun x1 x2=>x1++x2) #[] (List.replicate m its.toArray)=(List.replicate m its).flatten.toArray:=fun m=>by
   have:=zCG its m []
   rw[Xu] at this;exact this
  rw[f0]
  cases its with
  | nil=>simp
  | cons a r'=>rw[Jl (by simp)]
 refine wpAny_binaryOp_repeat_ref (T := "list") (U := "int") (by decide) ⟨_,e,rfl⟩ (fun s'=>typeIs_int s' k t) noFill_list_mul F.fills_int_mul F.slot_int_rmul repeat_list F.slot_int_index.lookup
  (call_meets F.slot_int_rmul (typeIs_int s k t) F.entry_int_rmul (F.args_int_rmul_2 _ _) (int___rmul___int_list k t l its.toArray n)
   ⟨e,rfl,⟨_,e,rfl⟩,call_meets F.slot_list_mul ⟨_,e,rfl⟩ F.entry_list_mul (F.args_list_mul_2 _ _) (AutoListH.list___mul___list_int_3 l its.toArray n k t hfit hcap hlong) ⟨e,?_⟩⟩)
 rw[hnew];exact⟨.ref _,_,I.lnew (t':=s.toks) (r.rep k.toNat) (by rw[zOc,Nat.mul_comm];exact hz),rfl,q _ I.fresh⟩
end
section
variable{prog:Jf}{w:Jg}{A:Jh}{E:Ja->Jb->Prop}{s:Jb}
set_option maxRecDepth 100000 in
end
end L2
namespace Att
open PySem PySem.W PySem.Calls PyProof.Rows
def wT{P:Params}{h:Je}:∀(ns:List Int)(vs:List Ja),WellAll P h vs (ns.map WData.int)->IntsAre vs ns:=by
 intro ns
 induction ns with
 | nil=>
  intro vs w;rw[Xd] at w;cases w;exact .nil
 | cons n ns ih=>
  intro vs w;rw[Qo] at w
  cases w with
  | cons a b=>
   cases a;exact .cons _ _ (ih _ b)
def script_of{l:OpenLaw}{n:Nat}(hn:l.most=some n){P:Params}{h:Je}{args:List WData}{vals:List Ja}
  (hpre:l.row.toRowW.claim.pre args=true) (hwl:WellAll P h vals args):
  ∃ a vs ns,vals=[Value.ref a]/\args=[WData.list (ns.map WData.int)]/\h.get? a=some { cls:=.type "list", data:=.seq vs.toArray }/\IntsAre vs ns/\ns.length<=n:=by
 have hsh:WShape.hasAll [] args [.list .int]=true:=(pre_splitW hpre).1;have hc:l.pre.holds [] { args:=args }=true:=(pre_splitW hpre).2;obtain⟨d,r,rfl,h1,h2⟩:=hasAllW_cons hsh;obtain rfl:=hasAllW_nil h2;obtain⟨xs,rfl,h3⟩:=hasW_list h1;obtain⟨ns,rfl⟩:=items_int h3
 have hlen:ns.length<=n:=by
  unfold OpenLaw.pre at hc
  have h4:(WTm.not (.lt (.lit (.int (n:Int))) (.len (.arg 0)))).holds [] { args:=[.list (ns.map .int)] }=true:=by
   have h4:=(holds_andW hc).1;rw[hn] at h4;exact h4
  have h5:=condW_of h4 (w_not (w_lt w_lit (w_len_list (w_arg rfl))));rw[Qe] at h5;refine Nat.le_of_not_lt fun q=>?_
  have q':(n:Int)<((ns.length:Nat):Int):=by omega
  first
   | (rw[J6 q'] at h5;exact absurd h5 (by decide))
   | (simp at h5;omega)
 cases hwl with
 | cons w1 w2=>
  cases w2
  cases w1 with
  | list ho hall=>exact⟨_,_,ns,rfl,rfl,ho,wT ns _ hall,hlen⟩
def post_true(l:OpenLaw)(args:List WData):l.row.toRowW.claim.post args (.bool true) args=true:=
 postW_of (r:=l.row.toRowW) (X:=(true==true))
  (show WShape.has [] (.bool true) .bool=true by first | rfl | decide | simp[WShape.has,WShape.arms,WShape.armsAll])
  (show(WTm.eq .res (.lit (.bool true))).value [] { args:=args,res:=some (.bool true),after:=args }=some (.bool (true==true)) from w_eq_bool (w_res rfl) w_lit) rfl
end Att
namespace L2
open PySem PySem.Spec PyProof.Rows
def zCB:∀ {vs:List Ja} {ns:List Int},IntsAre vs ns->cX (ns.map V.int) vs
 | _,_,.nil=>.nil
 | _,_,.cons n t h=>.cons ⟨t,rfl⟩ (zCB h)
def zUb(H:Hp):Prop:=∀ b,H b=none∨∃ o xs,H b=some (.frz o (.lst xs))
def kO(s:Ji):Arguments:=match s with
 | .FunctionDef _ a _ _ _ _ _ _ _ _=>a
 | _=>{ posonlyargs:=[],args:=[],vararg:=none,kwonlyargs:=[],kw_defaults:=[],kwarg:=none,defaults:=[] }
def fJ(s:Ji):List Ji:=match s with
 | .FunctionDef _ _ b _ _ _ _ _ _ _=>b
 | _=>[]
def aF(s:Ji):Scope:=match s with
 | .FunctionDef _ _ _ _ _ _ sc _ _ _=>sc
 | _=>{ kind:=.function,names:=[],isGenerator:=false,isCoroutine:=false }
structure Fun (K:PySem.W.Frag) (x qual:Str) (st:Ji) (f:Jc) (fd:FuncData):Prop where
 ex:∃(oc:Ja)(od:Option Jc)(kV doc pm:Ja)(an:Option Jc)(cdv ct:Ja)(osl:Array (Option Ja)),
  fd=PySem.W.fnOf x qual (kO st) (fJ st) (aF st) .none kV doc pm an cdv ct/\K.lookup f=some ⟨oc,od,.func fd,osl⟩/\PySem.W.codeIn K cdv qual=true
 kp:PySem.W.keepIn K (.ref f)=true
section
variable{P:Jf}{w:Jg}{K:Fg_}{mg:Str->Option Ja}{base:Je}
def Fun.binds{x qual:Str}{st:Ji}{f:Jc}{fd:FuncData}{ps:List Str}(F:Fun K x qual st f fd)
  (h:∀(kV doc pm:Ja)(an:Option Jc)(cdv ct:Ja)(us:List Ja),us.length=ps.length->bindArgs (PySem.W.fnOf x qual (kO st) (fJ st) (aF st) .none kV doc pm an cdv ct) ⟨us,[]⟩=pure (ps.zip us)):zCT K fd ps []:=by
 obtain⟨oc,od,kV,doc,pm,an,cdv,ct,osl,rfl,lk,hcd⟩:=F.ex;exact .all (h kV doc pm an cdv ct)
def zA{x qual:Str}{st:Ji}{f:Jc}{oc:Ja}{od an:Option Jc}{osl:Array (Option Ja)}{kV doc pm cdv ct:Ja}(l:K.lookup f=some ⟨oc,od,.func (PySem.W.fnOf x qual (kO st) (fJ st) (aF st) .none kV doc pm an cdv ct),osl⟩)
  (c:PySem.W.codeIn K cdv qual=true) (k:PySem.W.keepIn K (.ref f)=true):Fun K x qual st f (PySem.W.fnOf x qual (kO st) (fJ st) (aF st) .none kV doc pm an cdv ct):=⟨⟨oc,od,kV,doc,pm,an,cdv,ct,osl,rfl,l,c⟩,k⟩
end
section
variable{X:Cx}
def pv(i:Nat){x:Str}{pos:Pos}(hN:X.N[i]?=some x:=by rfl)(hv:Vis X.env.scope x:=by first | exact Or.inl rfl | exact Or.inr (Or.inl rfl) | exact Or.inr (Or.inr rfl))(hd:(x==("__debug__" : Str))=false:=by decide)
  (hcd:(x==("__classdict__" : Str))=false:=by decide):PE X (.Name x pos) (zDh i):=vV hN hv hd hcd
end
def Same(H H':Hp):Prop:=∀ b o,H b=some o->H' b=some o
def Same.refl(H:Hp):Same H H:=fun _ _ h=>h
def Same.trans{H H1 H2:Hp}(a:Same H H1)(b:Same H1 H2):Same H H2:=fun c o h=>b c o (a c o h)
end L2
set_option maxHeartbeats 4000000
set_option exponentiation.threshold 20000
namespace L2
open PySem PySem.Spec PyProof.Rows
section
variable{P:Jf}{w:Jg}{H H':Hp}{h:Je}{a:Jc}{o:HO}
def mQ.here(x:mQ P w H h a o):∃ ob,h.get? a=some ob:=by
 cases o with
 | lst xs=>obtain⟨_,_,_,_,e⟩:=x;exact⟨_,e⟩
 | tup xs=>obtain⟨_,_,_,e⟩:=x;obtain⟨ob,e,_⟩:=e;exact⟨_,e⟩
 | dK kvs=>obtain⟨_,_,_,_,e⟩:=x;obtain⟨ob,_,_,e,_⟩:=e;exact⟨_,e⟩
 | dT kvs=>obtain⟨_,_,_,_,ob,_,_,e,_⟩:=x;exact⟨_,e⟩
 | set S n=>obtain⟨ob,_,_,_,e,_⟩:=x;exact⟨_,e⟩
 | ins C dx fs=>obtain⟨_,_,_,e,_⟩:=x;exact⟨_,e⟩
 | own y=>exact x
 | xd fs=>obtain⟨_,⟨ob,_,_,e,_⟩,_⟩:=x;exact⟨_,e⟩
 | met f y=>exact⟨_,x⟩
 | rng lo hi=>obtain⟨_,_,_,e⟩:=x;exact⟨_,e⟩
 | frz ob u=>exact⟨_,x.1⟩
 | tbl ps=>exact⟨_,x⟩
 | ext r=>exact x.2.1
def HOk.none_of(ok:HOk P w H h)(e:h.get? a=none):H a=none:=by
 cases q:H a with
 | none=>rfl
 | some o=>
  obtain⟨ob,z⟩:=(ok a o q).here;rw[e] at z;cases z
end
structure Fly (P:Jf) (w:Jg) (l:List Env) (H H':Hp) (s:Jb) (ea:Jc) (cls:Ja) (s':Jb):Prop where
 os:s'.os=s.os
 bare:AllBare s'.gens
 un:Un (frs l) [] H H' s.heap s'.heap
 hok:HOk P w H' s'.heap
 ne:H' ea=none
 new:s.heap.get? ea=none
 fly:∃ B a0,Heap.FlyingW B l ea cls a0 s'.heap/\(∀ b o,s'.heap.get? b=some o->((∃ o',s.heap.get? b=some o')∨H' b≠none)->b∉frs l->B.get? b=some o)
def CX1(P:Jf)(w:Jg):CXT:=fun outer H s E e s'=>∃ ea cls H',e=.ref ea/\Fly P w outer H H' s ea cls s'/\E cls none H'
structure Own (X:Cx):Prop where
 stk:X.stack=X.env::X.outer
 fr:X.env.frame=some X.env.locals
 ex:X.ex=[]
section
variable{X:Cx}{Mi:List (Jc×Obj)}{r:St}{H H':Hp}{s s':Jb}{ea:Jc}{cls:Ja}
def zEW(O:Own X):frs X.stack=X.env.locals::X.fs:=by
 rw[O.stk];show List.filterMap _ (_::_)=_
 rw[Yw,O.fr];rfl
def Inv.there0(I:Inv X Mi r H s)(O:Own X){b:Jc}{o:Obj}(e:X.s₀.heap.get? b=some o):∃ o',s.heap.get? b=some o':=I.base.there b o e (by rw[O.ex];simp)
def Inv.ne0(I:Inv X Mi r H s){b:Jc}{o:Obj}(e:X.s₀.heap.get? b=some o):b≠X.env.locals:=Qt (Qs (Heap.lt_size e) I.ok.above)
def Fly.leave(I:Inv X Mi r H s)(O:Own X)(F:Fly X.prog X.w X.stack H H' s ea cls s'){h':Je}{B:Je}{a0:Ja}
  (hf:Heap.FlyingW B X.stack ea cls a0 s'.heap) (cov:∀ b o,s'.heap.get? b=some o->((∃ o',s.heap.get? b=some o')∨H' b≠none)->b∉frs X.stack->B.get? b=some o)
  (hf':Heap.FlyingW B X.outer ea cls a0 h') (up:s'.heap.UpToSlots h'):Fly X.prog X.w X.outer X.H₀ H' X.s₀ ea cls { s' with heap:=h' }:=by
 have fst:frs X.stack=X.env.locals::X.fs:=zEW O;have nin:∀ {b:Jc},b≠X.env.locals->b∉X.fs->b∉frs X.stack:=fun h1 h2=>by rw[fst];simp[h1,h2]
 have trk:∀ {b:Jc},H' b≠none->b∉frs X.stack:=fun {b} hb hm=>by
  have h1:=I.stkFree b hm;obtain⟨_,o,ho,_⟩:=I.stack.mem hm;exact hb (F.un.free b o ho h1 (by simp))
 have keepB:∀ {b:Jc} {o:Obj},s'.heap.get? b=some o->((∃ o',s.heap.get? b=some o')∨H' b≠none)->b∉frs X.stack->h'.get? b=some o:=fun e1 e2 e3=>hf'.1 _ _ (cov _ _ e1 e2 e3)
 have slotOf:∀ {b:Jc} {o:Obj},b∈frs X.stack->s'.heap.get? b=some o->∃ sl,h'.get? b=some { o with slots:=sl }:=fun {b o} hm e=>by
  obtain⟨_,o',ho',hn⟩:=hf.2.2.1.mem hm;rw[e] at ho';cases ho'
  exact up b o e hn
 refine⟨F.os.trans I.os,F.bare,⟨?_,?_,?_,?_,?_,?_,?_⟩,?_,F.ne,?_,⟨B,a0,hf',?_⟩⟩
 ·intro b o e n hb hx
  have e1:=I.base.keep b o e n hb (by rw[O.ex];simp)
  have n1:=I.base.free b o e n (by rw[O.ex];simp)
  have hs:b∉frs X.stack:=nin (I.ne0 e) hb;exact keepB (F.un.keep b o e1 n1 hs (by simp)) (.inl ⟨o,e1⟩) hs
 ·intro b o e n hb hx
  obtain⟨sl,e1⟩:=I.base.slot b o e n hb (by rw[O.ex];simp)
  have n1:=I.base.free b o e n (by rw[O.ex];simp)
  have hs:b∈frs X.stack:=by rw[fst];exact Qd _ hb
  obtain⟨sl2,e2⟩:=F.un.slot b _ e1 n1 hs (by simp)
  obtain⟨sl3,e3⟩:=slotOf hs e2;exact⟨sl3,e3⟩
 ·intro b o e n hx
  obtain⟨o1,e1⟩:=I.there0 O e;exact F.un.free b o1 e1 (I.base.free b o e n (by rw[O.ex];simp)) (by simp)
 ·intro b o e hx
  obtain⟨o1,e1⟩:=I.there0 O e;obtain⟨o2,e2⟩:=F.un.there b o1 e1 (by simp)
  by_cases hs:b∈frs X.stack
  ·obtain⟨sl,e3⟩:=slotOf hs e2
   exact⟨_,e3⟩
  ·exact⟨o2,keepB e2 (.inl ⟨o1,e1⟩) hs⟩
 ·exact fun b xs e=>F.un.tups b xs (I.base.tups b xs e)
 ·exact fun b o u e=>F.un.frzs b o u (I.base.frzs b o u e)
 ·intro b ps e
  obtain⟨m1,e1⟩:=I.base.tbls b ps e;obtain⟨m2,e2⟩:=F.un.tbls b _ e1;exact⟨m1++m2,by rw[e2,Array.append_assoc]⟩
 ·intro a o e
  refine(F.hok a o e).stay (fun b u hb z=>?_) (fun b z=>z) (fun b xs z=>z)
  have hb':H' b≠none:=by
   rcases hb with rfl | hb
   ·rw[e];simp
   ·rw[hb];simp
  exact keepB z (.inr hb') (trk hb')
 ·show X.s₀.heap.get? ea=none
  cases q:X.s₀.heap.get? ea with
  | none=>rfl
  | some o=>
   obtain⟨o1,e1⟩:=I.there0 O q;rw[F.new] at e1;cases e1
 ·intro b o e c hb
  have c':(∃ o',s.heap.get? b=some o')∨H' b≠none:=by
   rcases c with⟨o',c⟩ | c
   ·exact .inl (I.there0 O c)
   ·exact .inr c
  have hs:b∉frs X.stack:=by
   rcases c with⟨o',c⟩ | c
   ·exact nin (I.ne0 c) hb
   ·exact trk c
  have ex:∃ o2,s'.heap.get? b=some o2:=by
   rcases c' with⟨o',c1⟩ | c1
   ·exact F.un.there b o' c1 (by simp)
   ·cases q:H' b with
    | none=>exact absurd q c1
    | some u=>exact(F.hok b u q).here
  obtain⟨o2,e2⟩:=ex;have z:=keepB e2 c' hs;have z':h'.get? b=some o:=e;rw[z] at z';cases z'
  exact cov b o e2 c' hs
end
section
variable{X:Cx}{Mi:List (Jc×Obj)}{r:St}{H H':Hp}{s s':Jb}{ea:Jc}{cls:Ja}
def zQV(l:List Env):∀ env∈l,∀ b,env.frame=some b->b∈frs l:=fun env he b hb=>Ux.mpr ⟨env,he,hb⟩
def Fly.made(I:Inv X Mi r H s)(O:Own X){vs:List Ja}(hx:Heap.MadeExcOf s.heap s'.heap ea cls vs)(hos:s'.os=s.os)(hg:AllBare s'.gens){h':Je}{t:Jc}
  (hf':Heap.FlyingW (PySem.W.hideAll s.heap (frs X.stack)) X.outer ea cls (.ref t) h') (up:s'.heap.UpToSlots h'):Fly X.prog X.w X.outer X.H₀ H X.s₀ ea cls { s' with heap:=h' }:=by
 have fst:frs X.stack=X.env.locals::X.fs:=zEW O;have nin:∀ {b:Jc},b≠X.env.locals->b∉X.fs->b∉frs X.stack:=fun h1 h2=>by rw[fst];simp[h1,h2]
 have trk:∀ {b:Jc},H b≠none->b∉frs X.stack:=fun {b} hb hm=>hb (I.stkFree b hm)
 have keepB:∀ {b:Jc} {o:Obj},s.heap.get? b=some o->b∉frs X.stack->h'.get? b=some o:=fun e1 e3=>hf'.1 _ _ (Uw _ e1 e3)
 have slotOf:∀ {b:Jc} {o:Obj},b∈frs X.stack->s.heap.get? b=some o->∃ sl,h'.get? b=some { o with slots:=sl }:=fun {b o} hm e=>by
  obtain⟨_,o',ho',hn⟩:=I.stack.mem hm;rw[e] at ho';cases ho'
  exact up b o (hx.keeps b o e) hn
 refine⟨hos.trans I.os,hg,⟨?_,?_,?_,?_,?_,?_,?_⟩,?_,?_,?_,⟨_,_,hf',?_⟩⟩
 ·intro b o e n hb hx'
  exact keepB (I.base.keep b o e n hb (by rw[O.ex];simp)) (nin (I.ne0 e) hb)
 ·intro b o e n hb hx'
  obtain⟨sl,e1⟩:=I.base.slot b o e n hb (by rw[O.ex];simp)
  have hs:b∈frs X.stack:=by rw[fst];exact Qd _ hb
  obtain⟨sl3,e3⟩:=slotOf hs e1;exact⟨sl3,e3⟩
 ·exact fun b o e n hx'=>I.base.free b o e n (by rw[O.ex];simp)
 ·intro b o e hx'
  obtain⟨o1,e1⟩:=I.there0 O e;by_cases hs:b∈frs X.stack
  ·obtain⟨sl,e3⟩:=slotOf hs e1
   exact⟨_,e3⟩
  ·exact⟨o1,keepB e1 hs⟩
 ·exact fun b xs e=>I.base.tups b xs e
 ·exact fun b o u e=>I.base.frzs b o u e
 ·exact fun b ps e=>I.base.tbls b ps e
 ·intro a o e
  refine(I.hok a o e).stay (fun b u hb z=>?_) (fun b z=>z) (fun b xs z=>z)
  have hb':H b≠none:=by
   rcases hb with rfl | hb
   ·rw[e];simp
   ·rw[hb];simp
  exact keepB z (trk hb')
 ·exact I.hok.none_of hx.new
 ·show X.s₀.heap.get? ea=none
  cases q:X.s₀.heap.get? ea with
  | none=>rfl
  | some o=>
   obtain⟨o1,e1⟩:=I.there0 O q;rw[hx.new] at e1;cases e1
 ·intro b o e c hb
  have hs:b∉frs X.stack:=by
   rcases c with⟨o',c⟩ | c
   ·exact nin (I.ne0 c) hb
   ·exact trk c
  have ex:∃ o2,s.heap.get? b=some o2:=by
   rcases c with⟨o',c1⟩ | c1
   ·exact I.there0 O c1
   ·cases q:H b with
    | none=>exact absurd q c1
    | some u=>exact(I.hok b u q).here
  obtain⟨o2,e2⟩:=ex;have z:=keepB e2 hs;have z':h'.get? b=some o:=e;rw[z] at z';cases z'
  exact Uw _ e2 hs
end
section
variable{CX:CXT}{P:Jf}{w:Jg}{K:Fg_}{mg:Str->Option Ja}{base:Je}{N:List Str}{qual:Str}{scope:Scope}{f:Jc}{cd:Ja}{A:Jh}{outer:List Env}{s₀:Jb}{H₀:Hp}{E:XK}
def zHg:Own (zGi CX P w K mg base N qual scope f cd A outer s₀ H₀ E):=⟨rfl,rfl,rfl⟩
def zTc{E':XK}(h:∀ c H',E' c none H'->E c none H'):zFt (CX1 P w) (zGi (CX1 P w) P w K mg base N qual scope f cd A outer s₀ H₀ E) E':=by
 intro Mi r H s e s' I hc;obtain⟨ea,cls,H',rfl,F,q⟩:=hc;obtain⟨B,a0,hf,cov⟩:=F.fly;have O:Own (zGi (CX1 P w) P w K mg base N qual scope f cd A outer s₀ H₀ E):=zHg;exact wpAny_leaves_onW (I.ok.frames.trans (congrArg some O.stk)) O.fr hf fun h' hf' up=>⟨ea,cls,H',rfl,F.leave I O hf cov hf' up,h _ _ q⟩
def zDs{Mi:List (Jc×Obj)}{r:St}{H:Hp}{s s':Jb}{ea:Jc}{cls:Ja}{vs:List Ja}(I:Inv (zGi (CX1 P w) P w K mg base N qual scope f cd A outer s₀ H₀ E) Mi r H s)
  (hx:Heap.MadeExcOf s.heap s'.heap ea cls vs) (hos:s'.os=s.os) (hg:AllBare s'.gens) (q:E cls none H):(zGi (CX1 P w) P w K mg base N qual scope f cd A outer s₀ H₀ E).xe (.ref ea) s':=by
 have O:Own (zGi (CX1 P w) P w K mg base N qual scope f cd A outer s₀ H₀ E):=zHg;have hst:=O.stk
 exact wpAny_leaves_madeW (base:=PySem.W.hideAll s.heap (frs (zGi (CX1 P w) P w K mg base N qual scope f cd A outer s₀ H₀ E).stack)) (h:=s.heap) (I.ok.frames.trans (congrArg some O.stk)) O.fr (fun b o z=>PySem.W.of_hideAll _ z)
  (PySem.W.funFrames_hide (I.stack) (zQV _)) hx fun h' t hf' _ _ up=>⟨ea,cls,H,rfl,Fly.made I O hx hos hg hf' up,q⟩
end
structure Err (K:PySem.W.Frag) (mg:Str->Option Ja) (x:Str) (C:Jc):Prop where
 own:∀ h:Je,K.In h->∃ bm newId B initId,OwnCls x C bm newId mg h/\ExcBaseFacts B newId initId bm
end L2
namespace L3
open PySem
inductive D where
 | non | bl (b:Bool) | int (i:Int) | str (x:Str) | tup (ds:List D) | lst (ds:List D)
inductive Res (α:Type) where
 | ok (a:α) | err (c:Str) | no
def Res.bind{r s:Type}(x:Res r)(f:r->Res s):Res s:=match x with
 | .ok a=>f a
 | .err c=>.err c
 | .no=>.no
inductive Sl where
 | un | val (d:D) | own (ds:List D) | exc (c:Str) | tab (T:List (Str×Str))
abbrev Rho:=List Sl
inductive Rt where
 | v (d:D) | f (ds:List D)
def Rt.d:Rt->D
 | .v d=>d
 | .f ds=>.lst ds
inductive Fl where
 | nx (ρ:Rho) | ret (r:Rt) | brk (ρ:Rho) | ctn (ρ:Rho)
abbrev Ev:=Rho->Res D
abbrev Fv:=Rho->Res (List D)
abbrev Tv:=Rho->Res Bool
abbrev Sv:=Rho->Res Fl
abbrev Mir:=List D->Res Rt
mutual
def eqD:D->D->Bool
 | .non,.non=>true
 | .bl a,.bl b=>a==b
 | .bl a,.int b=>(if a then 1 else 0)==b
 | .int a,.bl b=>a==(if b then 1 else 0)
 | .int a,.int b=>a==b
 | .str a,.str b=>a==b
 | .tup ds,.tup es=>zCN ds es
 | .lst ds,.lst es=>zCN ds es
 | _,_=>false
def zCN:List D->List D->Bool
 | [],[]=>true
 | d::ds,e::es=>eqD d e && zCN ds es
 | _,_=>false
end
mutual
def dep:D->Nat
 | .tup ds=>depS ds+1
 | .lst ds=>depS ds+1
 | _=>0
def depS:List D->Nat
 | []=>0
 | d::ds=>max (dep d) (depS ds)
end
mutual
def noL:D->Bool
 | .tup ds=>noLs ds
 | .lst _=>false
 | _=>true
def noLs:List D->Bool
 | []=>true
 | d::ds=>noL d && noLs ds
end
def uU:∀ {ds:List D} {d:D},d∈ds->dep d<=depS ds
 | e::ds,d,h=>by
  rw[depS];rcases Qc.mp h with rfl | h
  ·exact Nat.le_max_left ..
  ·exact Q5 (uU h) (Nat.le_max_right ..)
def zKZ:∀ {ds:List D},noLs ds=true ↔ ∀ d∈ds,noL d=true
 | []=>by simp[noLs]
 | d::ds=>by rw[noLs,V8,zKZ];simp
def oE:∀(ds es:List D),zCN ds es=((List.range (min ds.length es.length)).all (fun j=>eqD (ds.getD j .non) (es.getD j .non)) && ds.length==es.length)
 | [],[]=>rfl
 | [],e::es=>by simp[zCN]
 | d::ds,[]=>by simp[zCN]
 | d::ds,e::es=>by
  rw[zCN,oE ds es];have h:min (d::ds).length (e::es).length=min ds.length es.length+1:=by simp only[Qn];omega
  rw[h,List.range_succ_eq_map];simp[List.all_map,Function.comp_def,Bool.and_assoc]
mutual
def qI:∀ d:D,eqD d d=true
 | .non=>rfl
 | .bl b=>by simp[eqD]
 | .int i=>by simp[eqD]
 | .str x=>by simp[eqD]
 | .tup ds=>by rw[eqD];exact uM ds
 | .lst ds=>by rw[eqD];exact uM ds
def uM:∀ ds:List D,zCN ds ds=true
 | []=>rfl
 | d::ds=>by rw[zCN,qI d,uM ds];rfl
end
def nb(i:Int):Nat:=i.natAbs.log2+1
def zOQ(i:Int):i.natAbs<2^nb i:=Nat.lt_log2_self
def zTd{i:Int}{m:Nat}(h:i.natAbs<2^m)(hm:0<m):nb i<=m:=by
 unfold nb;by_cases h0:i.natAbs=0
 ·rw[h0];exact hm
 ·exact(Nat.log2_lt h0).mpr h
def kP(i j:Int):Bool:=(decide (-(2^64)<i) && decide (i<2^64)) || (decide (-(2^64)<j) && decide (j<2^64)) || decide (nb i+nb j<=134217728)
def nE(j:Int):Bool:=decide (j≠0) && decide (nb j<=9000)
def tM(i j:Int):Bool:=decide (0<=j) && decide ((nb i:Int)*j<=2^27)
abbrev Op2:=D->D->Res D
def yF:Op2
 | .int i,.int j=>.ok (.int (i+j))
 | .tup a,.tup b=>if a.length+b.length<=16777216 then .ok (.tup (a++b)) else .no
 | _,_=>.no
def zAZ:Op2
 | .int i,.int j=>.ok (.int (i+j))
 | _,_=>.no
def zDg:Op2
 | .int i,.int j=>.ok (.int (i-j))
 | _,_=>.no
def yX:Op2
 | .int i,.int j=>if kP i j=true then .ok (.int (i*j)) else .no
 | _,_=>.no
def zB:Op2
 | .int i,.int j=>if nE j=true then .ok (.int (i.fdiv j)) else .no
 | _,_=>.no
def pP:Op2
 | .int i,.int j=>if j≠0 then .ok (.int (i.fmod j)) else .no
 | _,_=>.no
def zIr:Op2
 | .int i,.int j=>if tM i j=true then .ok (.int (i^j.toNat)) else .no
 | _,_=>.no
def oEq(x y:D):Res D:=if dep x<=50 then .ok (.bl (eqD x y)) else .no
def oNe(x y:D):Res D:=if dep x<=50 then .ok (.bl (!eqD x y)) else .no
def oLt:Op2
 | .int i,.int j=>.ok (.bl (decide (i<j)))
 | _,_=>.no
def oLe:Op2
 | .int i,.int j=>.ok (.bl (decide (i<=j)))
 | _,_=>.no
def oGt:Op2
 | .int i,.int j=>.ok (.bl (decide (j<i)))
 | _,_=>.no
def oGe:Op2
 | .int i,.int j=>.ok (.bl (decide (j<=i)))
 | _,_=>.no
def atD(ds:List D)(i:Int):Option D:=if 0<=i then ds[i.toNat]? else if 0<=(ds.length:Int)+i then ds[((ds.length:Int)+i).toNat]? else none
def ofO{r:Type}:Option r->Res r
 | some a=>.ok a
 | none=>.no
def oIx:Op2
 | .tup ds,.int i=>ofO (atD ds i)
 | .lst ds,.int i=>ofO (atD ds i)
 | _,_=>.no
def oIn:Op2
 | d,.lst ds=>if depS ds<=50 then .ok (.bl (ds.any fun e=>eqD e d)) else .no
 | d,.tup ds=>if depS ds<=50 then .ok (.bl (ds.any fun e=>eqD e d)) else .no
 | _,_=>.no
def zFj:D->Res D
 | .int i=>.ok (.int (-i))
 | _=>.no
def zUz:D->Res D
 | .bl b=>.ok (.bl (!b))
 | _=>.no
def aG(i:Nat)(ρ:Rho):Res D:=match ρ[i]? with
 | some (.val d)=>.ok d
 | _=>.no
def eC(d:D)(_ρ:Rho):Res D:=.ok d
def eOp(o:Op2)(a b:Ev)(ρ:Rho):Res D:=(a ρ).bind fun x=>(b ρ).bind fun y=>o x y
def eUn(o:D->Res D)(a:Ev)(ρ:Rho):Res D:=(a ρ).bind o
def zSc(a b:Ev)(ρ:Rho):Res D:=(a ρ).bind fun x=>match x with
 | .bl c=>if c=true then b ρ else .ok (.bl false)
 | _=>.no
def eOr(a b:Ev)(ρ:Rho):Res D:=(a ρ).bind fun x=>match x with
 | .bl c=>if c=true then .ok (.bl true) else b ρ
 | _=>.no
def eIf(t:Tv)(a b:Ev)(ρ:Rho):Res D:=(t ρ).bind fun c=>if c=true then a ρ else b ρ
def aNil(_ρ:Rho):Res (List D):=.ok []
def aB(e:Ev)(r:Fv)(ρ:Rho):Res (List D):=(e ρ).bind fun d=>(r ρ).bind fun ds=>.ok (d::ds)
def zGC(a:Fv)(ρ:Rho):Res D:=(a ρ).bind fun ds=>if ds.length<=16777216 then .ok (.tup ds) else .no
def aM(m:Mir)(a:Fv)(ρ:Rho):Res D:=(a ρ).bind fun ds=>(m ds).bind fun r=>.ok r.d
def lM:List D->Res D
 | [.lst ds]=>.ok (.int ds.length)
 | [.tup ds]=>.ok (.int ds.length)
 | _=>.no
def zNW:List D->Res D
 | [.int i]=>.ok (.int (if i<0 then -i else i))
 | _=>.no
def zUE:List D->Res D
 | [.int i,.int j]=>.ok (.int (if j > i then j else i))
 | _=>.no
def zQF:List D->Res D
 | [.int i,.int j]=>.ok (.int (if j<i then j else i))
 | _=>.no
def zLI:List D->Res D
 | [.lst ds]=>.ok (.tup ds)
 | [.tup ds]=>.ok (.tup ds)
 | _=>.no
def eB(b:List D->Res D)(a:Fv)(ρ:Rho):Res D:=(a ρ).bind b
def tyN:D->String
 | .non => "NoneType" | .bl _ => "bool" | .int _ => "int" | .str _ => "str" | .tup _ => "tuple" | .lst _ => "list"
def isT(T:String)(d:D):Bool:=tyN d==T || (T == "int" && tyN d == "bool")
def zSx(T:String)(a:Ev)(ρ:Rho):Res D:=(a ρ).bind fun d=>.ok (.bl (isT T d))
def isNon:D->Bool
 | .non=>true
 | _=>false
def zSn(a:Ev)(ρ:Rho):Res D:=(a ρ).bind fun d=>.ok (.bl (isNon d))
def Sl.frz:Sl->Sl
 | .own ds=>.val (.lst ds)
 | s=>s
def zQR(e:Ev)(ρ:Rho):Res D:=(e (ρ.map Sl.frz)).bind fun d=>if noL d=true then .ok d else .no
def jV(a:Fv)(ρ:Rho):Res (List D):=(a ρ).bind fun ds=>if ds.length<=16777216 then .ok ds else .no
def cH(m:Mir)(a:Fv)(ρ:Rho):Res (List D):=(a ρ).bind fun ds=>(m ds).bind fun r=>match r with
 | .f ds=>.ok ds
 | .v _=>.no
def zNB(a:Fv)(ρ:Rho):Res (List D):=(a ρ).bind fun ds=>match ds with
 | [.lst ds]=>.ok ds
 | [.tup ds]=>.ok ds
 | _=>.no
def zLN(a b:Ev)(ρ:Rho):Res (List D):=(a ρ).bind fun x=>(b ρ).bind fun y=>match x,y with
 | .lst ds,.lst es=>if ds.length+es.length<=16777216 then .ok (ds++es) else .no
 | _,_=>.no
def eF(f:Fv)(ρ:Rho):Res D:=(f ρ).bind fun ds=>.ok (.lst ds)
def zSg(f:Fv)(ρ:Rho):Res (List D):=(f (ρ.map Sl.frz)).bind fun ds=>if noLs ds=true then .ok ds else .no
def cut(n:Nat)(i:Option Int)(d:Nat):Nat:=match i with
 | none=>d
 | some i=>if 0<=i then min i.toNat n else ((n:Int)+i).toNat
def iO(ds:List D)(lo hi:Option Int):List D:=(ds.drop (cut ds.length lo 0)).take (cut ds.length hi ds.length-cut ds.length lo 0)
abbrev Ov:=Rho->Res (Option Int)
def oN(_ρ:Rho):Res (Option Int):=.ok none
def oS(e:Ev)(ρ:Rho):Res (Option Int):=(e ρ).bind fun d=>match d with
 | .int i=>.ok (some i)
 | _=>.no
def fSl(a:Ev)(lo hi:Ov)(ρ:Rho):Res (List D):=(a ρ).bind fun x=>(lo ρ).bind fun l=>(hi ρ).bind fun h=>match x with
 | .lst ds=>.ok (iO ds l h)
 | _=>.no
def zUC(a:Ev)(lo hi:Ov)(ρ:Rho):Res D:=(a ρ).bind fun x=>(lo ρ).bind fun l=>(hi ρ).bind fun h=>match x with
 | .tup ds=>if (iO ds l h).length<ds.length then .ok (.tup (iO ds l h)) else .no
 | _=>.no
def dD(e:Ev)(ρ:Rho):Res Bool:=(e ρ).bind fun d=>match d with
 | .bl b=>.ok b
 | _=>.no
def tFrzB(t:Tv)(ρ:Rho):Res Bool:=t (ρ.map Sl.frz)
def xF(t:Tv)(ρ:Rho):Res Bool:=(t ρ).bind fun b=>.ok (!b)
def vT(t u:Tv)(ρ:Rho):Res Bool:=(t ρ).bind fun b=>if b=true then u ρ else .ok false
def zHs(t u:Tv)(ρ:Rho):Res Bool:=(t ρ).bind fun b=>if b=true then .ok true else u ρ
def sNext(ρ:Rho):Res Fl:=.ok (.nx ρ)
def bA(a b:Sv)(ρ:Rho):Res Fl:=(a ρ).bind fun f=>match f with
 | .nx ρ'=>b ρ'
 | f=>.ok f
def sIf(t:Tv)(a b:Sv)(ρ:Rho):Res Fl:=(t ρ).bind fun c=>if c=true then a ρ else b ρ
def dF(i:Nat)(e:Ev)(ρ:Rho):Res Fl:=(e ρ).bind fun d=>.ok (.nx (ρ.set i (.val d)))
def zCe(i:Nat)(f:Fv)(ρ:Rho):Res Fl:=(f ρ).bind fun ds=>.ok (.nx (ρ.set i (.own ds)))
def qL(e:Ev)(ρ:Rho):Res Fl:=(e ρ).bind fun _=>.ok (.nx ρ)
def gE(e:Ev)(ρ:Rho):Res Fl:=(e (ρ.map Sl.frz)).bind fun d=>.ok (.ret (.v d))
def iI(f:Fv)(ρ:Rho):Res Fl:=(f (ρ.map Sl.frz)).bind fun ds=>.ok (.ret (.f ds))
def gC(i:Nat)(ρ:Rho):Res Fl:=match ρ[i]? with
 | some (.own ds)=>.ok (.ret (.f ds))
 | _=>.no
def sRetN(_ρ:Rho):Res Fl:=.ok (.ret (.v .non))
def hU(c:Str)(a:Fv)(ρ:Rho):Res Fl:=(a ρ).bind fun ds=>if ds.length<=16777216 then .err c else .no
def sNo(_ρ:Rho):Res Fl:=.no
def zDm(i:Nat)(e:Ev)(ρ:Rho):Res Fl:=match ρ[i]? with
 | some (.own ds)=>(e ρ).bind fun d=>if ds.length<16777216 then .ok (.nx (ρ.set i (.own (ds++[d])))) else .no
 | _=>.no
def zMK(i:Nat)(e:Fv)(ρ:Rho):Res Fl:=match ρ[i]? with
 | some (.own ds)=>(e ρ).bind fun es=>if ds.length+es.length<=16777216 then .ok (.nx (ρ.set i (.own (ds++es)))) else .no
 | _=>.no
def zSf(i:Nat)(k e:Ev)(ρ:Rho):Res Fl:=(e ρ).bind fun d=>match ρ[i]? with
 | some (.own ds)=>(k ρ).bind fun j=>match j with
  | .int j=>if 0<=j/\j<ds.length then .ok (.nx (ρ.set i (.own (ds.set j.toNat d)))) else if -(ds.length:Int)<=j/\j<0 then .ok (.nx (ρ.set i (.own (ds.set (j+ds.length).toNat d)))) else .no
  | _=>.no
 | _=>.no
def zRf(i:Nat)(ρ:Rho):Res Fl:=match ρ[i]? with
 | some (.own ds)=>if ds.length=0 then .no else .ok (.nx (ρ.set i (.own ds.dropLast)))
 | _=>.no
def zKo(i:Nat)(o:Op2)(e:Ev)(ρ:Rho):Res Fl:=match ρ[i]? with
 | some (.val x)=>(e ρ).bind fun y=>(o x y).bind fun d=>.ok (.nx (ρ.set i (.val d)))
 | _=>.no
def sFrz(s:Sv)(ρ:Rho):Res Fl:=s (ρ.map Sl.frz)
def frzAt(i:Nat)(ρ:Rho):Rho:=match ρ[i]? with
 | some (.own ds)=>ρ.set i (.val (.lst ds))
 | _=>ρ
def sFrzAt(i:Nat)(s:Sv)(ρ:Rho):Res Fl:=s (frzAt i ρ)
def noErr{s:Type}:Res s->Res s
 | .err _=>.no
 | r=>r
def zII(m:Mir)(a:Fv)(ρ:Rho):Res Fl:=(noErr (a ρ)).bind fun ds=>(m ds).bind fun _=>.ok (.nx ρ)
def xIf(t:Tv)(a b:Sv)(ρ:Rho):Res Fl:=(noErr (t ρ)).bind fun c=>if c=true then a ρ else b ρ
def zPJ(tb:List Str)(i:Nat)(b h:Sv)(ρ:Rho):Res Fl:=match b ρ with
 | .err c=>if tb.contains c=true then (match h (ρ.set i (.exc c)) with
   | .ok (.nx ρ')=>.ok (.nx (ρ'.set i .un))
   | _=>.no) else .no
 | r=>r
def zKx(anc:List (Str×List Str))(i:Nat)(cs:List Str)(ρ:Rho):Res D:=match ρ[i]? with
 | some (.exc c)=>(match anc.lookup c with
  | some l=>.ok (.bl (cs.any fun x=>l.contains x))
  | none=>.no)
 | _=>.no
abbrev Gv:=D->Rho->Res Rho
def gName(i:Nat)(d:D)(ρ:Rho):Res Rho:=.ok (ρ.set i (.val d))
def zGW(gs:List D->Rho->Res Rho)(d:D)(ρ:Rho):Res Rho:=match d with
 | .tup ds=>gs ds ρ
 | _=>.no
def zGY(ds:List D)(ρ:Rho):Res Rho:=match ds with
 | []=>.ok ρ
 | _=>.no
def mP(g:Gv)(r:List D->Rho->Res Rho)(ds:List D)(ρ:Rho):Res Rho:=match ds with
 | d::ds=>(g d ρ).bind fun ρ'=>r ds ρ'
 | []=>.no
def zUv(g:Gv)(f:Ev)(ρ:Rho):Res Fl:=(f ρ).bind fun d=>(g d ρ).bind fun ρ'=>.ok (.nx ρ')
def loop(g:Gv)(b:Sv):List D->Rho->Res Fl
 | [],ρ=>.ok (.nx ρ)
 | d::ds,ρ=>(g d ρ).bind fun ρ1=>(b ρ1).bind fun f=>match f with
  | .nx ρ2=>loop g b ds ρ2
  | .ctn ρ2=>loop g b ds ρ2
  | .brk ρ2=>.ok (.nx ρ2)
  | .ret r=>.ok (.ret r)
def xI(it:Fv)(g:Gv)(b:Sv)(ρ:Rho):Res Fl:=(it ρ).bind fun ds=>loop g b ds ρ
def qZ(e:Ev)(ρ:Rho):Res (List D):=(e ρ).bind fun d=>match d with
 | .lst ds=>.ok ds
 | .tup ds=>.ok ds
 | _=>.no
def rng(lo:Int)(n:Nat)(c:Int):List D:=(List.range n).map fun(i:Nat)=>D.int (lo+(i:Int)*c)
def xE(a:Fv)(ρ:Rho):Res (List D):=(a ρ).bind fun ds=>match ds with
 | [.int j]=>if -(2^62)<=j/\j<2^62 then .ok (rng 0 j.toNat 1) else .no
 | _=>.no
def zIu(a:Fv)(ρ:Rho):Res (List D):=(a ρ).bind fun ds=>match ds with
 | [.int i,.int j]=>if -(2^62)<=i/\i<2^62/\-(2^62)<=j/\j<2^62 then .ok (rng i (j-i).toNat 1) else .no
 | _=>.no
def wh(t:Tv)(b:Sv):Nat->Rho->Res Fl
 | 0,_=>.no
 | n+1,ρ=>(t ρ).bind fun c=>if c=true then (b ρ).bind fun f=>match f with
   | .nx ρ2=>wh t b n ρ2
   | .ctn ρ2=>wh t b n ρ2
   | .brk ρ2=>.ok (.nx ρ2)
   | .ret r=>.ok (.ret r)
  else .ok (.nx ρ)
open Classical in
def fP(t:Tv)(b:Sv)(ρ:Rho):Res Fl:=if h:∃ n,wh t b n ρ≠.no then wh t b h.choose ρ else .no
def zAd{t:Tv}{b:Sv}:∀ {n:Nat} {ρ:Rho} {k:Nat},wh t b n ρ≠.no->n<=k->wh t b k ρ=wh t b n ρ
 | 0,ρ,k,h,_=>absurd rfl h
 | n+1,ρ,0,h,l=>absurd l (by omega)
 | n+1,ρ,k+1,h,l=>by
  rw[wh,wh];rw[wh] at h
  cases ht:t ρ with
  | no=>rfl
  | err c=>rfl
  | ok c=>
   rw[ht] at h;simp only[Res.bind] at h ⊢
   cases c with
   | false=>rfl
   | true=>
    simp only[if_true] at h ⊢
    cases hb:b ρ with
    | no=>rfl
    | err c=>rfl
    | ok f=>
     rw[hb] at h
     cases f with
     | nx ρ2=>exact zAd h (by omega)
     | ctn ρ2=>exact zAd h (by omega)
     | brk ρ2=>rfl
     | ret r=>rfl
def hG{t:Tv}{b:Sv}{n:Nat}{ρ:Rho}(h:wh t b n ρ≠.no):fP t b ρ=wh t b n ρ:=by
 have hx:∃ n,wh t b n ρ≠.no:=⟨n,h⟩;unfold fP;rw[J7 hx];rcases U6 n hx.choose with l | l
 ·exact zAd h l
 ·exact(zAd hx.choose_spec l).symm
def pL{t:Tv}{b:Sv}{ρ:Rho}(h:fP t b ρ≠.no):∃ n,fP t b ρ=wh t b n ρ:=by
 unfold fP at h ⊢
 split
 ·exact⟨_,rfl⟩
 ·rename_i hx;rw[dif_neg hx] at h;exact absurd rfl h
def zCQ{t:Tv}{b:Sv}{ρ:Rho}:fP t b ρ=((t ρ).bind fun c=>if c=true then (b ρ).bind fun f=>match f with
   | .nx ρ2=>fP t b ρ2
   | .ctn ρ2=>fP t b ρ2
   | .brk ρ2=>.ok (.nx ρ2)
   | .ret r=>.ok (.ret r)
  else .ok (.nx ρ)):=by
 have key:∀ n,wh t b (n+1) ρ≠.no->wh t b (n+1) ρ=((t ρ).bind fun c=>if c=true then (b ρ).bind fun f=>match f with
   | .nx ρ2=>fP t b ρ2
   | .ctn ρ2=>fP t b ρ2
   | .brk ρ2=>.ok (.nx ρ2)
   | .ret r=>.ok (.ret r)
  else .ok (.nx ρ)):=by
  intro n h;rw[wh] at h ⊢
  cases ht:t ρ with
  | no=>rfl
  | err c=>rfl
  | ok c=>
   rw[ht] at h;simp only[Res.bind] at h ⊢
   cases c with
   | false=>rfl
   | true=>
    simp only[if_true] at h ⊢
    cases hb:b ρ with
    | no=>rfl
    | err c=>rfl
    | ok f=>
     rw[hb] at h
     cases f with
     | nx ρ2=>exact(hG h).symm
     | ctn ρ2=>exact(hG h).symm
     | brk ρ2=>rfl
     | ret r=>rfl
 by_cases h:fP t b ρ=.no
 ·rw[h]
  cases ht:t ρ with
  | no=>rfl
  | err c=>
   exfalso
   have q:wh t b 1 ρ=.err c:=by rw[wh,ht];rfl
   have:=hG (t:=t) (b:=b) (ρ:=ρ) (n:=1) (by rw[q];exact fun z=>by cases z)
   rw[h,q] at this;cases this
  | ok c=>
   simp only[Res.bind]
   cases c with
   | false=>
    exfalso
    have q:wh t b 1 ρ=.ok (.nx ρ):=by rw[wh,ht];rfl
    have:=hG (t:=t) (b:=b) (ρ:=ρ) (n:=1) (by rw[q];exact fun z=>by cases z)
    rw[h,q] at this;cases this
   | true=>
    simp only[if_true]
    cases hb:b ρ with
    | no=>rfl
    | err c=>
     exfalso
     have q:wh t b 1 ρ=.err c:=by rw[wh,ht];simp[Res.bind,hb]
     have:=hG (t:=t) (b:=b) (ρ:=ρ) (n:=1) (by rw[q];exact fun z=>by cases z)
     rw[h,q] at this;cases this
    | ok f=>
     have again:∀ ρ2,(f=.nx ρ2∨f=.ctn ρ2)->fP t b ρ2=.no:=by
      intro ρ2 hf;by_cases h2:fP t b ρ2=.no
      ·exact h2
      ·exfalso
       obtain⟨n,e⟩:=pL h2
       have q:wh t b (n+1) ρ=wh t b n ρ2:=by
        rw[wh,ht];simp only[Res.bind,if_true,hb];rcases hf with rfl | rfl<;>rfl
       have h3:wh t b (n+1) ρ≠.no:=by rw[q,<-e];exact h2
       have:=hG h3
       rw[h] at this;exact h3 this.symm
     cases f with
     | nx ρ2=>exact(again ρ2 (.inl rfl)).symm
     | ctn ρ2=>exact(again ρ2 (.inr rfl)).symm
     | brk ρ2=>
      exfalso
      have q:wh t b 1 ρ=.ok (.nx ρ2):=by rw[wh,ht];simp[Res.bind,hb]
      have:=hG (t:=t) (b:=b) (ρ:=ρ) (n:=1) (by rw[q];exact fun z=>by cases z)
      rw[h,q] at this;cases this
     | ret r=>
      exfalso
      have q:wh t b 1 ρ=.ok (.ret r):=by rw[wh,ht];simp[Res.bind,hb]
      have:=hG (t:=t) (b:=b) (ρ:=ρ) (n:=1) (by rw[q];exact fun z=>by cases z)
      rw[h,q] at this;cases this
 ·obtain⟨n,e⟩:=pL h
  cases n with
  | zero=>rw[e] at h;exact absurd rfl h
  | succ n=>rw[e];exact key n (by rw[<-e];exact h)
def zNX(f:Fv)(g:Ev)(ρ:Rho):Res (List D):=(f ρ).bind fun ds=>(g ρ).bind fun d=>match d with
 | .int k=>if 0<=k/\k<2^62/\ds.length*k.toNat<=16777216 then .ok (List.replicate k.toNat ds).flatten else .no
 | _=>.no
def iK(_ρ:Rho):Res Bool:=.ok true
def gH(t:Tv)(f:Ev)(ρ:Rho):List D->Res (List D)
 | []=>.ok []
 | d::ds=>(noErr (t (ρ++[.val d]))).bind fun c=>if c=true then (noErr (f (ρ++[.val d]))).bind fun e=>(gH t f ρ ds).bind fun es=>.ok (e::es) else gH t f ρ ds
def iW(it:Fv)(t:Tv)(f:Ev)(ρ:Rho):Res (List D):=(it ρ).bind fun ds=>if ds.length<=16777215 then gH t f ρ ds else .no
def start(n:Nat)(ds:List D):Rho:=ds.map Sl.val++List.replicate (n-ds.length) .un
def fin:Fl->Res Rt
 | .nx _=>.ok (.v .non)
 | .ret r=>.ok r
 | .brk _=>.no
 | .ctn _=>.no
def fn(p n:Nat)(b:Sv)(ds:List D):Res Rt:=if ds.length=p then (b (start n ds)).bind fin else .no
def zFY(ds:List D)(lo hi:Option Int)(c:Int):List D:=(sliceRange (sliceBounds lo hi (some c) ds.length).1 (sliceBounds lo hi (some c) ds.length).2.1 (sliceBounds lo hi (some c) ds.length).2.2).filterMap (ds[·]?)
def zSh(a:Ev)(lo hi:Ov)(st:Ev)(ρ:Rho):Res (List D):=(a ρ).bind fun x=>(lo ρ).bind fun l=>(hi ρ).bind fun h=>(st ρ).bind fun c=>match x,c with
 | .lst ds,.int c=>if c=0 then .no else .ok (zFY ds l h c)
 | _,_=>.no
def zKn:D->Option (List D)
 | .lst ds=>some ds
 | .tup ds=>some ds
 | _=>none
def kL:List D->List D->List D
 | a::r,b::q=>.tup [a,b]::kL r q
 | _,_=>[]
def zMm(a:Fv)(ρ:Rho):Res (List D):=(a ρ).bind fun ds=>match ds with
 | [x,y]=>match zKn x,zKn y with
  | some xs,some ys=>.ok (kL xs ys)
  | _,_=>.no
 | _=>.no
def pY:Nat->List D->List D
 | _,[]=>[]
 | n,d::r=>.tup [.int n,d]::pY (n+1) r
def zLA(e:Ev)(ρ:Rho):Res (List D):=(e ρ).bind fun d=>match d with
 | .lst ds=>.ok (pY 0 ds)
 | .tup ds=>.ok (pY 0 ds)
 | _=>.no
def gD(f:Ev)(ρ:Rho):List D->Res (List D)
 | []=>.ok []
 | .tup [a,b]::ds=>(noErr (f (ρ++[.val a,.val b]))).bind fun e=>(gD f ρ ds).bind fun es=>.ok (e::es)
 | _::_=>.no
def vO(it:Fv)(f:Ev)(ρ:Rho):Res (List D):=(it ρ).bind fun ds=>if ds.length<=16777215 then gD f ρ ds else .no
def zUh:D->Option Str
 | .str x=>some x
 | .int i=>if i.natAbs.log2<1920 then some (toString i) else none
 | _=>none
def zUw:Str->List D->Option Str
 | a,[]=>some a
 | a,d::r=>match zUh d with
  | some x=>if x.length<=sizeLine/\(a++x).length<=sizeLine then zUw (a++x) r else none
  | none=>none
def oM:List D->Option (List Int)
 | []=>some []
 | .int i::ds=>match oM ds with
  | some ns=>some (i::ns)
  | none=>none
 | _::_=>none
def zDj:List D->Res D
 | [.lst ds]=>(match oM ds with
  | some ns=>.ok (.int ns.sum)
  | none=>.no)
 | [.tup ds]=>(match oM ds with
  | some ns=>.ok (.int ns.sum)
  | none=>.no)
 | _=>.no
def chO:Option Nat->Res D
 | some c=>.ok (.str ⟨#[c]⟩)
 | none=>.no
def slS(l u:Option Int):D->Res D
 | .str x=>if x.length<=sizeLine then .ok (.str (Txt.slice x l u)) else .no
 | _=>.no
def sG(T:List (Str×Str)):D->Res D
 | .str x=>.ok (.bl (!(T.lookup x).isSome))
 | _=>.no
def zPF:Option Str->Res D
 | some y=>.ok (.str y)
 | none=>.no
def uX(T:List (Str×Str)):D->Res D
 | .str x=>zPF (T.lookup x)
 | _=>.no
def zAq:Int->List Int->Int
 | a,[]=>a
 | a,b::r=>zAq (if b > a then b else a) r
def zDu:List D->Res D
 | [.lst ds,.int d]=>(match oM ds with | some (a::r)=>.ok (.int (zAq a r)) | some []=>.ok (.int d) | none=>.no)
 | _=>.no
end L3
namespace L3
open PySem
def iD(kz:List Int)(π:List Nat):Prop:=π.Perm (List.range kz.length)/\π.Pairwise (fun i j=>kz.getD i 0<=kz.getD j 0)
def zKv(b:Int):D->Res Int
 | .tup [.int t,.int d]=>if nE d && kP t (b.fdiv d) then .ok (t*b.fdiv d) else .no
 | _=>.no
def oZ(b:Int):List D->Res (List Int)
 | []=>.ok []
 | d::r=>(zKv b d).bind fun k=>(oZ b r).bind fun ks=>.ok (k::ks)
def kM(π:List Nat):List D:=π.map fun i:Nat=>D.int (i:Int)
def zNs{b k:Int}{d:D}(h:zKv b d=.ok k):∃ t c,d=.tup [.int t,.int c]/\nE c=true/\kP t (b.fdiv c)=true/\k=t*b.fdiv c:=by
 unfold zKv at h;split at h
 ·rename_i t c
  split at h
  ·rename_i hc
   rw[V8] at hc;cases h;exact⟨t,c,rfl,hc.1,hc.2,rfl⟩
  ·cases h
 ·cases h
def zAv{b:Int}:∀ {rows:List D} {kz:List Int},oZ b rows=.ok kz->kz.length=rows.length/\∀(j:Nat)(k:Int),kz[j]?=some k->∃ d,rows[j]?=some d/\zKv b d=.ok k
 | [],kz,h=>by cases h;exact⟨rfl,fun j k z=>by simp at z⟩
 | d::r,kz,h=>by
  unfold oZ at h
  cases e:zKv b d with
  | no=>rw[e] at h;cases h
  | err c=>rw[e] at h;cases h
  | ok k0=>
   rw[e] at h;have h':(oZ b r).bind (fun ks=>Res.ok (k0::ks))=.ok kz:=h
   cases e2:oZ b r with
   | no=>rw[e2] at h';cases h'
   | err c=>rw[e2] at h';cases h'
   | ok ks=>
    rw[e2] at h';cases h'
    obtain⟨h1,h2⟩:=zAv e2;refine⟨by rw[Qn,Qn,h1],fun j k z=>?_⟩
    cases j with
    | zero=>simp at z;subst z;exact⟨d,rfl,e⟩
    | succ j=>exact h2 j k (by simpa using z)
def zFk(ρ:Rho):Res (List Int):=match ρ[0]?,ρ[1]? with
 | some (Sl.val (.lst rows)),some (Sl.val (.int b))=>if rows.length<64 then oZ b rows else .no
 | _,_=>.no
def zAo(sa sb:Sv)(ds:List D):Res (List Int):=if ds.length=1 then (match sa (L3.start 3 ds) with
 | .ok (.nx ρ)=>(match sb ρ with
  | .ok (.nx ρ')=>zFk ρ'
  | _=>.no)
 | _=>.no) else .no
def zEz{b:Int}:∀ {rows:List D} {c:Str},oZ b rows≠.err c
 | [],c,h=>by cases h
 | d::r,c,h=>by
  unfold oZ at h
  have k0:∀ c,zKv b d≠.err c:=fun c z=>by
   unfold zKv at z;split at z
   ·split at z<;>cases z
   ·cases z
  cases e:zKv b d with
  | no=>rw[e] at h;cases h
  | err c'=>exact k0 _ e
  | ok k=>
   rw[e] at h;have h':(oZ b r).bind (fun ks=>Res.ok (k::ks))=.err c:=h
   cases e2:oZ b r with
   | no=>rw[e2] at h';cases h'
   | err c'=>exact zEz e2
   | ok ks=>rw[e2] at h';cases h'
def zQZ{sa sb:Sv}(ds:List D)(c:Str):zAo sa sb ds≠.err c:=fun h=>by
 unfold zAo zFk at h;split at h
 ·split at h
  ·split at h
   ·split at h
    ·split at h
     ·exact zEz h
     ·cases h
    ·cases h
   ·cases h
  ·cases h
 ·cases h
def zLY{sa sb:Sv}(ds:List D)(h:zAo sa sb ds≠.no):ds.length=1:=by
 unfold zAo at h;split at h
 ·assumption
 ·exact absurd rfl h
open Classical in
def pA(kz:List Int)(F:List Nat->Res Fl):Res Fl:=if h:∃ x,∀ π,iD kz π->F π=x then h.choose else .no
def zGS{kz:List Int}{F:List Nat->Res Fl}{π:List Nat}(h:pA kz F≠.no)(hπ:iD kz π):F π=pA kz F:=by
 unfold pA at h ⊢
 split at h
 ·rename_i z;rw[J7 z];exact z.choose_spec π hπ
 ·exact absurd rfl h
def zFV{kz:List Int}{F:List Nat->Res Fl}{x:Res Fl}{π:List Nat}(hπ:iD kz π)(h:∀ π,iD kz π->F π=x):pA kz F=x:=by
 have z:∃ x,∀ π,iD kz π->F π=x:=⟨x,h⟩;unfold pA;rw[J7 z,<-z.choose_spec π hπ];exact h π hπ
def zHn(fs:Fv)(kf:List D->Res (List Int))(g:Gv)(b r:Sv):Sv:=fun ρ=>((fs ρ).bind kf).bind fun kz=>pA kz fun π=>bA (fun ρ=>loop g b (kM π) ρ) r ρ
abbrev Tri:=D×List D×List D
def zKy(e:Ev):Fv:=fun ρ=>(e ρ).bind fun d=>match d with
 | .lst ds=>.ok ds.reverse
 | _=>.no
def zTK:D->Res (List D)
 | .lst ds=>.ok ds.reverse
 | _=>.no
def revL_l{ds:List D}:zTK (.lst ds)=.ok ds.reverse:=rfl
def iRevL_at{e:Ev}{ρ:Rho}:zKy e ρ=(e ρ).bind zTK:=by
 unfold zKy;congr
end L3
namespace Fq
def zLs{a b:Int}(ha:0<=a)(hb:0<b):Int.gcd b (a % b)=Int.gcd a b:=by
 obtain⟨m,rfl⟩:=Qaa ha;obtain⟨n,rfl⟩:=Qaa (X8 hb);show Nat.gcd n (m % n)=Nat.gcd m n
 rw[Nat.gcd_comm n (m % n),Nat.gcd_comm m n,Nat.gcd_rec n m]
def dv(t b:Int):Int:=if b<0 then -(Int.gcd t b:Int) else (Int.gcd t b:Int)
def zNH{t b:Int}(hb:b≠0):0<(Int.gcd t b:Int):=by
 have h:Int.gcd t b≠0:=fun h=>hb (Int.gcd_eq_zero_iff.mp h).2
 omega
def zTj{t b:Int}(hb:b≠0):dv t b≠0:=by
 have:=zNH (t:=t) hb
 unfold dv;split<;>omega
def zI(t b:Int):dv t b ∣ t:=by
 unfold dv;split
 ·exact Int.neg_dvd.mpr (U7 ..)
 ·exact U7 ..
def zFh(t b:Int):dv t b ∣ b:=by
 unfold dv;split
 ·exact Int.neg_dvd.mpr (U8 ..)
 ·exact U8 ..
def oX{t d:Int}(h:d ∣ t):t.fdiv d=t / d:=by
 rw[Int.fdiv_eq_ediv];simp[h]
def zFl{t b:Int}(hb:b≠0):t.fdiv (dv t b)=(Rat.divInt t b).num:=by
 rw[oX (zI t b),Rat.num_divInt,Int.gcd_comm b t];unfold dv;rcases Int.lt_trichotomy b 0 with h | h | h
 ·rw[Jk h,Int.sign_eq_neg_one_of_neg h,Int.ediv_neg]
  have:(-1:Int)*t=-t:=by omega
  rw[this,Qab (U7 ..)]
 ·exact absurd h hb
 ·rw[Jl (by omega),Int.sign_eq_one_of_pos h,Int.one_mul]
def zEQ{t b:Int}(hb:b≠0):b.fdiv (dv t b)=((Rat.divInt t b).den:Int):=by
 rw[oX (zFh t b),Rat.den_divInt,Jl hb,Int.gcd_comm b t];unfold dv;rcases Int.lt_trichotomy b 0 with h | h | h
 ·rw[Jk h,Int.ediv_neg,Int.natCast_ediv]
  have e:((b.natAbs:Nat):Int)=-b:=by omega
  rw[e,Qab (U8 ..)]
 ·exact absurd h hb
 ·rw[Jl (by omega),Int.natCast_ediv]
  have e:((b.natAbs:Nat):Int)=b:=by omega
  rw[e]
def iP(q:Rat):(q.den:Int)≠0:=by have:=q.den_nz;omega
def gK(q:Rat):(0:Int)<(q.den:Int):=by have:=q.den_nz;omega
def zQT(p q:Rat):Rat.divInt (p.num*q.den+q.num*p.den) (p.den*q.den)=p+q:=by
 rw[<-Rat.divInt_add_divInt _ _ (iP p) (iP q),Xe,Xe]
def zMn(p q:Rat):Rat.divInt (p.num*q.den-q.num*p.den) (p.den*q.den)=p-q:=by
 rw[<-Rat.divInt_sub_divInt _ _ (iP p) (iP q),Xe,Xe]
def zMw(p q:Rat):Rat.divInt (p.num*q.num) (p.den*q.den)=p*q:=by
 rw[<-U9,Xe,Xe]
def zIA(p q:Rat):Rat.divInt (p.num*q.den) (p.den*q.num)=p / q:=by
 rw[<-U9,Xe,Vd,Rat.inv_def]
def zMb{q:Rat}:q.num≠0 ↔ q≠0:=by
 constructor
 ·intro h e;exact h (by rw[e];rfl)
 ·intro h e;exact h (Rat.num_eq_zero.mp e)
def Sz(n:Nat)(q:Rat):Prop:=q.num.natAbs<2^n/\q.den<2^n
def Sz.mono{m n:Nat}{q:Rat}(h:Sz m q)(l:m<=n):Sz n q:=
 ⟨Qs h.1 (V9 (by decide) l),Qs h.2 (V9 (by decide) l)⟩
def zQU{t b:Int}(hb:b≠0):(Rat.divInt t b).num.natAbs<=t.natAbs:=by
 rw[<-zFl hb,oX (zI t b),Int.natAbs_ediv_of_dvd (zI t b)];exact Nat.div_le_self ..
def zFz{t b:Int}(hb:b≠0):(Rat.divInt t b).den<=b.natAbs:=by
 rw[Rat.den_divInt,Jl hb];exact Nat.div_le_self ..
def Sz.of{n:Nat}{t b:Int}(hb:b≠0)(ht:t.natAbs<2^n)(h:b.natAbs<2^n):Sz n (Rat.divInt t b):=
 ⟨Xv (zQU hb) ht,Xv (zFz hb) h⟩
def jP{a b:Int}{m n:Nat}(ha:a.natAbs<2^m)(hb:b.natAbs<2^n):(a*b).natAbs<2^(m+n):=by
 rw[Int.natAbs_mul,Nat.pow_add];exact Nat.mul_lt_mul'' ha hb
def zRk{a b:Int}{m:Nat}(ha:a.natAbs<2^m)(hb:b.natAbs<2^m):(a-b).natAbs<2^(m+1):=by
 rw[Nat.pow_succ];omega
def Sz.d{n:Nat}{q:Rat}(h:Sz n q):((q.den:Int)).natAbs<2^n:=h.2
def Sz.sub{m n:Nat}{p q:Rat}(hp:Sz m p)(hq:Sz n q):Sz (m+n+1) (p-q):=by
 rw[<-zMn];refine Sz.of (X9 (iP p) (iP q)) (zRk (jP hp.1 hq.d) ?_) ?_
 ·rw[Nat.add_comm m n];exact jP hq.1 hp.d
 ·exact Qs (jP hp.d hq.d) (V9 (by decide) (by omega))
def Sz.mul{m n:Nat}{p q:Rat}(hp:Sz m p)(hq:Sz n q):Sz (m+n) (p*q):=by
 rw[<-zMw];exact Sz.of (X9 (iP p) (iP q)) (jP hp.1 hq.1) (jP hp.d hq.d)
def Sz.div{m n:Nat}{p q:Rat}(hp:Sz m p)(hq:Sz n q)(h:q≠0):Sz (m+n) (p / q):=by
 rw[<-zIA];exact Sz.of (X9 (iP p) (zMb.mpr h)) (jP hp.1 hq.d) (jP hp.d hq.1)
end Fq
namespace Fr
open L3 PySem Fq
local macro_rules | `(⋯)=>`(by omega)
def zJL{t:Tv}{b:Sv}{ρ:Rho}(P:Rho->Prop)(r:Rho->Nat)(Q:Res Fl->Prop)(h0:P ρ)
  (step:∀ ρ,P ρ->(t ρ=.ok false/\Q (.ok (.nx ρ)))∨(t ρ=.ok true/\∃ ρ',b ρ=.ok (.nx ρ')/\P ρ'/\r ρ' < r ρ)):Q (fP t b ρ):=by
 have main:∀ n ρ,r ρ<=n->P ρ->Q (fP t b ρ):=by
  intro n
  induction n with
  | zero=>
   intro ρ hn hp;rw[zCQ];rcases step ρ hp with⟨h1,h2⟩ | ⟨h1,ρ',h2,h3,h4⟩
   ·rw[h1];exact h2
   ·omega
  | succ n ih=>
   intro ρ hn hp;rw[zCQ];rcases step ρ hp with⟨h1,h2⟩ | ⟨h1,ρ',h2,h3,h4⟩
   ·rw[h1];exact h2
   ·rw[h1]
    simp only[Res.bind,if_true,h2];exact ih ρ' ⋯ h3
 exact main _ ρ (Qf _) h0
def zJu{i:Int}{m:Nat}(h:i.natAbs<2^m):nb i<=m+1:=zTd (Qs h (V9 (by decide) ⋯)) ⋯
def dO{i j:Int}{m n:Nat}(hi:i.natAbs<2^m)(hj:j.natAbs<2^n)(h:m+n<=100000000):kP i j=true:=by
 unfold kP;have h1:=zJu hi;have h2:=zJu hj;rw[Xk];exact .inr (J6 ⋯)
def zNt{i j:Int}(h1:-(2^64)<j)(h2:j<2^64):kP i j=true:=by
 unfold kP;rw[Xk,Xk];exact .inl (.inr (by rw[J6 h1,J6 h2];rfl))
def zNL{i j:Int}(h1:-(2^64)<i)(h2:i<2^64):kP i j=true:=by
 unfold kP;rw[Xk,Xk];exact .inl (.inl (by rw[J6 h1,J6 h2];rfl))
def zAE{j:Int}{m:Nat}(h0:j≠0)(hj:j.natAbs<2^m)(h:m<=8999):nE j=true:=by
 unfold nE;have h1:=zJu hj;rw[J6 h0,J6 (show nb j<=9000 by omega)];rfl
def okDiv_lit{j:Int}(h0:0<j)(h:j<1000000000000000000):nE j=true:=zAE (m:=64) ⋯ ⋯ (by decide)
def okMul_litr{i j:Int}(h1:-1000000000000000000<j)(h2:j<1000000000000000000):kP i j=true:=zNt ⋯ ⋯
def okMul_litl{i j:Int}(h1:-1000000000000000000<i)(h2:i<1000000000000000000):kP i j=true:=zNL ⋯ ⋯
def p10(n:Nat):(0:Int)<10^n:=Yy (by decide)
def p10ne(n:Nat):((10:Int)^n=0)=False:=eq_false (by have:=p10 n;omega)
def p10pos2(n:Nat):(0:Int)<2*10^n:=by have:=p10 n;omega
def p10ne2(n:Nat):((2:Int)*10^n=0)=False:=eq_false (by have:=p10 n;omega)
def okp9:tM 10 9=true:=by decide
def okp30:tM 10 30=true:=by decide
def dq(q:Rat):D:=.tup [.int q.num,.int (q.den:Int)]
def dp(p:Rat×Rat):D:=.tup [dq p.1,dq p.2]
def eq_dq(p q:Rat):eqD (dq p) (dq q)=decide (p=q):=by
 show((p.num==q.num) && (((p.den:Int)==(q.den:Int)) && true))=decide (p=q)
 by_cases h:p=q
 ·subst h;simp
 ·rw[Jj h]
  by_cases h1:p.num=q.num
  ·have h2:p.den≠q.den:=fun e=>h (Rat.ext h1 e)
   have:((p.den:Int)==(q.den:Int))=false:=by simp;omega
   rw[this];simp
  ·simp[h1]
def dep_dq(q:Rat):dep (dq q)=1:=rfl
def ix_dq0(q:Rat):oIx (dq q) (.int 0)=.ok (.int q.num):=rfl
def ix_dq1(q:Rat):oIx (dq q) (.int 1)=.ok (.int (q.den:Int)):=rfl
def ty_dq(q:Rat):tyN (dq q) = "tuple" := rfl
def len_dq(q:Rat):lM [dq q]=.ok (.int 2):=rfl
def oEq_dq(p q:Rat):oEq (dq p) (dq q)=.ok (.bl (decide (p=q))):=by
 rw[<-eq_dq];rfl
def oNe_dq(p q:Rat):oNe (dq p) (dq q)=.ok (.bl (!decide (p=q))):=by
 rw[<-eq_dq];rfl
def noL_dq(q:Rat):noL (dq q)=true:=rfl
def zNo(p q:Rat×Rat):eqD (dp p) (dp q)=decide (p=q):=by
 show(eqD (dq p.1) (dq q.1) && (eqD (dq p.2) (dq q.2) && true))=decide (p=q)
 rw[eq_dq,eq_dq];obtain⟨a,b⟩:=p;obtain⟨c,d⟩:=q;simp
def dp_mk(a b:Rat):(.tup [dq a,dq b]:D)=dp (a,b):=rfl
def ix_dp0(p:Rat×Rat):oIx (dp p) (.int 0)=.ok (dq p.1):=rfl
def ix_dp1(p:Rat×Rat):oIx (dp p) (.int 1)=.ok (dq p.2):=rfl
def ty_dp(p:Rat×Rat):tyN (dp p) = "tuple" := rfl
def len_dp(p:Rat×Rat):lM [dp p]=.ok (.int 2):=rfl
def dep_dp(p:Rat×Rat):dep (dp p)=2:=rfl
def noL_dp(p:Rat×Rat):noL (dp p)=true:=rfl
def oEq_dp(p q:Rat×Rat):oEq (dp p) (dp q)=.ok (.bl (decide (p=q))):=by
 rw[<-zNo];rfl
def oNe_dp(p q:Rat×Rat):oNe (dp p) (dp q)=.ok (.bl (!decide (p=q))):=by
 rw[<-zNo];rfl
def zMo:∀(l m:List (Rat×Rat)),zCN (l.map dp) (m.map dp)=decide (l=m)
 | [],[]=>rfl
 | [],_::_=>rfl
 | _::_,[]=>rfl
 | p::l,q::m=>by
  rw[Qo,Qo,zCN,zNo,zMo l m];simp
def zMs:∀(l m:List Rat),zCN (l.map dq) (m.map dq)=decide (l=m)
 | [],[]=>rfl
 | [],_::_=>rfl
 | _::_,[]=>rfl
 | p::l,q::m=>by
  rw[Qo,Qo,zCN,eq_dq,zMs l m];simp
def fdiv_pos(a:Int){b:Int}(h:0<b):a.fdiv b=a / b:=Qac a ⋯
def fmod_pos(a:Int){b:Int}(h:0<b):a.fmod b=a % b:=Qad a ⋯
def zPl(a:Int){b:Int}(h:0<=b):a.fdiv b=a / b:=Qac a h
def zEm(a:Int){b:Int}(h:0<=b):a.fmod b=a % b:=Qad a h
def zFy:∀ l:List Rat,depS (l.map dq)<=1
 | []=>Vl _
 | q::l=>by rw[Qo,depS];exact Y4.mpr ⟨Qf _,zFy l⟩
def zND(l:List Rat):dep (.lst (l.map dq))<=50:=by rw[dep];have:=zFy l;omega
def zEM:∀ l:List (Rat×Rat),depS (l.map dp)<=2
 | []=>Vl _
 | q::l=>by rw[Qo,depS];exact Y4.mpr ⟨Qf _,zEM l⟩
def zPk(l:List (Rat×Rat)):dep (.tup (l.map dp))<=50:=by rw[dep];have:=zEM l;omega
def noLs_dps:∀ l:List (Rat×Rat),noLs (l.map dp)=true
 | []=>rfl
 | q::l=>by rw[Qo,noLs,noL_dp,noLs_dps l];rfl
def kY{r:Type}{l:List r}{i:Nat}{a:r}(h:l[i]?=some a):l.take (i+1)=l.take i++[a]:=by rw[Wa,h];rfl
def zQS{b:Int}(h:0<b):(.tup [.int 1,.int b]:D)=dq (Rat.divInt 1 b):=by
 have hb:b≠0:=by omega
 have e:Fq.dv 1 b=1:=by unfold Fq.dv;rw[Jl ⋯];simp
 unfold dq;rw[<-Fq.zFl hb,<-Fq.zEQ hb,e];simp
def zRe(k:Int):(.tup [.int k,.int 1]:D)=dq (k:Rat):=rfl
end Fr
namespace L3
open PySem
def zGX(b:Sv):Fl->Res Fl
 | .nx ρ=>b ρ
 | .ret r=>.ok (.ret r)
 | .brk ρ=>.ok (.brk ρ)
 | .ctn ρ=>.ok (.ctn ρ)
def sSeq_at{a b:Sv}{ρ:Rho}:bA a b ρ=(a ρ).bind (zGX b):=by
 unfold bA;congr;funext f;cases f<;>rfl
def ifF(a b:Sv)(ρ:Rho):Bool->Res Fl
 | true=>a ρ
 | false=>b ρ
def sIf_at{t:Tv}{a b:Sv}{ρ:Rho}:sIf t a b ρ=(t ρ).bind (ifF a b ρ):=by
 unfold sIf;congr;funext c;cases c<;>rfl
def zTp(a b:Ev)(ρ:Rho):Bool->Res D
 | true=>a ρ
 | false=>b ρ
def eIf_at{t:Tv}{a b:Ev}{ρ:Rho}:eIf t a b ρ=(t ρ).bind (zTp a b ρ):=by
 unfold eIf;congr;funext c;cases c<;>rfl
def zSF(b:Ev)(ρ:Rho):D->Res D
 | .bl true=>b ρ
 | .bl false=>.ok (.bl false)
 | _=>.no
def eAnd_at{a b:Ev}{ρ:Rho}:zSc a b ρ=(a ρ).bind (zSF b ρ):=by
 unfold zSc;congr;funext c;cases c<;>try rfl
 rename_i c;cases c<;>rfl
def orF(b:Ev)(ρ:Rho):D->Res D
 | .bl true=>.ok (.bl true)
 | .bl false=>b ρ
 | _=>.no
def eOr_at{a b:Ev}{ρ:Rho}:eOr a b ρ=(a ρ).bind (orF b ρ):=by
 unfold eOr;congr;funext c;cases c<;>try rfl
 rename_i c;cases c<;>rfl
def opF(o:Op2)(b:Ev)(ρ:Rho)(x:D):Res D:=(b ρ).bind (o x)
def eOp_at{o:Op2}{a b:Ev}{ρ:Rho}:eOp o a b ρ=(a ρ).bind (opF o b ρ):=rfl
def consG(d:D)(ds:List D):Res (List D):=.ok (d::ds)
def consF(r:Fv)(ρ:Rho)(d:D):Res (List D):=(r ρ).bind (consG d)
def aCons_at{e:Ev}{r:Fv}{ρ:Rho}:aB e r ρ=(e ρ).bind (consF r ρ):=rfl
def tupF(ds:List D):Res D:=if ds.length<=16777216 then .ok (.tup ds) else .no
def eTup_at{a:Fv}{ρ:Rho}:zGC a ρ=(a ρ).bind tupF:=rfl
def rtF(r:Rt):Res D:=.ok r.d
def callF(m:Mir)(ds:List D):Res D:=(m ds).bind rtF
def eCall_at{m:Mir}{a:Fv}{ρ:Rho}:aM m a ρ=(a ρ).bind (callF m):=rfl
def isTF(T:String)(d:D):Res D:=.ok (.bl (isT T d))
def eIsT_at{T:String}{a:Ev}{ρ:Rho}:zSx T a ρ=(a ρ).bind (isTF T):=rfl
def isNF(d:D):Res D:=.ok (.bl (isNon d))
def eIsN_at{a:Ev}{ρ:Rho}:zSn a ρ=(a ρ).bind isNF:=rfl
def frzF(d:D):Res D:=if noL d=true then .ok d else .no
def eFrz_at{e:Ev}{ρ:Rho}:zQR e ρ=(e (ρ.map Sl.frz)).bind frzF:=rfl
def fLstF(ds:List D):Res (List D):=if ds.length<=16777216 then .ok ds else .no
def fLst_at{a:Fv}{ρ:Rho}:jV a ρ=(a ρ).bind fLstF:=rfl
def rtFF:Rt->Res (List D)
 | .f ds=>.ok ds
 | .v _=>.no
def fcallF(m:Mir)(ds:List D):Res (List D):=(m ds).bind rtFF
def fCall_at{m:Mir}{a:Fv}{ρ:Rho}:cH m a ρ=(a ρ).bind (fcallF m):=by
 unfold cH fcallF;congr
def zIt:List D->Res (List D)
 | [.lst ds]=>.ok ds
 | [.tup ds]=>.ok ds
 | _=>.no
def fListF_l{ds:List D}:zIt [.lst ds]=.ok ds:=rfl
def fListF_t{ds:List D}:zIt [.tup ds]=.ok ds:=rfl
def fList_at{a:Fv}{ρ:Rho}:zNB a ρ=(a ρ).bind zIt:=rfl
def catG(x y:D):Res (List D):=match x,y with
 | .lst ds,.lst es=>if ds.length+es.length<=16777216 then .ok (ds++es) else .no
 | _,_=>.no
def catF(b:Ev)(ρ:Rho)(x:D):Res (List D):=(b ρ).bind (catG x)
def fCat_at{a b:Ev}{ρ:Rho}:zLN a b ρ=(a ρ).bind (catF b ρ):=rfl
def efF(ds:List D):Res D:=.ok (.lst ds)
def eF_at{f:Fv}{ρ:Rho}:eF f ρ=(f ρ).bind efF:=rfl
def fFrzF(ds:List D):Res (List D):=if noLs ds=true then .ok ds else .no
def fFrz_at{f:Fv}{ρ:Rho}:zSg f ρ=(f (ρ.map Sl.frz)).bind fFrzF:=rfl
def oSF:D->Res (Option Int)
 | .int i=>.ok (some i)
 | _=>.no
def oS_at{e:Ev}{ρ:Rho}:oS e ρ=(e ρ).bind oSF:=by
 unfold oS;congr
def fSlH(x:D)(l h:Option Int):Res (List D):=match x with
 | .lst ds=>.ok (iO ds l h)
 | _=>.no
def fSlG(hi:Ov)(ρ:Rho)(x:D)(l:Option Int):Res (List D):=(hi ρ).bind (fSlH x l)
def fSlF(lo hi:Ov)(ρ:Rho)(x:D):Res (List D):=(lo ρ).bind (fSlG hi ρ x)
def fSl_at{a:Ev}{lo hi:Ov}{ρ:Rho}:fSl a lo hi ρ=(a ρ).bind (fSlF lo hi ρ):=rfl
def zUD(x:D)(l h:Option Int):Res D:=match x with
 | .tup ds=>if (iO ds l h).length<ds.length then .ok (.tup (iO ds l h)) else .no
 | _=>.no
def blF:D->Res Bool
 | .bl b=>.ok b
 | _=>.no
def tVal_at{e:Ev}{ρ:Rho}:dD e ρ=(e ρ).bind blF:=by
 unfold dD;congr
def notF(b:Bool):Res Bool:=.ok (!b)
def tNotB_at{t:Tv}{ρ:Rho}:xF t ρ=(t ρ).bind notF:=rfl
def zOx(u:Tv)(ρ:Rho):Bool->Res Bool
 | true=>u ρ
 | false=>.ok false
def tAndB_at{t u:Tv}{ρ:Rho}:vT t u ρ=(t ρ).bind (zOx u ρ):=by
 unfold vT;congr;funext c;cases c<;>rfl
def zTm(u:Tv)(ρ:Rho):Bool->Res Bool
 | true=>.ok true
 | false=>u ρ
def tOrB_at{t u:Tv}{ρ:Rho}:zHs t u ρ=(t ρ).bind (zTm u ρ):=by
 unfold zHs;congr;funext c;cases c<;>rfl
def setF(i:Nat)(ρ:Rho)(d:D):Res Fl:=.ok (.nx (ρ.set i (.val d)))
def sSet_at{i:Nat}{e:Ev}{ρ:Rho}:dF i e ρ=(e ρ).bind (setF i ρ):=rfl
def ownF(i:Nat)(ρ:Rho)(ds:List D):Res Fl:=.ok (.nx (ρ.set i (.own ds)))
def sOwn_at{i:Nat}{f:Fv}{ρ:Rho}:zCe i f ρ=(f ρ).bind (ownF i ρ):=rfl
def dropF(ρ:Rho)(_d:D):Res Fl:=.ok (.nx ρ)
def sDrop_at{e:Ev}{ρ:Rho}:qL e ρ=(e ρ).bind (dropF ρ):=rfl
def retF(d:D):Res Fl:=.ok (.ret (.v d))
def sRet_at{e:Ev}{ρ:Rho}:gE e ρ=(e (ρ.map Sl.frz)).bind retF:=rfl
def retFF(ds:List D):Res Fl:=.ok (.ret (.f ds))
def sRetF_at{f:Fv}{ρ:Rho}:iI f ρ=(f (ρ.map Sl.frz)).bind retFF:=rfl
def raiseF(c:Str)(ds:List D):Res Fl:=if ds.length<=16777216 then .err c else .no
def sRaise_at{c:Str}{a:Fv}{ρ:Rho}:hU c a ρ=(a ρ).bind (raiseF c):=rfl
def appF(i:Nat)(ρ:Rho)(ds:List D)(d:D):Res Fl:=if ds.length<16777216 then .ok (.nx (ρ.set i (.own (ds++[d])))) else .no
def appS(i:Nat)(e:Ev)(ρ:Rho):Option Sl->Res Fl
 | some (.own ds)=>(e ρ).bind (appF i ρ ds)
 | _=>.no
def sApp_at{i:Nat}{e:Ev}{ρ:Rho}:zDm i e ρ=appS i e ρ ρ[i]?:=by
 unfold zDm appS;rfl
def extF(i:Nat)(ρ:Rho)(ds:List D)(es:List D):Res Fl:=if ds.length+es.length<=16777216 then .ok (.nx (ρ.set i (.own (ds++es)))) else .no
def extS(i:Nat)(e:Fv)(ρ:Rho):Option Sl->Res Fl
 | some (.own ds)=>(e ρ).bind (extF i ρ ds)
 | _=>.no
def sExt_at{i:Nat}{e:Fv}{ρ:Rho}:zMK i e ρ=extS i e ρ ρ[i]?:=by
 unfold zMK extS;rfl
def augF(i:Nat)(ρ:Rho)(o:Op2)(x y:D):Res Fl:=(o x y).bind (setF i ρ)
def augS(i:Nat)(o:Op2)(e:Ev)(ρ:Rho):Option Sl->Res Fl
 | some (.val x)=>(e ρ).bind (augF i ρ o x)
 | _=>.no
def sAug_at{i:Nat}{o:Op2}{e:Ev}{ρ:Rho}:zKo i o e ρ=augS i o e ρ ρ[i]?:=by
 unfold zKo augS;rfl
def dropG(ρ:Rho)(_r:Rt):Res Fl:=.ok (.nx ρ)
def xdropF(m:Mir)(ρ:Rho)(ds:List D):Res Fl:=(m ds).bind (dropG ρ)
def xDrop_at{m:Mir}{a:Fv}{ρ:Rho}:zII m a ρ=(noErr (a ρ)).bind (xdropF m ρ):=rfl
def setG(i:Nat)(ρ:Rho)(r:Rt):Res Fl:=.ok (.nx (ρ.set i (.val r.d)))
def xIf_at{t:Tv}{a b:Sv}{ρ:Rho}:xIf t a b ρ=(noErr (t ρ)).bind (ifF a b ρ):=by
 unfold xIf;congr;funext c;cases c<;>rfl
def zTv(i:Nat):Res Fl->Res Fl
 | .ok (.nx r')=>.ok (.nx (r'.set i .un))
 | _=>.no
def zQN(i:Nat)(h:Sv)(ρ:Rho)(c:Str):Bool->Res Fl
 | true=>zTv i (h (ρ.set i (.exc c)))
 | false=>.no
def zTl(tb:List Str)(i:Nat)(h:Sv)(ρ:Rho):Res Fl->Res Fl
 | .err c=>zQN i h ρ c (tb.contains c)
 | .ok f=>.ok f
 | .no=>.no
def sTry_at{tb:List Str}{i:Nat}{b h:Sv}{ρ:Rho}:zPJ tb i b h ρ=zTl tb i h ρ (b ρ):=by
 unfold zPJ
 cases b ρ with
 | ok f=>rfl
 | no=>rfl
 | err c=>
  show(if tb.contains c=true then _ else _)=zQN i h ρ c (tb.contains c)
  cases tb.contains c with
  | false=>rfl
  | true=>
   simp only[if_true,zQN]
   cases h (ρ.set i (.exc c)) with
   | ok f=>cases f<;>rfl
   | _=>rfl
def zPH(anc:List (Str×List Str))(cs:List Str):Option Sl->Res D
 | some (.exc c)=>(match anc.lookup c with
  | some l=>.ok (.bl (cs.any fun x=>l.contains x))
  | none=>.no)
 | _=>.no
def eIsE_at{anc:List (Str×List Str)}{i:Nat}{cs:List Str}{ρ:Rho}:zKx anc i cs ρ=zPH anc cs ρ[i]?:=by
 unfold zKx zPH;rfl
def varS:Option Sl->Res D
 | some (.val d)=>.ok d
 | _=>.no
def eVar_at{i:Nat}{ρ:Rho}:aG i ρ=varS ρ[i]?:=by
 unfold aG varS;rfl
def retS:Option Sl->Res Fl
 | some (.own ds)=>.ok (.ret (.f ds))
 | _=>.no
def sRetOwn_at{i:Nat}{ρ:Rho}:gC i ρ=retS ρ[i]?:=by
 unfold gC retS;rfl
def nxF(ρ:Rho):Res Fl:=.ok (.nx ρ)
def unpF(g:Gv)(ρ:Rho)(d:D):Res Fl:=(g d ρ).bind nxF
def sUnp_at{g:Gv}{f:Ev}{ρ:Rho}:zUv g f ρ=(f ρ).bind (unpF g ρ):=rfl
def gtF(gs:List D->Rho->Res Rho)(ρ:Rho):D->Res Rho
 | .tup ds=>gs ds ρ
 | _=>.no
def gTup_at{gs:List D->Rho->Res Rho}{d:D}{ρ:Rho}:zGW gs d ρ=gtF gs ρ d:=by
 unfold zGW gtF;rfl
def gCons_at{g:Gv}{r:List D->Rho->Res Rho}{d:D}{ds:List D}{ρ:Rho}:mP g r (d::ds) ρ=(g d ρ).bind (r ds):=rfl
def gNil_at{ρ:Rho}:zGY [] ρ=.ok ρ:=rfl
def forF(g:Gv)(b:Sv)(ρ:Rho)(ds:List D):Res Fl:=loop g b ds ρ
def sFor_at{it:Fv}{g:Gv}{b:Sv}{ρ:Rho}:xI it g b ρ=(it ρ).bind (forF g b ρ):=rfl
def zKp:D->Res (List D)
 | .lst ds=>.ok ds
 | .tup ds=>.ok ds
 | _=>.no
def seqD_l{ds:List D}:zKp (.lst ds)=.ok ds:=rfl
def seqD_t{ds:List D}:zKp (.tup ds)=.ok ds:=rfl
def iSeq_at{e:Ev}{ρ:Rho}:qZ e ρ=(e ρ).bind zKp:=by
 unfold qZ;congr
def zPU:List D->Res (List D)
 | [.int j]=>if -(2^62)<=j/\j<2^62 then .ok (rng 0 j.toNat 1) else .no
 | _=>.no
def iRng1_at{a:Fv}{ρ:Rho}:xE a ρ=(a ρ).bind zPU:=rfl
def zQa:List D->Res (List D)
 | [.int i,.int j]=>if -(2^62)<=i/\i<2^62/\-(2^62)<=j/\j<2^62 then .ok (rng i (j-i).toNat 1) else .no
 | _=>.no
def iRng2_at{a:Fv}{ρ:Rho}:zIu a ρ=(a ρ).bind zQa:=rfl
def fn_at{p n:Nat}{b:Sv}{ds:List D}(h:ds.length=p):fn p n b ds=(b (start n ds)).bind fin:=by
 unfold fn;rw[Jk h]
def nr{r:Sort _}{a b:r}(h:a=b):a=b:=h
def okb{r s:Type}{a:r}{f:r->Res s}:(Res.ok a).bind f=f a:=nr rfl
def erb{r s:Type}{c:Str}{f:r->Res s}:(Res.err c).bind f=.err c:=nr rfl
def seqF_nx{b:Sv}{ρ:Rho}:zGX b (.nx ρ)=b ρ:=nr rfl
def seqF_ret{b:Sv}{r:Rt}:zGX b (.ret r)=.ok (.ret r):=nr rfl
def gtF_t{gs:List D->Rho->Res Rho}{ρ:Rho}{ds:List D}:gtF gs ρ (.tup ds)=gs ds ρ:=nr rfl
def ifF_t{a b:Sv}{ρ:Rho}:ifF a b ρ true=a ρ:=nr rfl
def ifF_f{a b:Sv}{ρ:Rho}:ifF a b ρ false=b ρ:=nr rfl
def eifF_t{a b:Ev}{ρ:Rho}:zTp a b ρ true=a ρ:=nr rfl
def eifF_f{a b:Ev}{ρ:Rho}:zTp a b ρ false=b ρ:=nr rfl
def andF_t{b:Ev}{ρ:Rho}:zSF b ρ (.bl true)=b ρ:=nr rfl
def andF_f{b:Ev}{ρ:Rho}:zSF b ρ (.bl false)=.ok (.bl false):=nr rfl
def orF_t{b:Ev}{ρ:Rho}:orF b ρ (.bl true)=.ok (.bl true):=nr rfl
def orF_f{b:Ev}{ρ:Rho}:orF b ρ (.bl false)=b ρ:=nr rfl
def tandF_t{u:Tv}{ρ:Rho}:zOx u ρ true=u ρ:=nr rfl
def tandF_f{u:Tv}{ρ:Rho}:zOx u ρ false=.ok false:=nr rfl
def torF_t{u:Tv}{ρ:Rho}:zTm u ρ true=.ok true:=nr rfl
def torF_f{u:Tv}{ρ:Rho}:zTm u ρ false=u ρ:=nr rfl
def tryE_t{i:Nat}{h:Sv}{ρ:Rho}{c:Str}:zQN i h ρ c true=zTv i (h (ρ.set i (.exc c))):=rfl
def tryF_ok{tb:List Str}{i:Nat}{h:Sv}{ρ:Rho}{f:Fl}:zTl tb i h ρ (.ok f)=.ok f:=rfl
def tryF_err{tb:List Str}{i:Nat}{h:Sv}{ρ:Rho}{c:Str}:zTl tb i h ρ (.err c)=zQN i h ρ c (tb.contains c):=rfl
def tryH_nx{i:Nat}{ρ:Rho}:zTv i (.ok (.nx ρ))=.ok (.nx (ρ.set i .un)):=rfl
def oAdd_i{i j:Int}:yF (.int i) (.int j)=.ok (.int (i+j)):=rfl
def oAddI_i{i j:Int}:zAZ (.int i) (.int j)=.ok (.int (i+j)):=rfl
def oSub_i{i j:Int}:zDg (.int i) (.int j)=.ok (.int (i-j)):=rfl
def oMul_i{i j:Int}(h:kP i j=true):yX (.int i) (.int j)=.ok (.int (i*j)):=Jk h
def oDiv_i{i j:Int}(h:nE j=true):zB (.int i) (.int j)=.ok (.int (i.fdiv j)):=Jk h
def oMod_i{i j:Int}(h:j≠0):pP (.int i) (.int j)=.ok (.int (i.fmod j)):=Jk h
def oPow_i{i j:Int}(h:tM i j=true):zIr (.int i) (.int j)=.ok (.int (i^j.toNat)):=Jk h
def oEq_i{i j:Int}:oEq (.int i) (.int j)=.ok (.bl (decide (i=j))):=rfl
def oNe_i{i j:Int}:oNe (.int i) (.int j)=.ok (.bl (!decide (i=j))):=rfl
def oLt_i{i j:Int}:oLt (.int i) (.int j)=.ok (.bl (decide (i<j))):=rfl
def oLe_i{i j:Int}:oLe (.int i) (.int j)=.ok (.bl (decide (i<=j))):=rfl
def oGt_i{i j:Int}:oGt (.int i) (.int j)=.ok (.bl (decide (j<i))):=rfl
def oGe_i{i j:Int}:oGe (.int i) (.int j)=.ok (.bl (decide (j<=i))):=rfl
def ofO_some{r:Type}{a:r}:ofO (some a)=.ok a:=rfl
def oNeg_i{i:Int}:zFj (.int i)=.ok (.int (-i)):=rfl
def oNot_b{b:Bool}:zUz (.bl b)=.ok (.bl (!b)):=rfl
def bAbs_i{i:Int}:zNW [.int i]=.ok (.int (i.natAbs:Int)):=by
 show Res.ok (D.int (if i<0 then -i else i))=_
 congr 2;split<;>omega
def bMin_i{i j:Int}:zQF [.int i,.int j]=.ok (.int (min i j)):=by
 show Res.ok (D.int (if j<i then j else i))=_
 congr 2;split<;>omega
def zAP{j:Int}(h1:-(2^62)<=j)(h2:j<2^62):zPU [.int j]=.ok (rng 0 j.toNat 1):=Jk ⟨h1,h2⟩
def zPC{i j:Int}(h1:-(2^62)<=i)(h2:i<2^62)(h3:-(2^62)<=j)(h4:j<2^62):zQa [.int i,.int j]=.ok (rng i (j-i).toNat 1):=Jk ⟨h1,h2,h3,h4⟩
def zDr{r:Type}{g:Gv}{b:Sv}{ds:List D}{ρ:Rho}{k:Fl->Res r}{Q:Res r->Prop}(P:Rho->Prop)(h0:P ρ)
  (st:∀ d ρ,d∈ds->P ρ->∃ ρ2,(g d ρ).bind b=.ok (.nx ρ2)/\P ρ2) (fi:∀ ρ',P ρ'->Q (k (.nx ρ'))):Q ((loop g b ds ρ).bind k):=by
 suffices h:∃ ρ',loop g b ds ρ=.ok (.nx ρ')/\P ρ' by
  obtain⟨ρ',e,hp⟩:=h;rw[e];exact fi ρ' hp
 clear fi
 induction ds generalizing ρ with
 | nil=>exact⟨ρ,rfl,h0⟩
 | cons d ds ih=>
  obtain⟨ρ2,e,hp⟩:=st d ρ Qb h0;obtain⟨ρ',e',hp'⟩:=ih hp fun d' ρ' hd=>st d' ρ' (Qd _ hd)
  refine⟨ρ',?_,hp'⟩
  rw[loop]
  cases hg:g d ρ with
  | no=>rw[hg] at e;cases e
  | err c=>rw[hg] at e;cases e
  | ok ρ1=>
   rw[hg] at e;have e2:b ρ1=.ok (.nx ρ2):=e;simp only[Res.bind,e2];exact e'
def ty_i{i:Int}:tyN (.int i) = "int" := rfl
def ty_b{b:Bool}:tyN (.bl b) = "bool" := rfl
def ty_t{ds:List D}:tyN (.tup ds) = "tuple" := rfl
def ty_l{ds:List D}:tyN (.lst ds) = "list" := rfl
def ty_s{x:Str}:tyN (.str x) = "str" := rfl
def ty_n:tyN .non = "NoneType" := rfl
def bLen_t{ds:List D}:lM [.tup ds]=.ok (.int ds.length):=rfl
def bLen_l{ds:List D}:lM [.lst ds]=.ok (.int ds.length):=rfl
def bTup_t{ds:List D}:zLI [.tup ds]=.ok (.tup ds):=rfl
def bTup_l{ds:List D}:zLI [.lst ds]=.ok (.tup ds):=rfl
def oY{r:Type}{g:Gv}{b:Sv}{ds:List D}{ρ:Rho}{k:Fl->Res r}{Q:Res r->Prop}(P:Nat->Rho->Prop)(h0:P 0 ρ)
  (st:∀ i d ρ,ds[i]?=some d->P i ρ->∃ ρ2,(g d ρ).bind b=.ok (.nx ρ2)/\P (i+1) ρ2) (fi:∀ ρ',P ds.length ρ'->Q (k (.nx ρ'))):Q ((loop g b ds ρ).bind k):=by
 suffices h:∀(ds:List D)(j:Nat)(ρ:Rho),P j ρ->(∀ i d ρ,ds[i]?=some d->P (j+i) ρ->∃ ρ2,(g d ρ).bind b=.ok (.nx ρ2)/\P (j+i+1) ρ2)->∃ ρ',loop g b ds ρ=.ok (.nx ρ')/\P (j+ds.length) ρ' by
  obtain⟨ρ',e,hp⟩:=h ds 0 ρ h0 (fun i d ρ hd hp=>by rw[Xl] at hp ⊢;exact st i d ρ hd hp)
  rw[e];exact fi ρ' (by rw[Xl] at hp;exact hp)
 intro ds
 induction ds with
 | nil=>intro j ρ hp _;exact⟨ρ,rfl,hp⟩
 | cons d ds ih=>
  intro j ρ hp st;obtain⟨ρ2,e,hp2⟩:=st 0 d ρ rfl hp
  obtain⟨ρ',e',hp'⟩:=ih (j+1) ρ2 hp2 fun i d' ρ' hd hp=>by
   have:=st (i+1) d' ρ' (by simpa using hd) (by rw[show j+(i+1)=j+1+i by omega];exact hp)
   rw[show j+(i+1)=j+1+i by omega] at this;exact this
  refine⟨ρ',?_,by rw[Qn,show j+(ds.length+1)=j+1+ds.length by omega];exact hp'⟩
  rw[loop]
  cases hg:g d ρ with
  | no=>rw[hg] at e;cases e
  | err c=>rw[hg] at e;cases e
  | ok ρ1=>
   rw[hg] at e;have e2:b ρ1=.ok (.nx ρ2):=e;simp only[Res.bind,e2];exact e'
def zKj{lo c:Int}{n i:Nat}{d:D}(h:(rng lo n c)[i]?=some d):i<n/\d=.int (lo+(i:Int)*c):=by
 unfold rng at h;rw[Qu] at h;by_cases hi:i<n
 ·rw[Xa hi] at h
  cases h;exact⟨hi,rfl⟩
 ·rw[Qz (by rw[Q2];omega)] at h
  cases h
def zEN{f:Ev}{ρ:Rho}{h:D->D}:∀ {ds:List D},(∀ d∈ds,f (ρ++[.val d])=.ok (h d))->gH iK f ρ ds=.ok (ds.map h)
 | [],_=>rfl
 | d::ds,hf=>by
  rw[gH,hf d Qb];simp only[iK,noErr,Res.bind,if_true];rw[zEN fun e he=>hf e (Qd _ he)];rfl
def zBM(t:Tv)(f:Ev)(ρ:Rho)(ds:List D):Res (List D):=if ds.length<=16777215 then gH t f ρ ds else .no
def fComp_at{it:Fv}{t:Tv}{f:Ev}{ρ:Rho}:iW it t f ρ=(it ρ).bind (zBM t f ρ):=rfl
def zCJ{f:Ev}{ρ:Rho}{h:D->D}{ds:List D}(hl:ds.length<=16777215)(hf:∀ d∈ds,f (ρ++[.val d])=.ok (h d)):zBM iK f ρ ds=.ok (ds.map h):=by
 unfold zBM;rw[Jk hl,zEN hf]
def zNu{d:D}(h:dep d<=50):oNe d d=.ok (.bl false):=by unfold oNe;rw[Jk h,qI];rfl
def zDl{d:D}(h:dep d<=50):oEq d d=.ok (.bl true):=by unfold oEq;rw[Jk h,qI]
def zLn{ds:List D}{k:Int}(h:0<=k):iO ds none (some k)=ds.take k.toNat:=by
 unfold iO cut;simp only[h,if_true,List.drop_zero,Nat.sub_zero];rcases U6 k.toNat ds.length with l | l
 ·rw[Y5 l]
 ·rw[Wb l,Vx,Y6 l]
def zLE{r:Type}(l:List r)(a:Nat):l.drop (min a l.length)=l.drop a:=by
 rcases U6 a l.length with h | h
 ·rw[Y5 h]
 ·rw[Wb h,List.drop_length,Y7 h]
def yV{ds:List D}{a:Int}(h1:0<=a):iO ds (some a) none=ds.drop a.toNat:=by
 unfold iO cut;simp only[h1,if_true];rw[zLE,Y6 (by rw[Xs];omega)]
def qV{r:Type}{f:r->D}{l:List r}{i:Int}{a:r}(h0:0<=i)(h:l[i.toNat]?=some a):oIx (.lst (l.map f)) (.int i)=.ok (f a):=by
 show ofO (atD (l.map f) i)=_
 unfold atD;rw[Jk h0,Qu,h];rfl
def popS(i:Nat)(ρ:Rho):Option Sl->Res Fl
 | some (.own ds)=>if ds.length=0 then .no else .ok (.nx (ρ.set i (.own ds.dropLast)))
 | _=>.no
def sPop_at{i:Nat}{ρ:Rho}:zRf i ρ=popS i ρ ρ[i]?:=by unfold zRf popS;rfl
def oIx_tc{d:D}{ds:List D}{i:Int}:oIx (.tup (d::ds)) (.int i)=ofO (atD (d::ds) i):=rfl
def wE{r:Type}{f:r->D}{l:List r}{i:Int}{a:r}(h0:0<=i)(h:l[i.toNat]?=some a):oIx (.tup (l.map f)) (.int i)=.ok (f a):=by
 show ofO (atD (l.map f) i)=_
 unfold atD;rw[Jk h0,Qu,h];rfl
def zMR{r:Type}{f:r->D}{l:List r}{k:Nat}{a:r}(h0:0<k)(h:k<=l.length)(h2:l[l.length-k]?=some a):atD (l.map f) (-(k:Int))=some (f a):=by
 unfold atD;rw[Jl (by omega),Qe,Jk (by omega),show((l.length:Int)+-(k:Int)).toNat=l.length-k by omega,Qu,h2];rfl
def zAO{r:Type}{f:r->D}{l:List r}{k:Nat}{i:Int}{a:r}(hi:i=-(k:Int))(h0:0<k)(h:k<=l.length)(h2:l[l.length-k]?=some a):oIx (.lst (l.map f)) (.int i)=.ok (f a):=by
 show ofO (atD (l.map f) i)=_
 rw[hi,zMR h0 h h2];rfl
def zIN{r:Type}{f:r->D}{l:List r}{k:Nat}{i:Int}{a:r}(hi:i=-(k:Int))(h0:0<k)(h:k<=l.length)(h2:l[l.length-k]?=some a):oIx (.tup (l.map f)) (.int i)=.ok (f a):=by
 show ofO (atD (l.map f) i)=_
 rw[hi,zMR h0 h h2];rfl
def zBE{s:Type}{g:Gv}{b:Sv}{ds:List D}{ρ:Rho}{k:Fl->Res s}{Q:Res s->Prop}(P:Nat->Rho->Prop)(h0:P 0 ρ)
  (st:∀ i d ρ,ds[i]?=some d->P i ρ->(∃ ρ2,(g d ρ).bind b=.ok (.nx ρ2)/\P (i+1) ρ2)∨∃ r,(g d ρ).bind b=.ok (.ret r)/\Q (k (.ret r))) (fi:∀ ρ',P ds.length ρ'->Q (k (.nx ρ'))):Q ((loop g b ds ρ).bind k):=by
 suffices h:∀(ds:List D)(j:Nat)(ρ:Rho),P j ρ->(∀ i d ρ,ds[i]?=some d->P (j+i) ρ->(∃ ρ2,(g d ρ).bind b=.ok (.nx ρ2)/\P (j+i+1) ρ2)∨∃ r,(g d ρ).bind b=.ok (.ret r)/\Q (k (.ret r)))->(∃ ρ',loop g b ds ρ=.ok (.nx ρ')/\P (j+ds.length) ρ')∨∃ r,loop g b ds ρ=.ok (.ret r)/\Q (k (.ret r)) by
  rcases h ds 0 ρ h0 (fun i d ρ hd hp=>by rw[Xl] at hp ⊢;exact st i d ρ hd hp) with⟨ρ',e,hp⟩ | ⟨r,e,hq⟩
  ·rw[e]
   exact fi ρ' (by rw[Xl] at hp;exact hp)
  ·rw[e]
   exact hq
 intro ds
 induction ds with
 | nil=>intro j ρ hp _;exact .inl ⟨ρ,rfl,hp⟩
 | cons d ds ih=>
  intro j ρ hp st;rcases st 0 d ρ rfl hp with⟨ρ2,e,hp2⟩ | ⟨r,e,hq⟩
  ·have e3:loop g b (d::ds) ρ=loop g b ds ρ2:=by
    rw[loop]
    cases hg:g d ρ with
    | no=>rw[hg] at e;cases e
    | err c=>rw[hg] at e;cases e
    | ok ρ1=>
     rw[hg] at e;have e2:b ρ1=.ok (.nx ρ2):=e;simp only[Res.bind,e2]
   rw[e3]
   rcases ih (j+1) ρ2 hp2 (fun i d' ρ' hd hp=>by
    have:=st (i+1) d' ρ' (by simpa using hd) (by rw[show j+(i+1)=j+1+i by omega];exact hp)
    rw[show j+(i+1)=j+1+i by omega] at this
    exact this) with⟨ρ',e',hp'⟩ | h
   ·exact .inl ⟨ρ',e',by rw[Qn,show j+(ds.length+1)=j+1+ds.length by omega];exact hp'⟩
   ·exact .inr h
  ·refine .inr ⟨r,?_,hq⟩
   rw[loop]
   cases hg:g d ρ with
   | no=>rw[hg] at e;cases e
   | err c=>rw[hg] at e;cases e
   | ok ρ1=>
    rw[hg] at e;have e2:b ρ1=.ok (.ret r):=e;simp only[Res.bind,e2]
def zSz(ds:List D):D->Res (List D)
 | .int k=>if 0<=k/\k<2^62/\ds.length*k.toNat<=16777216 then .ok (List.replicate k.toNat ds).flatten else .no
 | _=>.no
def repF(g:Ev)(ρ:Rho)(ds:List D):Res (List D):=(g ρ).bind (zSz ds)
def fRep_at{f:Fv}{g:Ev}{ρ:Rho}:zNX f g ρ=(f ρ).bind (repF g ρ):=by
 unfold zNX repF;congr
def zFO{d:D}{k:Nat}(h:k<=16777216):zSz [d] (.int (k:Int))=.ok (List.replicate k d):=by
 have e:∀ n,(List.replicate n [d]).flatten=List.replicate n d:=by
  intro n
  induction n with
  | zero=>rfl
  | succ n ih=>rw[Xt,X7,ih];rfl
 unfold zSz;dsimp only
 rw[Jk ⟨by omega,by omega,by simp only[Qn,Yc,Xf];omega⟩,Xf,e]
def zRr(x:D)(l h:Option Int)(c:D):Res (List D):=match x,c with
 | .lst ds,.int c=>if c=0 then .no else .ok (zFY ds l h c)
 | _,_=>.no
def fSl3H(st:Ev)(ρ:Rho)(x:D)(l h:Option Int):Res (List D):=(st ρ).bind (zRr x l h)
def fSl3G(hi:Ov)(st:Ev)(ρ:Rho)(x:D)(l:Option Int):Res (List D):=(hi ρ).bind (fSl3H st ρ x l)
def fSl3F(lo hi:Ov)(st:Ev)(ρ:Rho)(x:D):Res (List D):=(lo ρ).bind (fSl3G hi st ρ x)
def fSl3_at{a:Ev}{lo hi:Ov}{st:Ev}{ρ:Rho}:zSh a lo hi st ρ=(a ρ).bind (fSl3F lo hi st ρ):=by
 unfold zSh fSl3F fSl3G fSl3H;congr
def fSl3I_i{ds:List D}{l h:Option Int}{c:Int}(h0:c≠0):zRr (.lst ds) l h (.int c)=.ok (zFY ds l h c):=Jl h0
def zIR{r:Type}{u:r->D}{f:Ev}{ρ:Rho}{g:r->D}:∀ {l:List r},(∀ a∈l,f (ρ++[.val (u a)])=.ok (g a))->gH iK f ρ (l.map u)=.ok (l.map g)
 | [],_=>rfl
 | a::l,h=>by
  rw[Qo,gH,h a Qb];simp only[iK,noErr,Res.bind,if_true];rw[zIR fun b hb=>h b (Qd _ hb)];rfl
def eX{r:Type}{u:r->D}{f:Ev}{ρ:Rho}{g:r->D}{l:List r}(hl:l.length<=16777215)(h:∀ a∈l,f (ρ++[.val (u a)])=.ok (g a)):zBM iK f ρ (l.map u)=.ok (l.map g):=by
 unfold zBM;rw[Jk (by rw[Qe];exact hl),zIR h]
def bSum_l{ns:List Int}:zDj [.lst (ns.map D.int)]=.ok (.int ns.sum):=by
 have e:∀ ns:List Int,oM (ns.map D.int)=some ns:=by
  intro ns
  induction ns with
  | nil=>rfl
  | cons i ns ih=>rw[Qo,oM,ih]
 show(match oM (ns.map D.int) with | some ns=>Res.ok (D.int ns.sum) | none=>.no)=_
 rw[e]
def bSum_t{ns:List Int}:zDj [.tup (ns.map D.int)]=.ok (.int ns.sum):=by
 have e:∀ ns:List Int,oM (ns.map D.int)=some ns:=by
  intro ns
  induction ns with
  | nil=>rfl
  | cons i ns ih=>rw[Qo,oM,ih]
 show(match oM (ns.map D.int) with | some ns=>Res.ok (D.int ns.sum) | none=>.no)=_
 rw[e]
def slI(i:Nat)(ρ:Rho):Int:=match ρ[i]? with
 | some (.val (.int x))=>x
 | _=>0
def chO_s{c:Nat}:chO (some c)=.ok (.str ⟨#[c]⟩):=rfl
def zRO{x:Str}:dep (.str x)<=50:=by simp[dep]
def oEq_s{x y:Str}:oEq (.str x) (.str y)=.ok (.bl (x==y)):=by
 unfold oEq;rw[Jk zRO,eqD]
def oNe_s{x y:Str}:oNe (.str x) (.str y)=.ok (.bl (!(x==y))):=by
 unfold oNe;rw[Jk zRO,eqD]
def cY{g:Gv}{b:Sv}{d:D}{ds:List D}{ρ ρ1 ρ2:Rho}(hg:g d ρ=.ok ρ1)(hb:b ρ1=.ok (.nx ρ2)):loop g b (d::ds) ρ=loop g b ds ρ2:=by
 rw[loop];simp only[hg,Res.bind,hb]
def zHj{g:Gv}{b:Sv}{d:D}{ds:List D}{ρ ρ1:Rho}{r:Rt}(hg:g d ρ=.ok ρ1)(hb:b ρ1=.ok (.ret r)):loop g b (d::ds) ρ=.ok (.ret r):=by
 rw[loop];simp only[hg,Res.bind,hb]
def oTabNot_s{T:List (Str×Str)}{x:Str}:sG T (.str x)=.ok (.bl (!(T.lookup x).isSome)):=rfl
def zCY{r:Type}(p:r->Int):∀ l:List r,oM (l.map fun a=>D.int (p a))=some (l.map p)
 | []=>rfl
 | a::l=>by rw[Qo,oM,zCY p l];rfl
def mx0:List Int->Int
 | []=>0
 | a::r=>zAq a r
def zKa{s:Type}{p:s->Int}{l:List s}:zDu [.lst (l.map fun a=>D.int (p a)),.int 0]=.ok (.int (mx0 (l.map p))):=by
 show(match oM (l.map fun a=>D.int (p a)) with | some (a::r)=>Res.ok (D.int (zAq a r)) | some []=>.ok (.int 0) | none=>.no)=_
 rw[zCY];cases l<;>rfl
def zTI:List D->Res (List D)
 | [x,y]=>match zKn x,zKn y with
  | some xs,some ys=>.ok (kL xs ys)
  | _,_=>.no
 | _=>.no
def iZip_at{a:Fv}{ρ:Rho}:zMm a ρ=(a ρ).bind zTI:=by
 unfold zMm;congr
def pD{x y:D}{xs ys:List D}(hx:zKn x=some xs)(hy:zKn y=some ys):zTI [x,y]=.ok (kL xs ys):=by
 show(match zKn x,zKn y with | some xs,some ys=>Res.ok (kL xs ys) | _,_=>.no)=_
 rw[hx,hy]
def zNj:D->Res (List D)
 | .lst ds=>.ok (pY 0 ds)
 | .tup ds=>.ok (pY 0 ds)
 | _=>.no
def enumF_t{ds:List D}:zNj (.tup ds)=.ok (pY 0 ds):=rfl
def enumF_l{ds:List D}:zNj (.lst ds)=.ok (pY 0 ds):=rfl
def iEnum_at{e:Ev}{ρ:Rho}:zLA e ρ=(e ρ).bind zNj:=by
 unfold zLA;congr
def zJy(f:Ev)(ρ:Rho)(ds:List D):Res (List D):=if ds.length<=16777215 then gD f ρ ds else .no
def fComp2_at{it:Fv}{f:Ev}{ρ:Rho}:vO it f ρ=(it ρ).bind (zJy f ρ):=rfl
def zFa{r s:Type}{u:r->D}{v:s->D}{f:Ev}{ρ:Rho}{g:r->s->D}:∀ {l:List r} {m:List s},(∀ p∈l.zip m,f (ρ++[.val (u p.1),.val (v p.2)])=.ok (g p.1 p.2))->
  gD f ρ (kL (l.map u) (m.map v))=.ok ((l.zip m).map fun p=>g p.1 p.2)
 | [],m,h=>by cases m<;>rfl
 | a::l,[],h=>rfl
 | a::l,b::m,h=>by
  have h1:=h (a,b) Qb;have h2:=zFa (l:=l) (m:=m) (u:=u) (v:=v) (g:=g) fun p hp=>h p (Qd _ hp)
  show(noErr (f (ρ++[.val (u a),.val (v b)]))).bind (fun e=>(gD f ρ (kL (l.map u) (m.map v))).bind fun es=>.ok (e::es))=_
  rw[h1,h2];rfl
def mW{r s:Type}{u:r->D}{v:s->D}{f:Ev}{ρ:Rho}{g:r->s->D}{l:List r}{m:List s}(hl:l.length<=16777215)(h:∀ p∈l.zip m,f (ρ++[.val (u p.1),.val (v p.2)])=.ok (g p.1 p.2)):
  zJy f ρ (kL (l.map u) (m.map v))=.ok ((l.zip m).map fun p=>g p.1 p.2):=by
 unfold zJy;rw[Jk,zFa h]
 have:∀(a b:List D),(kL a b).length<=a.length:=by
  intro a
  induction a with
  | nil=>intro b;cases b<;>exact Qf _
  | cons x a ih=>intro b;cases b with
   | nil=>exact Vl _
   | cons y b=>exact Y8 (ih b)
 exact Q5 (this _ _) (by rw[Qe];exact hl)
end L3
namespace Ln
open Fq
abbrev Pt:=Rat×Rat
def asc(a b:Pt):Prop:=a.1<b.1/\a.2<=b.2
def btw(a b c:Pt):Bool:=decide ((b.2-a.2)*(c.1-b.1)=(c.2-b.2)*(b.1-a.1))
def push:List Pt->Pt->List Pt
 | b::a::s,c=>if btw a b c=true then c::a::s else c::b::a::s
 | s,c=>c::s
def zGU{s:List Pt}{c:Pt}(h:¬ 1<s.length):push s c=c::s:=by
 match s,h with
 | [],_=>rfl
 | [b],_=>rfl
 | b::a::s,h=>exact absurd (show 1<s.length+2 by omega) h
def mH(ps:List Pt):List Pt:=(ps.foldl push []).reverse
def few:Pt->List Pt->List Pt
 | _,[]=>[]
 | _,[b]=>[b]
 | a,b::c::r=>if btw a b c=true then few b (c::r) else b::few b (c::r)
def zCk:List Pt->List Pt
 | []=>[]
 | a::r=>a::few a r
def dir(a p b:Pt):Prop:=a.1<b.1/\p.1<b.1/\(b.2-a.2)*(b.1-p.1)=(b.2-p.2)*(b.1-a.1)
def jH{x a b:Rat}(h:x≠0)(e:a*x=b*x):a=b:=by
 have:a*x*x⁻¹=b*x*x⁻¹:=by rw[e]
 rw[Rat.mul_assoc,Rat.mul_assoc,Xb _ h,Rat.mul_one,Rat.mul_one] at this;exact this
def vK{a p b c:Pt}(h:dir a p b):btw a b c=btw p b c:=by
 obtain⟨h1,h2,h3⟩:=h;unfold btw;have n1:b.1-a.1≠0:=by grind
 have n2:b.1-p.1≠0:=by grind
 congr 1
 apply propext
 constructor
 ·intro e
  refine jH n1 ?_
  grind
 ·intro e
  refine jH n2 ?_
  grind
def zDz{a b c:Pt}(h:a.1<b.1)(k:b.1<c.1)(e:btw a b c=true):dir a b c:=by
 have e:=J8 e;refine⟨by grind,k,?_⟩
 grind
def zAh:∀(r:List Pt)(p b a:Pt)(s:List Pt),dir a p b->(b::r).Pairwise asc->(r.foldl push (b::a::s)).reverse=(a::s).reverse++few p (b::r)
 | [],p,b,a,s,_,_=>by simp[few]
 | c::r,p,b,a,s,h,hp=>by
  have hbc:asc b c:=(Qp.mp hp).1 c Qb;have hr:=(Qp.mp hp).2;rw[U1,push,few,vK h];by_cases e:btw p b c=true
  ·rw[Jk e,Jk e]
   exact zAh r b c a s (zDz h.1 hbc.1 (by rw[vK h];exact e)) hr
  ·rw[Jl e,Jl e,zAh r b c b (a::s) ⟨hbc.1,hbc.1,rfl⟩ hr]
   simp
def qO{ps:List Pt}(h:ps.Pairwise asc):mH ps=zCk ps:=by
 unfold mH
 match ps,h with
 | [],_=>rfl
 | [a],_=>rfl
 | a::b::r,h=>
  have hab:=(Qp.mp h).1 b Qb;show(r.foldl push [b,a]).reverse=_
  rw[zAh r a b a [] ⟨hab.1,hab.1,rfl⟩ (Qp.mp h).2];rfl
def zDN:∀(r:List Pt)(a:Pt),(few a r).Sublist r
 | [],_=>List.Sublist.slnil
 | [b],_=>List.Sublist.refl _
 | b::c::r,a=>by
  rw[few];split
  ·exact(zDN (c::r) b).cons b
  ·exact(zDN (c::r) b).cons₂ b
def yM(ps:List Pt):(zCk ps).Sublist ps:=by
 cases ps with
 | nil=>exact List.Sublist.slnil
 | cons a r=>exact(zDN r a).cons₂ a
def zEP:∀(r:List Pt)(a:Pt),(few a r).getLast?=r.getLast?
 | [],_=>rfl
 | [b],_=>rfl
 | b::c::r,a=>by
  have ih:=zEP (c::r) b;rw[few];split
  ·rw[ih];rfl
  ·rw[Yd,ih]
   simp[Yd]
def zDU(ps:List Pt):(zCk ps).getLast?=ps.getLast?:=by
 cases ps with
 | nil=>rfl
 | cons a r=>rw[zCk,Yd,zEP,Yd]
def zKt:List Pt->Prop
 | a::b::c::r=>btw a b c=false/\zKt (b::c::r)
 | _=>True
def zFq:∀(r:List Pt)(p b:Pt),(p::b::r).Pairwise asc->∃ d t,few p (b::r)=d::t/\b.1<=d.1/\(d.2-p.2)*(b.1-p.1)=(b.2-p.2)*(d.1-p.1)
 | [],p,b,_=>⟨b,[],rfl,Qg,rfl⟩
 | c::r,p,b,h=>by
  have h1:=Qp.mp h;have h2:=Qp.mp h1.2;have pb:=h1.1 b Qb;have bc:=h2.1 c Qb;rw[few];by_cases e:btw p b c=true
  ·rw[Jk e]
   obtain⟨d,t,e1,l,e2⟩:=zFq r b c h1.2;have e3:=J8 e;refine⟨d,t,e1,by grind [asc],?_⟩
   have n:c.1-b.1≠0:=by grind [asc]
   refine jH n ?_
   have e4:(d.2-b.2)*(b.1-p.1)=(b.2-p.2)*(d.1-b.1):=by
    refine jH n ?_
    grind
   grind
  ·rw[Jl e]
   exact⟨b,_,rfl,Qg,rfl⟩
def zBf:∀(r:List Pt)(a p b:Pt),dir a p b->(b::r).Pairwise asc->(p::b::r).Pairwise asc->zKt (a::few p (b::r))
 | [],a,p,b,_,_,_=>by simp[few,zKt]
 | c::r,a,p,b,h,hb,hp=>by
  have bc:=(Qp.mp hb).1 c Qb;have hc:=(Qp.mp hb).2;rw[few];by_cases e:btw p b c=true
  ·rw[Jk e]
   exact zBf r a b c (zDz h.1 bc.1 (by rw[vK h];exact e)) hc hb
  ·rw[Jl e]
   have ih:=zBf r b b c ⟨bc.1,bc.1,rfl⟩ hc hb;obtain⟨d,t,e1,l,e2⟩:=zFq r b c hb;rw[e1] at ih ⊢
   refine⟨?_,ih⟩
   rw[vK h];rw[Bool.eq_false_iff];intro z;apply e
   have z:=J8 z;refine J6 ?_
   have n:d.1-b.1≠0:=by grind [asc]
   refine jH n ?_
   grind
def zEn{ps:List Pt}(h:ps.Pairwise asc):zKt (zCk ps):=by
 match ps,h with
 | [],_=>trivial
 | [a],_=>trivial
 | a::b::r,h=>
  have hab:=(Qp.mp h).1 b Qb;exact zBf r a a b ⟨hab.1,hab.1,rfl⟩ (Qp.mp h).2 h
def Ok(ps:List Pt):Prop:=ps.head?=some (0,0)/\ps.Pairwise asc
def zNd(ps:List Pt):Prop:=Ok ps/\zKt ps
def lF{ps:List Pt}(h:Ok ps):zNd (mH ps):=by
 rw[qO h.2];refine⟨⟨?_,h.2.sublist (yM ps)⟩,zEn h.2⟩
 obtain⟨h,_⟩:=h
 cases ps with
 | nil=>cases h
 | cons a r=>exact h
def kW{ps:List Pt}(h:ps.Pairwise asc){i j:Nat}{a b:Pt}(l:i<j)(ha:ps[i]?=some a)(hb:ps[j]?=some b):asc a b:=by
 obtain⟨hi,rfl⟩:=Qy.mp ha;obtain⟨hj,rfl⟩:=Qy.mp hb;exact Y9.mp h i j hi hj l
def lt_iff{p q:Rat}:p.num*q.den<q.num*p.den ↔ p<q:=Rat.lt_iff p q |>.symm
def itp(p q:Pt)(x:Rat):Rat:=p.2+(x-p.1) / (q.1-p.1)*(q.2-p.2)
def aP:List Pt->Rat->Rat
 | [],_=>0
 | [p],_=>p.2
 | p::q::r,x=>if x<=q.1 then itp p q x else aP (q::r) x
def zNO(p q:Pt):itp p q p.1=p.2:=by
 unfold itp;rw[Rat.sub_self,Vd,Wc,Wc,Rat.add_zero]
def zOX{p q:Pt}(h:p.1<q.1):itp p q q.1=q.2:=by
 unfold itp;have n:q.1-p.1≠0:=by grind
 rw[Vd,Xb _ n,Rat.one_mul];grind
def bN:∀ {ps:List Pt},ps.Pairwise asc->∀ {i:Nat} {p:Pt},ps[i]?=some p->aP ps p.1=p.2
 | [],_,i,p,hp=>by cases hp
 | [a],_,i,p,hp=>by
  cases i with
  | zero=>cases hp;rfl
  | succ i=>cases hp
 | a::b::r,h,i,p,hp=>by
  have hab:=(Qp.mp h).1 b Qb;rw[aP]
  match i,hp with
  | 0,hp=>
   cases hp;rw[Jk (Qh hab.1),zNO]
  | 1,hp=>
   cases hp;rw[Jk Qg,zOX hab.1]
  | i+2,hp=>
   have hb:asc b p:=kW h (show 1<i+2 by omega) rfl hp
   rw[Jl (by have:=hb.1;grind)];exact bN (Qp.mp h).2 (i:=i+1) hp
def cK:∀ {ps:List Pt},ps.Pairwise asc->∀ {i:Nat} {p q:Pt} {x:Rat},ps[i]?=some p->ps[i+1]?=some q->p.1<=x->x<=q.1->aP ps x=itp p q x
 | [],_,i,p,q,x,hp,_,_,_=>by cases hp
 | [a],_,i,p,q,x,hp,hq,_,_=>by cases hq
 | a::b::r,h,i,p,q,x,hp,hq,h1,h2=>by
  have hab:=(Qp.mp h).1 b Qb
  cases i with
  | zero=>
   cases hp;cases hq;rw[aP,Jk h2]
  | succ i=>
   have hr:=(Qp.mp h).2;by_cases c:x=p.1
   ·subst c
    rw[zNO];exact bN h hp
   ·rw[aP,Jl]
    ·exact cK hr (i:=i) hp hq h1 h2
    ·intro z
     cases i with
     | zero=>
      cases hp;exact c (by grind)
     | succ i=>
      have hb:asc b p:=kW h (show 1<i+1+1 by omega) rfl hp
      have:=hb.1
      grind
def ax:Bool->Pt->Rat
 | false,p=>p.1
 | true,p=>p.2
def axi:Bool->Int
 | false=>0
 | true=>1
def kK{ps:List Pt}(h:ps.Pairwise asc)(b:Bool){i j:Nat}{p q:Pt}(l:i<=j)(hp:ps[i]?=some p)(hq:ps[j]?=some q):ax b p<=ax b q:=by
 rcases Yf l with l | l
 ·have:=kW h l hp hq
  cases b
  ·exact Qh this.1
  ·exact this.2
 ·subst l
  rw[hp] at hq;cases hq;exact Qg
def wB:∀ {ps:List Pt} {e:Pt} {x:Rat},ps.Pairwise asc->ps.getLast?=some e->(∀ p,ps.head?=some p->p.1<=x)->x<=e.1->
  (∃(i:Nat)(p:Pt),ps[i]?=some p/\p.1=x)∨∃(i:Nat)(p q:Pt),ps[i]?=some p/\ps[i+1]?=some q/\p.1<x/\x<q.1
 | [],e,x,_,he,_,_=>by cases he
 | [a],e,x,_,he,h0,h1=>by
  cases he;have:=h0 a rfl
  exact .inl ⟨0,a,rfl,by grind⟩
 | a::b::r,e,x,h,he,h0,h1=>by
  have ha:=h0 a rfl;by_cases c:a.1=x
  ·exact .inl ⟨0,a,rfl,c⟩
  by_cases d:x<b.1
  ·exact .inr ⟨0,a,b,rfl,rfl,by grind,d⟩
  ·rcases wB (Qp.mp h).2 (by rw[<-he];simp[Yd]) (fun p hp=>by cases hp;grind) h1 with⟨i,p,h2,h3⟩ | ⟨i,p,q,h2,h3,h4⟩
   ·exact .inl ⟨i+1,p,h2,h3⟩
   ·exact .inr ⟨i+1,p,q,h2,h3,h4⟩
def zAm{p q:Pt}(h:asc p q){x y:Rat}(l:x<=y):itp p q x<=itp p q y:=by
 unfold itp;have n:0<(q.1-p.1)⁻¹:=Rat.inv_pos.mpr (by have:=h.1;grind)
 rw[Vd,Vd];have m1:(x-p.1)*(q.1-p.1)⁻¹<=(y-p.1)*(q.1-p.1)⁻¹:=Vs (by grind) (Qh n)
 have m2:=Vs m1 (show 0<=q.2-p.2 by have:=h.2;grind)
 grind
def sA{p q:Pt}(h:asc p q){x:Rat}(h1:p.1<=x)(h2:x<=q.1):p.2<=itp p q x/\itp p q x<=q.2:=by
 have a:=zAm h h1;have b:=zAm h h2;rw[zNO] at a;rw[zOX h.1] at b;exact⟨a,b⟩
def gW{ps:List Pt}{e:Pt}(h:Ok ps)(he:ps.getLast?=some e){x y:Rat}(h0:0<=x)(l:x<=y)(h1:y<=e.1):aP ps x<=aP ps y:=by
 obtain⟨hh,hp⟩:=h;have hd:∀ z,0<=z->∀ p,ps.head?=some p->p.1<=z:=fun z hz p hp=>by rw[hh] at hp;cases hp;exact hz
 have key:∀ {i j:Nat} {p q:Pt},i<=j->ps[i]?=some p->ps[j]?=some q->p.2<=q.2:=fun l hp' hq'=>kK hp true l hp' hq'
 have kx:∀ {i j:Nat} {p q:Pt},ps[i]?=some p->ps[j]?=some q->p.1<q.1->i<j:=by
  intro i j p q hp' hq' l;rcases Nat.lt_or_ge i j with g | g
  ·exact g
  ·have:=kK hp false g hq' hp'
   exact absurd (show q.1<=p.1 from this) (by grind)
 rcases wB hp he (hd x h0) (by grind) with⟨i,p,ip,ep⟩ | ⟨i,p,q,ip,iq,lp,lq⟩
 ·rcases wB hp he (hd y (by grind)) h1 with⟨j,u,ju,eu⟩ | ⟨j,u,v,ju,jv,lu,lv⟩
  ·rw[<-ep,<-eu,bN hp ip,bN hp ju]
   by_cases c:p.1=u.1
   ·have a1:=bN hp ip
    have a2:=bN hp ju;rw[c,a2] at a1;rw[a1];exact Qg
   ·exact key (Xj (kx ip ju (by grind))) ip ju
  ·rw[<-ep,bN hp ip,cK hp ju jv (Qh lu) (Qh lv)]
   have huv:=kW hp (Vy j) ju jv;have b:=sA huv (Qh lu) (Qh lv);have:i<j+1:=kx ip jv (by grind)
   have:=key (show i<=j by omega) ip ju
   grind
 ·rcases wB hp he (hd y (by grind)) h1 with⟨j,u,ju,eu⟩ | ⟨j,u,v,ju,jv,lu,lv⟩
  ·rw[<-eu,bN hp ju,cK hp ip iq (Qh lp) (Qh lq)]
   have hpq:=kW hp (Vy i) ip iq;have b:=sA hpq (Qh lp) (Qh lq);have:i<j:=kx ip ju (by grind)
   have:=key (show i+1<=j by omega) iq ju
   grind
  ·rw[cK hp ip iq (Qh lp) (Qh lq),cK hp ju jv (Qh lu) (Qh lv)]
   have hpq:=kW hp (Vy i) ip iq;have huv:=kW hp (Vy j) ju jv;have g1:i<j+1:=kx ip jv (by grind)
   rcases Yf (show i<=j by omega) with g | g
   ·have b1:=sA hpq (Qh lp) (Qh lq)
    have b2:=sA huv (Qh lu) (Qh lv);have:=key (show i+1<=j by omega) iq ju
    grind
   ·subst g
    rw[ip] at ju;rw[iq] at jv;cases ju;cases jv;exact zAm hpq l
def uI{ps:List Pt}{e:Pt}(h:Ok ps)(he:ps.getLast?=some e){x:Rat}(h0:0<=x)(h1:x<=e.1):0<=aP ps x/\aP ps x<=e.2:=by
 have z:aP ps 0=0:=bN h.2 (i:=0) (p:=(0,0)) (by rw[<-Xw];exact h.1)
 have t:aP ps e.1=e.2:=bN h.2 (i:=ps.length-1) (by rw[<-Vn];exact he)
 have e0:0<=e.1:=by grind
 have a:=gW h he (Qg) h0 h1;have b:=gW h he h0 h1 Qg;grind
def zGg{a b c:Pt}(h1:a.1<b.1)(h2:b.1<c.1)(e:btw a b c=true):(b.2-a.2) / (b.1-a.1)=(c.2-a.2) / (c.1-a.1)/\(c.2-b.2) / (c.1-b.1)=(c.2-a.2) / (c.1-a.1):=by
 have e:=J8 e;have n1:b.1-a.1≠0:=by grind
 have n2:c.1-b.1≠0:=by grind
 have n3:c.1-a.1≠0:=by grind
 have i1:=Xb _ n1;have i2:=Xb _ n2;have i3:=Xb _ n3;rw[Vd,Vd,Vd];constructor
 ·refine jH n1 (jH n3 ?_)
  grind
 ·refine jH n2 (jH n3 ?_)
  grind
def dX(p q:Pt)(x:Rat):itp p q x=p.2+(x-p.1)*((q.2-p.2) / (q.1-p.1)):=by
 unfold itp;rw[Vd,Vd];grind
def zKA{a b c:Pt}(h1:a.1<b.1)(h2:b.1<c.1)(e:btw a b c=true)(x:Rat):itp a b x=itp a c x/\itp b c x=itp a c x:=by
 obtain⟨s1,s2⟩:=zGg h1 h2 e;rw[dX,dX,dX,s1,s2];refine⟨rfl,?_⟩
 have n1:b.1-a.1≠0:=by grind
 have i1:=Xb _ n1;rw[<-s1,Vd];generalize (b.1-a.1)⁻¹=u at i1;grind
def zLh{a b c:Pt}{r:List Pt}(h1:a.1<b.1)(h2:b.1<c.1)(e:btw a b c=true)(x:Rat):aP (a::b::c::r) x=aP (a::c::r) x:=by
 obtain⟨e1,e2⟩:=zKA h1 h2 e x;rw[aP,aP,aP,e1,e2];by_cases c1:x<=b.1
 ·rw[Jk c1,Jk (by grind)]
 ·rw[Jl c1]
def zDZ:∀(r:List Pt)(a p b:Pt)(x:Rat),dir a p b->(b::r).Pairwise asc->aP (a::few p (b::r)) x=aP (a::b::r) x
 | [],a,p,b,x,_,_=>rfl
 | c::r,a,p,b,x,h,hb=>by
  have bc:=(Qp.mp hb).1 c Qb;have hc:=(Qp.mp hb).2;rw[few];by_cases e:btw p b c=true
  ·have e':btw a b c=true:=by rw[vK h];exact e
   rw[Jk e,zDZ r a b c x (zDz h.1 bc.1 e') hc,zLh h.1 bc.1 e']
  ·show _=(if x<=b.1 then itp a b x else aP (b::c::r) x)
   rw[Jl e,aP,zDZ r b b c x ⟨bc.1,bc.1,rfl⟩ hc]
def yS{ps:List Pt}(h:ps.Pairwise asc)(x:Rat):aP (mH ps) x=aP ps x:=by
 rw[qO h]
 match ps,h with
 | [],_=>rfl
 | [a],_=>rfl
 | a::b::r,h=>
  have hab:=(Qp.mp h).1 b Qb;exact zDZ r a a b x ⟨hab.1,hab.1,rfl⟩ (Qp.mp h).2
def vE{ps:List Pt}(h:ps.Pairwise asc):(mH ps).getLast?=ps.getLast?:=by rw[qO h,zDU]
def oA{ps:List Pt}(h:ps.Pairwise asc):(mH ps).Sublist ps:=by rw[qO h];exact yM ps
def zHZ{C:List Rat}(h:C.Pairwise (· < ·))(h0:(0:Rat)∈C)(hn:∀ x∈C,0<=x):C.head?=some 0:=by
 cases C with
 | nil=>cases h0
 | cons a C=>
  rcases Qc.mp h0 with e | e
  ·rw[<-e];rfl
  ·have h1:=(Qp.mp h).1 0 e
   have h2:=hn a Qb;grind
def zNJ{C:List Rat}{e L:Rat}(h:C.Pairwise (· < ·))(he:C.getLast?=some e)(hL:L∈C)(hn:∀ x∈C,x<=L):e=L:=by
 obtain⟨j,hj⟩:=Yg.mp hL;rw[Vn] at he;have hjl:=(Qy.mp hj).1;have h1:=hn e (Qj he);rcases Yf (show j<=C.length-1 by omega) with l | l
 ·obtain⟨hi,e1⟩:=Qy.mp hj
  obtain⟨hi2,e2⟩:=Qy.mp he;have:=Y9.mp h j (C.length-1) hi hi2 l
  rw[e1,e2] at this;grind
 ·subst l
  rw[he] at hj;cases hj;rfl
def zEf{ps:List Pt}(h:ps.Pairwise asc):(ps.map Prod.fst).Pairwise (· < ·):=Xx.mpr (h.imp fun a=>a.1)
def dR{ps:List Pt}{e p:Pt}(h:Ok ps)(he:ps.getLast?=some e)(hp:p∈ps):0<=p.1/\p.1<=e.1/\0<=p.2/\p.2<=e.2:=by
 obtain⟨i,hi⟩:=Yg.mp hp;have hil:=(Qy.mp hi).1;have h0:ps[0]?=some (0,0):=by rw[<-Xw];exact h.1
 rw[Vn] at he;have a1:(0:Rat)<=p.1:=kK h.2 false (Vl i) h0 hi;have a2:(0:Rat)<=p.2:=kK h.2 true (Vl i) h0 hi;have b1:p.1<=e.1:=kK h.2 false (show i<=ps.length-1 by omega) hi he
 have b2:p.2<=e.2:=kK h.2 true (show i<=ps.length-1 by omega) hi he
 exact⟨a1,b1,a2,b2⟩
def zZ{ps:List Pt}{e:Pt}{a b x:Rat}(h:Ok ps)(he:ps.getLast?=some e)(h0:0<=a)(hab:a<b)(hb:b<=e.1)(hno:∀ p∈ps,a<p.1->b<=p.1)(hx:a<=x)(xb:x<=b):
  (aP ps x-aP ps a)*(b-a)=(aP ps b-aP ps a)*(x-a):=by
 have key:∃(i:Nat)(p q:Pt),ps[i]?=some p/\ps[i+1]?=some q/\p.1<=a/\b<=q.1:=by
  rcases wB h.2 he (fun p hp=>by rw[h.1] at hp;cases hp;exact h0) (show a<=e.1 by grind) with⟨i,p,ip,ep⟩ | ⟨i,p,q,ip,iq,lp,lq⟩
  ·have hi:=(Qy.mp ip).1
   have hl:i+1<ps.length:=by
    rcases Nat.lt_or_ge (i+1) ps.length with l | l
    ·exact l
    ·rw[Vn,show ps.length-1=i by omega,ip] at he
     cases he;grind
   have iq:ps[i+1]?=some ps[i+1]:=Qq hl;have:=(kW h.2 (Vy i) ip iq).1
   exact⟨i,p,ps[i+1],ip,iq,by grind,hno _ (Qj iq) (by grind)⟩
  ·exact⟨i,p,q,ip,iq,Qh lp,hno _ (Qj iq) lq⟩
 obtain⟨i,p,q,ip,iq,l1,l2⟩:=key;rw[cK h.2 ip iq l1 (by grind),cK h.2 ip iq (show p.1<=x by grind) (by grind),cK h.2 ip iq (show p.1<=b by grind) l2];rw[dX,dX,dX];grind
def rZ(ps qs:List Pt)(C:List Rat):List Pt:=C.map fun t=>(t,aP ps (aP qs t))
structure Joints (ps qs:List Pt) (f:Pt) (C:List Rat):Prop where
 asc:C.Pairwise (· < ·)
 own:∀ q∈qs,q.1∈C
 hit:∀ p∈ps,∃ t∈C,aP qs t=p.1
 bd:∀ t∈C,0<=t/\t<=f.1
def zED{ps qs:List Pt}{e f:Pt}{C:List Rat}(hp:Ok ps)(hq:Ok qs)(he:ps.getLast?=some e)(hf:qs.getLast?=some f)(hL:e.1=f.2)(J:Joints ps qs f C):
  Ok (rZ ps qs C)/\(rZ ps qs C).getLast?=some (f.1,e.2):=by
 have z0:(0:Rat)∈C:=J.own (0,0) (List.mem_of_mem_head? (by rw[hq.1];rfl))
 have zL:f.1∈C:=J.own f (Wd hf);have v0:∀ {ls:List Pt},Ok ls->aP ls 0=0:=fun {ls} h=>bN h.2 (i:=0) (p:=(0,0)) (by rw[<-Xw];exact h.1)
 have vL:∀ {ls:List Pt} {u:Pt},Ok ls->ls.getLast?=some u->aP ls u.1=u.2:=fun {ls u} h hu=>bN h.2 (i:=ls.length-1) (by rw[<-Vn];exact hu)
 refine⟨⟨?_,?_⟩,?_⟩
 ·unfold rZ
  rw[Yz,zHZ J.asc z0 fun x hx=>(J.bd x hx).1];show some (0,aP ps (aP qs 0))=_
  rw[v0 hq,v0 hp]
 ·unfold rZ
  refine Xx.mpr (Yo ?_ J.asc)
  intro a b ha hb hab;have b1:=uI hq hf (J.bd a ha).1 (J.bd a ha).2;have b2:=uI hq hf (J.bd b hb).1 (J.bd b hb).2;exact⟨hab,gW hp he b1.1 (gW hq hf (J.bd a ha).1 (Qh hab) (J.bd b hb).2) (by rw[hL];exact b2.2)⟩
 ·unfold rZ
  rw[Xy]
  cases hc:C.getLast? with
  | none=>rw[List.getLast?_eq_none_iff] at hc;rw[hc] at z0;cases z0
  | some u=>
   have:u=f.1:=zNJ J.asc hc zL fun x hx=>(J.bd x hx).2
   subst this;show some (f.1,aP ps (aP qs f.1))=_
   rw[vL hq hf,<-hL,vL hp he]
def zIU{ps qs:List Pt}{e f:Pt}{C:List Rat}(hp:Ok ps)(hq:Ok qs)(he:ps.getLast?=some e)(hf:qs.getLast?=some f)(hL:e.1=f.2)(J:Joints ps qs f C){x:Rat}(h0:0<=x)(h1:x<=f.1):
  aP (rZ ps qs C) x=aP ps (aP qs x):=by
 obtain⟨ok,la⟩:=zED hp hq he hf hL J
 have at':∀ {i:Nat} {u:Pt},(rZ ps qs C)[i]?=some u->C[i]?=some u.1/\u.2=aP ps (aP qs u.1):=by
  intro i u hu;unfold rZ at hu;rw[Qu] at hu
  cases hc:C[i]? with
  | none=>rw[hc] at hu;cases hu
  | some c=>rw[hc] at hu;cases hu;exact⟨rfl,rfl⟩
 rcases wB ok.2 la (fun p hp=>by rw[ok.1] at hp;cases hp;exact h0) h1 with⟨i,u,iu,eu⟩ | ⟨i,u,v,iu,iv,lu,lv⟩
 ·obtain⟨_,e2⟩:=at' iu
  rw[<-eu,bN ok.2 iu,e2]
 ·obtain⟨c1,e1⟩:=at' iu
  obtain⟨d1,e2⟩:=at' iv;rw[cK ok.2 iu iv (Qh lu) (Qh lv)];have hC:=J.asc
  have out:∀ t∈C,t<=u.1∨v.1<=t:=by
   intro t ht;obtain⟨j,hj⟩:=Yg.mp ht
   have lt:∀ {i j:Nat} {a b:Rat},i<j->C[i]?=some a->C[j]?=some b->a<b:=by
    intro i j a b l ha hb;obtain⟨hi,rfl⟩:=Qy.mp ha;obtain⟨hj,rfl⟩:=Qy.mp hb;exact Y9.mp hC i j hi hj l
   rcases We j i with l | l | l
   ·exact .inl (Qh (lt l hj c1))
   ·subst l;rw[hj] at c1;cases c1;exact .inl Qg
   ·rcases Yf (show i+1<=j by omega) with l | l
    ·exact .inr (Qh (lt l d1 hj))
    ·subst l;rw[hj] at d1;cases d1;exact .inr Qg
  have bu:=J.bd u.1 (Qj c1);have bv:=J.bd v.1 (Qj d1);have luv:u.1<v.1:=by grind
  have l2:=zZ hq hf bu.1 luv bv.2 (fun p hp l=>by
   rcases out p.1 (J.own p hp) with z | z
   ·grind
   ·exact z) (Qh lu) (Qh lv)
  have mA:=gW hq hf bu.1 (Qh lu) (show x<=f.1 by grind)
  have mB:=gW hq hf (show 0<=x by grind) (Qh lv) bv.2
  have nA:=uI hq hf bu.1 bu.2;have nB:=uI hq hf bv.1 bv.2;have n:v.1-u.1≠0:=by grind
  have i1:=Xb _ n;unfold itp;rw[e1,e2,Vd]
  have fin:(aP ps (aP qs x)-aP ps (aP qs u.1))*(v.1-u.1)=(aP ps (aP qs v.1)-aP ps (aP qs u.1))*(x-u.1):=by
   by_cases c:aP qs u.1=aP qs v.1
   ·have:aP qs x=aP qs u.1:=by grind
    rw[this,<-c];grind
   ·have AB:aP qs u.1<aP qs v.1:=by grind
    have l1:=zZ hp he nA.1 AB (by rw[hL];exact nB.2) (fun p hp' l=>by
     obtain⟨t,ht,et⟩:=J.hit p hp';have bt:=J.bd t ht;rcases out t ht with z | z
     ·have:=gW hq hf bt.1 z bu.2
      grind
     ·have:=gW hq hf bv.1 z bt.2
      grind) mA mB
    have nn:aP qs v.1-aP qs u.1≠0:=by grind
    refine jH nn ?_
    grind
  generalize (v.1-u.1)⁻¹=w at i1;refine jH n ?_
  grind
def zFQ(ps:List Pt)(y r:Rat):Prop:=∃(k:Nat)(q:Pt),ps[k]?=some q/\(∀(j:Nat)(p:Pt),j<k->ps[j]?=some p->p.2<y)/\
 ((q.2=y/\r=q.1)∨(0<k/\y<q.2/\∃ p:Pt,ps[k-1]?=some p/\p.2<y/\r=itp (p.2,p.1) (q.2,q.1) y))
def zFQ.val{ps:List Pt}{e:Pt}{y r:Rat}(h:Ok ps)(he:ps.getLast?=some e)(u:zFQ ps y r):aP ps r=y/\0<=r/\r<=e.1:=by
 obtain⟨k,q,hq,hj,c⟩:=u;have bq:=dR h he (Qj hq);rcases c with⟨c1,rfl⟩ | ⟨k0,l,p,hp,lp,rfl⟩
 ·exact⟨by rw[bN h.2 hq,c1],bq.1,bq.2.1⟩
 ·have bp:=dR h he (Qj hp)
  have hq':ps[k-1+1]?=some q:=by rw[show k-1+1=k by omega];exact hq
  have pq:=kW h.2 (Vy (k-1)) hp hq';have sw:asc (p.2,p.1) (q.2,q.1):=⟨by show p.2<q.2;grind,Qh pq.1⟩
  have b:=sA sw (x:=y) (Qh lp) (Qh l);have b1:p.1<=itp (p.2,p.1) (q.2,q.1) y:=b.1;have b2:itp (p.2,p.1) (q.2,q.1) y<=q.1:=b.2;refine⟨?_,by grind,by grind⟩
  rw[cK h.2 hp hq' b1 b2];have n1:q.1-p.1≠0:=by have:=pq.1;grind
  have n2:q.2-p.2≠0:=by grind
  have i1:=Xb _ n1;have i2:=Xb _ n2;unfold itp;dsimp only
  rw[Vd,Vd];generalize (q.1-p.1)⁻¹=a at i1;generalize (q.2-p.2)⁻¹=b at i2;grind
def oD{a p:Pt}{r:List Pt}(h:(a::p::r).Pairwise asc){x:Rat}(hx:p.1<=x):aP (a::p::r) x=aP (p::r) x:=by
 have hp:=(Qp.mp h).2;have ap:=(Qp.mp h).1 p Qb;rw[aP];by_cases c:x<=p.1
 ·have e:x=p.1:=by grind
  rw[Jk c,e,zOX ap.1];exact(bN hp (i:=0) rfl).symm
 ·rw[Jl c]
def zCx{a p q e f:Pt}{r s:List Pt}(hr:(a::p::r).Pairwise asc)(hs:(a::q::s).Pairwise asc)(br:zKt (a::p::r))(er:(a::p::r).getLast?=some e)(es:(a::q::s).getLast?=some f)(ef:e.1=f.1)
  (hv:∀ x,a.1<=x->x<=e.1->aP (a::p::r) x=aP (a::q::s) x):¬ p.1<q.1:=by
 intro l;have ap:=(Qp.mp hr).1 p Qb;have aq:=(Qp.mp hs).1 q Qb
 have qf:q.1<=f.1:=by
  rw[Vn] at es;exact kK hs false (i:=1) (show 1<=(a::q::s).length-1 by simp) rfl es
 cases r with
 | nil=>
  cases er;have:p.1=f.1:=ef
  grind
 | cons u r=>
  have hp:=(Qp.mp hr).2;have pu:=(Qp.mp hp).1 u Qb
  have ue:u.1<=e.1:=by
   rw[Vn] at er;exact kK hr false (i:=2) (show 2<=(a::p::u::r).length-1 by simp) rfl er
  have key:∀ x,p.1<x->x<=u.1->x<=q.1->btw a p u=true:=by
   intro x h1 h2 h3;have v1:=hv p.1 (Qh ap.1) (by grind)
   have v2:=hv x (by have:=ap.1;grind) (by grind)
   rw[oD hr Qg,bN hp (i:=0) rfl,aP,Jk (Qh l)] at v1;rw[oD hr (Qh h1),aP,Jk h2,aP,Jk h3] at v2;rw[dX] at v1;rw[dX,dX] at v2;generalize (q.2-a.2) / (q.1-a.1)=k at v1 v2;have n1:x-p.1≠0:=by grind
   have n2:u.1-p.1≠0:=by have:=pu.1;grind
   have i2:=Xb _ n2;rw[Vd] at v2;generalize (u.1-p.1)⁻¹=w at i2 v2
   have s1:(u.2-p.2)*w=k:=by
    refine jH n1 ?_
    grind
   refine J6 ?_
   have s2:u.2-p.2=k*(u.1-p.1):=by
    have:(u.2-p.2)*w*(u.1-p.1)=k*(u.1-p.1):=by rw[s1]
    grind
   grind
  have nb:=br.1;by_cases c:u.1<=q.1
  ·rw[key u.1 pu.1 Qg c] at nb
   cases nb
  ·rw[key q.1 l (by grind) Qg] at nb
   cases nb
def zEY:∀(r s:List Pt)(a e f:Pt),(a::r).Pairwise asc->(a::s).Pairwise asc->zKt (a::r)->zKt (a::s)->(a::r).getLast?=some e->(a::s).getLast?=some f->e.1=f.1->
  (∀ x,a.1<=x->x<=e.1->aP (a::r) x=aP (a::s) x)->r=s
 | [],[],_,_,_,_,_,_,_,_,_,_,_=>rfl
 | [],q::s,a,e,f,_,hs,_,_,er,es,ef,_=>by
  cases er;rw[Vn] at es;have:=(kW hs (i:=0) (show 0<(a::q::s).length-1 by simp) rfl es).1
  grind
 | p::r,[],a,e,f,hr,_,_,_,er,es,ef,_=>by
  cases es;rw[Vn] at er;have:=(kW hr (i:=0) (show 0<(a::p::r).length-1 by simp) rfl er).1
  grind
 | p::r,q::s,a,e,f,hr,hs,br,bs,er,es,ef,hv=>by
  have n1:=zCx hr hs br er es ef hv;have n2:=zCx hs hr bs es er ef.symm fun x h1 h2=>(hv x h1 (by rw[ef];exact h2)).symm
  have pq:p.1=q.1:=by grind
  have hp:=(Qp.mp hr).2;have hq:=(Qp.mp hs).2;have ap:=(Qp.mp hr).1 p Qb
  have pe:p.1<=e.1:=by
   have er':=er;rw[Vn] at er';exact kK hr false (i:=1) (show 1<=(a::p::r).length-1 by simp) rfl er'
  have v:=hv p.1 (Qh ap.1) pe;rw[oD hr Qg,bN hp (i:=0) rfl,oD hs (show q.1<=p.1 by grind),pq,bN hq (i:=0) rfl] at v;have e1:p=q:=Prod.ext pq v;subst e1
  have br':zKt (p::r):=by
   cases r with
   | nil=>trivial
   | cons u r=>exact br.2
  have bs':zKt (p::s):=by
   cases s with
   | nil=>trivial
   | cons u s=>exact bs.2
  rw[zEY r s p e f hp hq br' bs' (by rw[<-er];simp[Yd]) (by rw[<-es];simp[Yd]) ef fun x h1 h2=>by
   have:=hv x (by have:=ap.1;grind) h2
   rw[oD hr h1,oD hs h1] at this
   exact this]
def zIj{ps qs:List Pt}{e f:Pt}(hp:zNd ps)(hq:zNd qs)(he:ps.getLast?=some e)(hf:qs.getLast?=some f)(ef:e.1=f.1)(hv:∀ x,0<=x->x<=e.1->aP ps x=aP qs x):ps=qs:=by
 cases ps with
 | nil=>cases he
 | cons a r=>
  cases qs with
  | nil=>cases hf
  | cons b s=>
   have h1:=hp.1.1;have h2:=hq.1.1;cases h1;cases h2;rw[zEY r s (0,0) e f hp.1.2 hq.1.2 hp.2 hq.2 he hf ef hv]
def zQX{p q:Pt}(h1:p.1<q.1)(h2:p.2<q.2){x y:Rat}(l:x<y):itp p q x<itp p q y:=by
 have n:0<(q.1-p.1)⁻¹:=Rat.inv_pos.mpr (by grind)
 have s:0<(q.2-p.2)*(q.1-p.1)⁻¹:=Rat.mul_pos (by grind) n
 rw[dX,dX,Vd];have:=Rat.mul_lt_mul_of_pos_right (show x-p.1<y-p.1 by grind) s
 grind
def zFQ.least{ps:List Pt}{e:Pt}{y r:Rat}(h:Ok ps)(he:ps.getLast?=some e)(u:zFQ ps y r){t:Rat}(t0:0<=t)(l:t<r):aP ps t<y:=by
 have hv:=u.val h he;obtain⟨k,q,hq,hj,c⟩:=u;have h00:ps[0]?=some (0,0):=by rw[<-Xw];exact h.1
 have k0:0<k:=by
  rcases Wf k with z | z
  ·subst z
   rw[h00] at hq;cases hq;rcases c with⟨_,c⟩ | ⟨c,_⟩
   ·have:r=0:=c
    grind
   ·exact absurd c (by decide)
  ·exact z
 have hkl:=(Qy.mp hq).1;have hp:ps[k-1]?=some ps[k-1]:=Qq (by omega)
 have hq':ps[k-1+1]?=some q:=by rw[show k-1+1=k by omega];exact hq
 have lp:=hj _ _ (show k-1<k by omega) hp
 have pq:=kW h.2 (Vy (k-1)) hp hq';have vp:=bN h.2 hp;generalize ps[k-1]=p at hp lp pq vp
 have yq:y<=q.2:=by
  rcases c with⟨c,_⟩ | ⟨_,c,_⟩
  ·rw[c];exact Qg
  ·exact Qh c
 have rq:r<=q.1:=by
  rcases c with⟨_,c⟩ | ⟨_,c1,p',hp',lp',c⟩
  ·rw[c];exact Qg
  ·rw[c]
   rw[hp] at hp';cases hp'
   have sw:asc (p.2,p.1) (q.2,q.1):=⟨by show p.2<q.2;grind,Qh pq.1⟩
   exact(sA sw (x:=y) (Qh lp) yq).2
 by_cases c1:t<=p.1
 ·have bp:=dR h he (Qj hp)
  have:=gW h he t0 c1 bp.2.1
  grind
 ·have e1:=cK h.2 hp hq' (x:=t) (by grind) (by grind)
  have e2:=cK h.2 hp hq' (x:=r) (by grind) rq
  have:=zQX pq.1 (show p.2<q.2 by grind) l
  rw[e1];rw[e2] at hv;grind
def zFQ.uniq{ps:List Pt}{e:Pt}{y r r':Rat}(h:Ok ps)(he:ps.getLast?=some e)(u:zFQ ps y r)(v:aP ps r'=y)(r0:0<=r')(lt:∀ t,0<=t->t<r'->aP ps t<y):r=r':=by
 have hv:=u.val h he;by_cases l:r<r'
 ·have:=lt r hv.2.1 l
  grind
 ·by_cases l2:r' < r
  ·have:=u.least h he r0 l2
   grind
  ·grind
end Ln
namespace L3
open PySem PySem.Spec PyProof.Rows L2
abbrev St:=L2.St
mutual
inductive IsD (K:PySem.W.Frag) (H:Hp):V->D->Prop where
 | non:IsD K H .non .non
 | bl (b:Bool):IsD K H (.bl b) (.bl b)
 | int (i:Int):IsD K H (.int i) (.int i)
 | str (x:Str):IsD K H (.str x) (.str x)
 | tup {a:Jc} {xs:List V} {ds:List D}:SqT K H a xs->IsDs K H xs ds->IsD K H (.ref a) (.tup ds)
 | lst {a:Jc} {xs:List V} {ds:List D}:SqL K H a xs->IsDs K H xs ds->IsD K H (.ref a) (.lst ds)
inductive IsDs (K:PySem.W.Frag) (H:Hp):List V->List D->Prop where
 | nil:IsDs K H [] []
 | cons {v:V} {d:D} {vs:List V} {ds:List D}:IsD K H v d->IsDs K H vs ds->IsDs K H (v::vs) (d::ds)
end
def _root_.L2.Same.rd{H H':Hp}(e:Same H H'){a:Jc}{u:HO}(h:Rd H a u):Rd H' a u:=by
 rcases h with h | ⟨o,h⟩
 ·exact .inl (e _ _ h)
 ·exact .inr ⟨o,e _ _ h⟩
def cC{K:Fg_}{H H':Hp}(e:Same H H'){a:Jc}{xs:List V}(h:SqT K H a xs):SqT K H' a xs:=h.imp (Same.rd e) id
def bY{K:Fg_}{H H':Hp}(e:Same H H'){a:Jc}{xs:List V}(h:SqL K H a xs):SqL K H' a xs:=h.imp (Same.rd e) id
section
variable{K:Fg_}{H H':Hp}
mutual
def IsD.mono(e:Same H H'):∀ {v:V} {d:D},IsD K H v d->IsD K H' v d
 | _,_,.non=>.non
 | _,_,.bl b=>.bl b
 | _,_,.int i=>.int i
 | _,_,.str x=>.str x
 | _,_,.tup h hs=>.tup (cC e h) (IsDs.mono e hs)
 | _,_,.lst h hs=>.lst (bY e h) (IsDs.mono e hs)
def IsDs.mono(e:Same H H'):∀ {vs:List V} {ds:List D},IsDs K H vs ds->IsDs K H' vs ds
 | _,_,.nil=>.nil
 | _,_,.cons h hs=>.cons (IsD.mono e h) (IsDs.mono e hs)
end
def IsDs.length:∀ {vs:List V} {ds:List D},IsDs K H vs ds->vs.length=ds.length
 | _,_,.nil=>rfl
 | _,_,.cons _ hs=>by rw[Qn,Qn,IsDs.length hs]
def IsDs.get:∀ {vs:List V} {ds:List D} {j:Nat} {v:V},IsDs K H vs ds->vs[j]?=some v->∃ d,ds[j]?=some d/\IsD K H v d
 | _,_,_,_,.nil,e=>by simp at e
 | _,_,0,_,.cons r _,e=>by simp at e;subst e;exact⟨_,rfl,r⟩
 | _,_,j+1,v,.cons _ t,e=>by
  obtain⟨d,h1,h2⟩:=IsDs.get (j:=j) (v:=v) t (by simpa using e)
  exact⟨d,by simpa using h1,h2⟩
def IsDs.at:∀ {vs:List V} {ds:List D} {j:Nat} {d:D},IsDs K H vs ds->ds[j]?=some d->∃ v,vs[j]?=some v/\IsD K H v d
 | _,_,_,_,.nil,e=>by simp at e
 | _,_,0,_,.cons r _,e=>by simp at e;subst e;exact⟨_,rfl,r⟩
 | _,_,j+1,d,.cons _ t,e=>by
  obtain⟨v,h1,h2⟩:=IsDs.at (j:=j) (d:=d) t (by simpa using e)
  exact⟨v,by simpa using h1,h2⟩
def IsDs.append:∀ {vs ws:List V} {ds es:List D},IsDs K H vs ds->IsDs K H ws es->IsDs K H (vs++ws) (ds++es)
 | _,_,_,_,.nil,s=>s
 | _,_,_,_,.cons r t,s=>.cons r (IsDs.append t s)
def IsDs.take:∀ {vs:List V} {ds:List D} (n:Nat),IsDs K H vs ds->IsDs K H (vs.take n) (ds.take n)
 | _,_,0,_=>.nil
 | _,_,_+1,.nil=>.nil
 | _,_,n+1,.cons r t=>.cons r (IsDs.take n t)
def IsDs.drop:∀ {vs:List V} {ds:List D} (n:Nat),IsDs K H vs ds->IsDs K H (vs.drop n) (ds.drop n)
 | _,_,0,r=>r
 | _,_,_+1,.nil=>.nil
 | _,_,n+1,.cons _ t=>IsDs.drop n t
def IsDs.dropLast:∀ {vs:List V} {ds:List D},IsDs K H vs ds->IsDs K H vs.dropLast ds.dropLast
 | _,_,.nil=>.nil
 | _,_,.cons _ .nil=>.nil
 | _,_,.cons r (.cons q t)=>.cons r (IsDs.dropLast (.cons q t))
def IsDs.set{v:V}{d:D}(h:IsD K H v d):∀ {vs:List V} {ds:List D} (j:Nat),IsDs K H vs ds->IsDs K H (vs.set j v) (ds.set j d)
 | _,_,_,.nil=>.nil
 | _,_,0,.cons _ t=>.cons h t
 | _,_,j+1,.cons q t=>.cons q (IsDs.set h j t)
mutual
def IsD.noL(k:∀ b xs,Rd H b (.tup xs)->Rd H' b (.tup xs)):∀ {v:V} {d:D},IsD K H v d->L3.noL d=true->IsD K H' v d
 | _,_,.non,_=>.non
 | _,_,.bl b,_=>.bl b
 | _,_,.int i,_=>.int i
 | _,_,.str x,_=>.str x
 | _,_,.tup h hs,e=>.tup (h.imp (k _ _) id) (IsDs.noL k hs (by rw[L3.noL] at e;exact e))
 | _,_,.lst h hs,e=>by rw[L3.noL] at e;cases e
def IsDs.noL(k:∀ b xs,Rd H b (.tup xs)->Rd H' b (.tup xs)):∀ {vs:List V} {ds:List D},IsDs K H vs ds->L3.noLs ds=true->IsDs K H' vs ds
 | _,_,.nil,_=>.nil
 | _,_,.cons h hs,e=>by
  rw[L3.noLs,V8] at e;exact .cons (IsD.noL k h e.1) (IsDs.noL k hs e.2)
end
end
def IsD.intI{K:Fg_}{H:Hp}{v:V}{i:Int}(h:IsD K H v (.int i)):v=.int i:=by cases h;rfl
def IsD.blI{K:Fg_}{H:Hp}{v:V}{b:Bool}(h:IsD K H v (.bl b)):v=.bl b:=by cases h;rfl
def IsD.strI{K:Fg_}{H:Hp}{v:V}{x:Str}(h:IsD K H v (.str x)):v=.str x:=by cases h;rfl
def IsD.tupI{K:Fg_}{H:Hp}{v:V}{ds:List D}(h:IsD K H v (.tup ds)):∃ a xs,v=.ref a/\SqT K H a xs/\IsDs K H xs ds:=by
 cases h with
 | tup h hs=>exact⟨_,_,rfl,h,hs⟩
def IsD.lstI{K:Fg_}{H:Hp}{v:V}{ds:List D}(h:IsD K H v (.lst ds)):∃ a xs,v=.ref a/\SqL K H a xs/\IsDs K H xs ds:=by
 cases h with
 | lst h hs=>exact⟨_,_,rfl,h,hs⟩
def tK:Str := "ranked.<locals>.<lambda>"
def zBL(P:Jc)(H:Hp):Prop:=∃ ps,H P=some (.tbl ps)/\TriplesOk ps.toList/\∀(pos:Pos)(cv:Ja),codeAmong pos ps.toList=some cv->∃ c oc vs t u,cv=.ref c/\H c=some (.frz oc u)/\oc.data=.fields vs/\vs[1]?=some (.str tK t)
def zBL.put{P a:Jc}{H:Hp}{x:HO}(h:zBL P H)(h1:∀ ps,H a≠some (.tbl ps))(h2:∀ o u,H a≠some (.frz o u)):zBL P (upd H a x):=by
 obtain⟨ps,e,t,k⟩:=h;refine⟨ps,by rw[aV (show P≠a from fun z=>h1 ps (by rw[<-z];exact e))];exact e,t,fun pos cv q=>?_⟩
 obtain⟨c,oc,vs,tk,u,r1,r2,r3⟩:=k pos cv q;exact⟨c,oc,vs,tk,u,r1,by rw[aV (show c≠a from fun z=>h2 oc u (by rw[<-z];exact r2))];exact r2,r3⟩
structure Keep (H H':Hp):Prop where
 k:∀ b o,H b=some o->H' b=some o∨∃ ps ps',o=.tbl ps/\H' b=some (.tbl ps')
 t:∀ P,zBL P H->zBL P H'
def Keep.refl(H:Hp):Keep H H:=⟨fun _ _ e=>.inl e,fun _ e=>e⟩
def Keep.trans{H H1 H2:Hp}(a:Keep H H1)(b:Keep H1 H2):Keep H H2:=
 ⟨fun c o e=>by
  rcases a.k c o e with z | ⟨ps,ps',rfl,z⟩
  ·exact b.k c o z
  ·rcases b.k c _ z with y | ⟨qs,qs',_,y⟩
   ·exact .inr ⟨ps,ps',rfl,y⟩
   ·exact .inr ⟨ps,qs',rfl,y⟩,fun P e=>b.t P (a.t P e)⟩
def Keep.at{H H':Hp}(k:Keep H H'){b:Jc}{o:HO}(e:H b=some o)(ho:∀ ps,o≠.tbl ps:=by intro ps z;cases z):H' b=some o:=by
 rcases k.k b o e with z | ⟨ps,ps',z,_⟩
 ·exact z
 ·exact absurd z (ho ps)
def Keep.none{H H':Hp}(k:Keep H H'){p:Jc}(e:H' p=none):H p=none:=by
 cases z:H p with
 | none=>rfl
 | some o=>rcases k.k p o z with y | ⟨_,_,_,y⟩<;>(rw[y] at e;cases e)
structure Ext (Hi H Hi' H':Hp):Prop where
 i:Same Hi Hi'
 h:Keep H H'
 s:Same Hi' H'
 n:∀ b,Hi b=none->Hi' b≠none->H b=none
def Ext.refl{Hi H:Hp}(h:Same Hi H):Ext Hi H Hi H:=⟨Same.refl _,Keep.refl _,h,fun _ e q=>absurd e q⟩
def Ext.trans{Hi H Hi1 H1 Hi2 H2:Hp}(a:Ext Hi H Hi1 H1)(b:Ext Hi1 H1 Hi2 H2):Ext Hi H Hi2 H2:=
 ⟨a.i.trans b.i,a.h.trans b.h,b.s,fun c e q=>by
  cases z:Hi1 c with
  | some o=>exact a.n c e (by rw[z];exact fun w=>by cases w)
  | none=>
   have z2:=b.n c z q
   exact a.h.none z2⟩
def cJ{H:Hp}{p:Jc}(h:H p=none)(o:HO):Same H (upd H p o):=fun b u q=>by rw[aV (aY q h)];exact q
def zFH{H:Hp}{p:Jc}(h:H p=none)(o:HO):Keep H (upd H p o):=⟨fun b u q=>.inl (cJ h o b u q),fun P e=>e.put (fun ps z=>by rw[h] at z;cases z) (fun ob u z=>by rw[h] at z;cases z)⟩
def _root_.L2.Same.none{H H':Hp}(h:Same H H'){p:Jc}(e:H' p=none):H p=none:=by
 cases z:H p with
 | none=>rfl
 | some o=>rw[h _ _ z] at e;cases e
def Ext.new{Hi H:Hp}{p:Jc}{o:HO}(h:Same Hi H)(hp:H p=none):Ext Hi H (upd Hi p o) (upd H p o) where
 i:=cJ (h.none hp) o
 h:=zFH hp o
 s:=fun b u q=>by
  by_cases e:b=p
  ·subst e;rw[aR] at q ⊢;exact q
  ·rw[aV e] at q ⊢;exact h _ _ q
 n:=fun b e q=>by
  by_cases z:b=p
  ·rw[z];exact hp
  ·rw[aV z] at q;exact absurd e q
def Ext.newF{Hi H:Hp}{p:Jc}{o:HO}(h:Same Hi H)(hp:H p=none):Ext Hi H Hi (upd H p o) where
 i:=Same.refl _
 h:=zFH hp o
 s:=h.trans (cJ hp o)
 n:=fun b e q=>absurd e q
def Ext.out{Hi H Hi' H':Hp}(e:Ext Hi H Hi' H'){a:Jc}{o:HO}(h:H a=some o)(hi:Hi a=none)(ho:∀ ps,o≠.tbl ps:=by intro ps z;cases z):H' a=some o/\Hi' a=none:=by
 refine⟨e.h.at h ho,?_⟩
 cases z:Hi' a with
 | none=>rfl
 | some u=>have:=e.n a hi (by rw[z];exact fun w=>by cases w);rw[h] at this;cases this
def Ext.hold{Hi H Hi' H':Hp}(e:Ext Hi H Hi' H'){a:Jc}{o:HO}(hn:H a=none)(h:H' a=some o)(hi:Hi' a=none):Ext Hi H (upd Hi' a o) H' where
 i:=e.i.trans (cJ hi o)
 h:=e.h
 s:=fun b u q=>by
  by_cases z:b=a
  ·subst z;rw[aR] at q;cases q;exact h
  ·rw[aV z] at q;exact e.s _ _ q
 n:=fun b z q=>by
  by_cases w:b=a
  ·rw[w];exact hn
  ·rw[aV w] at q;exact e.n b z q
def zHf(a C:Jc):Je->Prop:=fun h=>∃ o vs,h.get? a=some o/\o.cls=.ref C/\o.data=.fields vs
def kvT(T:List (Str×Str)):List (Key×V):=T.map fun q=>(Sum.inr q.1,V.str q.2)
def zFM(K:PySem.W.Frag)(mg:Str->Option Ja)(B Hi H:Hp)(o:Option (Option V)):Sl->Prop
 | .un=>True
 | .val d=>∃ v,o=some (some v)/\IsD K Hi v d
 | .own ds=>∃ a xs,o=some (some (.ref a))/\H a=some (.lst xs)/\Hi a=none/\B a=none/\IsDs K Hi xs ds
 | .exc c=>∃ a C,o=some (some (.ref a))/\H a=some (.ext (zHf a C))/\Hi a=none/\B a=none/\mg c=some (.ref C)
 | .tab T=>∃ a,o=some (some (.ref a))/\Hi a=some (.dK (kvT T))
structure Rel (K:PySem.W.Frag) (mg:Str->Option Ja) (B Bi Hi H:Hp) (σ:St) (ρ:Rho):Prop where
 len:σ.length=ρ.length
 ext:Ext Bi B Hi H
 slot:∀(i:Nat)(s:Sl),ρ[i]?=some s->zFM K mg B Hi H σ[i]? s
 dist:∀(i j:Nat)(a:Jc)(ds es:List D),ρ[i]?=some (.own ds)->ρ[j]?=some (.own es)->σ[i]?=some (some (.ref a))->σ[j]?=some (some (.ref a))->i=j
section
variable{K:Fg_}{mg:Str->Option Ja}{B Bi Hi H Hi' H':Hp}{f:St}{ρ:Rho}
def zFM.ext{o:Option (Option V)}{s:Sl}(h:zFM K mg B Hi H o s)(e:Ext Hi H Hi' H'):zFM K mg B Hi' H' o s:=by
 cases s with
 | un=>trivial
 | val d=>obtain⟨v,q,r⟩:=h;exact⟨v,q,r.mono e.i⟩
 | own ds=>
  obtain⟨a,xs,q,h1,h2,h3,h4⟩:=h;obtain⟨e1,e2⟩:=e.out h1 h2;exact⟨a,xs,q,e1,e2,h3,h4.mono e.i⟩
 | exc c=>
  obtain⟨a,C,q,h1,h2,h3,h4⟩:=h;obtain⟨e1,e2⟩:=e.out h1 h2;exact⟨a,C,q,e1,e2,h3,h4⟩
 | tab T=>obtain⟨a,q,h1⟩:=h;exact⟨a,q,e.i _ _ h1⟩
def Rel.grow(R:Rel K mg B Bi Hi H f ρ)(e:Ext Hi H Hi' H'):Rel K mg B Bi Hi' H' f ρ:=⟨R.len,R.ext.trans e,fun i s q=>(R.slot i s q).ext e,R.dist⟩
def Rel.s(R:Rel K mg B Bi Hi H f ρ):Same Hi H:=R.ext.s
def Rel.set{i:Nat}{v:V}{d:D}(R:Rel K mg B Bi Hi H f ρ)(h:IsD K Hi v d):Rel K mg B Bi Hi H (f.set i (some v)) (ρ.set i (.val d)) where
 len:=by rw[Q7,Q7];exact R.len
 ext:=R.ext
 slot:=fun j s q=>by
  by_cases e:i=j
  ·subst e
   by_cases hl:i<ρ.length
   ·rw[Vb hl] at q;cases q
    exact⟨v,by rw[Vb (by rw[R.len];exact hl)],h⟩
   ·rw[Qz (by rw[Q7];omega)] at q;cases q
  ·rw[Va e] at q ⊢
   exact R.slot j s q
 dist:=fun j k a ds es q1 q2 q3 q4=>by
  have h1:∀ {j:Nat} {ds:List D},(ρ.set i (.val d))[j]?=some (.own ds)->i≠j:=fun {j ds} q e=>by
   subst e;by_cases hl:i<ρ.length
   ·rw[Vb hl] at q;cases q
   ·rw[Qz (by rw[Q7];omega)] at q;cases q
  have n1:=h1 q1;have n2:=h1 q2;rw[Va n1] at q1 q3;rw[Va n2] at q2 q4;exact R.dist j k a ds es q1 q2 q3 q4
def Rel.setOwn{i:Nat}{a:Jc}{xs:List V}{ds:List D}(R:Rel K mg B Bi Hi H f ρ)(e:Ext Hi H Hi' H')(hn:H a=none)(h:H' a=some (.lst xs))(hi:Hi' a=none)(hs:IsDs K Hi' xs ds):
  Rel K mg B Bi Hi' H' (f.set i (some (.ref a))) (ρ.set i (.own ds)) where
 len:=by rw[Q7,Q7];exact R.len
 ext:=R.ext.trans e
 slot:=fun j s q=>by
  by_cases z:i=j
  ·subst z
   by_cases hl:i<ρ.length
   ·rw[Vb hl] at q;cases q
    exact⟨a,xs,by rw[Vb (by rw[R.len];exact hl)],h,hi,R.ext.h.none hn,hs⟩
   ·rw[Qz (by rw[Q7];omega)] at q;cases q
  ·rw[Va z] at q ⊢
   exact(R.slot j s q).ext e
 dist:=fun j k b es fs q1 q2 q3 q4=>by
  have h1:∀ {j:Nat} {es:List D},i≠j->ρ[j]?=some (.own es)->f[j]?=some (some (.ref a))->False:=fun {j es} _ p1 p2=>by
   obtain⟨a',xs',q,h1,_⟩:=R.slot j _ p1;rw[p2] at q;cases q;rw[hn] at h1;cases h1
  have h2:∀ {j:Nat} {es:List D},(ρ.set i (.own ds))[j]?=some (.own es)->i<f.length∨i≠j:=fun {j es} p=>by
   by_cases z:i=j
   ·subst z
    by_cases hl:i<ρ.length
    ·exact .inl (by rw[R.len];exact hl)
    ·rw[Qz (by rw[Q7];omega)] at p;cases p
   ·exact .inr z
  by_cases z1:i=j
  ·by_cases z2:i=k
   ·rw[<-z1,<-z2]
   ·exfalso
    subst z1;have hl:i<f.length:=(h2 q1).resolve_right (fun w=>w rfl)
    rw[Vb hl] at q3;cases q3
    rw[Va z2] at q2 q4;exact h1 z2 q2 q4
  ·by_cases z2:i=k
   ·exfalso
    subst z2;have hl:i<f.length:=(h2 q2).resolve_right (fun w=>w rfl)
    rw[Vb hl] at q4;cases q4
    rw[Va z1] at q1 q3;exact h1 z1 q1 q3
   ·rw[Va z1] at q1 q3
    rw[Va z2] at q2 q4;exact R.dist j k b es fs q1 q2 q3 q4
def Rel.write{i:Nat}{a:Jc}{ys:List V}{ds es:List D}(R:Rel K mg B Bi Hi H f ρ)(e:ρ[i]?=some (.own ds))(ea:f[i]?=some (some (.ref a)))(hs:IsDs K Hi ys es):
  Rel K mg B Bi Hi (upd H a (.lst ys)) f (ρ.set i (.own es)):=by
 obtain⟨a',xs',q,h1,h2,h3,h4⟩:=R.slot i _ e;rw[ea] at q;cases q
 have hl:i<ρ.length:=by
  by_cases hl:i<ρ.length
  ·exact hl
  ·rw[Qz (by omega)] at e;cases e
 refine⟨by rw[Q7];exact R.len,⟨R.ext.i,⟨fun b o z=>?_,fun P z=>(R.ext.h.t P z).put (fun ps y=>by rw[h1] at y;cases y) (fun ob u y=>by rw[h1] at y;cases y)⟩,fun b o z=>?_,R.ext.n⟩,fun j s z=>?_,fun j k b fs gs q1 q2 q3 q4=>?_⟩
 ·rw[aV (aY z h3)];exact R.ext.h.k _ _ z
 ·rw[aV (aY z h2)];exact R.ext.s _ _ z
 ·by_cases w:i=j
  ·subst w
   rw[Vb hl] at z;cases z
   exact⟨a,ys,ea,aR,h2,h3,hs⟩
  ·rw[Va w] at z
   have S:=R.slot j s z
   cases s with
   | un=>trivial
   | val d=>exact S
   | own fs=>
    obtain⟨b,zs,p,g1,g2,g3,g4⟩:=S;have hb:b≠a:=fun c=>w (R.dist i j a ds fs e z ea (by rw[p,c]))
    exact⟨b,zs,p,by rw[aV hb];exact g1,g2,g3,g4⟩
   | exc c=>
    obtain⟨b,C,p,g1,g2,g3,g4⟩:=S;have hb:b≠a:=zQb g1 h1 (by intro z;cases z)
    exact⟨b,C,p,by rw[aV hb];exact g1,g2,g3,g4⟩
   | tab T=>exact S
 ·have own:∀ {j:Nat} {fs:List D},(ρ.set i (.own es))[j]?=some (.own fs)->∃ gs,ρ[j]?=some (.own gs):=fun {j fs} p=>by
   by_cases w:i=j
   ·subst w;exact⟨ds,e⟩
   ·rw[Va w] at p;exact⟨fs,p⟩
  obtain⟨fs',q1'⟩:=own q1;obtain⟨gs',q2'⟩:=own q2;exact R.dist j k b fs' gs' q1' q2' q3 q4
def Rel.frzAt{i:Nat}(R:Rel K mg B Bi Hi H f ρ):∃ Hi',Same Hi Hi'/\Rel K mg B Bi Hi' H f (L3.frzAt i ρ):=by
 unfold L3.frzAt;split
 ·rename_i ds e
  obtain⟨a,xs,q,h1,h2,h3,h4⟩:=R.slot i _ e
  have hl:i<ρ.length:=by
   by_cases hl:i<ρ.length
   ·exact hl
   ·rw[Qz (by omega)] at e;cases e
  have sm:Same Hi (upd Hi a (.lst xs)):=cJ h2 _
  have ss:Same (upd Hi a (.lst xs)) H:=fun b u z=>by
   by_cases w:b=a
   ·subst w;rw[aR] at z;cases z;exact h1
   ·rw[aV w] at z;exact R.s _ _ z
  refine⟨upd Hi a (.lst xs),sm,by rw[Q7];exact R.len,⟨R.ext.i.trans sm,R.ext.h,ss,fun b z w=>?_⟩,fun j s z=>?_,fun j k b fs gs q1 q2 q3 q4=>?_⟩
  ·by_cases c:b=a
   ·rw[c];exact h3
   ·rw[aV c] at w;exact R.ext.n b z w
  ·by_cases w:i=j
   ·subst w
    rw[Vb hl] at z;cases z
    exact⟨.ref a,q,.lst (SqL.of aR) (h4.mono sm)⟩
   ·rw[Va w] at z
    have S:=R.slot j s z
    cases s with
    | un=>trivial
    | val d=>obtain⟨v,p,r⟩:=S;exact⟨v,p,r.mono sm⟩
    | own fs=>
     obtain⟨b,zs,p,g1,g2,g3,g4⟩:=S;have hb:b≠a:=fun c=>w (R.dist i j a ds fs e z q (by rw[p,c]))
     exact⟨b,zs,p,g1,by rw[aV hb];exact g2,g3,g4.mono sm⟩
    | exc c=>
     obtain⟨b,C,p,g1,g2,g3,g4⟩:=S;have hb:b≠a:=zQb g1 h1 (by intro z;cases z)
     exact⟨b,C,p,g1,by rw[aV hb];exact g2,g3,g4⟩
    | tab T=>obtain⟨b,p,g1⟩:=S;exact⟨b,p,sm _ _ g1⟩
  ·have own:∀ {j:Nat} {fs:List D},(ρ.set i (.val (.lst ds)))[j]?=some (.own fs)->ρ[j]?=some (.own fs):=fun {j fs} p=>by
    by_cases w:i=j
    ·subst w;rw[Vb hl] at p;cases p
    ·rw[Va w] at p;exact p
   exact R.dist j k b fs gs (own q1) (own q2) q3 q4
 ·exact⟨Hi,Same.refl _,R⟩
end
end L3
namespace L3
open PySem PySem.Spec PyProof.Rows L2
section
variable{K:Fg_}{mg:Str->Option Ja}{B Bi Hi H Hi' H':Hp}{f:St}{ρ:Rho}
def Rel.frz(R:Rel K mg B Bi Hi H f ρ):∃ Hf,Same Hi Hf/\Rel K mg B Bi Hf H f (ρ.map Sl.frz)/\∀ b,Hi b=none->Hf b≠none->∃ xs,Hf b=some (.lst xs):=by
 let own:Jc->Prop:=fun b=>∃(i:Nat)(ds:List D),ρ[i]?=some (.own ds)/\f[i]?=some (some (.ref b))
 have dec:∀ b,Decidable (own b):=fun b=>Classical.propDecidable _
 let Hf:Hp:=fun b=>match Hi b with
  | some o=>some o
  | none=>if own b then H b else none
 have hf1:∀ b o,Hi b=some o->Hf b=some o:=fun b o e=>by show(match Hi b with | some o=>some o | none=>if own b then H b else none)=_;rw[e]
 have hf2:∀ b,Hi b=none->own b->Hf b=H b:=fun b e z=>by show(match Hi b with | some o=>some o | none=>if own b then H b else none)=_;rw[e];exact Jk z
 have hf3:∀ b,Hi b=none->¬ own b->Hf b=none:=fun b e z=>by show(match Hi b with | some o=>some o | none=>if own b then H b else none)=_;rw[e];exact Jl z
 have lst:∀ b,own b->∃ xs,H b=some (.lst xs)/\Hi b=none/\B b=none:=fun b ⟨i,ds,e1,e2⟩=>by
  obtain⟨a,xs,q,h1,h2,h3,h4⟩:=R.slot i _ e1;rw[e2] at q;cases q
  exact⟨xs,h1,h2,h3⟩
 have ss:Same Hf H:=fun b o z=>by
  cases q:Hi b with
  | some u=>rw[hf1 b u q] at z;cases z;exact R.s _ _ q
  | none=>
   by_cases w:own b
   ·rw[hf2 b q w] at z;exact z
   ·rw[hf3 b q w] at z;cases z
 refine⟨Hf,hf1,⟨by rw[Qe];exact R.len,⟨R.ext.i.trans hf1,R.ext.h,ss,fun b z w=>?_⟩,fun j s z=>?_,fun j k b fs gs q1 q2 q3 q4=>?_⟩,fun b z w=>?_⟩
 ·cases q:Hi b with
  | some u=>exact R.ext.n b z (by rw[q];exact fun c=>by cases c)
  | none=>
   by_cases c:own b
   ·exact(lst b c).choose_spec.2.2
   ·exact absurd (hf3 b q c) w
 ·rw[Qu] at z
  cases e:ρ[j]? with
  | none=>rw[e] at z;cases z
  | some t=>
   rw[e] at z;cases z;have S:=R.slot j t e
   cases t with
   | un=>trivial
   | val d=>obtain⟨v,p,r⟩:=S;exact⟨v,p,r.mono hf1⟩
   | own ds=>
    obtain⟨a,xs,q,h1,h2,h3,h4⟩:=S;exact⟨.ref a,q,.lst (SqL.of (by rw[hf2 a h2 ⟨j,ds,e,q⟩];exact h1)) (h4.mono hf1)⟩
   | exc c=>
    obtain⟨a,C,q,h1,h2,h3,h4⟩:=S;refine⟨a,C,q,h1,?_,h3,h4⟩
    refine hf3 a h2 fun c=>?_
    obtain⟨xs,g,_⟩:=lst a c;rw[h1] at g;cases g
   | tab T=>obtain⟨a,q,h1⟩:=S;exact⟨a,q,hf1 _ _ h1⟩
 ·exfalso
  rw[Qu] at q1
  cases e:ρ[j]? with
  | none=>rw[e] at q1;cases q1
  | some t=>rw[e] at q1;cases t<;>cases q1
 ·by_cases c:own b
  ·obtain⟨xs,g,_⟩:=lst b c
   exact⟨xs,by rw[hf2 b z c];exact g⟩
  ·exact absurd (hf3 b z c) w
def Ext.thaw{Hf:Hp}(s:Same Hi Hf)(fl:∀ b,Hi b=none->Hf b≠none->∃ xs,Hf b=some (.lst xs))(hs:Same Hf H)(e:Ext Hf H Hi' H'):
  ∃ Ht,Ext Hi H Ht H'/\(∀ b xs,Rd Hi' b (.tup xs)->Rd Ht b (.tup xs))/\Same Ht Hi'/\∀ b,Ht b=none->Hi' b=none∨∃ xs,H b=some (.lst xs):=by
 have dec:∀ b,Decidable (Hi b=none/\Hf b≠none):=fun b=>Classical.propDecidable _
 let Ht:Hp:=fun b=>if Hi b=none/\Hf b≠none then none else Hi' b
 have t1:∀ b,¬ (Hi b=none/\Hf b≠none)->Ht b=Hi' b:=fun b z=>Jl z
 have t2:∀ b,(Hi b=none/\Hf b≠none)->Ht b=none:=fun b z=>Jk z
 have tt:Same Ht Hi':=fun b o z=>by
  by_cases w:Hi b=none/\Hf b≠none
  ·rw[t2 b w] at z;cases z
  ·rw[t1 b w] at z;exact z
 refine⟨Ht,⟨fun b o z=>?_,e.h,tt.trans e.s,fun b z w=>?_⟩,fun b xs r=>?_,tt,fun b z=>?_⟩
 ·rw[t1 b (fun w=>by rw[z] at w;cases w.1)];exact e.i _ _ (s _ _ z)
 ·by_cases c:Hi b=none/\Hf b≠none
  ·exact absurd (t2 b c) w
  ·rw[t1 b c] at w
   have:Hf b=none:=by
    cases q:Hf b with
    | none=>rfl
    | some u=>exact absurd ⟨z,by rw[q];exact fun c=>by cases c⟩ c
   exact e.n b this w
 ·have nl:¬ (Hi b=none/\Hf b≠none):=fun w=>by
   obtain⟨ys,g⟩:=fl b w.1 w.2;have g':=e.i _ _ g;rcases r with r | ⟨o,r⟩<;>(rw[g'] at r;cases r)
  rcases r with r | ⟨o,r⟩
  ·exact .inl (by rw[t1 b nl];exact r)
  ·exact .inr ⟨o,by rw[t1 b nl];exact r⟩
 ·by_cases c:Hi b=none/\Hf b≠none
  ·obtain⟨ys,g⟩:=fl b c.1 c.2
   exact .inr ⟨ys,hs _ _ g⟩
  ·exact .inl (by rw[t1 b c] at z;exact z)
end
structure Gx where
 B:Hp
 Bi:Hp
 E:Str->Hp->Prop
abbrev lR(X:Cx)(G:Gx)(Hi H:Hp)(r:St)(ρ:Rho):Prop:=Rel X.K X.mg G.B G.Bi Hi H r ρ
def Out(G:Gx)(Hi H:Hp){s:Type}(r:Res s)(k:s->Hp->Hp->Prop):Prop:=match r with
 | .ok a=>∀ Hi' H',Ext Hi H Hi' H'->k a Hi' H'
 | .err c=>∀ Hi' H',Ext Hi H Hi' H'->G.E c H'
 | .no=>False
def Out.bind{G:Gx}{Hi H:Hp}{s p:Type}{r:Res s}{f:s->Res p}{k:p->Hp->Hp->Prop}(h:Out G Hi H (r.bind f) k):
  Out G Hi H r fun a Hi' H'=>Out G Hi' H' (f a) k:=by
 cases r with
 | no=>exact h
 | err c=>exact h
 | ok a=>
  intro Hi1 H1 e;have h':Out G Hi H (f a) k:=h;show Out G Hi1 H1 (f a) k
  cases q:f a with
  | no=>rw[q] at h';exact h'
  | err c=>rw[q] at h';exact fun Hi2 H2 e2=>h' _ _ (e.trans e2)
  | ok b=>rw[q] at h';exact fun Hi2 H2 e2=>h' _ _ (e.trans e2)
def Out.imp{G:Gx}{Hi H:Hp}{s:Type}{r:Res s}{k k':s->Hp->Hp->Prop}(h:Out G Hi H r k)(f:∀ a Hi' H',Ext Hi H Hi' H'->k a Hi' H'->k' a Hi' H'):Out G Hi H r k':=by
 cases r with
 | no=>exact h
 | err c=>exact h
 | ok a=>exact fun Hi1 H1 e=>f a Hi1 H1 e (h Hi1 H1 e)
def Out.here{G:Gx}{Hi H:Hp}{r:Type}{a:r}{k:r->Hp->Hp->Prop}(h:Out G Hi H (.ok a) k)(s:Same Hi H):k a Hi H:=h Hi H (Ext.refl s)
def tD(X:Cx)(G:Gx)(f:Ev):TE:=fun r H Q=>∃ ρ Hi,lR X G Hi H r ρ/\Out G Hi H (f ρ) fun d Hi' H'=>∀ v,IsD X.K Hi' v d->Q v H'
def zLq(K:PySem.W.Frag)(H Hi' H':Hp)(a:Jc)(ds:List D):Prop:=H a=none/\Hi' a=none/\∃ xs,H' a=some (.lst xs)/\IsDs K Hi' xs ds
def tF(X:Cx)(G:Gx)(f:Fv):TE:=fun r H Q=>∃ ρ Hi,lR X G Hi H r ρ/\Out G Hi H (f ρ) fun ds Hi' H'=>∀ a,zLq X.K H Hi' H' a ds->Q (.ref a) H'
def tTb(X:Cx)(G:Gx)(f:Tv):TT:=fun r H Q=>∃ ρ Hi,lR X G Hi H r ρ/\Out G Hi H (f ρ) fun b _ H'=>Q b H'
def tAs(X:Cx)(G:Gx)(f:Fv):TA:=fun r H Q=>∃ ρ Hi,lR X G Hi H r ρ/\Out G Hi H (f ρ) fun ds Hi' H'=>∀ vs,IsDs X.K Hi' vs ds->Q vs H'
def Fin(X:Cx)(G:Gx)(Hi:Hp)(E:Ends)(r:Res Fl):Prop:=match r with
 | .ok (.nx r')=>∀ s' Hi' H',Same Hi Hi'->lR X G Hi' H' s' r'->E.nx s' H'
 | .ok (.brk r')=>∀ s' Hi' H',Same Hi Hi'->lR X G Hi' H' s' r'->E.bk s' H'
 | .ok (.ctn r')=>∀ s' Hi' H',Same Hi Hi'->lR X G Hi' H' s' r'->E.ct s' H'
 | .ok (.ret (.v d))=>∀ v Hi' H',Ext G.Bi G.B Hi' H'->IsD X.K Hi' v d->E.rt v H'
 | .ok (.ret (.f ds))=>∀ a Hi' H',Ext G.Bi G.B Hi' H'->zLq X.K G.B Hi' H' a ds->E.rt (.ref a) H'
 | .err c=>∀ Hi' H',Ext G.Bi G.B Hi' H'->G.E c H'
 | .no=>False
def Fin.mono{X:Cx}{G:Gx}{Hi Hi':Hp}{E:Ends}{r:Res Fl}(h:Fin X G Hi E r)(s:Same Hi Hi'):Fin X G Hi' E r:=by
 cases r with
 | no=>exact h
 | err c=>exact h
 | ok f=>
  cases f with
  | nx ρ=>exact fun r' Hi2 H2 s2=>h r' Hi2 H2 (s.trans s2)
  | brk ρ=>exact fun r' Hi2 H2 s2=>h r' Hi2 H2 (s.trans s2)
  | ctn ρ=>exact fun r' Hi2 H2 s2=>h r' Hi2 H2 (s.trans s2)
  | ret r=>cases r<;>exact h
def tS(X:Cx)(G:Gx)(f:Sv):TS:=fun E r H=>∃ ρ Hi,lR X G Hi H r ρ/\Fin X G Hi E (f ρ)
@[irreducible] def PEd (X:Cx) (G:Gx) (e:Expr) (f:Ev):Prop:=PE X e (tD X G f)
unseal PEd
@[irreducible] def PEf (X:Cx) (G:Gx) (e:Expr) (f:Fv):Prop:=PE X e (tF X G f)
unseal PEf
@[irreducible] def PTd (X:Cx) (G:Gx) (e:Expr) (f:Tv):Prop:=PT X e (tTb X G f)
unseal PTd
@[irreducible] def PWd (X:Cx) (G:Gx) (e:Expr) (f:Tv):Prop:=PW X e (tTb X G f)
unseal PWd
@[irreducible] def PAd (X:Cx) (G:Gx) (es:List Expr) (f:Fv):Prop:=PA X es (tAs X G f)
unseal PAd
@[irreducible] def PSd (X:Cx) (G:Gx) (s:Ji) (f:Sv):Prop:=PS X s (tS X G f)
unseal PSd
@[irreducible] def eN (X:Cx) (G:Gx) (s:List Ji) (f:Sv):Prop:=PSs X s (tS X G f)
unseal eN
def PE.wk{X:Cx}{e:Expr}{t t':TE}(h:PE X e t)(w:∀ r H Q,t' r H Q->t r H Q):PE X e t':=fun Mi s r H Q I q=>h Mi s r H Q I (w r H Q q)
def PT.wk{X:Cx}{e:Expr}{t t':TT}(h:PT X e t)(w:∀ r H Q,t' r H Q->t r H Q):PT X e t':=fun Mi s r H Q I q=>h Mi s r H Q I (w r H Q q)
def PW.wk{X:Cx}{e:Expr}{t t':TT}(h:PW X e t)(w:∀ r H Q,t' r H Q->t r H Q):PW X e t':=fun wh Mi s r H Q I q=>h wh Mi s r H Q I (w r H Q q)
def PA.wk{X:Cx}{es:List Expr}{t t':TA}(h:PA X es t)(w:∀ r H Q,t' r H Q->t r H Q):PA X es t':=fun pos Mi s r H Q I q=>h pos Mi s r H Q I (w r H Q q)
def PS.wk{X:Cx}{s:Ji}{t t':TS}(h:PS X s t)(w:∀ E r H,t' E r H->t E r H):PS X s t':=fun Mi s r H E I q=>h Mi s r H E I (w E r H q)
def PSs.wk{X:Cx}{s:List Ji}{t t':TS}(h:PSs X s t)(w:∀ E r H,t' E r H->t E r H):PSs X s t':=fun Mi s r H E I q=>h Mi s r H E I (w E r H q)
section
variable{X:Cx}{G:Gx}{a b e:Expr}{es:List Expr}{pos:Pos}{f g:Ev}
def zQt(i:Nat)(h:PE X e (zDh i)):PEd X G e (aG i):=PE.wk h fun j H Q q=>by
 obtain⟨ρ,Hi,R,o⟩:=q;unfold aG at o
 cases z:ρ[i]? with
 | none=>rw[z] at o;exact o.elim
 | some s=>
  rw[z] at o
  cases s with
  | val d=>
   obtain⟨v,p,r⟩:=R.slot i _ z;exact⟨v,p,o.here R.s v r⟩
  | un=>exact o.elim
  | own ds=>exact o.elim
  | exc c=>exact o.elim
  | tab T=>exact o.elim
def lL{v:V}{d:D}(h:PE X e (tC v))(r:∀ H,IsD X.K H v d):PEd X G e (eC d):=PE.wk h fun j H Q q=>by
 obtain⟨ρ,Hi,R,o⟩:=q;exact o.here R.s v (r Hi)
def zBu{Hi H:Hp}{j:St}{ρ:Rho}{l:Type}{k:D->Res l}{k':l->Hp->Hp->Prop}{Q:VK}(R:lR X G Hi H j ρ)(o:Out G Hi H ((f ρ).bind k) k')
  (w:∀ v d Hi' H',Ext Hi H Hi' H'->lR X G Hi' H' j ρ->IsD X.K Hi' v d->Out G Hi' H' (k d) k'->Q v H'):tD X G f j H Q:=
 ⟨ρ,Hi,R,o.bind.imp fun d Hi' H' e q v r=>w v d Hi' H' e (R.grow e) r q⟩
def OpK(X:Cx)(r:R2)(o:Op2):Prop:=(∀ a b c,o a b≠.err c)/\∀(Hi H:Hp)(x y:V)(a b d:D)(Q:VK),Same Hi H->IsD X.K Hi x a->IsD X.K Hi y b->o a b=.ok d->
 (∀ v Hi' H',Ext Hi H Hi' H'->IsD X.K Hi' v d->Q v H')->r x y H Q
def op2{r:R2}{o:Op2}(k:OpK X r o):∀ j H Q,tD X G (eOp o f g) j H Q->tOp r (tD X G f) (tD X G g) j H Q:=fun j H Q q=>by
 obtain⟨ρ,Hi,R,ou⟩:=q;refine zBu R ou fun v d Hi1 H1 e1 R1 r1 o1=>?_
 refine zBu R1 o1 fun w d' Hi2 H2 e2 R2 r2 o2=>?_
 cases z:o d d' with
 | no=>rw[z] at o2;exact o2.elim
 | err c=>exact absurd z (k.1 d d' c)
 | ok u=>
  rw[z] at o2;exact k.2 Hi2 H2 v w d d' u Q R2.s (r1.mono e2.i) r2 z fun x Hi3 H3 e3 r3=>o2 Hi3 H3 e3 x r3
def bC{op:Operator}{r:R2}{o:Op2}(ho:OpR X (binaryOp op) r)(k:OpK X r o)(ha:PEd X G a f)(hb:PEd X G b g):PEd X G (.BinOp a op b pos) (eOp o f g):=PE.wk (zJv ho ha hb) (op2 k)
def yW{op:CmpOp}{r:R2}{o:Op2}(ho:OpR X (compareOp op) r)(k:OpK X r o)(ha:PEd X G a f)(hb:PEd X G b g)(hm:behindInMarks op b=false):PEd X G (.Compare a [op] [b] pos) (eOp o f g):=PE.wk (zHu ho ha hb hm) (op2 k)
def fH{r:R2}{o:Op2}(ho:IxR X r)(k:OpK X r o)(ha:PEd X G a f)(hb:PEd X G b g)(hs:zDQ b):PEd X G (.Subscript a b pos) (eOp o f g):=PE.wk (zGo ho ha hb hs) (op2 k)
def tst{op:CmpOp}{r:R2}{o:Op2}(ho:OpR X (compareOp op) r)(k:OpK X r o)(ha:PEd X G a f)(hb:PEd X G b g)(hm:behindInMarks op b=false):PTd X G (.Compare a [op] [b] pos) (dD (eOp o f g)):=
 PT.wk (zHx ho ha hb hm) fun j H Q q=>by
  obtain⟨ρ,Hi,R,ou⟩:=q;refine op2 k j H _ ⟨ρ,Hi,R,ou.bind.imp fun d Hi' H' e o v r=>?_⟩
  cases d with
  | bl c=>rw[r.blI];exact⟨c,rfl,o.here e.s⟩
  | _=>exact o.elim
def yN(h:PEd X G a f)(he:∀ whole,isTrue a X.env whole=(do let v <-whole;standAt a.pos;holding [v] (truthy v)):=by intro _;rfl):PTd X G a (dD f):=PT.wk (zSa h he) fun j H Q q=>by
 obtain⟨ρ,Hi,R,ou⟩:=q;refine⟨ρ,Hi,R,ou.bind.imp fun d Hi' H' e o v r=>?_⟩
 cases d with
 | bl c=>rw[r.blI];exact⟨c,rfl,o.here e.s⟩
 | _=>exact o.elim
variable{t u:Tv}
def zSi{Hi H:Hp}{j:St}{ρ:Rho}{l:Type}{k:Bool->Res l}{k':l->Hp->Hp->Prop}{Q:Bool->Hp->Prop}(R:lR X G Hi H j ρ)(o:Out G Hi H ((t ρ).bind k) k')
  (w:∀ c Hi' H',Ext Hi H Hi' H'->lR X G Hi' H' j ρ->Out G Hi' H' (k c) k'->Q c H'):tTb X G t j H Q:=
 ⟨ρ,Hi,R,o.bind.imp fun d Hi' H' e q=>w d Hi' H' e (R.grow e) q⟩
def zMl(h:PTd X G a t):PTd X G (.UnaryOp .Not a pos) (xF t):=PT.wk (zQW h) fun j H Q q=>by
 obtain⟨ρ,Hi,R,ou⟩:=q;exact zSi R ou fun c Hi1 H1 e1 R1 o1=>o1.here R1.s
def sY(h:PTd X G a t):PWd X G (.BoolOp .And [a] pos) t:=zNN h
def zGw(h:PTd X G a t):PWd X G (.BoolOp .Or [a] pos) t:=zQM h
def zCK{rest:List Expr}(ha:PTd X G a t)(hb:PWd X G (.BoolOp .And (b::rest) pos) u):PWd X G (.BoolOp .And (a::b::rest) pos) (vT t u):=PW.wk (zRY ha hb) fun j H Q q=>by
 obtain⟨ρ,Hi,R,ou⟩:=q;refine zSi R ou fun c Hi1 H1 e1 R1 o1=>?_
 cases c with
 | true=>exact⟨ρ,Hi1,R1,o1⟩
 | false=>exact o1.here R1.s
def zNc{rest:List Expr}(ha:PTd X G a t)(hb:PWd X G (.BoolOp .Or (b::rest) pos) u):PWd X G (.BoolOp .Or (a::b::rest) pos) (zHs t u):=PW.wk (zSU ha hb) fun j H Q q=>by
 obtain⟨ρ,Hi,R,ou⟩:=q;refine zSi R ou fun c Hi1 H1 e1 R1 o1=>?_
 cases c with
 | true=>exact o1.here R1.s
 | false=>exact⟨ρ,Hi1,R1,o1⟩
def PWd.pt{e:Expr}(h:PWd X G e t):PTd X G e t:=PW.pt h
def zMp{op}(h:PEd X G a f):PEd X G (.BoolOp op [a] pos) f:=zPS h
def zMC{rest:List Expr}(ha:PEd X G a f)(hb:PEd X G (.BoolOp .And (b::rest) pos) g):PEd X G (.BoolOp .And (a::b::rest) pos) (zSc f g):=PE.wk (zPQ ha hb) fun j H Q q=>by
 obtain⟨ρ,Hi,R,ou⟩:=q;refine zBu R ou fun v d Hi1 H1 e1 R1 r1 o1=>?_
 cases d with
 | bl c=>
  refine⟨c,r1.blI,?_⟩
  cases c with
  | true=>exact⟨ρ,Hi1,R1,o1⟩
  | false=>exact o1.here R1.s _ (.bl false)
 | _=>exact o1.elim
def zTs{rest:List Expr}(ha:PEd X G a f)(hb:PEd X G (.BoolOp .Or (b::rest) pos) g):PEd X G (.BoolOp .Or (a::b::rest) pos) (eOr f g):=PE.wk (zSX ha hb) fun j H Q q=>by
 obtain⟨ρ,Hi,R,ou⟩:=q;refine zBu R ou fun v d Hi1 H1 e1 R1 r1 o1=>?_
 cases d with
 | bl c=>
  refine⟨c,r1.blI,?_⟩
  cases c with
  | true=>exact o1.here R1.s _ (.bl true)
  | false=>exact⟨ρ,Hi1,R1,o1⟩
 | _=>exact o1.elim
def mK(ha:PEd X G a f):PEd X G (.UnaryOp .USub a pos) (eUn zFj f):=PE.wk (zSG zQi ha) fun j H Q q=>by
 obtain⟨ρ,Hi,R,ou⟩:=q;refine zBu R ou fun v d Hi1 H1 e1 R1 r1 o1=>?_
 cases d with
 | int c=>exact⟨c,r1.intI,o1.here R1.s _ (.int _)⟩
 | _=>exact o1.elim
def zPd{c:Expr}(hc:PTd X G c t)(ha:PEd X G a f)(hb:PEd X G b g):PEd X G (.IfExp c a b pos) (eIf t f g):=PE.wk (zKI hc ha hb) fun j H Q q=>by
 obtain⟨ρ,Hi,R,ou⟩:=q;refine zSi R ou fun c Hi1 H1 e1 R1 o1=>?_
 cases c with
 | true=>exact⟨ρ,Hi1,R1,o1⟩
 | false=>exact⟨ρ,Hi1,R1,o1⟩
variable{fs:Fv}
def aK:PAd X G [] aNil:=PA.wk kZ fun j H Q q=>by
 obtain⟨ρ,Hi,R,ou⟩:=q;exact ou.here R.s [] .nil
def aA(ha:PEd X G e f)(hr:PAd X G es fs)(hs:starEach (e::es) X.env=(false,eval e X.env)::starEach es X.env:=by rfl):PAd X G (e::es) (aB f fs):=PA.wk (eQ ha hr hs) fun j H Q q=>by
 obtain⟨ρ,Hi,R,ou⟩:=q;refine zBu R ou fun v d Hi1 H1 e1 R1 r1 o1=>?_
 refine⟨ρ,Hi1,R1,o1.bind.imp fun ds Hi2 H2 e2 o2 vs rs=>?_⟩
 exact o2.here e2.s _ (.cons (r1.mono e2.i) rs)
def zKs{Hi H:Hp}{j:St}{ρ:Rho}{l:Type}{k:List D->Res l}{k':l->Hp->Hp->Prop}{Q:List V->Hp->Prop}(R:lR X G Hi H j ρ)(o:Out G Hi H ((fs ρ).bind k) k')
  (w:∀ vs ds Hi' H',Ext Hi H Hi' H'->lR X G Hi' H' j ρ->IsDs X.K Hi' vs ds->Out G Hi' H' (k ds) k'->Q vs H'):tAs X G fs j H Q:=
 ⟨ρ,Hi,R,o.bind.imp fun d Hi' H' e q v r=>w v d Hi' H' e (R.grow e) r q⟩
def nV{x1}(h:PAd X G es fs):PEd X G (.Tuple es x1 pos) (zGC fs):=PE.wk (zMh h) fun j H Q q=>by
 obtain⟨ρ,Hi,R,ou⟩:=q;refine zKs R ou fun vs ds Hi1 H1 e1 R1 r1 o1=>?_
 by_cases hz:ds.length<=16777216
 ·rw[Jk hz] at o1
  refine⟨by rw[r1.length];exact hz,fun p hp=>?_⟩
  exact o1 _ _ (Ext.new R1.s hp) (.ref p) (.tup (SqT.of aR) (r1.mono (cJ (R1.s.none hp) _)))
 ·rw[Jl hz] at o1;exact o1.elim
def bK(h:PAd X G es fs):PEf X G (.List es pos) (jV fs):=PE.wk (zQQ h) fun j H Q q=>by
 obtain⟨ρ,Hi,R,ou⟩:=q;refine zKs R ou fun vs ds Hi1 H1 e1 R1 r1 o1=>?_
 by_cases hz:ds.length<=16777216
 ·rw[Jk hz] at o1
  refine⟨by rw[r1.length];exact hz,fun p hp=>?_⟩
  exact o1 _ _ (Ext.newF R1.s hp) p ⟨e1.h.none hp,R1.s.none hp,vs,aR,r1⟩
 ·rw[Jl hz] at o1;exact o1.elim
def PEf.d(h:PEf X G e fs):PEd X G e (eF fs):=PE.wk h fun j H Q q=>by
 obtain⟨ρ,Hi,R,ou⟩:=q;refine⟨ρ,Hi,R,?_⟩
 cases z:fs ρ with
 | no=>unfold eF at ou;rw[z] at ou;exact ou
 | err c=>unfold eF at ou;rw[z] at ou;exact ou
 | ok ds=>
  unfold eF at ou;rw[z] at ou
  intro Hi1 H1 e1 a n;obtain⟨n1,n2,xs,n3,n4⟩:=n;have ou':∀ Hi' H',Ext Hi H Hi' H'->∀ v,IsD X.K Hi' v (.lst ds)->Q v H':=ou;exact ou' _ _ (e1.hold n1 n3 n2) (.ref a) (.lst (SqL.of aR) (n4.mono (cJ n2 _)))
def PEd.frz(h:PEd X G e f):PEd X G e (zQR f):=PE.wk h fun j H Q q=>by
 obtain⟨ρ,Hi,R,ou⟩:=q;obtain⟨Hf,s1,R1,fl⟩:=R.frz;refine⟨ρ.map Sl.frz,Hf,R1,?_⟩
 unfold zQR at ou
 cases z:f (ρ.map Sl.frz) with
 | no=>rw[z] at ou;exact ou
 | err c=>
  rw[z] at ou;intro Hi1 H1 e1;have ou':∀ Hi' H',Ext Hi H Hi' H'->G.E c H':=ou;obtain⟨Ht,e2,k,s2,n⟩:=Ext.thaw s1 fl R1.s e1;exact ou' Ht H1 e2
 | ok d=>
  rw[z] at ou;by_cases hz:noL d=true
  ·have ou':Out G Hi H (if noL d=true then Res.ok d else .no) _:=ou
   rw[Jk hz] at ou';intro Hi1 H1 e1 v r;obtain⟨Ht,e2,k,s2,n⟩:=Ext.thaw s1 fl R1.s e1;exact ou' Ht H1 e2 v (r.noL k hz)
  ·have ou':Out G Hi H (if noL d=true then Res.ok d else .no) _:=ou
   rw[Jl hz] at ou';exact ou'.elim
end
end L3
namespace L3
open PySem PySem.Spec PyProof.Rows L2
unseal PEd PEf PTd PWd PAd PSd eN
local macro_rules | `(⋯)=>`(by omega)
section
variable{X:Cx}{G:Gx}{a b e:Expr}{es:List Expr}{pos:Pos}{f g:Ev}{fs:Fv}{t u:Tv}
def PEf.frz(h:PEf X G e fs):PEf X G e (zSg fs):=PE.wk h fun m H Q q=>by
 obtain⟨ρ,Hi,R,ou⟩:=q;obtain⟨Hf,s1,R1,fl⟩:=R.frz;refine⟨ρ.map Sl.frz,Hf,R1,?_⟩
 unfold zSg at ou
 cases z:fs (ρ.map Sl.frz) with
 | no=>rw[z] at ou;exact ou
 | err c=>
  rw[z] at ou;intro Hi1 H1 e1;have ou':∀ Hi' H',Ext Hi H Hi' H'->G.E c H':=ou;obtain⟨Ht,e2,k,s2,n⟩:=Ext.thaw s1 fl R1.s e1;exact ou' Ht H1 e2
 | ok ds=>
  rw[z] at ou;have ou':Out G Hi H (if noLs ds=true then Res.ok ds else .no) _:=ou;by_cases hz:noLs ds=true
  ·rw[Jk hz] at ou'
   intro Hi1 H1 e1 a n;obtain⟨n1,n2,xs,n3,n4⟩:=n;obtain⟨Ht,e2,k,s2,_⟩:=Ext.thaw s1 fl R1.s e1;exact ou' Ht H1 e2 a ⟨n1,s2.none n2,xs,n3,n4.noL k hz⟩
  ·rw[Jl hz] at ou';exact ou'.elim
def OpR.or{o:Ja->Ja->Sem Ja}{r r':R2}(h:OpR X o r)(h':OpR X o r'):OpR X o (fun x y H Q=>r x y H Q∨r' x y H Q):=by
 intro Mi s m H x y v u Q I rx ry q;rcases q with q | q
 ·exact h Mi s m H x y v u Q I rx ry q
 ·exact h' Mi s m H x y v u Q I rx ry q
def zRv{o:Op2}{h:Int->Int->Int}(hi:∀ i j,o (.int i) (.int j)=.ok (.int (h i j)))(hn:∀ a b d,o a b=.ok d->∃ i j,a=.int i/\b=.int j)(he:∀ a b c,o a b≠.err c):OpK X (rI0 fun i j=>.int (h i j)) o:=
 ⟨he,fun Hi H x y a b d Q s r1 r2 z q=>by
  obtain⟨i,j,rfl,rfl⟩:=hn a b d z;rw[hi] at z;cases z
  exact⟨i,j,r1.intI,r2.intI,q _ Hi H (Ext.refl s) (.int _)⟩⟩
def zMB{o:Op2}{h:Int->Int->Bool}(hi:∀ i j,o (.int i) (.int j)=.ok (.bl (h i j)))(hn:∀ a b d,o a b=.ok d->∃ i j,a=.int i/\b=.int j)(he:∀ a b c,o a b≠.err c):OpK X (rI0 fun i j=>.bl (h i j)) o:=
 ⟨he,fun Hi H x y a b d Q s r1 r2 z q=>by
  obtain⟨i,j,rfl,rfl⟩:=hn a b d z;rw[hi] at z;cases z
  exact⟨i,j,r1.intI,r2.intI,q _ Hi H (Ext.refl s) (.bl _)⟩⟩
def zGn:OpK X (rI0 fun i j=>.int (i-j)) zDg:=zRv (fun _ _=>rfl) (fun a b d z=>by unfold zDg at z;split at z<;>first | exact⟨_,_,rfl,rfl⟩ | cases z) (fun a b c z=>by unfold zDg at z;split at z<;>cases z)
def zLL:OpK X (rI0 fun i j=>.bl (decide (i<j))) oLt:=zMB (fun _ _=>rfl) (fun a b d z=>by unfold oLt at z;split at z<;>first | exact⟨_,_,rfl,rfl⟩ | cases z) (fun a b c z=>by unfold oLt at z;split at z<;>cases z)
def zNF:OpK X (rI0 fun i j=>.bl (decide (j<i))) oGt:=zMB (fun _ _=>rfl) (fun a b d z=>by unfold oGt at z;split at z<;>first | exact⟨_,_,rfl,rfl⟩ | cases z) (fun a b c z=>by unfold oGt at z;split at z<;>cases z)
def zKG{o:Op2}{C:Int->Int->Prop}{h:Int->Int->Int}(hn:∀ a b d,o a b=.ok d->∃ i j,a=.int i/\b=.int j/\C i j/\d=.int (h i j))(he:∀ a b c,o a b≠.err c):OpK X (rI C fun i j=>.int (h i j)) o:=
 ⟨he,fun Hi H x y a b d Q s r1 r2 z q=>by
  obtain⟨i,j,rfl,rfl,hc,rfl⟩:=hn a b d z
  exact⟨i,j,r1.intI,r2.intI,hc,q _ Hi H (Ext.refl s) (.int _)⟩⟩
def zRF(i j:Int):Prop:=kP i j=true
def fB:OpR X (binaryOp .Mult) (rI zRF fun i j=>.int (i*j)):=opI fun i j _ _ _ _ _ hc q=>by
 have hc':kP i j=true:=hc;unfold kP at hc';simp only[Xk,V8,J9] at hc';rcases hc' with (⟨h1,h2⟩ | ⟨h1,h2⟩) | h
 ·exact mul_int q (zSm.ok (.inl ⟨h1,h2⟩))
 ·exact mul_int q (zSm.ok (.inr ⟨h1,h2⟩))
 ·exact mul_int q (PySem.IntMulOk.of_le (Wg.mpr (zOQ i)) (Wg.mpr (zOQ j)) h)
def zQA(_ j:Int):Prop:=nE j=true
def eZ:OpR X (binaryOp .FloorDiv) (rI zQA fun i j=>.int (i.fdiv j)):=opI fun i j _ _ _ _ _ hc q=>by
 have hc':nE j=true:=hc;unfold nE at hc';simp only[V8,J9] at hc';refine floordiv_int hc'.1 q (.inl (PyProof.noPylong_of_log2 ?_))
 have h2:=hc'.2;unfold nb at h2;omega
def zQI(i j:Int):Prop:=tM i j=true
def pK:OpR X (binaryOp .Pow) (rI zQI fun i j=>.int (i^j.toNat)):=opI fun i j _ _ _ _ _ hc q=>by
 have hc':tM i j=true:=hc;unfold tM at hc';simp only[V8,J9] at hc';refine pow_int hc'.1 (Xm (Int.mul_le_mul_of_nonneg_right ?_ hc'.1) hc'.2) q
 have:=Wg.mpr (zOQ i)
 omega
def qQ:OpK X (rI zRF fun i j=>.int (i*j)) yX:=zKG (fun a b d z=>by
 unfold yX at z;split at z
 case h_2=>cases z
 rename_i i j
 have z':(if kP i j=true then Res.ok (D.int (i*j)) else .no)=.ok d:=z;by_cases h:kP i j=true
 ·rw[Jk h] at z';cases z';exact⟨i,j,rfl,rfl,h,rfl⟩
 ·rw[Jl h] at z';cases z') (fun a b c z=>by
 unfold yX at z;split at z
 case h_2=>cases z
 rename_i i j
 have z':(if kP i j=true then Res.ok (D.int (i*j)) else .no)=.err c:=z;by_cases h:kP i j=true
 ·rw[Jk h] at z';cases z'
 ·rw[Jl h] at z';cases z')
def qD:OpK X (rI zQA fun i j=>.int (i.fdiv j)) zB:=zKG (fun a b d z=>by
 unfold zB at z;split at z
 case h_2=>cases z
 rename_i i j
 have z':(if nE j=true then Res.ok (D.int (i.fdiv j)) else .no)=.ok d:=z;by_cases h:nE j=true
 ·rw[Jk h] at z';cases z';exact⟨i,j,rfl,rfl,h,rfl⟩
 ·rw[Jl h] at z';cases z') (fun a b c z=>by
 unfold zB at z;split at z
 case h_2=>cases z
 rename_i i j
 have z':(if nE j=true then Res.ok (D.int (i.fdiv j)) else .no)=.err c:=z;by_cases h:nE j=true
 ·rw[Jk h] at z';cases z'
 ·rw[Jl h] at z';cases z')
def jK:OpK X (rI (fun _ j=>j≠0) fun i j=>.int (i.fmod j)) pP:=zKG (fun a b d z=>by
 unfold pP at z;split at z
 case h_2=>cases z
 rename_i i j
 have z':(if j≠0 then Res.ok (D.int (i.fmod j)) else .no)=.ok d:=z;by_cases h:j≠0
 ·rw[Jk h] at z';cases z';exact⟨i,j,rfl,rfl,h,rfl⟩
 ·rw[Jl h] at z';cases z') (fun a b c z=>by
 unfold pP at z;split at z
 case h_2=>cases z
 rename_i i j
 have z':(if j≠0 then Res.ok (D.int (i.fmod j)) else .no)=.err c:=z;by_cases h:j≠0
 ·rw[Jk h] at z';cases z'
 ·rw[Jl h] at z';cases z')
def zDL:OpK X (rI zQI fun i j=>.int (i^j.toNat)) zIr:=zKG (fun a b d z=>by
 unfold zIr at z;split at z
 case h_2=>cases z
 rename_i i j
 have z':(if tM i j=true then Res.ok (D.int (i^j.toNat)) else .no)=.ok d:=z;by_cases h:tM i j=true
 ·rw[Jk h] at z';cases z';exact⟨i,j,rfl,rfl,h,rfl⟩
 ·rw[Jl h] at z';cases z') (fun a b c z=>by
 unfold zIr at z;split at z
 case h_2=>cases z
 rename_i i j
 have z':(if tM i j=true then Res.ok (D.int (i^j.toNat)) else .no)=.err c:=z;by_cases h:tM i j=true
 ·rw[Jk h] at z';cases z'
 ·rw[Jl h] at z';cases z')
def zRM(K:PySem.W.Frag):R2:=fun x y H Q=>∃ a b ys,x=.ref a/\y=.ref b/\SqT K H a []/\SqT K H b ys/\Q (.ref b) H
def zOV:OpR X (binaryOp .Add) (zRM X.K):=by
 intro Mi s m H x y v u Q I rx ry h;obtain⟨a,b,ys,rfl,rfl,ha,hb,q⟩:=h;cases rx;cases ry;obtain⟨its,r1,p1,_⟩:=I.tuple ha;obtain⟨its2,r2,p2,_⟩:=I.tuple hb;cases r1;obtain⟨⟨c1,d1,t1,s1⟩,ho1,hc1,n1,hd1⟩:=id p1;obtain⟨⟨c2,d2,t2,s2⟩,ho2,hc2,n2,hd2⟩:=id p2;simp only at hc1 hd1 hc2 hd2
 subst hc1 hd1 hc2 hd2;exact Jy ⟨_,ho1,rfl⟩ ⟨_,ho2,rfl⟩ Jz J0 Uy Uz (U0 _ _) (tuple_addW0 a b #[] its2.toArray n1 n2 d1 d2 s1 s2 rfl) ⟨ho1,ho2,⟨.ref b,H,I,rfl,q⟩⟩
def zPZ(K:PySem.W.Frag):R2:=fun x y H Q=>rI0 (fun i j=>.int (i+j)) x y H Q∨(zQP K x y H Q∨zRM K x y H Q)
def gQ:OpR X (binaryOp .Add) (zPZ X.K):=OpR.or zQJ (OpR.or zOu zOV)
def rM:OpK X (zPZ X.K) yF:=⟨fun a b c z=>(by
  unfold yF at z;split at z
  case h_1=>cases z
  case h_3=>cases z
  rename_i as bs
  have z':(if as.length+bs.length<=16777216 then Res.ok (D.tup (as++bs)) else .no)=.err c:=z
  split at z'<;>cases z'),fun Hi H x y a b d Q s r1 r2 z q=>by
  unfold yF at z;split at z
  case h_3=>cases z
  ·cases z
   exact .inl ⟨_,_,r1.intI,r2.intI,q _ Hi H (Ext.refl s) (.int _)⟩
  ·rename_i as bs
   have z':(if as.length+bs.length<=16777216 then Res.ok (D.tup (as++bs)) else .no)=.ok d:=z;split at z'
   ·rename_i hz
    cases z'
    obtain⟨p,xs,rfl,h1,i1⟩:=r1.tupI;obtain⟨p',ys,rfl,h2,i2⟩:=r2.tupI;by_cases h0:as.length=0
    ·have e0:as=[]:=Ua h0
     subst e0;cases i1;exact .inr (.inr ⟨p,p',ys,rfl,rfl,cC s h1,cC s h2,q _ Hi H (Ext.refl s) (.tup h2 i2)⟩)
    refine .inr (.inl ⟨p,p',xs,ys,rfl,rfl,cC s h1,cC s h2,fun e=>h0 (by rw[<-i1.length,e];rfl),by rw[i1.length,i2.length];exact hz,fun e=>?_,fun _ l hl=>?_⟩)
    ·subst e
     cases i2;rw[Vf] at q;exact q _ Hi H (Ext.refl s) (.tup h1 i1)
    ·exact q _ _ _ (Ext.new s hl) (.tup (SqT.of aR) ((i1.append i2).mono (cJ (s.none hl) _)))
   ·cases z'⟩
def zOi{A:Type}{xs:List A}{i:Int}{v:A}(h0:i<0)(h1:0<=(xs.length:Int)+i)(h:xs[((xs.length:Int)+i).toNat]?=some v):atI xs i=some v:=by
 have e:ixN xs.length i=some ((xs.length:Int)+i).toNat:=by
  unfold ixN;rw[Jl ⋯,Jk ⋯];congr 2
  omega
 unfold atI;rw[e];exact h
def zKc{K:Fg_}{H:Hp}{xs:List V}{ds:List D}{i:Int}{d:D}(h:IsDs K H xs ds)(e:atD ds i=some d):∃ v,atI xs i=some v/\IsD K H v d:=by
 unfold atD at e;by_cases h0:0<=i
 ·rw[Jk h0] at e
  obtain⟨v,hv,r⟩:=h.at e;refine⟨v,?_,r⟩
  have:=zDy hv
  rw[show((i.toNat:Nat):Int)=i by omega] at this;exact this
 ·rw[Jl h0] at e
  by_cases h1:0<=(ds.length:Int)+i
  ·rw[Jk h1] at e
   obtain⟨v,hv,r⟩:=h.at e;refine⟨v,?_,r⟩
   have hl:=h.length;have e2:((ds.length:Int)+i).toNat=((xs.length:Int)+i).toNat:=by rw[hl]
   rw[e2] at hv;exact zOi ⋯ ⋯ hv
  ·rw[Jl h1] at e;cases e
def oW:OpK X (fun x y H Q=>zSe X.K x y H Q∨zSk X.K x y H Q) oIx:=⟨fun a b c z=>(by
  unfold oIx at z;split at z
  case h_3=>cases z
  ·rename_i ds i
   have z':ofO (atD ds i)=Res.err c:=z;cases q:atD ds i<;>rw[q] at z'<;>cases z'
  ·rename_i ds i
   have z':ofO (atD ds i)=Res.err c:=z
   cases q:atD ds i<;>rw[q] at z'<;>cases z'),fun Hi H x y a b d Q s r1 r2 z q=>by
  unfold oIx at z;split at z
  case h_3=>cases z
  ·rename_i ds i
   have z':ofO (atD ds i)=Res.ok d:=z
   cases w:atD ds i with
   | none=>rw[w] at z';cases z'
   | some d'=>
    rw[w] at z';cases z'
    obtain⟨p,xs,rfl,h1,i1⟩:=r1.tupI;obtain⟨v,hv,r⟩:=zKc i1 w;exact .inr ⟨p,xs,i,v,rfl,r2.intI,cC s h1,hv,q v Hi H (Ext.refl s) r⟩
  ·rename_i ds i
   have z':ofO (atD ds i)=Res.ok d:=z
   cases w:atD ds i with
   | none=>rw[w] at z';cases z'
   | some d'=>
    rw[w] at z';cases z'
    obtain⟨p,xs,rfl,h1,i1⟩:=r1.lstI;obtain⟨v,hv,r⟩:=zKc i1 w
    exact .inl ⟨p,xs,i,v,rfl,r2.intI,bY s h1,hv,q v Hi H (Ext.refl s) r⟩⟩
def bG:IxR X (fun x y H Q=>zSe X.K x y H Q∨zSk X.K x y H Q):=zOC.or zQY
end
section
variable{X:Cx}{Mi:List (Jc×Obj)}{r:St}{H:Hp}{s:Jb}
mutual
def IsD.inj(I:Inv X Mi r H s):∀ {v:V} {d e:D},IsD X.K H v d->IsD X.K H v e->d=e
 | _,_,_,.non,h=>by cases h;rfl
 | _,_,_,.bl b,h=>by cases h;rfl
 | _,_,_,.int i,h=>by cases h;rfl
 | _,_,_,.str x,h=>by cases h;rfl
 | _,_,_,.tup h hs,h2=>by
  cases h2 with
  | tup h' hs'=>
   have e:=I.tuple_inj h h';subst e;rw[IsDs.inj I hs hs']
  | lst h' hs'=>
   exfalso
   obtain⟨_,_,⟨o,e,c,_⟩,_⟩:=I.tuple h;obtain⟨_,_,⟨o',n',e',c',_⟩,_⟩:=I.list h';rw[e] at e';cases e';rw[c] at c';exact absurd c' (by decide)
 | _,_,_,.lst h hs,h2=>by
  cases h2 with
  | lst h' hs'=>
   have e:=I.list_inj h h';subst e;rw[IsDs.inj I hs hs']
  | tup h' hs'=>
   exfalso
   obtain⟨_,_,⟨o,e,c,_⟩,_⟩:=I.tuple h';obtain⟨_,_,⟨o',n',e',c',_⟩,_⟩:=I.list h;rw[e] at e';cases e';rw[c] at c';exact absurd c' (by decide)
def IsDs.inj(I:Inv X Mi r H s):∀ {vs:List V} {ds es:List D},IsDs X.K H vs ds->IsDs X.K H vs es->ds=es
 | _,_,_,.nil,h=>by cases h;rfl
 | _,_,_,.cons h hs,h2=>by
  cases h2 with
  | cons h' hs'=>rw[IsD.inj I h h',IsDs.inj I hs hs']
end
def zJj{r:Type}{l:List r}{j:Nat}{x d:r}(h:l[j]?=some x):l.getD j d=x:=by
 rw[Qv,h];rfl
def oF{A:Jh}{xs xs':List V}{ds ds':List D}{its its':List Ja}(hs:IsDs X.K H xs ds)(hs':IsDs X.K H xs' ds')(rv:cX xs its)(rv':cX xs' its')
  (rc:∀(d d':D)(v v':V)(u u':Ja),d∈ds->IsD X.K H v d->IsD X.K H v' d'->cW v u->cW v' u'->SeqAt.EqAt A s u u' (eqD d d'))
  (j:Nat) (g1:j<its.toArray.size) (g2:j<its'.toArray.size):SeqAt.EqAt A s its.toArray[j] its'.toArray[j] (eqD (ds.getD j .non) (ds'.getD j .non)):=by
 have g1':j<its.length:=by simpa using g1
 have g2':j<its'.length:=by simpa using g2
 have l1:its.length=ds.length:=by rw[<-rv.length,hs.length]
 have l2:its'.length=ds'.length:=by rw[<-rv'.length,hs'.length]
 obtain⟨d,hd⟩:∃ d,ds[j]?=some d:=⟨_,Qq ⋯⟩
 obtain⟨d',hd'⟩:∃ d,ds'[j]?=some d:=⟨_,Qq ⋯⟩
 obtain⟨v,hv,iv⟩:=hs.at hd;obtain⟨v',hv',iv'⟩:=hs'.at hd';obtain⟨w1,hw,rw1⟩:=rv.get hv;obtain⟨w2,hw',rw2⟩:=rv'.get hv'
 have e1:its.toArray[j]=w1:=by
  rw[Qq g1'] at hw;simpa using hw
 have e2:its'.toArray[j]=w2:=by
  rw[Qq g2'] at hw';simpa using hw'
 rw[e1,e2,zJj hd,zJj hd'];exact rc d d' v v' w1 w2 (Qj hd) iv iv' rw1 rw2
def jJ{ds ds':List D}(h:ds.length=ds'.length):((List.range ds.length).all fun j=>eqD (ds.getD j .non) (ds'.getD j .non))=zCN ds ds':=by
 rw[oE,<-h,Ub];simp
def zAT{ds ds':List D}(h:ds.length≠ds'.length):zCN ds ds'=false:=by
 rw[oE];simp[h]
def zCZ(I:Inv X Mi c H s){A:Jh}{v v':V}{d d':D}{u u':Ja}(h1:IsD X.K H v d)(h2:IsD X.K H v' d')(r1:cW v u)(r2:cW v' u')(hu:A.units<cLine)
  (rc:∀ ds,(d=.tup ds∨d=.lst ds)->∀(e e':D)(w w':V)(z z':Ja),e∈ds->IsD X.K H w e->IsD X.K H w' e'->cW w z->cW w' z'->SeqAt.EqAt A.in1 s z z' (eqD e e')):
  SeqAt.EqAt A s u u' (eqD d d'):=by
 cases h1 with
 | non=>
  cases (show u=Value.none from r1)
  cases h2 with
  | non=>cases (show u'=Value.none from r2);exact SeqAt.EqAt.same _
  | bl b=>cases (show u'=Value.bool _ from r2);exact SeqAt.EqAt.none_bool _
  | int i=>obtain⟨t,rfl⟩:=r2;exact SeqAt.EqAt.none_int _ _
  | str x=>obtain⟨t,rfl⟩:=r2;exact SeqAt.EqAt.none_str _ _
  | tup h hs=>cases (show u'=Value.ref _ from r2);obtain⟨its,rv,p,hz⟩:=I.tuple h;exact SeqAt.EqAt.none_tuple (show s.heap.IsTuple _ its.toArray from p) hu
  | lst h hs=>cases (show u'=Value.ref _ from r2);obtain⟨its,rv,p,hz⟩:=I.list h;exact SeqAt.EqAt.none_list p.isList hu
 | bl b=>
  cases (show u=Value.bool _ from r1)
  cases h2 with
  | non=>cases (show u'=Value.none from r2);exact SeqAt.EqAt.bool_none _
  | bl b=>cases (show u'=Value.bool _ from r2);exact SeqAt.EqAt.bool_bool _ _
  | int i=>obtain⟨t,rfl⟩:=r2;exact SeqAt.EqAt.bool_int _ _ _
  | str x=>obtain⟨t,rfl⟩:=r2;exact SeqAt.EqAt.bool_str _ _ _
  | tup h hs=>cases (show u'=Value.ref _ from r2);obtain⟨its,rv,p,hz⟩:=I.tuple h;exact SeqAt.EqAt.bool_tuple _ (show s.heap.IsTuple _ its.toArray from p) hu
  | lst h hs=>cases (show u'=Value.ref _ from r2);obtain⟨its,rv,p,hz⟩:=I.list h;exact SeqAt.EqAt.bool_list _ p.isList hu
 | int i=>
  obtain⟨t,rfl⟩:=r1
  cases h2 with
  | non=>cases (show u'=Value.none from r2);exact SeqAt.EqAt.int_none _ _
  | bl b=>cases (show u'=Value.bool _ from r2);exact SeqAt.EqAt.int_bool _ _ _
  | int i=>obtain⟨t,rfl⟩:=r2;exact SeqAt.EqAt.int_int _ _ _ _
  | str x=>obtain⟨t,rfl⟩:=r2;exact SeqAt.EqAt.int_str _ _ _ _
  | tup h hs=>cases (show u'=Value.ref _ from r2);obtain⟨its,rv,p,hz⟩:=I.tuple h;exact SeqAt.EqAt.int_tuple _ _ (show s.heap.IsTuple _ its.toArray from p) hu
  | lst h hs=>cases (show u'=Value.ref _ from r2);obtain⟨its,rv,p,hz⟩:=I.list h;exact SeqAt.EqAt.int_list _ _ p.isList hu
 | str x=>
  obtain⟨t,rfl⟩:=r1
  cases h2 with
  | non=>cases (show u'=Value.none from r2);exact SeqAt.EqAt.str_none _ _
  | bl b=>cases (show u'=Value.bool _ from r2);exact SeqAt.EqAt.str_bool _ _ _
  | int i=>obtain⟨t,rfl⟩:=r2;exact SeqAt.EqAt.str_int _ _ _ _
  | str x=>obtain⟨t,rfl⟩:=r2;exact SeqAt.EqAt.str_str _ _ _ _
  | tup h hs=>cases (show u'=Value.ref _ from r2);obtain⟨its,rv,p,hz⟩:=I.tuple h;exact SeqAt.EqAt.str_tuple _ _ (show s.heap.IsTuple _ its.toArray from p) hu
  | lst h hs=>cases (show u'=Value.ref _ from r2);obtain⟨its,rv,p,hz⟩:=I.list h;exact SeqAt.EqAt.str_list _ _ p.isList hu
 | @tup a xs ds h hs=>
  cases (show u=Value.ref a from r1)
  obtain⟨its,rv,p,hz⟩:=I.tuple h
  cases h2 with
  | non=>cases (show u'=Value.none from r2);exact SeqAt.EqAt.tuple_none (show s.heap.IsTuple _ its.toArray from p) hu
  | bl b=>cases (show u'=Value.bool _ from r2);exact SeqAt.EqAt.tuple_bool _ (show s.heap.IsTuple _ its.toArray from p) hu
  | int i=>obtain⟨t,rfl⟩:=r2;exact SeqAt.EqAt.tuple_int _ _ (show s.heap.IsTuple _ its.toArray from p) hu
  | str x=>obtain⟨t,rfl⟩:=r2;exact SeqAt.EqAt.tuple_str _ _ (show s.heap.IsTuple _ its.toArray from p) hu
  | @tup a' xs' ds' h' hs'=>
   cases (show u'=Value.ref a' from r2)
   by_cases e:a=a'
   ·subst e
    have e:=I.tuple_inj h h';subst e;have e:=IsDs.inj I hs hs';subst e;rw[qI];exact SeqAt.EqAt.same _
   ·obtain⟨its',rv',p',hz'⟩:=I.tuple h'
    have l1:its.toArray.size=ds.length:=by rw[Ql,<-rv.length,hs.length]
    have l2:its'.toArray.size=ds'.length:=by rw[Ql,<-rv'.length,hs'.length]
    have key:=SeqAt.RcAt.tuples (A:=A) (s:=s) (show s.heap.IsTuple a its.toArray from p) (show s.heap.IsTuple a' its'.toArray from p') hu
     (oF (A:=A.in1) (s:=s) hs hs' rv rv' fun d d' v v' u u' hm iv iv' r r'=>rc ds (.inl rfl) d d' v v' u u' hm iv iv' r r')
    rw[l1,l2,<-oE] at key;exact SeqAt.EqAt.of_refs e key
  | @lst a' xs' ds' h' hs'=>
   cases (show u'=Value.ref a' from r2)
   obtain⟨its',rv',p',hz'⟩:=I.list h';exact SeqAt.EqAt.tuple_list (show s.heap.IsTuple _ its.toArray from p) p'.isList hu
 | @lst a xs ds h hs=>
  cases (show u=Value.ref a from r1)
  obtain⟨its,rv,p,hz⟩:=I.list h
  cases h2 with
  | non=>cases (show u'=Value.none from r2);exact SeqAt.EqAt.list_none p.isList hu
  | bl b=>cases (show u'=Value.bool _ from r2);exact SeqAt.EqAt.list_bool _ p.isList hu
  | int i=>obtain⟨t,rfl⟩:=r2;exact SeqAt.EqAt.list_int _ _ p.isList hu
  | str x=>obtain⟨t,rfl⟩:=r2;exact SeqAt.EqAt.list_str _ _ p.isList hu
  | @tup a' xs' ds' h' hs'=>
   cases (show u'=Value.ref a' from r2)
   obtain⟨its',rv',p',hz'⟩:=I.tuple h';exact SeqAt.EqAt.list_tuple p.isList (show s.heap.IsTuple _ its'.toArray from p') hu
  | @lst a' xs' ds' h' hs'=>
   cases (show u'=Value.ref a' from r2)
   by_cases e:a=a'
   ·subst e
    have e:=I.list_inj h h';subst e;have e:=IsDs.inj I hs hs';subst e;rw[qI];exact SeqAt.EqAt.same _
   ·obtain⟨its',rv',p',hz'⟩:=I.list h'
    have l1:its.toArray.size=ds.length:=by rw[Ql,<-rv.length,hs.length]
    have l2:its'.toArray.size=ds'.length:=by rw[Ql,<-rv'.length,hs'.length]
    by_cases hl:ds.length=ds'.length
    ·have key:=SeqAt.RcAt.lists (A:=A) (s:=s) p.isList p'.isList (by rw[l1,l2,hl]) hu
      (oF (A:=A.in1) (s:=s) hs hs' rv rv' fun d d' v v' u u' hm iv iv' r r'=>rc ds (.inr rfl) d d' v v' u u' hm iv iv' r r')
     rw[l1,jJ hl] at key;exact SeqAt.EqAt.of_refs e key
    ·have key:=SeqAt.RcAt.lists_lengths (A:=A) (s:=s) p.isList p'.isList (by rw[l1,l2];simp[hl]) hu
     rw[eqD,zAT hl];exact SeqAt.EqAt.of_refs e key
def zHX(I:Inv X Mi r H s)(n:Nat):∀ {v v':V} {d d':D},dep d<=n->IsD X.K H v d->IsD X.K H v' d'->
  ∀(A:Jh)(u u':Ja),A.units+n<cLine->cW v u->cW v' u'->SeqAt.EqAt A s u u' (eqD d d'):=by
 induction n with
 | zero=>
  intro v v' d d' hn h1 h2 A u u' hu r1 r2;refine zCZ I h1 h2 r1 r2 ⋯ fun ds hd=>?_
  rcases hd with rfl | rfl<;>(rw[dep] at hn;omega)
 | succ n ih=>
  intro v v' d d' hn h1 h2 A u u' hu r1 r2;refine zCZ I h1 h2 r1 r2 ⋯ fun ds hd e e' w w' z z' hm i1 i2 q1 q2=>?_
  refine ih ?_ i1 i2 A.in1 z z' (by show A.units+1+n<cLine;omega) q1 q2
  have:=uU hm
  rcases hd with rfl | rfl<;>(rw[dep] at hn;omega)
def zHS(I:Inv X Mi c H s){A:Jh}{v v':V}{d d':D}{u u':Ja}(h1:IsD X.K H v d)(h2:IsD X.K H v' d')(r1:cW v u)(r2:cW v' u')(hu:A.units<cLine)
  (rc:∀ ds,(d=.tup ds∨d=.lst ds)->∀(e e':D)(w w':V)(z z':Ja),e∈ds->IsD X.K H w e->IsD X.K H w' e'->cW w z->cW w' z'->SeqAt.EqAt A.in1 s z z' (eqD e e')):
  SeqAt.RcAt A s u u' (eqD d d'):=by
 cases h1 with
 | non=>
  cases (show u=Value.none from r1)
  cases h2 with
  | non=>cases (show u'=Value.none from r2);exact SeqAt.RcAt.none_none
  | bl b=>cases (show u'=Value.bool _ from r2);exact SeqAt.RcAt.none_bool _
  | int i=>obtain⟨t,rfl⟩:=r2;exact SeqAt.RcAt.none_int _ _
  | str x=>obtain⟨t,rfl⟩:=r2;exact SeqAt.RcAt.none_str _ _
  | tup h hs=>cases (show u'=Value.ref _ from r2);obtain⟨its,rv,p,hz⟩:=I.tuple h;exact SeqAt.RcAt.none_tuple (show s.heap.IsTuple _ its.toArray from p) hu
  | lst h hs=>cases (show u'=Value.ref _ from r2);obtain⟨its,rv,p,hz⟩:=I.list h;exact SeqAt.RcAt.none_list p.isList hu
 | bl b=>
  cases (show u=Value.bool _ from r1)
  cases h2 with
  | non=>cases (show u'=Value.none from r2);exact SeqAt.RcAt.bool_none _
  | bl b=>cases (show u'=Value.bool _ from r2);exact SeqAt.RcAt.bool_bool _ _
  | int i=>obtain⟨t,rfl⟩:=r2;exact SeqAt.RcAt.bool_int _ _ _
  | str x=>obtain⟨t,rfl⟩:=r2;exact SeqAt.RcAt.bool_str _ _ _
  | tup h hs=>cases (show u'=Value.ref _ from r2);obtain⟨its,rv,p,hz⟩:=I.tuple h;exact SeqAt.RcAt.bool_tuple _ (show s.heap.IsTuple _ its.toArray from p) hu
  | lst h hs=>cases (show u'=Value.ref _ from r2);obtain⟨its,rv,p,hz⟩:=I.list h;exact SeqAt.RcAt.bool_list _ p.isList hu
 | int i=>
  obtain⟨t,rfl⟩:=r1
  cases h2 with
  | non=>cases (show u'=Value.none from r2);exact SeqAt.RcAt.int_none _ _
  | bl b=>cases (show u'=Value.bool _ from r2);exact SeqAt.RcAt.int_bool _ _ _
  | int i=>obtain⟨t,rfl⟩:=r2;exact SeqAt.RcAt.int_int _ _ _ _
  | str x=>obtain⟨t,rfl⟩:=r2;exact SeqAt.RcAt.int_str _ _ _ _
  | tup h hs=>cases (show u'=Value.ref _ from r2);obtain⟨its,rv,p,hz⟩:=I.tuple h;exact SeqAt.RcAt.int_tuple _ _ (show s.heap.IsTuple _ its.toArray from p) hu
  | lst h hs=>cases (show u'=Value.ref _ from r2);obtain⟨its,rv,p,hz⟩:=I.list h;exact SeqAt.RcAt.int_list _ _ p.isList hu
 | str x=>
  obtain⟨t,rfl⟩:=r1
  cases h2 with
  | non=>cases (show u'=Value.none from r2);exact SeqAt.RcAt.str_none _ _
  | bl b=>cases (show u'=Value.bool _ from r2);exact SeqAt.RcAt.str_bool _ _ _
  | int i=>obtain⟨t,rfl⟩:=r2;exact SeqAt.RcAt.str_int _ _ _ _
  | str x=>obtain⟨t,rfl⟩:=r2;exact SeqAt.RcAt.str_str _ _ _ _
  | tup h hs=>cases (show u'=Value.ref _ from r2);obtain⟨its,rv,p,hz⟩:=I.tuple h;exact SeqAt.RcAt.str_tuple _ _ (show s.heap.IsTuple _ its.toArray from p) hu
  | lst h hs=>cases (show u'=Value.ref _ from r2);obtain⟨its,rv,p,hz⟩:=I.list h;exact SeqAt.RcAt.str_list _ _ p.isList hu
 | @tup a xs ds h hs=>
  cases (show u=Value.ref a from r1)
  obtain⟨its,rv,p,hz⟩:=I.tuple h
  cases h2 with
  | non=>cases (show u'=Value.none from r2);exact SeqAt.RcAt.tuple_none (show s.heap.IsTuple _ its.toArray from p) hu
  | bl b=>cases (show u'=Value.bool _ from r2);exact SeqAt.RcAt.tuple_bool _ (show s.heap.IsTuple _ its.toArray from p) hu
  | int i=>obtain⟨t,rfl⟩:=r2;exact SeqAt.RcAt.tuple_int _ _ (show s.heap.IsTuple _ its.toArray from p) hu
  | str x=>obtain⟨t,rfl⟩:=r2;exact SeqAt.RcAt.tuple_str _ _ (show s.heap.IsTuple _ its.toArray from p) hu
  | @tup a' xs' ds' h' hs'=>
   cases (show u'=Value.ref a' from r2)
   ·obtain⟨its',rv',p',hz'⟩:=I.tuple h'
    have l1:its.toArray.size=ds.length:=by rw[Ql,<-rv.length,hs.length]
    have l2:its'.toArray.size=ds'.length:=by rw[Ql,<-rv'.length,hs'.length]
    have key:=SeqAt.RcAt.tuples (A:=A) (s:=s) (show s.heap.IsTuple a its.toArray from p) (show s.heap.IsTuple a' its'.toArray from p') hu
     (oF (A:=A.in1) (s:=s) hs hs' rv rv' fun d d' v v' u u' hm iv iv' r r'=>rc ds (.inl rfl) d d' v v' u u' hm iv iv' r r')
    rw[l1,l2,<-oE] at key;exact key
  | @lst a' xs' ds' h' hs'=>
   cases (show u'=Value.ref a' from r2)
   obtain⟨its',rv',p',hz'⟩:=I.list h';exact SeqAt.RcAt.tuple_list (show s.heap.IsTuple _ its.toArray from p) p'.isList hu
 | @lst a xs ds h hs=>
  cases (show u=Value.ref a from r1)
  obtain⟨its,rv,p,hz⟩:=I.list h
  cases h2 with
  | non=>cases (show u'=Value.none from r2);exact SeqAt.RcAt.list_none p.isList hu
  | bl b=>cases (show u'=Value.bool _ from r2);exact SeqAt.RcAt.list_bool _ p.isList hu
  | int i=>obtain⟨t,rfl⟩:=r2;exact SeqAt.RcAt.list_int _ _ p.isList hu
  | str x=>obtain⟨t,rfl⟩:=r2;exact SeqAt.RcAt.list_str _ _ p.isList hu
  | @tup a' xs' ds' h' hs'=>
   cases (show u'=Value.ref a' from r2)
   obtain⟨its',rv',p',hz'⟩:=I.tuple h';exact SeqAt.RcAt.list_tuple p.isList (show s.heap.IsTuple _ its'.toArray from p') hu
  | @lst a' xs' ds' h' hs'=>
   cases (show u'=Value.ref a' from r2)
   ·obtain⟨its',rv',p',hz'⟩:=I.list h'
    have l1:its.toArray.size=ds.length:=by rw[Ql,<-rv.length,hs.length]
    have l2:its'.toArray.size=ds'.length:=by rw[Ql,<-rv'.length,hs'.length]
    by_cases hl:ds.length=ds'.length
    ·have key:=SeqAt.RcAt.lists (A:=A) (s:=s) p.isList p'.isList (by rw[l1,l2,hl]) hu
      (oF (A:=A.in1) (s:=s) hs hs' rv rv' fun d d' v v' u u' hm iv iv' r r'=>rc ds (.inr rfl) d d' v v' u u' hm iv iv' r r')
     rw[l1,jJ hl] at key;exact key
    ·have key:=SeqAt.RcAt.lists_lengths (A:=A) (s:=s) p.isList p'.isList (by rw[l1,l2];simp[hl]) hu
     rw[eqD,zAT hl];exact key
def zHD(I:Inv X Mi c H s){A:Jh}{v v':V}{d d':D}{u u':Ja}(h1:IsD X.K H v d)(h2:IsD X.K H v' d')(r1:cW v u)(r2:cW v' u')(hu:A.units<cLine)
  (rc:∀ ds,(d=.tup ds∨d=.lst ds)->∀(e e':D)(w w':V)(z z':Ja),e∈ds->IsD X.K H w e->IsD X.K H w' e'->cW w z->cW w' z'->SeqAt.EqAt A.in1 s z z' (eqD e e')):
  SeqAt.RcNeAt A s u u' (!eqD d d'):=by
 cases h1 with
 | non=>
  cases (show u=Value.none from r1)
  cases h2 with
  | non=>cases (show u'=Value.none from r2);exact SeqAt.RcNeAt.none_none
  | bl b=>cases (show u'=Value.bool _ from r2);exact SeqAt.RcNeAt.none_bool _
  | int i=>obtain⟨t,rfl⟩:=r2;exact SeqAt.RcNeAt.none_int _ _
  | str x=>obtain⟨t,rfl⟩:=r2;exact SeqAt.RcNeAt.none_str _ _
  | tup h hs=>cases (show u'=Value.ref _ from r2);obtain⟨its,rv,p,hz⟩:=I.tuple h;exact SeqAt.RcNeAt.none_tuple (show s.heap.IsTuple _ its.toArray from p) hu
  | lst h hs=>cases (show u'=Value.ref _ from r2);obtain⟨its,rv,p,hz⟩:=I.list h;exact SeqAt.RcNeAt.none_list p.isList hu
 | bl b=>
  cases (show u=Value.bool _ from r1)
  cases h2 with
  | non=>cases (show u'=Value.none from r2);exact SeqAt.RcNeAt.bool_none _
  | bl b=>cases (show u'=Value.bool _ from r2);exact SeqAt.RcNeAt.bool_bool _ _
  | int i=>obtain⟨t,rfl⟩:=r2;exact SeqAt.RcNeAt.bool_int _ _ _
  | str x=>obtain⟨t,rfl⟩:=r2;exact SeqAt.RcNeAt.bool_str _ _ _
  | tup h hs=>cases (show u'=Value.ref _ from r2);obtain⟨its,rv,p,hz⟩:=I.tuple h;exact SeqAt.RcNeAt.bool_tuple _ (show s.heap.IsTuple _ its.toArray from p) hu
  | lst h hs=>cases (show u'=Value.ref _ from r2);obtain⟨its,rv,p,hz⟩:=I.list h;exact SeqAt.RcNeAt.bool_list _ p.isList hu
 | int i=>
  obtain⟨t,rfl⟩:=r1
  cases h2 with
  | non=>cases (show u'=Value.none from r2);exact SeqAt.RcNeAt.int_none _ _
  | bl b=>cases (show u'=Value.bool _ from r2);exact SeqAt.RcNeAt.int_bool _ _ _
  | int i=>obtain⟨t,rfl⟩:=r2;exact SeqAt.RcNeAt.int_int _ _ _ _
  | str x=>obtain⟨t,rfl⟩:=r2;exact SeqAt.RcNeAt.int_str _ _ _ _
  | tup h hs=>cases (show u'=Value.ref _ from r2);obtain⟨its,rv,p,hz⟩:=I.tuple h;exact SeqAt.RcNeAt.int_tuple _ _ (show s.heap.IsTuple _ its.toArray from p) hu
  | lst h hs=>cases (show u'=Value.ref _ from r2);obtain⟨its,rv,p,hz⟩:=I.list h;exact SeqAt.RcNeAt.int_list _ _ p.isList hu
 | str x=>
  obtain⟨t,rfl⟩:=r1
  cases h2 with
  | non=>cases (show u'=Value.none from r2);exact SeqAt.RcNeAt.str_none _ _
  | bl b=>cases (show u'=Value.bool _ from r2);exact SeqAt.RcNeAt.str_bool _ _ _
  | int i=>obtain⟨t,rfl⟩:=r2;exact SeqAt.RcNeAt.str_int _ _ _ _
  | str x=>obtain⟨t,rfl⟩:=r2;exact SeqAt.RcNeAt.str_str _ _ _ _
  | tup h hs=>cases (show u'=Value.ref _ from r2);obtain⟨its,rv,p,hz⟩:=I.tuple h;exact SeqAt.RcNeAt.str_tuple _ _ (show s.heap.IsTuple _ its.toArray from p) hu
  | lst h hs=>cases (show u'=Value.ref _ from r2);obtain⟨its,rv,p,hz⟩:=I.list h;exact SeqAt.RcNeAt.str_list _ _ p.isList hu
 | @tup a xs ds h hs=>
  cases (show u=Value.ref a from r1)
  obtain⟨its,rv,p,hz⟩:=I.tuple h
  cases h2 with
  | non=>cases (show u'=Value.none from r2);exact SeqAt.RcNeAt.tuple_none (show s.heap.IsTuple _ its.toArray from p) hu
  | bl b=>cases (show u'=Value.bool _ from r2);exact SeqAt.RcNeAt.tuple_bool _ (show s.heap.IsTuple _ its.toArray from p) hu
  | int i=>obtain⟨t,rfl⟩:=r2;exact SeqAt.RcNeAt.tuple_int _ _ (show s.heap.IsTuple _ its.toArray from p) hu
  | str x=>obtain⟨t,rfl⟩:=r2;exact SeqAt.RcNeAt.tuple_str _ _ (show s.heap.IsTuple _ its.toArray from p) hu
  | @tup a' xs' ds' h' hs'=>
   cases (show u'=Value.ref a' from r2)
   ·obtain⟨its',rv',p',hz'⟩:=I.tuple h'
    have l1:its.toArray.size=ds.length:=by rw[Ql,<-rv.length,hs.length]
    have l2:its'.toArray.size=ds'.length:=by rw[Ql,<-rv'.length,hs'.length]
    have key:=SeqAt.RcNeAt.tuples (A:=A) (s:=s) (show s.heap.IsTuple a its.toArray from p) (show s.heap.IsTuple a' its'.toArray from p') hu
     (oF (A:=A.in1) (s:=s) hs hs' rv rv' fun d d' v v' u u' hm iv iv' r r'=>rc ds (.inl rfl) d d' v v' u u' hm iv iv' r r')
    rw[l1,l2,<-oE] at key;exact key
  | @lst a' xs' ds' h' hs'=>
   cases (show u'=Value.ref a' from r2)
   obtain⟨its',rv',p',hz'⟩:=I.list h';exact SeqAt.RcNeAt.tuple_list (show s.heap.IsTuple _ its.toArray from p) p'.isList hu
 | @lst a xs ds h hs=>
  cases (show u=Value.ref a from r1)
  obtain⟨its,rv,p,hz⟩:=I.list h
  cases h2 with
  | non=>cases (show u'=Value.none from r2);exact SeqAt.RcNeAt.list_none p.isList hu
  | bl b=>cases (show u'=Value.bool _ from r2);exact SeqAt.RcNeAt.list_bool _ p.isList hu
  | int i=>obtain⟨t,rfl⟩:=r2;exact SeqAt.RcNeAt.list_int _ _ p.isList hu
  | str x=>obtain⟨t,rfl⟩:=r2;exact SeqAt.RcNeAt.list_str _ _ p.isList hu
  | @tup a' xs' ds' h' hs'=>
   cases (show u'=Value.ref a' from r2)
   obtain⟨its',rv',p',hz'⟩:=I.tuple h';exact SeqAt.RcNeAt.list_tuple p.isList (show s.heap.IsTuple _ its'.toArray from p') hu
  | @lst a' xs' ds' h' hs'=>
   cases (show u'=Value.ref a' from r2)
   ·obtain⟨its',rv',p',hz'⟩:=I.list h'
    have l1:its.toArray.size=ds.length:=by rw[Ql,<-rv.length,hs.length]
    have l2:its'.toArray.size=ds'.length:=by rw[Ql,<-rv'.length,hs'.length]
    by_cases hl:ds.length=ds'.length
    ·have key:=SeqAt.RcNeAt.lists (A:=A) (s:=s) p.isList p'.isList (by rw[l1,l2,hl]) hu
      (oF (A:=A.in1) (s:=s) hs hs' rv rv' fun d d' v v' u u' hm iv iv' r r'=>rc ds (.inr rfl) d d' v v' u u' hm iv iv' r r')
     rw[l1,jJ hl] at key;exact key
    ·have key:=SeqAt.RcNeAt.lists_lengths (A:=A) (s:=s) p.isList p'.isList (by rw[l1,l2];simp[hl]) hu
     rw[eqD,zAT hl];exact key
def eqA{X:Cx}(hu:X.A.units+64<cLine):OpR X (compareOp .Eq) (fun x y H Q=>∃ d d',IsD X.K H x d/\IsD X.K H y d'/\dep d<=50/\Q (.bl (eqD d d')) H):=by
 intro Mi s r H x y v u Q I rx ry h;obtain⟨d,d',h1,h2,hn,q⟩:=h;refine zHS I h1 h2 rx ry ⋯ (fun ds hd e e' w w' z z' hm i1 i2 q1 q2=>?_) X.prog X.w X.xe _ ⟨.bl _,H,I,rfl,q⟩
 refine zHX I 50 ?_ i1 i2 X.A.in1 z z' (by show X.A.units+1+50<cLine;omega) q1 q2
 have:=uU hm
 rcases hd with rfl | rfl<;>(rw[dep] at hn;omega)
def neA{X:Cx}(hu:X.A.units+64<cLine):OpR X (compareOp .NotEq) (fun x y H Q=>∃ d d',IsD X.K H x d/\IsD X.K H y d'/\dep d<=50/\Q (.bl (!eqD d d')) H):=by
 intro Mi s r H x y v u Q I rx ry h;obtain⟨d,d',h1,h2,hn,q⟩:=h;refine zHD I h1 h2 rx ry ⋯ (fun ds hd e e' w w' z z' hm i1 i2 q1 q2=>?_) X.prog X.w X.xe _ ⟨.bl _,H,I,rfl,q⟩
 refine zHX I 50 ?_ i1 i2 X.A.in1 z z' (by show X.A.units+1+50<cLine;omega) q1 q2
 have:=uU hm
 rcases hd with rfl | rfl<;>(rw[dep] at hn;omega)
def pG{X:Cx}:OpK X (fun x y H Q=>∃ d d',IsD X.K H x d/\IsD X.K H y d'/\dep d<=50/\Q (.bl (eqD d d')) H) oEq:=⟨fun a b c z=>(by
  unfold oEq at z;split at z<;>cases z),fun Hi H x y a b d Q s r1 r2 z q=>by
  unfold oEq at z;split at z
  ·rename_i h;cases z;exact⟨a,b,r1.mono s,r2.mono s,h,q _ Hi H (Ext.refl s) (.bl _)⟩
  ·cases z⟩
def zKr{X:Cx}:OpK X (fun x y H Q=>∃ d d',IsD X.K H x d/\IsD X.K H y d'/\dep d<=50/\Q (.bl (!eqD d d')) H) oNe:=⟨fun a b c z=>(by
  unfold oNe at z;split at z<;>cases z),fun Hi H x y a b d Q s r1 r2 z q=>by
  unfold oNe at z;split at z
  ·rename_i h;cases z;exact⟨a,b,r1.mono s,r2.mono s,h,q _ Hi H (Ext.refl s) (.bl _)⟩
  ·cases z⟩
open Classical in
def zPG(K:PySem.W.Frag)(H:Hp)(dx:D)(u:Ja):Bool:=if ∃ w d,IsD K H w d/\cW w u/\eqD d dx=true then true else false
def zHe(I:Inv X Mi p H s){dx d:D}{w:V}{u:Ja}(h:IsD X.K H w d)(r:cW w u):zPG X.K H dx u=eqD d dx:=by
 unfold zPG;by_cases e:eqD d dx=true
 ·rw[Jk ⟨w,d,h,r,e⟩,e]
 ·rw[Jl]
  ·simpa using e
  ·rintro⟨w',d',h',r',e'⟩
   have:=r.inj r'
   subst this;have:=IsD.inj I h h'
   subst this;exact e e'
def zEd(I:Inv X Mi p H s){dx:D}:∀ {xs:List V} {ds:List D} {us:List Ja},IsDs X.K H xs ds->cX xs us->us.any (zPG X.K H dx)=ds.any fun d=>eqD d dx
 | _,_,_,.nil,.nil=>rfl
 | _,_,_,.cons h hs,.cons r t=>by rw[Wh,Wh,zHe I h r,zEd I hs t]
def zDR(I:Inv X Mi p H s){A:Jh}{dx:D}{x:V}{ux:Ja}(hx:IsD X.K H x dx)(rx:cW x ux)(hu:A.units+50<cLine):∀ {xs:List V} {ds:List D} {us:List Ja},IsDs X.K H xs ds->cX xs us->(∀ d∈ds,dep d<=50)->∀ u∈us,SeqAt.EqAt A s u ux (zPG X.K H dx u)
 | _,_,_,.nil,.nil,_=>fun u hu=>by cases hu
 | _,_,_,.cons h hs,.cons r t,f=>fun u hm=>by
  rcases Qc.mp hm with rfl | hm
  ·rw[zHe I h r];exact zHX I 50 (f _ Qb) h hx A _ ux hu r rx
  ·exact zDR I hx rx hu hs t (fun d hd=>f d (Qd _ hd)) u hm
def zTH(K:PySem.W.Frag)(neg:Bool):R2:=fun x y H Q=>∃ d ds,IsD K H x d/\(IsD K H y (.lst ds)∨IsD K H y (.tup ds))/\depS ds<=50/\Q (.bl (if neg=true then !(ds.any fun e=>eqD e d) else ds.any fun e=>eqD e d)) H
def inA{X:Cx}(hu:X.A.units+64<cLine):OpR X (compareOp .In) (zTH X.K false):=by
 intro Mi s r H x y v u Q I rx ry h;obtain⟨d,ds,h1,h2,hn,q⟩:=h;have hd:∀ e∈ds,dep e<=50:=fun e he=>Q5 (uU he) hn
 rcases h2 with h2 | h2
 ·obtain⟨a,xs,rfl,hl,hs⟩:=h2.lstI
  cases ry;obtain⟨its,rv,p,hz⟩:=I.list hl;refine SeqAt.in_listAt (zPG X.K H d) p.isList (fun y hy=>zDR I h1 rx (by show X.A.units+1+50<cLine;omega) hs rv hd y (by simpa using hy)) ?_
  exact⟨.bl _,H,I,by rw[List.any_toArray,zEd I hs rv];rfl,q⟩
 ·obtain⟨a,xs,rfl,hl,hs⟩:=h2.tupI
  cases ry;obtain⟨its,rv,p,hz⟩:=I.tuple hl;refine SeqAt.in_tupleAt (zPG X.K H d) (show s.heap.IsTuple _ its.toArray from p) (fun y hy=>zDR I h1 rx (by show X.A.units+1+50<cLine;omega) hs rv hd y (by simpa using hy)) ?_
  exact⟨.bl _,H,I,by rw[List.any_toArray,zEd I hs rv];rfl,q⟩
def zTY{X:Cx}:OpK X (zTH X.K false) oIn:=⟨fun a b c z=>(by
  cases b<;>first | cases z | (simp only[oIn] at z;split at z<;>cases z)),fun Hi H x y a b d Q s r1 r2 z q=>by
  cases b<;>first | cases z | skip
  ·rename_i ds
   simp only[oIn] at z;split at z
   ·rename_i h;cases z;exact⟨a,ds,r1.mono s,.inr (r2.mono s),h,q _ Hi H (Ext.refl s) (.bl _)⟩
   ·cases z
  ·rename_i ds
   simp only[oIn] at z;split at z
   ·rename_i h;cases z;exact⟨a,ds,r1.mono s,.inl (r2.mono s),h,q _ Hi H (Ext.refl s) (.bl _)⟩
   ·cases z⟩
end
end L3
namespace L3
open PySem PySem.Spec PyProof.Rows L2
unseal PEd PEf PTd PWd PAd PSd eN
section
variable{X:Cx}{G:Gx}{a b e:Expr}{es:List Expr}{pos p:Pos}{f g:Ev}{fs gs:Fv}{t u:Tv}{x:Str}{id T:String}
def zCb(X:Cx)(r:List V->Hp->VK->Prop)(o:List D->Res D):Prop:=(∀ a c,o a≠.err c)/\∀(Hi H:Hp)(vs:List V)(ds:List D)(d:D)(Q:VK),Same Hi H->IsDs X.K Hi vs ds->o ds=.ok d->
 (∀ v Hi' H',Ext Hi H Hi' H'->IsD X.K Hi' v d->Q v H')->r vs H Q
def zRU{r:List V->Hp->VK->Prop}{o:List D->Res D}(k:zCb X r o):∀ m H Q,tD X G (eB o fs) m H Q->tCB r (tAs X G fs) m H Q:=fun m H Q q=>by
 obtain⟨ρ,Hi,R,ou⟩:=q;refine zKs R ou fun vs ds Hi1 H1 e1 R1 r1 o1=>?_
 cases z:o ds with
 | no=>rw[z] at o1;exact o1.elim
 | err c=>exact absurd z (k.1 ds c)
 | ok d=>rw[z] at o1;exact k.2 Hi1 H1 vs ds d Q R1.s r1 z fun v Hi2 H2 e2 r2=>o1 Hi2 H2 e2 v r2
def aU{r:List V->Hp->VK->Prop}{o:List D->Res D}(hc:rN X (.builtin id) r)(k:zCb X r o)(hg:Gl X x)(hm:X.mg x=none)(hv:bootBuiltins x=some (.builtin id))(ha:PAd X G (e::es) fs)(hn:x ≠ "__name__" := by decide)(hdb:(x==("__debug__" : Str))=false:=by decide)
  (he:starEach (e::es) X.env=(false,eval e X.env)::starEach es X.env:=by rfl) (hpl:(backTo pos (starEach es X.env)).any (·.1)=false:=by rfl):PEd X G (.Call (.Name x p) (e::es) [] pos) (eB o fs):=
 PE.wk (rC hc hg hm hv ha hn hdb he hpl) (zRU k)
def vR{r:List V->Hp->VK->Prop}{o:List D->Res D}(hc:rN X (.type T) r)(k:zCb X r o)(hg:Gl X x)(hm:X.mg x=none)(hv:bootBuiltins x=some (.type T))(ha:PAd X G (e::es) fs)(hn:x ≠ "__name__" := by decide)(hdb:(x==("__debug__" : Str))=false:=by decide)
  (he:starEach (e::es) X.env=(false,eval e X.env)::starEach es X.env:=by rfl) (hpl:(backTo pos (starEach es X.env)).any (·.1)=false:=by rfl):PEd X G (.Call (.Name x p) (e::es) [] pos) (eB o fs):=
 PE.wk (zCz hc hg hm hv ha hn hdb he hpl) (zRU k)
def IsDs.one{K:Fg_}{H:Hp}{vs:List V}{d:D}(h:IsDs K H vs [d]):∃ v,vs=[v]/\IsD K H v d:=by
 cases h with
 | cons h t=>cases t;exact⟨_,rfl,h⟩
def IsDs.two{K:Fg_}{H:Hp}{vs:List V}{d d':D}(h:IsDs K H vs [d,d']):∃ v w,vs=[v,w]/\IsD K H v d/\IsD K H w d':=by
 cases h with
 | cons h t=>obtain⟨w,rfl,hw⟩:=t.one;exact⟨_,w,rfl,h,hw⟩
def dG:zCb X (fun xs H Q=>∃ p ys,xs=[.ref p]/\(SqL X.K H p ys∨SqT X.K H p ys)/\Q (.int ys.length) H) lM:=⟨fun a c z=>(by
  unfold lM at z;split at z<;>cases z),fun Hi H vs ds d Q s r z q=>by
  unfold lM at z;split at z
  ·cases z
   obtain⟨v,rfl,h⟩:=r.one;obtain⟨a,xs,rfl,h1,h2⟩:=h.lstI;refine⟨a,xs,rfl,.inl (bY s h1),?_⟩
   rw[h2.length];exact q _ Hi H (Ext.refl s) (.int _)
  ·cases z
   obtain⟨v,rfl,h⟩:=r.one;obtain⟨a,xs,rfl,h1,h2⟩:=h.tupI;refine⟨a,xs,rfl,.inr (cC s h1),?_⟩
   rw[h2.length];exact q _ Hi H (Ext.refl s) (.int _)
  ·cases z⟩
def zIC:zCb X (fun xs H Q=>∃ i,xs=[.int i]/\Q (.int (if i<0 then -i else i)) H) zNW:=⟨fun a c z=>(by
  unfold zNW at z;split at z<;>cases z),fun Hi H vs ds d Q s r z q=>by
  unfold zNW at z;split at z
  ·cases z
   obtain⟨v,rfl,h⟩:=r.one;exact⟨_,by rw[h.intI],q _ Hi H (Ext.refl s) (.int _)⟩
  ·cases z⟩
def zQK:zCb X (fun xs H Q=>∃ i j,xs=[.int i,.int j]/\Q (.int (if j<i then j else i)) H) zQF:=⟨fun a c z=>(by
  unfold zQF at z;split at z<;>cases z),fun Hi H vs ds d Q s r z q=>by
  unfold zQF at z;split at z
  ·cases z
   obtain⟨v,w,rfl,h,h'⟩:=r.two;exact⟨_,_,by rw[h.intI,h'.intI],q _ Hi H (Ext.refl s) (.int _)⟩
  ·cases z⟩
def zHA:zCb X (fun xs H Q=>∃ p ys,xs=[.ref p]/\((SqL X.K H p ys/\∀ l,H l=none->Q (.ref l) (upd H l (.tup ys)))∨(SqT X.K H p ys/\Q (.ref p) H))) zLI:=⟨fun a c z=>(by
  unfold zLI at z;split at z<;>cases z),fun Hi H vs ds d Q s r z q=>by
  unfold zLI at z;split at z
  ·cases z
   obtain⟨v,rfl,h⟩:=r.one;obtain⟨a,xs,rfl,h1,h2⟩:=h.lstI;exact⟨a,xs,rfl,.inl ⟨bY s h1,fun l hl=>q _ _ _ (Ext.new s hl) (.tup (SqT.of aR) (h2.mono (cJ (s.none hl) _)))⟩⟩
  ·cases z
   obtain⟨v,rfl,h⟩:=r.one;obtain⟨a,xs,rfl,h1,h2⟩:=h.tupI;exact⟨a,xs,rfl,.inr ⟨cC s h1,q _ Hi H (Ext.refl s) (.tup h1 h2)⟩⟩
  ·cases z⟩
def zOz(hg:Gl X "list")(hm:X.mg "list" = none)(hv:bootBuiltins "list" = some (.type "list"))(ha:PAd X G (e::es) fs)
  (he:starEach (e::es) X.env=(false,eval e X.env)::starEach es X.env:=by rfl) (hpl:(backTo pos (starEach es X.env)).any (·.1)=false:=by rfl):PEf X G (.Call (.Name "list" p) (e::es) [] pos) (zNB fs):=
 PE.wk (zCz zCi hg hm hv ha (by decide) (by decide) he hpl) fun m H Q q=>by
 obtain⟨ρ,Hi,R,ou⟩:=q;refine zKs R ou fun vs ds Hi1 H1 e1 R1 r1 o1=>?_
 split at o1
 ·obtain⟨v,rfl,h⟩:=r1.one
  obtain⟨a,xs,rfl,h1,h2⟩:=h.lstI;exact⟨a,xs,rfl,.inl (bY R1.s h1),fun l hl=>o1 _ _ (Ext.newF R1.s hl) l ⟨e1.h.none hl,R1.s.none hl,xs,aR,h2⟩⟩
 ·obtain⟨v,rfl,h⟩:=r1.one
  obtain⟨a,xs,rfl,h1,h2⟩:=h.tupI;exact⟨a,xs,rfl,.inr (cC R1.s h1),fun l hl=>o1 _ _ (Ext.newF R1.s hl) l ⟨e1.h.none hl,R1.s.none hl,xs,aR,h2⟩⟩
 ·exact o1.elim
structure Kit (K:PySem.W.Frag) (T:String):Prop where
 non:PySem.W.kitOne K (.type "NoneType") (.type T)=some (isT T .non)
 bl:PySem.W.kitOne K (.type "bool") (.type T)=some (isT T (.bl true))
 int:PySem.W.kitOne K (.type "int") (.type T)=some (isT T (.int 0))
 str:PySem.W.kitOne K (.type "str") (.type T)=some (isT T (.str ⟨#[]⟩))
 tup:PySem.W.kitOne K (.type "tuple") (.type T)=some (isT T (.tup []))
 lst:PySem.W.kitOne K (.type "list") (.type T)=some (isT T (.lst []))
def zQE(k:Kit X.K T):rN X (.builtin "isinstance") (fun xs H Q=>∃ y d,xs=[y,.ty T]/\IsD X.K H y d/\Q (.bl (isT T d)) H):=by
 intro Mi s m H xs us Q I r h;obtain⟨y,d,rfl,hd,q⟩:=h;obtain⟨u,w',rfl,rx,rc⟩:=zLR r;cases rc;have fin:∀ tk,EP X Mi m Q (.bool (isT T d)) { s with toks:=tk }:=fun tk=>⟨.bl _,H,I.tok _,rfl,q⟩
 cases hd with
 | non=>cases (show u=Value.none from rx);exact Yh PySem.W.kitx_none I.kIn True.intro k.non (fun z=>nomatch z) fin
 | bl y=>cases (show u=Value.bool y from rx);exact Yh PySem.W.kitx_bool I.kIn True.intro k.bl (fun z=>nomatch z) fin
 | int i=>obtain⟨t,q⟩:=(show ∃ t,u=Value.int i t from rx);cases q;exact Yh PySem.W.kitx_int I.kIn True.intro k.int (fun z=>nomatch z) fin
 | str y=>obtain⟨t,q⟩:=(show ∃ t,u=Value.str y t from rx);cases q;exact Yh PySem.W.kitx_str I.kIn True.intro k.str (fun z=>nomatch z) fin
 | @tup a xs ds h hs=>
  cases (show u=Value.ref a from rx)
  obtain⟨its,rv,⟨o,h1,h2,_⟩,hz⟩:=I.tuple h;exact Yh PySem.W.kitx_tuple I.kIn ⟨o,h1,h2⟩ k.tup (fun z=>nomatch z) fin
 | @lst a xs ds h hs=>
  cases (show u=Value.ref a from rx)
  obtain⟨its,rv,⟨o,n,h1,h2,_⟩,hz⟩:=I.list h;exact Yh PySem.W.kitx_list I.kIn ⟨o,h1,h2⟩ k.lst (fun z=>nomatch z) fin
def zQu{c:Expr}(k:Kit X.K T)(hg:Gl X "isinstance")(hm:X.mg "isinstance" = none)(ha:PEd X G a f)(hc:PE X c (tC (.ty T)))
  (h1:starEach [a,c] X.env=(false,eval a X.env)::starEach [c] X.env:=by rfl) (h2:starEach [c] X.env=(false,eval c X.env)::starEach [] X.env:=by rfl) (hpl:(backTo pos (starEach [c] X.env)).any (·.1)=false:=by rfl):
  PEd X G (.Call (.Name "isinstance" p) [a,c] [] pos) (zSx T f):=
 PE.wk (rC (zQE k) hg hm Ma (eQ ha (eQ hc kZ h2) h1) (by decide) (by decide) h1 hpl) fun m H Q q=>by
 obtain⟨ρ,Hi,R,ou⟩:=q;refine zBu R ou fun v d Hi1 H1 e1 R1 r1 o1=>?_
 exact⟨v,d,rfl,r1.mono R1.s,o1.here R1.s _ (.bl _)⟩
def zNr{K:Fg_}{H:Hp}{v:V}{d:D}(h:IsD K H v d):decide (v=.non)=isNon d:=by
 cases h<;>simp[isNon]
def zLZ{c:Expr}(ha:PEd X G a f)(hc:PE X c (tC .non))(hm:behindInMarks .Is c=false):PEd X G (.Compare a [.Is] [c] pos) (zSn f):=PE.wk (zHu zRg ha hc hm) fun m H Q q=>by
 obtain⟨ρ,Hi,R,ou⟩:=q;refine zBu R ou fun v d Hi1 H1 e1 R1 r1 o1=>?_
 refine⟨rfl,?_⟩
 rw[zNr r1];exact o1.here R1.s _ (.bl _)
variable{lo hi:Option Expr}{l h:Ov}{p2:Pos}
def tOv(X:Cx)(G:Gx)(f:Ov):TO:=fun m H Q=>∃ ρ Hi,lR X G Hi H m ρ/\Out G Hi H (f ρ) fun o _ H'=>Q o H'
@[irreducible] def POd (X:Cx) (G:Gx) (e:Option Expr) (f:Ov):Prop:=PO X e (tOv X G f)
unseal POd
def PO.wk{X:Cx}{e:Option Expr}{t t':TO}(h:PO X e t)(w:∀ m H Q,t' m H Q->t m H Q):PO X e t':=fun Mi s m H Q I q=>h Mi s m H Q I (w m H Q q)
def lC:POd X G none oN:=PO.wk zOl fun m H Q q=>by
 obtain⟨ρ,Hi,R,ou⟩:=q;exact ou.here R.s
def pC(he:PEd X G e f):POd X G (some e) (oS f):=PO.wk (zOZ he) fun m H Q q=>by
 obtain⟨ρ,Hi,R,ou⟩:=q;refine zBu R ou fun v d Hi1 H1 e1 R1 r1 o1=>?_
 cases d with
 | int i=>exact⟨i,r1.intI,o1.here R1.s⟩
 | _=>exact o1.elim
def zSj{f:Ov}{Hi H:Hp}{m:St}{ρ:Rho}{A:Type}{k:Option Int->Res A}{k':A->Hp->Hp->Prop}{Q:Option Int->Hp->Prop}(R:lR X G Hi H m ρ)(o:Out G Hi H ((f ρ).bind k) k')
  (w:∀ c Hi' H',Ext Hi H Hi' H'->lR X G Hi' H' m ρ->Out G Hi' H' (k c) k'->Q c H'):tOv X G f m H Q:=
 ⟨ρ,Hi,R,o.bind.imp fun d Hi' H' e q=>w d Hi' H' e (R.grow e) q⟩
def zJJ(n d:Nat)(i:Option Int):cut n i d=HT.sIx n d i:=by
 cases i with
 | none=>rfl
 | some i=>
  simp only[cut,HT.sIx];split<;>split<;>omega
def IsDs.cut{K:Fg_}{H:Hp}{xs:List V}{ds:List D}(h:IsDs K H xs ds)(l r:Option Int):IsDs K H (zPE xs l r) (iO ds l r):=by
 unfold zPE iO;rw[zJJ,zJJ,h.length];exact(h.drop _).take _
def lD(he:PEd X G e f)(hl:POd X G lo l)(hu:POd X G hi h):PEf X G (.Subscript e (.Slice lo hi none p2) pos) (fSl f l h):=PE.wk (zKJ zPe he hl hu) fun m H Q q=>by
 obtain⟨ρ,Hi,R,ou⟩:=q;refine zBu R ou fun v d Hi1 H1 e1 R1 r1 o1=>?_
 refine zSj R1 o1 fun i Hi2 H2 e2 R2 o2=>?_
 refine zSj R2 o2 fun j Hi3 H3 e3 R3 o3=>?_
 cases d with
 | lst ds=>
  obtain⟨a,xs,rfl,h1,h2⟩:=r1.lstI;refine⟨a,xs,rfl,bY (e2.i.trans (e3.i.trans R3.s)) h1,fun p hp=>?_⟩
  exact o3 _ _ (Ext.newF R3.s hp) p ⟨(e1.h.trans (e2.h.trans e3.h)).none hp,R3.s.none hp,_,aR,(h2.cut i j).mono (e2.i.trans e3.i)⟩
 | _=>exact o3.elim
def zSV(K:PySem.W.Frag):R2:=fun x y H Q=>∃ l b xs zs,x=.ref l/\y=.ref b/\SqL K H l xs/\SqL K H b zs/\xs.length+zs.length<=sizeLine/\∀ p,H p=none->Q (.ref p) (upd H p (.lst (xs++zs)))
theorem zNG:OpR X (binaryOp .Add) (zSV X.K):=by
 intro Mi s m H x y v u Q I rx ry h;obtain⟨l,b,xs,zs,rfl,rfl,hl,hb,hz,q⟩:=h;cases rx;cases ry;obtain⟨its,r,p,_⟩:=I.list hl;obtain⟨its2,r2,p2,_⟩:=I.list hb;obtain⟨⟨cls,dd,data,sl⟩,ho,hc,n,hd⟩:=id p.isList;obtain⟨⟨cls2,dd2,data2,sl2⟩,ho2,hc2,n2,hd2⟩:=id p2.isList;simp only at hc hd hc2 hd2
 subst hc hd hc2 hd2;have hsz:its.toArray.size+its2.toArray.size<=sizeLine:=by rw[Ql,Ql,<-r.length,<-r2.length];exact hz
 have e:its.toArray++its2.toArray=(its++its2).toArray:=by simp
 refine Jy ⟨_,ho,rfl⟩ ⟨_,ho2,rfl⟩ noFill_list_add seq_list_add PySem.F.slot_list_add PySem.F.entry_list_add (PySem.F.args_list_add_2 _ _) (list_addW l b its.toArray its2.toArray n n2 dd dd2 sl sl2 hsz) ⟨ho,ho2,?_⟩
 rw[e];exact⟨.ref _,_,I.lnew (t':=s.toks) (r.append r2) (by rw[Qi];exact hz),rfl,q _ I.fresh⟩
def vD(ha:PEd X G a f)(hb:PEd X G b g):PEf X G (.BinOp a .Add b pos) (zLN f g):=PE.wk (zJv zNG ha hb) fun m H Q q=>by
 obtain⟨ρ,Hi,R,ou⟩:=q;refine zBu R ou fun v d Hi1 H1 e1 R1 r1 o1=>?_
 refine zBu R1 o1 fun w d' Hi2 H2 e2 R2 r2 o2=>?_
 cases d<;>first | exact o2.elim | skip
 cases d'<;>first | exact o2.elim | skip
 rename_i ds es
 obtain⟨a,xs,rfl,h1,h2⟩:=r1.lstI;obtain⟨b,ys,rfl,h3,h4⟩:=r2.lstI;have o2':Out G Hi2 H2 (if ds.length+es.length<=16777216 then Res.ok (ds++es) else .no) _:=o2;by_cases hz:ds.length+es.length<=16777216
 ·rw[Jk hz] at o2'
  refine⟨a,b,xs,ys,rfl,rfl,bY (e2.i.trans e2.s) h1,bY e2.s h3,by rw[h2.length,h4.length];exact hz,fun p hp=>?_⟩
  exact o2' _ _ (Ext.newF e2.s hp) p ⟨(e1.h.trans e2.h).none hp,e2.s.none hp,_,aR,(h2.mono e2.i).append h4⟩
 ·rw[Jl hz] at o2';exact o2'.elim
end
end L3
namespace L3
open PySem PySem.Spec PyProof.Rows L2
unseal PEd PEf PTd PWd PAd PSd eN POd
section
variable{X:Cx}{G:Gx}{a b e:Expr}{es:List Expr}{pos p:Pos}{f g:Ev}{fs gs:Fv}{t u:Tv}{x:Str}{st:Ji}{rest:List Ji}{sa sb:Sv}
def oK{Hi H:Hp}{l:St}{ρ:Rho}{E:Ends}{B:Type}{r:Res B}{k:B->Res Fl}(R:lR X G Hi H l ρ)(h:Fin X G Hi E (r.bind k)){Q:B->Hp->Hp->Prop}
  (w:∀ a Hi' H',r=.ok a->Ext Hi H Hi' H'->Fin X G Hi' E (k a)->Q a Hi' H'):Out G Hi H r Q:=by
 cases r with
 | no=>exact h
 | err c=>exact fun Hi' H' e=>h Hi' H' (R.ext.trans e)
 | ok a=>exact fun Hi' H' e=>w a Hi' H' rfl e (Fin.mono (show Fin X G Hi E (k a) from h) e.i)
def bF:eN X G [] sNext:=PSs.wk zOt fun E l H q=>by
 obtain⟨ρ,Hi,R,h⟩:=q;exact h l Hi H (Same.refl _) R
def zQL{E:Ends}{Hi:Hp}{ρ:Rho}(h:Fin X G Hi E (bA sa sb ρ)):Fin X G Hi { E with nx:=tS X G sb E } (sa ρ):=by
 unfold bA at h
 cases z:sa ρ with
 | no=>rw[z] at h;exact h
 | err c=>rw[z] at h;exact h
 | ok fl=>
  rw[z] at h
  cases fl with
  | nx ρ'=>exact fun l' Hi' H' s R'=>⟨ρ',Hi',R',Fin.mono (show Fin X G Hi E (sb ρ') from h) s⟩
  | brk ρ'=>exact h
  | ctn ρ'=>exact h
  | ret r=>cases r<;>exact h
def zRz{E:Ends}{l:St}{H:Hp}(q:tS X G (bA sa sb) E l H):tS X G sa { E with nx:=tS X G sb E } l H:=by
 obtain⟨ρ,Hi,R,h⟩:=q;exact⟨ρ,Hi,R,zQL h⟩
def aD(h1:PSd X G st sa)(h2:eN X G rest sb):eN X G (st::rest) (bA sa sb):=PSs.wk (tZ h1 h2) fun _ _ _ q=>zRz q
def aI(h1:PSd X G st sa):eN X G [st] sa:=zDD h1
def mO(he:PEd X G e f)(hs:swapsWith e none pos.line X.env=pure false:=by rfl):PSd X G (.Expr e pos) (qL f):=PS.wk (zAY he hs) fun E l H q=>by
 obtain⟨ρ,Hi,R,h⟩:=q;exact⟨ρ,Hi,R,oK R h fun d Hi' H' _ e h' v r=>h' l Hi' H' (Same.refl _) (R.grow e)⟩
def bX(he:PEd X G e f):PSd X G (.Return (some e) pos) (gE f):=PS.wk (zEG he) fun E l H q=>by
 obtain⟨ρ,Hi,R,h⟩:=q;obtain⟨Hf,s1,R1,fl⟩:=R.frz;refine⟨ρ.map Sl.frz,Hf,R1,oK R1 (Fin.mono h s1) fun d Hi' H' _ e h' v r=>?_⟩
 exact h' v Hi' H' (R1.ext.trans e) r
def dW(he:PEf X G e fs):PSd X G (.Return (some e) pos) (iI fs):=PS.wk (zEG he) fun E l H q=>by
 obtain⟨ρ,Hi,R,h⟩:=q;obtain⟨Hf,s1,R1,fl⟩:=R.frz;refine⟨ρ.map Sl.frz,Hf,R1,oK R1 (Fin.mono h s1) fun ds Hi' H' _ e h' a n=>?_⟩
 obtain⟨n1,n2,xs,n3,n4⟩:=n;exact h' a Hi' H' (R1.ext.trans e) ⟨R1.ext.h.none n1,n2,xs,n3,n4⟩
def gY(i:Nat)(he:PE X e (zDh i)):PSd X G (.Return (some e) pos) (gC i):=PS.wk (zEG he) fun E l H q=>by
 obtain⟨ρ,Hi,R,h⟩:=q;unfold gC at h
 cases z:ρ[i]? with
 | none=>rw[z] at h;exact h.elim
 | some s=>
  rw[z] at h
  cases s with
  | own ds=>
   obtain⟨a,xs,p,h1,h2,h3,h4⟩:=R.slot i _ z;exact⟨.ref a,p,h a Hi H R.ext ⟨h3,h2,xs,h1,h4⟩⟩
  | un=>exact h.elim
  | val d=>exact h.elim
  | exc c=>exact h.elim
  | tab T=>exact h.elim
def iR{c:Expr}{as bs:List Ji}(hc:PTd X G c t)(ha:eN X G as sa)(hb:eN X G bs sb):PSd X G (.If c as bs pos) (sIf t sa sb):=PS.wk (zSr hc ha hb) fun E l H q=>by
 obtain⟨ρ,Hi,R,h⟩:=q;refine⟨ρ,Hi,R,oK R h fun c Hi' H' _ e h'=>?_⟩
 cases c with
 | true=>exact⟨ρ,Hi',R.grow e,h'⟩
 | false=>exact⟨ρ,Hi',R.grow e,h'⟩
def zTn{i:Nat}{pos':Pos}(hN:X.N.Nodup)(hi:X.N[i]?=some x)(hx:Loc X.env.scope x)(he:PEd X G e f)(hs:swapsWith e (some (.Name x pos')) pos.line X.env=pure false:=by rfl)
  (hf:X.fn x=true∨X.env.scope.names.lookup x=some .local:=by first | exact .inl rfl | exact .inr rfl | assumption):PSd X G (.Assign [.Name x pos'] e pos) (dF i f):=PS.wk (zMV hN hi hx he hs hf) fun E l H q=>by
 obtain⟨ρ,Hi,R,h⟩:=q;exact⟨ρ,Hi,R,oK R h fun d Hi' H' _ e h' v r=>h' _ Hi' H' (Same.refl _) ((R.grow e).set r)⟩
def pE{i:Nat}{pos':Pos}(hN:X.N.Nodup)(hi:X.N[i]?=some x)(hx:Loc X.env.scope x)(he:PEf X G e fs)(hs:swapsWith e (some (.Name x pos')) pos.line X.env=pure false:=by rfl)
  (hf:X.fn x=true∨X.env.scope.names.lookup x=some .local:=by first | exact .inl rfl | exact .inr rfl | assumption):PSd X G (.Assign [.Name x pos'] e pos) (zCe i fs):=PS.wk (zMV hN hi hx he hs hf) fun E l H q=>by
 obtain⟨ρ,Hi,R,h⟩:=q;refine⟨ρ,Hi,R,oK R h fun ds Hi' H' _ e h' a n=>?_⟩
 obtain⟨n1,n2,xs,n3,n4⟩:=n;exact h' _ Hi' H' (Same.refl _) (R.setOwn e n1 n3 n2 n4)
def uP{i:Nat}{o:Expr}{apos cpos:Pos}(ho:PE X o (zDh i))(he:PEd X G e f)
  (hbase:attributeBase o "append" X.env (eval o X.env)=eval o X.env:=by rfl)
  (hfew:((backTo cpos (starEach [e] X.env)).all (fun x=>!x.1) && (backToKw cpos (keywordEach [] X.env)).all (fun x=>x.1.isSome)
   && decide ([e].length+([]:List Keyword).length+(if ([]:List Keyword).isEmpty then 0 else 1)<30))=true:=by rfl)
  (hline:(apos.endLine==cpos.line)=true:=by rfl) (hs:starEach [e] X.env=(false,eval e X.env)::starEach [] X.env:=by rfl)
  (hsw:swapsWith (.Call (.Attribute o "append" apos) [e] [] cpos) none pos.line X.env=pure false:=by rfl):
  PSd X G (.Expr (.Call (.Attribute o "append" apos) [e] [] cpos) pos) (zDm i f):=
 PS.wk (zAY (zQB Wi PySem.F.slot_list_append PySem.F.type_list_append uT ho (eQ he kZ hs) hbase hfew hline hs) hsw) fun E l H q=>by
 obtain⟨ρ,Hi,R,h⟩:=q;unfold zDm at h
 cases z:ρ[i]? with
 | none=>rw[z] at h;exact h.elim
 | some s=>
  rw[z] at h
  cases s with
  | own ds=>
   obtain⟨a,xs,p,h1,h2,h3,h4⟩:=R.slot i _ z;refine⟨.ref a,p,.inl ⟨rfl,xs,SqL.of h1⟩,?_⟩
   refine⟨ρ,Hi,R,oK R h fun d Hi' H' _ e h' v r=>?_⟩
   have R':=R.grow e;obtain⟨g1,g2⟩:=e.out h1 h2;by_cases hz:ds.length<16777216
   ·rw[Jk hz] at h'
    refine⟨a,xs,v,rfl,rfl,g1,by rw[h4.length];exact hz,?_⟩
    exact h' l Hi' _ (Same.refl _) (R'.write z p ((h4.mono e.i).append (.cons r .nil)))
   ·rw[Jl hz] at h';exact h'.elim
  | un=>exact h.elim
  | val d=>exact h.elim
  | exc c=>exact h.elim
  | tab T=>exact h.elim
def zSZ{i:Nat}{o:Expr}{apos cpos:Pos}(ho:PE X o (zDh i))
  (hbase:attributeBase o "pop" X.env (eval o X.env)=eval o X.env:=by rfl) (hline:(apos.endLine==cpos.line)=true:=by rfl)
  (hsw:swapsWith (.Call (.Attribute o "pop" apos) [] [] cpos) none pos.line X.env=pure false:=by rfl):
  PSd X G (.Expr (.Call (.Attribute o "pop" apos) [] [] cpos) pos) (zRf i):=
 PS.wk (zAY (zRw Wi PySem.F.slot_list_pop PySem.F.type_list_pop zQx ho hbase hline) hsw) fun E l H q=>by
 obtain⟨ρ,Hi,R,h⟩:=q;unfold zRf at h
 cases z:ρ[i]? with
 | none=>rw[z] at h;exact h.elim
 | some s=>
  rw[z] at h
  cases s with
  | own ds=>
   obtain⟨a,xs,p,h1,h2,h3,h4⟩:=R.slot i _ z;refine⟨.ref a,p,.inl ⟨rfl,xs,SqL.of h1⟩,?_⟩
   have h:Fin X G Hi E (if ds.length=0 then Res.no else Res.ok (Fl.nx (ρ.set i (.own ds.dropLast)))):=h;by_cases hz:ds.length=0
   ·rw[Jk hz] at h;exact h.elim
   ·rw[Jl hz] at h
    have hl:=h4.length;refine⟨a,xs,xs[xs.length-1]'(by omega),rfl,rfl,h1,Qq (by omega),?_⟩
    exact h l Hi _ (Same.refl _) (R.write z p h4.dropLast)
  | un=>exact h.elim
  | val d=>exact h.elim
  | exc c=>exact h.elim
  | tab T=>exact h.elim
def zLm{i:Nat}{o:Expr}{apos cpos:Pos}(ho:PE X o (zDh i))(he:PEf X G e fs)
  (hbase:attributeBase o "extend" X.env (eval o X.env)=eval o X.env:=by rfl)
  (hfew:((backTo cpos (starEach [e] X.env)).all (fun x=>!x.1) && (backToKw cpos (keywordEach [] X.env)).all (fun x=>x.1.isSome)
   && decide ([e].length+([]:List Keyword).length+(if ([]:List Keyword).isEmpty then 0 else 1)<30))=true:=by rfl)
  (hline:(apos.endLine==cpos.line)=true:=by rfl) (hs:starEach [e] X.env=(false,eval e X.env)::starEach [] X.env:=by rfl)
  (hsw:swapsWith (.Call (.Attribute o "extend" apos) [e] [] cpos) none pos.line X.env=pure false:=by rfl):
  PSd X G (.Expr (.Call (.Attribute o "extend" apos) [e] [] cpos) pos) (zMK i fs):=
 PS.wk (zAY (zQB Wi PySem.F.slot_list_extend PySem.F.type_list_extend zJc ho (eQ he kZ hs) hbase hfew hline hs) hsw) fun E l H q=>by
 obtain⟨ρ,Hi,R,h⟩:=q;unfold zMK at h
 cases z:ρ[i]? with
 | none=>rw[z] at h;exact h.elim
 | some s=>
  rw[z] at h
  cases s with
  | own ds=>
   obtain⟨a,xs,p,h1,h2,h3,h4⟩:=R.slot i _ z;refine⟨.ref a,p,.inl ⟨rfl,xs,SqL.of h1⟩,?_⟩
   refine⟨ρ,Hi,R,oK R h fun es Hi' H' _ e h' b n=>?_⟩
   obtain⟨n1,n2,ys,n3,n4⟩:=n;have R':=R.grow e;obtain⟨g1,g2⟩:=e.out h1 h2;by_cases hz:ds.length+es.length<=16777216
   ·rw[Jk hz] at h'
    refine⟨a,b,xs,ys,rfl,rfl,g1,n3,by rw[h4.length,n4.length];exact hz,?_⟩
    exact h' l Hi' _ (Same.refl _) (R'.write z p ((h4.mono e.i).append n4))
   ·rw[Jl hz] at h';exact h'.elim
  | un=>exact h.elim
  | val d=>exact h.elim
  | exc c=>exact h.elim
  | tab T=>exact h.elim
def zSH{i:Nat}{o k:Expr}{fk:Ev}{tpos:Pos}(ho:PE X o (zDh i))(hk:PEd X G k fk)(he:PEd X G e f)(hs:swapsWithSole [.Subscript o k tpos] e pos.line X.env=pure false:=by rfl)(hw:swappedStores [.Subscript o k tpos] e X.env=pure none:=by rfl)
  (h1:(assignEach [.Subscript o k tpos] X.env).map (·.2)=[assign (.Subscript o k tpos) X.env]:=by rfl)
  (ha:∀ v,assign (.Subscript o k tpos) X.env v=(do
   let ov <-holding [v] (eval o X.env)
   let iv <-holding [v,ov] (eval k X.env)
   standAt tpos
   holding [v,ov,iv] (setItem ov iv v)
   release [v,ov,iv] []):=by intro _;rfl):PSd X G (.Assign [.Subscript o k tpos] e pos) (zSf i fk f):=
 PS.wk (zRS he (zRq ho hk zLw ha) hs hw h1) fun E l H q=>by
 obtain⟨ρ,Hi,R,h⟩:=q;refine⟨ρ,Hi,R,oK R h fun d Hi1 H1 _ e1 h1 v r=>?_⟩
 have R1:=R.grow e1
 cases z:ρ[i]? with
 | none=>rw[z] at h1;exact h1.elim
 | some s=>
  rw[z] at h1
  cases s with
  | own ds=>
   obtain⟨a,xs,p,g1,g2,g3,g4⟩:=R1.slot i _ z;refine⟨.ref a,p,?_⟩
   refine⟨ρ,Hi1,R1,oK R1 h1 fun j Hi2 H2 _ e2 h2 w rw'=>?_⟩
   have R2:=R1.grow e2;obtain⟨k1,k2⟩:=e2.out g1 g2
   cases j with
   | int j=>
    have hl:=g4.length;have h2':Fin X G Hi2 E (if 0<=j/\j<ds.length then Res.ok (.nx (ρ.set i (.own (ds.set j.toNat d)))) else if -(ds.length:Int)<=j/\j<0 then .ok (.nx (ρ.set i (.own (ds.set (j+ds.length).toNat d)))) else .no):=h2;by_cases c1:0<=j/\j<ds.length
    ·rw[Jk c1] at h2'
     refine⟨a,xs,j,j.toNat,rfl,rw'.intI,k1,by unfold ixN;rw[Jk c1.1,Jk (by omega)],?_⟩
     exact h2' l Hi2 _ (Same.refl _) (R2.write z p ((g4.mono e2.i).set (r.mono e2.i) j.toNat))
    ·rw[Jl c1] at h2'
     by_cases c2:-(ds.length:Int)<=j/\j<0
     ·rw[Jk c2] at h2'
      refine⟨a,xs,j,(j+ds.length).toNat,rfl,rw'.intI,k1,by unfold ixN;rw[Jl (by omega),Jk (by omega),hl],?_⟩
      exact h2' l Hi2 _ (Same.refl _) (R2.write z p ((g4.mono e2.i).set (r.mono e2.i) (j+ds.length).toNat))
     ·rw[Jl c2] at h2';exact h2'.elim
   | _=>exact h2.elim
  | un=>exact h1.elim
  | val d=>exact h1.elim
  | exc c=>exact h1.elim
  | tab T=>exact h1.elim
def zGv{i:Nat}{op:Operator}{o:Op2}{r:Int->Int->Int}{pos':Pos}(hN:X.N.Nodup)(hi:X.N[i]?=some x)(hx:Loc X.env.scope x)(he:PEd X G e f)(ho:PIp X op (ipI r))(hr:∀ a b d,o a b=.ok d->∃ i j,a=.int i/\b=.int j/\d=.int (r i j))(hn:∀ a b c,o a b≠.err c)
  (hf:X.fn x=true∨X.env.scope.names.lookup x=some .local:=by first | exact .inl rfl | exact .inr rfl | assumption):PSd X G (.AugAssign (.Name x pos') op e pos) (zKo i o f):=PS.wk (zPK hN hi hx he ho hf) fun E l H q=>by
 obtain⟨ρ,Hi,R,h⟩:=q;unfold zKo at h
 cases z:ρ[i]? with
 | none=>rw[z] at h;exact h.elim
 | some s=>
  rw[z] at h
  cases s with
  | val d=>
   obtain⟨v,p,rv⟩:=R.slot i _ z;refine⟨v,p,ρ,Hi,R,oK R h fun d' Hi' H' _ e h' w rw'=>?_⟩
   cases q:o d d' with
   | no=>rw[q] at h';exact h'.elim
   | err c=>exact absurd q (hn _ _ _)
   | ok u=>
    rw[q] at h';obtain⟨i',j',rfl,rfl,rfl⟩:=hr _ _ _ q;exact⟨i',j',rv.intI,rw'.intI,h' _ Hi' H' (Same.refl _) ((R.grow e).set (.int _))⟩
  | un=>exact h.elim
  | own ds=>exact h.elim
  | exc c=>exact h.elim
  | tab T=>exact h.elim
def eN.frzAt(i:Nat){sts:List Ji}(h:eN X G sts sa):eN X G sts (sFrzAt i sa):=PSs.wk h fun E l H q=>by
 obtain⟨ρ,Hi,R,h⟩:=q;obtain⟨Hi',s,R'⟩:=R.frzAt (i:=i);exact⟨_,Hi',R',Fin.mono h s⟩
def tGv(X:Cx)(G:Gx)(g:Gv):TG:=fun v l H Q=>∃ d ρ Hi,IsD X.K Hi v d/\lR X G Hi H l ρ/\∃ ρ',g d ρ=.ok ρ'/\∀ l' Hi' H',Same Hi Hi'->lR X G Hi' H' l' ρ'->Q l' H'
@[irreducible] def PGd (X:Cx) (G:Gx) (e:Expr) (g:Gv):Prop:=PG X e (tGv X G g)
unseal PGd
def zQd{i:Nat}(hN:X.N.Nodup)(hi:X.N[i]?=some x)(hx:Loc X.env.scope x)(hf:X.fn x=true∨X.env.scope.names.lookup x=some .local:=by first | exact .inl rfl | exact .inr rfl | assumption):PGd X G (.Name x pos) (gName i):=
 fun Mi s l H v u Q I r q=>zEh hN hi hx hf Mi s l H v u Q I r (by
  obtain⟨d,ρ,Hi,rd,R,ρ',e,k⟩:=q;cases e
  exact k _ Hi H (Same.refl _) (R.set rd))
def zUq(X:Cx)(G:Gx)(g:List D->Rho->Res Rho):TGs:=fun vs l H Q=>∃ ds ρ Hi,IsDs X.K Hi vs ds/\lR X G Hi H l ρ/\∃ ρ',g ds ρ=.ok ρ'/\∀ l' Hi' H',Same Hi Hi'->lR X G Hi' H' l' ρ'->Q l' H'
@[irreducible] def jG (X:Cx) (G:Gx) (es:List Expr) (g:List D->Rho->Res Rho):Prop:=PGs X es (zUq X G g)
unseal jG
def zJD:jG X G [] zGY:=fun Mi s l H vs us Q I r q=>zJa Mi s l H vs us Q I r (by
  obtain⟨ds,ρ,Hi,rd,R,ρ',e,k⟩:=q
  cases ds with
  | nil=>cases rd;cases e;exact⟨rfl,k _ Hi H (Same.refl _) R⟩
  | cons d ds=>cases e)
def rJ{g:Gv}{r:List D->Rho->Res Rho}(h1:PGd X G e g)(h2:jG X G es r)(hs:(assignEach (e::es) X.env).map (·.2)=assign e X.env::(assignEach es X.env).map (·.2):=by rfl):jG X G (e::es) (mP g r):=
 fun Mi s l H vs us Q I rr q=>zX h1 h2 hs Mi s l H vs us Q I rr (by
  obtain⟨ds,ρ,Hi,rd,R,ρ',e,k⟩:=q
  cases ds with
  | nil=>cases e
  | cons d ds=>
   cases rd with
   | cons rd rds=>
    refine⟨_,_,rfl,d,ρ,Hi,rd,R,?_⟩
    have e':(g d ρ).bind (fun ρ'=>r ds ρ')=.ok ρ':=e
    cases z:g d ρ with
    | no=>rw[z] at e';cases e'
    | err c=>rw[z] at e';cases e'
    | ok ρ1=>
     rw[z] at e'
     exact⟨ρ1,rfl,fun l1 Hi1 H1 s1 R1=>⟨ds,ρ1,Hi1,rds.mono s1,R1,ρ',e',fun l2 Hi2 H2 s2 R2=>k l2 Hi2 H2 (s1.trans s2) R2⟩⟩)
def zNq{k:Nat}{r:List D->Rho->Res Rho}{n:Nat}(hc:X.calm=true)(h:jG X G es r)(hr:∀ ds ρ ρ',r ds ρ=.ok ρ'->ds.length=n)(hn:(assignEach es X.env).length=n:=by rfl)(hst:(assignEach es X.env).findIdx? (·.1)=none:=by rfl):PGd X G (.Tuple es k pos) (zGW r):=
 fun Mi s l H v u Q I rr q=>zMq hc h hn hst Mi s l H v u Q I rr (by
  obtain⟨d,ρ,Hi,rd,R,ρ',e,kk⟩:=q
  cases d with
  | tup ds=>
   obtain⟨a,xs,rfl,h1,h2⟩:=rd.tupI;exact⟨a,xs,rfl,cC R.s h1,by rw[h2.length];exact hr ds ρ ρ' e,ds,ρ,Hi,h2,R,ρ',e,kk⟩
  | _=>cases e)
def wD(K:PySem.W.Frag)(Hi:Hp)(J:It)(ds:List D):Prop:=∀(Hi1 H1:Hp),Same Hi Hi1->Same Hi1 H1->∀ i,
 (ds.length<=i->J.stop i H1)/\∀ d,ds[i]?=some d->J.go i H1/\∀ x H2,J.yld i H1 x H2->∃ Hi2,Ext Hi1 H1 Hi2 H2/\IsD K Hi2 x d
def tIv(X:Cx)(G:Gx)(f:Fv):TI:=fun l H R=>∃ ρ Hi,lR X G Hi H l ρ/\Out G Hi H (f ρ) fun ds Hi' H'=>∀ J,wD X.K Hi' J ds->R J H'
@[irreducible] def PId (X:Cx) (G:Gx) (tg e:Expr) (f:Fv):Prop:=PI X tg e (tIv X G f)
unseal PId
def PI.wk{tg:Expr}{t t':TI}(h:PI X tg e t)(w:∀ l H Q,t' l H Q->t l H Q):PI X tg e t':=fun Mi s l H Q I q=>h Mi s l H Q I (w l H Q q)
def zMA{g:Gv}{J:It}{ds:List D}{Hi1 H1:Hp}{l:St}{ρ:Rho}{E:Ends}(hge:∀ d ρ c,g d ρ≠.err c)(R1:lR X G Hi1 H1 l ρ)(h1:Fin X G Hi1 E (loop g sa ds ρ))(gv:wD X.K Hi1 J ds):zTG (fun _ _ R=>R J H1) (tGv X G g) (tS X G sa) E l H1:=by
 refine⟨fun i m l' H'=>m=ds.length-i/\∃ ρ' Hi',Same Hi1 Hi'/\lR X G Hi' H' l' ρ'/\Fin X G Hi' E (loop g sa (ds.drop i) ρ'),⟨_,rfl,ρ,Hi1,Same.refl _,R1,h1⟩,?_⟩
 rintro i m l' H' ⟨rfl,ρ',Hi',s',R',h'⟩
 obtain⟨w1,w2⟩:=gv Hi' H' s' R'.s i;by_cases hl:i<ds.length
 ·obtain⟨d,hd⟩:∃ d,ds[i]?=some d:=⟨_,Qq hl⟩
  obtain⟨go,yl⟩:=w2 d hd
  have e3:ds.drop i=d::ds.drop (i+1):=by
   rw[Qq hl] at hd;cases hd;exact Uc hl
  rw[e3] at h';refine .inr ⟨go,fun l2 H2=>∃ ρ2 Hi2,Same Hi1 Hi2/\lR X G Hi2 H2 l2 ρ2/\Fin X G Hi2 E (loop g sa (ds.drop (i+1)) ρ2),fun l2 H2 z=>⟨ds.length-(i+1),by omega,rfl,z⟩,fun x H2 y=>?_⟩
  obtain⟨Hi2,e2,r2⟩:=yl x H2 y;have R2:=R'.grow e2
  have h2:Fin X G Hi2 E ((g d ρ').bind fun ρ1=>(sa ρ1).bind fun f=>match f with
   | .nx ρ2=>loop g sa (ds.drop (i+1)) ρ2
   | .ctn ρ2=>loop g sa (ds.drop (i+1)) ρ2
   | .brk ρ2=>.ok (.nx ρ2)
   | .ret r=>.ok (.ret r)):=Fin.mono h' e2.i
  cases z:g d ρ' with
  | no=>rw[z] at h2;exact h2.elim
  | err c=>exact absurd z (hge _ _ _)
  | ok ρ1=>
   rw[z] at h2;refine⟨d,ρ',Hi2,r2,R2,ρ1,z,fun l3 Hi3 H3 s3 R3=>⟨ρ1,Hi3,R3,?_⟩⟩
   have h3:=Fin.mono h2 s3;have sm:Same Hi1 Hi3:=(s'.trans e2.i).trans s3;simp only[Res.bind] at h3
   cases zb:sa ρ1 with
   | no=>rw[zb] at h3;exact h3.elim
   | err c=>rw[zb] at h3;exact h3
   | ok fl=>
    rw[zb] at h3
    cases fl with
    | nx ρ2=>exact fun l4 Hi4 H4 s4 R4=>⟨ρ2,Hi4,sm.trans s4,R4,Fin.mono (show Fin X G Hi3 E (loop g sa (ds.drop (i+1)) ρ2) from h3) s4⟩
    | ctn ρ2=>exact fun l4 Hi4 H4 s4 R4=>⟨ρ2,Hi4,sm.trans s4,R4,Fin.mono (show Fin X G Hi3 E (loop g sa (ds.drop (i+1)) ρ2) from h3) s4⟩
    | brk ρ2=>exact h3
    | ret r=>cases r<;>exact h3
 ·rw[Y7 (by omega)] at h'
  exact .inl ⟨w1 (by omega),h' l' Hi' H' (Same.refl _) R'⟩
def lX{tg iter:Expr}{body:List Ji}{it:Fv}{g:Gv}(hp:PassesOwn (model X.prog X.w) X.A X.env X.xe)(hc:X.calm=true)(hi:PId X G tg iter it)(hg:PGd X G tg g)(hge:∀ d ρ c,g d ρ≠.err c)(hb:eN X G body sa)
  (hs:∀ x,foldedSetIterable iter X.env x=pure x:=by intro _;rfl):PSd X G (.For tg iter body [] pos) (xI it g sa):=PS.wk (zMf hp hc hi hg hb hs) fun E l H q=>by
 obtain⟨ρ,Hi,R,h⟩:=q;exact⟨ρ,Hi,R,oK R h fun ds Hi1 H1 _ e1 h1 J gv=>zMA hge (R.grow e1) h1 gv⟩
def zDB{c:Expr}{body:List Ji}(hp:PassesOwn (model X.prog X.w) X.A X.env X.xe)(hc:PTd X G c t)(hb:eN X G body sa):PSd X G (.While c body [] pos) (fP t sa):=PS.wk (zKO hp hc hb) fun E l H q=>by
 obtain⟨ρ,Hi,R,h⟩:=q;have hn:fP t sa ρ≠.no:=fun z=>by rw[z] at h;exact h
 obtain⟨n,en⟩:=pL hn;rw[en] at h;refine⟨fun m l' H'=>∃ ρ' Hi',Same Hi Hi'/\lR X G Hi' H' l' ρ'/\Fin X G Hi' E (wh t sa m ρ'),⟨n,ρ,Hi,Same.refl _,R,h⟩,?_⟩
 rintro m l' H' ⟨ρ',Hi',s',R',h'⟩
 cases m with
 | zero=>exact h'.elim
 | succ m=>
  rw[wh] at h';refine⟨ρ',Hi',R',oK R' h' fun c Hi1 H1 _ e1 h1=>?_⟩
  have R1:=R'.grow e1
  cases c with
  | false=>exact h1 l' Hi1 H1 (Same.refl _) R1
  | true=>
   refine⟨fun l2 H2=>∃ ρ2 Hi2,Same Hi Hi2/\lR X G Hi2 H2 l2 ρ2/\Fin X G Hi2 E (wh t sa m ρ2),fun l2 H2 z=>⟨m,by omega,z⟩,ρ',Hi1,R1,?_⟩
   have sm:Same Hi Hi1:=s'.trans e1.i;simp only[if_true] at h1
   cases zb:sa ρ' with
   | no=>rw[zb] at h1;exact h1.elim
   | err c=>rw[zb] at h1;exact h1
   | ok fl=>
    rw[zb] at h1
    cases fl with
    | nx ρ2=>exact fun l4 Hi4 H4 s4 R4=>⟨ρ2,Hi4,sm.trans s4,R4,Fin.mono (show Fin X G Hi1 E (wh t sa m ρ2) from h1) s4⟩
    | ctn ρ2=>exact fun l4 Hi4 H4 s4 R4=>⟨ρ2,Hi4,sm.trans s4,R4,Fin.mono (show Fin X G Hi1 E (wh t sa m ρ2) from h1) s4⟩
    | brk ρ2=>exact h1
    | ret r=>cases r<;>exact h1
def zHM{K:Fg_}{Hi:Hp}{a:Jc}{xs:List V}{ds:List D}(h:SqT K Hi a xs)(hs:IsDs K Hi xs ds):wD K Hi (Itt K a) ds:=fun Hi1 H1 s1 s2 i=>by
 have h1:=cC (s1.trans s2) h;refine⟨fun hl=>⟨xs,h1,by rw[hs.length];exact hl⟩,fun d hd=>?_⟩
 obtain⟨v,hv,r⟩:=hs.at hd;refine⟨⟨xs,v,h1,hv⟩,fun x H2 y=>?_⟩
 obtain⟨e,y⟩:=y;subst e;have:=y xs h1
 rw[hv] at this;cases this;exact⟨Hi1,Ext.refl s2,r.mono s1⟩
def zNI{lo c:Int}{n i:Nat}{d:D}(h:(rng lo n c)[i]?=some d):i<n/\d=.int (lo+(i:Int)*c):=by
 unfold rng at h;rw[Qu] at h;by_cases hl:i<n
 ·rw[Xa hl] at h;cases h;exact⟨hl,rfl⟩
 ·rw[Qz (by rw[Q2];omega)] at h;cases h
def zOm(lo c:Int)(n:Nat):(rng lo n c).length=n:=by unfold rng;rw[Qe,Q2]
def zCg{K:Fg_}{Hi:Hp}(lo:Int)(n:Nat):wD K Hi (Itr lo n) (rng lo n 1):=fun Hi1 H1 s1 s2 i=>by
 refine⟨fun hl=>by rw[zOm] at hl;exact hl,fun d hd=>?_⟩
 obtain⟨h1,rfl⟩:=zNI hd;refine⟨h1,fun x H2 y=>?_⟩
 obtain⟨e,y⟩:=y;subst e y;rw[Vw];exact⟨Hi1,Ext.refl s2,.int _⟩
def zFm{tg:Expr}(hg:Gl X "range")(hm:X.mg "range" = none)(ha:PAd X G [a] fs)(hs:starEach [a] X.env=[(false,eval a X.env)]:=by rfl):PId X G tg (.Call (.Name "range" p) [a] [] pos) (xE fs):=PI.wk (zIm hg hm ha hs) fun l H Q q=>by
 obtain⟨ρ,Hi,R,ou⟩:=q;refine zKs R ou fun vs ds Hi1 H1 e1 R1 r1 o1=>?_
 split at o1
 ·rename_i j
  obtain⟨v,rfl,h⟩:=r1.one;by_cases hz:-(2^62)<=j/\j<2^62
  ·rw[Jk hz] at o1
   exact⟨j,by rw[h.intI],hz.1,hz.2,o1.here R1.s _ (zCg 0 j.toNat)⟩
  ·rw[Jl hz] at o1;exact o1.elim
 ·exact o1.elim
def zQm{tg:Expr}(hg:Gl X "range")(hm:X.mg "range" = none)(ha:PAd X G [a,b] fs)(hs:starEach [a,b] X.env=[(false,eval a X.env),(false,eval b X.env)]:=by rfl)(hs2:starEach [b] X.env=[(false,eval b X.env)]:=by rfl):PId X G tg (.Call (.Name "range" p) [a,b] [] pos) (zIu fs):=PI.wk (zIG hg hm ha hs hs2) fun l H Q q=>by
 obtain⟨ρ,Hi,R,ou⟩:=q;refine zKs R ou fun vs ds Hi1 H1 e1 R1 r1 o1=>?_
 split at o1
 ·rename_i i j
  obtain⟨v,w,rfl,h,h'⟩:=r1.two;by_cases hz:-(2^62)<=i/\i<2^62/\-(2^62)<=j/\j<2^62
  ·rw[Jk hz] at o1
   exact⟨i,j,by rw[h.intI,h'.intI],hz,o1.here R1.s _ (zCg i (j-i).toNat)⟩
  ·rw[Jl hz] at o1;exact o1.elim
 ·exact o1.elim
end
end L3
namespace L3
open PySem PySem.Spec PyProof.Rows L2
unseal PEd PEf PTd PWd PAd PSd eN POd PGd jG PId
structure Fn (K:PySem.W.Frag) (mg:Str->Option Ja) (x:Str) (st:Ji) (ps:List Str) (f:Jc) (fd:FuncData):Prop where
 fn:Fun K x x st f fd
 bd:zCT K fd ps []
 kp:PySem.W.keepIn K (.ref f)=true
 mg:mg x=some (.ref f)
def XE(X:Cx)(G:Gx):XK:=fun cls _ H=>∃ c,X.mg c=some cls/\G.E c H
def qN(K:PySem.W.Frag)(mg:Str->Option Ja)(P:Jc):Prop:=∃ f oc od fd osl c,mg "ranked" = some (.ref f)/\K.lookup f=some ⟨oc,od,.func fd,osl⟩/\fd.code=.ref c/\∀ h,K.In h->PySem.W.CodeHd h c P
def TB(K:PySem.W.Frag)(mg:Str->Option Ja)(Hi H:Hp):Prop:=∀ P,qN K mg P->zBL P H/\Hi P=none
def TB.ext{K:Fg_}{mg:Str->Option Ja}{Hi H Hi' H':Hp}(t:TB K mg Hi H)(e:Ext Hi H Hi' H'):TB K mg Hi' H':=fun P h=>⟨e.h.t P (t P h).1,by
 cases z:Hi' P with
 | none=>rfl
 | some o=>
  obtain⟨⟨ps,q,_⟩,n⟩:=t P h;have:=e.n P n (by rw[z];exact fun w=>by cases w)
  rw[q] at this;cases this⟩
structure Good (X:Cx) (G:Gx) (k:Nat):Prop where
 calm:X.calm=true
 room:Room k X.A
 pass:zFt (CX1 X.prog X.w) X (XE X G)
 own:PassesOwn (model X.prog X.w) X.A X.env X.xe
 tb:TB X.K X.mg G.Bi G.B
def zGp(X:Cx)(G:Gx):Prop:=∀(Mi:List (Jc×Obj))(r:St)(H:Hp)(s s':Jb)(ea:Jc)(cls:Ja)(vs:List Ja),Inv X Mi r H s->Heap.MadeExcOf s.heap s'.heap ea cls vs->s'.os=s.os->AllBare s'.gens->XE X G cls none H->X.xe (.ref ea) s'
def spM(K:PySem.W.Frag)(mg:Str->Option Ja)(p:Nat)(m:Mir):Sp:=fun vs H Q E=>vs.length=p/\∃ Bi ds,TB K mg Bi H/\Same Bi H/\IsDs K Bi vs ds/\match m ds with
 | .ok (.v d)=>∀ v Hi' H',Ext Bi H Hi' H'->IsD K Hi' v d->Q v H'
 | .ok (.f es)=>∀ a Hi' H',Ext Bi H Hi' H'->zLq K H Hi' H' a es->Q (.ref a) H'
 | .err c=>∀ C,mg c=some C->∀ Hi' H',Ext Bi H Hi' H'->E C none H'
 | .no=>False
structure CanM (P:Jf) (w:Jg) (K:PySem.W.Frag) (mg:Str->Option Ja) (base:Je) (k:Nat) (x:Str) (ps:List Str) (m:Mir):Prop where
 ex:∃ f fd,FnOk P w K mg base (CX1 P w) k f fd ps (spM K mg ps.length m)/\zCT K fd ps []/\PySem.W.keepIn K (.ref f)=true/\mg x=some (.ref f)
 ln:∀ ds,m ds≠.no->ds.length=ps.length
def Good.u{X:Cx}{G:Gx}{k:Nat}(W:Good X G k):X.A.units+64<cLine:=W.room.units
def CanM.mono{P:Jf}{w:Jg}{K:Fg_}{mg:Str->Option Ja}{base:Je}{j k:Nat}{x:Str}{ps:List Str}{m:Mir}(c:CanM P w K mg base j x ps m)(h:j<=k):CanM P w K mg base k x ps m:=by
 obtain⟨⟨f,fd,F,r⟩,l⟩:=c;exact⟨⟨f,fd,F.mono h,r⟩,l⟩
section
variable{X:Cx}{G:Gx}{a b e:Expr}{es:List Expr}{pos p:Pos}{f g:Ev}{fs gs:Fv}{t u:Tv}{x:Str}{st:Ji}{rest:List Ji}{sa sb:Sv}{k:Nat}{ps:List Str}{m:Mir}
def zRu{ps:List Str}(tb:TB X.K X.mg G.Bi G.B)(ln:∀ ds,m ds≠.no->ds.length=ps.length):∀ i H Q,tD X G (aM m fs) i H Q->zNw (spM X.K X.mg ps.length m) [] (XE X G) (tAs X G fs) i H Q:=fun i H Q q=>by
 obtain⟨ρ,Hi,R,ou⟩:=q;refine zKs R ou fun vs ds Hi1 H1 e1 R1 r1 o1=>?_
 rw[Vf];have hm:m ds≠.no:=fun z=>by rw[z] at o1;exact o1
 refine⟨by rw[r1.length];exact ln ds hm,Hi1,ds,tb.ext R1.ext,R1.s,r1,?_⟩
 cases z:m ds with
 | no=>exact absurd z hm
 | err c=>rw[z] at o1;exact fun C hC Hi2 H2 e2=>⟨c,hC,o1 Hi2 H2 e2⟩
 | ok r=>
  rw[z] at o1
  cases r with
  | v d=>exact fun v Hi2 H2 e2 r2=>o1 Hi2 H2 e2 v r2
  | f ds=>
   intro a Hi2 H2 e2 n;obtain⟨n1,n2,xs,n3,n4⟩:=n;exact o1 _ _ (e2.hold n1 n3 n2) (.ref a) (.lst (SqL.of aR) (n4.mono (cJ n2 _)))
def aE(W:Good X G k)(c:CanM X.prog X.w X.K X.mg X.base k x ps m)(hg:Gl X x)(ha:PAd X G (e::es) fs)
  (hdb:(x==("__debug__" : Str))=false:=by decide) (he:starEach (e::es) X.env=(false,eval e X.env)::starEach es X.env:=by rfl) (hpl:(backTo pos (starEach es X.env)).any (·.1)=false:=by rfl):
  PEd X G (.Call (.Name x p) (e::es) [] pos) (aM m fs):=by
 obtain⟨⟨f,fd,F,b,kp,hm⟩,ln⟩:=c;exact PE.wk (zDw F W.room hg hm kp b .nil W.pass ha hdb he hpl) (zRu W.tb ln)
def zNQ{ps:List Str}(tb:TB X.K X.mg G.Bi G.B)(ln:∀ ds,m ds≠.no->ds.length=ps.length):∀ i H Q,tF X G (cH m fs) i H Q->zNw (spM X.K X.mg ps.length m) [] (XE X G) (tAs X G fs) i H Q:=fun i H Q q=>by
 obtain⟨ρ,Hi,R,ou⟩:=q;refine zKs R ou fun vs ds Hi1 H1 e1 R1 r1 o1=>?_
 rw[Vf];have hm:m ds≠.no:=fun z=>by rw[z] at o1;exact o1
 refine⟨by rw[r1.length];exact ln ds hm,Hi1,ds,tb.ext R1.ext,R1.s,r1,?_⟩
 cases z:m ds with
 | no=>exact absurd z hm
 | err c=>rw[z] at o1;exact fun C hC Hi2 H2 e2=>⟨c,hC,o1 Hi2 H2 e2⟩
 | ok r=>
  rw[z] at o1
  cases r with
  | v d=>exact o1.elim
  | f ds=>exact fun a Hi2 H2 e2 n=>o1 Hi2 H2 e2 a ⟨e1.h.none n.1,n.2⟩
def aX(W:Good X G k)(c:CanM X.prog X.w X.K X.mg X.base k x ps m)(hg:Gl X x)(ha:PAd X G (e::es) fs)
  (hdb:(x==("__debug__" : Str))=false:=by decide) (he:starEach (e::es) X.env=(false,eval e X.env)::starEach es X.env:=by rfl) (hpl:(backTo pos (starEach es X.env)).any (·.1)=false:=by rfl):
  PEf X G (.Call (.Name x p) (e::es) [] pos) (cH m fs):=by
 obtain⟨⟨f,fd,F,b,kp,hm⟩,ln⟩:=c;exact PE.wk (zDw F W.room hg hm kp b .nil W.pass ha hdb he hpl) (zNQ W.tb ln)
def bH{d:D}(hg:Gl X x)(h:∃ v u',X.mg x=some u'/\cW v u'/\IsD X.K (fun _=>none) v d)(hdb:(x==("__debug__" : Str))=false:=by decide):PEd X G (.Name x pos) (eC d):=by
 obtain⟨v,u',hm,r,hd⟩:=h;exact lL (zDM hg hm r hdb) fun H=>hd.mono fun b o z=>by cases z
end
abbrev BX(P:Jf)(w:Jg)(K:PySem.W.Frag)(mg:Str->Option Ja)(base:Je)(N:List Str)(x:Str)(st:Ji)(f:Jc)(cdv:Ja)(A:Jh)(outer:List Env)(s:Jb)(H:Hp)(E:XK):Cx:=
 zGi (CX1 P w) P w K mg base N x (aF st) f cdv A outer s H E
def zBZ{K:Fg_}{mg:Str->Option Ja}{Bi H:Hp}{N:List Str}{vs:List V}{ds:List D}(s:Same Bi H)(h:IsDs K Bi vs ds):Rel K mg H Bi Bi H (L2.start N vs) (L3.start N.length ds) where
 len:=by
  unfold L2.start L3.start;rw[Qi,Qi,Qe,Qe,X6,X6,h.length]
 ext:=Ext.refl s
 slot:=fun i sl e=>by
  unfold L3.start at e;by_cases hi:i<ds.length
  ·rw[Vk (by rw[Qe];exact hi),Qu] at e
   obtain⟨d,hd⟩:∃ d,ds[i]?=some d:=⟨_,Qq hi⟩;rw[hd] at e;cases e
   obtain⟨v,hv,r⟩:=h.at hd;refine⟨v,?_,r⟩
   unfold L2.start;rw[Vk (by rw[Qe,h.length];exact hi),Qu,hv];rfl
  ·rw[Vh (by rw[Qe];omega),Y3] at e
   split at e
   ·cases e;trivial
   ·cases e
 dist:=fun i j a es fs e _ _ _=>by
  exfalso
  unfold L3.start at e;by_cases hi:i<ds.length
  ·rw[Vk (by rw[Qe];exact hi),Qu] at e
   cases z:ds[i]? with
   | none=>rw[z] at e;cases e
   | some d=>rw[z] at e;cases e
  ·rw[Vh (by rw[Qe];omega),Y3] at e
   split at e<;>cases e
section
variable{P:Jf}{w:Jg}{K:Fg_}{mg:Str->Option Ja}{base:Je}{N ps:List Str}{x:Str}{st:Ji}{f:Jc}{fd:FuncData}{k:Nat}{b:Sv}
def zIf{cdv:Ja}{A:Jh}{outer:List Env}{s:Jb}{H Bi:Hp}{E:XK}(hr:Room k (A.deeper (envOfC x (aF st) s.heap.objs.size f cdv)))(tb:TB K mg Bi H):
  Good (BX P w K mg base N x st f cdv A outer s H E) ⟨H,Bi,fun c H'=>∀ C,mg c=some C->E C none H'⟩ k where
 calm:=rfl
 room:=hr
 pass:=zTc fun c H' q=>by
  obtain⟨c',h1,h2⟩:=q;exact h2 c h1
 own:=PassesOwn.leaving
 tb:=tb
def zFI{cdv:Ja}{A:Jh}{outer:List Env}{s:Jb}{H Bi:Hp}{E:XK}:
  zGp (BX P w K mg base N x st f cdv A outer s H E) ⟨H,Bi,fun c H'=>∀ C,mg c=some C->E C none H'⟩:=fun Mi p H1 s1 s' ea cls vs I hx hos hg q=>by
 obtain⟨c',h1,h2⟩:=q;exact zDs I hx hos hg (h2 cls h1)
def zRx(F:Fn K mg x st ps f fd)(S:FnScope N ps (aF st))
  (h:∀(cdv:Ja)(A:Jh)(outer:List Env)(s:Jb)(H:Hp)(E:XK)(G:Gx),Good (BX P w K mg base N x st f cdv A outer s H E) G k->zGp (BX P w K mg base N x st f cdv A outer s H E) G->eN (BX P w K mg base N x st f cdv A outer s H E) G (fJ st) b):
  FnOk P w K mg base (CX1 P w) (k+1) f fd ps (spM K mg ps.length (fn ps.length N.length b)):=by
 obtain⟨oc,od,kV,doc,pm,an,cdv,ct,osl,rfl,lk,hcd⟩:=F.fn.ex;refine zQg lk hcd S (fun vs H Q E h=>h.1) fun A outer s H vs Q E hr hsp=>?_
 obtain⟨hl,Bi,ds,tb,sm,hd,hq⟩:=hsp;have hg:=zIf (P:=P) (w:=w) (K:=K) (mg:=mg) (base:=base) (N:=N) (outer:=outer) (H:=H) (Bi:=Bi) (E:=E) hr tb;refine⟨_,h cdv A outer s H E _ hg zFI,L3.start N.length ds,Bi,zBZ sm hd,?_⟩
 have hlen:ds.length=ps.length:=by rw[<-hd.length];exact hl
 unfold fn at hq;rw[Jk hlen] at hq
 cases z:b (L3.start N.length ds) with
 | no=>rw[z] at hq;exact hq
 | err c=>rw[z] at hq;exact fun Hi' H' e C hC=>hq C hC Hi' H' e
 | ok fl=>
  rw[z] at hq
  cases fl with
  | nx r'=>exact fun p' Hi' H' s R=>hq .non Hi' H' R.ext .non
  | brk r'=>exact hq.elim
  | ctn r'=>exact hq.elim
  | ret r=>
   cases r with
   | v d=>exact hq
   | f es=>exact hq
def pJ(F:Fn K mg x st ps f fd)(S:FnScope N ps (aF st))
  (h:∀(cdv:Ja)(A:Jh)(outer:List Env)(s:Jb)(H:Hp)(E:XK)(G:Gx),Good (BX P w K mg base N x st f cdv A outer s H E) G k->zGp (BX P w K mg base N x st f cdv A outer s H E) G->eN (BX P w K mg base N x st f cdv A outer s H E) G (fJ st) b):
  CanM P w K mg base (k+1) x ps (fn ps.length N.length b):=by
 refine⟨⟨f,fd,zRx F S h,F.bd,F.kp,F.mg⟩,fun ds hm=>?_⟩
 unfold fn at hm;split at hm
 ·assumption
 ·exact absurd rfl hm
end
section
variable{X:Cx}{G:Gx}{a b e:Expr}{es:List Expr}{pos p:Pos}{f g:Ev}{fs gs:Fv}{t u:Tv}{x:Str}{st:Ji}{rest:List Ji}{sa sb:Sv}{k:Nat}
def PTd.frz(h:PTd X G e t):PTd X G e (tFrzB t):=PT.wk h fun m H Q q=>by
 obtain⟨ρ,Hi,R,ou⟩:=q;obtain⟨Hf,s1,R1,fl⟩:=R.frz;refine⟨ρ.map Sl.frz,Hf,R1,?_⟩
 unfold tFrzB at ou
 cases z:t (ρ.map Sl.frz) with
 | no=>rw[z] at ou;exact ou
 | err c=>
  rw[z] at ou;intro Hi1 H1 e1;obtain⟨Ht,e2,k,s2,n⟩:=Ext.thaw s1 fl R1.s e1;exact ou Ht H1 e2
 | ok c=>
  rw[z] at ou;intro Hi1 H1 e1;obtain⟨Ht,e2,k,s2,n⟩:=Ext.thaw s1 fl R1.s e1;exact ou Ht H1 e2
def iSq(K:PySem.W.Frag)(tl:TE):TI:=fun m H R=>tl m H fun x H1=>∃ a,x=.ref a/\(((∃ xs,SqL K H1 a xs)/\R (Itl K a) H1)∨((∃ xs,SqT K H1 a xs)/\R (Itt K a) H1))
def zRt{tg l:Expr}{tl:TE}(hl:PE X l tl):PI X tg l (iSq X.K tl):=by
 intro Mi s m H R I h;refine thn (hl Mi s m H _ I h) fun v s1 ⟨x,H1,I1,r1,q1⟩=>?_
 obtain⟨a,e,q1⟩:=q1;subst e;cases r1;rcases q1 with⟨⟨xs,hq⟩,q⟩ | ⟨⟨xs,hq⟩,q⟩
 ·obtain⟨its,rv,p,hz⟩:=I1.list hq
  refine wpAny_pyIter_list p.isList ?_
  refine⟨s1.heap.objs.size,[s1.heap.objs.size],_,_,H1,rfl,I1.kept (t':=s1.toks) fun b o e=>Heap.get?_push_of_some _ e,zCX a _,⟨_,Heap.get?_push_size _ rfl,rfl,rfl⟩,fun b hb=>?_,q⟩
  have e:b=s1.heap.objs.size:=by simpa using hb
  subst e;exact I1.fpOk (Qf _) (I1.hok.fresh (Qf _))
 ·obtain⟨its,rv,p,hz⟩:=I1.tuple hq
  refine wpAny_pyIter_tuple (show s1.heap.IsTuple a its.toArray from p) ?_
  refine⟨s1.heap.objs.size,[s1.heap.objs.size],_,_,H1,rfl,I1.kept (t':=s1.toks) fun b o e=>Heap.get?_push_of_some _ e,zGh a _,⟨_,Heap.get?_push_size _ rfl,rfl,rfl⟩,fun b hb=>?_,q⟩
  have e:b=s1.heap.objs.size:=by simpa using hb
  subst e;exact I1.fpOk (Qf _) (I1.hok.fresh (Qf _))
def zCI{K:Fg_}{Hi:Hp}{a:Jc}{xs:List V}{ds:List D}(h1:SqL K Hi a xs)(h2:IsDs K Hi xs ds):wD K Hi (Itl K a) ds:=fun Hi1 H1 s1 s2 i=>by
 have h3:=bY (s1.trans s2) h1;refine⟨fun hl=>⟨xs,h3,by rw[h2.length];exact hl⟩,fun d hd=>?_⟩
 obtain⟨v,hv,r⟩:=h2.at hd;refine⟨⟨xs,v,h3,hv⟩,fun x H2 y=>?_⟩
 obtain⟨e,y⟩:=y;subst e;have:=y xs h3
 rw[hv] at this;cases this;exact⟨Hi1,Ext.refl s2,r.mono s1⟩
def iC{tg:Expr}(h:PEd X G e f):PId X G tg e (qZ f):=PI.wk (zRt h) fun m H Q q=>by
 obtain⟨ρ,Hi,R,ou⟩:=q;refine zBu R ou fun v d Hi1 H1 e1 R1 r1 o1=>?_
 cases d with
 | lst ds=>
  obtain⟨a,xs,rfl,h1,h2⟩:=r1.lstI;exact⟨a,rfl,.inl ⟨⟨xs,bY R1.s h1⟩,o1.here R1.s _ (zCI h1 h2)⟩⟩
 | tup ds=>
  obtain⟨a,xs,rfl,h1,h2⟩:=r1.tupI;exact⟨a,rfl,.inr ⟨⟨xs,cC R1.s h1⟩,o1.here R1.s _ (zHM h1 h2)⟩⟩
 | _=>exact o1.elim
def bM{i:Nat}:∀ d ρ c,gName i d ρ≠.err c:=fun d ρ c z=>by cases z
def zDA:∀ d ρ c,zGY d ρ≠.err c:=fun d ρ c z=>by cases d<;>cases z
def oG{g:Gv}{r:List D->Rho->Res Rho}(h1:∀ d ρ c,g d ρ≠.err c)(h2:∀ d ρ c,r d ρ≠.err c):∀ d ρ c,mP g r d ρ≠.err c:=fun d ρ c z=>by
 cases d with
 | nil=>cases z
 | cons d ds=>
  have z':(g d ρ).bind (fun ρ'=>r ds ρ')=.err c:=z
  cases q:g d ρ with
  | no=>rw[q] at z';cases z'
  | err c'=>exact h1 _ _ _ q
  | ok ρ'=>rw[q] at z';exact h2 _ _ _ z'
def zEr{r:List D->Rho->Res Rho}(h:∀ d ρ c,r d ρ≠.err c):∀ d ρ c,zGW r d ρ≠.err c:=fun d ρ c z=>by
 cases d<;>first | cases z | exact h _ _ _ z
def zIh:∀(ds:List D)(ρ ρ':Rho),zGY ds ρ=.ok ρ'->ds.length=0:=fun ds ρ ρ' z=>by
 cases ds with
 | nil=>rfl
 | cons d ds=>cases z
def rR{g:Gv}{r:List D->Rho->Res Rho}{n:Nat}(h:∀ (ds:List D) (ρ ρ':Rho),r ds ρ=.ok ρ'->ds.length=n):∀(ds:List D)(ρ ρ':Rho),mP g r ds ρ=.ok ρ'->ds.length=n+1:=fun ds ρ ρ' z=>by
 cases ds with
 | nil=>cases z
 | cons d ds=>
  have z':(g d ρ).bind (fun ρ'=>r ds ρ')=.ok ρ':=z
  cases q:g d ρ with
  | no=>rw[q] at z';cases z'
  | err c'=>rw[q] at z';cases z'
  | ok ρ1=>rw[q] at z';rw[Qn,h ds ρ1 ρ' z']
def zBt:∀ a b d,zAZ a b=.ok d->∃ i j,a=.int i/\b=.int j/\d=.int (i+j):=fun a b d z=>by
 unfold zAZ at z;split at z
 ·cases z;exact⟨_,_,rfl,rfl,rfl⟩
 ·cases z
def uE:∀ a b c,zAZ a b≠.err c:=fun a b c z=>by unfold zAZ at z;split at z<;>cases z
def zHG:∀ a b d,zDg a b=.ok d->∃ i j,a=.int i/\b=.int j/\d=.int (i-j):=fun a b d z=>by
 unfold zDg at z;split at z
 ·cases z;exact⟨_,_,rfl,rfl,rfl⟩
 ·cases z
def zFN:∀ a b c,zDg a b≠.err c:=fun a b c z=>by unfold zDg at z;split at z<;>cases z
end
def zCf{K:Fg_}{H:Hp}:∀ ns:List Int,IsDs K H (ns.map V.int) (ns.map D.int)
 | []=>.nil
 | n::ns=>.cons (.int n) (zCf ns)
section
variable{X:Cx}{G:Gx}{e:Expr}{es:List Expr}{pos np cpos:Pos}{fs:Fv}{k:Nat}{c:Str}
def fA(W:Good X G k)(WR:zGp X G)(hR:∃ C,Err X.K X.mg c C)(hg:Gl X c)(ha:PAd X G (e::es) fs)
  (he:starEach (e::es) X.env=(false,eval e X.env)::starEach es X.env:=by rfl) (hplain:(backTo cpos (starEach es X.env)).any (·.1)=false:=by rfl) (hd:(c==("__debug__" : Str))=false:=by decide):
  PSd X G (.Raise (some (.Call (.Name c np) (e::es) [] cpos)) none pos) (hU c fs):=by
 intro Mi s p H E I q;obtain⟨ρ,Hi,R,h⟩:=q;obtain⟨C,Er⟩:=hR;obtain⟨bmB,newId,B,initId,O,FB⟩:=Er.own X.base I.mod.kin;obtain⟨tl,N,nm,q,bs,hdct,sn,sub,ab,col,dd,k0,k1,k2,k3,k5,mN,hC,hN,hni,T⟩:=O.obj
 have hA:=ha cpos Mi s p H (fun vs H1=>vs.length<=sizeLine/\XE X G (.ref C) none H1) I ⟨ρ,Hi,R,oK R h fun ds Hi' H' _ e1 h' vs r=>by
  have h':Fin X G Hi' E (if ds.length<=16777216 then (.err c:Res Fl) else .no):=h';by_cases hz:ds.length<=16777216
  ·rw[Jk hz] at h'
   exact⟨by rw[r.length];exact hz,c,O.bound,h' Hi' H' (R.ext.trans e1)⟩
  ·rw[Jl hz] at h';exact h'.elim⟩
 refine wpAny_Raise_call_subT (C:=C) (nm:=nm) (q:=q) (N:=N) (bs:=bs) (bm:=tl) (hdct:=hdct) (sn:=sn) (sub:=sub) (ab:=ab) (col:=col) (dd:=dd) (k0:=k0) (k1:=k1) (k2:=k2) (k3:=k3) (k5:=k5)
  FB (mN:=mN) (T.hasType FB.hasBase) (I.ok.hd W.calm) (by rw[he];show(false || (backTo cpos (starEach es X.env)).any (·.1))=false;rw[hplain];rfl) hni (wQ I hg O.bound ⟨rfl,?_⟩ hd)
 rw[he] at hA ⊢
 refine Calls.evalArgs_plain (wpAny_mono hA (fun us s₂ h₂=>?_) fun _ _ y=>y)
 obtain⟨vs,H2,I2,rv,hz,hx⟩:=h₂;exact⟨rfl,by show us.length<=sizeLine;rw[<-rv.length];exact hz,I2.bk _ _ hC,hN.keeps I2.bk,T.keeps I2.bk,fun h' ea hm=>WR Mi p H2 s₂ { s₂ with heap:=h' } ea (.ref C) us I2 hm rfl I2.bare hx⟩
end
end L3
namespace L3
open PySem PySem.Spec PyProof.Rows L2 PySem.W Builtin Builtin.ObjectAttr Builtin.Getset_descriptor
unseal PEd PEf PTd PWd PAd PSd eN POd PGd jG PId
section
variable{prog:Jf}{w:Jg}{A:Jh}{E:Ja->Jb->Prop}{s:Jb}{K:Frag}{x D:Jc}{ox:Obj}
def zOO(x D:Jc)(h:Je):Prop:=∃ o,h.get? x=some o/\o.cls=.ref D
def zOO.looks{h:Je}(I:zOO x D h){M:Model}:Looks M h (typeOf (.ref x)) (.ref D):=by
 obtain⟨o,h1,h2⟩:=I;exact h2 ▸ (Looks.ld h1).andThen .now
def zGB{h:Je}{M:Model}{self:Ja}{name:Str}{a g:Ja}(X:K.In h)(ha:findIn K (.ref D) name=some (some a))(hg:specialIn K a "__get__" = some (some g))(ht:takesIn K a=some true):
  Looks M h (Builtin.ObjectAttr.find self (.ref D) name) (.bind g a):=by
 have L1:=looks_findIn (M:=M) X ha;have L2:=looks_specialIn (M:=M) X hg;have L3:=looks_takesIn (M:=M) X ht;refine L1.andThen (L2.andThen ?_)
 intro A' Q' E' s' k q;unfold Builtin.ObjectAttr.dataDescriptor?
 refine Jr (Jr (L3 A' _ E' s' k ?_))
 exact Ju (Jr (wpAny_rule (Ju q)))
def zGd{R:Result->Jb->Prop}{tp:Ja}(X:K.In s.heap)(I:zOO x D s.heap)(hm:mroIn K D (.type "object")=some true)(h:R (.ok (.ret (.ref D))) s):
  codeAny (model prog w) A (.call (.builtin "getset_descriptor.__get__") ⟨[.builtin "object.__class__", .ref x,tp],[]⟩) R s:=by
 obtain⟨hh,gg,dr,tt,oo⟩:=s;have L0:=I.looks (M:=model prog w);have L1:=looks_mroIn (M:=model prog w) X hm;refine codeAny_call_builtin KF.slot_gs.plain KF.entry_gs (KF.slot_gs.check _ _ _ _ _ _ _ _ KF.type_class (KF.args_gs _ _ _) ?_)
 unfold Builtin.«getset_descriptor.__get__» descrGet
 rw[dga_obj];refine Jr (Ju ?_)
 unfold descrGetter descrCheckInstance descrNameAndClass isInstance;simp only[KF.owner_class];repeat lk
 refine⟨Code.quiet_builtin _ (by decide +kernel),codeAny_builtin KF.entry_class ?_⟩
 unfold Builtin.«object.__class__» shownTypeOf
 repeat lk
 exact h
structure ExK (K:Frag) (D:Jc):Prop where
 hc:(clsIn K D).isSome=true
 ga:findIn K (.ref D) "__getattribute__" = some (some (.builtin "BaseException.__getattribute__"))
 no:findIn K (.ref D) "__getattr__" = some none
 ha:findIn K (.ref D) "__class__" = some (some (.builtin "object.__class__"))
 hn:specialIn K (.builtin "object.__class__") "__get__" = some (some (.builtin "getset_descriptor.__get__"))
 tk:takesIn K (.builtin "object.__class__")=some true
 mo:mroIn K D (.type "object")=some true
 mb:mroIn K D (.type "BaseException")=some true
def zHl(T:ExK K D){Q:Option Ja->Jb->Prop}(X:K.In s.heap)(I:zOO x D s.heap)(h:Q (some (.ref D)) { s with toks:=s.toks+1 }):
  wpAny (model prog w) A (getAttr? (.ref x) "__class__") Q E s:=by
 obtain⟨hh,g,d,t,os⟩:=s;have L0:=I.looks (M:=model prog w);have L1:=looks_findIn (M:=model prog w) X T.ga;have L2:=looks_findIn (M:=model prog w) X T.no;have L3:=zGB (M:=model prog w) (self:=.ref x) X T.ha T.hn T.tk;have L4:=looks_mroIn (M:=model prog w) X T.mb;unfold getAttr? getAttrBy? getAttrBy
 refine Jr (wpAny_mkText (Jr (wpAny_attempt (wpAny_holding (Jr (L0.at (Jr (L1.at ?_))))))))
 have hx2:(Value.builtin "BaseException.__getattribute__" == Value.builtin "object.__getattribute__")=false:=by decide +kernel
 show wpAny _ _ (if (onTheHeap (.ref D) && Value.builtin "BaseException.__getattribute__" == Value.builtin "object.__getattribute__")=true then _ else _) _ _ _
 rw[hx2,U3,Jl Yk];unfold getAttrByItsOwn hookBefore;refine Jr ?_
 show wpAny _ _ (typeLookup (.ref D) "__getattr__") _ _ _
 refine L2.at ?_
 refine Jr (wpAny_attempt (wpAny_holding ?_))
 unfold callGetattribute boundAndCalled;have f3:=F.excAttr_ValueError.ga.bind (.ref x);show wpAny _ _ (bindSpecial (.builtin "BaseException.__getattribute__") (.ref x) >>= _) _ _ _
 rw[f3];refine Jr (Ju ?_)
 have hk:builtinKind "BaseException.__getattribute__" = some .slot:=by decide +kernel
 have hsplit:splitId "BaseException.__getattribute__" = some ("BaseException","__getattribute__"):=by decide +kernel
 refine wpAny_call (codeAny_call_builtin F.excAttr_ValueError.ga.plain F.entry_bexc_ga ?_)
 have ha:=F.args_bexc_ga (.ref x) (.str "__class__" t);simp only[checkBuiltinCall,hk,hsplit];refine Jr ?_
 unfold isInstance;refine Jr ?_
 refine L0.at ?_
 refine L4.at ?_
 rw[Jl (by decide)];repeat (first | assumption | wp_step)
 obtain⟨ox,hx,hcl⟩:=I;refine wpAny_loadPart_at hx ?_
 rw[hcl];refine Ju ?_
 refine Jr ?_
 refine L3.at ?_
 show wpAny _ _ (Builtin.ObjectAttr.bindTo (.builtin "getset_descriptor.__get__") (.builtin "object.__class__") (.ref x) (.ref D)) _ _ _
 unfold Builtin.ObjectAttr.bindTo
 show wpAny _ _ (do
   let v <-holding [Value.builtin "object.__class__"] (call (.builtin "getset_descriptor.__get__") [.builtin "object.__class__", .ref x,.ref D])
   ret v) _ _ _
 refine Jr (wpAny_holding (wpAny_call (zGd X ⟨ox,hx,hcl⟩ T.mo ?_)))
 refine Ju ?_
 exact handed_on rfl (Ju h)
def zFs(T:ExK K D):KitX K (.ref x) (.ref D) (zOO x D) where
 ty:=fun _ _ _ I=>I.looks
 it:=fun _ _ X _=>by
  obtain⟨cd,hcD⟩:=Y2.mp T.hc;unfold clsIn at hcD;split at hcD
  ·rename_i c' d' cd' sl' ho
   intro A' Q' E' s' k q;unfold isType loadHead;exact Jr (wpAny_loadPart (k _ _ (X _ _ ho)) (Ju q))
  ·cases hcD
 ne:=fun h tp dd its n sl X htp=>by
  obtain⟨cd,hcD⟩:=Y2.mp T.hc;refine Bool.eq_false_iff.mpr fun q=>?_
  have e:D=tp:=Value.ref.inj (beq_iff_eq.mp q);subst e;unfold clsIn at hcD;split at hcD
  ·rename_i c' d' cd' sl' ho
   have z:=(X _ _ ho).symm.trans htp;cases z
  ·cases hcD
 ca:=fun X I k=>zHl T X I k
end
section
variable{prog:Jf}{w:Jg}{A:Jh}{E:Ja->Jb->Prop}{s:Jb}{K:Frag}{x C CE:Jc}{ox:Obj}
structure CaK (K:Frag) (CE:Jc):Prop where
 ty:typeIn K (.ref CE)=some (.type "type")
 cl:(clsIn K CE).isSome=true
 mb:mroIn K CE (.type "BaseException")=some true
def zJX(T:CaK K CE)(hm:mroIn K C (.ref CE)=some true){Q:Bool->Jb->Prop}(X:K.In s.heap)(I:zOO x C s.heap)(h:Q true s):wpAny (model prog w) A (excMatches (.ref x) (.ref CE)) Q E s:=by
 obtain⟨hh,g,d,t,os⟩:=s;have L0:=I.looks (M:=model prog w);have L1:=looks_typeIn (M:=model prog w) X T.ty;have L2:=looks_mroIn (M:=model prog w) X T.mb;have L3:=looks_mroIn (M:=model prog w) X hm
 have Lt:Looks (model prog w) hh (isType (.ref CE)) true:=by
  obtain⟨cd,hcD⟩:=Y2.mp T.cl;unfold clsIn at hcD;split at hcD
  ·rename_i c' d' cd' sl' ho
   intro A' Q' E' s' k q;unfold isType loadHead;exact Jr (wpAny_loadPart (k _ _ (X _ _ ho)) (Ju q))
  ·cases hcD
 unfold excMatches isInstance isExcClass;refine Jr (Jr ?_)
 refine L1.at ?_
 refine wpAny_of_eq tc_notTuple ?_
 show wpAny _ _ (forIn [Value.ref CE] PUnit.unit _ >>= _) _ _ _
 rw[Ud];refine Jr (Jr (Jr (Jr ?_)))
 refine Lt.at ?_
 show wpAny _ _ (isSubtype (.ref CE) (.type "BaseException")) _ _ _
 refine L2.at ?_
 refine Ju ?_
 show wpAny _ _ (forIn ([]:List Ja) PUnit.unit _) _ _ _
 rw[List.forIn_nil];refine Ju ?_
 refine Jr ?_
 refine L0.at ?_
 refine Jr ?_
 rw[Ud];refine Jr (Jr ?_)
 refine L3.at ?_
 repeat (first | exact h | wp_step)
end
section
variable{X:Cx}{Mi:List (Jc×Obj)}{σ:St}{H H':Hp}{s s':Jb}{ea:Jc}{cls:Ja}
def Fly.stay(I:Inv X Mi σ H s)(F:Fly X.prog X.w X.stack H H' s ea cls s'){h' B:Je}{a0:Ja}
  (hf:Heap.FlyingW B X.stack ea cls a0 s'.heap) (cov:∀ b o,s'.heap.get? b=some o->((∃ o',s.heap.get? b=some o')∨H' b≠none)->b∉frs X.stack->B.get? b=some o)
  (hf':Heap.FlyingW B X.stack ea cls a0 h') (up:s'.heap.UpToSlots h') {t':Nat}:Inv X Mi σ H' { s' with heap:=h',toks:=t' }:=by
 have trk:∀ {b:Jc},H' b≠none->b∉frs X.stack:=fun {b} hb hm=>by
  have h1:=I.stkFree b hm;obtain⟨_,o,ho,_⟩:=I.stack.mem hm;exact hb (F.un.free b o ho h1 (by simp))
 have keepB:∀ {b:Jc} {o:Obj},s'.heap.get? b=some o->((∃ o',s.heap.get? b=some o')∨H' b≠none)->b∉frs X.stack->h'.get? b=some o:=fun e1 e2 e3=>hf'.1 _ _ (cov _ _ e1 e2 e3)
 have slotOf:∀ {b:Jc} {o:Obj},b∈frs X.stack->s'.heap.get? b=some o->∃ sl,h'.get? b=some { o with slots:=sl }:=fun {b o} hm e=>by
  obtain⟨_,o',ho',hn⟩:=hf.2.2.1.mem hm;rw[e] at ho';cases ho'
  exact up b o e hn
 refine I.call' (s':={ s' with heap:=h',toks:=t' }) (ch:=[]) F.os ⟨?_,?_,F.un.free,?_,F.un.tups,F.un.frzs,F.un.tbls⟩ ?_ F.bare (fun b z=>absurd z (by simp))
 ·intro b o e n hb hx
  exact keepB (F.un.keep b o e n hb hx) (.inl ⟨o,e⟩) hb
 ·intro b o e n hb hx
  obtain⟨sl,e1⟩:=F.un.slot b o e n hb hx;obtain⟨sl2,e2⟩:=slotOf hb e1;exact⟨sl2,e2⟩
 ·intro b o e hx
  obtain⟨o1,e1⟩:=F.un.there b o e hx;by_cases hs:b∈frs X.stack
  ·obtain⟨sl,e3⟩:=slotOf hs e1
   exact⟨_,e3⟩
  ·exact⟨o1,keepB e1 (.inl ⟨o,e⟩) hs⟩
 ·intro a o e
  refine(F.hok a o e).stay (fun b u hb z=>?_) (fun b z=>z) (fun b xs z=>z)
  have hb':H' b≠none:=by
   rcases hb with rfl | hb
   ·rw[e];simp
   ·rw[hb];simp
  exact keepB z (.inr hb') (trk hb')
def _root_.L2.Inv.track(I:Inv X Mi σ H s){a:Jc}{o:HO}(hn:H a=none)(h0:X.s₀.heap.get? a=none)(hl:a≠X.env.locals)(hc:∀ x c,X.env.cells.lookup x=some c->c≠a)(hp:∀ p∈X.pn++Mi,p.1≠a)
  (ho:mQ X.prog X.w (upd H a o) s.heap a o):Inv X Mi σ (upd H a o) s where
 ok:=I.ok
 os:=I.os
 bare:=I.bare
 base:=⟨I.base.keep,I.base.slot,fun b ob e n hx=>by
   have:b≠a:=fun z=>by rw[z,h0] at e;cases e
   rw[aV this];exact I.base.free b ob e n hx,I.base.there,fun b xs e=>by
   have z:=I.base.tups b xs e
   rw[aV (aY z hn)];exact z,fun b ob u e=>by
   have z:=I.base.frzs b ob u e
   rw[aV (aY z hn)];exact z,fun b ps e=>by
   obtain⟨m,z⟩:=I.base.tbls b ps e
   exact⟨m,by rw[aV (aY z hn)];exact z⟩⟩
 loc:=I.loc
 cell:=I.cell
 free:=by rw[aV (Ne.symm hl)];exact I.free
 freeC:=fun x c e=>by rw[aV (hc x c e)];exact I.freeC x c e
 pin:=fun p hp'=>by
  obtain⟨e1,e2,e3,e4,e5⟩:=I.pin p hp';exact⟨e1,by rw[aV (hp p hp')];exact e2,e3,e4,e5⟩
 hok:=fun b u e=>by
  by_cases hb:b=a
  ·subst hb;rw[aR] at e;cases e;exact ho
  ·rw[aV hb] at e
   exact(I.hok b u e).stay (fun c v _ q=>q) (fun c q=>by rw[aV (aY q hn)];exact q) fun c xs q=>by rw[aV (aY q hn)];exact q
 len:=I.len
def zPy{M:Model}{A:Jh}{E:Ja->Jb->Prop}{i:Nat}{n:Str}{pos:Pos}{Q:Unit->Jb->Prop}(I:Inv X Mi σ H s)(hN:X.N.Nodup)(hi:X.N[i]?=some n)(hk:X.env.scope.names.lookup n=some .local)
  (h:∀ s',Inv X Mi (σ.set i none) H s'->Q () s'):wpAny M A (do bindName X.env n .none;unbindBehindTheSuite X.env n pos) Q E s:=by
 obtain⟨m,hn,hl⟩:=id I.loc;have hcls:(X.env.scope.kind==.class || (X.env.scope.kind==.module && X.env.locals != X.env.globals))=false:=by rw[I.ok.kind];rfl
 have hiσ:i<σ.length:=by rw[I.len];exact(Qy.mp hi).1
 have cne:=I.cne;refine wpAny_nameGoes_keeps hk hn hcls fun h' v hn' hs=>?_
 obtain⟨oL,_,_,hoL,_⟩:=id hn;refine h _ ⟨I.ok,I.os,I.bare,⟨fun b o e n hb hx=>?_,fun b o e n hb hx=>?_,I.base.free,fun b o e hx=>?_,I.base.tups,I.base.frzs,I.base.tbls⟩,⟨_,hn',fun j y v' e1 e2 e3=>?_⟩,fun y c e=>?_,I.free,I.freeC,fun p hp=>?_,?_,by simpa using I.len⟩
 ·exact(hs.2 b (Qt (Qs (Heap.lt_size e) I.ok.above))).trans (I.base.keep b o e n hb hx)
 ·obtain⟨sl,e1⟩:=I.base.slot b o e n hb hx
  exact⟨sl,(hs.2 b (Qt (Qs (Heap.lt_size e) I.ok.above))).trans e1⟩
 ·obtain⟨o',e1⟩:=I.base.there b o e hx
  exact⟨o',(hs.2 b (Qt (Qs (Heap.lt_size e) I.ok.above))).trans e1⟩
 ·by_cases hj:j=i
  ·subst hj
   rw[Vb hiσ] at e2;cases e2
  ·rw[Va (Ne.symm hj)] at e2
   obtain⟨u',r',q⟩:=hl j y v' e1 e2 e3;refine⟨u',r',?_⟩
   rcases q with⟨k,e⟩ | ⟨k,c,e,z⟩
   ·refine .inl ⟨k,?_⟩
    have:y≠n:=fun e=>hj (zAl hN e1 (e ▸ hi))
    simp[this,e]
   ·exact .inr ⟨k,c,e,z.sameBut hs (cne y c e)⟩
 ·obtain⟨w',z⟩:=I.cell y c e
  exact⟨w',z.sameBut hs (cne y c e)⟩
 ·obtain⟨e,n,ne,nf,d⟩:=I.pin p hp
  exact⟨(hs.2 p.1 ne).trans e,n,ne,nf,d⟩
 ·intro b ob e
  refine(I.hok b ob e).stay (fun c w' hc q=>(hs.2 c ?_).trans q) (fun _ q=>q) fun _ _ q=>q
  rintro rfl
  have hfree:=I.free;rcases hc with rfl | hc
  ·rw[hfree] at e;cases e
  ·rw[hfree] at hc;cases hc
abbrev oJ(X:Cx)(ea:Jc):Cx:={ X with A:=X.A.mark (some (.ref ea)),calm:=false,xe:=fun _ _=>False }
def _root_.L2.Inv.clause(I:Inv X Mi σ H s)(ea:Jc):Inv (oJ X ea) Mi σ H s:=
 ⟨⟨I.ok.mod,I.ok.kind,I.ok.glob,I.ok.blt,I.ok.above,I.ok.inj,I.ok.has,I.ok.cab,(fun z=>Bool.noConfusion z),I.ok.frames,I.ok.stk,I.ok.exf,I.ok.bs,I.ok.bsz,I.ok.noex,I.ok.exfs,I.ok.funs,I.ok.frf⟩,I.os,I.bare,I.base,I.loc,I.cell,I.free,I.freeC,I.pin,I.hok,I.len⟩
def _root_.L2.Inv.unclause{ea:Jc}(ok:X.Ok)(I:Inv (oJ X ea) Mi σ H s):Inv X Mi σ H s:=⟨ok,I.os,I.bare,I.base,I.loc,I.cell,I.free,I.freeC,I.pin,I.hok,I.len⟩
end
section
variable{X:Cx}{G:Gx}{a e:Expr}{es:List Expr}{pos p:Pos}{fs:Fv}{t:Tv}{x:Str}{k:Nat}{ps:List Str}{m:Mir}{st:Ji}{sts:List Ji}{sa sb:Sv}
def G0(G:Gx):Gx:={ G with E:=fun _ _=>False }
def zQH(X:Cx)(Mi:List (Jc×Obj))(g:St)(Hi H:Hp)(c:Str)(ev:Ja)(s':Jb):Prop:=
 ∃(s1:Jb)(H1:Hp)(ea:Jc)(cls:Ja)(Hi' H':Hp),ev=.ref ea/\Inv X Mi g H1 s1/\X.mg c=some cls/\Fly X.prog X.w X.stack H1 H' s1 ea cls s'/\Ext Hi H Hi' H'/\Keep H H1
def zSo(X:Cx)(G:Gx)(Hi:Hp)(E:Ends)(r:Res Fl):Prop:=match r with
 | .err _=>True
 | r=>Fin X G Hi E r
@[irreducible] def PSx (X:Cx) (G:Gx) (st:Ji) (f:Sv):Prop:=∀(Mi:List (Jc×Obj))(s:Jb)(g:St)(H:Hp)(E:Ends)(ρ:Rho)(Hi:Hp)(Et:Ja->Jb->Prop),
 Inv X Mi g H s->lR X G Hi H g ρ->f ρ≠.no->zSo X G Hi E (f ρ)->(∀ c ev s',f ρ=.err c->zQH X Mi g Hi H c ev s'->Et ev s')->wpAny (model X.prog X.w) X.A (exec st X.env) (SP X Mi E) Et s
unseal PSx
@[irreducible] def mD (X:Cx) (G:Gx) (sts:List Ji) (f:Sv):Prop:=∀(Mi:List (Jc×Obj))(s:Jb)(g:St)(H:Hp)(E:Ends)(ρ:Rho)(Hi:Hp)(Et:Ja->Jb->Prop),
 Inv X Mi g H s->lR X G Hi H g ρ->f ρ≠.no->zSo X G Hi E (f ρ)->(∀ c ev s',f ρ=.err c->zQH X Mi g Hi H c ev s'->Et ev s')->wpAny (model X.prog X.w) X.A (execs sts X.env) (SP X Mi E) Et s
unseal mD
def zOo(h:PSx X G st sa):mD X G [st] sa:=fun Mi s g H E ρ Hi Et I R hn hf he=>by
 refine Jp (wpAny_mono (h Mi s g H E ρ Hi Et I R hn hf he) (fun f s1 q=>?_) fun _ _ z=>z)
 cases f with
 | next=>exact Jo q
 | ret v=>exact q
 | brk=>exact q
 | cont=>exact q
def zSw{Mi:List (Jc×Obj)}{s:Jb}{g:St}{H:Hp}{ρ:Rho}{Hi:Hp}{Et:Ja->Jb->Prop}{Q:VK}{ds:List D}(tb:TB X.K X.mg G.Bi G.B)(c:CanM X.prog X.w X.K X.mg X.base k x ps m)(hr:Room k X.A)(hg:Gl X x)(ha:PAd X.nox (G0 G) (e::es) fs)
  (I:Inv X Mi g H s) (R:lR X G Hi H g ρ) (hds:fs ρ=.ok ds) (hm:m ds≠.no) (hq:∀ r v Hi' H',m ds=.ok r->Ext Hi H Hi' H'->IsD X.K Hi' v r.d->Q v H') (he:∀ c ev s',m ds=.err c->zQH X Mi g Hi H c ev s'->Et ev s')
  (hdb:(x==("__debug__" : Str))=false) (hst:starEach (e::es) X.env=(false,eval e X.env)::starEach es X.env) (hpl:(backTo pos (starEach es X.env)).any (·.1)=false):
  wpAny (model X.prog X.w) X.A (eval (.Call (.Name x p) (e::es) [] pos) X.env) (EP X Mi g Q) Et s:=by
 obtain⟨⟨f,fd,F,b,kp,hmg⟩,ln⟩:=c;refine Jx (wQ I hg hmg ?_ hdb)
 have hA:=ha pos Mi s g H (fun vs H1=>∃ Hi1,Ext Hi H Hi1 H1/\IsDs X.K Hi1 vs ds) (I.wish _) ⟨ρ,Hi,R,by rw[hds];exact fun Hi1 H1 e1 vs r=>⟨Hi1,e1,r⟩⟩
 refine PySem.W.callWith_K (h₀:=X.base) I.ok.mod.kin kp (wpAny_mono hA (fun us s1 q=>?_) fun _ _ z=>False.elim z) hst hpl
 obtain⟨vs,H1,I1',r,Hi1,e1,hd⟩:=q;have I1:Inv X Mi g H1 s1:=I1'.unwish;refine⟨I1.kIn,?_⟩
 have hl:us.length=ps.length:=by rw[<-r.length,hd.length];exact ln ds hm
 refine wpAny_call (codeAny_mono (F.run X.A X.stack s1 H1 ⟨us,[]⟩ us vs (fun v H2=>Q v H2) (fun cls _ H2=>∃ c Hi2,X.mg c=some cls/\m ds=.err c/\Ext Hi1 H1 Hi2 H2) hr I1.env0 (by have:=b s1 us I1.kIn (by rw[Vf];exact hl);rwa [Vf] at this) r ?_) fun res s' hq'=>?_)
 ·refine⟨by rw[hd.length];exact ln ds hm,Hi1,ds,tb.ext (R.ext.trans e1),e1.s,hd,?_⟩
  cases z:m ds with
  | no=>exact absurd z hm
  | err c'=>exact fun C hC Hi2 H2 e2=>⟨c',Hi2,hC,rfl,e2⟩
  | ok rr=>
   cases rr with
   | v d=>exact fun v Hi2 H2 e2 r2=>hq _ v Hi2 H2 z (e1.trans e2) r2
   | f es=>
    intro a' Hi2 H2 e2 n;obtain⟨n1,n2,xs,n3,n4⟩:=n;exact hq _ (.ref a') (upd Hi2 a' (.lst xs)) H2 z (e1.trans (e2.hold n1 n3 n2)) (.lst (SqL.of aR) (n4.mono (cJ n2 _)))
 ·cases res with
  | error ev=>
   obtain⟨ea,cls,H',rfl,Fl,c',Hi2,hc,hmc,e2⟩:=hq';exact he c' _ s' hmc ⟨s1,H1,ea,cls,Hi2,H',rfl,I1,hc,Fl,e1.trans e2,e1.h⟩
  | ok fl=>
   cases fl with
   | ret u=>exact I1.after hq'
   | next=>exact False.elim hq'
   | brk=>exact False.elim hq'
   | cont=>exact False.elim hq'
def zFD{j:Type}{r:Res j}{l:Type}{f:j->Res l}(h:(noErr r).bind f≠.no):∃ a,r=.ok a/\(noErr r).bind f=f a:=by
 cases r with
 | ok a=>exact⟨a,rfl,rfl⟩
 | err c=>exact absurd rfl h
 | no=>exact absurd rfl h
def zNf(W:Good X G k)(c:CanM X.prog X.w X.K X.mg X.base k x ps m)(hg:Gl X x)(ha:PAd X.nox (G0 G) (e::es) fs)
  (hdb:(x==("__debug__" : Str))=false:=by decide) (hst:starEach (e::es) X.env=(false,eval e X.env)::starEach es X.env:=by rfl) (hpl:(backTo pos (starEach es X.env)).any (·.1)=false:=by rfl)
  {pos2:Pos} (hs2:swapsWith (.Call (.Name x p) (e::es) [] pos) none pos2.line X.env=pure false:=by rfl):
  PSx X G (.Expr (.Call (.Name x p) (e::es) [] pos) pos2) (zII m fs):=fun Mi s g H E ρ Hi Et I R hn hf he=>by
 unfold zII at hn hf he;obtain⟨ds,hds,heq⟩:=zFD hn;rw[heq] at hn hf he;have hm:m ds≠.no:=fun z=>by rw[z] at hn;exact hn rfl
 refine wpAny_Expr_any (wpAny_mono (zSw (Q:=fun v H'=>E.nx g H') W.tb c W.room hg ha I R hds hm (fun r v Hi' H' z e1 rv=>?_) (fun c' ev s' z q=>he c' ev s' (by rw[z];rfl) q) hdb hst hpl) (fun v s1 q=>?_) fun _ _ z=>z) I.quiet hs2
 ·rw[z] at hf
  exact(show Fin X G Hi E (.ok (.nx ρ)) from hf) g Hi' H' e1.i (R.grow e1)
 ·obtain⟨v',H1,I1,r1,q1⟩:=q
  exact⟨g,H1,I1,q1⟩
def zUa{c:Expr}{as bs:List Ji}(hc:PTd X.nox (G0 G) c t)(ha:mD X G as sa)(hb:mD X G bs sb):PSx X G (.If c as bs pos) (xIf t sa sb):=fun Mi s g H E ρ Hi Et I R hn hf he=>by
 unfold xIf at hn hf he;obtain⟨b,hb',heq⟩:=zFD hn;rw[heq] at hn hf he;have hT:=hc Mi s g H (fun b' H1=>b'=b/\∃ Hi1,Ext Hi H Hi1 H1) (I.wish _) ⟨ρ,Hi,R,by rw[hb'];exact fun Hi1 H1 e1=>⟨rfl,Hi1,e1⟩⟩
 refine wpAny_If (wpAny_mono hT (fun b' s1 q=>?_) fun _ _ z=>False.elim z)
 obtain⟨H1,I1',rfl,Hi1,e1⟩:=q;have I1:Inv X Mi g H1 s1:=I1'.unwish;have R1:=R.grow e1
 have cm:∀ c ev s',zQH X Mi g Hi1 H1 c ev s'->zQH X Mi g Hi H c ev s':=fun c ev s' q=>by
  obtain⟨s2,H2,ea,cls,Hi',H',q1,q2,q3,q4,q5,q6⟩:=q;exact⟨s2,H2,ea,cls,Hi',H',q1,q2,q3,q4,e1.trans q5,e1.h.trans q6⟩
 have up:∀ r,zSo X G Hi E r->zSo X G Hi1 E r:=fun r z=>by
  cases r with
  | err c=>trivial
  | ok f=>exact Fin.mono (show Fin X G Hi E (.ok f) from z) e1.i
  | no=>exact z
 cases b' with
 | true=>exact ha Mi s1 g H1 E ρ Hi1 Et I1 R1 hn (up _ hf) fun c ev s' z q=>he c ev s' z (cm c ev s' q)
 | false=>exact hb Mi s1 g H1 E ρ Hi1 Et I1 R1 hn (up _ hf) fun c ev s' z q=>he c ev s' z (cm c ev s' q)
end
end L3
namespace L3
open PySem PySem.Spec PyProof.Rows L2 PySem.W
unseal PEd PEf PTd PWd PAd PSd eN POd PGd jG PId PSx mD
section
variable{X:Cx}{G:Gx}{k:Nat}{fb fh:Sv}{body suite:List Ji}{b₀:Ji}{ce n:Str}{np hpos pos:Pos}{i:Nat}{tb:List Str}
def Cat(K:Frag)(mg:Str->Option Ja)(ce c:Str):Prop:=∃ C CE,mg c=some (.ref C)/\mg ce=some (.ref CE)/\ExK K C/\CaK K CE/\mroIn K C (.ref CE)=some true
structure GoodH (X:Cx):Prop where
 u:X.A.units+64<cLine
def Rel.setExc{K:Fg_}{mg:Str->Option Ja}{B Bi Hi H:Hp}{d:St}{ρ:Rho}{a C:Jc}{c:Str}(R:Rel K mg B Bi Hi H d ρ)(hn:H a=none)(hB:B a=none)(hc:mg c=some (.ref C)):
  Rel K mg B Bi Hi (upd H a (.ext (zHf a C))) (d.set i (some (.ref a))) (ρ.set i (.exc c)) where
 len:=by rw[Q7,Q7];exact R.len
 ext:=R.ext.trans (Ext.newF R.s hn)
 slot:=fun j s q=>by
  by_cases z:i=j
  ·subst z
   by_cases hl:i<ρ.length
   ·rw[Vb hl] at q;cases q
    exact⟨a,C,by rw[Vb (by rw[R.len];exact hl)],aR,R.s.none hn,hB,hc⟩
   ·rw[Qz (by rw[Q7];omega)] at q;cases q
  ·rw[Va z] at q ⊢
   exact(R.slot j s q).ext (Ext.newF R.s hn)
 dist:=fun j l b es fs q1 q2 q3 q4=>by
  have nx:∀ {j:Nat} {es:List D},(ρ.set i (.exc c))[j]?=some (.own es)->i≠j:=fun {j es} q e=>by
   subst e;by_cases hl:i<ρ.length
   ·rw[Vb hl] at q;cases q
   ·rw[Qz (by rw[Q7];omega)] at q;cases q
  have n1:=nx q1;have n2:=nx q2;rw[Va n1] at q1 q3;rw[Va n2] at q2 q4;exact R.dist j l b es fs q1 q2 q3 q4
def Rel.gone{K:Fg_}{mg:Str->Option Ja}{B Bi Hi H:Hp}{d:St}{ρ:Rho}(R:Rel K mg B Bi Hi H d ρ):Rel K mg B Bi Hi H (d.set i none) (ρ.set i .un) where
 len:=by rw[Q7,Q7];exact R.len
 ext:=R.ext
 slot:=fun j s q=>by
  by_cases z:i=j
  ·subst z
   by_cases hl:i<ρ.length
   ·rw[Vb hl] at q;cases q;trivial
   ·rw[Qz (by rw[Q7];omega)] at q;cases q
  ·rw[Va z] at q ⊢
   exact R.slot j s q
 dist:=fun j l b es fs q1 q2 q3 q4=>by
  have nx:∀ {j:Nat} {es:List D},(ρ.set i .un)[j]?=some (.own es)->i≠j:=fun {j es} q e=>by
   subst e;by_cases hl:i<ρ.length
   ·rw[Vb hl] at q;cases q
   ·rw[Qz (by rw[Q7];omega)] at q;cases q
  have n1:=nx q1;have n2:=nx q2;rw[Va n1] at q1 q3;rw[Va n2] at q2 q4;exact R.dist j l b es fs q1 q2 q3 q4
def zSJ(W:Good X G k)(O:Own X)(hT:∀ c,tb.contains c=true->Cat X.K X.mg ce c)(hg:Gl X ce)(hN:X.N.Nodup)(hi:X.N[i]?=some n)(hk:X.env.scope.names.lookup n=some .local)
  (hb:mD X G body fb) (hh:∀ ea,GoodH (oJ X ea)->eN (oJ X ea) (G0 G) (b₀::suite) fh) (hd:(ce==("__debug__" : Str))=false:=by decide):
  PSd X G (.Try body [.ExceptHandler (some (.Name ce np)) (some n) (b₀::suite) hpos] [] [] pos) (zPJ tb i fb fh):=by
 intro Mi s d H E I q;obtain⟨ρ,Hi,R,h⟩:=q;unfold zPJ at h;have hno:fb ρ≠.no:=fun z=>by rw[z] at h;exact h
 refine wpAny_Try_except ?_
 refine wpAny_mono (hb Mi s d H E ρ Hi _ I R hno ?_ ?_) (fun f s1 q=>?_) fun _ _ z=>z
 ·cases z:fb ρ with
  | no=>exact absurd z hno
  | err c=>trivial
  | ok f=>rw[z] at h;exact h
 ·rintro c ev s' z ⟨s1,H1,ea,cls,Hi',H',rfl,I1,hc,F,e1,sm⟩
  rw[z] at h
  have h:Fin X G Hi E (if tb.contains c=true then (match fh (ρ.set i (.exc c)) with
   | .ok (.nx ρ')=>.ok (.nx (ρ'.set i .un))
   | _=>.no) else .no):=h
  by_cases htb:tb.contains c=true
  ·rw[Jk htb] at h
   obtain⟨C,CE,m1,m2,T1,T2,T3⟩:=hT c htb;rw[m1] at hc;cases hc;obtain⟨B,a0,hf,cov⟩:=F.fly;have hst:X.stack=X.env::X.outer:=O.stk;have hfr:X.A.frames=some (X.env::X.outer):=by rw[I1.ok.frames,hst]
   have hf1:=hf;rw[hst] at hf1;refine wpAny_looks_onW hfr O.fr hf1 fun h4 held4 up4=>?_
   refine wpAny_landsW held4 fun h5 fly5 up5=>?_
   have up5':=up4.trans up5;have fly5':Heap.FlyingW B X.stack ea (.ref C) a0 h5:=by rw[hst];exact fly5
   have I5:=Fly.stay I1 F hf cov fly5' up5' (t':=s'.toks);have tyAt:∀ {h6:Je},Heap.FlyingW B X.stack ea (.ref C) a0 h6->zOO ea C h6:=fun z=>z.there
   refine wpAny_handleBy_cons (codeAny_handlers_test (wQ (X:=oJ X ea) (I5.clause ea) hg m2 ?_ hd)) (by intro q;cases q)
   refine zJX T2 T3 I5.kIn (tyAt fly5') ?_
   refine codeAny_handlers_suite_as ?_
   refine lands_againW fly5' fun h6 fly6 up6=>?_
   have I6:=Fly.stay I1 F hf cov fly6 (up5'.trans up6) (t':=s'.toks);have hnew:s1.heap.get? ea=none:=F.new;have here:∀ {b:Jc} {o:Obj},s1.heap.get? b=some o->b≠ea:=fun {b o} e z=>by rw[z,hnew] at e;cases e
   have hs0:X.s₀.heap.get? ea=none:=by
    cases q:X.s₀.heap.get? ea with
    | none=>rfl
    | some o=>
     obtain⟨o1,e1⟩:=I1.there0 O q;rw[hnew] at e1;cases e1
   have hloc:ea≠X.env.locals:=by
    obtain⟨_,⟨o,_,_,ho,_⟩,_⟩:=I1.loc;exact Ne.symm (here ho)
   have hcell:∀ x c,X.env.cells.lookup x=some c->c≠ea:=fun x c e=>by
    obtain⟨v,o,ho,_⟩:=I1.cell x c e;exact here ho
   have hpin:∀ p∈X.pn++Mi,p.1≠ea:=fun p hp=>here (I1.pin p hp).1
   obtain⟨oe,vs,q1,q2,q3,_⟩:=fly6.first;have I7:=I6.track (o:=.ext (zHf ea C)) F.ne hs0 hloc hcell hpin ⟨⟨oe,vs,q1,q2,q3⟩,⟨oe,q1⟩,fun g1 g2 ⟨o,vs,p1,p2,p3⟩ k=>⟨o,vs,k o p1,p2,p3⟩⟩
   have hB:G.B ea=none:=by
    cases q:G.B ea with
    | none=>rfl
    | some o=>
     obtain⟨o',z2⟩:∃ o',H1 ea=some o':=by
      rcases (R.ext.h.trans sm).k _ _ q with z | ⟨_,ps',_,z⟩
      ·exact⟨_,z⟩
      ·exact⟨_,z⟩
     obtain⟨ob,z3⟩:=(I1.hok ea o' z2).here;rw[hnew] at z3;cases z3
   have R7:=(R.grow e1).setExc (i:=i) F.ne hB m1;refine pZ I7 hN hi (.inl hk) (v:=.ref ea) rfl (fun s7 I8=>?_) (.inr hk)
   have WH:GoodH (oJ X ea):=⟨W.u⟩
   have hfin:∃ ρ',fh (ρ.set i (.exc c))=.ok (.nx ρ')/\Fin X G Hi E (.ok (.nx (ρ'.set i .un))):=by
    cases zz:fh (ρ.set i (.exc c)) with
    | no=>rw[zz] at h;exact h.elim
    | err c'=>rw[zz] at h;exact h.elim
    | ok fl=>
     rw[zz] at h
     cases fl with
     | nx ρ'=>exact⟨ρ',rfl,h⟩
     | brk ρ'=>exact h.elim
     | ctn ρ'=>exact h.elim
     | ret r=>exact h.elim
   obtain⟨ρ',zf,hend⟩:=hfin
   have hE:=hh ea WH Mi s7 (d.set i (some (.ref ea))) _ { nx:=fun d' H2=>E.nx (d'.set i none) H2,rt:=fun _ _=>False } (I8.clause ea) ⟨ρ.set i (.exc c),Hi',R7,by
    rw[zf]
    exact fun d2 Hi2 H2 s2 R2=>hend (d2.set i none) Hi2 H2 (e1.i.trans s2) (Rel.gone (i:=i) (show lR X G Hi2 H2 d2 ρ' from R2))⟩
   refine wpAny_mono hE (fun fl s8 q=>?_) fun _ _ z=>False.elim z
   cases fl with
   | next=>
    obtain⟨d2,H2,I9,q⟩:=q;exact zPy (Inv.unclause I.ok I9) hN hi hk fun s9 I10=>⟨_,H2,I10,q⟩
   | ret v=>obtain⟨_,_,_,_,_,q⟩:=q;exact q.elim
   | brk=>obtain⟨_,_,_,q⟩:=q;exact q.elim
   | cont=>obtain⟨_,_,_,q⟩:=q;exact q.elim
  ·rw[Jl htb] at h;exact h.elim
 ·cases f with
  | next=>exact Jo q
  | ret v=>exact q
  | brk=>exact q
  | cont=>exact q
end
def zQc(mg:Str->Option Ja)(x:Str)(v:V)(cv:Ja):Prop:=cW v cv/\(mg x=some cv∨(mg x=none/\bootBuiltins x=some cv/\x ≠ "__name__"))
def EK(K:Frag)(mg:Str->Option Ja)(anc:List (Str×List Str))(xs:List Str):Prop:=
 ∀ c l,anc.lookup c=some l->∃ C,mg c=some (.ref C)/\ExK K C/\∀ x,xs.contains x=true->∃ v cv,zQc mg x v cv/\(∃ z,(v=.ref z∨∃ T,v=.ty T))/\kitOne K (.ref C) cv=some (l.contains x)
section
variable{X:Cx}{G:Gx}{a:Expr}{p q pos:Pos}{i:Nat}{anc:List (Str×List Str)}{xs:List Str}{x:Str}
def zMF{v:V}{cv:Ja}(h:zQc X.mg x v cv)(hg:Gl X x)(hd:(x==("__debug__" : Str))=false):PE X (.Name x q) (tC v):=by
 obtain⟨r,h | ⟨h1,h2,h3⟩⟩:=h
 ·exact zDM hg h r hd
 ·exact zJi hg h1 h2 r h3 hd
def zPN:rN X (.builtin "isinstance") (fun us H Q=>∃ a C v cv b,us=[.ref a,v]/\H a=some (.ext (zHf a C))/\ExK X.K C/\cW v cv/\kitOne X.K (.ref C) cv=some b/\Q (.bl b) H):=by
 intro Mi s f H us ws Q I r h;obtain⟨a,C,v,cv,b,rfl,ha,T,rv,e,q⟩:=h;obtain⟨u,w',rfl,rx,rc⟩:=zLR r;cases (show u=Value.ref a from rx)
 obtain⟨⟨o,vs,h1,h2,h3⟩,_⟩:=I.hok a _ ha
 have e1:w'=cv:=by
  cases v with
  | ref z=>cases (show w'=Value.ref z from rc);cases (show cv=Value.ref z from rv);rfl
  | ty z=>cases (show w'=Value.type z from rc);cases (show cv=Value.type z from rv);rfl
  | non=>cases (show w'=Value.none from rc);cases (show cv=Value.none from rv);rfl
  | bl z=>cases (show w'=Value.bool z from rc);cases (show cv=Value.bool z from rv);rfl
  | _=>
   exfalso
   obtain⟨t,rfl⟩:=rv;unfold kitOne at e;rw[Jl (by intro z;cases (beq_iff_eq.mp z))] at e;simp[kitCls] at e
 subst e1;exact Yh (zFs T) I.kIn ⟨o,h1,h2⟩ e (fun z=>nomatch z) fun tk=>⟨.bl b,H,I.tok _,rfl,q⟩
def zMy(hK:EK X.K X.mg anc xs)(hx:xs.contains x=true)(hgi:Gl X "isinstance")(hm:X.mg "isinstance" = none)(hv:PE X a (zDh i))(hg:Gl X x)(hd:(x==("__debug__" : Str))=false:=by decide)
  (h1:starEach [a,.Name x q] X.env=(false,eval a X.env)::starEach [.Name x q] X.env:=by rfl) (h2:starEach [.Name x q] X.env=(false,eval (.Name x q) X.env)::starEach [] X.env:=by rfl) (hpl:(backTo pos (starEach [.Name x q] X.env)).any (·.1)=false:=by rfl):
  PEd X G (.Call (.Name "isinstance" p) [a,.Name x q] [] pos) (zKx anc i [x]):=by
 intro Mi s f H Q I w;obtain⟨ρ,Hi,R,ou⟩:=w;unfold zKx at ou
 cases z:ρ[i]? with
 | none=>rw[z] at ou;exact ou.elim
 | some sl=>
  rw[z] at ou
  cases sl with
  | exc c=>
   obtain⟨ad,C,o1,o2,o3,o4,o5⟩:=R.slot i _ z
   cases zl:anc.lookup c with
   | none=>simp only[zl] at ou;exact ou.elim
   | some l=>
    simp only[zl] at ou;obtain⟨C',m1,T,hxs⟩:=hK c l zl;rw[o5] at m1;cases m1;obtain⟨v,cv,hcl,_,hk⟩:=hxs x hx;refine rC zPN hgi hm Ma (eQ hv (eQ (zMF hcl hg hd) kZ h2) h1) (by decide) (by decide) h1 hpl Mi s f H Q I ?_
    refine⟨.ref ad,o1,ad,C,v,cv,_,rfl,o2,T,hcl.1,hk,?_⟩
    have:=ou.here R.s (.bl (l.contains x)) (by simpa using IsD.bl (l.contains x))
    exact this
  | un=>exact ou.elim
  | val d=>exact ou.elim
  | own ds=>exact ou.elim
  | tab T=>exact ou.elim
inductive NmL (X:Cx) (xs:List Str):List Expr->List Str->Prop where
 | nil:NmL X xs [] []
 | cons {x:Str} {q:Pos} {es:List Expr} {cs:List Str}:xs.contains x=true->Gl X x->(x==("__debug__" : Str))=false->starEach (.Name x q::es) X.env=(false,eval (.Name x q) X.env)::starEach es X.env->NmL X xs es cs->NmL X xs (.Name x q::es) (x::cs)
def NmL.vals{K:Frag}{C:Jc}{l:List Str}(hx:∀ x,xs.contains x=true->∃ v cv,zQc X.mg x v cv/\(∃ z,(v=.ref z∨∃ T,v=.ty T))/\kitOne K (.ref C) cv=some (l.contains x)):
  ∀ {es:List Expr} {cs:List Str},NmL X xs es cs->∃ vs cvs,PA X es (fun _ H Q=>Q vs H)/\vs.length=es.length/\cX vs cvs/\(∀ ws,cX vs ws->ws=cvs)/\kitAny K (.ref C) cvs=some (cs.any fun x=>l.contains x)
 | _,_,.nil=>⟨[],[],kZ,rfl,.nil,fun ws r=>by cases r;rfl,rfl⟩
 | _,_,.cons (x:=x) (q:=q) h1 h2 h3 h4 t=>by
  obtain⟨vs,cvs,p1,p0,p2,p3,p4⟩:=NmL.vals hx t;obtain⟨v,cv,hcl,⟨z,hv⟩,hk⟩:=hx x h1;refine⟨v::vs,cv::cvs,eQ (zMF hcl h2 h3) p1 h4,by rw[Qn,Qn,p0],.cons hcl.1 p2,fun ws r=>?_,?_⟩
  ·cases r with
   | cons r1 r2=>
    rw[p3 _ r2];congr 1
    have hr:=hcl.1;rcases hv with rfl | ⟨T,rfl⟩
    ·rw[show _=Value.ref z from r1,show cv=Value.ref z from hr]
    ·rw[show _=Value.type T from r1,show cv=Value.type T from hr]
  ·unfold kitAny
   rw[hk,Wh]
   cases l.contains x with
   | true=>rfl
   | false=>exact p4
def zNp:rN X (.builtin "isinstance") (fun us H Q=>∃ a C tp vs cvs b,us=[.ref a,.ref tp]/\H a=some (.ext (zHf a C))/\ExK X.K C/\SqT X.K H tp vs/\(∀ ws,cX vs ws->ws=cvs)/\kitAny X.K (.ref C) cvs=some b/\Q (.bl b) H):=by
 intro Mi s f H us ws Q I r h;obtain⟨a,C,tp,vs,cvs,b,rfl,ha,T,ht,hu,e,q⟩:=h;obtain⟨u,w',rfl,rx,rc⟩:=zLR r;cases (show u=Value.ref a from rx)
 cases (show w'=Value.ref tp from rc)
 obtain⟨⟨o,vs',h1,h2,h3⟩,_⟩:=I.hok a _ ha;obtain⟨its,rv,⟨⟨oc,od,odt,osl⟩,t1,t2,n,t3⟩,hz⟩:=I.tuple ht;have:=hu its rv
 subst this;simp only at t2 t3
 subst t2 t3;exact PySem.W.kia_tup (zFs T) I.kIn ⟨o,h1,h2⟩ t1 e (fun z=>nomatch z) fun tk=>⟨.bl b,H,I.tok _,rfl,q⟩
def zHR{es:List Expr}{cs:List Str}{k1:Nat}{tp:Pos}(hK:EK X.K X.mg anc xs)(hn:NmL X xs es cs)(hgi:Gl X "isinstance")(hm:X.mg "isinstance" = none)(hv:PE X a (zDh i))(hlen:es.length<=100)
  (h1:starEach [a,.Tuple es k1 tp] X.env=(false,eval a X.env)::starEach [.Tuple es k1 tp] X.env:=by rfl) (h2:starEach [.Tuple es k1 tp] X.env=(false,eval (.Tuple es k1 tp) X.env)::starEach [] X.env:=by rfl) (hpl:(backTo pos (starEach [.Tuple es k1 tp] X.env)).any (·.1)=false:=by rfl):
  PEd X G (.Call (.Name "isinstance" p) [a,.Tuple es k1 tp] [] pos) (zKx anc i cs):=by
 intro Mi s f H Q I w;obtain⟨ρ,Hi,R,ou⟩:=w;unfold zKx at ou
 cases z:ρ[i]? with
 | none=>rw[z] at ou;exact ou.elim
 | some sl=>
  rw[z] at ou
  cases sl with
  | exc c=>
   obtain⟨ad,C,o1,o2,o3,o4,o5⟩:=R.slot i _ z
   cases zl:anc.lookup c with
   | none=>simp only[zl] at ou;exact ou.elim
   | some l=>
    simp only[zl] at ou;obtain⟨C',m1,T,hxs⟩:=hK c l zl;rw[o5] at m1;cases m1;obtain⟨vs,cvs,pa,hl0,rv,hu,hk⟩:=NmL.vals (K:=X.K) (C:=C) (l:=l) hxs hn;have hl:vs.length<=100:=by rw[hl0];exact hlen
    refine rC zNp hgi hm Ma (eQ hv (eQ (zMh pa) kZ h2) h1) (by decide) (by decide) h1 hpl Mi s f H Q I ?_
    refine⟨.ref ad,o1,Q5 hl (by decide),fun t ht=>⟨ad,C,t,vs,cvs,_,rfl,?_,T,SqT.of aR,hu,hk,?_⟩⟩
    ·rw[aV (aY o2 ht)];exact o2
    ·exact ou _ _ (Ext.newF R.s ht) (.bl _) (.bl _)
  | un=>exact ou.elim
  | val d=>exact ou.elim
  | own ds=>exact ou.elim
  | tab T=>exact ou.elim
end
def zG{r s:Type}[BEq r][LawfulBEq r]{a:r}{b:s}:∀ {l:List (r×s)},l.lookup a=some b->(a,b)∈l
 | [],h=>by cases h
 | (x,y)::l,h=>by
  rw[Vz] at h;split at h
  ·rename_i e
   cases h;rw[beq_iff_eq.mp e];exact Qb
  ·exact Qd _ (zG h)
section
variable{K:Frag}{h:Je}{mg:Str->Option Ja}{x c ce:Str}{C CE:Jc}
def tI{newId:String}{bmB:List Ja}{B initId:String}(X:K.In h)(G:h.Ns mainGlobals mg)(e:nsIn K mainGlobals x=some (some (.ref C)))(q:excIn K C bmB newId=true)(F:ExcBaseFacts B newId initId bmB):∃ C,Err K mg x C:=by
 refine⟨C,⟨fun h' X'=>⟨bmB,newId,B,initId,⟨mg_of X G e,?_⟩,F⟩⟩⟩
 unfold excIn at q;split at q
 ·rename_i dd cd sl ho
  split at q
  ·rename_i C' bm k0 k1 k2 k3 n k5 hm hs
   simp only[V8,beq_iff_eq,Bool.not_eq_true'] at q;obtain⟨⟨⟨⟨⟨rfl,rfl⟩,hdel⟩,ht⟩,hok⟩,hni⟩:=q;obtain⟨nm,bs,mro,ns,qn,hd,sn,sub,ab,col,del⟩:=cd;dsimp only at hm hdel hok hni
   subst hm hdel
   have hsl:sl=#[k0,k1,k2,k3,some (.builtin n),k5]:=by
    obtain⟨l⟩:=sl;simp only at hs
    rw[hs]
   subst hsl;exact⟨bm,ns,nm,qn,bs,hd,sn,sub,ab,col,dd,k0,k1,k2,k3,k5,_,X' _ _ ho,.of_isNs (isNs_of_in X' hok),nsMap_none_of_in X' hok hni,tail_of_in X' ht⟩
  ·cases q
 ·cases q
def zMW(q:hasDictIn K C=true):(clsIn K C).isSome=true:=by
 obtain⟨cd,hc,_⟩:=any_some q;rw[hc];rfl
def zNb(h1:hasDictIn K C=true)(h2:findIn K (.ref C) "__getattribute__" = some (some (.builtin "BaseException.__getattribute__")))(h3:findIn K (.ref C) "__getattr__" = some none)(h4:findIn K (.ref C) "__class__" = some (some (.builtin "object.__class__")))
  (h5:specialIn K (.builtin "object.__class__") "__get__" = some (some (.builtin "getset_descriptor.__get__"))) (h6:takesIn K (.builtin "object.__class__")=some true) (h7:mroIn K C (.type "object")=some true) (h8:mroIn K C (.type "BaseException")=some true):ExK K C:=
 ⟨zMW h1,h2,h3,h4,h5,h6,h7,h8⟩
def zPX(h1:typeIn K (.ref CE)=some (.type "type"))(h2:hasDictIn K CE=true)(h3:mroIn K CE (.type "BaseException")=some true):CaK K CE:=⟨h1,zMW h2,h3⟩
def fU(X:K.In h)(G:h.Ns mainGlobals mg)(e:nsIn K mainGlobals x=some (some (.ref C))):zQc mg x (.ref C) (.ref C):=⟨rfl,.inl (mg_of X G e)⟩
def zKQ{T:String}(X:K.In h)(G:h.Ns mainGlobals mg)(e:nsIn K mainGlobals x=some none)(hb:bootBuiltins x=some (.type T))(hn:x ≠ "__name__"):zQc mg x (.ty T) (.type T):=⟨rfl,.inr ⟨mg_none_of X G e,hb,hn⟩⟩
end
def zEv(env:Env):List (Str×NameKind)->List (Str×Jc)->List (Str×Jc)
 | [],cs=>cs
 | (n,k)::r,cs=>zEv env r (if k==.free then (n,(env.cells.lookup n).getD 0)::cs else cs)
def zMY{env:Env}:∀(l:List (Str×NameKind))(cs:List (Str×Jc)),(∀ p∈l,p.2=.free->∃ c,env.cells.lookup p.1=some c)->
  (forIn l cs (fun p (r:List (Str×Jc))=>if (p.2==NameKind.free)=true then (do let a <-cellOf env p.1;pure (ForInStep.yield ((p.1,a)::r))) else pure (ForInStep.yield r)):Sem (List (Str×Jc)))=pure (zEv env l cs)
 | [],cs,_=>by simp[zEv]
 | (n,k)::r,cs,h=>by
  rw[Ud,zEv];have ih:=fun cs=>zMY r cs fun p hp=>h p (Qd _ hp)
  by_cases e:(k==NameKind.free)=true
  ·obtain⟨c,hc⟩:=h (n,k) Qb (beq_iff_eq.mp e)
   simp only[e,if_true,cellOf,hc,pure_bind,Option.getD_some];exact ih _
  ·simp only[e,Xn,if_false,pure_bind]
   exact ih _
def zMS{env:Env}{scope:Scope}(h:∀ p∈scope.names,p.2=.free->∃ c,env.cells.lookup p.1=some c):closureFor scope env=pure (zEv env scope.names []):=by
 have:=zMY scope.names [] h
 unfold closureFor;rw[<-this];simp
def uH{env:Env}:∀(l:List (Str×NameKind))(cs:List (Str×Jc)),(∀ p∈l,p.2=.free->∃ c,env.cells.lookup p.1=some c)->(∀ y c,cs.lookup y=some c->env.cells.lookup y=some c)->
  ∀ y c,(zEv env l cs).lookup y=some c->env.cells.lookup y=some c
 | [],cs,_,h,y,c,e=>h y c e
 | (n,k)::r,cs,hl,h,y,c,e=>by
  rw[zEv] at e;refine uH r _ (fun p hp=>hl p (Qd _ hp)) (fun y c e=>?_) y c e
  by_cases z:(k==NameKind.free)=true
  ·obtain⟨c',hc⟩:=hl (n,k) Qb (beq_iff_eq.mp z)
   simp only[z,if_true,Vz,hc,Option.getD_some] at e
   cases w:y==n with
   | true=>rw[w] at e;cases e;rw[beq_iff_eq.mp w];exact hc
   | false=>rw[w] at e;exact h y c e
  ·simp only[z,Xn,if_false] at e
   exact h y c e
def zFx{env:Env}:∀(l:List (Str×NameKind))(cs:List (Str×Jc))(y:Str),(∃ c,cs.lookup y=some c)->∃ c,(zEv env l cs).lookup y=some c
 | [],cs,y,h=>h
 | (n,k)::r,cs,y,⟨c,h⟩=>by
  rw[zEv];refine zFx r _ y ?_
  split
  ·rw[Vz]
   cases y==n with
   | true=>exact⟨_,rfl⟩
   | false=>exact⟨c,h⟩
  ·exact⟨c,h⟩
def vG{env:Env}:∀(l:List (Str×NameKind))(cs:List (Str×Jc))(y:Str),(y,NameKind.free)∈l->∃ c,(zEv env l cs).lookup y=some c
 | (n,k)::r,cs,y,h=>by
  rw[zEv];rcases Qc.mp h with e | h
  ·cases e
   refine zFx r _ _ ⟨(env.cells.lookup n).getD 0,?_⟩
   simp only[beq_self_eq_true,if_true,Vz]
  ·exact vG r _ y h
def bU{s:Type}:∀ {l:List (Str×s)} {y:Str} {k:s},l.lookup y=some k->(y,k)∈l
 | (n,k')::r,y,k,h=>by
  rw[Vz] at h
  cases z:y==n with
  | true=>rw[z] at h;cases h;rw[beq_iff_eq.mp z];exact Qb
  | false=>rw[z] at h;exact Qd _ (bU h)
def cE{env:Env}:∀ {l:List (Str×NameKind)} {y:Str} {k:NameKind},
  (l.map fun(n,k)=>if (k==NameKind.free && env.scope.kind==.function && env.kindOf n==some .cell) then (n,NameKind.cell) else (n,k)).lookup y=some k->
  l.lookup y=some k∨(k=.cell/\l.lookup y=some .free)
 | (n,k')::r,y,k,h=>by
  rw[Qo] at h;rw[Vz];by_cases c:(k'==NameKind.free && env.scope.kind==.function && env.kindOf n==some .cell)=true
  ·simp only[c,if_true,Vz] at h
   cases z:y==n with
   | true=>
    rw[z] at h;cases h;refine .inr ⟨rfl,?_⟩
    simp only[V8] at c;rw[beq_iff_eq.mp c.1.1]
   | false=>rw[z] at h;exact cE h
  ·simp only[c,Xn,if_false,Vz] at h
   cases z:y==n with
   | true=>rw[z] at h;exact .inl h
   | false=>rw[z] at h;exact cE h
def msk(x y:Str):Str:=if y=x then ("" : Str) else y
structure BlkOk (X:Cx) (x:Str) (scope:Scope):Prop where
 kind:scope.kind=.function
 cell:∀ y∈scope.names,y.2≠.cell
 loc:scope.names.lookup x=some .local
 names:∀ y∈scope.names,y.2=.local->scope.names.lookup y.1=some .local
 fre:∀ p∈scope.names,p.2=.free->X.env.kindOf p.1=some .cell∨X.env.kindOf p.1=some .free
 oth:∀ y∈X.N,y≠x->scope.names.lookup y≠some .local
 emp:scope.names.lookup ("" : Str)=none
def cxC(X:Cx)(x:Str)(scope:Scope)(C:Jc)(s₂:Jb)(H₂:Hp)(fp:List Jc):Cx:=
  { prog:=X.prog,w:=X.w,K:=X.K,mg:=X.mg,base:=X.base,A:=X.A,N:=X.N.map (msk x)++[x],s₀:=s₂,H₀:=H₂,env:=compEnvC scope (zEv X.env scope.names []) C X.env,outer:=X.stack,stack:=X.stack,
    ex:=fp,fn:=fun _=>false,calm:=X.calm,pn:=X.pn,xe:=fun _ _=>False }
section
variable{X:Cx}{Mi:List (Jc×Obj)}{r:St}{H:Hp}{s₂:Jb}{x:Str}{scope:Scope}{fp:List Jc}{D C:Jc}{h₁:Je}
def BlkOk.cl(B:BlkOk X x scope)(I:Inv X Mi r H s₂):∀ p∈scope.names,p.2=.free->∃ c,X.env.cells.lookup p.1=some c:=fun p hp e=>I.ok.has p.1 (B.fre p hp e)
def zSQ(I:Inv X Mi r H s₂)(B:BlkOk X x scope)(hfp:∀ b∈fp,tN X Mi H b)(hfl:∀ b∈fp,b<s₂.heap.objs.size)(hD:s₂.heap.objs.size<=D)(hC:s₂.heap.objs.size<=C)(hDC:D≠C)
  (old:∀ b o,s₂.heap.get? b=some o->h₁.get? b=some o) {n:Nat} (hacc:h₁.get? D=some { cls:=.type "list", data:=.seq ([]:List Ja).toArray n }) {m:Str->Option Ja} (hns:h₁.Ns C m) (t:Nat):
  Inv (cxC X x scope C s₂ H fp) Mi (r++[none]) (upd H D (.lst [])) { s₂ with heap:=h₁,toks:=t }:=by
 have sub:=uH scope.names [] (B.cl I) (fun y c e=>nomatch e)
 have old_lt:∀ {b:Jc} {o:Obj},s₂.heap.get? b=some o->b≠D/\b≠C:=fun e=>⟨Qt (Qs (Heap.lt_size e) hD),Qt (Qs (Heap.lt_size e) hC)⟩
 have free:∀ {b:Jc},b≠D->H b=none->upd H D (.lst []) b=none:=fun n e=>by rw[aV n];exact e
 refine⟨⟨I.ok.mod,B.kind,I.ok.glob,I.ok.blt,hC,fun y z c e1 e2=>I.ok.inj y z c (sub y c e1) (sub z c e2),fun y hy=>?_,fun y c e=>(nomatch e),I.ok.hd,I.ok.frames,.inl rfl,fun b hb=>⟨Qt (Qs (hfl b hb) hC),fun y c e=>(hfp b hb).2.2.2.2.1 y c (sub y c e)⟩,
  I.bs,Q5 I.ok.bsz I.sz,fun b o e hb=>?_,fun b hb z=>?_,I.stack,I.stkFree⟩,rfl,I.bare,Un.laid old hD (I.hok.fresh hD),⟨m,hns,fun i y v e1 e2 e3=>?_⟩,fun y c e=>?_,free (Ne.symm hDC) (I.hok.fresh hC),fun y c e=>?_,fun p hp=>?_,I.hok.laid old hD ⟨Vl _,[],n,.nil,hacc⟩,?_⟩
 ·have:∃ k,(k=NameKind.cell∨k=NameKind.free)/\((relabel scope X.env).names).lookup y=some k:=hy.elim (fun h=>⟨_,.inl rfl,h⟩) fun h=>⟨_,.inr rfl,h⟩
  obtain⟨k,hk,e⟩:=this
  have e':(y,NameKind.free)∈scope.names:=by
   rcases cE e with z | ⟨_,z⟩
   ·rcases hk with rfl | rfl
    ·exact absurd rfl (B.cell _ (bU z))
    ·exact bU z
   ·exact bU z
  exact vG scope.names [] y e'
 ·rcases (hfp b hb).2.2.2.1 with z | z
  ·exact I.ok.noex b o e z
  ·exact absurd (Qs (Heap.lt_size e) (Q5 I.ok.bsz z)) (Vv _)
 ·rcases Qc.mp (I.stkSub b z) with w | w
  ·exact(hfp b hb).2.1 w
  ·exact(hfp b hb).2.2.1 w
 ·
  have hi:i<r.length:=by
   by_cases hi:i<r.length
   ·exact hi
   ·exfalso
    rw[Vh (by omega)] at e2
    cases q:i-r.length with
    | zero=>rw[q] at e2;cases e2
    | succ j=>rw[q] at e2;cases e2
  rw[Vk hi] at e2;have e1':(X.N.map (msk x)++[x])[i]?=some y:=e1;rw[Vk (by rw[Qe,<-I.len];exact hi),Qu] at e1'
  cases q:X.N[i]? with
  | none=>rw[q] at e1';cases e1'
  | some z=>
   rw[q] at e1';have e1'':msk x z=y:=Vj e1';have hz:z∈X.N:=Qj q;have vis:∃ k,((relabel scope X.env).names).lookup y=some k:=e3.elim (fun h=>⟨_,h⟩) fun h=>h.elim (fun h=>⟨_,h⟩) fun h=>⟨_,h⟩
   have hzx:z≠x:=fun w=>by
    obtain⟨k,hk⟩:=vis;have:y=("" : Str):=by rw[<-e1'',w];exact Jk rfl
    rw[this] at hk;rcases cE hk with h | ⟨_,h⟩<;>(rw[B.emp] at h;cases h)
   have hy:z=y:=by rw[<-e1''];exact(Jl hzx).symm
   subst hy
   have fr:(z,NameKind.free)∈scope.names:=by
    rcases e3 with h | h | h
    ·rcases cE h with h | ⟨h,_⟩
     ·exact absurd h (B.oth z hz hzx)
     ·cases h
    ·rcases cE h with h | ⟨_,h⟩
     ·exact absurd rfl (B.cell _ (bU h))
     ·exact bU h
    ·rcases cE h with h | ⟨h,_⟩
     ·exact bU h
     ·cases h
   have kd:=B.fre _ fr rfl;obtain⟨m0,hn0,hl⟩:=I.loc;obtain⟨u,ru,lk⟩:=hl i z v q e2 (kd.elim (fun h=>.inr (.inl h)) fun h=>.inr (.inr h))
   refine⟨u,ru,.inr ⟨?_,?_⟩⟩
   ·rcases e3 with h | h | h
    ·rcases cE h with h | ⟨h,_⟩
     ·exact absurd h (B.oth z hz hzx)
     ·cases h
    ·exact .inl h
    ·exact .inr h
   ·rcases lk with⟨k1,_⟩ | ⟨_,c,hc,hcell⟩
    ·rcases kd with kd | kd<;>(rw[kd] at k1;cases k1)
    ·obtain⟨c',hc'⟩:=vG (env:=X.env) scope.names [] z fr
     have:=sub z c' hc'
     rw[hc] at this;cases this;obtain⟨o,ho,hd⟩:=hcell;exact⟨c,hc',o,old _ _ ho,hd⟩
 ·obtain⟨v,o,ho,hd⟩:=I.cell y c (sub y c e)
  exact⟨v,o,old _ _ ho,hd⟩
 ·obtain⟨v,o,ho,hd⟩:=I.cell y c (sub y c e)
  exact free (old_lt ho).1 (I.freeC y c (sub y c e))
 ·obtain⟨e,n,ne,nf,d⟩:=I.pin p hp
  refine⟨old _ _ e,free (old_lt e).1 n,(old_lt e).2,fun z=>?_,d⟩
  rcases Qc.mp (I.stkSub _ z) with w | w
  ·exact ne w
  ·exact nf w
 ·show(r++[none]).length=(X.N.map (msk x)++[x]).length
  rw[Qi,Qi,Qe,I.len];rfl
end
section
variable{K:Fg_}{mg:Str->Option Ja}{B Bi Hi H Hi' H':Hp}{p:St}{ρ:Rho}
def Rel.snoc{v:V}{d:D}(R:Rel K mg B Bi Hi H p ρ)(h:IsD K Hi v d):Rel K mg B Bi Hi H (p++[some v]) (ρ++[.val d]) where
 len:=by rw[Qi,Qi,R.len];rfl
 ext:=R.ext
 slot:=fun j s q=>by
  by_cases hl:j<ρ.length
  ·rw[Vk hl] at q
   rw[Vk (by rw[R.len];exact hl)];exact R.slot j s q
  ·rw[Vh (by omega)] at q
   rw[Vh (by rw[R.len];omega),R.len]
   cases z:j-ρ.length with
   | zero=>rw[z] at q;cases q;exact⟨v,rfl,h⟩
   | succ n=>rw[z] at q;cases q
 dist:=fun j k a ds es q1 q2 q3 q4=>by
  have own:∀ {j:Nat} {ds:List D},(ρ++[Sl.val d])[j]?=some (.own ds)->j<ρ.length:=fun {j ds} q=>by
   by_cases hl:j<ρ.length
   ·exact hl
   ·rw[Vh (by omega)] at q
    cases z:j-ρ.length with
    | zero=>rw[z] at q;cases q
    | succ n=>rw[z] at q;cases q
  have h1:=own q1;have h2:=own q2;rw[Vk h1] at q1;rw[Vk h2] at q2;rw[Vk (by rw[R.len];exact h1)] at q3;rw[Vk (by rw[R.len];exact h2)] at q4;exact R.dist j k a ds es q1 q2 q3 q4
def Ext.rewrite{a:Jc}{o:HO}(e:Ext Hi H Hi' H')(hn:H a=none)(hi:Hi' a=none)(hl:∃ xs,H' a=some (.lst xs)):Ext Hi H Hi' (upd H' a o) where
 i:=e.i
 h:=⟨fun b u z=>by rw[aV (aY z hn)];exact e.h.k _ _ z,fun P z=>by
  obtain⟨xs,hl⟩:=hl
  exact(e.h.t P z).put (fun ps y=>by rw[hl] at y;cases y) (fun ob u y=>by rw[hl] at y;cases y)⟩
 s:=fun b u z=>by rw[aV (aY z hi)];exact e.s _ _ z
 n:=e.n
def IsDs.snoc{v:V}{d:D}(h:IsD K H v d):∀ {vs:List V} {ds:List D},IsDs K H vs ds->IsDs K H (vs++[v]) (ds++[d])
 | _,_,.nil=>.cons h .nil
 | _,_,.cons r t=>.cons r (IsDs.snoc h t)
end
def zAe{s:Type}{r:Res s}{a:s}(h:noErr r=.ok a):r=.ok a:=by
 cases r with
 | ok b=>exact h
 | err c=>cases h
 | no=>cases h
def zGP{t:Tv}{f:Ev}{ρ:Rho}{d:D}{ds es:List D}(h:gH t f ρ (d::ds)=.ok es):
  (t (ρ++[.val d])=.ok false/\gH t f ρ ds=.ok es)∨(t (ρ++[.val d])=.ok true/\∃ e es',f (ρ++[.val d])=.ok e/\gH t f ρ ds=.ok es'/\es=e::es'):=by
 rw[gH] at h
 cases ht:noErr (t (ρ++[.val d])) with
 | no=>rw[ht] at h;cases h
 | err c=>rw[ht] at h;cases h
 | ok c=>
  rw[ht] at h;have ht':=zAe ht
  cases c with
  | false=>exact .inl ⟨ht',h⟩
  | true=>
   refine .inr ⟨ht',?_⟩
   have h':((noErr (f (ρ++[.val d]))).bind fun e=>(gH t f ρ ds).bind fun es=>.ok (e::es))=.ok es:=h
   cases hf:noErr (f (ρ++[.val d])) with
   | no=>rw[hf] at h';cases h'
   | err c=>rw[hf] at h';cases h'
   | ok e=>
    rw[hf] at h';have h'':((gH t f ρ ds).bind fun es=>.ok (e::es))=.ok es:=h'
    cases hr:gH t f ρ ds with
    | no=>rw[hr] at h'';cases h''
    | err c=>rw[hr] at h'';cases h''
    | ok es'=>
     rw[hr] at h'';cases h''
     exact⟨e,es',zAe hf,rfl,rfl⟩
def zAy{t:Tv}{f:Ev}{ρ:Rho}{c:Str}:∀ {ds:List D},gH t f ρ ds≠.err c
 | []=>fun h=>by cases h
 | d::ds=>fun h=>by
  rw[gH] at h
  cases ht:noErr (t (ρ++[.val d])) with
  | no=>rw[ht] at h;cases h
  | err c=>cases q:t (ρ++[.val d])<;>(rw[q] at ht;cases ht)
  | ok b=>
   rw[ht] at h
   cases b with
   | false=>exact zAy h
   | true=>
    have h':((noErr (f (ρ++[.val d]))).bind fun e=>(gH t f ρ ds).bind fun es=>.ok (e::es))=.err c:=h
    cases hf:noErr (f (ρ++[.val d])) with
    | no=>rw[hf] at h';cases h'
    | err c=>cases q:f (ρ++[.val d])<;>(rw[q] at hf;cases hf)
    | ok e=>
     rw[hf] at h'
     cases hr:gH t f ρ ds with
     | no=>simp only[Res.bind,hr] at h';cases h'
     | err c'=>exact zAy hr
     | ok es=>simp only[Res.bind,hr] at h';cases h'
@[irreducible] def PTs (X:Cx) (G:Gx) (ifs:List Expr) (t:Tv):Prop:=
 ∀(Mi:List (Jc×Obj))(s:Jb)(p:St)(H:Hp)(Q:Bool->Hp->Prop),Inv X Mi p H s->tTb X G t p H Q->
  wpAny (model X.prog X.w) X.A (forIn ifs true fun c r=>if r=true then do let ok <-isTrue c X.env (eval c X.env);pure (ForInStep.yield ok) else pure (ForInStep.yield r)) (TP X Mi p Q) X.xe s
unseal PTs
def jO{X:Cx}{G:Gx}:PTs X G [] iK:=fun Mi s r H Q I ⟨ρ,Hi,R,o⟩=>wpAny_tests_nil ⟨H,I,Out.here (a:=true) o R.s⟩
def zPY{X:Cx}{G:Gx}{c:Expr}{t:Tv}(h:PTd X G c t):PTs X G [c] t:=fun Mi s r H Q I q=>wpAny_tests_one (h Mi s r H Q I q)
end L3
namespace L3
open PySem PySem.Spec PyProof.Rows L2
unseal PEd PEf PTd PWd PAd PSd eN POd PGd jG PId PSx mD PTs
section
variable{X:Cx}{G:Gx}{elt iter:Expr}{x:Str}{px pos:Pos}{ifs:List Expr}{scope:Scope}{it:Fv}{t:Tv}{f:Ev}{k:Nat}
def zPz{M:Model}{A:Jh}{g:Type}{m:Sem g}{itv u:Ja}{s:Jb}{Q1:Unit->Jb->Prop}{R1:g->Jb->Prop}{E:Ja->Jb->Prop}(h:wpAny M A (letOwnedTupleGo (.Name x px) itv u) Q1 E s)
  (k:∀ s5,Q1 () s5->wpAny M A m R1 E s5):wpAny M A m R1 E s:=by
 have key:=Jr (f:=fun _:Unit=>m) (wpAny_mono h (fun _ s5 h5=>k s5 h5) fun _ _ z=>z)
 have e:(letOwnedTupleGo (.Name x px) itv u >>= fun _=>m)=m:=pure_bind () fun _=>m
 rw[e] at key;exact key
def zGZ{N:List Str}(hN:N.Nodup)(h0:("" : Str)∉N)(hx:x≠("" : Str)):(N.map (msk x)++[x]).Nodup:=by
 rw[List.nodup_append];refine⟨?_,X5.mpr ⟨by simp,List.nodup_nil⟩,fun a ha b hb e=>?_⟩
 ·induction N with
  | nil=>exact List.nodup_nil
  | cons y N ih=>
   rw[Qo,X5];obtain⟨hy,hN⟩:=X5.mp hN;refine⟨fun hm=>?_,ih hN fun z=>h0 (Qd _ z)⟩
   obtain⟨z,hz,e⟩:=Qm.mp hm;unfold msk at e;by_cases c1:z=x
   ·by_cases c2:y=x
    ·exact hy (by rw[c2,<-c1];exact hz)
    ·rw[Jk c1,Jl c2] at e;exact h0 (by rw[e];exact Qb)
   ·by_cases c2:y=x
    ·rw[Jl c1,Jk c2] at e;exact h0 (by rw[<-e];exact Qd _ hz)
    ·rw[Jl c1,Jl c2] at e;exact hy (by rw[<-e];exact hz)
 ·obtain⟨z,hz,e1⟩:=Qm.mp ha
  rw[Qr] at hb;subst hb;subst e;unfold msk at e1;split at e1
  ·exact hx e1.symm
  ·rename_i c;exact c e1
structure CW where
 i:Nat
 v:List (Option V)
 H:Hp
 Hi:Hp
 ys:List V
 done:List D
 rest:List D
structure CS (Y:Cx) (Mi:List (Jc×Obj)) (p:St) (tn:Nat->Je->Prop) (fp:List Jc) (Hi2 H2:Hp) (a:Jc) (m:Nat) (cp:Nat->Res (List D)) (es:List D) (c:CW) (s':Jb):Prop where
 inv:Inv Y Mi (p++c.v) c.H s'
 wid:c.v.length=m
 tn:tn c.i s'.heap
 fr:∀ b∈fp,c.H b=none
 ext:Ext Hi2 H2 c.Hi c.H
 acc:c.H a=some (.lst c.ys)
 hi:c.Hi a=none
 isd:IsDs Y.K c.Hi c.ys c.done
 len:c.done.length<=c.i
 cmp:cp c.i=.ok c.rest
 all:es=c.done++c.rest
def zTx(X:Cx)(Mi:List (Jc×Obj))(p:St)(use:Option (Ja->Sem Unit))(Q':Ja->Jb->Prop)(Qa:Jc->Hp->Prop):Prop:=
 ∀(C A:Jc)(m:Str->Option Ja)(s4:Jb)(H3:Hp),s4.heap.Ns C m->(∀ h',Heap.SameBut C s4.heap h'->Inv X Mi p H3 { s4 with heap:=h' })->tN X Mi H3 C->Qa A H3->
  compPost (model X.prog X.w) X.A X.xe use Q' (.ref A) C (.ok .next) s4
def zCD(hc:X.calm=true/\TB X.K X.mg G.Bi G.B)(hr:Room k X.A)(Bk:BlkOk X x scope)(hN:X.N.Nodup)(h0:("" : Str)∉X.N)(hx0:x≠("" : Str))(hi:PId X G (.Name x px) iter it)
  (hb:∀(C:Jc)(s₂:Jb)(H₂:Hp)(fp:List Jc)(G':Gx),Good (cxC X x scope C s₂ H₂ fp) G' k->PTs (cxC X x scope C s₂ H₂ fp) G' ifs t/\PEd (cxC X x scope C s₂ H₂ fp) G' elt f)
  (hs:∀ x,foldedSetIterable iter X.env x=pure x:=by intro _;rfl)
  {Mi:List (Jc×Obj)} {s:Jb} {p:St} {H Hi:Hp} {ρ:Rho} {use:Option (Ja->Sem Unit)} {Q':Ja->Jb->Prop} {Qa:Jc->Hp->Prop} {cpos:Pos} (I:Inv X Mi p H s) (R:lR X G Hi H p ρ)
  (ou:Out G Hi H ((iW it t f) ρ) fun ds Hi' H'=>∀ a,zLq X.K H Hi' H' a ds->Qa a H') (hend:zTx X Mi p use Q' Qa):
  wpAny (model X.prog X.w) X.A (comprehension (.ListComp elt [⟨.Name x px,iter,ifs,0⟩] scope pos) scope X.env cpos (newList []) false (eval iter X.env) use) Q' X.xe s:=by
 refine Mb (use:=use) rfl hs (zMS (Bk.cl I)) Bk.kind Bk.names ?_
 refine thn (hi Mi s p H (fun J H2=>∃ ds Hi2,Ext Hi H Hi2 H2/\wD X.K Hi2 J ds/\Out G Hi2 H2 (if ds.length<=16777215 then gH t f ρ ds else .no) fun ds Hi' H'=>∀ a,zLq X.K H Hi' H' a ds->Qa a H') I
  ⟨ρ,Hi,R,(Out.bind ou).imp fun ds Hi2 H2 e2 o2 J gv=>⟨ds,Hi2,e2,gv,o2⟩⟩) fun v s1 h1=>thn h1 fun itv s2 h2=>?_
 obtain⟨itA,fp,tn,J,H2,rfl,I2,T,st2,f2,ds,Hi2,e2,gv,ou2⟩:=h2
 have hlen:ds.length<=16777215:=by
  by_cases hlen:ds.length<=16777215
  ·exact hlen
  ·rw[Jl hlen] at ou2;exact ou2.elim
 rw[Jk hlen] at ou2
 cases hes:gH t f ρ ds with
 | no=>rw[hes] at ou2;exact ou2.elim
 | err c=>exact absurd hes zAy
 | ok es=>
  rw[hes] at ou2;have R2:lR X G Hi2 H2 p ρ:=R.grow e2;refine wpAny_newObj_type (wpAny_newFunctionEnv Bk.cell (by intro y hy;simp at hy) (fun h₁ hns₁ hsb₁=>?_) Bk.kind)
  dsimp only at hns₁ hsb₁ ⊢
  generalize hH2:s2.heap.push { cls:=.type "list", dict:=none,data:=.seq ([]:List Ja).toArray }=HP at hns₁ hsb₁ ⊢;have hC:HP.objs.size=s2.heap.objs.size+1:=by rw[<-hH2,Heap.size_push]
  have hDC:s2.heap.objs.size≠HP.objs.size:=by rw[hC];omega
  have ltC:∀ {b:Jc} {o:Obj},s2.heap.get? b=some o->b≠HP.objs.size:=fun e=>by rw[hC];exact Qt (Xo (Heap.lt_size e))
  have old:∀ b o,s2.heap.get? b=some o->h₁.get? b=some o:=fun b o e=>hsb₁.extBut b o (ltC e) (Heap.get?_push_of_some _ (hH2 ▸ Heap.get?_push_of_some _ e))
  have hacc:h₁.get? s2.heap.objs.size=some { cls:=.type "list", data:=.seq ([]:List Ja).toArray 0 }:=hsb₁.extBut _ _ hDC (Heap.get?_push_of_some _ (hH2 ▸ Heap.get?_push_size _ rfl));have hfl:∀ b∈fp,b<s2.heap.objs.size:=fun b hb=>by obtain⟨o,e,_⟩:=T.obj _ _ st2 b hb;exact Heap.lt_size e
  have IE:=zSQ (t:=s2.toks+([]:List (Str×Ja)).length) I2 Bk f2 hfl (Qf _) (by rw[hC];omega) hDC old hacc hns₁
  have sub:=uH scope.names [] (Bk.cl I2) (fun y c e=>nomatch e)
  have H2D:H2 s2.heap.objs.size=none:=I2.hok.fresh (Qf _);have HD:H s2.heap.objs.size=none:=e2.h.none H2D;have Hi2D:Hi2 s2.heap.objs.size=none:=e2.s.none H2D;generalize hX:cxC X x scope HP.objs.size s2 H2 fp=Y at IE
  have GY:Good Y ⟨G.B,G.Bi,fun _ _=>False⟩ k:=by
   subst hX;exact⟨hc.1,hr,fun Mi p H s e s' _ h=>by obtain⟨_,_,_,_,_,c,_,z⟩:=h;exact z.elim,PassesOwn.never,hc.2⟩
  obtain⟨hts,hel⟩:=(hX ▸ hb HP.objs.size s2 H2 fp ⟨G.B,G.Bi,fun _ _=>False⟩ (hX.symm ▸ GY):PTs Y ⟨G.B,G.Bi,fun _ _=>False⟩ ifs t/\PEd Y ⟨G.B,G.Bi,fun _ _=>False⟩ elt f)
  have stat:∀ {H':Hp},(∀ b∈fp,H' b=none)->∀ b∈fp,tN Y Mi H' b:=fun hn b hb=>by
   subst hX;refine⟨hn b hb,?_,fun z=>?_,.inl hb,fun y c e=>(f2 b hb).2.2.2.2.1 y c (sub y c e),(f2 b hb).2.2.2.2.2⟩
   ·show b≠HP.objs.size
    rw[hC];exact Qt (Xo (hfl b hb))
   ·rcases Qc.mp (I2.stkSub b z) with w | w
    ·exact(f2 b hb).2.1 w
    ·exact(f2 b hb).2.2.1 w
  have YN:Y.N.Nodup:=by subst hX;exact zGZ hN h0 hx0
  have Yx:Y.N[p.length]?=some x:=by
   subst hX;show(X.N.map (msk x)++[x])[p.length]?=some x
   rw[Vh (by rw[Qe,I2.len];omega),Qe,I2.len,Xp];rfl
  have Yl:Y.env.scope.names.lookup x=some .local:=by subst hX;exact Mc Bk.loc
  have Ye:Y.env=compEnvC scope (zEv X.env scope.names []) HP.objs.size X.env:=by subst hX;rfl
  have Yxe:∀ e s,¬ Y.xe e s:=by subst hX;exact fun _ _ h=>h
  have tn1:tn 0 h₁:=T.keep _ _ _ st2 fun b _ o e=>old b o e
  have loop:∀ s3:Jb,s3={ s2 with heap:=h₁,toks:=s2.toks+([]:List (Str×Ja)).length }->
    codeAny (model X.prog X.w) X.A (.compLoop (.ListComp elt [⟨.Name x px,iter,ifs,0⟩] scope pos) 0 (.ref itA) (.ref s2.heap.objs.size) Y.env) (compPost (model X.prog X.w) X.A X.xe use Q' (.ref s2.heap.objs.size) HP.objs.size) s3:=by
   rintro s3 rfl
   subst hX
   have fr0:∀ b∈fp,upd H2 s2.heap.objs.size (.lst []) b=none:=fun b hb=>by
    rw[aV (Qt (hfl b hb))];exact(f2 b hb).1
   refine codeAny_compLoop_tests (fun n s'=>∃ c:CW,n=ds.length-c.i/\CS (cxC X x scope HP.objs.size s2 H2 fp) Mi p tn fp Hi2 H2 s2.heap.objs.size 1 (fun i=>gH t f ρ (ds.drop i)) es c s') ?_ ds.length
    ⟨⟨0,[none],_,Hi2,[],[],es⟩,rfl,⟨IE,rfl,tn1,fr0,(Ext.refl e2.s).trans (Ext.newF e2.s H2D),aR,Hi2D,.nil,Qf _,hes,rfl⟩⟩
   ·rintro n s3 ⟨⟨i,vv,H3,Hi3,ys,done,rest⟩,rfl,I3,wd3,st3,fr3,e3,hD3,hiD3,rd3,hl3,hr3,hes3⟩
    dsimp only at I3 wd3 st3 fr3 e3 hD3 hiD3 rd3 hl3 hr3 hes3 ⊢
    obtain⟨v,rfl⟩:∃ v,vv=[v]:=by
     match vv,wd3 with
     | [v],_=>exact⟨v,rfl⟩
    obtain⟨w1,w2⟩:=gv Hi3 H3 e3.i e3.s i;have lift:∀ {g:Type} {m:Sem g} {Q':g->Jb->Prop} {E:Ja->Jb->Prop} {s':Jb},wpAny (model X.prog X.w) X.A m Q' (cxC X x scope HP.objs.size s2 H2 fp).xe s'->wpAny (model X.prog X.w) X.A m Q' E s':=fun h=>wpAny_mono h (fun _ _ z=>z) fun e s z=>(Yxe e s z).elim
    by_cases hlt:i<ds.length
    ·obtain⟨d,hd⟩:∃ d,ds[i]?=some d:=⟨_,Qq hlt⟩
     obtain⟨go,yl⟩:=w2 d hd
     have e4:ds.drop i=d::ds.drop (i+1):=by
      rw[Qq hlt] at hd;cases hd;exact Uc hlt
     rw[e4] at hr3;refine thn (T.item (cxC X x scope HP.objs.size s2 H2 fp) rfl rfl rfl hc.1 i Mi s3 _ H3 _ I3 (stat fr3) st3 go) fun r s4 ⟨u,hru,h4⟩=>?_
     subst hru;refine zPz h4 fun s5 h5=>?_
     obtain⟨xv,H5,I5,r5,y5,st5,fr5⟩:=h5;obtain⟨Hi5,e5,rd5⟩:=yl xv H5 y5;have I5':=I5.pinned (stat fr5) (T.obj _ _ st5);refine Jq (pZ I5' YN Yx (.inl Yl) r5 (fun s6 I6=>?_) (.inr Yl))
     have es6:(p++[v]).set p.length (some xv)=p++[some xv]:=by rw[Wj _ _ (Qf _),Xp];rfl
     rw[es6] at I6;have E5:Ext Hi2 H2 Hi5 H5:=e3.trans e5;have R5:lR (cxC X x scope HP.objs.size s2 H2 fp) ⟨G.B,G.Bi,fun _ _=>False⟩ Hi5 H5 (p++[some xv]) (ρ++[.val d]):=Rel.snoc (R2.grow E5) rd5
     obtain⟨hD5,hiD5⟩:=e5.out hD3 hiD3;have rd5':=rd3.mono e5.i
     have again:∀ {H8 Hi8:Hp} {ys':List V} {done' rest':List D} {s8:Jb},Inv (cxC X x scope HP.objs.size s2 H2 fp) (Mi++vY fp s5.heap) (p++[some xv]) H8 s8->Ext Hi2 H2 Hi8 H8->H8 s2.heap.objs.size=some (.lst ys')->Hi8 s2.heap.objs.size=none->IsDs X.K Hi8 ys' done'->done'.length<=i+1->
       gH t f ρ (ds.drop (i+1))=.ok rest'->es=done'++rest'->∃ m,m<ds.length-i/\∃ c:CW,m=ds.length-c.i/\CS (cxC X x scope HP.objs.size s2 H2 fp) Mi p tn fp Hi2 H2 s2.heap.objs.size 1 (fun i=>gH t f ρ (ds.drop i)) es c s8:=fun {H8 Hi8 ys' done' rest' s8} I8 E8 a1 a2 a3 a4 a5 a6=>by
      refine⟨ds.length-(i+1),by omega,⟨i+1,[some xv],H8,Hi8,ys',done',rest'⟩,rfl,⟨I8.unpinned,rfl,T.keep _ _ _ st5 fun b hb o e=>(I8.pin (b,o) (Qx _ (Qx _ (fN hb e)))).1,fun b hb=>?_,E8,a1,a2,a3,a4,a5,a6⟩⟩
      obtain⟨o,e,_⟩:=T.obj _ _ st5 b hb;exact(I8.pin (b,o) (Qx _ (Qx _ (fN hb e)))).2.1
     rcases zGP hr3 with⟨ht,hr4⟩ | ⟨ht,e,es',hf,hr4,hee⟩
     ·refine lift (thn (hts _ s6 _ H5 (fun b H'=>b=false/\∃ Hi',Ext Hi5 H5 Hi' H') I6 ⟨_,Hi5,R5,by rw[ht];exact fun Hi' H' e=>⟨rfl,Hi',e⟩⟩) fun b s7 h7=>?_)
      obtain⟨H7,I7,rfl,Hi7,e7⟩:=h7;obtain⟨hD7,hiD7⟩:=e7.out hD5 hiD5;exact again I7 (E5.trans e7) hD7 hiD7 (rd5'.mono e7.i) (by omega) hr4 hes3
     ·refine lift (thn (hts _ s6 _ H5 (fun b H'=>b=true/\∃ Hi',Ext Hi5 H5 Hi' H') I6 ⟨_,Hi5,R5,by rw[ht];exact fun Hi' H' e=>⟨rfl,Hi',e⟩⟩) fun b s7 h7=>?_)
      obtain⟨H7,I7,rfl,Hi7,e7⟩:=h7;obtain⟨hD7,hiD7⟩:=e7.out hD5 hiD5;simp only[if_true];refine lift (thn (hel _ s7 _ H7 (fun w H'=>∃ Hi',Ext Hi7 H7 Hi' H'/\IsD X.K Hi' w e) I7 ⟨_,Hi7,R5.grow e7,by rw[hf];exact fun Hi' H' ee w hw=>⟨Hi',ee,hw⟩⟩) fun u8 s8 h8=>?_)
      obtain⟨w8,H8,I8,r8,Hi8,e8,rw8⟩:=h8;obtain⟨hD8,hiD8⟩:=e8.out hD7 hiD7;have rdy:IsDs X.K Hi8 ys done:=(rd5'.mono e7.i).mono e8.i;refine lift (thn (uT (X:=(cxC X x scope HP.objs.size s2 H2 fp)) _ s8 _ H8 (.ref s2.heap.objs.size) [w8] (.ref s2.heap.objs.size) [u8] (fun _ H'=>H'=upd H8 s2.heap.objs.size (.lst (ys++[w8]))) I8 rfl (.cons r8 .nil) ⟨_,ys,w8,rfl,rfl,hD8,?_,rfl⟩) fun _ s9 h9=>?_)
      ·rw[rdy.length]
       exact Xv hl3 (Qs hlt (Q5 hlen (by decide)))
      ·obtain⟨_,H9,I9,_,rfl⟩:=h9
       refine again I9 (Ext.rewrite ((E5.trans e7).trans e8) H2D hiD8 ⟨_,hD8⟩) aR hiD8 (rdy.snoc rw8) (by rw[Qi];exact Y8 hl3) hr4 ?_
       rw[hes3,hee,Vr];rfl
    ·rw[Y7 (by omega),gH] at hr3
     cases hr3;refine thn (T.done (cxC X x scope HP.objs.size s2 H2 fp) rfl rfl rfl hc.1 i Mi s3 _ H3 _ I3 (stat fr3) st3 (w1 (by omega))) fun r s4 ⟨hrn,I4⟩=>?_
     subst hrn;obtain⟨m4,hn4,_⟩:=I4.loc;have fC:H3 HP.objs.size=none:=I4.free;have nC:∀ b u,H3 b=some u->b≠HP.objs.size:=fun b u e z=>by rw[z,fC] at e;cases e
     have U4:=I4.base;refine hend HP.objs.size s2.heap.objs.size m4 s4 H3 hn4 (fun h' hs'=>?_) (I2.fpOk (by rw[hC];omega) fC) ?_
     ·have kp:∀ b o,b≠HP.objs.size->s4.heap.get? b=some o->h'.get? b=some o:=fun b o hb e=>hs'.extBut b o hb e
      refine Inv.call' I2 (ch:=fp) I4.os ⟨fun b o e n hb hx=>kp b o (ltC e) (U4.keep b o e n hb hx),fun b o e n hb hx=>?_,U4.free,fun b o e hx=>?_,U4.tups,U4.frzs,U4.tbls⟩ (fun b u e=>?_) I4.bare (fun b hb=>⟨(f2 b hb).2.2.2.1,(f2 b hb).2.1,(f2 b hb).2.2.2.2.1,(f2 b hb).2.2.2.2.2⟩)
      ·obtain⟨sl,q⟩:=U4.slot b o e n hb hx
       exact⟨sl,kp b _ (ltC e) q⟩
      ·obtain⟨o',q⟩:=U4.there b o e hx
       exact⟨o',kp b _ (ltC e) q⟩
      ·refine(I4.hok b u e).stay (fun c v hc q=>kp c v ?_ q) (fun _ q=>q) fun _ _ q=>q
       rcases hc with z | z
       ·rw[z];exact nC b u e
       ·exact nC c _ z
     ·refine ou2 Hi3 H3 e3 _ ⟨HD,hiD3,ys,hD3,?_⟩
      rw[hes3,Vf];exact rd3
  rw[Ye] at loop;exact Md (loop _ rfl) (T.self _ 0 _ _ _ tn1 (loop _ rfl))
def zPA(hc:X.calm=true/\TB X.K X.mg G.Bi G.B)(hr:Room k X.A)(Bk:BlkOk X x scope)(hN:X.N.Nodup)(h0:("" : Str)∉X.N)(hx0:x≠("" : Str))(hi:PId X G (.Name x px) iter it)
  (hb:∀(C:Jc)(s₂:Jb)(H₂:Hp)(fp:List Jc)(G':Gx),Good (cxC X x scope C s₂ H₂ fp) G' k->PTs (cxC X x scope C s₂ H₂ fp) G' ifs t/\PEd (cxC X x scope C s₂ H₂ fp) G' elt f)
  (hs:∀ x,foldedSetIterable iter X.env x=pure x:=by intro _;rfl):PEf X G (.ListComp elt [⟨.Name x px,iter,ifs,0⟩] scope pos) (iW it t f):=by
 intro Mi s p H Q I w;obtain⟨ρ,Hi,R,ou⟩:=w;rw[eval_ListComp];refine zCD hc hr Bk hN h0 hx0 hi hb hs (use:=none) (Qa:=fun a H'=>Q (.ref a) H') I R ou fun C A m s4 H3 hn hI _ q=>?_
 exact⟨m,hn,fun h' hs'=>⟨.ref A,H3,hI h' hs',rfl,q⟩⟩
def PC(X:Cx)(e:Expr)(t:TE):Prop:=∀(Mi:List (Jc×Obj))(s:Jb)(p:St)(H:Hp)(Q:VK),Inv X Mi p H s->t p H Q->∀(u:Ja->Sem Unit)(Q':Unit->Jb->Prop),
 (∀(C:Jc)(m:Str->Option Ja)(s4:Jb)(v:V)(w:Ja)(H3:Hp),s4.heap.Ns C m->(∀ h',Heap.SameBut C s4.heap h'->Inv X Mi p H3 { s4 with heap:=h' })->tN X Mi H3 C->cW v w->Q v H3->
  wpAny (model X.prog X.w) X.A (u w) (fun _ s''=>∃ m,s''.heap.Ns C m/\∀ h',Heap.SameBut C s''.heap h'->Q' () { s'' with heap:=h' }) X.xe s4)->wpAny (model X.prog X.w) X.A (evalThenUse e X.env u) Q' X.xe s
def PC.wk{X:Cx}{e:Expr}{t t':TE}(h:PC X e t)(w:∀ p H Q,t' p H Q->t p H Q):PC X e t':=fun Mi s p H Q I q=>h Mi s p H Q I (w p H Q q)
@[irreducible] def PCd (X:Cx) (G:Gx) (e:Expr) (f:Ev):Prop:=PC X e (tD X G f)
unseal PCd
@[irreducible] def PCf (X:Cx) (G:Gx) (e:Expr) (f:Fv):Prop:=PC X e (tF X G f)
unseal PCf
def zOY(hc:X.calm=true/\TB X.K X.mg G.Bi G.B)(hr:Room k X.A)(Bk:BlkOk X x scope)(hN:X.N.Nodup)(h0:("" : Str)∉X.N)(hx0:x≠("" : Str))(hi:PId X G (.Name x px) iter it)
  (hb:∀(C:Jc)(s₂:Jb)(H₂:Hp)(fp:List Jc)(G':Gx),Good (cxC X x scope C s₂ H₂ fp) G' k->PTs (cxC X x scope C s₂ H₂ fp) G' ifs t/\PEd (cxC X x scope C s₂ H₂ fp) G' elt f)
  (hs:∀ x,foldedSetIterable iter X.env x=pure x:=by intro _;rfl):PCf X G (.ListComp elt [⟨.Name x px,iter,ifs,0⟩] scope pos) (iW it t f):=by
 intro Mi s p H Q I w u Q' hend;obtain⟨ρ,Hi,R,ou⟩:=w;rw[arm_evalThenUse_ListComp];refine Jr (zCD hc hr Bk hN h0 hx0 hi hb hs (use:=some u) (Q':=fun _ s=>wpAny (model X.prog X.w) X.A (pure ()) Q' X.xe s) (Qa:=fun a H'=>Q (.ref a) H') I R ou fun C A m s4 H3 hn hI fo q=>?_)
 refine thn (hend C m s4 (.ref A) (.ref A) H3 hn hI fo rfl q) fun _ s5 h5=>?_
 obtain⟨m5,hn5,h5⟩:=h5;exact⟨m5,hn5,fun h' hs'=>Ju (h5 h' hs')⟩
def PCf.d(h:PCf X G e fs):PCd X G e (eF fs):=PC.wk h fun p H Q q=>by
 obtain⟨ρ,Hi,R,ou⟩:=q;refine⟨ρ,Hi,R,?_⟩
 cases z:fs ρ with
 | no=>unfold eF at ou;rw[z] at ou;exact ou
 | err c=>unfold eF at ou;rw[z] at ou;exact ou
 | ok ds=>
  unfold eF at ou;rw[z] at ou
  intro Hi1 H1 e1 a n;obtain⟨n1,n2,xs,n3,n4⟩:=n;have o2:∀ Hi' H',Ext Hi H Hi' H'->∀ v,IsD X.K Hi' v (.lst ds)->Q v H':=ou;exact o2 _ _ (e1.hold n1 n3 n2) (.ref a) (.lst (SqL.of aR) (n4.mono (cJ n2 _)))
def zPo{i:Nat}{y:Str}{e:Expr}{te:TE}{pos' pos:Pos}(hN:X.N.Nodup)(hi:X.N[i]?=some y)(hx:Loc X.env.scope y)(he:PC X e te)(hs:swapsWith e (some (.Name y pos')) pos.line X.env=pure true)
  (hf:X.fn y=true∨X.env.scope.names.lookup y=some .local):PS X (.Assign [.Name y pos'] e pos) (zTa te (L2.gName i)):=by
 intro Mi s p H E I h;rw[exec_Assign_Name_used _ _ _ _ hs];refine Jr (wpAny_standAt (Jr ?_))
 refine he Mi s p H _ I h _ _ fun C m s4 v w H3 hn hI fo r q=>?_
 have I4:Inv X Mi p H3 s4:=hI s4.heap (Heap.SameBut.refl _ _);refine Jq (zBI I4 hN hi hx r (fun s5 I5 sb=>?_) hf)
 obtain⟨a,sb,ha⟩:=sb
 have aC:C≠a:=by
  rcases ha with rfl | ha
  ·exact fo.2.1
  ·exact fun z=>fo.2.2.2.2.1 y a ha z.symm
 refine⟨m,hn.sameBut sb aC,fun h' hs'=>Ju ?_⟩
 have fC:=fo.1;have nC:∀ b u,H3 b=some u->b≠C:=fun b u e z=>by rw[z,fC] at e;cases e
 have kp:∀ b o,b≠C->s5.heap.get? b=some o->h'.get? b=some o:=fun b o hb e=>hs'.extBut b o hb e
 refine⟨p.set i (some v),H3,?_,q⟩
 refine Inv.call' I5 (ch:=[C]) rfl ⟨fun b o e n hb hx=>kp b o (by simpa using hx) e,fun b o e n hb hx=>⟨o.slots,kp b _ (by simpa using hx) e⟩,fun b o e n hx=>n,fun b o e hx=>⟨o,kp b _ (by simpa using hx) e⟩,fun _ _ q=>q,fun _ _ _ q=>q,fun _ ps q=>⟨#[],by simpa using q⟩⟩ (fun b u e=>?_) I5.bare (fun b hb=>?_)
 ·refine(I5.hok b u e).stay (fun c v hc q=>kp c v ?_ q) (fun _ q=>q) fun _ _ q=>q
  rcases hc with z | z
  ·rw[z];exact nC b u e
  ·exact nC c _ z
 ·have e:b=C:=by simpa using hb
  subst e;exact⟨fo.2.2.2.1,fo.2.1,fo.2.2.2.2.1,fo.2.2.2.2.2⟩
def zIQ{i:Nat}{y:Str}{e:Expr}{f:Ev}{pos' pos:Pos}(hN:X.N.Nodup)(hi:X.N[i]?=some y)(hx:Loc X.env.scope y)(he:PCd X G e f)(hs:swapsWith e (some (.Name y pos')) pos.line X.env=pure true)
  (hf:X.fn y=true∨X.env.scope.names.lookup y=some .local:=by first | exact .inl rfl | exact .inr rfl | assumption):PSd X G (.Assign [.Name y pos'] e pos) (dF i f):=PS.wk (zPo hN hi hx he hs hf) fun E p H q=>by
 obtain⟨ρ,Hi,R,h⟩:=q;exact⟨ρ,Hi,R,oK R h fun d Hi' H' _ e h' v r=>h' _ Hi' H' (Same.refl _) ((R.grow e).set r)⟩
end
end L3
namespace L3
open PySem PySem.Spec PyProof.Rows L2
unseal PEd PEf PTd PWd PAd PSd eN POd PGd jG PId PSx mD PTs PCd PCf
def zSp(sc:Scope)(N:List Str)(x:Str)(scope:Scope):Bool:=
 scope.names.all (fun y=>y.2 != .cell) && scope.names.lookup x==some .local && scope.names.all (fun y=>y.2 != .local || scope.names.lookup y.1==some .local)
  && scope.names.all (fun p=>p.2 != .free || (sc.names.lookup p.1==some .cell || sc.names.lookup p.1==some .free)) && N.all (fun y=>y==x || scope.names.lookup y != some .local) && (scope.names.lookup ("" : Str)).isNone && !N.contains ("" : Str) && x != ("" : Str)
section
variable{X:Cx}{G:Gx}{elt iter:Expr}{x:Str}{px pos:Pos}{ifs:List Expr}{scope sc:Scope}{it:Fv}{t:Tv}{f:Ev}{k:Nat}{N:List Str}
def zLX(hk:scope.kind=.function)(hsc:X.env.scope=sc)(hN:X.N=N)(h:zSp sc N x scope=true):BlkOk X x scope/\("" : Str)∉X.N/\x≠("" : Str):=by
 unfold zSp at h;simp only[V8] at h;obtain⟨⟨⟨⟨⟨⟨⟨h1,h2⟩,h3⟩,h4⟩,h5⟩,h6⟩,h7⟩,h8⟩:=h;subst hN hsc;refine⟨⟨hk,fun y hy e=>?_,beq_iff_eq.mp h2,fun y hy e=>?_,fun p hp e=>?_,fun y hy hne e=>?_,?_⟩,fun z=>?_,fun z=>?_⟩
 ·have:=Xg.mp h1 y hy
  rw[e] at this;cases this
 ·have:=Xg.mp h3 y hy
  rw[e] at this;simpa using this
 ·have:=Xg.mp h4 p hp
  rw[e] at this;have q:X.env.scope.names.lookup p.1=some .cell∨X.env.scope.names.lookup p.1=some .free:=by simpa using this
  exact q
 ·have:=Xg.mp h5 y hy
  rw[e] at this;simp[hne] at this
 ·simpa using h6
 ·have:X.N.contains ("" : Str)=true:=by simpa using z
  rw[this] at h7;cases h7
 ·rw[z] at h8;simp at h8
def eK(W:Good X G k)(hnd:N.Nodup)(hk:scope.kind=.function)(hsc:X.env.scope=sc)(hN:X.N=N)(h:zSp sc N x scope=true)(hi:PId X G (.Name x px) iter it)
  (hb:∀(C:Jc)(s₂:Jb)(H₂:Hp)(fp:List Jc)(G':Gx),Good (cxC X x scope C s₂ H₂ fp) G' k->PTs (cxC X x scope C s₂ H₂ fp) G' ifs t/\PEd (cxC X x scope C s₂ H₂ fp) G' elt f)
  (hs:∀ x,foldedSetIterable iter X.env x=pure x:=by intro _;rfl):PEf X G (.ListComp elt [⟨.Name x px,iter,ifs,0⟩] scope pos) (iW it t f):=by
 obtain⟨b,h0,hx⟩:=zLX hk hsc hN h;exact zPA ⟨W.calm,W.tb⟩ W.room b (hN ▸ hnd) h0 hx hi hb hs
def zBb(W:Good X G k)(hnd:N.Nodup)(hk:scope.kind=.function)(hsc:X.env.scope=sc)(hN:X.N=N)(h:zSp sc N x scope=true)(hi:PId X G (.Name x px) iter it)
  (hb:∀(C:Jc)(s₂:Jb)(H₂:Hp)(fp:List Jc)(G':Gx),Good (cxC X x scope C s₂ H₂ fp) G' k->PTs (cxC X x scope C s₂ H₂ fp) G' ifs t/\PEd (cxC X x scope C s₂ H₂ fp) G' elt f)
  (hs:∀ x,foldedSetIterable iter X.env x=pure x:=by intro _;rfl):PCf X G (.ListComp elt [⟨.Name x px,iter,ifs,0⟩] scope pos) (iW it t f):=by
 obtain⟨b,h0,hx⟩:=zLX hk hsc hN h;exact zOY ⟨W.calm,W.tb⟩ W.room b (hN ▸ hnd) h0 hx hi hb hs
end
section
variable{X:Cx}{G:Gx}{a b:Expr}{pos:Pos}{f:Fv}{g:Ev}
def IsDs.rep{K:Fg_}{H:Hp}{xs:List V}{ds:List D}(h:IsDs K H xs ds):∀ n:Nat,IsDs K H (List.replicate n xs).flatten (List.replicate n ds).flatten
 | 0=>.nil
 | n+1=>by
  rw[Xt,Xt,X7,X7];exact h.append (IsDs.rep h n)
def zEJ(ha:PEf X G a f)(hb:PEd X G b g):PEf X G (.BinOp a .Mult b pos) (zNX f g):=PE.wk (zJv zRd ha hb) fun r H Q q=>by
 obtain⟨ρ,Hi,R,ou⟩:=q;refine⟨ρ,Hi,R,(Out.bind ou).imp fun ds Hi1 H1 e1 o1 l nl=>?_⟩
 refine⟨ρ,Hi1,R.grow e1,(Out.bind o1).imp fun d Hi2 H2 e2 o2 v rv=>?_⟩
 cases d<;>first | exact o2.elim | skip
 rename_i k
 obtain⟨n1,n2,xs,n3,n4⟩:=nl;have o2':Out G Hi2 H2 (if 0<=k/\k<2^62/\ds.length*k.toNat<=16777216 then Res.ok (List.replicate k.toNat ds).flatten else .no) _:=o2;by_cases hz:0<=k/\k<2^62/\ds.length*k.toNat<=16777216
 ·rw[Jk hz] at o2'
  refine⟨l,k,xs,rfl,rv.intI,e2.h.at n3,by omega,by omega,by rw[n4.length];exact hz.2.2,fun p hp=>?_⟩
  exact o2' _ _ (Ext.newF e2.s hp) p ⟨(e1.h.trans e2.h).none hp,e2.s.none hp,_,aR,(n4.mono e2.i).rep _⟩
 ·rw[Jl hz] at o2';exact o2'.elim
end
section
variable{es r:List Expr}{a b f:Expr}{k:Nat}{p:Pos}{x:Str}{c:Const}{env:Env}
def zLf:starEach (.Tuple es k p::r) env=(false,eval (.Tuple es k p) env)::starEach r env:=rfl
def kC:starEach (.List es p::r) env=(false,eval (.List es p) env)::starEach r env:=rfl
def bL{o:Operator}:starEach (.BinOp a o b p::r) env=(false,eval (.BinOp a o b p) env)::starEach r env:=rfl
def aQ:starEach (.Subscript a b p::r) env=(false,eval (.Subscript a b p) env)::starEach r env:=rfl
def aH:starEach (.Name x p::r) env=(false,eval (.Name x p) env)::starEach r env:=rfl
def cA:starEach (.Constant c k p::r) env=(false,eval (.Constant c k p) env)::starEach r env:=rfl
def aJ{ks:List Keyword}:starEach (.Call f es ks p::r) env=(false,eval (.Call f es ks p) env)::starEach r env:=rfl
end
section
variable{X:Cx}{G:Gx}{e st:Expr}{te tk:TE}{lo hi:Option Expr}{tl th:TO}{pos p2:Pos}{f g:Ev}{l h:Ov}
def zGy(xs:List V)(lo hi:Option Int)(c:Int):List V:=(sliceRange (sliceBounds lo hi (some c) xs.length).1 (sliceBounds lo hi (some c) xs.length).2.1 (sliceBounds lo hi (some c) xs.length).2.2).filterMap (xs[·]?)
def uY{xs:List V}{us:List Ja}(r:cX xs us):∀ is:List Nat,cX (is.filterMap (xs[·]?)) (is.filterMap (us[·]?))
 | []=>.nil
 | i::is=>by
  cases hx:xs[i]? with
  | none=>
   have hu:=r.none_of hx;rw[Ue hx,Ue hu];exact uY r is
  | some x=>
   obtain⟨u,hu,ru⟩:=r.get hx;rw[Uf hx,Uf hu];exact .cons ru (uY r is)
def wP{K:Fg_}{H:Hp}{xs:List V}{ds:List D}(r:IsDs K H xs ds):∀ is:List Nat,IsDs K H (is.filterMap (xs[·]?)) (is.filterMap (ds[·]?))
 | []=>.nil
 | i::is=>by
  cases hx:xs[i]? with
  | none=>
   have hd:ds[i]?=none:=by
    cases hd:ds[i]? with
    | none=>rfl
    | some d=>
     obtain⟨v,hv,_⟩:=r.at hd;rw[hx] at hv;cases hv
   rw[Ue hx,Ue hd];exact wP r is
  | some x=>
   obtain⟨d,hd,rd⟩:=r.get hx;rw[Uf hx,Uf hd];exact .cons rd (wP r is)
def zUB(K:PySem.W.Frag)(te:TE)(tl th:TO)(tk:TE):TE:=fun m H Q=>te m H fun x H1=>tl m H1 fun l H2=>th m H2 fun u H3=>tk m H3 fun k H4=>∃ c:Int,k=.int c/\c≠0/\∃ a xs,x=.ref a/\SqL K H4 a xs/\∀ p,H4 p=none->Q (.ref p) (upd H4 p (.lst (zGy xs l u c)))
def zHP(he:PE X e te)(hl:PO X lo tl)(hu:PO X hi th)(hk:PE X st tk):PE X (.Subscript e (.Slice lo hi (some st) p2) pos) (zUB X.K te tl th tk):=by
 intro Mi s m H Q I h;refine J1 (thn (he Mi s m H _ I h) fun v s1 ⟨x,H1,I1,r1,q1⟩=>?_)
 refine wpAny_Slice (thn (hl Mi s1 m H1 _ I1 q1) fun vl s2 ⟨l,H2,I2,pl,q2⟩=>thn (hu Mi s2 m H2 _ I2 q2) fun vu s3 ⟨u,H3,I3,pu,q3⟩=>?_)
 rw[evalPart_some];refine thn (hk Mi s3 m H3 _ I3 q3) fun vk s4 ⟨k,H4,I4,rk,q4⟩=>?_
 obtain⟨c,rfl,c0,a,xs,rfl,hx,q⟩:=q4;obtain⟨t,rfl⟩:=rk;cases r1;have I5:Inv X Mi m H4 { s4 with heap:=s4.heap.push { cls:=.type "slice", data:=.fields #[vl,vu,.int c t] } }:=I4.kept (t':=s4.toks) fun b ob q=>Heap.get?_push_of_some _ q
 obtain⟨its,r,ht,hz⟩:=I5.list hx;have hlen:=r.length;show wpAny (model X.prog X.w) X.A (subscriptTail e (.Slice lo hi (some st) p2) (.ref a) (.ref s4.heap.objs.size)) (EP X Mi m Q) X.xe { s4 with heap:=s4.heap.push { cls:=.type "slice", data:=.fields #[vl,vu,.int c t] } }
 refine tail_any (ops:=[.ref a,.ref s4.heap.objs.size]) ht.isList.typeIs slot_list_getitem.lookup ?_ (by with_unfolding_all rfl)
 refine J5 ht.isList (Heap.IsSliceOf.new ..) pl pu (.int c t) (by simpa using c0) ?_ (by rw[Ql];omega)
 have hp:cX (zGy xs l u c) (slicePick its.toArray l u (some c)).toList:=by
  unfold zGy slicePick;have:=uY r (sliceRange (sliceBounds l u (some c) xs.length).1 (sliceBounds l u (some c) xs.length).2.1 (sliceBounds l u (some c) xs.length).2.2)
  simpa [hlen] using this
 have hle:(zGy xs l u c).length<=sizeLine:=by
  have h1:=slicePick_size_le its.toArray l u (some c);have h2:=hp.length;simp only[X3,Ql] at h1 h2;omega
 refine⟨.ref _,_,I5.laid (t':=s4.toks) (o:=.lst (zGy xs l u c)) (fun b ob q=>Heap.get?_push_of_some _ q) (Qf _) ?_,rfl,q _ (I5.hok.fresh (Qf _))⟩
 refine⟨hle,_,0,hp,Heap.get?_push_size _ ?_⟩
 rfl
def zKl(he:PEd X G e f)(hl:POd X G lo l)(hu:POd X G hi h)(hk:PEd X G st g):PEf X G (.Subscript e (.Slice lo hi (some st) p2) pos) (zSh f l h g):=PE.wk (zHP he hl hu hk) fun m H Q q=>by
 obtain⟨ρ,Hi,R,ou⟩:=q;refine zBu R ou fun v d Hi1 H1 e1 R1 r1 o1=>?_
 refine zSj R1 o1 fun i Hi2 H2 e2 R2 o2=>?_
 refine zSj R2 o2 fun j Hi3 H3 e3 R3 o3=>?_
 refine zBu R3 o3 fun w d' Hi4 H4 e4 R4 r4 o4=>?_
 cases d<;>first | exact o4.elim | skip
 cases d'<;>first | exact o4.elim | skip
 rename_i ds c
 by_cases c0:c=0
 ·simp only[c0,if_true] at o4
  exact o4.elim
 ·simp only[c0,if_false] at o4
  obtain⟨a,xs,rfl,h1,h2⟩:=r1.lstI;have w':=r4.intI;refine⟨c,w',c0,a,xs,rfl,bY (e2.i.trans (e3.i.trans (e4.i.trans R4.s))) h1,fun p hp=>?_⟩
  refine o4 _ _ (Ext.newF R4.s hp) p ⟨(e1.h.trans (e2.h.trans (e3.h.trans e4.h))).none hp,R4.s.none hp,_,aR,?_⟩
  have:=wP h2 (sliceRange (sliceBounds i j (some c) xs.length).1 (sliceBounds i j (some c) xs.length).2.1 (sliceBounds i j (some c) xs.length).2.2)
  unfold zGy zFY;rw[<-h2.length];exact this.mono (e2.i.trans (e3.i.trans e4.i))
end
end L3
set_option maxRecDepth 100000
namespace L3
open PySem PySem.Spec PyProof.Rows L2
def zLv:bootBuiltins "reversed" = some (.type "reversed"):=by first | rfl | decide +kernel
section
unseal PEd PEf PTd PWd PAd PSd eN POd PGd jG PId PSx mD PTs PCd PCf
variable{X:Cx}{G:Gx}{fs:Fv}{f:Ev}
end
end L3
namespace L3
open PySem PySem.Spec PyProof.Rows L2
unseal PEd PEf PTd PWd PAd PSd eN POd PGd jG PId PSx mD PTs PCd PCf
section
variable{X:Cx}{G:Gx}
def zTM(K:PySem.W.Frag):List V->Hp->VK->Prop:=fun xs H Q=>∃(a:Jc)(ns:List Int),xs=[.ref a]/\(SqL K H a (ns.map V.int)∨SqT K H a (ns.map V.int))/\Q (.int ns.sum) H
def uQ(ns:List Int):∀ j,preSum (fun i=>ns.getD i 0) j=(ns.take j).sum
 | 0=>by rw[Ug];rfl
 | j+1=>by
  rw[preSum,uQ ns j,Wa];rw[Qv]
  cases ns[j]? with
  | none=>simp
  | some x=>simp
def zAJ{ns:List Int}{its:List Ja}(r:cX (ns.map V.int) its){i:Nat}{v:Ja}(h:its[i]?=some v):∃ t,v=.int (ns.getD i 0) t:=by
 have hl:=r.length;rw[Qe] at hl;have hi:=(Qy.mp h).1
 have hx:(ns.map V.int)[i]?=some (.int (ns.getD i 0)):=by
  rw[Qu,Qv,Qq (by omega)];rfl
 obtain⟨u,hu,ru⟩:=r.get hx;rw[h] at hu;cases hu;exact ru
def lH(hc:X.calm=true):rN X (.builtin "sum") (zTM X.K):=by
 intro Mi s f H xs us Q I r h;obtain⟨a,ns,rfl,hq,q⟩:=h;obtain⟨u,rfl,ru⟩:=r.one;cases ru;have hh:=I.ok.hd hc;rcases hq with hq | hq
 ·obtain⟨its,rv,p,hz⟩:=I.list hq
  have hlt:a<s.heap.objs.size:=by obtain⟨_,e,_⟩:=p.isList;exact Heap.lt_size e
  have hl:=rv.length;rw[Qe] at hl;refine call_sum_walkG (wpAny_pyIter_list p.isList ?_)
  refine⟨s.heap.objs.size,_,_,_,_,_,fun i=>ns.getD i 0,rfl,Walks.list (A:=X.A.in1) hh s.heap.objs.size a (Qt hlt) its.toArray,⟨⟨_,Heap.get?_push_size _ rfl,rfl,rfl⟩,p.isList.push _⟩,fun b hb=>?_,fun i v hv=>zAJ rv (by simpa using hv),fun h' tk t' hk=>?_⟩
  ·show b<(s.heap.push _).objs.size
   rw[Heap.size_push];rcases Qc.mp hb with rfl | hb
   ·exact Vy _
   ·rcases Qc.mp hb with rfl | hb
    ·exact Xo hlt
    ·cases hb
  ·refine⟨.int ns.sum,H,I.kept (t':=tk) fun b o e=>hk b o (fun z=>?_) (Heap.get?_push_of_some _ e),⟨t',?_⟩,q⟩
   ·have z':b=s.heap.objs.size:=by simpa using z
    have l:=Heap.lt_size e;rw[z'] at l;exact Vv _ l
   ·rw[Ql,<-hl,uQ,Vx]
 ·obtain⟨its,rv,p,hz⟩:=I.tuple hq
  have p':s.heap.IsTuple a its.toArray:=p;have hlt:a<s.heap.objs.size:=by obtain⟨_,e,_⟩:=p';exact Heap.lt_size e
  have hl:=rv.length;rw[Qe] at hl;refine call_sum_walkG (wpAny_pyIter_tuple p' ?_)
  refine⟨s.heap.objs.size,_,_,_,_,_,fun i=>ns.getD i 0,rfl,Walks.tuple (A:=X.A.in1) hh s.heap.objs.size a (Qt hlt) its.toArray,⟨⟨_,Heap.get?_push_size _ rfl,rfl,rfl⟩,p'.push _⟩,fun b hb=>?_,fun i v hv=>zAJ rv (by simpa using hv),fun h' tk t' hk=>?_⟩
  ·show b<(s.heap.push _).objs.size
   rw[Heap.size_push];rcases Qc.mp hb with rfl | hb
   ·exact Vy _
   ·rcases Qc.mp hb with rfl | hb
    ·exact Xo hlt
    ·cases hb
  ·refine⟨.int ns.sum,H,I.kept (t':=tk) fun b o e=>hk b o (fun z=>?_) (Heap.get?_push_of_some _ e),⟨t',?_⟩,q⟩
   ·have z':b=s.heap.objs.size:=by simpa using z
    have l:=Heap.lt_size e;rw[z'] at l;exact Vv _ l
   ·rw[Ql,<-hl,uQ,Vx]
def kU{K:Fg_}{H:Hp}:∀ {xs:List V} {ds:List D} {ns:List Int},IsDs K H xs ds->oM ds=some ns->xs=ns.map V.int
 | _,_,ns,.nil,h=>by cases h;rfl
 | _,_,ns,.cons (d:=d) (ds:=ds) r rs,h=>by
  cases d with
  | int i=>
   rw[oM] at h
   cases z:oM ds with
   | none=>rw[z] at h;cases h
   | some ms=>
    rw[z] at h;cases h;rw[r.intI,kU rs z];rfl
  | _=>cases h
def vX:zCb X (zTM X.K) zDj:=⟨fun a c z=>(by
  unfold zDj at z;split at z
  ·split at z<;>cases z
  ·split at z<;>cases z
  ·cases z),fun Hi H vs ds d Q s r z q=>by
  unfold zDj at z;split at z
  ·split at z
   ·rename_i ns hns
    cases z;obtain⟨v,rfl,h⟩:=r.one;obtain⟨a,xs,rfl,h1,h2⟩:=h.lstI;have e:=kU h2 hns;subst e;exact⟨a,ns,rfl,.inl (bY s h1),q _ Hi H (Ext.refl s) (.int _)⟩
   ·cases z
  ·split at z
   ·rename_i ns hns
    cases z;obtain⟨v,rfl,h⟩:=r.one;obtain⟨a,xs,rfl,h1,h2⟩:=h.tupI;have e:=kU h2 hns;subst e;exact⟨a,ns,rfl,.inr (cC s h1),q _ Hi H (Ext.refl s) (.int _)⟩
   ·cases z
  ·cases z⟩
def jM:bootBuiltins "sum" = some (.builtin "sum"):=by first | rfl | decide +kernel
end
def ln0{r:Type}{us:List r}(h:us.length=0):us=[]:=Ua h
def ln1{s:Type}{us:List s}(h:us.length=1):∃ a0:s,us=[a0]:=by
 cases us with
 | nil=>cases h
 | cons a r=>
  cases ln0 (Uh h)
  exact⟨a,rfl⟩
def ln2{s:Type}{us:List s}(h:us.length=2):∃ a0 a1:s,us=[a0,a1]:=by
 cases us with
 | nil=>cases h
 | cons a r=>
  obtain⟨a1,rfl⟩:=ln1 (Uh h);exact⟨a,a1,rfl⟩
def ln3{s:Type}{us:List s}(h:us.length=3):∃ a0 a1 a2:s,us=[a0,a1,a2]:=by
 cases us with
 | nil=>cases h
 | cons a r=>
  obtain⟨a1,a2,rfl⟩:=ln2 (Uh h);exact⟨a,a1,a2,rfl⟩
def ln4{s:Type}{us:List s}(h:us.length=4):∃ a0 a1 a2 a3:s,us=[a0,a1,a2,a3]:=by
 cases us with
 | nil=>cases h
 | cons a r=>
  obtain⟨a1,a2,a3,rfl⟩:=ln3 (Uh h);exact⟨a,a1,a2,a3,rfl⟩
section
variable{X:Cx}{G:Gx}{a b c e:Expr}{pos p2 p:Pos}{f g h:Ev}{fs:Fv}{x:Str}
def zGe{bl:List Ji}:eN X G bl sNo:=fun Mi s i H E I q=>by
 obtain⟨ρ,Hi,R,ou⟩:=q;exact ou.elim
def zKL(T:List (Str×Str)):List (Str×KTD.Dat):=T.map fun q=>(q.1,.flat (.str q.2))
structure IsTab (K:PySem.W.Frag) (mg:Str->Option Ja) (x:Str) (T:List (Str×Str)) (a:Jc):Prop where
 mg:mg x=some (.ref a)
 tab:∀ h:Je,K.In h->KTD.TextTab h a (zKL T)
def zIq(k:Str):∀ T:List (Str×Str),KTD.datumAt k (zKL T)=(T.lookup k).map fun y=>.flat (.str y)
 | []=>rfl
 | (x,y)::r=>by
  show(if decide (k=x)=true then some (KTD.Dat.flat (.str y)) else KTD.datumAt k (zKL r))=_
  rw[Vz];by_cases hx:k=x
  ·rw[Jk (J6 hx),show(k==x)=true from beq_iff_eq.mpr hx];rfl
  ·rw[Jl (by simp[hx]),show(k==x)=false from beq_eq_false_iff_ne.mpr hx];exact zIq k r
def zJP(k:Str)(T:List (Str×Str)):KTD.inKeys k (zKL T)=(T.lookup k).isSome:=by
 rw[<-KTD.isSome_datumAt,zIq,Option.isSome_map]
def zMd{T:List (Str×Str)}{ad:Jc}(t:IsTab X.K X.mg x T ad)(hg:Gl X x)(hd:(x==("__debug__" : Str))=false:=by decide):PE X (.Name x p) (tC (.ref ad)):=zDM hg t.mg rfl hd
def zJp{T:List (Str×Str)}{ad:Jc}(t:IsTab X.K X.mg x T ad):OpR X (compareOp .NotIn) (fun v y H Q=>∃ k,v=.str k/\y=.ref ad/\Q (.bl (!(T.lookup k).isSome)) H):=by
 intro Mi s i H v y u w Q I rx ry h;obtain⟨k,rfl,rfl,q⟩:=h;obtain⟨tk,rfl⟩:=rx;cases ry;refine KTD.notin_text ⟨t.tab s.heap I.kIn,fun _ _ e=>e⟩ ?_
 rw[zJP];exact⟨.bl _,H,I.tok _,rfl,q⟩
def zBA{h₀:Je}{k:Str}{P:Ja->Prop}:∀ {T:List (Str×Str)},(∀ z t,T.lookup k=some z->P (.str z t))->KTD.EachL h₀ k P (zKL T)
 | [],_=>trivial
 | [(x,y)],hP=>fun hk t=>hP y t (by rw[Vz,show(k==x)=true from beq_iff_eq.mpr hk])
 | (x,y)::q::r,hP=>by
  show if decide (k=x)=true then KTD.Opened h₀ P (.flat (.str y)) else KTD.EachL h₀ k P (zKL (q::r))
  by_cases hk:k=x
  ·rw[Jk (J6 hk)]
   exact fun t=>hP y t (by rw[Vz,show(k==x)=true from beq_iff_eq.mpr hk])
  ·rw[Jl (by simp[hk])]
   exact zBA fun z t hz=>hP z t (by rw[Vz,show(k==x)=false from beq_eq_false_iff_ne.mpr hk];exact hz)
def zJG(T:List (Str×Str)):((zKL T).all fun q=>KTD.plain q.2)=true:=by
 unfold zKL;rw[List.all_map];exact Xg.mpr fun _ _=>rfl
def zQs{T:List (Str×Str)}{ad:Jc}(t:IsTab X.K X.mg x T ad):IxR X (fun v y H Q=>∃ k z,v=.ref ad/\y=.str k/\T.lookup k=some z/\Q (.str z) H):=by
 intro value slice Mi s i H v y u w Q I rx ry h hs;obtain⟨k,z,rfl,rfl,hk,q⟩:=h;cases rx;obtain⟨tk,rfl⟩:=ry;refine KTD.item_textA ⟨t.tab s.heap I.kIn,fun _ _ e=>e⟩ (zJG T) (by rw[zJP,hk];rfl) ?_ hs
 refine zBA fun z' t' hz=>?_
 rw[hk] at hz;cases hz;exact⟨.str _,H,I.tok _,⟨_,rfl⟩,q⟩
def unT{o:D->Res D}{r:R2}{y:V}(hr:∀ (Hi H:Hp) (v:V) (d:D) (Q:VK),IsD X.K Hi v d->Same Hi H->(∃ d',o d=.ok d'/\(∀ w Hi' H',Ext Hi H Hi' H'->IsD X.K Hi' w d'->Q w H'))->r v y H Q)
  (he:∀ d c,o d≠.err c):∀ i H Q,tD X G (eUn o f) i H Q->tOp r (tD X G f) (tC y) i H Q:=fun i H Q q=>by
 obtain⟨ρ,Hi,R,ou⟩:=q;refine zBu R ou fun v d Hi1 H1 e1 R1 r1 o1=>?_
 cases z:o d with
 | no=>rw[z] at o1;exact o1.elim
 | err c=>exact absurd z (he d c)
 | ok d'=>rw[z] at o1;exact hr Hi1 H1 v d Q r1 R1.s ⟨d',z,fun w Hi' H' e1 r1=>o1 Hi' H' e1 w r1⟩
def zRl{T:List (Str×Str)}{ad:Jc}:∀ i H Q,tD X G (eUn (sG T) f) i H Q->tOp (fun v y H Q=>∃ k,v=.str k/\y=.ref ad/\Q (.bl (!(T.lookup k).isSome)) H) (tD X G f) (tC (.ref ad)) i H Q:=
 unT (fun Hi H v d Q r s h=>by
  obtain⟨d',z,q⟩:=h;unfold sG at z;split at z
  ·cases z;exact⟨_,r.strI,rfl,q _ Hi H (Ext.refl s) (.bl _)⟩
  ·cases z) fun d c z=>by unfold sG at z;split at z<;>cases z
def zPP{op:CmpOp}{o:D->Res D}{r:R2}{y:V}(hp:PT X (.Compare a [op] [b] pos) (zQe (tOp r (tD X G f) (tC y))))(hu:∀ i H Q,tD X G (eUn o f) i H Q->tOp r (tD X G f) (tC y) i H Q):PTd X G (.Compare a [op] [b] pos) (dD (eUn o f)):=
 PT.wk hp fun i H Q q=>by
  obtain⟨ρ,Hi,R,ou⟩:=q;refine hu i H _ ⟨ρ,Hi,R,ou.bind.imp fun d Hi' H' e o v r=>?_⟩
  cases d with
  | bl c=>rw[r.blI];exact⟨c,rfl,o.here e.s⟩
  | _=>exact o.elim
def zLd{T:List (Str×Str)}{ad:Jc}(t:IsTab X.K X.mg x T ad)(hg:Gl X x)(ha:PEd X G a f)(hm:behindInMarks .NotIn (.Name x p)=false)(hd:(x==("__debug__" : Str))=false:=by decide):PTd X G (.Compare a [.NotIn] [.Name x p] pos) (dD (eUn (sG T) f)):=
 zPP (zHx (zJp t) ha (zMd t hg hd) hm) zRl
def zMz{T:List (Str×Str)}{ad:Jc}(t:IsTab X.K X.mg x T ad)(hg:Gl X x)(hb:PEd X G b g)(hs:zDQ b)(hd:(x==("__debug__" : Str))=false:=by decide):PEd X G (.Subscript (.Name x p) b pos) (eUn (uX T) g):=
 PE.wk (zGo (zQs t) (zMd t hg hd) hb hs) fun i H Q q=>by
  obtain⟨ρ,Hi,R,ou⟩:=q;refine zBu R ou fun v d Hi1 H1 e1 R1 r1 o1=>?_
  cases d with
  | str k=>
   have o2:Out G Hi1 H1 (zPF (T.lookup k)) _:=o1
   cases z:T.lookup k with
   | none=>rw[z] at o2;exact o2.elim
   | some y=>rw[z] at o2;exact⟨k,y,rfl,r1.strI,z,o2.here R1.s _ (.str _)⟩
  | _=>exact o1.elim
end
section
variable{prog:Jf}{w:Jg}{A:Jh}{R:Result->Jb->Prop}{I:Jc}{fp wr:List Jc}{n:Nat}{P:Nat->Ja->Prop}{St:Nat->Je->Prop}{kw:List (Str×Ja)}
def zNk(R:Result->Jb->Prop)(wr:List Jc)(S:Jc)(s:Jb)(P:Ja->Prop):Prop:=
 ∀ v h' tk,P v->(∀ b o,b∉wr->b≠S->s.heap.get? b=some o->h'.get? b=some o)->R (.ok (.ret v)) { s with heap:=h',toks:=tk }
def zSL(s:Jb)(S:Jc)(vs:Array Ja)(c:Nat):Prop:=s.heap.get? S=some { cls:=.type "list", dict:=none,data:=.seq vs c,slots:=#[] }
def zFB:(toString "max" ++ toString ".loop" : String) = "max.loop" := by decide
def zNS(W:Walks prog w A.in1 I fp wr n P St)(bt:Nat->Nat->Bool)(hcmp:CmpOf prog w A.in1 .Gt P bt)(S:Jc)(hSf:S∉fp):
  ∀(k j:Nat)(s:Jb)(vb:Ja)(c:Nat),n-(j+1)=k->j+1<=n->St (j+1) s.heap->P (argBest bt j) vb->zSL s S #[vb,vb] c->zNk R wr S s (P (argBest bt (n-1)))->
  codeAny (model prog w) A (.builtin "max.loop" ⟨[.ref I,.none,.ref S],kw⟩) R s:=by
 have hSw:S∉wr:=fun h=>hSf (W.sub _ h)
 intro k
 induction k with
 | zero=>
  intro j s vb c hk hj hst hPb hS hR;have hin:j+1=n:=by omega
  refine codeAny_builtin F.entry_max_loop ?_;rw[Around.under_plainId F.plain_max_loop _]
  refine Jr (wpAny_seqItems hS rfl ?_)
  refine Jr (m:=tryCatch (pyNext (.ref I)) _) (wpAny_tryCatch (W.done s _ _ (hin ▸ hst) fun h' tk hk'=>?_))
  have hS':=hk' S _ hSw hS;refine Jr (m:=updateSeq S (fun _=>#[])) (wpAny_updateSeq hS' rfl (Jr (wpAny_letGo (Ju ?_))))
  exact hR vb _ tk (by rw[<-hin];exact hPb) fun b o hbw hbS e=>(Heap.get?_update_other _ _ (Ne.symm hbS)).trans (hk' b o hbw e)
 | succ k ih=>
  intro j s vb c hk hj hst hPb hS hR;have hlt:j+1<n:=by omega
  refine codeAny_builtin F.entry_max_loop ?_;rw[Around.under_plainId F.plain_max_loop _]
  refine Jr (wpAny_seqItems hS rfl ?_)
  refine Jr (m:=tryCatch (pyNext (.ref I)) _) (wpAny_tryCatch (W.item (j+1) s _ _ hlt hst fun v h' tk hP hst' hk'=>?_))
  have hS':=hk' S _ hSw hS;refine Jr (m:=tryCatch (holding [v,v] (richCompare .Gt v vb >>= _)) _) (wpAny_tryCatch (wpAny_holding (Jr (hcmp (j+1) (argBest bt j) v vb _ _ _ hP hPb ?_))))
  refine Jr (wpAny_holding (wpAny_truthy_bool (Jr (wpAny_letGo (Ju ?_)))))
  cases hb:bt (j+1) (argBest bt j) with
  | true=>
   simp only[if_true];refine Jr ?_;refine wpAny_updateSeq hS' rfl (Jr (wpAny_letGo ?_));rw[zFB]
   refine Ju ⟨plainId_quiet F.plain_max_loop _,ih (j+1) _ v _ (by omega) hlt (W.frame _ _ _ hst' fun b hbf o e=>(Heap.get?_update_other _ _ (fun h:S=b=>hSf (by rw[h];exact hbf))).trans e) (by simp only[argBest,hb,if_true];exact hP) (Heap.get?_update_self _ hS' rfl) fun v' h'' tk'' hP' hk''=>?_⟩
   exact hR v' h'' tk'' hP' fun b o hbw hbS e=>hk'' b o hbw hbS ((Heap.get?_update_other _ _ (Ne.symm hbS)).trans (hk' b o hbw e))
  | false=>
   simp only[Xn,if_false];refine Jr (wpAny_letGo ?_);rw[zFB]
   exact Ju ⟨plainId_quiet F.plain_max_loop _,ih (j+1) _ vb c (by omega) hlt hst' (by simp only[argBest,hb,Xn,if_false];exact hPb) hS' fun v' h'' tk'' hP' hk''=>hR v' h'' tk'' hP' fun b o hbw hbS e=>hk'' b o hbw hbS (hk' b o hbw e)⟩
def zLj(W:Walks prog w A.in1 I fp wr n P St)(bt:Nat->Nat->Bool)(hcmp:CmpOf prog w A.in1 .Gt P bt)(S:Jc)(hSf:S∉fp)(hn:0<n){s:Jb}{c:Nat}(hst:St 0 s.heap)(hS:zSL s S #[] c)(hR:zNk R wr S s (P (argBest bt (n-1)))):
  codeAny (model prog w) A (.builtin "max.loop" ⟨[.ref I,.none,.ref S],kw⟩) R s:=by
 have hSw:S∉wr:=fun h=>hSf (W.sub _ h)
 refine codeAny_builtin F.entry_max_loop ?_;rw[Around.under_plainId F.plain_max_loop _]
 refine Jr (wpAny_seqItems hS rfl ?_)
 refine Jr (m:=tryCatch (pyNext (.ref I)) _) (wpAny_tryCatch (W.item 0 s _ _ hn hst fun v h' tk hP hst' hk'=>?_))
 have hS':=hk' S _ hSw hS;refine Jr (m:=updateSeq S (fun _=>#[v,v])) (wpAny_updateSeq hS' rfl ?_);rw[zFB]
 refine Ju ⟨plainId_quiet F.plain_max_loop _,zNS W bt hcmp S hSf _ 0 _ v _ rfl hn (W.frame _ _ _ hst' fun b hbf o e=>(Heap.get?_update_other _ _ (fun h:S=b=>hSf (by rw[h];exact hbf))).trans e) hP (Heap.get?_update_self _ hS' rfl) fun v' h'' tk'' hP' hk''=>?_⟩
 exact hR v' h'' tk'' hP' fun b o hbw hbS e=>hk'' b o hbw hbS ((Heap.get?_update_other _ _ (Ne.symm hbS)).trans (hk' b o hbw e))
def zOJ{x:Str}{d:Ja}(W:Walks prog w A.in1 I fp wr 0 P St)(S:Jc)(hSf:S∉fp){s:Jb}{c:Nat}(hst:St 0 s.heap)(hS:zSL s S #[] c)(hR:zNk R wr S s (·=d)):
  codeAny (model prog w) A (.builtin "max.loop" ⟨[.ref I,.none,.ref S],[(x,d)]⟩) R s:=by
 refine codeAny_builtin F.entry_max_loop ?_;rw[Around.under_plainId F.plain_max_loop _]
 refine Jr (wpAny_seqItems hS rfl ?_)
 refine Jr (m:=tryCatch (pyNext (.ref I)) _) (wpAny_tryCatch (W.done s _ _ hst fun h' tk hk'=>?_))
 exact Jr (wpAny_rule (Ju (hR d h' tk rfl fun b o hbw _ e=>hk' b o hbw e)))
end
section
variable{X:Cx}{G:Gx}{a c:Expr}{pos p kp:Pos}{f g:Ev}
def zJW(num:Nat->Int):∀ k,num (argBest (fun i j=>decide (num i > num j)) k)=zAq (num 0) ((List.range k).map fun i=>num (i+1))
 | 0=>rfl
 | k+1=>by
  rw[Wk,Q9]
  have app:∀(l:List Int)(a b:Int),zAq a (l++[b])=if b > zAq a l then b else zAq a l:=by
   intro l
   induction l with
   | nil=>intro a b;rfl
   | cons x r ih=>intro a b;rw[Ui,zAq,ih,zAq]
  rw[List.map_singleton,app,<-zJW num k];show num (if decide (num (k+1) > num (argBest _ k))=true then k+1 else argBest _ k)=_
  by_cases h:num (k+1) > num (argBest (fun i j=>decide (num i > num j)) k)
  ·rw[Jk (J6 h),Jk h]
  ·rw[Jl (by simp[h]),Jl h]
def zDP(m:Int)(ns:List Int):(m::ns).getD (argBest (fun i j=>decide ((m::ns).getD i 0 > (m::ns).getD j 0)) ns.length) 0=zAq m ns:=by
 rw[zJW (fun i=>(m::ns).getD i 0) ns.length];show zAq m _=_
 congr 1
 refine Yi fun i=>?_
 rw[Qu];by_cases h:i<ns.length
 ·rw[Xa h,Qq h]
  show some ((m::ns).getD (i+1) 0)=_
  rw[List.getD_cons_succ,Qv,Qq h];rfl
 ·rw[Qz (by rw[Q2];omega),Qz (by omega)];rfl
def zTA(d:Int):List Int->Int
 | []=>d
 | m::r=>zAq m r
def zPT(K:PySem.W.Frag):R2:=fun x y H Q=>∃(ad:Jc)(d:Int)(ns:List Int),x=.ref ad/\y=.int d/\SqL K H ad (ns.map V.int)/\Q (.int (zTA d ns)) H
def zJT(x v:Ja):argsOk "max" ⟨[x],[(Str.ofString "default", v)]⟩:=by unfold argsOk;kernel_rfl
def zIo(hc:X.calm=true){Mi:List (Jc×Obj)}{s:Jb}{n:St}{H:Hp}{ad:Jc}{d:Int}{t:Tok}{ns:List Int}{Q:VK}(I:Inv X Mi n H s)(hq:SqL X.K H ad (ns.map V.int))(q:Q (.int (zTA d ns)) H):
  wpAny (model X.prog X.w) X.A (call (.builtin "max") [.ref ad] [(Str.ofString "default", .int d t)]) (EP X Mi n Q) X.xe s:=by
 have hh:=I.ok.hd hc;obtain⟨its,rv,p,hz⟩:=I.list hq;have hlt:ad<s.heap.objs.size:=by obtain⟨_,e,_⟩:=p.isList;exact Heap.lt_size e
 have hl:=rv.length;rw[Qe] at hl;refine kmk_tree F.kind_max F.plain_max F.entry_max (zJT _ _) ?_
 refine Jr (m:=Builtin.Builtins.bindParams "max" ["key","default"] 0 ⟨[],[(Str.ofString "default", .int d t)]⟩) (wpAny_of_eq (a:=[none,some (.int d t)]) (by first | rfl | kernel_rfl) ?_)
 refine Jr (Ju ?_)
 refine Jr (wpAny_pyIter_list p.isList ?_)
 refine Jr (wpAny_newObj_type ?_)
 rw[zFB];refine Ju ⟨plainId_quiet F.plain_max_loop _,?_⟩
 have W:=Walks.list (prog:=X.prog) (w:=X.w) (A:=X.A.in1) hh s.heap.objs.size ad (Qt hlt) its.toArray
 have hSf:(s.heap.push { cls:=.type "list_iterator", data:=.fields #[.ref ad,.int 0 0] }).objs.size∉[s.heap.objs.size,ad]:=by
  rw[Heap.size_push];intro z;rcases Qc.mp z with z | z
  ·exact Wl _ z
  ·exact Vv _ (Xv (Uj (Qr.mp z)) (Xo hlt))
 have keep:∀ {h':Je} {b:Jc} {o:Obj},(∀ b o,b∉[s.heap.objs.size]->b≠(s.heap.push { cls:=.type "list_iterator", data:=.fields #[.ref ad,.int 0 0] }).objs.size->((s.heap.push { cls:=.type "list_iterator", data:=.fields #[.ref ad,.int 0 0] }).push { cls:=.type "list", data:=.seq #[] }).get? b=some o->h'.get? b=some o)->s.heap.get? b=some o->h'.get? b=some o:=fun {h' b o} hk e=>by
  have l:=Heap.lt_size e;refine hk b o (fun z=>?_) (fun z=>?_) (Heap.get?_push_of_some _ (Heap.get?_push_of_some _ e))
  ·rw[Qr.mp z] at l;exact Vv _ l
  ·rw[z,Heap.size_push] at l;exact Vv _ (Nat.lt_of_succ_lt l)
 have hst:((s.heap.push { cls:=.type "list_iterator", data:=.fields #[.ref ad,.int 0 0] }).push { cls:=.type "list", data:=.seq #[] }).IsListIter s.heap.objs.size ad 0/\((s.heap.push { cls:=.type "list_iterator", data:=.fields #[.ref ad,.int 0 0] }).push { cls:=.type "list", data:=.seq #[] }).IsList ad its.toArray:=
  ⟨⟨_,Heap.get?_push_of_some _ (Heap.get?_push_size _ rfl),rfl,rfl⟩,(p.isList.push _).push _⟩
 cases ns with
 | nil=>
  have e0:its=[]:=Ua (by rw[<-hl];rfl)
  subst e0;exact zOJ W _ hSf hst (Heap.get?_push_size _ rfl) fun v h' tk hv hk=>⟨.int d,H,I.kept (t':=tk) fun b o e=>keep hk e,⟨t,hv⟩,q⟩
 | cons m r=>
  refine zLj W (fun i j=>decide ((m::r).getD i 0 > (m::r).getD j 0)) (CmpOf.ints_gt _ fun i v hv=>zAJ rv (by simpa using hv)) _ hSf (by rw[Ql,<-hl];exact V0 _) hst (Heap.get?_push_size _ rfl) fun v h' tk hv hk=>?_
  obtain⟨t',rfl⟩:=zAJ rv (i:=argBest (fun i j=>decide ((m::r).getD i 0 > (m::r).getD j 0)) (its.toArray.size-1)) (by simpa using hv)
  refine⟨.int (zAq m r),H,I.kept (t':=tk) fun b o e=>keep hk e,⟨t',?_⟩,q⟩
  rw[Ql,<-hl,Qn,Wm,zDP]
def zPv{ta tb:TE}(hc:X.calm=true)(hg:Gl X "max")(hm:X.mg "max" = none)(ha:PE X a ta)(hb:PE X c tb)(hs:starEach [a] X.env=(false,eval a X.env)::starEach [] X.env:=by rfl):
  PE X (.Call (.Name "max" p) [a] [⟨some "default", c,kp⟩] pos) (tOp (zPT X.K) ta tb):=by
 intro Mi s n H Q I h;refine Jx (nQ I hg hm boot_max ?_ (by decide) (by decide))
 refine callWith_kw (thn ((eQ ha kZ hs) pos Mi s n H (fun vs H1=>match vs with | [x]=>tb n H1 fun y H2=>zPT X.K x y H2 Q | _=>False) I h) fun us s1 ⟨vs,H1,I1,r1,q1⟩=>?_) (by rw[hs];rfl) (by rw[hs];rfl)
 match vs,r1,q1 with
 | [x],r1,q1=>
  obtain⟨u,rfl,ru⟩:=zDp r1;refine kws_cons (thn (hb Mi s1 n H1 _ I1 q1) fun v s2 ⟨y,H2,I2,r2,q2⟩=>kws_nil ?_)
  obtain⟨ad,d,ns,rfl,rfl,hq,q⟩:=q2;cases ru;obtain⟨t,rfl⟩:=r2;exact zIo hc I2 hq q
def zPx(hc:X.calm=true)(hg:Gl X "max")(hm:X.mg "max" = none)(ha:PEd X G a f)(hb:PEd X G c g)(hs:starEach [a] X.env=(false,eval a X.env)::starEach [] X.env:=by rfl):
  PEd X G (.Call (.Name "max" p) [a] [⟨some "default", c,kp⟩] pos) (eOp (fun x y=>zDu [x,y]) f g):=PE.wk (zPv hc hg hm ha hb hs) (op2 ⟨fun a b c z=>(by
  replace z:zDu [a,b]=_:=z
  unfold zDu at z;split at z
  ·split at z<;>cases z
  ·cases z),fun Hi H x y a b d Q s r1 r2 z q=>by
  replace z:zDu [a,b]=_:=z
  unfold zDu at z;split at z
  ·rename_i ds d' he
   cases he;obtain⟨ad,xs,rfl,h1,h2⟩:=r1.lstI;split at z
   ·rename_i m ns hns
    cases z;have e:=kU h2 hns;subst e;exact⟨ad,_,_,rfl,r2.intI,bY s h1,q _ Hi H (Ext.refl s) (.int _)⟩
   ·rename_i hns
    cases z;have e:=kU h2 hns;subst e;exact⟨ad,_,[],rfl,r2.intI,bY s h1,q _ Hi H (Ext.refl s) (.int _)⟩
   ·cases z
  ·cases z⟩)
end
end L3
namespace L2
open PySem PySem.Spec PyProof.Rows
abbrev KT(H:Hp):List (List Key×V)->List (List Key×Jc×Ja)->Prop:=Paired fun p q=>p.1=q.1/\H q.2.1=some (.tup (p.1.map kV))/\cW p.2 q.2.2
end L2
namespace L3
open PySem PySem.Spec PyProof.Rows L2
unseal PEd PEf PTd PWd PAd PSd eN POd PGd jG PId PSx mD PTs PCd PCf
end L3
namespace L3
open PySem PySem.Spec PyProof.Rows L2
def itN(k:Bool):String:=if k then "list_iterator" else "tuple_iterator"
def zDc(k:Bool)(h:Je)(it l:Jc)(i:Nat):Prop:=if k then h.IsListIter it l i else h.IsTupleIter it l i
def tX(k:Bool)(h:Je)(l:Jc)(xs:Array Ja):Prop:=if k then h.IsList l xs else h.IsTuple l xs
def zDc.get{k:Bool}{h:Je}{it l:Jc}{i:Nat}(x:zDc k h it l i):∃ o,h.get? it=some o/\o.cls=.type (itN k)/\o.data=.fields #[.ref l,.int i 0]:=by
 cases k<;>(obtain⟨o,a,b,c⟩:=x;exact⟨o,a,b,c⟩)
def zDc.mk{k:Bool}{h:Je}{it l:Jc}{i:Nat}{o:Obj}(a:h.get? it=some o)(b:o.cls=.type (itN k))(c:o.data=.fields #[.ref l,.int i 0]):zDc k h it l i:=by
 cases k<;>exact⟨o,a,b,c⟩
def zDc.go{k:Bool}{h h':Je}{it l:Jc}{i:Nat}(x:zDc k h it l i)(g:∀ o,h.get? it=some o->h'.get? it=some o):zDc k h' it l i:=by
 obtain⟨o,a,b,c⟩:=x.get;exact .mk (g o a) b c
def tX.go{k:Bool}{h h':Je}{l:Jc}{xs:Array Ja}(x:tX k h l xs)(g:∀ o,h.get? l=some o->h'.get? l=some o):tX k h' l xs:=by
 cases k<;>(obtain⟨o,a,b⟩:=x;exact⟨o,g o a,b⟩)
section
variable{prog:Jf}{w:Jg}{A:Jh}{E:Ja->Jb->Prop}{s:Jb}
def zQ{k:Bool}{l:Jc}{xs:Array Ja}{Q:Ja->Jb->Prop}(hl:tX k s.heap l xs)(hQ:Q (.ref s.heap.objs.size) { s with heap:=s.heap.push { cls:=.type (itN k),data:=.fields #[.ref l,.int 0 0] } }):
  wpAny (model prog w) A (pyIter (.ref l)) Q E s:=by
 cases k
 ·exact wpAny_pyIter_tuple hl hQ
 ·exact wpAny_pyIter_list hl hQ
def nxT{it t:Jc}{i:Nat}{items:Array Ja}{Q:Ja->Jb->Prop}(hh:A.handled=none∨(items[i]?).isSome=true)(x:s.heap.IsTupleIter it t i)(y:s.heap.IsTuple t items)
  (go:∀ v,items[i]?=some v->∀ h2,h2.IsTupleIter it t (i+1)->Heap.SameBut it s.heap h2->Q v { s with heap:=h2 })
  (stop:items[i]?=none->∀ h2 e,Heap.ExtBut it s.heap h2->(∃ ob,h2.get? e=some ob/\ob.cls=.type "StopIteration")->E (.ref e) { s with heap:=h2 }):wpAny (model prog w) A (Builtin.SmallTypes.nextOf (.ref it)) Q E s:=by
 obtain⟨oi,ei,ci,di⟩:=id x;obtain⟨ot,et,_,nt,dt⟩:=y;have nn:¬ ((Value.ref t==Value.none)=true):=Yk;unfold Builtin.SmallTypes.nextOf;refine Jr (wpAny_callSpecial?_slot (name:=Str.ofString "__next__") x.typeIs F.slot_tuple_iterator_next (wpAny_call_entry F.slot_tuple_iterator_next x.typeIs F.entry_tuple_iterator_next (show wpAny _ _ (field _ 0 >>= _) _ _ s from Jr (wpAny_field ei di (x:=.ref t) rfl ?_)) (F.args_tuple_iterator_next_1 _)))
 show wpAny _ _ (ite ((Value.ref t==Value.none)=true) _ _) _ _ s
 rw[Jl nn];refine show wpAny _ _ (field _ 1 >>= _) _ _ s from Jr (wpAny_field ei di (x:=.int i 0) rfl (show wpAny _ _ (seqItems? _ >>= _) _ _ s from Jr (wpAny_seqItems et dt ?_)))
 have fr:∀ g:Array Ja->Array Ja,Heap.get? (s.heap.update it (Obj.mapFields g)) it=some (Obj.mapFields g oi):=fun g=>Heap.get?_update_self _ ei (Obj.isFreed_of_fields (Obj.data_mapFields di g))
 cases q:items[i]? with
 | some v=>
  simp only[Xf,q];refine Jr (wpAny_setField ei di (by simp) (Ju ⟨v,rfl,Ju (go v q _ ⟨_,fr _,(Obj.cls_mapFields ..).trans ci,?_⟩ (Heap.SameBut.update ..))⟩))
  rw[Obj.data_mapFields di];simp[rawInt]
 | none=>
  have hh:A.handled=none:=hh.elim id fun z=>by rw[q] at z;cases z
  simp only[Xf,q];refine Jr (wpAny_rule (Jr (wpAny_setField ei di (by simp) (show wpAny _ _ (newExc _ [] >>= _) _ _ _ from Jr ?_))))
  simp only[newExc,newTuple];refine Jr (wpAny_newObj_type (Jr (m:=firstArgMember _ _) (wpAny_of_eq (a:=Value.none) (by first | rfl | (simp only[firstArgMember];rfl)) (wpAny_newObj_type ?_ (by size_fits)))) (by size_fits))
  simp only[raiseNew];refine Jr (wpAny_handled ?_)
  rw[show A.in1.handled=none from hh];exact Jr (Ju (wpAny_throw (stop q _ _ (((Heap.SameBut.update ..).extBut.push _).push _) ⟨_,Heap.get?_push_size _ rfl,rfl⟩)))
def zEt{k:Bool}{it t:Jc}{i:Nat}{items:Array Ja}{x:Ja}{Q:Ja->Jb->Prop}(hit:zDc k s.heap it t i)(ht:tX k s.heap t items)(hx:items[i]?=some x)
  (hQ:∀ h',zDc k h' it t (i+1)->Heap.SameBut it s.heap h'->Q x { s with heap:=h' }):wpAny (model prog w) A (Builtin.SmallTypes.nextOf (.ref it)) Q E s:=by
 cases k
 ·exact nxT (.inr (by rw[hx];rfl)) hit ht (fun v q h2 g1 g2=>by rw[hx] at q;cases q;exact hQ h2 g1 g2) fun q=>by rw[hx] at q;cases q
 ·exact wpAny_nextOf_list_item hit ht hx hQ
def zEZ{k:Bool}{it t:Jc}{i:Nat}{items:Array Ja}{Q:Ja->Jb->Prop}(hh:A.handled=none)(hit:zDc k s.heap it t i)(ht:tX k s.heap t items)(hx:items[i]?=none)
  (hE:∀ h' e,Heap.ExtBut it s.heap h'->(∃ o,h'.get? e=some o/\o.cls=.type "StopIteration")->E (.ref e) { s with heap:=h' }):wpAny (model prog w) A (Builtin.SmallTypes.nextOf (.ref it)) Q E s:=by
 cases k
 ·exact nxT (.inl hh) hit ht (fun v q=>by rw[hx] at q;cases q) fun _=>hE
 ·exact wpAny_nextOf_list_end hh hit ht hx hE
def zRG{k:Bool}(hh:A.handled=none)(it l:Jc)(hne:l≠it)(items:Array Ja):Draws prog w A it [it,l] items.size (fun i v=>items[i]?=some v) (fun i h=>zDc k h it l i/\tX k h l items) where
 live:=fun _ _ st=>let ⟨o,ho,_⟩:=st.1.get;⟨o,ho⟩
 frame:=fun _ _ _ st hk=>⟨st.1.go fun o e=>hk it (by simp) o e,st.2.go fun o e=>hk l (by simp) o e⟩
 item:=fun i s Q E hi st hQ=>by
  refine zEt st.1 st.2 (x:=items[i]) (by simp[hi]) fun h' hit' hs'=>?_
  exact hQ _ h' s.toks (by simp[hi]) ⟨hit',st.2.go fun o e=>hs'.extBut _ o hne e⟩ hs'
 done:=fun s Q E st hE=>zEZ hh st.1 st.2 (by simp) hE
def yZ(f0:Ja)(k1 k2:Bool)(l1 l2 n:Jc)(j1 j2:Nat)(h:Je):Prop:=
 IsZip h (n+4) (n+2) (n+3) f0/\IsPair h (n+2) (.ref n) (.ref (n+1))/\(∃ a b,IsPair h (n+3) a b)/\zDc k1 h n l1 j1/\zDc k2 h (n+1) l2 j2
def pB(n:Jc)(h h2:Je):Prop:=∀ c o,c≠n+4->c≠n+3->c≠n->c≠n+1->h.get? c=some o->h2.get? c=some o
def pB.then{n:Jc}{h h1 h2:Je}(a:pB n h h1)(b:pB n h1 h2):pB n h h2:=fun c o c1 c2 c3 c4 e=>b c o c1 c2 c3 c4 (a c o c1 c2 c3 c4 e)
def pB.eb{n a:Jc}{h h2:Je}(k:Heap.ExtBut a h h2)(m:a=n+4∨a=n+3∨a=n∨a=n+1):pB n h h2:=fun c o c1 c2 c3 c4 e=>k c o (fun z=>by subst z;rcases m with m | m | m | m<;>contradiction) e
def pB.sq{k:Bool}{n l:Jc}{h h2:Je}{xs:Array Ja}(a:pB n h h2)(hl:l<n)(x:tX k h l xs):tX k h2 l xs:=
 x.go fun o e=>a l o (Qt (Nat.lt_add_right 4 hl)) (Qt (Nat.lt_add_right 3 hl)) (Qt hl) (Qt (Xo hl)) e
def zLV(n:Jc):n+3≠n+4/\n+2≠n+4/\n≠n+4/\n+1≠n+4/\n+2≠n+3/\n≠n+3/\n+1≠n+3/\n+2≠n/\n+1≠n/\n+2≠n+1:=by
 refine⟨?_,?_,?_,?_,?_,?_,?_,?_,?_,?_⟩<;>(intro z;have z':(_:Nat)=_:=z;omega)
def yZ.fld{f0:Ja}{k1 k2:Bool}{l1 l2 n:Jc}{j1 j2:Nat}{h h2:Je}(g:yZ f0 k1 k2 l1 l2 n j1 j2 h){f1:Ja}(z:IsZip h2 (n+4) (n+2) (n+3) f1)(s:Heap.ExtBut (n+4) h h2):yZ f1 k1 k2 l1 l2 n j1 j2 h2:=by
 obtain⟨_,g2,⟨a,b,g3⟩,g4,g5⟩:=g;obtain⟨e1,e2,e3,e4,_⟩:=zLV n;exact⟨z,s _ _ e2 g2,⟨a,b,s _ _ e1 g3⟩,g4.go fun o e=>s _ o e3 e,g5.go fun o e=>s _ o e4 e⟩
def yZ.it1{f0:Ja}{k1 k2:Bool}{l1 l2 n:Jc}{j1 j2 m:Nat}{h h2:Je}(g:yZ f0 k1 k2 l1 l2 n j1 j2 h)(z:zDc k1 h2 n l1 m)(s:Heap.ExtBut n h h2):yZ f0 k1 k2 l1 l2 n m j2 h2:=by
 obtain⟨g1,g2,⟨a,b,g3⟩,_,g5⟩:=g;obtain⟨e1,e2,e3,e4,e5,e6,e7,e8,e9,_⟩:=zLV n;exact⟨s _ _ e3.symm g1,s _ _ e8 g2,⟨a,b,s _ _ e6.symm g3⟩,z,g5.go fun o e=>s _ o e9 e⟩
def yZ.it2{f0:Ja}{k1 k2:Bool}{l1 l2 n:Jc}{j1 j2 m:Nat}{h h2:Je}(g:yZ f0 k1 k2 l1 l2 n j1 j2 h)(z:zDc k2 h2 (n+1) l2 m)(s:Heap.ExtBut (n+1) h h2):yZ f0 k1 k2 l1 l2 n j1 m h2:=by
 obtain⟨g1,g2,⟨a,b,g3⟩,g4,_⟩:=g;obtain⟨e1,e2,e3,e4,e5,e6,e7,e8,e9,e10⟩:=zLV n;exact⟨s _ _ e4.symm g1,s _ _ e10 g2,⟨a,b,s _ _ e7.symm g3⟩,g4.go fun o e=>s _ o e9.symm e,z⟩
def yZ.out{f0 a b:Ja}{k1 k2:Bool}{l1 l2 n:Jc}{j1 j2:Nat}{h h2:Je}(g:yZ f0 k1 k2 l1 l2 n j1 j2 h)(z:IsPair h2 (n+3) a b)(s:Heap.ExtBut (n+3) h h2):yZ f0 k1 k2 l1 l2 n j1 j2 h2:=by
 obtain⟨g1,g2,_,g4,g5⟩:=g;obtain⟨e1,e2,e3,e4,e5,e6,e7,_⟩:=zLV n;exact⟨s _ _ e1.symm g1,s _ _ e5 g2,⟨a,b,z⟩,g4.go fun o e=>s _ o e6 e,g5.go fun o e=>s _ o e7 e⟩
def zUf{k1 k2:Bool}{n l1 l2:Jc}{j:Nat}{xs ys:Array Ja}{Q:PySem.Fin->Jb->Prop}(hh:A.handled=none)(b1:l1<n)(b2:l2<n)(g:yZ .none k1 k2 l1 l2 n j j s.heap)(d1:tX k1 s.heap l1 xs)(d2:tX k2 s.heap l2 ys)
  (go:∀ x y,xs[j]?=some x->ys[j]?=some y->∀ h2,yZ (rawInt s.heap.objs.size) k1 k2 l1 l2 n (j+1) (j+1) h2->IsPair h2 s.heap.objs.size x y->pB n s.heap h2->Q (.done (.ret (.ref s.heap.objs.size))) { s with heap:=h2 })
  (stop:xs[j]?=none∨ys[j]?=none->∀ h2 e,pB n s.heap h2->(∃ o,h2.get? e=some o/\o.cls=.type "StopIteration")->E (.ref e) { s with heap:=h2 }):
  wpAny (model prog w) A (Builtin.«zip.__next__» ⟨[.ref (n+4)],[]⟩) Q E s:=by
 have stopZ:∀ {h1:Je} {e:Jc} {v:Ja} {k:Nat} {R:Unit->Jb->Prop},(xs[j]?=none∨ys[j]?=none)->pB n s.heap h1->IsZip h1 (n+4) (n+2) (n+3) .ellipsis->(∃ o,h1.get? e=some o/\o.cls=.type "StopIteration")->k<5->
   (∀ h3,pB n s.heap h3->(∃ o,h3.get? e=some o/\o.cls=.type "StopIteration")->R () { s with heap:=h3 })->wpAny (model prog w) A (setField (.ref (n+4)) k v) R E { s with heap:=h1 }:=by
  intro h1 e v k R q kz z he hk fin;obtain⟨oe,e1,e2⟩:=he;have nz:e≠n+4:=fun y=>by subst y;rw[z] at e1;cases e1;simp at e2
  exact wpAny_setField_rec z (by simpa using hk) fun h3 _ s3=>fin h3 (kz.then (.eb s3.extBut (.inl rfl))) ⟨oe,s3.extBut _ _ nz e1,e2⟩
 obtain⟨z0,t0,⟨a,b,p0⟩,_⟩:=id g;refine show wpAny _ _ (field _ 2 >>= _) _ _ s from Jr (wpAny_field z0 rfl (x:=.bool false) rfl (show wpAny _ _ (field _ 3 >>= _) _ _ s from Jr (wpAny_field z0 rfl (x:=.ref (n+2)) rfl (Jr (wpAny_seqItems t0 rfl (Jr ?_))))))
 unfold Builtin.SmallTypes.ownedTupleIsFree;refine Jr (wpAny_field z0 rfl (x:=.none) rfl (Ju ?_))
 simp only[if_true];refine Jr (wpAny_rule (Jr (wpAny_field z0 rfl (x:=.ref (n+3)) rfl (Jr (wpAny_setField_rec z0 (by simp) fun h1 z1 s1=>Jr ?_)))))
 have g1:yZ .ellipsis k1 k2 l1 l2 n j j h1:=g.fld z1 s1.extBut;have k1':pB n s.heap h1:=.eb s1.extBut (.inl rfl);simp only[List.zipIdx_cons,List.zipIdx_nil,Ud,List.forIn_nil];refine Jr (Jr (wpAny_onRaise (show wpAny _ _ (Builtin.SmallTypes.nextOf _ >>= _) _ _ _ from Jr ?_)))
 cases q1:xs[j]? with
 | none=>
  refine zEZ (s:={ s with heap:=h1 }) hh g1.2.2.2.1 (k1'.sq b1 d1) q1 fun h2 e x2 he=>stopZ (.inl q1) (k1'.then (.eb x2 (.inr (.inr (.inl rfl))))) (x2 _ _ (zLV n).2.2.1.symm g1.1) he (by decide) fun h3=>stop (.inl q1) h3 e
 | some x=>
  refine zEt (s:={ s with heap:=h1 }) g1.2.2.2.1 (k1'.sq b1 d1) q1 fun h2 i2 s2=>Ju ?_
  have g2:=g1.it1 i2 s2.extBut;have k2':=k1'.then (.eb s2.extBut (.inr (.inr (.inl rfl))));have p2:IsPair h2 (n+3) a b:=s2.extBut _ _ (zLV n).2.2.2.2.2.1.symm (s1.extBut _ _ (zLV n).1 p0);refine Jr (wpAny_seqItems (s:={ s with heap:=h2 }) p2 rfl (Jr (wpAny_updateSeq_pair p2 fun h3 p3 s3=>Jr (wpAny_letGo (Ju ?_)))))
  have g3:=g2.out p3 s3.extBut;have k3':=k2'.then (.eb s3.extBut (.inr (.inl rfl)));refine Jr (Jr (wpAny_onRaise (show wpAny _ _ (Builtin.SmallTypes.nextOf _ >>= _) _ _ _ from Jr ?_)))
  cases q2:ys[j]? with
  | none=>
   refine zEZ (s:={ s with heap:=h3 }) hh g3.2.2.2.2 (k3'.sq b2 d2) q2 fun h4 e x4 he=>stopZ (.inr q2) (k3'.then (.eb x4 (.inr (.inr (.inr rfl))))) (x4 _ _ (zLV n).2.2.2.1.symm g3.1) he (by decide) fun h5=>stop (.inr q2) h5 e
  | some y=>
   refine zEt (s:={ s with heap:=h3 }) g3.2.2.2.2 (k3'.sq b2 d2) q2 fun h4 i4 s4=>Ju ?_
   have g4:=g3.it2 i4 s4.extBut;have p4:IsPair h4 (n+3) x b:=s4.extBut _ _ (zLV n).2.2.2.2.2.2.1.symm p3;refine Jr (wpAny_seqItems (s:={ s with heap:=h4 }) p4 rfl (Jr (wpAny_updateSeq_pair p4 fun h5 p5 s5=>Jr (wpAny_letGo (Ju (Ju ?_))))))
   have p5:IsPair h5 (n+3) x y:=p5;have g5:=g4.out p5 s5.extBut;have k5':=(k3'.then (.eb s4.extBut (.inr (.inr (.inr rfl))))).then (.eb s5.extBut (.inr (.inl rfl)));have sz:h5.objs.size=s.heap.objs.size:=s5.1.trans (s4.1.trans (s3.1.trans (s2.1.trans s1.1)));refine Jr (wpAny_seqItems (s:={ s with heap:=h5 }) p5 rfl (Jr (wpAny_newTuple (show wpAny _ _ (Builtin.SmallTypes.ownedTupleHandOut _ (.ref h5.objs.size) >>= _) _ _ _ from Jr ?_))))
   unfold Builtin.SmallTypes.ownedTupleHandOut;refine Jr (wpAny_setField_rec (Heap.get?_push_of_some _ g5.1) (by simp) fun h7 z7 s7=>wpAny_setField_rec z7 (by simp) fun h8 z8 s8=>Ju ?_)
   have nz:h5.objs.size≠n+4:=Ym (Heap.lt_size g5.1);have x8:Heap.ExtBut (n+4) h5 h8:=fun c o c1 e=>s8.extBut _ _ c1 (s7.extBut _ _ c1 (Heap.get?_push_of_some _ e))
   have g8:yZ (rawInt h5.objs.size) k1 k2 l1 l2 n (j+1) (j+1) h8:=g5.fld z8 x8;have t8:IsPair h8 h5.objs.size x y:=s8.extBut _ _ nz (s7.extBut _ _ nz (Heap.get?_push_size _ rfl));rw[sz] at g8 t8;show Q (.done (.ret (.ref h5.objs.size))) _
   rw[sz];exact go x y q1 q2 h8 g8 t8 (k5'.then (.eb x8 (.inl rfl)))
def zTF{k1 k2:Bool}{n l1 l2:Jc}{j:Nat}{xs ys:Array Ja}{Q:Option Ja->Jb->Prop}(hh:A.handled=none)(b1:l1<n)(b2:l2<n)(g:yZ .none k1 k2 l1 l2 n j j s.heap)(d1:tX k1 s.heap l1 xs)(d2:tX k2 s.heap l2 ys)
  (go:∀ x y,xs[j]?=some x->ys[j]?=some y->∀ h2,yZ (rawInt s.heap.objs.size) k1 k2 l1 l2 n (j+1) (j+1) h2->IsPair h2 s.heap.objs.size x y->pB n s.heap h2->Q (some (.ref s.heap.objs.size)) { s with heap:=h2 })
  (stop:xs[j]?=none∨ys[j]?=none->∀ h2,pB n s.heap h2->Q none { s with heap:=h2 }):wpAny (model prog w) A (pyNext (.ref (n+4))) Q E s:=by
 have ty:s.TypeIs (.ref (n+4)) "zip" := ⟨_,g.1,rfl⟩;unfold pyNext
 refine Jr (wpAny_attempt (wpAny_callSpecial?_slot (name:=Str.ofString "__next__") ty F.slot_zip_next (wpAny_call_entry F.slot_zip_next ty F.entry_zip_next
  (zUf hh b1 b2 g d1 d2 (fun x y q1 q2 h2 a1 a2 a3=>⟨_,rfl,Ju (go x y q1 q2 h2 a1 a2 a3)⟩) fun q h2 e k he=>?_) (F.args_zip_next_1 _))))
 obtain⟨o,eo,co⟩:=he;exact Jr (wpAny_isInstance (T := "StopIteration") (b:=true) ⟨o,eo,co⟩ isSubtype_stop (Ju (stop q h2 k)))
end
abbrev zO(k:Bool)(l:Jc):Obj:={ cls:=.type (itN k),data:=.fields #[.ref l,.int 0 0] }
abbrev zH2(k1 k2:Bool)(h:Je)(l1 l2:Jc):Je:=(h.push (zO k1 l1)).push (zO k2 l2)
abbrev zH3(k1 k2:Bool)(h:Je)(l1 l2:Jc):Je:=(zH2 k1 k2 h l1 l2).push { cls:=.type "tuple", data:=.seq #[.ref h.objs.size,.ref (h.push (zO k1 l1)).objs.size] }
abbrev zH4(k1 k2:Bool)(h:Je)(l1 l2:Jc):Je:=(zH3 k1 k2 h l1 l2).push { cls:=.type "tuple", data:=.seq #[.none,.none] }
abbrev zH5(k1 k2:Bool)(h:Je)(l1 l2:Jc):Je:=(zH4 k1 k2 h l1 l2).push { cls:=.type "zip", data:=.fields #[.none,.bool false,.bool false,.ref (zH2 k1 k2 h l1 l2).objs.size,.ref (zH3 k1 k2 h l1 l2).objs.size] }
def zLy(k1 k2:Bool)(l1 l2:Jc)(xs ys:Array Ja):Meets (Builtin.«zip.__new__» ⟨[.type "zip", .ref l1,.ref l2],[]⟩) (fun _ R s=>tX k1 s.heap l1 xs/\tX k2 s.heap l2 ys/\
  R (.ok (.ret (.ref (zH4 k1 k2 s.heap l1 l2).objs.size))) { s with heap:=zH5 k1 k2 s.heap l1 l2 }):=
 .of_wp fun prog w A R s h=>by
  obtain⟨hp,g,d,tk,os⟩:=s;obtain⟨hl1,hl2,h⟩:=h;have hsub:=sub_zip;have d1:tX k1 (Shared.heap ⟨hp,g,d,tk,os⟩) l1 xs:=hl1;have d2:tX k2 (Shared.heap ⟨hp.push { cls:=.type (itN k1),data:=.fields #[.ref l1,.int 0 0] },g,d,tk,os⟩) l2 ys:=hl2.go fun o e=>Heap.get?_push_of_some _ e
  wp_walk using zQ d1,zQ d2
  exact⟨_,rfl,h⟩
section
variable{prog:Jf}{w:Jg}{A:Jh}{E:Ja->Jb->Prop}{s:Jb}
def zLB{k1 k2:Bool}{l1 l2:Jc}{xs ys:Array Ja}{Q:Ja->Jb->Prop}(d1:tX k1 s.heap l1 xs)(d2:tX k2 s.heap l2 ys)
  (h:∀ h2,yZ .none k1 k2 l1 l2 s.heap.objs.size 0 0 h2->(∀ c o,s.heap.get? c=some o->h2.get? c=some o)->Q (.ref (s.heap.objs.size+4)) { s with heap:=h2 }):wpAny (model prog w) A (call (.type "zip") [.ref l1,.ref l2]) Q E s:=by
 refine callType_new F.called_zip (by decide) (F.typeCall_zip_2 _ _) (F.newCall_zip_2 _ _) (fun obj=>F.args_object_init_3 obj _ _) F.entry_zip_new (zLy k1 k2 l1 l2 xs ys) ⟨d1,d2,?_⟩
 have up:∀ {h:Je} {a:Jc} {o ob:Obj},h.get? a=some o->(h.push ob).get? a=some o:=fun e=>Heap.get?_push_of_some _ e
 have m1:(s.heap.push (zO k1 l1)).objs.size=s.heap.objs.size+1:=Heap.size_push ..;have m2:(zH2 k1 k2 s.heap l1 l2).objs.size=s.heap.objs.size+2:=(Heap.size_push ..).trans (congrArg (·+1) m1);have m3:(zH3 k1 k2 s.heap l1 l2).objs.size=s.heap.objs.size+3:=(Heap.size_push ..).trans (congrArg (·+1) m2);have m4:(zH4 k1 k2 s.heap l1 l2).objs.size=s.heap.objs.size+4:=(Heap.size_push ..).trans (congrArg (·+1) m3);have r0:(zH5 k1 k2 s.heap l1 l2).get? s.heap.objs.size=some (zO k1 l1):=up (up (up (up (Heap.get?_push_size _ rfl))));have r1:(zH5 k1 k2 s.heap l1 l2).get? (s.heap.push (zO k1 l1)).objs.size=some (zO k2 l2):=up (up (up (Heap.get?_push_size _ rfl)));have r2:(zH5 k1 k2 s.heap l1 l2).get? (zH2 k1 k2 s.heap l1 l2).objs.size=some _:=up (up (Heap.get?_push_size _ rfl));have r3:(zH5 k1 k2 s.heap l1 l2).get? (zH3 k1 k2 s.heap l1 l2).objs.size=some _:=up (Heap.get?_push_size _ rfl);have r4:(zH5 k1 k2 s.heap l1 l2).get? (zH4 k1 k2 s.heap l1 l2).objs.size=some _:=Heap.get?_push_size _ rfl;rw[m1] at r1;rw[m1,m2] at r2;rw[m3] at r3;rw[m2,m3,m4] at r4;show _/\_
 rw[m4];exact⟨⟨_,r4,rfl⟩,h _ ⟨r4,r2,⟨_,_,r3⟩,.mk r0 rfl rfl,.mk r1 rfl rfl⟩ fun c o x=>up (up (up (up (up x))))⟩
end
section
variable{X:Cx}{Mi:List (Jc×Obj)}{a:St}{H:Hp}{s:Jb}{h':Je}{fp:List Jc}
def zHh{t':Nat}{p:Jc}{xs:List V}{us:List Ja}(I:Inv X Mi a H s)(hf:∀ b∈fp,tN X Mi H b)(k:∀ b o,b∉fp->s.heap.get? b=some o->h'.get? b=some o)
  (hp:s.heap.objs.size<=p) (ht:IsTup h' p us.toArray) (hv:cX xs us) (hz:xs.length<=sizeLine):Inv X Mi a (upd H p (.tup xs)) { s with heap:=h',toks:=t' }:=by
 have hn:H p=none:=I.hok.fresh hp;have nf:∀ b u,H b=some u->b∉fp:=fun b u e z=>by rw[(hf b z).1] at e;cases e
 have np:∀ b u,H b=some u->upd H p (.tup xs) b=some u:=fun b u e=>by rw[aV (aY e hn)];exact e
 refine I.step (g':=s.gens) (d':=s.drawn) (ch:=fp) (fun b hb=>⟨(hf b hb).2.2.2.1,(hf b hb).2.1,(hf b hb).2.2.2.2.1,(hf b hb).2.2.2.2.2⟩) (fun b o _ _ hc e _=>k b o hc e) (fun b o _ _ hc e _=>⟨o.slots,k b o hc e⟩) (fun b o _ e n=>?_)
  (fun b o hc e=>⟨o,k b o hc e⟩) (fun b xs e=>np _ _ e) (fun b o u e=>np _ _ e) (fun b ps e=>⟨#[],by rw[np _ _ e];simp⟩) (fun m hm=>?_) (fun b u e=>?_) I.bare
 ·rw[aV (Qt (Qs (Heap.lt_size e) hp))];exact n
 ·obtain⟨o,es,ep,ho,r⟩:=hm
  exact⟨o,es,ep,k _ o (fun z=>(hf _ z).2.1 rfl) ho,r⟩
 ·by_cases hb:b=p
  ·subst hb
   rw[aR] at e;cases e
   exact⟨hz,us,hv,ht⟩
  ·rw[aV hb] at e
   refine(I.hok b u e).stay (fun c v hc q=>k c v ?_ q) (fun _ q=>np _ _ q) fun _ _ q=>np _ _ q
   rcases hc with z | z
   ·rw[z];exact nf b u e
   ·exact nf c _ z
def zHL{t':Nat}(I:Inv X Mi a H s)(hf:∀ b∈fp,tN X Mi H b)(k:∀ b o,b∉fp->s.heap.get? b=some o->h'.get? b=some o):Inv X Mi a H { s with heap:=h',toks:=t' }:=by
 have nf:∀ b u,H b=some u->b∉fp:=fun b u e z=>by rw[(hf b z).1] at e;cases e
 refine I.step (g':=s.gens) (d':=s.drawn) (ch:=fp) (fun b hb=>⟨(hf b hb).2.2.2.1,(hf b hb).2.1,(hf b hb).2.2.2.2.1,(hf b hb).2.2.2.2.2⟩) (fun b o _ _ hc e _=>k b o hc e) (fun b o _ _ hc e _=>⟨o.slots,k b o hc e⟩) (fun b o _ e n=>n)
  (fun b o hc e=>⟨o,k b o hc e⟩) (fun b xs e=>e) (fun b o u e=>e) (fun b ps e=>⟨#[],by rw[e];simp⟩) (fun m hm=>?_) (fun b u e=>?_) I.bare
 ·obtain⟨o,es,ep,ho,r⟩:=hm
  exact⟨o,es,ep,k _ o (fun z=>(hf _ z).2.1 rfl) ho,r⟩
 ·refine(I.hok b u e).stay (fun c v hc q=>k c v ?_ q) (fun _ q=>q) fun _ _ q=>q
  rcases hc with z | z
  ·rw[z];exact nf b u e
  ·exact nf c _ z
end
def SqK(k:Bool)(K:PySem.W.Frag)(H:Hp)(a:Jc)(xs:List V):Prop:=if k then SqL K H a xs else SqT K H a xs
def qE{k:Bool}{K:Fg_}{H H':Hp}(e:Same H H'){a:Jc}{xs:List V}(h:SqK k K H a xs):SqK k K H' a xs:=by
 cases k
 ·exact cC e h
 ·exact bY e h
section
variable{X:Cx}{Mi:List (Jc×Obj)}{r:St}{H:Hp}{s:Jb}{k:Bool}{a:Jc}{xs ys:List V}
def sqI(I:Inv X Mi r H s)(h:SqK k X.K H a xs):∃ its:List Ja,cX xs its/\tX k s.heap a its.toArray/\xs.length<=sizeLine:=by
 cases k
 ·obtain⟨its,rv,p,hz⟩:=I.tuple h
  exact⟨its,rv,p,hz⟩
 ·obtain⟨its,rv,p,hz⟩:=I.list h
  exact⟨its,rv,p.isList,hz⟩
def zDE(I:Inv X Mi r H s)(h:SqK k X.K H a xs)(h':SqK k X.K H a ys):xs=ys:=by
 cases k
 ·exact I.tuple_inj h h'
 ·exact I.list_inj h h'
def tX.lt{h:Je}{l:Jc}{xs:Array Ja}(x:tX k h l xs):l<h.objs.size:=by
 cases k<;>(obtain⟨o,e,_⟩:=x;exact Heap.lt_size e)
end
def Itz(K:PySem.W.Frag)(k1 k2:Bool)(a1 a2:Jc):It:=
  ⟨fun i H=>∃ xs ys x y,SqK k1 K H a1 xs/\SqK k2 K H a2 ys/\xs[i]?=some x/\ys[i]?=some y,
   fun i H v H'=>∃ p x y,v=.ref p/\H p=none/\H'=upd H p (.tup [x,y])/\(∀ xs,SqK k1 K H a1 xs->xs[i]?=some x)/\∀ ys,SqK k2 K H a2 ys->ys[i]?=some y,
   fun i H=>∃ xs ys,SqK k1 K H a1 xs/\SqK k2 K H a2 ys/\(xs.length<=i∨ys.length<=i)⟩
def zUm(k1 k2:Bool)(a1 a2 n:Jc)(i:Nat)(h:Je):Prop:=yZ .none k1 k2 a1 a2 n i i h
def oT{h:Je}{b:Jc}{o:Obj}{d:Data}(e:h.get? b=some o)(hd:o.data=d)(nd:∀ v,d≠.cell v):∃ o,h.get? b=some o/\∀ v,o.data≠.cell v:=⟨o,e,fun v z=>nd v (hd.symm.trans z)⟩
def zLM{P:Jf}{w:Jg}{K:Fg_}{elts:List Expr}{x1:Nat}{tp:Pos}(k1 k2:Bool)(a1 a2 n:Jc)(l1:a1<n)(l2:a2<n):
  Turn P w K (.Tuple elts x1 tp) (Itz K k1 k2 a1 a2) [n+4,n+2,n+3,n,n+1] (n+4) (zUm k1 k2 a1 a2 n) where
 mem:=by simp
 obj:=fun i h st b hb=>by
  obtain⟨t1,t2,⟨a,b',t3⟩,t4,t5⟩:=st;obtain⟨o4,e4,_,d4⟩:=t4.get;obtain⟨o5,e5,_,d5⟩:=t5.get;simp only[Qc,V3,or_false] at hb;rcases hb with rfl | rfl | rfl | rfl | rfl
  ·exact oT t1 rfl fun v z=>by cases z
  ·exact oT t2 rfl fun v z=>by cases z
  ·exact oT t3 rfl fun v z=>by cases z
  ·exact oT e4 d4 fun v z=>by cases z
  ·exact oT e5 d5 fun v z=>by cases z
 keep:=fun i h h' st k=>by
  obtain⟨t1,t2,⟨a,b',t3⟩,t4,t5⟩:=st;exact⟨k _ (by simp) _ t1,k _ (by simp) _ t2,⟨a,b',k _ (by simp) _ t3⟩,t4.go fun o e=>k _ (by simp) o e,t5.go fun o e=>k _ (by simp) o e⟩
 item:=by
  intro X hP hw hK hc i Mi s r H E I hf st hg;subst hP hw hK;obtain⟨xs,ys,x,y,q1,q2,hx,hy⟩:=hg;obtain⟨us,r1,s1,z1⟩:=sqI I q1;obtain⟨ws,r2,s2,z2⟩:=sqI I q2;obtain⟨u,hu,ru⟩:=r1.get hx;obtain⟨v,hv,rv⟩:=r2.get hy;have hu':us.toArray[i]?=some u:=by simpa using hu
  have hv':ws.toArray[i]?=some v:=by simpa using hv
  have st':=st;obtain⟨t1,t2,⟨a,b,t3⟩,t4,t5⟩:=st;refine zTF (I.ok.hd hc) l1 l2 st' s1 s2 (fun x' y' f1 f2 h' g' p' kz=>?_) (fun q=>?_)
  rotate_left
  ·rw[hu',hv'] at q;rcases q with q | q<;>cases q
  rw[hu'] at f1;cases f1
  rw[hv'] at f2;cases f2
  refine⟨_,rfl,wpAny_letOwnedTupleGo_zip (s:={ s with heap:=h' }) g'.1 fun h'' c1 c2=>?_⟩
  have zl:s.heap.objs.size≠n+4:=Ym (Heap.lt_size t1);have np:H s.heap.objs.size=none:=I.hok.fresh (Qf _)
  have I1:Inv X Mi r (upd H s.heap.objs.size (.tup [x,y])) { s with heap:=h'',toks:=s.toks }:=zHh (us:=[u,v]) I hf (fun b o hb e=>by
    simp only[Qc,V3,or_false,not_or] at hb
    exact c2.extBut b o hb.1 (kz b o hb.1 hb.2.2.1 hb.2.2.2.1 hb.2.2.2.2 e)) (Qf _) ⟨_,c2.extBut _ _ zl p',rfl,_,rfl⟩ (.cons ru (.cons rv .nil)) (show 2<=sizeLine by decide)
  refine⟨.ref s.heap.objs.size,_,I1,rfl,⟨_,x,y,rfl,np,rfl,fun zs hz=>by rw[zDE I hz q1];exact hx,fun zs hz=>by rw[zDE I hz q2];exact hy⟩,g'.fld c1 c2.extBut,fun b hb=>?_⟩
  ·obtain⟨o,e,_⟩:∃ o,s.heap.get? b=some o/\True:=by
    obtain⟨o4,e4,_⟩:=t4.get;obtain⟨o5,e5,_⟩:=t5.get;simp only[Qc,V3,or_false] at hb;rcases hb with rfl | rfl | rfl | rfl | rfl
    ·exact⟨_,t1,trivial⟩
    ·exact⟨_,t2,trivial⟩
    ·exact⟨_,t3,trivial⟩
    ·exact⟨_,e4,trivial⟩
    ·exact⟨_,e5,trivial⟩
   rw[aV (Qt (Heap.lt_size e))];exact(hf b hb).1
 done:=by
  intro X hP hw hK hc i Mi s r H E I hf st hg;subst hP hw hK;obtain⟨xs,ys,q1,q2,hl⟩:=hg;obtain⟨us,r1,s1,z1⟩:=sqI I q1;obtain⟨ws,r2,s2,z2⟩:=sqI I q2;have st':=st;obtain⟨t1,t2,⟨a,b,t3⟩,t4,t5⟩:=st;have e1:=r1.length;have e2:=r2.length;refine zTF (I.ok.hd hc) l1 l2 st' s1 s2 (fun x y f1 f2=>?_) fun _ h' b7=>⟨rfl,zHL (t':=s.toks) I hf fun b o hb e=>?_⟩
  ·have m1:=(Qae.mp f1).1
   have m2:=(Qae.mp f2).1;rw[Ql] at m1 m2;omega
  ·simp only[Qc,V3,or_false,not_or] at hb
   exact b7 b o hb.1 hb.2.2.1 hb.2.2.2.1 hb.2.2.2.2 e
 self:=fun _ _ _ _ _ st h=>wpAny_pyIter_zip st.1 h
abbrev eO(n:Jc):Obj:={ cls:=.type "enumerate", data:=.fields #[.none,.bool false,.ref n,rawInt 0,.none,.none] }
def zIa(k:Bool)(l:Jc)(xs:Array Ja):Meets (Builtin.«enumerate.__new__» ⟨[.type "enumerate", .ref l],[]⟩) (fun _ R s=>tX k s.heap l xs/\
  R (.ok (.ret (.ref (s.heap.push (zO k l)).objs.size))) { s with heap:=(s.heap.push (zO k l)).push (eO s.heap.objs.size) }):=
 .of_wp fun prog w A R s h=>by
  cases s with | mk hp g d tk os=>
  have d1:tX k (Shared.heap ⟨hp,g,d,tk,os⟩) l xs:=h.1;have fin:=h.2;have hsub:=sub_enumerate;obtain⟨ob,ho⟩:∃ ob,hp.get? l=some ob:=by cases k<;>(obtain⟨o,e,_⟩:=d1;exact⟨o,e⟩)
  clear h;wp_walk using AutoSeq1.wpAny_loadPart' ho
  refine wpAny_stack_any fun st=>Ju ?_
  split
  ·rename_i c _ _ _ _ _
   cases (c==Value.type "enumerate")<;>(wp_walk using AutoSeq1.wpAny_loadPart' ho,zQ d1;exact⟨_,rfl,fin⟩)
  ·wp_walk using AutoSeq1.wpAny_loadPart' ho,zQ d1
   exact⟨_,rfl,fin⟩
def zHv{prog:Jf}{w:Jg}{A:Jh}{E:Ja->Jb->Prop}{s:Jb}{k:Bool}{l:Jc}{xs:Array Ja}{Q:Ja->Jb->Prop}(sq:tX k s.heap l xs)
  (h:∀ h2,IsEnum h2 (s.heap.objs.size+1) s.heap.objs.size 0 .none->zDc k h2 s.heap.objs.size l 0->(∀ c o,s.heap.get? c=some o->h2.get? c=some o)->Q (.ref (s.heap.objs.size+1)) { s with heap:=h2 }):
  wpAny (model prog w) A (call (.type "enumerate") [.ref l]) Q E s:=by
 refine callType_new F.called_enumerate (by decide) (F.typeCall_enumerate_1 _) (F.newCall_enumerate_1 _) (fun obj=>F.args_object_init_2 obj _) F.entry_enumerate_new (zIa k l xs) ⟨sq,?_⟩
 have m1:(s.heap.push (zO k l)).objs.size=s.heap.objs.size+1:=Heap.size_push ..;have r0:((s.heap.push (zO k l)).push (eO s.heap.objs.size)).get? s.heap.objs.size=some (zO k l):=Heap.get?_push_of_some _ (Heap.get?_push_size _ rfl);have r1:((s.heap.push (zO k l)).push (eO s.heap.objs.size)).get? (s.heap.push (zO k l)).objs.size=some (eO s.heap.objs.size):=Heap.get?_push_size _ rfl;show _/\_
 rw[m1] at r1 ⊢
 exact⟨⟨_,r1,rfl⟩,h _ r1 (.mk r0 rfl rfl) fun c o x=>Heap.get?_push_of_some _ (Heap.get?_push_of_some _ x)⟩
def Ite(K:PySem.W.Frag)(k:Bool)(a:Jc):It:=
  ⟨fun i H=>∃ xs x,SqK k K H a xs/\xs[i]?=some x,
   fun i H v H'=>∃ p x,v=.ref p/\H p=none/\H'=upd H p (.tup [.int i,x])/\∀ xs,SqK k K H a xs->xs[i]?=some x,
   fun i H=>∃ xs,SqK k K H a xs/\xs.length<=i⟩
def EnS(k:Bool)(a n:Jc)(i:Nat)(h:Je):Prop:=(∃ old,IsEnum h (n+1) n i old)/\zDc k h n a i
def zIB{P:Jf}{w:Jg}{K:Fg_}{elts:List Expr}{x1:Nat}{tp:Pos}(k:Bool)(a n:Jc)(l1:a<n):
  Turn P w K (.Tuple elts x1 tp) (Ite K k a) [n+1,n] (n+1) (EnS k a n) where
 mem:=by simp
 obj:=fun i h st b hb=>by
  obtain⟨⟨old,t1⟩,t2⟩:=st;obtain⟨o4,e4,_,d4⟩:=t2.get;simp only[Qc,V3,or_false] at hb;rcases hb with rfl | rfl
  ·exact oT t1 rfl fun v z=>by cases z
  ·exact oT e4 d4 fun v z=>by cases z
 keep:=fun i h h' st k=>by
  obtain⟨⟨old,t1⟩,t2⟩:=st;exact⟨⟨old,k _ (by simp) _ t1⟩,t2.go fun o e=>k _ (by simp) o e⟩
 item:=by
  intro X hP hw hK hc i Mi s r H E I hf st hg;subst hP hw hK;obtain⟨xs,x,q1,hx⟩:=hg;obtain⟨us,r1,s1,z1⟩:=sqI I q1;obtain⟨u,hu,ru⟩:=r1.get hx;obtain⟨⟨old,t1⟩,t2⟩:=st;have hi:i<us.toArray.size:=by simpa using (Qy.mp hu).1
  have en:n+1∉[n,a]:=fun z=>by
   rcases Qc.mp z with z | z
   ·exact Wl n z
   ·exact Ym (Xo l1) (Qr.mp z)
  have D:=zRG (prog:=X.prog) (w:=X.w) (A:=X.A.in1) (k:=k) (I.ok.hd hc) n a (Qt l1) us.toArray;refine wpAny_pyNext_enum_itemD D t1 ⟨t2,s1⟩ hi (Wl n) en fun v h' tk b0 b1 b2 b3 _ b7=>⟨_,rfl,wpAny_letOwnedTupleGo_enum (s:={ s with heap:=h',toks:=tk+1 }) b1 fun h'' c1 c2=>?_⟩
  have hv:v=u:=by
   have:us.toArray[i]?=some u:=by simpa using hu
   rw[this] at b0;cases b0;rfl
  subst hv;have zl:s.heap.objs.size≠n+1:=Ym (Heap.lt_size t1);have np:H s.heap.objs.size=none:=I.hok.fresh (Qf _)
  have I1:Inv X Mi r (upd H s.heap.objs.size (.tup [.int i,x])) { s with heap:=h'',toks:=tk+1 }:=zHh (us:=[.int i tk,v]) I hf (fun b o hb e=>by
    simp only[Qc,V3,or_false,not_or] at hb
    exact c2.extBut b o hb.1 (b7 b o hb.1 hb.2 e)) (Qf _) ⟨_,c2.extBut _ _ zl b3,rfl,_,rfl⟩ (.cons ⟨_,rfl⟩ (.cons ru .nil)) (show 2<=sizeLine by decide)
  refine⟨.ref s.heap.objs.size,_,I1,rfl,⟨_,x,rfl,np,rfl,fun zs hz=>by rw[zDE I hz q1];exact hx⟩,⟨⟨v,by simpa using c1⟩,b2.1.go fun o e=>c2.extBut _ o (Qt (Vy n)) e⟩,fun b hb=>?_⟩
  obtain⟨o,e,_⟩:∃ o,s.heap.get? b=some o/\True:=by
   obtain⟨o4,e4,_⟩:=t2.get;simp only[Qc,V3,or_false] at hb;rcases hb with rfl | rfl
   ·exact⟨_,t1,trivial⟩
   ·exact⟨_,e4,trivial⟩
  rw[aV (Qt (Heap.lt_size e))];exact(hf b hb).1
 done:=by
  intro X hP hw hK hc i Mi s r H E I hf st hg;subst hP hw hK;obtain⟨xs,q1,hl⟩:=hg;obtain⟨us,r1,s1,z1⟩:=sqI I q1;obtain⟨⟨old,t1⟩,t2⟩:=st;have e1:=r1.length;have hT:s.TypeIs (.ref (n+1)) "enumerate" := ⟨_,t1,rfl⟩;unfold pyNext;refine Jr (wpAny_attempt (wpAny_callSpecial?_slot (name:=Str.ofString "__next__") hT F.slot_enumerate_next (wpAny_call_entry F.slot_enumerate_next hT F.entry_enumerate_next ?_ (F.args_enumerate_next_1 _))))
  show wpAny _ _ (field (.ref (n+1)) 2 >>= _) _ _ _
  refine Jr (wpAny_field t1 rfl (x:=.ref n) rfl ?_)
  refine Jr (zEZ (I.ok.hd hc) t2 s1 (by simp;omega) fun h' x he' hx'=>?_)
  obtain⟨o,ho,hc⟩:=hx';refine Jr (wpAny_isInstance (T := "StopIteration") (b:=true) ⟨o,ho,hc⟩ isSubtype_stop ?_)
  refine Ju ⟨rfl,zHL (t':=s.toks) I hf fun b o hb e=>?_⟩
  simp only[Qc,V3,or_false,not_or] at hb;exact he' b o hb.2 e
 self:=fun _ _ _ _ _ st h=>Me st.1.choose_spec h
section
unseal PEd PEf PTd PWd PAd PSd eN POd PGd jG PId PSx mD PTs PCd PCf
variable{X:Cx}{G:Gx}{fs:Fv}{f:Ev}
def iZp(K:PySem.W.Frag)(ta:TA):TI:=fun c H R=>ta c H fun vs H1=>∃ k1 k2 a1 a2 xs ys,vs=[.ref a1,.ref a2]/\SqK k1 K H1 a1 xs/\SqK k2 K H1 a2 ys/\R (Itz K k1 k2 a1 a2) H1
def zRi{a b:Expr}{ta:TA}{p pos:Pos}{elts:List Expr}{x1:Nat}{tp:Pos}(hg:Gl X "zip")(hm:X.mg "zip" = none)(ha:PA X [a,b] ta)
  (hs:starEach [a,b] X.env=[(false,eval a X.env),(false,eval b X.env)]:=by rfl) (hs2:starEach [b] X.env=[(false,eval b X.env)]:=by rfl):PI X (.Tuple elts x1 tp) (.Call (.Name "zip" p) [a,b] [] pos) (iZp X.K ta):=by
 intro Mi s c H R I h;refine Call_ (nQ I hg hm boot_zip (X4 (thn (ha pos Mi s c H _ I h) fun us s1 ⟨vs,H1,I1,r1,q1⟩=>?_) (by rw[hs,hs2]) (by rw[hs2];rfl)))
 obtain⟨k1,k2,a1,a2,xs,ys,rfl,h1,h2,q⟩:=q1
 cases r1 with
 | cons r rr=>
  cases rr with
  | cons r' rr=>
   cases rr;cases r;cases r'
   obtain⟨us,rv,p1,z1⟩:=sqI I1 h1;obtain⟨ws,rw_,p2,z2⟩:=sqI I1 h2;refine zLB p1 p2 fun h' b1 b6=>wpAny_pyIter_zip (s:={ s1 with heap:=h' }) b1.1 ?_
   refine⟨s1.heap.objs.size+4,_,_,_,H1,rfl,I1.kept (t':=s1.toks) b6,zLM k1 k2 a1 a2 s1.heap.objs.size p1.lt p2.lt,b1,fun b hb=>?_,q⟩
   have hb':s1.heap.objs.size<=b:=by
    simp only[Qc,V3,or_false] at hb;rcases hb with rfl | rfl | rfl | rfl | rfl<;>omega
   exact I1.fpOk hb' (I1.hok.fresh hb')
def zBQ:∀(xs ys:List D)(i:Nat)(d:D),(kL xs ys)[i]?=some d->∃ a b,xs[i]?=some a/\ys[i]?=some b/\d=.tup [a,b]
 | a::r,b::q,0,d,h=>by cases h;exact⟨a,b,rfl,rfl,rfl⟩
 | a::r,b::q,i+1,d,h=>zBQ r q i d h
 | [],_,i,d,h=>by cases i<;>cases h
 | a::r,[],i,d,h=>by cases i<;>cases h
def zBG:∀(xs ys:List D),(kL xs ys).length=min xs.length ys.length
 | a::r,b::q=>by
  have:=zBG r q
  simp only[kL,Qn,this];omega
 | [],_=>by simp[kL]
 | a::r,[]=>by simp[kL]
def zJk{K:Fg_}{Hi:Hp}{k1 k2:Bool}{a1 a2:Jc}{xs ys:List V}{ds es:List D}(h1:SqK k1 K Hi a1 xs)(h2:IsDs K Hi xs ds)(h3:SqK k2 K Hi a2 ys)(h4:IsDs K Hi ys es):
  wD K Hi (Itz K k1 k2 a1 a2) (kL ds es):=fun Hi1 H1 s1 s2 i=>by
 have g1:=qE (s1.trans s2) h1;have g3:=qE (s1.trans s2) h3;refine⟨fun hl=>⟨xs,ys,g1,g3,?_⟩,fun d hd=>?_⟩
 ·rw[zBG] at hl
  have e1:=h2.length;have e2:=h4.length;omega
 ·obtain⟨a,b,ha,hb,rfl⟩:=zBQ ds es i d hd
  obtain⟨v,hv,rv⟩:=h2.at ha;obtain⟨w,hw,rw_⟩:=h4.at hb;refine⟨⟨xs,ys,v,w,g1,g3,hv,hw⟩,fun x H2 y=>?_⟩
  obtain⟨p,x',y',rfl,hp,rfl,y1,y2⟩:=y;have e1:=y1 xs g1;have e2:=y2 ys g3;rw[hv] at e1;cases e1
  rw[hw] at e2;cases e2
  have hi:=s2.none hp;have sm:=cJ hi (.tup [v,w]);exact⟨upd Hi1 p (.tup [v,w]),Ext.new s2 hp,.tup (.inl (.inl aR)) (.cons ((rv.mono s1).mono sm) (.cons ((rw_.mono s1).mono sm) .nil))⟩
def zTJ{K:Fg_}{H:Hp}{v:V}{d:D}{ds:List D}(h:IsD K H v d)(e:zKn d=some ds):∃ k a xs,v=.ref a/\SqK k K H a xs/\IsDs K H xs ds:=by
 cases d with
 | lst es=>cases e;obtain⟨a,xs,rfl,h1,h2⟩:=h.lstI;exact⟨true,a,xs,rfl,h1,h2⟩
 | tup es=>cases e;obtain⟨a,xs,rfl,h1,h2⟩:=h.tupI;exact⟨false,a,xs,rfl,h1,h2⟩
 | _=>cases e
def zHT{a b:Expr}{p pos:Pos}{elts:List Expr}{x1:Nat}{tp:Pos}(hg:Gl X "zip")(hm:X.mg "zip" = none)(ha:PAd X G [a,b] fs)
  (hs:starEach [a,b] X.env=[(false,eval a X.env),(false,eval b X.env)]:=by rfl) (hs2:starEach [b] X.env=[(false,eval b X.env)]:=by rfl):
  PId X G (.Tuple elts x1 tp) (.Call (.Name "zip" p) [a,b] [] pos) (zMm fs):=PI.wk (zRi hg hm ha hs hs2) fun c H Q q=>by
 obtain⟨ρ,Hi,R,ou⟩:=q;refine zKs R ou fun vs ds Hi1 H1 e1 R1 r1 o1=>?_
 split at o1
 ·rename_i x y
  obtain⟨v,w,rfl,h,h'⟩:=r1.two;split at o1
  ·rename_i ds es q1 q2
   obtain⟨k1,a1,xs,rfl,g1,g2⟩:=zTJ h q1;obtain⟨k2,a2,ys,rfl,g3,g4⟩:=zTJ h' q2;exact⟨k1,k2,a1,a2,xs,ys,rfl,qE R1.s g1,qE R1.s g3,o1.here R1.s _ (zJk g1 g2 g3 g4)⟩
  ·exact o1.elim
 ·exact o1.elim
def iEn(K:PySem.W.Frag)(ta:TA):TI:=fun c H R=>ta c H fun vs H1=>∃ k a xs,vs=[.ref a]/\SqK k K H1 a xs/\R (Ite K k a) H1
def zOr{a:Expr}{ta:TA}{p pos:Pos}{elts:List Expr}{x1:Nat}{tp:Pos}(hg:Gl X "enumerate")(hm:X.mg "enumerate" = none)(ha:PA X [a] ta)(hs:starEach [a] X.env=[(false,eval a X.env)]:=by rfl):
  PI X (.Tuple elts x1 tp) (.Call (.Name "enumerate" p) [a] [] pos) (iEn X.K ta):=by
 intro Mi s c H R I h;refine Call_ (nQ I hg hm boot_enumerate (X4 (thn (ha pos Mi s c H _ I h) fun us s1 ⟨vs,H1,I1,r1,q1⟩=>?_) hs rfl))
 obtain⟨k,t,xs,rfl,hq,q⟩:=q1
 cases r1 with
 | cons r rr=>
  cases rr;cases r;obtain⟨its,rv,pt,hz⟩:=sqI I1 hq;refine zHv pt fun h' b1 b2 b6=>Me (s:={ s1 with heap:=h' }) b1 ?_
  refine⟨s1.heap.objs.size+1,_,_,_,H1,rfl,I1.kept (t':=s1.toks) b6,zIB k t s1.heap.objs.size pt.lt,⟨⟨_,b1⟩,b2⟩,fun b hb=>?_,q⟩
  have hb':s1.heap.objs.size<=b:=by
   simp only[Qc,V3,or_false] at hb;rcases hb with rfl | rfl<;>omega
  exact I1.fpOk hb' (I1.hok.fresh hb')
def zDa:∀(xs:List D)(n i:Nat)(d:D),(pY n xs)[i]?=some d->∃ a,xs[i]?=some a/\d=.tup [.int ((n+i:Nat):Int),a]
 | a::r,n,0,d,h=>by cases h;exact⟨a,rfl,rfl⟩
 | a::r,n,i+1,d,h=>by
  obtain⟨b,h1,h2⟩:=zDa r (n+1) i d h;exact⟨b,h1,by rw[h2];congr 4;omega⟩
 | [],n,i,d,h=>by cases i<;>cases h
def zCo:∀(xs:List D)(n:Nat),(pY n xs).length=xs.length
 | a::r,n=>by simp only[pY,Qn,zCo r (n+1)]
 | [],n=>rfl
def zE{K:Fg_}{Hi:Hp}{k:Bool}{a:Jc}{xs:List V}{ds:List D}(h1:SqK k K Hi a xs)(h2:IsDs K Hi xs ds):wD K Hi (Ite K k a) (pY 0 ds):=fun Hi1 H1 s1 s2 i=>by
 have g1:=qE (s1.trans s2) h1;refine⟨fun hl=>⟨xs,g1,?_⟩,fun d hd=>?_⟩
 ·rw[zCo] at hl
  rw[h2.length];exact hl
 ·obtain⟨a,ha,rfl⟩:=zDa ds 0 i d hd
  obtain⟨v,hv,rv⟩:=h2.at ha;refine⟨⟨xs,v,g1,hv⟩,fun x H2 y=>?_⟩
  obtain⟨p,x',rfl,hp,rfl,y1⟩:=y;have e1:=y1 xs g1;rw[hv] at e1;cases e1
  have hi:=s2.none hp;rw[Xl];exact⟨upd Hi1 p (.tup [.int i,v]),Ext.new s2 hp,.tup (.inl (.inl aR)) (.cons (.int _) (.cons ((rv.mono s1).mono (cJ hi _)) .nil))⟩
def zRC{a:Expr}{p pos:Pos}{elts:List Expr}{x1:Nat}{tp:Pos}(hg:Gl X "enumerate")(hm:X.mg "enumerate" = none)(ha:PEd X G a f)(hst:starEach [a] X.env=[(false,eval a X.env)]:=by rfl):
  PId X G (.Tuple elts x1 tp) (.Call (.Name "enumerate" p) [a] [] pos) (zLA f):=PI.wk (zOr hg hm (eQ ha kZ (by rw[hst];rfl)) hst) fun c H Q q=>by
 obtain⟨ρ,Hi,R,ou⟩:=q;refine zBu R ou fun v d Hi1 H1 e1 R1 r1 o1=>?_
 cases d with
 | lst ds=>
  obtain⟨a,xs,rfl,h1,h2⟩:=r1.lstI;exact⟨true,a,xs,rfl,bY R1.s h1,o1.here R1.s _ (zE (k:=true) h1 h2)⟩
 | tup ds=>
  obtain⟨a,xs,rfl,h1,h2⟩:=r1.tupI;exact⟨false,a,xs,rfl,cC R1.s h1,o1.here R1.s _ (zE (k:=false) h1 h2)⟩
 | _=>exact o1.elim
end
end L3
namespace L3
open PySem PySem.Spec PyProof.Rows L2
unseal PEd PEf PTd PWd PAd PSd eN POd PGd jG PId PSx mD PTs PCd PCf
structure BlkOk2 (X:Cx) (xs:List Str) (scope:Scope):Prop where
 kind:scope.kind=.function
 cell:∀ y∈scope.names,y.2≠.cell
 loc:∀ x∈xs,scope.names.lookup x=some .local
 names:∀ y∈scope.names,y.2=.local->scope.names.lookup y.1=some .local
 fre:∀ p∈scope.names,p.2=.free->X.env.kindOf p.1=some .cell∨X.env.kindOf p.1=some .free
 oth:∀ y∈X.N,scope.names.lookup y≠some .local
def zDi(X:Cx)(xs:List Str)(scope:Scope)(C:Jc)(s₂:Jb)(H₂:Hp)(fp:List Jc):Cx:=
  { prog:=X.prog,w:=X.w,K:=X.K,mg:=X.mg,base:=X.base,A:=X.A,N:=X.N++xs,s₀:=s₂,H₀:=H₂,env:=compEnvC scope (zEv X.env scope.names []) C X.env,outer:=X.stack,stack:=X.stack,
    ex:=fp,fn:=fun _=>false,calm:=X.calm,pn:=X.pn,xe:=fun _ _=>False }
section
variable{X:Cx}{Mi:List (Jc×Obj)}{r:St}{H:Hp}{s₂:Jb}{xs:List Str}{scope:Scope}{fp:List Jc}{D C:Jc}{h₁:Je}
def BlkOk2.cl(B:BlkOk2 X xs scope)(I:Inv X Mi r H s₂):∀ p∈scope.names,p.2=.free->∃ c,X.env.cells.lookup p.1=some c:=fun p hp e=>I.ok.has p.1 (B.fre p hp e)
def zPL(I:Inv X Mi r H s₂)(B:BlkOk2 X xs scope)(hfp:∀ b∈fp,tN X Mi H b)(hfl:∀ b∈fp,b<s₂.heap.objs.size)(hD:s₂.heap.objs.size<=D)(hC:s₂.heap.objs.size<=C)(hDC:D≠C)
  (old:∀ b o,s₂.heap.get? b=some o->h₁.get? b=some o) {n:Nat} (hacc:h₁.get? D=some { cls:=.type "list", data:=.seq ([]:List Ja).toArray n }) {m:Str->Option Ja} (hns:h₁.Ns C m) (t:Nat):
  Inv (zDi X xs scope C s₂ H fp) Mi (r++xs.map fun _=>none) (upd H D (.lst [])) { s₂ with heap:=h₁,toks:=t }:=by
 have sub:=uH scope.names [] (B.cl I) (fun y c e=>nomatch e)
 have old_lt:∀ {b:Jc} {o:Obj},s₂.heap.get? b=some o->b≠D/\b≠C:=fun e=>⟨Qt (Qs (Heap.lt_size e) hD),Qt (Qs (Heap.lt_size e) hC)⟩
 have free:∀ {b:Jc},b≠D->H b=none->upd H D (.lst []) b=none:=fun n e=>by rw[aV n];exact e
 refine⟨⟨I.ok.mod,B.kind,I.ok.glob,I.ok.blt,hC,fun y z c e1 e2=>I.ok.inj y z c (sub y c e1) (sub z c e2),fun y hy=>?_,fun y c e=>(nomatch e),I.ok.hd,I.ok.frames,.inl rfl,fun b hb=>⟨Qt (Qs (hfl b hb) hC),fun y c e=>(hfp b hb).2.2.2.2.1 y c (sub y c e)⟩,
  I.bs,Q5 I.ok.bsz I.sz,fun b o e hb=>?_,fun b hb z=>?_,I.stack,I.stkFree⟩,rfl,I.bare,Un.laid old hD (I.hok.fresh hD),⟨m,hns,fun i y v e1 e2 e3=>?_⟩,fun y c e=>?_,free (Ne.symm hDC) (I.hok.fresh hC),fun y c e=>?_,fun p hp=>?_,I.hok.laid old hD ⟨Vl _,[],n,.nil,hacc⟩,?_⟩
 ·have:∃ k,(k=NameKind.cell∨k=NameKind.free)/\((relabel scope X.env).names).lookup y=some k:=hy.elim (fun h=>⟨_,.inl rfl,h⟩) fun h=>⟨_,.inr rfl,h⟩
  obtain⟨k,hk,e⟩:=this
  have e':(y,NameKind.free)∈scope.names:=by
   rcases cE e with z | ⟨_,z⟩
   ·rcases hk with rfl | rfl
    ·exact absurd rfl (B.cell _ (bU z))
    ·exact bU z
   ·exact bU z
  exact vG scope.names [] y e'
 ·rcases (hfp b hb).2.2.2.1 with z | z
  ·exact I.ok.noex b o e z
  ·exact absurd (Qs (Heap.lt_size e) (Q5 I.ok.bsz z)) (Vv _)
 ·rcases Qc.mp (I.stkSub b z) with w | w
  ·exact(hfp b hb).2.1 w
  ·exact(hfp b hb).2.2.1 w
 ·
  have hi:i<r.length:=by
   by_cases hi:i<r.length
   ·exact hi
   ·exfalso
    rw[Vh (by omega),Qu] at e2
    cases q:xs[i-r.length]? with
    | none=>rw[q] at e2;cases e2
    | some z=>rw[q] at e2;cases e2
  rw[Vk hi] at e2;have e1':(X.N++xs)[i]?=some y:=e1;rw[Vk (by rw[<-I.len];exact hi)] at e1'
  cases q:X.N[i]? with
  | none=>rw[q] at e1';cases e1'
  | some z=>
   rw[q] at e1';have hy:z=y:=Vj e1';have hz:z∈X.N:=Qj q;subst hy
   have fr:(z,NameKind.free)∈scope.names:=by
    rcases e3 with h | h | h
    ·rcases cE h with h | ⟨h,_⟩
     ·exact absurd h (B.oth z hz)
     ·cases h
    ·rcases cE h with h | ⟨_,h⟩
     ·exact absurd rfl (B.cell _ (bU h))
     ·exact bU h
    ·rcases cE h with h | ⟨h,_⟩
     ·exact bU h
     ·cases h
   have kd:=B.fre _ fr rfl;obtain⟨m0,hn0,hl⟩:=I.loc;obtain⟨u,ru,lk⟩:=hl i z v q e2 (kd.elim (fun h=>.inr (.inl h)) fun h=>.inr (.inr h))
   refine⟨u,ru,.inr ⟨?_,?_⟩⟩
   ·rcases e3 with h | h | h
    ·rcases cE h with h | ⟨h,_⟩
     ·exact absurd h (B.oth z hz)
     ·cases h
    ·exact .inl h
    ·exact .inr h
   ·rcases lk with⟨k1,_⟩ | ⟨_,c,hc,hcell⟩
    ·rcases kd with kd | kd<;>(rw[kd] at k1;cases k1)
    ·obtain⟨c',hc'⟩:=vG (env:=X.env) scope.names [] z fr
     have:=sub z c' hc'
     rw[hc] at this;cases this;obtain⟨o,ho,hd⟩:=hcell;exact⟨c,hc',o,old _ _ ho,hd⟩
 ·obtain⟨v,o,ho,hd⟩:=I.cell y c (sub y c e)
  exact⟨v,o,old _ _ ho,hd⟩
 ·obtain⟨v,o,ho,hd⟩:=I.cell y c (sub y c e)
  exact free (old_lt ho).1 (I.freeC y c (sub y c e))
 ·obtain⟨e,n,ne,nf,d⟩:=I.pin p hp
  refine⟨old _ _ e,free (old_lt e).1 n,(old_lt e).2,fun z=>?_,d⟩
  rcases Qc.mp (I.stkSub _ z) with w | w
  ·exact ne w
  ·exact nf w
 ·show(r++xs.map fun _=>none).length=(X.N++xs).length
  rw[Qi,Qi,Qe,I.len]
end
def zDY{f:Ev}{ρ:Rho}{d:D}{ds es:List D}(h:gD f ρ (d::ds)=.ok es):
  ∃ a b e es',d=.tup [a,b]/\f (ρ++[.val a,.val b])=.ok e/\gD f ρ ds=.ok es'/\es=e::es':=by
 unfold gD at h;split at h
 ·cases ‹_=[]›
 ·rename_i a b ds' q
  cases q
  cases hf:noErr (f (ρ++[.val a,.val b])) with
  | no=>rw[hf] at h;cases h
  | err c=>rw[hf] at h;cases h
  | ok e=>
   rw[hf] at h
   cases hr:gD f ρ ds with
   | no=>simp only[Res.bind,hr] at h;cases h
   | err c=>simp only[Res.bind,hr] at h;cases h
   | ok es'=>
    simp only[Res.bind,hr] at h;cases h;exact⟨a,b,e,es',rfl,zAe hf,rfl,rfl⟩
 ·cases h
def zDd{f:Ev}{ρ:Rho}{c:Str}:∀ {ds:List D},gD f ρ ds≠.err c
 | []=>fun h=>by cases h
 | d::ds=>fun h=>by
  unfold gD at h;split at h
  ·cases ‹_=[]›
  ·rename_i a b ds' q
   cases q
   cases hf:noErr (f (ρ++[.val a,.val b])) with
   | no=>rw[hf] at h;cases h
   | err c=>cases q:f (ρ++[.val a,.val b])<;>(rw[q] at hf;cases hf)
   | ok e=>
    rw[hf] at h
    cases hr:gD f ρ ds with
    | no=>simp only[Res.bind,hr] at h;cases h
    | err c'=>exact zDd hr
    | ok es'=>simp only[Res.bind,hr] at h;cases h
  ·cases h
section
variable{X:Cx}{G:Gx}{elt iter:Expr}{xa xb:Str}{pa pb tp pos:Pos}{x1:Nat}{scope:Scope}{it:Fv}{f:Ev}{k:Nat}
def zGr(hc:X.calm=true/\TB X.K X.mg G.Bi G.B)(hr:Room k X.A)(Bk:BlkOk2 X [xa,xb] scope)(hN:(X.N++[xa,xb]).Nodup)(hi:PId X G (.Tuple [.Name xa pa,.Name xb pb] x1 tp) iter it)
  (hb:∀(C:Jc)(s₂:Jb)(H₂:Hp)(fp:List Jc)(G':Gx),Good (zDi X [xa,xb] scope C s₂ H₂ fp) G' k->PEd (zDi X [xa,xb] scope C s₂ H₂ fp) G' elt f)
  (hs:∀ x,foldedSetIterable iter X.env x=pure x:=by intro _;rfl)
  {Mi:List (Jc×Obj)} {s:Jb} {g:St} {H Hi:Hp} {ρ:Rho} {use:Option (Ja->Sem Unit)} {Q':Ja->Jb->Prop} {Qa:Jc->Hp->Prop} {cpos:Pos} (I:Inv X Mi g H s) (R:lR X G Hi H g ρ)
  (ou:Out G Hi H ((vO it f) ρ) fun ds Hi' H'=>∀ a,zLq X.K H Hi' H' a ds->Qa a H') (hend:zTx X Mi g use Q' Qa):
  wpAny (model X.prog X.w) X.A (comprehension (.ListComp elt [⟨.Tuple [.Name xa pa,.Name xb pb] x1 tp,iter,[],0⟩] scope pos) scope X.env cpos (newList []) false (eval iter X.env) use) Q' X.xe s:=by
 refine Mb (use:=use) rfl hs (zMS (Bk.cl I)) Bk.kind Bk.names ?_
 refine thn (hi Mi s g H (fun J H2=>∃ ds Hi2,Ext Hi H Hi2 H2/\wD X.K Hi2 J ds/\Out G Hi2 H2 (if ds.length<=16777215 then gD f ρ ds else .no) fun ds Hi' H'=>∀ a,zLq X.K H Hi' H' a ds->Qa a H') I
  ⟨ρ,Hi,R,(Out.bind ou).imp fun ds Hi2 H2 e2 o2 J gv=>⟨ds,Hi2,e2,gv,o2⟩⟩) fun v s1 h1=>thn h1 fun itv s2 h2=>?_
 obtain⟨itA,fp,tn,J,H2,rfl,I2,T,st2,f2,ds,Hi2,e2,gv,ou2⟩:=h2
 have hlen:ds.length<=16777215:=by
  by_cases hlen:ds.length<=16777215
  ·exact hlen
  ·rw[Jl hlen] at ou2;exact ou2.elim
 rw[Jk hlen] at ou2
 cases hes:gD f ρ ds with
 | no=>rw[hes] at ou2;exact ou2.elim
 | err c=>exact absurd hes zDd
 | ok es=>
  rw[hes] at ou2;have R2:lR X G Hi2 H2 g ρ:=R.grow e2;refine wpAny_newObj_type (wpAny_newFunctionEnv Bk.cell (by intro y hy;simp at hy) (fun h₁ hns₁ hsb₁=>?_) Bk.kind)
  dsimp only at hns₁ hsb₁ ⊢
  generalize hH2:s2.heap.push { cls:=.type "list", dict:=none,data:=.seq ([]:List Ja).toArray }=HP at hns₁ hsb₁ ⊢;have hC:HP.objs.size=s2.heap.objs.size+1:=by rw[<-hH2,Heap.size_push]
  have hDC:s2.heap.objs.size≠HP.objs.size:=by rw[hC];omega
  have ltC:∀ {b:Jc} {o:Obj},s2.heap.get? b=some o->b≠HP.objs.size:=fun e=>by rw[hC];exact Qt (Xo (Heap.lt_size e))
  have old:∀ b o,s2.heap.get? b=some o->h₁.get? b=some o:=fun b o e=>hsb₁.extBut b o (ltC e) (Heap.get?_push_of_some _ (hH2 ▸ Heap.get?_push_of_some _ e))
  have hacc:h₁.get? s2.heap.objs.size=some { cls:=.type "list", data:=.seq ([]:List Ja).toArray 0 }:=hsb₁.extBut _ _ hDC (Heap.get?_push_of_some _ (hH2 ▸ Heap.get?_push_size _ rfl));have hfl:∀ b∈fp,b<s2.heap.objs.size:=fun b hb=>by obtain⟨o,e,_⟩:=T.obj _ _ st2 b hb;exact Heap.lt_size e
  have IE:=zPL (t:=s2.toks+([]:List (Str×Ja)).length) I2 Bk f2 hfl (Qf _) (by rw[hC];omega) hDC old hacc hns₁
  have sub:=uH scope.names [] (Bk.cl I2) (fun y c e=>nomatch e)
  have H2D:H2 s2.heap.objs.size=none:=I2.hok.fresh (Qf _);have HD:H s2.heap.objs.size=none:=e2.h.none H2D;have Hi2D:Hi2 s2.heap.objs.size=none:=e2.s.none H2D;generalize hX:zDi X [xa,xb] scope HP.objs.size s2 H2 fp=Y at IE
  have GY:Good Y ⟨G.B,G.Bi,fun _ _=>False⟩ k:=by
   subst hX;exact⟨hc.1,hr,fun Mi g H s e s' _ h=>by obtain⟨_,_,_,_,_,c,_,z⟩:=h;exact z.elim,PassesOwn.never,hc.2⟩
  have hel:=(hX ▸ hb HP.objs.size s2 H2 fp ⟨G.B,G.Bi,fun _ _=>False⟩ (hX.symm ▸ GY):PEd Y ⟨G.B,G.Bi,fun _ _=>False⟩ elt f)
  have stat:∀ {H':Hp},(∀ b∈fp,H' b=none)->∀ b∈fp,tN Y Mi H' b:=fun hn b hb=>by
   subst hX;refine⟨hn b hb,?_,fun z=>?_,.inl hb,fun y c e=>(f2 b hb).2.2.2.2.1 y c (sub y c e),(f2 b hb).2.2.2.2.2⟩
   ·show b≠HP.objs.size
    rw[hC];exact Qt (Xo (hfl b hb))
   ·rcases Qc.mp (I2.stkSub b z) with w | w
    ·exact(f2 b hb).2.1 w
    ·exact(f2 b hb).2.2.1 w
  have YN:Y.N.Nodup:=by subst hX;exact hN
  have Ya:Y.N[g.length]?=some xa:=by
   subst hX;show(X.N++[xa,xb])[g.length]?=some xa
   rw[Vh (by rw[I2.len];omega),I2.len,Xp];rfl
  have Yb:Y.N[g.length+1]?=some xb:=by
   subst hX;show(X.N++[xa,xb])[g.length+1]?=some xb
   rw[Vh (by rw[I2.len];omega),I2.len,Nat.add_sub_cancel_left];rfl
  have Yla:Y.env.scope.names.lookup xa=some .local:=by subst hX;exact Mc (Bk.loc xa (by simp))
  have Ylb:Y.env.scope.names.lookup xb=some .local:=by subst hX;exact Mc (Bk.loc xb (by simp))
  have asg:PG Y (.Tuple [.Name xa pa,.Name xb pb] x1 tp) (L2.zGW Y.K 2 (L2.mP (L2.gName g.length) (L2.mP (L2.gName (g.length+1)) L2.zGY))):=
   zMq (by subst hX;exact hc.1) (zX (zEh YN Ya (.inl Yla) (.inr Yla)) (zX (zEh YN Yb (.inl Ylb) (.inr Ylb)) zJa))
  have Ye:Y.env=compEnvC scope (zEv X.env scope.names []) HP.objs.size X.env:=by subst hX;rfl
  have Yxe:∀ e s,¬ Y.xe e s:=by subst hX;exact fun _ _ h=>h
  have tn1:tn 0 h₁:=T.keep _ _ _ st2 fun b _ o e=>old b o e
  have loop:∀ s3:Jb,s3={ s2 with heap:=h₁,toks:=s2.toks+([]:List (Str×Ja)).length }->
    codeAny (model X.prog X.w) X.A (.compLoop (.ListComp elt [⟨.Tuple [.Name xa pa,.Name xb pb] x1 tp,iter,[],0⟩] scope pos) 0 (.ref itA) (.ref s2.heap.objs.size) Y.env) (compPost (model X.prog X.w) X.A X.xe use Q' (.ref s2.heap.objs.size) HP.objs.size) s3:=by
   rintro s3 rfl
   subst hX
   have fr0:∀ b∈fp,upd H2 s2.heap.objs.size (.lst []) b=none:=fun b hb=>by
    rw[aV (Qt (hfl b hb))];exact(f2 b hb).1
   refine PyProof.Rows.LCp.codeAny_compLoop_pair (fun n s'=>∃ c:CW,n=ds.length-c.i/\CS (zDi X [xa,xb] scope HP.objs.size s2 H2 fp) Mi g tn fp Hi2 H2 s2.heap.objs.size 2 (fun i=>gD f ρ (ds.drop i)) es c s') ?_ ds.length
    ⟨⟨0,[none,none],_,Hi2,[],[],es⟩,rfl,⟨IE,rfl,tn1,fr0,(Ext.refl e2.s).trans (Ext.newF e2.s H2D),aR,Hi2D,.nil,Qf _,hes,rfl⟩⟩
   ·rintro n s3 ⟨⟨i,vv,H3,Hi3,ys,done,rest⟩,rfl,I3,wd3,st3,fr3,e3,hD3,hiD3,rd3,hl3,hr3,hes3⟩
    dsimp only at I3 wd3 st3 fr3 e3 hD3 hiD3 rd3 hl3 hr3 hes3 ⊢
    obtain⟨v,v',rfl⟩:∃ v v',vv=[v,v']:=by
     match vv,wd3 with
     | [v,v'],_=>exact⟨v,v',rfl⟩
    obtain⟨w1,w2⟩:=gv Hi3 H3 e3.i e3.s i;have lift:∀ {j:Type} {m:Sem j} {Q':j->Jb->Prop} {E:Ja->Jb->Prop} {s':Jb},wpAny (model X.prog X.w) X.A m Q' (zDi X [xa,xb] scope HP.objs.size s2 H2 fp).xe s'->wpAny (model X.prog X.w) X.A m Q' E s':=fun h=>wpAny_mono h (fun _ _ z=>z) fun e s z=>(Yxe e s z).elim
    by_cases hlt:i<ds.length
    ·obtain⟨d,hd⟩:∃ d,ds[i]?=some d:=⟨_,Qq hlt⟩
     obtain⟨go,yl⟩:=w2 d hd
     have e4:ds.drop i=d::ds.drop (i+1):=by
      rw[Qq hlt] at hd;cases hd;exact Uc hlt
     rw[e4] at hr3;refine thn (T.item (zDi X [xa,xb] scope HP.objs.size s2 H2 fp) rfl rfl rfl hc.1 i Mi s3 _ H3 _ I3 (stat fr3) st3 go) fun r s4 ⟨u,hru,h4⟩=>?_
     subst hru;refine thn h4 fun _ s5 h5=>?_
     obtain⟨xv,H5,I5,r5,y5,st5,fr5⟩:=h5;obtain⟨Hi5,e5,rd5⟩:=yl xv H5 y5;have I5':=I5.pinned (stat fr5) (T.obj _ _ st5);obtain⟨a,b,e,es',rfl,hf,hr4,hee⟩:=zDY hr3;obtain⟨pa',ps,rfl,hq,hps⟩:=rd5.tupI;obtain⟨va,vb,rfl,ra,rb⟩:=hps.two;refine lift (thn (asg _ s5 _ H5 _ u (fun g' H'=>g'=g++[some va,some vb]/\H'=H5) I5' r5 ⟨pa',_,rfl,cC (e3.trans e5).s hq,rfl,va,_,rfl,vb,_,rfl,rfl,?_,rfl⟩) fun _ s6 h6=>?_)
     ·rw[Wj _ _ (Qf _),Xp,Wj _ _ (Nat.le_succ _),Nat.succ_sub (Qf _),Xp];rfl
     obtain⟨g6,H6,I6,rfl,rfl⟩:=h6;have E5:Ext Hi2 H2 Hi5 H6:=e3.trans e5
     have R5:lR (zDi X [xa,xb] scope HP.objs.size s2 H2 fp) ⟨G.B,G.Bi,fun _ _=>False⟩ Hi5 H6 (g++[some va,some vb]) (ρ++[.val a,.val b]):=by
      have:=Rel.snoc (Rel.snoc (R2.grow E5) ra) rb
      rw[Vr,Vr] at this;exact this
     obtain⟨hD5,hiD5⟩:=e5.out hD3 hiD3;have rd5':=rd3.mono e5.i
     have again:∀ {H8 Hi8:Hp} {ys':List V} {done' rest':List D} {s8:Jb},Inv (zDi X [xa,xb] scope HP.objs.size s2 H2 fp) (Mi++vY fp s5.heap) (g++[some va,some vb]) H8 s8->Ext Hi2 H2 Hi8 H8->H8 s2.heap.objs.size=some (.lst ys')->Hi8 s2.heap.objs.size=none->IsDs X.K Hi8 ys' done'->done'.length<=i+1->
       gD f ρ (ds.drop (i+1))=.ok rest'->es=done'++rest'->∃ m,m<ds.length-i/\∃ c:CW,m=ds.length-c.i/\CS (zDi X [xa,xb] scope HP.objs.size s2 H2 fp) Mi g tn fp Hi2 H2 s2.heap.objs.size 2 (fun i=>gD f ρ (ds.drop i)) es c s8:=fun {H8 Hi8 ys' done' rest' s8} I8 E8 a1 a2 a3 a4 a5 a6=>by
      refine⟨ds.length-(i+1),by omega,⟨i+1,[some va,some vb],H8,Hi8,ys',done',rest'⟩,rfl,⟨I8.unpinned,rfl,T.keep _ _ _ st5 fun b hb o e=>(I8.pin (b,o) (Qx _ (Qx _ (fN hb e)))).1,fun b hb=>?_,E8,a1,a2,a3,a4,a5,a6⟩⟩
      obtain⟨o,e,_⟩:=T.obj _ _ st5 b hb;exact(I8.pin (b,o) (Qx _ (Qx _ (fN hb e)))).2.1
     refine lift (thn (hel _ s6 _ H6 (fun w H'=>∃ Hi',Ext Hi5 H6 Hi' H'/\IsD X.K Hi' w e) I6 ⟨_,Hi5,R5,by rw[hf];exact fun Hi' H' ee w hw=>⟨Hi',ee,hw⟩⟩) fun u8 s8 h8=>?_)
     obtain⟨w8,H8,I8,r8,Hi8,e8,rw8⟩:=h8;obtain⟨hD8,hiD8⟩:=e8.out hD5 hiD5;have rdy:IsDs X.K Hi8 ys done:=rd5'.mono e8.i;refine lift (thn (uT (X:=(zDi X [xa,xb] scope HP.objs.size s2 H2 fp)) _ s8 _ H8 (.ref s2.heap.objs.size) [w8] (.ref s2.heap.objs.size) [u8] (fun _ H'=>H'=upd H8 s2.heap.objs.size (.lst (ys++[w8]))) I8 rfl (.cons r8 .nil) ⟨_,ys,w8,rfl,rfl,hD8,?_,rfl⟩) fun _ s9 h9=>?_)
     ·rw[rdy.length]
      exact Xv hl3 (Qs hlt (Q5 hlen (by decide)))
     ·obtain⟨_,H9,I9,_,rfl⟩:=h9
      refine again I9 (Ext.rewrite (E5.trans e8) H2D hiD8 ⟨_,hD8⟩) aR hiD8 (rdy.snoc rw8) (by rw[Qi];exact Y8 hl3) hr4 ?_
      rw[hes3,hee,Vr];rfl
    ·rw[Y7 (by omega),gD] at hr3
     cases hr3;refine thn (T.done (zDi X [xa,xb] scope HP.objs.size s2 H2 fp) rfl rfl rfl hc.1 i Mi s3 _ H3 _ I3 (stat fr3) st3 (w1 (by omega))) fun r s4 ⟨hrn,I4⟩=>?_
     subst hrn;obtain⟨m4,hn4,_⟩:=I4.loc;have fC:H3 HP.objs.size=none:=I4.free;have nC:∀ b u,H3 b=some u->b≠HP.objs.size:=fun b u e z=>by rw[z,fC] at e;cases e
     have U4:=I4.base;refine hend HP.objs.size s2.heap.objs.size m4 s4 H3 hn4 (fun h' hs'=>?_) (I2.fpOk (by rw[hC];omega) fC) ?_
     ·have kp:∀ b o,b≠HP.objs.size->s4.heap.get? b=some o->h'.get? b=some o:=fun b o hb e=>hs'.extBut b o hb e
      refine Inv.call' I2 (ch:=fp) I4.os ⟨fun b o e n hb hx=>kp b o (ltC e) (U4.keep b o e n hb hx),fun b o e n hb hx=>?_,U4.free,fun b o e hx=>?_,U4.tups,U4.frzs,U4.tbls⟩ (fun b u e=>?_) I4.bare (fun b hb=>⟨(f2 b hb).2.2.2.1,(f2 b hb).2.1,(f2 b hb).2.2.2.2.1,(f2 b hb).2.2.2.2.2⟩)
      ·obtain⟨sl,q⟩:=U4.slot b o e n hb hx
       exact⟨sl,kp b _ (ltC e) q⟩
      ·obtain⟨o',q⟩:=U4.there b o e hx
       exact⟨o',kp b _ (ltC e) q⟩
      ·refine(I4.hok b u e).stay (fun c v hc q=>kp c v ?_ q) (fun _ q=>q) fun _ _ q=>q
       rcases hc with z | z
       ·rw[z];exact nC b u e
       ·exact nC c _ z
     ·refine ou2 Hi3 H3 e3 _ ⟨HD,hiD3,ys,hD3,?_⟩
      rw[hes3,Vf];exact rd3
  rw[Ye] at loop;exact Md (loop _ rfl) (T.self _ 0 _ _ _ tn1 (loop _ rfl))
def zLe(hc:X.calm=true/\TB X.K X.mg G.Bi G.B)(hr:Room k X.A)(Bk:BlkOk2 X [xa,xb] scope)(hN:(X.N++[xa,xb]).Nodup)(hi:PId X G (.Tuple [.Name xa pa,.Name xb pb] x1 tp) iter it)
  (hb:∀(C:Jc)(s₂:Jb)(H₂:Hp)(fp:List Jc)(G':Gx),Good (zDi X [xa,xb] scope C s₂ H₂ fp) G' k->PEd (zDi X [xa,xb] scope C s₂ H₂ fp) G' elt f)
  (hs:∀ x,foldedSetIterable iter X.env x=pure x:=by intro _;rfl):PEf X G (.ListComp elt [⟨.Tuple [.Name xa pa,.Name xb pb] x1 tp,iter,[],0⟩] scope pos) (vO it f):=by
 intro Mi s g H Q I w;obtain⟨ρ,Hi,R,ou⟩:=w;rw[eval_ListComp];refine zGr hc hr Bk hN hi hb hs (use:=none) (Qa:=fun a H'=>Q (.ref a) H') I R ou fun C A m s4 H3 hn hI _ q=>?_
 exact⟨m,hn,fun h' hs'=>⟨.ref A,H3,hI h' hs',rfl,q⟩⟩
def zOB(sc:Scope)(N:List Str)(xs:List Str)(scope:Scope):Bool:=
 scope.names.all (fun y=>y.2 != .cell) && xs.all (fun x=>scope.names.lookup x==some .local) && scope.names.all (fun y=>y.2 != .local || scope.names.lookup y.1==some .local)
  && scope.names.all (fun p=>p.2 != .free || (sc.names.lookup p.1==some .cell || sc.names.lookup p.1==some .free)) && N.all (fun y=>scope.names.lookup y != some .local)
def zOe{sc:Scope}{N xs:List Str}(hk:scope.kind=.function)(hsc:X.env.scope=sc)(hN:X.N=N)(h:zOB sc N xs scope=true):BlkOk2 X xs scope:=by
 unfold zOB at h;simp only[V8] at h;obtain⟨⟨⟨⟨h1,h2⟩,h3⟩,h4⟩,h5⟩:=h;subst hN hsc;refine⟨hk,fun y hy e=>?_,fun x hx=>?_,fun y hy e=>?_,fun p hp e=>?_,fun y hy e=>?_⟩
 ·have:=Xg.mp h1 y hy
  rw[e] at this;cases this
 ·exact beq_iff_eq.mp (Xg.mp h2 x hx)
 ·have:=Xg.mp h3 y hy
  rw[e] at this;simpa using this
 ·have:=Xg.mp h4 p hp
  rw[e] at this;have q:X.env.scope.names.lookup p.1=some .cell∨X.env.scope.names.lookup p.1=some .free:=by simpa using this
  exact q
 ·have:=Xg.mp h5 y hy
  rw[e] at this;cases this
def uF{sc:Scope}{N:List Str}(W:Good X G k)(hnd:(N++[xa,xb]).Nodup)(hk:scope.kind=.function)(hsc:X.env.scope=sc)(hN:X.N=N)(h:zOB sc N [xa,xb] scope=true)(hi:PId X G (.Tuple [.Name xa pa,.Name xb pb] x1 tp) iter it)
  (hb:∀(C:Jc)(s₂:Jb)(H₂:Hp)(fp:List Jc)(G':Gx),Good (zDi X [xa,xb] scope C s₂ H₂ fp) G' k->PEd (zDi X [xa,xb] scope C s₂ H₂ fp) G' elt f)
  (hs:∀ x,foldedSetIterable iter X.env x=pure x:=by intro _;rfl):PEf X G (.ListComp elt [⟨.Tuple [.Name xa pa,.Name xb pb] x1 tp,iter,[],0⟩] scope pos) (vO it f):=
 zLe ⟨W.calm,W.tb⟩ W.room (zOe hk hsc hN h) (hN ▸ hnd) hi hb hs
end
end L3
namespace L3
open PySem PySem.Spec PyProof.Rows L2
section
variable{X:Cx}{G:Gx}{fs:Fv}{f:Ev}
unseal PEd PEf PTd PWd PAd PSd eN POd PGd jG PId PSx mD PTs PCd PCf
end
end L3
namespace L3
open PySem PySem.Spec PyProof.Rows L2
unseal PEd PEf PTd PWd PAd PSd eN POd PGd jG PId PSx mD PTs PCd PCf
local macro_rules | `(⋯)=>`(by omega)
section
variable{prog:Jf}{w:Jg}{A:Jh}{E:Ja->Jb->Prop}{s:Jb}
def zBk{r:Jc}{a b c:Int}{t u v:Tok}{n:Nat}{R:List Ja->Jb->Prop}(hh:A.handled=none)(hr:IsRange s.heap r a b c t u v)(hsmall:Builtin.Range.small a b c=true)(hn:Builtin.Range.rangeSize a b c=n)(hlen:n<=2^24)
  (h:∀ h' tk acc,(∀ b o,s.heap.get? b=some o->h'.get? b=some o)->s.heap.objs.size<=h'.objs.size->ItemsOf (fun i v=>∃ t,v=.int (a+i*c) t) acc n->R acc.toList { s with heap:=h',toks:=tk }):
  wpAny (model prog w) A (collect (.ref r)) R E s:=by
 unfold collect;refine Jr (wpAny_runValue (codeAny_builtin entry_proto_collect' ?_))
 rw[Around.under_plainId PySem.F.plain_proto_collect _];show wpAny _ A.in1 (newList [] >>= fun l=>again (.builtin "list.__iadd__" ⟨[l,.ref r],[]⟩)) _ _ s
 refine Jr (wpAny_newObj_type ?_)
 refine Ju ⟨plainId_quiet Qaf _,codeAny_builtin entry_list_iadd' ?_⟩
 rw[Around.under_plainId Qaf _];have hS₁:(s.heap.push { cls:=.type "list", data:=.seq ([]:List Ja).toArray }).get? s.heap.objs.size=some { cls:=.type "list", data:=.seq #[] }:=Heap.get?_push_size _ rfl;show wpAny _ A.in1 (Builtin.List.listExtendWith (.ref s.heap.objs.size) (.ref r) (.ref s.heap.objs.size)) _ _ _
 have key:=wpAny_extend_range (prog:=prog) (w:=w) (A:=A) (s:={ s with heap:=s.heap.push { cls:=.type "list", data:=.seq ([]:List Ja).toArray } })
  (R:=fun(q:Result) (s':Jb)=>∃(h':Je)(tk:Nat)(acc':Array Ja)(c':Nat),q=.ok (.ret (.ref s.heap.objs.size))/\s'={ s with heap:=h',toks:=tk }/\
   (∀ b o,s.heap.get? b=some o->h'.get? b=some o)/\h'.get? s.heap.objs.size=some { cls:=.type "list", dict:=none,data:=.seq acc' c',slots:=#[] }/\ItemsOf (fun i v=>∃ t,v=.int (a+i*c) t) acc' n)
  hh (Heap.get?_push_of_some _ hr) hsmall hn hlen s.heap.objs.size (.ref s.heap.objs.size) 0 hS₁
  (fun h' tk acc' c' hk hS' hacc=>⟨h',tk,acc',c',rfl,rfl,fun b o e=>hk b o (Qt (Heap.lt_size e)) (Heap.get?_push_of_some _ e),hS',hacc⟩)
 refine wpAny_mono key (fun fin s' x=>?_) fun e s' x=>?_
 ·cases fin with
  | done f=>
   obtain⟨h',tk,acc',c',e,rfl,hk,hS',hacc⟩:=x;cases e;show wpAny _ A (load s.heap.objs.size >>= _) _ _ _
   refine Jr (wpAny_load hS' ?_)
   exact Ju (h h' tk acc' hk (Xj (Heap.lt_size hS')) hacc)
  | again c₁=>
   refine⟨x.1,codeAny_mono x.2 fun q s₂ y=>?_⟩
   obtain⟨h',tk,acc',c',rfl,rfl,hk,hS',hacc⟩:=y;show wpAny _ A (load s.heap.objs.size >>= _) _ _ _
   refine Jr (wpAny_load hS' ?_)
   exact Ju (h h' tk acc' hk (Xj (Heap.lt_size hS')) hacc)
 ·obtain⟨_,_,_,_,e',_⟩:=x
  cases e'
end
section
variable{X:Cx}{Mi:List (Jc×Obj)}{σ:St}{H:Hp}{s:Jb}{A:Jh}{E:Ja->Jb->Prop}{a kS:Jc}{vs:List Ja}{kz:List Int}{keys:Array Ja}{e e1:Nat}{P:PySem.Fin->Jb->Prop}
def pT{h':Je}{tk:Nat}(f:tN X Mi H a)(I:Inv X Mi σ H s)(sb:Heap.SameBut a s.heap h'):Inv X Mi σ H { s with heap:=h',toks:=tk }:=by
 obtain⟨f0,f1,f2,f3,f4,f5⟩:=f;exact I.turned (fun b o hb e=>(sb.2 b hb).trans e) f0 f1 f3 f4 f5
def zHV{st:SortSt}(I:Inv X Mi σ H s)(fa:tN X Mi H a)(fk:tN X Mi H kS)(hka:kS≠a)(nk:s.heap.get? kS=some (seqObj "list" keys e))(na:s.heap.get? a=some (seqObj "list" #[] e1))
  (hk:IntsAre keys.toList kz) (hlen:kz.length=vs.length) (h64:vs.length<64) (hp:(arrOf st).Perm (keys.zip vs.toArray)) (hs:SortedTo (arrOf st) (arrOf st).size) (hfl:failedOf st=none)
  (h:∀ s' out c,Inv X Mi σ H s'->s'.heap.get? a=some (seqObj "list" out c)->KskOut false kz vs out.toList->P (.done (.ret .none)) s'):
  wpAny (model X.prog X.w) A (ksk_tail a false e1 (.ref kS) st) P E s:=by
 have hsz:keys.size=vs.length:=by
  have h1:=hk.length;rw[X3] at h1;omega
 have hsz2:(arrOf st).size=vs.length:=by rw[hp.size_eq,Array.size_zip,hsz,Ql,Ub]
 have hout:((arrOf st).map (·.2)).size=vs.length:=by rw[Array.size_map];exact hsz2
 have s1:=Heap.SameBut.update s.heap kS (Obj.mapSeq fun _=>(#[]:Array Ja))
 have na1:(s.heap.update kS (Obj.mapSeq fun _=>(#[]:Array Ja))).get? a=some (seqObj "list" #[] e1):=(s1.2 a hka.symm).trans na
 have s2:=Heap.SameBut.update (s.heap.update kS (Obj.mapSeq fun _=>(#[]:Array Ja))) a (Obj.mapSeq fun _=>(arrOf st).map (·.2))
 obtain⟨c2,hc2⟩:∃ c2,((s.heap.update kS (Obj.mapSeq fun _=>(#[]:Array Ja))).update a (Obj.mapSeq fun _=>(arrOf st).map (·.2))).get? a=some (seqObj "list" ((arrOf st).map (·.2)) c2):=
  ⟨_,get?_update_seq na1 fun _=>(arrOf st).map (·.2)⟩
 unfold ksk_tail;try dsimp only
 refine Jr (listUpdate_at nk rfl ?_ (by rw[hsz,Jw];omega) (Vl _))
 refine Jr (wpAny_letGo ?_)
 refine Jr (seqEpoch_at na1 rfl ?_)
 refine Jr (listUpdate_at na1 rfl ?_ (Vl _) (by simp only[Xn,if_false];exact Q5 (Uj hout) (by rw[Jw];omega)))
 rw[hfl];simp only[bne_self_eq_false,Xn,if_false];have I1:Inv X Mi σ H { s with heap:=s.heap.update kS (Obj.mapSeq fun _=>(#[]:Array Ja)) }:=pT fk (tk:=s.toks) I s1
 have I2:Inv X Mi σ H { s with heap:=(s.heap.update kS (Obj.mapSeq fun _=>(#[]:Array Ja))).update a (Obj.mapSeq fun _=>(arrOf st).map (·.2)) }:=(by have z:=pT (tk:=s.toks) fa I1 s2;exact z)
 exact Ju (h _ _ c2 I2 hc2 (ksk_out (b:=false) hk hp hs))
def zRj(I:Inv X Mi σ H s)(fa:tN X Mi H a)(fk:tN X Mi H kS)(hka:kS≠a)(nk:s.heap.get? kS=some (seqObj "list" keys e))(na:s.heap.get? a=some (seqObj "list" #[] e1))
  (hk:IntsAre keys.toList kz) (hlen:kz.length=vs.length) (h64:vs.length<64)
  (h:∀ s' out c,Inv X Mi σ H s'->s'.heap.get? a=some (seqObj "list" out c)->KskOut false kz vs out.toList->P (.done (.ret .none)) s'):
  wpAny (model X.prog X.w) A (ksk_end a false vs.toArray e1 (.ref kS) keys) P E s:=by
 have hsz:keys.size=vs.length:=by
  have h1:=hk.length;rw[X3] at h1;omega
 have hzs:(keys.zip vs.toArray).size=vs.length:=by rw[Array.size_zip,hsz,Ql,Ub]
 unfold ksk_end;try dsimp only
 simp only[Xn,if_false];by_cases h2:vs.toArray.size<2
 ·rw[Jk h2,Jk h2]
  refine Jr (Ju ?_)
  rw[StateT.run_pure];refine Jr (Ju ?_)
  try dsimp only
  refine zHV (st:=SortSt.mk' general' (keys.zip vs.toArray) #[] 7 none) I fa fk hka nk na hk hlen h64 (Array.Perm.refl _) ?_ rfl h
  intro i j hij hj;have hj2:j<(keys.zip vs.toArray).size:=hj;rw[hzs] at hj2;rw[Ql] at h2;have:i=j:=by omega
  subst this;exact Xh _
 ·rw[Jl h2,Jl h2]
  rw[Ql] at h2;rw[ksk_kind hk (by rw[hsz];omega)];refine Jr (Ju ?_)
  refine Jr (wpAny_mono (wpS_sortRuns (a₀:=keys.zip vs.toArray) (st:=SortSt.mk' oneType' (keys.zip vs.toArray) #[] 7 none)
   (Q:=fun _ st'=>(arrOf st').Perm (keys.zip vs.toArray)/\failedOf st'=none/\SortedTo (arrOf st') (keys.zip vs.toArray).size)
   (ksk_intKeys hk) ⟨Array.Perm.refl _,rfl,rfl,rfl⟩ (by rw[hzs];omega) (by rw[hzs];exact h64) fun st' a1 a2 a3=>⟨a1,a2,a3⟩) ?_ fun _ _ e=>e)
  rintro⟨⟨⟩,st'⟩ s' ⟨rfl,hp,hf,hs⟩
  try dsimp only
  exact zHV I fa fk hka nk na hk hlen h64 hp (by rw[hp.size_eq];exact hs) hf h
def zNl{f:Ja}{e0:Nat}(I:Inv X Mi σ H s)(fa:tN X Mi H a)(fk:tN X Mi H kS)(hka:kS≠a)(nk:s.heap.get? kS=some (seqObj "list" #[] e0))(na:s.heap.get? a=some (seqObj "list" #[] e1))
  (hlen:kz.length=vs.length) (h64:vs.length<64)
  (turn:∀(i:Nat)(v:Ja)(k:Int),vs[i]?=some v->kz[i]?=some k->∀(s':Jb)(pl:List (Jc×Obj)),Inv X (Mi++pl) σ H s'->
   wpAny (model X.prog X.w) A (call f [v]) (fun u s''=>(∃ t,u=.int k t)/\Inv X (Mi++pl) σ H s'') (fun _ _=>False) s')
  (h:∀ s' out c,Inv X Mi σ H s'->s'.heap.get? a=some (seqObj "list" out c)->KskOut false kz vs out.toList->P (.done (.ret .none)) s'):
  wpAny (model X.prog X.w) A (ksk_rest a f false vs.toArray e1 (.ref kS)) P E s:=by
 unfold ksk_rest;refine Jr (wpAny_rule ?_)
 first
  | rw[List.forIn_toArray]
  | (rw[<-Array.forIn_toList];simp only[Qag])
  | rw[<-Array.forIn_toList]
 refine Jr (ksk_fold (fun i s'=>∃ kA e,Inv X Mi σ H s'/\s'.heap.get? kS=some (seqObj "list" kA e)/\s'.heap.get? a=some (seqObj "list" #[] e1)/\IntsAre kA.toList (kz.take i)) vs 0 s
  ⟨#[],e0,I,nk,na,by simpa using IntsAre.nil⟩ ?step ?done)
 case step=>
  rintro j x s' hx ⟨kA,e,I',nk',na',hk⟩
  simp only[Xl] at hk ⊢
  have hj:j<vs.length:=(Qy.mp hx).1;obtain⟨k,hkj⟩:∃ k,kz[j]?=some k:=⟨_,Qq ⋯⟩
  have hz:kA.size<=vs.length:=by
   have h1:=hk.length;rw[X3,Xq] at h1;omega
  have pin:∀ b∈[kS,a],∃ o,s'.heap.get? b=some o/\∀ v,o.data≠.cell v:=fun b hb=>by
   rcases Qc.mp hb with rfl | hb
   ·exact⟨_,nk',fun v z=>by have z':Data.seq _ _=Data.cell v:=z;cases z'⟩
   ·rw[Qr.mp hb];exact⟨_,na',fun v z=>by have z':Data.seq _ _=Data.cell v:=z;cases z'⟩
  have Ip:Inv X (Mi++vY [kS,a] s'.heap) σ H s':=I'.pinned (fun b hb=>by
   rcases Qc.mp hb with rfl | hb
   ·exact fk
   ·rw[Qr.mp hb];exact fa) pin
  refine Jr (wpAny_attempt (wpAny_mono (turn j x k hx hkj s' _ Ip) (fun v s'' he=>?_) fun _ _ hF=>hF.elim))
  obtain⟨⟨t2,rfl⟩,I2p⟩:=he;try dsimp only
  have nk2:s''.heap.get? kS=some (seqObj "list" kA e):=(I2p.pin _ (Qx _ (Qx _ (fN (b:=kS) (by simp) nk')))).1
  have na2:s''.heap.get? a=some (seqObj "list" #[] e1):=(I2p.pin _ (Qx _ (Qx _ (fN (b:=a) (by simp) na')))).1
  have I2:Inv X Mi σ H s'':=I2p.unpinned;have s1:=Heap.SameBut.update s''.heap kS (Obj.mapSeq (·.push (.int k t2)));obtain⟨c2,hc2⟩:∃ c2,(s''.heap.update kS (Obj.mapSeq (·.push (.int k t2)))).get? kS=some (seqObj "list" (kA.push (.int k t2)) c2):=⟨_,get?_update_seq nk2 (·.push (.int k t2))⟩;have ek:kz.take (j+1)=kz.take j++[k]:=by rw[List.take_add_one,hkj];simp
  have ea:(kA.push (Value.int k t2)).toList=kA.toList++[Value.int k t2]:=by simp
  refine Jr (listUpdate_at nk2 rfl ?_ (by rw[Jw];omega) (Q5 (Uj (Array.size_push ..)) (by rw[Jw];omega)))
  exact Ju ⟨rfl,kA.push (.int k t2),c2,pT fk (tk:=s''.toks) I2 s1,hc2,(s1.2 a hka.symm).trans na2,by rw[ea,ek];exact ksk_snoc hk⟩
 case done=>
  rintro s' ⟨kA,e,I',nk',na',hk⟩
  have hk':IntsAre kA.toList kz:=by
   have e3:kz.take (0+vs.length)=kz:=Y6 ⋯
   rw[e3] at hk;exact hk
  try dsimp only
  refine Jr (listItems_at nk' rfl ?_)
  exact zRj I' fa fk hka nk' na' hk' hlen h64 h
def vB(v:Ja):Nat:=(numOf v).toNat
def zOG{out:List Ja}(hlen:kz.length=vs.length)(hv:∀ (j:Nat) (v:Ja),vs[j]?=some v->∃ t,v=.int j t)(h:KskOut false kz vs out):iD kz (out.map vB)/\cX ((out.map vB).map fun i:Nat=>V.int (i:Int)) out:=by
 obtain⟨ps,hp,ho,hs⟩:=h
 have at':∀ p,p∈kz.zip vs->∃(j:Nat)(t:Tok),p.2=.int j t/\kz[j]?=some p.1:=fun p hm=>by
  obtain⟨j,hj,e⟩:=List.mem_iff_getElem.mp hm;rw[Wn] at hj;rw[List.getElem_zip] at e;obtain⟨t,ht⟩:=hv j (vs[j]'⋯) (Qq _)
  refine⟨j,t,by rw[<-e];exact ht,by rw[<-e];exact Qq _⟩
 have n1:∀(j:Nat)(t:Tok),vB (.int j t)=j:=fun j t=>by unfold vB;show(Int.toNat (j:Int))=j;rfl
 have hvs:vs.map vB=List.range kz.length:=by
  refine Yi fun j=>?_
  rw[Qu];by_cases hj:j<vs.length
  ·obtain⟨t,ht⟩:=hv j _ (Qq hj)
   rw[Qq hj,ht,Xa ⋯];show some (vB _)=_
   rw[n1]
  ·rw[Qz ⋯,Qz (by rw[Q2];omega)];rfl
 subst ho;refine⟨⟨?_,?_⟩,?_⟩
 ·have h1:((ps.map Prod.snd).map vB).Perm (((kz.zip vs).map Prod.snd).map vB):=(hp.map _).map _
  rw[List.map_snd_zip ⋯,hvs] at h1;exact h1
 ·rw[Qw,Xx]
  refine Yo (fun {p q} hm hq hr=>?_) hs
  have hr':p.1<=q.1:=by simpa using hr
  obtain⟨i,t,e1,e2⟩:=at' p (hp.mem_iff.mp hm);obtain⟨j,u,e3,e4⟩:=at' q (hp.mem_iff.mp hq);show kz.getD (vB p.2) 0<=kz.getD (vB q.2) 0
  rw[e1,e3,n1,n1,Qv,Qv,e2,e4];exact hr'
 ·have go:∀ l:List Ja,(∀ v∈l,∃(j:Nat)(t:Tok),v=.int j t)->cX ((l.map vB).map fun i:Nat=>V.int (i:Int)) l:=by
   intro l
   induction l with
   | nil=>intro _;exact .nil
   | cons v r ih=>
    intro hl;obtain⟨j,t,rfl⟩:=hl v (.head _);exact .cons ⟨t,by rw[n1]⟩ (ih fun u hu=>hl u (.tail _ hu))
  refine go _ fun v hv'=>?_
  obtain⟨p,hm,rfl⟩:=Qm.mp hv';obtain⟨j,t,e1,_⟩:=at' p (hp.mem_iff.mp hm);exact⟨j,t,e1⟩
def zJn{r q:Jc}{n:Nat}{t u v:Tok}{Q:Ja->Jb->Prop}(hc:X.calm=true)(I:Inv X Mi σ H s)(hr:IsRange s.heap r 0 n 1 t u v)(h64:n<64)(hkz:kz.length=n)
  (turn:∀(j:Nat)(tk:Tok)(k:Int),kz[j]?=some k->∀(s':Jb)(pl:List (Jc×Obj)),Inv X (Mi++pl) σ H s'->
   wpAny (model X.prog X.w) X.A.in1.in1 (call (.ref q) [.int j tk]) (fun u s''=>(∃ t,u=.int k t)/\Inv X (Mi++pl) σ H s'') (fun _ _=>False) s')
  (h:∀ D s' out c π,Inv X Mi σ H s'->tN X Mi H D->s.heap.objs.size<=D->s'.heap.get? D=some (seqObj "list" out c)->iD kz π->cX (π.map fun i:Nat=>V.int (i:Int)) out.toList->Q (.ref D) s'):
  wpAny (model X.prog X.w) X.A (call (.builtin "sorted") [.ref r] [(Str.ofString "key", .ref q)]) Q E s:=by
 refine call_function_entry_kw kind_sorted plain_sorted entry_sorted (ksk_s1 _ _) ?_
 unfold Builtin.«sorted»
 refine Jr (m:=checkCount "sorted" 1 1 _) (Ju ?_)
 refine Jr (zBk (n:=n) (A:=X.A.in1) (I.ok.hd hc) hr (small_one ⋯ ⋯ ⋯ ⋯) (by rw[rangeSize_one];split<;>omega) ⋯ fun h1 tk acc hk hsz hacc=>?_)
 have hl:acc.toList.length=n:=by rw[X3];exact hacc.1
 refine Jr (wpAny_newList ?_ (by rw[hl,Jw];omega))
 have I1:Inv X Mi σ H { s with heap:=h1,toks:=tk }:=I.kept hk;have fa:tN X Mi H h1.objs.size:=I1.fpOk (Qf _) (I1.hok.fresh (Qf _));have I2:Inv X Mi σ H { s with heap:=h1.push (seqObj "list" acc.toList.toArray 0),toks:=tk }:=I1.kept (t':=tk) fun b o e=>Heap.get?_push_of_some _ e
 have hoL:(h1.push (seqObj "list" acc.toList.toArray 0)).get? h1.objs.size=some (seqObj "list" acc.toList.toArray 0):=Heap.get?_push_size _ rfl;show wpAny _ _ _ _ _ { s with heap:=h1.push (seqObj "list" acc.toList.toArray 0),toks:=tk }
 refine Jr (wpAny_holding (wpAny_call_entry_kw slot_list_sort ⟨_,hoL,rfl⟩ entry_list_sort ?body (ksk_l1 _ _)))
 case body=>
  show wpAny (model X.prog X.w) X.A.in1.in1 (Builtin.«list.sort» ⟨[.ref h1.objs.size],[(Str.ofString "key", .ref q)]⟩) _ _ _
  rw[ksk_t1];have s3:=Heap.SameBut.update (h1.push (seqObj "list" acc.toList.toArray 0)) h1.objs.size (Obj.mapSeq fun _=>(#[]:Array Ja))
  obtain⟨e1,ho1⟩:∃ e1,((h1.push (seqObj "list" acc.toList.toArray 0)).update h1.objs.size (Obj.mapSeq fun _=>(#[]:Array Ja))).get? h1.objs.size=some (seqObj "list" #[] e1):=⟨_,get?_update_seq hoL fun _=>#[]⟩
  have I3:Inv X Mi σ H { s with heap:=(h1.push (seqObj "list" acc.toList.toArray 0)).update h1.objs.size (Obj.mapSeq fun _=>(#[]:Array Ja)),toks:=tk }:=(by have z:=pT (tk:=tk) fa I2 s3;exact z)
  generalize hg3:(h1.push (seqObj "list" acc.toList.toArray 0)).update h1.objs.size (Obj.mapSeq fun _=>(#[]:Array Ja))=h3 at s3 ho1 I3
  unfold ksk_tree;refine Jr (listItems_at hoL rfl ?_)
  refine Jr (listUpdate_at hoL rfl ?_ (by rw[Ql,Jw];omega) (Vl _))
  show wpAny _ _ _ _ _ { s with heap:=(h1.push (seqObj "list" acc.toList.toArray 0)).update h1.objs.size (Obj.mapSeq fun _=>(#[]:Array Ja)),toks:=tk }
  rw[hg3];refine Jr (seqEpoch_at ho1 rfl ?_)
  refine Jr (wpAny_newTuple ?_ (by show acc.toList.toArray.toList.length<=_;rw[Jw,Qag];omega))
  refine Jr (wpAny_newList ?_ (Vl _))
  refine wpAny_holding ?_
  have I4:Inv X Mi σ H { s with heap:=h3.push (seqObj "tuple" acc.toList.toArray 0),toks:=tk }:=I3.kept (t':=tk) fun b o e=>Heap.get?_push_of_some _ e
  have fk:tN X Mi H (h3.push (seqObj "tuple" acc.toList.toArray 0)).objs.size:=I4.fpOk (Qf _) (I4.hok.fresh (Qf _));have I5:Inv X Mi σ H { s with heap:=(h3.push (seqObj "tuple" acc.toList.toArray 0)).push (seqObj "list" #[] 0),toks:=tk }:=I4.kept (t':=tk) fun b o e=>Heap.get?_push_of_some _ e
  have ho4:(h3.push (seqObj "tuple" acc.toList.toArray 0)).get? h1.objs.size=some (seqObj "list" #[] e1):=Heap.get?_push_of_some _ ho1;refine zNl (vs:=acc.toList) (kz:=kz) (e0:=0) I5 fa fk (Ym (Heap.lt_size ho4)) (Heap.get?_push_size _ rfl) (Heap.get?_push_of_some _ ho4) (by rw[hkz,hl]) (by rw[hl];exact h64) (fun i v' k hi hk' s' pl Ip=>?_) fun s' out c I' ho' ko=>?_
  ·obtain⟨tk',rfl⟩:=hacc.2 i v' (by rw[<-U5];exact hi)
   have e3:(0:Int)+(i:Int)*1=(i:Int):=by omega
   rw[e3];exact turn i tk' k hk' s' pl Ip
  ·obtain⟨hπ,hV⟩:=zOG (by rw[hkz,hl]) (fun j v' hj=>by
    obtain⟨tk',rfl⟩:=hacc.2 j v' (by rw[<-U5];exact hj)
    exact⟨tk',by congr 1;omega⟩) ko
   exact⟨_,rfl,Ju ⟨_,rfl,h _ s' out c _ I' fa hsz ho' hπ hV⟩⟩
end
end L3
namespace L3
open PySem PySem.Spec PyProof.Rows L2 PySem.W
unseal PEd PEf PTd PWd PAd PSd eN POd PGd jG PId PSx mD PTs PCd PCf
local macro_rules | `(∅)=>`(by decide)
def zUe:CXT:=fun _ _ _ _ _ _=>False
def cxL(P:Jf)(w:Jg)(K:PySem.W.Frag)(mg:Str->Option Ja)(base:Je)(N:List Str)(qual:Str)(scope:Scope)(f:Jc)(cd:Ja)(cl:List (Str×Jc))(A:Jh)(outer:List Env)(s:Jb)(H:Hp):Cx where
 prog:=P
 w:=w
 K:=K
 mg:=mg
 base:=base
 A:=A.deeper (envX qual scope s.heap.objs.size f cd cl)
 N:=N
 s₀:=s
 H₀:=H
 env:=envX qual scope s.heap.objs.size f cd cl
 outer:=outer
 stack:=envX qual scope s.heap.objs.size f cd cl::outer
 ex:=[]
 fn:=fun _=>false
 calm:=true
 pn:=[]
 xe:=fun _ _=>False
def zOp{P:Jf}{w:Jg}{K:Fg_}{mg:Str->Option Ja}{base:Je}{N:List Str}{qual name:Str}{scope:Scope}{f c':Jc}{cl:List (Str×Jc)}{A:Jh}{outer:List Env}{s:Jb}{H:Hp}{params:Arguments}{body:Expr}{pm ctv u:Ja}{p:Str}{σ:St}{Q:VK}{E:XK}{t:TE}
  (hd:A.handled=none) (hdp:A.depth<recursionLimit) (e0:Env0 P w K mg base A outer s H) (ho:s.heap.get? f=some (kla_obj name qual params body scope cl pm c' ctv)) (hcd:s.heap.CodeRec (.ref c') qual)
  (hbind:bindArgs (kla_fn name qual params body scope cl pm (.ref c') ctv) ⟨[u],[]⟩=pure [(p,u)]) (hloc:scope.names.lookup p=some .local)
  (hco:scope.isCoroutine=false) (hgen:scope.isGenerator=false) (hk:scope.kind=.function) (hcell:∀ x∈scope.names,x.2≠.cell)
  (hfree:∀ x,scope.names.lookup x=some .free->∃ c,cl.lookup x=some c) (hinj:∀ x y c,cl.lookup x=some c->cl.lookup y=some c->x=y)
  (hcl:∀ x c,cl.lookup x=some c->(∃ v,s.heap.IsCell c v)/\H c=none) (hlen:σ.length=N.length)
  (hσ:∀(i:Nat)(x:Str)(v:V),N[i]?=some x->σ[i]?=some (some v)->(x=p/\cW v u)∨(scope.names.lookup x=some .free/\∃ c u',cl.lookup x=some c/\s.heap.IsCell c (some u')/\cW v u'))
  (hb:PE (cxL P w K mg base N qual scope f (.ref c') cl A outer s H) body t) (hq:t σ H Q):
  codeAny (model P w) A (.call (.ref f) ⟨[u],[]⟩) (CR zUe outer P w H s Q E) s:=by
 have lim:s.heap.NoLimit:=e0.mod.nolimit.keeps fun b o e=>(e0.bs b o e).1
 refine kla_callFunE hdp ho rfl hco hgen rfl hcd ?_
 rw[hbind];refine Ju (wpAny_newFunctionEnv hcell (fun y hy=>by rw[Qr.mp hy];exact hloc) (fun h₁ hns hsb=>⟨lim.fresh _ hsb,?_⟩) hk)
 have hk₁:∀ b o,s.heap.get? b=some o->h₁.get? b=some o:=fun b o e=>hsb.extBut b o (Qt (Heap.lt_size e)) (Heap.get?_push_of_some _ e)
 have noA:∀ b:Jc,b∉(cxL P w K mg base N qual scope f (.ref c') cl A outer s H).ex:=fun b z=>absurd (show b∈([]:List Jc) from z) (by simp)
 have I:Inv (cxL P w K mg base N qual scope f (.ref c') cl A outer s H) [] σ H { s with heap:=h₁,toks:=s.toks+1 }:=by
  refine⟨⟨e0.mod,hk,rfl,rfl,Qf _,hinj,fun y hy=>?_,fun y c z _=>?_,fun _=>hd,Around.frames_deeper e0.frames,.inr ⟨rfl,rfl⟩,fun b z=>absurd z (noA b),e0.bs,e0.bsz,fun b _ _=>noA b,fun b z=>absurd z (noA b),e0.funs,e0.frf⟩,
   rfl,e0.bare,Un.kept hk₁,⟨_,hns,fun i y v h1 h2 h3=>?_⟩,fun y c h=>?_,e0.hok.fresh (Qf _),fun y c h=>(hcl y c h).2,fun p hp=>absurd (show p∈([]:List (Jc×Obj)) from hp) (by simp),e0.hok.kept hk₁,hlen⟩
  ·have hy:scope.names.lookup y=some .cell∨scope.names.lookup y=some .free:=hy
   rcases hy with hy | hy
   ·exact absurd rfl (hcell _ (Xr hy))
   ·exact hfree y hy
  ·cases z
  ·rcases hσ i y v h1 h2 with⟨rfl,r⟩ | ⟨hf,c,u',h4,⟨o,h5,h6⟩,r⟩
   ·exact⟨u,r,.inl ⟨hloc,by simp[List.lookup]⟩⟩
   ·exact⟨u',r,.inr ⟨.inr hf,c,h4,o,hk₁ _ _ h5,h6⟩⟩
  ·obtain⟨⟨v,o,h5,h6⟩,_⟩:=hcl y c h
   exact⟨v,o,hk₁ _ _ h5,h6⟩
 refine kla_codeExpr (wpAny_mono (hb [] _ σ H Q I hq) (fun v s' z=>?_) fun e s' z=>False.elim z)
 obtain⟨x,H',J,r,q⟩:=z;exact⟨x,H',J.os,J.bare,J.base,J.hok,r,q⟩
def zKN{l:List Ja}{a b:Int}{c:Ja}(h:TriplesOk l):TriplesOk (l++[rawInt a,rawInt b,c]):=TriplesOk_snoc a b c l h
def zGc{pos q:Pos}{c x:Ja}(l:List Ja)(h:TriplesOk l)(e:codeAmong q (l++[rawInt pos.line,rawInt pos.col,c])=some x):codeAmong q l=some x∨x=c:=by
 fun_induction TriplesOk l with
 | case1=>
  simp only[Xu,codeAmong,rawInt] at e;split at e
  ·exact .inr (Vj e).symm
  ·cases e
 | case2 a t b u y rest ih=>
  simp only[Ui,codeAmong] at e ⊢
  split at e
  ·rename_i hc;rw[Jk hc];exact .inl e
  ·rename_i hc;rw[Jl hc];exact ih h e
 | case3 l h1 h2=>exact h.elim
def BMn(base:Je)(mg:Str->Option Ja):Prop:=∃ bm ob,mg "__builtins__" = some (.ref bm)/\bm≠builtinsNs/\base.get? bm=some ob/\ob.cls=.type "module" /\ ob.dict=some builtinsNs/\ob.data=.plain
section
variable{X:Cx}{Mi:List (Jc×Obj)}{r:St}{H:Hp}{s:Jb}{P c c':Jc}
def zLg{ps more:Array Ja}{h':Je}{tk:Nat}{oc:Obj}(I:Inv X Mi r H s)(hP:H P=some (.tbl ps))(hx:Heap.ExtBut P s.heap h')(hge:s.heap.objs.size<=c')(hc:h'.get? c'=some oc)(hP':h'.get? P=some { cls:=.none,data:=.fields (ps++more) }):
  Inv X Mi r (upd (upd H P (.tbl (ps++more))) c' (.frz oc (.own 0))) { s with heap:=h',toks:=tk }:=by
 have nP:∀ {b:Jc},H b=none->b≠P:=fun e z=>by rw[z,hP] at e;cases e
 have cF:H c'=none:=I.hok.fresh hge;have nc:∀ {b:Jc} {o:Obj},s.heap.get? b=some o->b≠c':=fun e=>Qt (Qs (Heap.lt_size e) hge)
 have hPc:P≠c':=aY hP cF;have up:∀ {b:Jc},b≠P->b≠c'->upd (upd H P (.tbl (ps++more))) c' (.frz oc (.own 0)) b=H b:=fun h1 h2=>by rw[aV h2,aV h1]
 have upP:upd (upd H P (.tbl (ps++more))) c' (.frz oc (.own 0)) P=some (.tbl (ps++more)):=by rw[aV hPc,aR]
 have kd:∀ {b:Jc} {o:HO},H b=some o->(∀ qs,o≠.tbl qs)->upd (upd H P (.tbl (ps++more))) c' (.frz oc (.own 0)) b=some o:=fun {b o} e hn=>by
  rw[up (fun z=>by rw[z,hP] at e;exact hn ps (Vj e).symm) (aY e cF)];exact e
 refine I.un ⟨fun b o e n _ _=>hx b o (nP n) e,fun b o e n _ _=>⟨o.slots,hx b o (nP n) e⟩,fun b o e n _=>by rw[up (nP n) (nc e)];exact n,fun b o e _=>?_,fun b xs e=>kd e fun qs z=>(by cases z),fun b o u e=>kd e fun qs z=>(by cases z),fun b qs e=>?_⟩ fun b u e=>?_
 ·by_cases hb:b=P
  ·subst hb;exact⟨_,hP'⟩
  ·exact⟨o,hx b o hb e⟩
 ·by_cases hb:b=P
  ·subst hb
   rw[hP] at e;cases e
   exact⟨more,upP⟩
  ·exact⟨#[],by rw[up hb (aY e cF),e];simp⟩
 ·by_cases h2:b=c'
  ·subst h2
   rw[aR] at e;cases e
   exact⟨hc,oc,hc⟩
  ·by_cases h1:b=P
   ·subst h1
    rw[upP] at e;cases e
    exact hP'
   ·rw[up h1 h2] at e
    refine(I.hok b u e).stay (fun d v hd q=>hx d v (fun z=>?_) q) (fun d q=>kd q fun qs z=>(by cases z)) fun d xs q=>kd q fun qs z=>(by cases z)
    rcases hd with rfl | hd
    ·exact h1 z
    ·rw[z,hP] at hd;cases hd
def zIs{ps:Array Ja}{oc:Obj}{pos:Pos}{vs:Array Ja}{t:Tok}(hP:H P=some (.tbl ps))(cF:H c'=none)(hd:oc.data=.fields vs)(hv:vs[1]?=some (.str tK t)):
  Keep H (upd (upd H P (.tbl (ps++#[rawInt pos.line,rawInt pos.col,.ref c']))) c' (.frz oc (.own 0))):=by
 have hPc:P≠c':=aY hP cF;have upP:upd (upd H P (.tbl (ps++#[rawInt pos.line,rawInt pos.col,.ref c']))) c' (.frz oc (.own 0)) P=some (.tbl (ps++#[rawInt pos.line,rawInt pos.col,.ref c'])):=by rw[aV hPc,aR]
 have kd:∀ {b:Jc} {o:HO},H b=some o->b≠P->upd (upd H P (.tbl (ps++#[rawInt pos.line,rawInt pos.col,.ref c']))) c' (.frz oc (.own 0)) b=some o:=fun {b o} e hn=>by
  rw[aV (aY e cF),aV hn];exact e
 refine⟨fun b o e=>?_,fun Q T=>?_⟩
 ·by_cases hb:b=P
  ·subst hb
   rw[hP] at e;cases e
   exact .inr ⟨_,_,rfl,upP⟩
  ·exact .inl (kd e hb)
 ·obtain⟨qs,e,ht,k⟩:=T
  have old:∀(q:Pos)(cv:Ja),codeAmong q qs.toList=some cv->∃ c oc' vs t u,cv=.ref c/\upd (upd H P (.tbl (ps++#[rawInt pos.line,rawInt pos.col,.ref c']))) c' (.frz oc (.own 0)) c=some (.frz oc' u)/\oc'.data=.fields vs/\vs[1]?=some (.str tK t):=fun q cv z=>by
   obtain⟨c,oc',vs',t',u,r1,r2,r3⟩:=k q cv z;exact⟨c,oc',vs',t',u,r1,kd r2 (fun w=>by rw[w,hP] at r2;cases r2),r3⟩
  by_cases hb:Q=P
  ·subst hb
   rw[hP] at e;cases e
   have el:(ps++#[rawInt pos.line,rawInt pos.col,.ref c']).toList=ps.toList++[rawInt pos.line,rawInt pos.col,.ref c']:=by simp
   refine⟨_,upP,by rw[el];exact zKN ht,fun q cv z=>?_⟩
   rw[el] at z;rcases zGc _ ht z with z | z
   ·exact old q cv z
   ·exact⟨c',oc,vs,t,_,z,aR,hd,hv⟩
  ·exact⟨qs,kd e hb,ht,old⟩
def zLH{params:Arguments}{body:Expr}{scope:Scope}{pos:Pos}{clos:List (Str×Jc)}{M:Model}{A:Jh}{E:Ja->Jb->Prop}{Q:Ja->Jb->Prop}(I:Inv X Mi r H s)(tb:zBL P H)(hC:∀ h,X.K.In h->CodeHd h c P)(hcode:X.env.code=.ref c)(hq:X.env.qual ++ "<lambda>" = tK)(hB:BMn X.base X.mg)
  (hcl:closureFor scope X.env=pure clos) (hdef:defaultsOf params X.env=([],[]))
  (h:∀ f c' ctv oc vs t u H' s',Inv X Mi r H' s'->Keep H H'->(∀ b o,H b=some o->b≠P->H' b=some o)->tN X Mi H' f->s.heap.objs.size<=f->s'.heap.get? f=some (kla_obj "<lambda>" tK params body scope clos ((X.mg "__name__").getD .none) c' ctv)->
   H' c'=some (.frz oc u)->oc.data=.fields vs->vs[1]?=some (.str tK t)->Q (.ref f) s'):
  wpAny M A (eval (.Lambda params body scope pos) X.env) Q E s:=by
 obtain⟨ps,hP,ht,hk⟩:=id tb;have hPo:s.heap.get? P=some (tabObj ps):=I.hok P _ hP;have hg:s.heap.Ns mainGlobals X.mg:=I.mod.glob.keeps I.bk
 have hgP:mainGlobals≠P:=fun z=>by
  obtain⟨o,es,ep,e,_⟩:=I.mod.glob;have:=(I.bs _ _ e).2
  rw[z,hP] at this;cases this
 have hb:s.heap.BuiltinsAt X.mg P:=by
  obtain⟨bm,ob,b1,b2,b3,b4,b5,b6⟩:=hB;refine⟨bm,ob,b1,b2,fun z=>?_,fun z=>?_,(I.bs _ _ b3).1,b4,b5,b6⟩
  ·obtain⟨o,es,ep,e,d,_⟩:=I.mod.glob
   rw[z,e] at b3;cases b3;rw[d] at b6;cases b6
  ·have:=(I.bs _ _ b3).2
   rw[z,hP] at this;cases this
 refine kla_eval hdef ?_
 rw[hq]
 cases hf:codeAmong pos ps.toList with
 | some cv=>
  obtain⟨c',oc,vs,t,u,rfl,r1,r2,r3⟩:=hk pos cv hf;refine kla_makeFunctionHit hcl I.ok.glob hg hcode (hC _ I.kIn) hPo ht hf hb fun ctv h' tk hkk hsz=>?_
  have I1:Inv X Mi r H { s with heap:=h',toks:=tk }:=I.kept hkk;have I2:Inv X Mi r H { s with heap:=h'.push (kla_obj "<lambda>" tK params body scope clos ((X.mg "__name__").getD .none) c' ctv),toks:=tk }:=I1.kept (t':=tk) fun b o e=>Heap.get?_push_of_some _ e
  exact h _ c' ctv oc vs t u H _ I2 (Keep.refl _) (fun b o e _=>e) (I1.fpOk (Qf _) (I1.hok.fresh (Qf _))) hsz (Heap.get?_push_size _ rfl) r1 r2 r3
 | none=>
  refine kla_makeFunction hcl I.ok.glob hg hcode (hC _ I.kIn) hPo ht hf hgP hb fun c' ctv h' tk hx hge hlt hrec htb=>?_
  obtain⟨c₂,oc,vs,t,e2,hoc,hd,hv⟩:=hrec;cases e2;have I1:=zLg (tk:=tk) I hP hx hge hoc htb;have I2:=I1.kept (t':=tk) (h':=h'.push (kla_obj "<lambda>" tK params body scope clos ((X.mg "__name__").getD .none) c' ctv)) fun b o e=>Heap.get?_push_of_some _ e
  have cF:H c'=none:=I.hok.fresh hge;exact h _ c' ctv oc vs t _ _ _ I2 (zIs hP cF hd hv) (fun b o e hb=>by rw[aV (aY e cF),aV hb];exact e) (I1.fpOk (Qf _) (I1.hok.fresh (Qf _))) (Xj (Xv hge hlt)) (Heap.get?_push_size _ rfl) aR hd hv
end
def zBD{K:Fg_}{H:Hp}:∀ π:List Nat,IsDs K H (π.map fun i:Nat=>V.int (i:Int)) (kM π)
 | []=>.nil
 | n::ns=>.cons (.int n) (zBD ns)
def zDX(p:Pos):Arguments:={ posonlyargs:=[],args:=[{ arg := "spot", annotation:=none,pos:=p }],vararg:=none,kwonlyargs:=[],kw_defaults:=[],kwarg:=none,defaults:=[] }
def lW:Scope:={ kind:=.function,names:=[(PySem.Str.ofString "spot", .local),(PySem.Str.ofString "bottom", .free),(PySem.Str.ofString "some", .free)],isGenerator:=false,isCoroutine:=false,more:=[] }
section
variable{X:Cx}{p1 p2 p3 p4 p5 p6 p7 p8 p9 pa pb pc pd pe pf pg ph pi pj:Pos}
def zKP{b k:Int}{a:Jc}{xs:List V}{rows:List D}{d:D}{j:Nat}{Hi H:Hp}{Q:VK}{σ:St}(hN:X.N=(["spot","some","bottom"]:List Str))(hsc:X.env.scope=lW){pz:Pos}
  (hσ:σ=[some (.int j),some (.ref a),some (.int b)]) (hq:SqL X.K Hi a xs∨SqT X.K Hi a xs) (hs:IsDs X.K Hi xs rows) (sm:Same Hi H) (hd:rows[j]?=some d) (hk:zKv b d=.ok k) (q:Q (.int k) H):
  ∃ t,PE X (.BinOp (.Subscript (.Subscript (.Name "some" p1) (.Name "spot" p2) p3) (.Constant (.int 0) 0 p4) p5) .Mult
   (.BinOp (.Name "bottom" p6) .FloorDiv (.Subscript (.Subscript (.Name "some" p7) (.Name "spot" p8) p9) (.Constant (.int 1) 0 pa) pb) pc) pz) t/\t σ H Q:=by
 have v0:PE X (.Name "spot" p2) (zDh 0):=vV (by rw[hN];rfl) (by rw[hsc];exact .inl (by decide +kernel))
 have v0':PE X (.Name "spot" p8) (zDh 0):=vV (by rw[hN];rfl) (by rw[hsc];exact .inl (by decide +kernel))
 have v1:PE X (.Name "some" p1) (zDh 1):=vV (by rw[hN];rfl) (by rw[hsc];exact .inr (.inr (by decide +kernel)))
 have v1':PE X (.Name "some" p7) (zDh 1):=vV (by rw[hN];rfl) (by rw[hsc];exact .inr (.inr (by decide +kernel)))
 have v2:PE X (.Name "bottom" p6) (zDh 2):=vV (by rw[hN];rfl) (by rw[hsc];exact .inr (.inr (by decide +kernel)))
 refine⟨_,zJv fB (zGo bG (zGo bG v1 v0 (fun _ _=>rfl)) zJf (fun _ _=>rfl)) (zJv eZ v2 (zGo bG (zGo bG v1' v0' (fun _ _=>rfl)) zJf (fun _ _=>rfl))),?_⟩
 obtain⟨t,c,rfl,h1,h2,rfl⟩:=zNs hk;obtain⟨v,hv,r⟩:=hs.at hd;obtain⟨ra,ys,rfl,h3,h4⟩:=r.tupI;obtain⟨u1,u2,rfl,r1,r2⟩:=h4.two;have e1:=r1.intI;have e2:=r2.intI;subst e1 e2;have S3:=cC sm h3;subst hσ
 have row:∀ Q':VK,Q' (.ref ra) H->(zSe X.K (.ref a) (.int j) H Q'∨zSk X.K (.ref a) (.int j) H Q'):=fun Q' q'=>by
  rcases hq with hq | hq
  ·exact .inl ⟨a,xs,j,.ref ra,rfl,rfl,bY sm hq,zDy hv,q'⟩
  ·exact .inr ⟨a,xs,j,.ref ra,rfl,rfl,cC sm hq,zDy hv,q'⟩
 refine⟨.ref a,rfl,.int j,rfl,row _ (.inr ⟨ra,_,0,.int t,rfl,rfl,S3,rfl,?_⟩)⟩
 refine⟨.int b,rfl,.ref a,rfl,.int j,rfl,row _ (.inr ⟨ra,_,1,.int c,rfl,rfl,S3,rfl,?_⟩)⟩
 exact⟨b,c,rfl,rfl,h1,t,b.fdiv c,rfl,rfl,h2,q⟩
def zQz{a:Expr}{ta:TA}{p pos:Pos}(hg:Gl X "range")(hm:X.mg "range" = none)(ha:PA X [a] ta)(hs:starEach [a] X.env=[(false,eval a X.env)]:=by rfl):
  PE X (.Call (.Name "range" p) [a] [] pos) (fun σ H Q=>ta σ H fun vs H1=>∃ n:Nat,vs=[.int n]/\∀ r,H1 r=none->Q (.ref r) (upd H1 r (.rng 0 n))):=by
 intro Mi s σ H Q I h;refine Jx (nQ I hg hm Jv (X4 (thn (ha pos Mi s σ H _ I h) fun us s1 ⟨vs,H1,I1,r1,q1⟩=>?_) hs rfl))
 obtain⟨n,e,q⟩:=q1;subst e;obtain⟨u,rfl,t,rfl⟩:=zDp r1;refine call_range_1 ⟨.ref s1.heap.objs.size,_,I1.laid (fun b o e=>Heap.get?_push_of_some _ e) (Qf _) ?_,rfl,q _ I1.fresh⟩
 exact⟨_,_,_,Heap.get?_push_size _ rfl⟩
structure RankCx (X:Cx) (P c:Jc):Prop where
 calm:X.calm=true
 dp:X.A.depth<recursionLimit
 n0:X.N[0]?=some ("some" : Str)
 n1:X.N[1]?=some ("bottom" : Str)
 k0:X.env.kindOf "some" = some .cell
 k1:X.env.kindOf "bottom" = some .cell
 code:X.env.code=.ref c
 hd:∀ h,X.K.In h->CodeHd h c P
 qual:X.env.qual ++ "<lambda>" = tK
 bm:BMn X.base X.mg
 clo:∃ cs cb,closureFor lW X.env=pure [(("some" : Str),cs),(("bottom" : Str),cb)]/\X.env.cells.lookup ("some" : Str)=some cs/\X.env.cells.lookup ("bottom" : Str)=some cb
 gS:Gl X "sorted"
 mS:X.mg "sorted" = none
 gR:Gl X "range"
 mR:X.mg "range" = none
 gL:Gl X "len"
 mL:X.mg "len" = none
def zPV(X:Cx)(P:Jc):TE:=fun σ H Q=>∃ Hi a xs rows b kz,σ[0]?=some (some (.ref a))/\σ[1]?=some (some (.int b))/\(SqL X.K Hi a xs∨SqT X.K Hi a xs)/\IsDs X.K Hi xs rows/\Same Hi H/\oZ b rows=.ok kz/\kz.length<64/\zBL P H/\Hi P=none/\
 ∀ π r Hi' H',iD kz π->Ext Hi H Hi' H'->zLq X.K H Hi' H' r (kM π)->Q (.ref r) H'
def zFJ{Mi:List (Jc×Obj)}{σ:St}{H:Hp}{s:Jb}{i:Nat}{x:Str}{v:V}{c:Jc}(I:Inv X Mi σ H s)(hi:X.N[i]?=some x)(hv:σ[i]?=some (some v))(hk:X.env.kindOf x=some .cell)(hc:X.env.cells.lookup x=some c):∃ u,cW v u/\s.heap.IsCell c (some u):=by
 obtain⟨m,hn,hl⟩:=I.loc;obtain⟨u,r,l⟩:=hl i x v hi hv (.inr (.inl hk));refine⟨u,r,?_⟩
 rcases l with⟨z,_⟩ | ⟨_,c',z,q⟩
 ·rw[hk] at z;cases z
 ·rw[hc] at z;cases z;exact q
def zPa{P c:Jc}(R:RankCx X P c){pk pl pm pn:Pos}(hs1:starEach [.Name "some" p3] X.env=(false,eval (.Name "some" p3) X.env)::starEach [] X.env:=by rfl)
  (hs2:starEach [.Call (.Name "len" p2) [.Name "some" p3] [] p4] X.env=[(false,eval (.Call (.Name "len" p2) [.Name "some" p3] [] p4) X.env)]:=by rfl)
  (hs3:starEach [.Call (.Name "range" p1) [.Call (.Name "len" p2) [.Name "some" p3] [] p4] [] p5] X.env=(false,eval (.Call (.Name "range" p1) [.Call (.Name "len" p2) [.Name "some" p3] [] p4] [] p5) X.env)::starEach [] X.env:=by rfl):
  PE X (.Call (.Name "sorted" pk) [.Call (.Name "range" p1) [.Call (.Name "len" p2) [.Name "some" p3] [] p4] [] p5] [⟨some "key", .Lambda (zDX p6) (.BinOp (.Subscript (.Subscript (.Name "some" p7) (.Name "spot" p8) p9) (.Constant (.int 0) 0 pa) pb) .Mult
   (.BinOp (.Name "bottom" pc) .FloorDiv (.Subscript (.Subscript (.Name "some" pd) (.Name "spot" pe) pf) (.Constant (.int 1) 0 pg) ph) pi) pj) lW pl,pm⟩] pn) (zPV X P):=by
 intro Mi s σ H Q I h;obtain⟨Hi,a,xs,rows,b,kz,e0,e1,hq,hds,sm,hkz,h64,tb,hiP,q⟩:=h;obtain⟨hl1,hl2⟩:=zAv hkz;have hlen:xs.length=kz.length:=by rw[hds.length,hl1]
 refine Jx (nQ I R.gS R.mS boot_sorted ?_ ∅ ∅)
 have vS:PE X (.Name "some" p3) (zDh 0):=vV R.n0 (.inr (.inl R.k0));have pR:=zQz (p:=p1) (pos:=p5) R.gR R.mR (eQ (rC (p:=p2) (pos:=p4) aO R.gL R.mL boot_len (eQ vS kZ hs1) ∅ ∅ hs1) kZ (by rw[hs2];rfl)) hs2
 refine callWith_kw (thn ((eQ pR kZ hs3) pn Mi s σ H (fun vs H1=>∃ r,vs=[.ref r]/\H r=none/\H1=upd H r (.rng 0 kz.length)) I ?reads) fun us s1 ⟨vs,H1,I1,r1,q1⟩=>?_) (by rw[hs3];rfl) (by rw[hs3];rfl)
 case reads=>
  refine⟨.ref a,e0,a,xs,rfl,hq.imp (bY sm) (cC sm),xs.length,rfl,fun r hr=>⟨r,rfl,hr,by rw[hlen]⟩⟩
 obtain⟨r,rfl,hr,rfl⟩:=q1;obtain⟨u,rfl,ru⟩:=zDp r1;cases ru;obtain⟨cs,cb,hcl,hcs,hcb⟩:=R.clo;have x1:Ext Hi H Hi (upd H r (.rng 0 kz.length)):=Ext.newF sm hr;refine kws_cons (zLH I1 (x1.h.t P tb) R.hd R.code R.qual R.bm hcl rfl fun f c' ctv oc vs t u H3 s3 I3 hkeep hsame hf hfs hfo hc1 hc2 hc3=>kws_nil ?_)
 have x2:Ext Hi H Hi H3:=x1.trans ⟨Same.refl _,hkeep,fun b o e=>hsame b o (x1.s _ _ e) (fun z=>by rw[z,hiP] at e;cases e),fun b e z=>absurd e z⟩
 have hr3:H3 r=some (.rng 0 kz.length):=hkeep.at aR;obtain⟨t1,t2,t3,hrg⟩:=I3.hok r _ hr3
 have I3p:Inv X (Mi++[(f,kla_obj "<lambda>" tK (zDX p6) _ lW [("some", cs),("bottom", cb)] ((X.mg "__name__").getD .none) c' ctv)]) σ H3 s3:=I3.pins_of fun p hp=>by
  rcases Q8.mp hp with hp | hp
  ·exact I3.pin p (Qx _ hp)
  ·rw[Qr.mp hp]
   exact⟨hfo,hf.1,hf.2.1,hf.2.2.1,fun v z=>by have z':Data.func _=Data.cell v:=z;cases z'⟩
 refine zJn (kz:=kz) R.calm I3p hrg h64 rfl (fun j tk k hj s' pl Ip=>?_) fun D s' out c2 π I' fD hDs hD hπ hV=>?_
 ·obtain⟨d,hd,hk⟩:=hl2 j k hj
  have hfo':=(Ip.pin _ (Qx _ (Vc _ (Qx _ (Qr.mpr rfl))))).1;obtain⟨u0,r0,ce0⟩:=zFJ Ip R.n0 e0 R.k0 hcs;obtain⟨u1,r1,ce1⟩:=zFJ Ip R.n1 e1 R.k1 hcb
  have look:∀ {x:Str} {c:Jc},List.lookup x [(("some" : Str),cs),(("bottom" : Str),cb)]=some c->(x = "some" /\ c=cs)∨(x = "bottom" /\ c=cb):=fun {x c} z=>by
   have z':=Xr z;rcases Qc.mp z' with z' | z'
   ·cases z';exact .inl ⟨rfl,rfl⟩
   ·cases Qr.mp z';exact .inr ⟨rfl,rfl⟩
  have hne:cs≠cb:=fun z=>by
   have:=Ip.ok.inj _ _ _ hcs (z ▸ hcb)
   exact absurd this ∅
  have lam:∃ t,PE (cxL X.prog X.w X.K X.mg X.base ["spot","some","bottom"] tK lW f (.ref c') [("some", cs),("bottom", cb)] X.A.in1.in1 X.stack s' H3) _ t/\t [some (.int j),some (.ref a),some (.int b)] H3 (fun v H'=>v=.int k/\H'=H3):=
   zKP (p1:=p7) (p2:=p8) (p3:=p9) (p4:=pa) (p5:=pb) (p6:=pc) (p7:=pd) (p8:=pe) (p9:=pf) (pa:=pg) (pb:=ph) (pc:=pi) (pz:=pj) rfl rfl rfl hq hds x2.s hd hk ⟨rfl,rfl⟩
  obtain⟨tt,hb,hqq⟩:=lam;refine wpAny_call (codeAny_mono (zOp (E:=fun _ _ _=>False) (p := "spot") (Ip.ok.hd R.calm) R.dp Ip.env0.in1.in1 hfo' ⟨c',oc,vs,t,rfl,(Ip.hok c' _ hc1).1,hc2,hc3⟩ rfl (by decide +kernel) rfl rfl rfl (by decide +kernel) (fun x hx=>?_) (fun x y c z1 z2=>?_) (fun x c z=>?_) rfl (fun i x v z1 z2=>?_) hb hqq) fun res s'' hres=>?_)
  ·have hx':=Xr hx
   rcases Qc.mp hx' with z | hx'
   ·cases z
   ·rcases Qc.mp hx' with z | hx'
    ·cases z;exact⟨cb,rfl⟩
    ·cases Qr.mp hx';exact⟨cs,rfl⟩
  ·rcases look z1 with⟨rfl,rfl⟩ | ⟨rfl,rfl⟩<;>rcases look z2 with⟨rfl,w⟩ | ⟨rfl,w⟩
   ·rfl
   ·exact absurd w hne
   ·exact absurd w.symm hne
   ·rfl
  ·rcases look z with⟨rfl,rfl⟩ | ⟨rfl,rfl⟩
   ·exact⟨⟨_,ce0⟩,Ip.freeC _ _ hcs⟩
   ·exact⟨⟨_,ce1⟩,Ip.freeC _ _ hcb⟩
  ·match i,z1,z2 with
   | 0,z1,z2=>cases z1;cases z2;exact .inl ⟨rfl,tk,rfl⟩
   | 1,z1,z2=>cases z1;cases z2;exact .inr ⟨by decide +kernel,cs,u0,rfl,ce0,r0⟩
   | 2,z1,z2=>cases z1;cases z2;exact .inr ⟨by decide +kernel,cb,u1,rfl,ce1,r1⟩
   | i+3,z1,z2=>simp at z2
  ·cases res with
   | error ev=>exact False.elim hres
   | ok fl=>
    cases fl with
    | ret u=>
     obtain⟨v,H',J,rv,rfl,rfl⟩:=Ip.after hres;obtain⟨t',rfl⟩:=rv;exact⟨⟨t',rfl⟩,J⟩
    | next=>exact False.elim hres
    | brk=>exact False.elim hres
    | cont=>exact False.elim hres
 ·have I'':Inv X Mi σ H3 s':=I'.unpinned
  obtain⟨f0,f1,f2,f3,f4,f5⟩:=fD;have h0:X.s₀.heap.get? D=none:=Heap.get?_none_of_le (Q5 I3.sz hDs);have hl:=hV.length
  have okL:mQ X.prog X.w (upd H3 D (.lst (π.map fun i:Nat=>V.int (i:Int)))) s'.heap D (.lst (π.map fun i:Nat=>V.int (i:Int))):=by
   refine⟨?_,out.toList,c2,hV,by rw[Array.toArray_toList];exact hD⟩
   rw[Qe,hπ.1.length_eq,Q2,Jw];omega
  have I4:=I''.track f0 h0 f1 f4 (fun p hp=>f5 p (by
   rcases Q8.mp hp with hp | hp
   ·exact Vc _ hp
   ·exact Qx _ (Vc _ hp))) okL
  refine⟨.ref D,_,I4,rfl,q π D Hi _ hπ (x2.trans (Ext.newF x2.s f0)) ⟨x2.h.none f0,x2.s.none f0,_,aR,zBD π⟩⟩
end
def spR(K:PySem.W.Frag)(mg:Str->Option Ja)(kf:List D->Res (List Int)):Sp:=fun vs H Q _=>vs.length=1/\∃ Bi ds,TB K mg Bi H/\Same Bi H/\IsDs K Bi vs ds/\match kf ds with
 | .ok kz=>∀ π a Hi' H',iD kz π->Ext Bi H Hi' H'->zLq K H Hi' H' a (kM π)->Q (.ref a) H'
 | _=>False
structure CanR (P:Jf) (w:Jg) (K:PySem.W.Frag) (mg:Str->Option Ja) (base:Je) (k:Nat) (kf:List D->Res (List Int)):Prop where
 ex:∃ f fd,FnOk P w K mg base (CX1 P w) k f fd ["some"] (spR K mg kf)/\zCT K fd ["some"] []/\PySem.W.keepIn K (.ref f)=true/\mg "ranked" = some (.ref f)
def CanR.mono{P:Jf}{w:Jg}{K:Fg_}{mg:Str->Option Ja}{base:Je}{j k:Nat}{kf:List D->Res (List Int)}(c:CanR P w K mg base j kf)(h:j<=k):CanR P w K mg base k kf:=by
 obtain⟨f,fd,F,r⟩:=c.ex;exact⟨⟨f,fd,F.mono h,r⟩⟩
structure RankDef (st:Ji):Prop where
 k0:(aF st).names.lookup ("some" : Str)=some .cell
 k1:(aF st).names.lookup ("bottom" : Str)=some .cell
 gS:(aF st).names.lookup ("sorted" : Str)=some .globalImplicit
 gR:(aF st).names.lookup ("range" : Str)=some .globalImplicit
 gL:(aF st).names.lookup ("len" : Str)=some .globalImplicit
 clo:∀ L f cdv,∃ cs cb,closureFor lW (envOfC "ranked" (aF st) L f cdv)=pure [(("some" : Str),cs),(("bottom" : Str),cb)]/\(envOfC "ranked" (aF st) L f cdv).cells.lookup ("some" : Str)=some cs/\(envOfC "ranked" (aF st) L f cdv).cells.lookup ("bottom" : Str)=some cb
section
variable{P:Jf}{w:Jg}{K:Fg_}{mg:Str->Option Ja}{base:Je}{st s1 s2:Ji}{f:Jc}{fd:FuncData}{k:Nat}{sa sb:Sv}{p1 p2 p3 p4 p5 p6 p7 p8 p9 pa pb pc pd pe pf pg ph pi pj pk pl pm pn po:Pos}
def zOD{T:Jc}(F:Fn K mg "ranked" st ["some"] f fd)(S:FnScope ["some","bottom","each"] ["some"] (aF st))(D:RankDef st)(hT:qN K mg T)(hB:BMn base mg)(mS:mg "sorted" = none)(mR:mg "range" = none)(mL:mg "len" = none)
  (hbody:fJ st=[s1,s2,.Return (some (.Call (.Name "sorted" pk) [.Call (.Name "range" p1) [.Call (.Name "len" p2) [.Name "some" p3] [] p4] [] p5] [⟨some "key", .Lambda (zDX p6) (.BinOp (.Subscript (.Subscript (.Name "some" p7) (.Name "spot" p8) p9) (.Constant (.int 0) 0 pa) pb) .Mult
   (.BinOp (.Name "bottom" pc) .FloorDiv (.Subscript (.Subscript (.Name "some" pd) (.Name "spot" pe) pf) (.Constant (.int 1) 0 pg) ph) pi) pj) lW pl,pm⟩] pn)) po])
  (h:∀(cdv:Ja)(A:Jh)(outer:List Env)(s:Jb)(H:Hp)(E:XK)(G:Gx),Good (BX P w K mg base ["some","bottom","each"] "ranked" st f cdv A outer s H E) G k->zGp (BX P w K mg base ["some","bottom","each"] "ranked" st f cdv A outer s H E) G->
   PSd (BX P w K mg base ["some","bottom","each"] "ranked" st f cdv A outer s H E) G s1 sa/\PSd (BX P w K mg base ["some","bottom","each"] "ranked" st f cdv A outer s H E) G s2 sb):
  CanR P w K mg base (k+1) (zAo sa sb):=by
 refine⟨f,fd,?_,F.bd,F.kp,F.mg⟩
 obtain⟨f',oc',od',fd',osl',c,t1,t2,t3,t4⟩:=id hT;have ef:f'=f:=by have:=t1.symm.trans F.mg;exact Value.ref.inj (Vj this)
 subst ef;obtain⟨oc,od,kV,doc,pm',an,cdv,ct,osl,rfl,lk,hcd⟩:=F.fn.ex
 have efd:cdv=.ref c:=by
  rw[lk] at t2;cases t2;exact t3
 subst efd;refine zQg lk hcd S (fun vs H Q E h=>h.1) fun A outer s H vs Q E hr hsp=>?_
 obtain⟨hl,Bi,ds,tb,sm,hd,hq⟩:=hsp;have hg:=zIf (P:=P) (w:=w) (K:=K) (mg:=mg) (base:=base) (N:=["some","bottom","each"]) (outer:=outer) (H:=H) (Bi:=Bi) (E:=E) hr tb;obtain⟨h1,h2⟩:=h (.ref c) A outer s H E _ hg zFI
 have RC:RankCx (BX P w K mg base ["some","bottom","each"] "ranked" st f' (.ref c) A outer s H E) T c:=
  ⟨rfl,hr.depth,rfl,rfl,D.k0,D.k1,rfl,t4,by show(("ranked" : Str) ++ ".<locals>.") ++ "<lambda>" = tK;decide +kernel,hB,D.clo _ _ _,D.gS,mS,D.gR,mR,D.gL,mL⟩
 have body:∀ G,PSs (BX P w K mg base ["some","bottom","each"] "ranked" st f' (.ref c) A outer s H E) [s1] (tS (BX P w K mg base ["some","bottom","each"] "ranked" st f' (.ref c) A outer s H E) G sa)->PS (BX P w K mg base ["some","bottom","each"] "ranked" st f' (.ref c) A outer s H E) s1 (tS (BX P w K mg base ["some","bottom","each"] "ranked" st f' (.ref c) A outer s H E) G sa)->PS (BX P w K mg base ["some","bottom","each"] "ranked" st f' (.ref c) A outer s H E) s2 (tS (BX P w K mg base ["some","bottom","each"] "ranked" st f' (.ref c) A outer s H E) G sb)->
   PSs (BX P w K mg base ["some","bottom","each"] "ranked" st f' (.ref c) A outer s H E) (fJ st) (zSD (tS (BX P w K mg base ["some","bottom","each"] "ranked" st f' (.ref c) A outer s H E) G sa) (zSD (tS (BX P w K mg base ["some","bottom","each"] "ranked" st f' (.ref c) A outer s H E) G sb) (zTL (zPV (BX P w K mg base ["some","bottom","each"] "ranked" st f' (.ref c) A outer s H E) T)))):=fun G _ h1 h2=>by
  rw[hbody];exact tZ h1 (tZ h2 (zDD (zEG (zPa RC))))
 refine⟨_,body _ (zDD h1) h1 h2,?_⟩
 cases ek:zAo sa sb ds with
 | no=>rw[ek] at hq;exact hq.elim
 | err c=>rw[ek] at hq;exact hq.elim
 | ok kz=>
  rw[ek] at hq;unfold zAo at ek;split at ek
  case isFalse=>cases ek
  split at ek
  case h_2=>cases ek
  rename_i ρ1 e1
  split at ek
  case h_2=>cases ek
  rename_i ρ2 e2
  refine⟨L3.start 3 ds,Bi,zBZ (N:=["some","bottom","each"]) sm hd,?_⟩
  rw[e1];intro a1 Hi1 H1 sm1 R1;refine⟨ρ1,Hi1,R1,?_⟩
  rw[e2];intro a2 Hi2 H2 sm2 R2;unfold zFk at ek;split at ek
  case h_2=>cases ek
  rename_i rows b z0 z1
  split at ek
  case isFalse=>cases ek
  rename_i h64
  obtain⟨v,q0,r0⟩:=R2.slot 0 _ z0;obtain⟨v1,q1,r1⟩:=R2.slot 1 _ z1;obtain⟨a,xs,rfl,g1,g2⟩:=r0.lstI;have r1':=r1.intI;subst r1';obtain⟨tb2,n2⟩:=hg.tb.ext R2.ext T hT;exact⟨Hi2,a,xs,rows,b,kz,q0,q1,.inl g1,g2,R2.s,ek,by rw[(zAv ek).1];exact h64,tb2,n2,fun π r Hi' H' hπ x nl=>hq π r Hi' H' hπ (R2.ext.trans x) ⟨R2.ext.h.none nl.1,nl.2⟩⟩
end
section
variable{X:Cx}{G:Gx}{e:Expr}{es:List Expr}{pos p:Pos}{fs:Fv}{k:Nat}{kf:List D->Res (List Int)}{tg:Expr}{body rest:List Ji}{g:Gv}{sa sb:Sv}
def tIr(X:Cx)(G:Gx)(fs:Fv)(kf:List D->Res (List Int)):TI:=fun r H R=>∃ ρ Hi,lR X G Hi H r ρ/\Out G Hi H ((fs ρ).bind kf) fun kz Hi' H'=>∀ π J,iD kz π->wD X.K Hi' J (kM π)->R J H'
def zNE(W:Good X G k)(c:CanR X.prog X.w X.K X.mg X.base k kf)(hkf:∀ ds c,kf ds≠.err c)(hk1:∀ ds,kf ds≠.no->ds.length=1)(hg:Gl X "ranked")(ha:PAd X G [e] fs)(he:starEach [e] X.env=(false,eval e X.env)::starEach [] X.env:=by rfl):
  PI X tg (.Call (.Name "ranked" p) [e] [] pos) (tIr X G fs kf):=by
 obtain⟨f,fd,F,b,kp,hm⟩:=c.ex;refine PI.wk (zOT (zDw F W.room hg hm kp b .nil W.pass ha ∅ he rfl)) fun r H R q=>?_
 obtain⟨ρ,Hi,Rl,ou⟩:=q;refine zKs Rl ou fun vs ds Hi1 H1 e1 R1 r1 o1=>?_
 rw[Vf];have hno:kf ds≠.no:=fun z=>by rw[z] at o1;exact o1
 refine⟨by rw[r1.length];exact hk1 ds hno,Hi1,ds,W.tb.ext R1.ext,R1.s,r1,?_⟩
 cases z:kf ds with
 | no=>exact absurd z hno
 | err c=>exact absurd z (hkf ds c)
 | ok kz=>
  rw[z] at o1;intro π a Hi2 H2 hπ e2 n;obtain⟨n1,n2,xs,n3,n4⟩:=n;have x3:=e2.hold n1 n3 n2;refine⟨a,rfl,⟨xs,SqL.of n3⟩,o1 _ _ x3 π _ hπ (zCI (SqL.of aR) (n4.mono (cJ n2 _)))⟩
def zHO(W:Good X G k)(c:CanR X.prog X.w X.K X.mg X.base k kf)(hkf:∀ ds c,kf ds≠.err c)(hk1:∀ ds,kf ds≠.no->ds.length=1)(hg:Gl X "ranked")(ha:PAd X G [e] fs)(hgt:PGd X G tg g)(hge:∀ d ρ c,g d ρ≠.err c)(hb:eN X G body sa)(hr:eN X G rest sb)
  (he:starEach [e] X.env=(false,eval e X.env)::starEach [] X.env:=by rfl) {pf:Pos} (hs:∀ x,foldedSetIterable (.Call (.Name "ranked" p) [e] [] pos) X.env x=pure x:=by intro _;rfl):
  eN X G (.For tg (.Call (.Name "ranked" p) [e] [] pos) body [] pf::rest) (zHn fs kf g sa sb):=by
 refine PSs.wk (tZ (zMf W.own W.calm (zNE W c hkf hk1 hg ha he) hgt hb hs) hr) fun E r H q=>?_
 obtain⟨ρ,Hi,R,h⟩:=q;refine⟨ρ,Hi,R,oK R h fun kz Hi1 H1 _ e1 h1 π J hπ gv=>?_⟩
 have hn:pA kz (fun π=>bA (fun ρ=>loop g sa (kM π) ρ) sb ρ)≠.no:=fun z=>by rw[z] at h1;exact h1
 rw[<-zGS hn hπ] at h1;exact zMA hge (R.grow e1) (zQL (sa:=fun ρ=>loop g sa (kM π) ρ) h1) gv
end
def zPI(K:PySem.W.Frag)(mg:Str->Option Ja):Sp:=fun vs H Q _=>∃(a:Jc)(ns:List Int)(Bi:Hp),vs=[.ref a]/\TB K mg Bi H/\Same Bi H/\SqL K Bi a (ns.map V.int)/\ns.length<=63/\(∃ m,m<=1048576/\∀ n∈ns,n.natAbs<2^m)/\∀ H',Q (.bl true) H'
def zPw{P:Jf}{w:Jg}{K:Fg_}{mg:Str->Option Ja}{base:Je}{k:Nat}{m:Mir}{f:Jc}{fd:FuncData}(F:FnOk P w K mg base (CX1 P w) k f fd ["script"] (spM K mg 1 m))
  (h:∀ ns:List Int,ns.length<=63->(∃ m,m<=1048576/\∀ n∈ns,n.natAbs<2^m)->m [.lst (ns.map D.int)]=.ok (.v (.bl true))):FnOk P w K mg base (CX1 P w) k f fd ["script"] (zPI K mg):=by
 refine F.imp fun vs H Q E q=>?_
 obtain⟨a,ns,Bi,rfl,tb,sm,hS,hl,hbg,q⟩:=q;refine⟨rfl,Bi,[.lst (ns.map D.int)],tb,sm,.cons (.lst hS (zCf ns)) .nil,?_⟩
 rw[h ns hl hbg];intro v Hi' H' e r;rw[r.blI];exact q H'
def zOF{P:Jf}{w:Jg}{K:Fg_}{mg:Str->Option Ja}{base:Je}{k:Nat}{m:Mir}{f:Jc}{fd:FuncData}(F:FnOk P w K mg base (CX1 P w) k f fd ["script"] (spM K mg 1 m))
  (h:∀ ns:List Int,ns.length<=63->m [.lst (ns.map D.int)]=.ok (.v (.bl true))):FnOk P w K mg base (CX1 P w) k f fd ["script"] (zPI K mg):=zPw F fun ns hl _=>h ns hl
def zLp{K:Fg_}{mg:Str->Option Ja}{h:Je}{T T':Jc}(X:K.In h)(a:qN K mg T)(b:qN K mg T'):T'=T:=by
 obtain⟨f,oc,od,fd,osl,c,a1,a2,a3,a4⟩:=a;obtain⟨f',oc',od',fd',osl',c',b1,b2,b3,b4⟩:=b;rw[a1] at b1;cases b1
 rw[a2] at b2;cases b2
 rw[a3] at b3;cases b3
 obtain⟨o,vs,_,_,_,_,_,_,_,e1,_,e3,e4,_⟩:=a4 h X;obtain⟨o',vs',_,_,_,_,_,_,_,f1,_,f3,f4,_⟩:=b4 h X;rw[e1] at f1;cases f1
 rw[e3] at f3;cases f3
 rw[e4] at f4;cases f4
 rfl
def zJb{P:Jf}{w:Jg}{K:Fg_}{mg mb:Str->Option Ja}{CX:CXT}{k:Nat}{fa a T:Jc}{fd:FuncData}{x:Str}{s₁:Jb}{vs:List Ja}{ns:List Int}
  (KX:K.In s₁.heap) (hns:s₁.heap.Ns mainGlobals mg) (hb:s₁.heap.Ns builtinsNs mb) (hbb:∀ x:Str,x ≠ "__name__" -> mb x=bootBuiltins x) (hlim:s₁.heap.NoLimit) (hg:s₁.gens=#[]) (hbm:BMn s₁.heap mg) (hT:s₁.heap.get? T=some (tabObj #[])) (hKT:K.lookup T=none) (hP:qN K mg T)
  (ha:s₁.heap.get? a=some { cls:=.type "list", data:=.seq vs.toArray }) (hi:IntsAre vs ns) (hl:ns.length<=63) (hbg:∃ m,m<=1048576/\∀ n∈ns,n.natAbs<2^m) (hr:Room k callerA)
  (F:∀ base:Je,K.In base->base.Ns mainGlobals mg->BMn base mg->FnOk P w K mg base CX k fa fd [x] (zPI K mg)) (hbind:∀(s:Jb)(u:Ja),BindsTo s fd ⟨[u],[]⟩ [(x,u)])
  (hCX:∀ H e s',CX [] H s₁ (fun _ _ _=>False) e s'->False):
  codeAny (model P w) callerA (.call (.ref fa) ⟨[.ref a],[]⟩) (fun r s'=>r=.ok (.ret (.bool true))/\OldK s₁.heap s'.heap/\s'.os=s₁.os/\AllBare s'.gens) s₁:=by
 have rv:=zCB hi;have lenV:=hi.length;have haT:a≠T:=fun z=>by rw[z,hT] at ha;cases ha
 have core:∀ Bi:Hp,zUb Bi->SqL K Bi a (ns.map V.int)->HOk P w Bi s₁.heap->(∀ b,Bi b≠none->b=a)->(Bi a≠none->K.lookup a=none)->
   codeAny (model P w) callerA (.call (.ref fa) ⟨[.ref a],[]⟩) (fun r s'=>r=.ok (.ret (.bool true))/\OldK s₁.heap s'.heap/\s'.os=s₁.os/\AllBare s'.gens) s₁:=by
  intro Bi hO hS hokB hA hK
  have hBT:Bi T=none:=by
   cases q:Bi T with
   | none=>rfl
   | some u=>exact absurd (hA T (by rw[q];simp)).symm haT
  generalize hHdef:upd Bi T (.tbl #[])=H;have HT:H T=some (.tbl #[]):=by rw[<-hHdef,aR]
  have Hne:∀ {b},b≠T->H b=Bi b:=fun z=>by rw[<-hHdef,aV z]
  have sm:Same Bi H:=fun b o e=>by rw[Hne (aY e hBT)];exact e
  have hok:HOk P w H s₁.heap:=fun b u e=>by
   by_cases hb:b=T
   ·subst hb;rw[HT] at e;cases e;exact hT
   ·rw[Hne hb] at e
    exact(hokB b u e).stay (fun c v _ q=>q) (fun c q=>sm _ _ q) fun c xs q=>sm _ _ q
  have only:∀ {b:Jc} {o:Obj},s₁.heap.get? b=some o->(∀ xs n,o.data≠.seq xs n)->(∀ vs,o.data≠.fields vs)->H b=none:=fun {b o} e d1 d2=>by
   by_cases hb:b=T
   ·subst hb;rw[hT] at e;cases e;exact absurd rfl (d2 #[])
   ·rw[Hne hb]
    cases q:Bi b with
    | none=>rfl
    | some u=>
     have e':b=a:=hA b (by rw[q];simp)
     subst e';rw[ha] at e;cases e
     exact absurd rfl (d1 _ _)
  have base_of:∀ {b:Jc} {o:Obj},s₁.heap.get? b=some o->H b=none->(zKq s₁.heap H).get? b=some o:=fun e n=>zLO e n
  have nsK:∀ {b:Jc} {m:Str->Option Ja},s₁.heap.Ns b m->(zKq s₁.heap H).Ns b m:=fun {b m} ⟨o,es,ep,e,d,r⟩=>⟨o,es,ep,base_of e (only e (fun xs n z=>by rw[d] at z;cases z) (fun vs z=>by rw[d] at z;cases z)),d,r⟩
  have hKb:K.In (zKq s₁.heap H):=fun b o e=>base_of (KX b o e) (by
   by_cases hb:b=T
   ·subst hb;rw[hKT] at e;cases e
   ·rw[Hne hb]
    cases q:Bi b with
    | none=>rfl
    | some u=>
     have e':b=a:=hA b (by rw[q];simp)
     subst e'
     rw[hK (by rw[q];simp)] at e;cases e)
  have hBb:BMn (zKq s₁.heap H) mg:=by
   obtain⟨bm,ob,b1,b2,b3,b4,b5,b6⟩:=hbm;exact⟨bm,ob,b1,b2,base_of b3 (only b3 (fun xs n z=>by rw[b6] at z;cases z) (fun vs z=>by rw[b6] at z;cases z)),b4,b5,b6⟩
  have hM:Mod K mg (zKq s₁.heap H):=⟨hKb,nsK hns,⟨mb,nsK hb,hbb⟩,let ⟨mc,h1,h2⟩:=hlim;⟨mc,nsK h1,h2⟩⟩;have e0:Env0 P w K mg (zKq s₁.heap H) callerA [] s₁ H:=⟨rfl,hM,fun b o e=>zPr e,Uj (zHB _ _),trivial,fun b hb=>absurd (show b∈([]:List Jc) from hb) (by simp),hok,.of_eq hg⟩
  have htb:TB K mg Bi H:=fun T' h'=>by
   have e':=zLp KX hP h';subst e';exact⟨⟨#[],HT,trivial,fun pos cv z=>by cases z⟩,hBT⟩
  refine codeAny_mono ((F _ hKb (nsK hns) hBb).run callerA [] s₁ H ⟨[.ref a],[]⟩ [.ref a] [.ref a] (fun v _=>v=.bl true) (fun _ _ _=>False) hr e0 (hbind s₁ (.ref a)) (.cons rfl .nil) ⟨a,ns,Bi,rfl,htb,sm,hS,hl,hbg,fun _=>rfl⟩) fun r s' h=>?_
  cases r with
  | error e=>exact(hCX H e s' h).elim
  | ok fl=>
   cases fl with
   | next=>exact False.elim h
   | brk=>exact False.elim h
   | cont=>exact False.elim h
   | ret u=>
    obtain⟨v,H',os,bare,un,hok',r',q⟩:=h;have q':v=.bl true:=q;subst q';obtain rfl:u=Value.bool true:=r';refine⟨rfl,⟨fun b o e=>?_,fun b o e=>un.there b o e (by simp)⟩,os,bare⟩
    by_cases hbT:b=T
    ·subst hbT
     obtain⟨more,z⟩:=un.tbls b _ HT;have z2:s'.heap.get? b=some { cls:=.none,data:=.fields (#[]++more) }:=hok' b _ z;rw[hT] at e;cases e
     obtain⟨f,oc,od,fd',osl,c,a1,a2,a3,a4⟩:=hP;obtain⟨o,vs,_,_,_,_,_,_,_,e1,e2,e3,e4,_⟩:=a4 _ KX;exact .inr (.inl ⟨⟨c,o,vs,e1,e2,e3,e4⟩,rfl,#[],more,rfl,z2⟩)
    ·refine .inl ?_
     cases q:H b with
     | none=>exact un.keep b o e q (by intro z;exact absurd (show b∈([]:List Jc) from z) (by simp)) (by simp)
     | some u=>
      rw[Hne hbT] at q;rcases hO b with z | ⟨ob,xs,z⟩
      ·rw[q] at z;cases z
      ·have z2:=un.frzs b ob _ (by rw[Hne hbT];exact z)
       obtain⟨e1,_⟩:=hokB b _ z;obtain⟨e2,_⟩:=hok' b _ z2;rw[e] at e1;cases e1
       exact e2
 cases hk:K.lookup a with
 | some o=>
  have e:=KX a o hk;rw[ha] at e;cases e;refine core (fun _=>none) (fun _=>.inl rfl) (.inr ⟨_,vs.toArray,_,hk,rfl,rfl,rfl,by rw[Ql,lenV,Jw];omega,by simpa using rv⟩) (fun b u z=>by have z':(none:Option HO)=some u:=z;cases z') (fun b z=>absurd rfl z) fun z=>absurd rfl z
 | none=>
  refine core (fun b=>if b=a then some (.frz { cls:=.type "list", data:=.seq vs.toArray } (.lst (ns.map V.int))) else none) (fun b=>?_) (.inl (.inr ⟨{ cls:=.type "list", data:=.seq vs.toArray },Jk rfl⟩)) (fun b u z=>?_) (fun b z=>?_) fun _=>hk
  ·by_cases hb:b=a
   ·exact .inr ⟨_,_,Jk hb⟩
   ·exact .inl (Jl hb)
  ·by_cases hb:b=a
   ·have z':=(Jk hb).symm.trans z
    cases z'
    subst hb;exact⟨ha,by rw[Qe,Jw];omega,vs,_,rv,ha⟩
   ·have z':=(Jl hb).symm.trans z
    cases z'
  ·by_cases hb:b=a
   ·exact hb
   ·exact absurd (Jl hb) z
def zNg:∀ {ns:List Int} {n:Int},n∈ns->(WData.int n).weight<=WData.weightAll (ns.map WData.int)
 | a::r,n,h=>by
  rw[Qo,WData.weightAll];rcases Qc.mp h with rfl | h
  ·omega
  ·have:=zNg h
   omega
def zOW{ns:List Int}(h:WData.layableAll [WData.list (ns.map WData.int)]=true):(∃ m,m<=1048576/\∀ n∈ns,n.natAbs<2^m):=by
 refine⟨1048576,Qf _,fun n hn=>?_⟩
 have w:WData.weightAll (ns.map WData.int)<=2^20:=by
  unfold WData.layableAll WData.layable at h;simp only[List.all_cons,List.all_nil,Bool.and_true,V8,J9] at h;have:=h.2
  rw[WData.weight] at this;exact this
 have a:=zNg hn;rw[WData.weight] at a;by_cases z:n=0
 ·subst z
  exact Nat.two_pow_pos _
 ·rw[Jl (by simpa using z)] at a
  exact Qs Nat.lt_log2_self (V9 ∅ (by omega))
open PySem.Calls in
def zBR{l:OpenLaw}{n:Nat}{q:Jf}{loose:List Str}{XP:(Str->Option Ja)->Je->Prop}{YP:Jg->Je->Prop}{d:DefRec}
  (hn:l.most=some n) (hdf:d.params.defaults=[])
  (call:∀(w:Jg)(s₀ s₁:Jb)(mg mb:Str->Option Ja)(fa:Jc)(o:Obj)(pm cd doc:Ja)(a:Jc)(vs:List Ja)(ns:List Int),(∃ m,m<=1048576/\∀ n∈ns,n.natAbs<2^m)->
   Ground q loose [] XP w s₀ mg mb s₁.heap->YP w s₁.heap->
   s₁.heap.get? fa=some o->o.data=.func (docDef d.name d.params d.body d.scope pm cd doc)->s₁.heap.CodeRec cd d.name->mg d.name=some (.ref fa)->
   s₁.heap.get? a=some { cls:=.type "list", data:=.seq vs.toArray }->IntsAre vs ns->ns.length<=n->s₁.gens=#[]->
   codeAny (model l.prog w) callerA (.call (.ref fa) ⟨[.ref a],[]⟩) (fun r s'=>r=.ok (.ret (.bool true))/\OldK s₁.heap s'.heap/\s'.os=s₁.os/\AllBare s'.gens) s₁):
  WalkO q loose XP YP l.row.toRowW d [] (fun f vs=>PySem.call f vs):=by
 intro w s₀ s₁ mg mb G Y fa o pm cd doc dV kV ho hd hcd hD hmg hg args vals as hpre hlay hrd hwl hlo;obtain rfl:dV=.none:=Dflts.none hD hdf;obtain rfl:kV=.none:=Dflts.noKw hD;obtain⟨a,vs,ns,rfl,rfl,hobj,hints,hlen⟩:=Att.script_of hn hpre hwl;refine enter_call (codeAny_mono (call w s₀ s₁ mg mb fa o pm cd doc a vs ns (zOW hlay) G Y ho (fd_plain hd) hcd hmg hobj hints hlen hg) fun r s' hq=>?_)
 obtain⟨rfl,h2,h3,h4⟩:=hq;exact⟨.inl ⟨.bool true,.bool true,[],rfl,fun _=>rfl,.bool true,Att.post_true l _,fun _=>⟨List.Pairwise.nil,fun _ hm=>(nomatch hm)⟩⟩,h2,h3,h4⟩
def zTb{l:PySem.W.OpenLaw}{k:Nat}{q:Jf}{loose:List Str}{XP:(Str->Option Ja)->Je->Prop}{YP:Jg->Je->Prop}{d:DefRec}{K:Params->PySem.W.Frag}{T:Jc}(hn:l.most=some 63)(hdf:d.params.defaults=[])(hr:Room k callerA)
  (hY:∀(w:Jg)(h:Je),YP w h->(K w.params).In h) (hT:∀(w:Jg)(h:Je),YP w h->h.get? T=some (tabObj #[]))
  (F:∀(w:Jg)(mg:Str->Option Ja)(fa:Jc)(h:Je),(K w.params).In h->h.Ns mainGlobals mg->mg d.name=some (.ref fa)->
   (K w.params).lookup T=none/\qN (K w.params) mg T/\∃ fd:FuncData,(∀(s:Jb)(u:Ja),BindsTo s fd ⟨[u],[]⟩ [("script", u)])/\∀ base:Je,(K w.params).In base->base.Ns mainGlobals mg->BMn base mg->FnOk l.prog w (K w.params) mg base (CX1 l.prog w) k fa fd ["script"] (zPI (K w.params) mg)):
  PySem.W.WalkO q loose XP YP l.row.toRowW d [] (fun f vs=>PySem.call f vs):=by
 refine zBR hn hdf fun w s₀ s₁ mg mb fa o pm cd doc a vs ns hbg G Y ho hd hcd hmg hobj hints hlen hg=>?_
 have KX:=hY w _ Y;obtain⟨h1,h2,fd,hb,hF⟩:=F w mg fa _ KX G.T.g hmg
 exact zJb KX G.T.g G.T.b G.T.builtins G.T.nolimit hg G.T.bmain (hT w _ Y) h1 h2 hobj hints hlen hbg hr hF hb fun _ _ _ z=>by
  obtain⟨_,_,_,_,_,z⟩:=z;exact z
def Itq(K:PySem.W.Frag)(a:Jc)(n:Nat):It:=
 ⟨fun i H=>∃ xs x,SqL K H a xs/\xs.length=n/\xs.reverse[i]?=some x,fun i H x H'=>H'=H/\∀ xs,SqL K H a xs->xs.reverse[i]?=some x,fun i H=>∃ xs,SqL K H a xs/\n<=i⟩
def rix(n i:Nat):Int:=(n:Int)-1-((min i n:Nat):Int)
def zIg{P:Jf}{w:Jg}{K:Fg_}{tg:Expr}(a it:Jc)(n:Nat):Turn P w K tg (Itq K a n) [it] it (fun i h=>h.IsRevIter it a (rix n i)) where
 mem:=by simp
 obj:=fun i h st b hb=>by
  have e:b=it:=by simpa using hb
  subst e;obtain⟨o,e,c,d⟩:=st;exact⟨o,e,fun v z=>by rw[d] at z;cases z⟩
 keep:=fun i h h' st k=>st.at fun o e=>k it (by simp) o e
 item:=by
  intro X hP hw hK hc i Mi s r H E I hf st hg;subst hP hw hK;obtain⟨xs,x,hq,hn',hx⟩:=hg;obtain⟨its,rv,p,hz⟩:=I.list hq
  have hi:i<xs.length:=by
   have:=(Qy.mp hx).1
   rwa [Vo] at this
  have hx':xs[n-1-i]?=some x:=by
   rw[Uk hi,hn'] at hx;exact hx
  obtain⟨u,hu,ru⟩:=rv.get hx';obtain⟨f0,f1,f2,f3,f4,f5⟩:=hf it (by simp)
  have st0:s.heap.IsRevIter it a ((n-1-i:Nat):Int):=by
   have e:rix n i=((n-1-i:Nat):Int):=by unfold rix;rw[Y5 (by omega)];omega
   rw[<-e];exact st
  refine wpAny_pyNext_rev_item (items:=its.toArray) st0 p.isList (x:=u) (by simpa using hu) fun h' st' sb=>?_
  have I1:Inv X Mi r H { s with heap:=h' }:=I.turned (t':=s.toks) (fun b o hb e=>(sb.2 b hb).trans e) f0 f1 f3 f4 f5
  obtain⟨o,e,c,d⟩:=id st'
  have st2:h'.IsRevIter it a (rix n (i+1)):=by
   have e:rix n (i+1)=((n-1-i:Nat):Int)-1:=by unfold rix;rw[Y5 (by omega)];omega
   rw[e];exact st'
  exact⟨u,rfl,zLP (s:={ s with heap:=h' }) e c d ∅ ⟨x,H,I1,ru,⟨rfl,fun ys hy=>by rw[I.list_inj hy hq];exact hx⟩,st2,fun b hb=>(hf b hb).1⟩⟩
 done:=by
  intro X hP hw hK hc i Mi s r H E I hf st hg;subst hP hw hK;obtain⟨xs,hq,hx⟩:=hg;obtain⟨f0,f1,f2,f3,f4,f5⟩:=hf it (by simp)
  have st0:s.heap.IsRevIter it a (-1):=by
   have e:rix n i=-1:=by unfold rix;rw[Wb hx];omega
   rw[<-e];exact st
  exact wpAny_pyNext_rev_end (I.ok.hd hc) st0 fun h' eb=>⟨rfl,I.turned (t':=s.toks) (fun b o hb e=>eb b o hb e) f0 f1 f3 f4 f5⟩
 self:=fun _ _ _ _ _ st h=>Mf st h
section
variable{X:Cx}{G:Gx}{fs:Fv}{f:Ev}
def iRw(K:PySem.W.Frag)(ta:TA):TI:=fun c H R=>ta c H fun vs H1=>∃ a xs,vs=[.ref a]/\SqL K H1 a xs/\R (Itq K a xs.length) H1
def zOj{tg a:Expr}{ta:TA}{p pos:Pos}(hg:Gl X "reversed")(hm:X.mg "reversed" = none)(ha:PA X [a] ta)(hs:starEach [a] X.env=[(false,eval a X.env)]:=by rfl):PI X tg (.Call (.Name "reversed" p) [a] [] pos) (iRw X.K ta):=by
 intro Mi s c H R I h;refine Call_ (nQ I hg hm zLv (X4 (thn (ha pos Mi s c H _ I h) fun us s1 ⟨vs,H1,I1,r1,q1⟩=>?_) hs rfl))
 obtain⟨t,xs,rfl,hq,q⟩:=q1
 cases r1 with
 | cons r rr=>
  cases rr;cases r;obtain⟨its,rv,pt,hz⟩:=I1.list hq;have hl:=rv.length;refine call_reversed_list (items:=its.toArray) pt.isList ?_
  have hR:(s1.heap.push (revObj t ((its.toArray.size:Int)-1))).IsRevIter s1.heap.objs.size t (rix xs.length 0):=
   ⟨_,Heap.get?_push_size _ rfl,rfl,by unfold rix;rw[hl,Ql];simp[revObj]⟩
  refine Mf (s:={ s1 with heap:=_ }) hR ?_
  refine⟨s1.heap.objs.size,[s1.heap.objs.size],_,_,H1,rfl,I1.kept (t':=s1.toks) fun b o e=>Heap.get?_push_of_some _ e,zIg t _ xs.length,hR,fun b hb=>?_,q⟩
  have e:b=s1.heap.objs.size:=by simpa using hb
  subst e;exact I1.fpOk (Qf _) (I1.hok.fresh (Qf _))
def zGb{K:Fg_}{Hi:Hp}{a:Jc}{xs:List V}{ds:List D}(h1:SqL K Hi a xs)(h2:IsDs K Hi xs ds):wD K Hi (Itq K a xs.length) ds.reverse:=fun Hi1 H1 s1 s2 i=>by
 have h3:=bY (s1.trans s2) h1;have hl:=h2.length;refine⟨fun hl'=>⟨xs,h3,by rw[Vo] at hl';omega⟩,fun d hd=>?_⟩
 have hi:i<ds.length:=by
  have:=(Qy.mp hd).1
  rwa [Vo] at this
 rw[Uk hi] at hd;obtain⟨v,hv,r⟩:=h2.at hd;have hv':xs.reverse[i]?=some v:=by rw[Uk (by omega),hl];exact hv
 refine⟨⟨xs,v,h3,rfl,hv'⟩,fun x H2 y=>?_⟩
 obtain⟨e,y⟩:=y;subst e;have:=y xs h3
 rw[hv'] at this;cases this;exact⟨Hi1,Ext.refl s2,r.mono s1⟩
def zRI{tg a:Expr}{p pos:Pos}(hg:Gl X "reversed")(hm:X.mg "reversed" = none)(ha:PEd X G a f)(hst:starEach [a] X.env=[(false,eval a X.env)]:=by rfl):PId X G tg (.Call (.Name "reversed" p) [a] [] pos) (zKy f):=PI.wk (zOj hg hm (eQ ha kZ (by rw[hst];rfl)) hst) fun c H Q q=>by
 obtain⟨ρ,Hi,R,ou⟩:=q;refine zBu R ou fun v d Hi1 H1 e1 R1 r1 o1=>?_
 cases d with
 | lst ds=>
  obtain⟨a,xs,rfl,h1,h2⟩:=r1.lstI;exact⟨a,xs,rfl,bY R1.s h1,o1.here R1.s _ (zGb h1 h2)⟩
 | _=>exact o1.elim
end
section
variable{X:Cx}{G:Gx}
def bT{i:Int}{j pos}:PEd X G (.Constant (.int i) j pos) (eC (.int i)):=lL zJf fun _=>.int _
def aL(i:Nat){x:Str}{pos:Pos}(hN:X.N[i]?=some x:=by rfl)(hv:Vis X.env.scope x:=by first | exact Or.inl rfl | exact Or.inr (Or.inl rfl) | exact Or.inr (Or.inr rfl))(hd:(x==("__debug__" : Str))=false:=by decide)
  (hcd:(x==("__classdict__" : Str))=false:=by decide):PEd X G (.Name x pos) (aG i):=zQt i (pv i hN hv hd hcd)
def mT(n:Nat){x:Str}{pos p2:Pos}{i:Int}{j p1}(hN:X.N[n]?=some x:=by rfl)(hv:Vis X.env.scope x:=by first | exact Or.inl rfl | exact Or.inr (Or.inl rfl) | exact Or.inr (Or.inr rfl))(hd:(x==("__debug__" : Str))=false:=by decide)
  (hcd:(x==("__classdict__" : Str))=false:=by decide):PEd X G (.Subscript (.Name x pos) (.Constant (.int i) j p1) p2) (eOp oIx (aG n) (eC (.int i))):=fH bG oW (aL n hN hv hd hcd) bT (fun _ _=>rfl)
end
section
variable{X:Cx}{G:Gx}{a:Expr}{f:Ev}
def zUg{i:Int}{j p1 p2}(h:PEd X G a f):PEd X G (.Subscript a (.Constant (.int i) j p1) p2) (eOp oIx f (eC (.int i))):=fH bG oW h bT (fun _ _=>rfl)
def rG(h:PEd X G a f)(n:Nat){x:Str}{pos p2:Pos}(hN:X.N[n]?=some x:=by rfl)(hv:Vis X.env.scope x:=by first | exact Or.inl rfl | exact Or.inr (Or.inl rfl) | exact Or.inr (Or.inr rfl))(hd:(x==("__debug__" : Str))=false:=by decide)
  (hcd:(x==("__classdict__" : Str))=false:=by decide):PEd X G (.Subscript a (.Name x pos) p2) (eOp oIx f (aG n)):=fH bG oW h (aL n hN hv hd hcd) (fun _ _=>rfl)
def bB(n:Nat){x:Str}{pos:Pos}(hN:X.N[n]?=some x:=by rfl)(hv:Vis X.env.scope x:=by first | exact Or.inl rfl | exact Or.inr (Or.inl rfl) | exact Or.inr (Or.inr rfl))(hd:(x==("__debug__" : Str))=false:=by decide)
  (hcd:(x==("__classdict__" : Str))=false:=by decide):PAd X G [.Name x pos] (aB (aG n) aNil):=aA (aL n hN hv hd hcd) aK aH
def s_z(i:Nat){x:Str}{pos pos':Pos}(hN:X.N.Nodup)(he:PEd X G a f)(hi:X.N[i]?=some x:=by rfl)(hx:Loc X.env.scope x:=by first | exact Or.inl rfl | exact Or.inr rfl)(hs:swapsWith a (some (.Name x pos')) pos.line X.env=pure false:=by rfl)
  (hf:X.fn x=true∨X.env.scope.names.lookup x=some .local:=by first | exact .inl rfl | exact .inr rfl | assumption):PSd X G (.Assign [.Name x pos'] a pos) (dF i f):=zTn hN hi hx he hs hf
def g_z(i:Nat){x:Str}{pos:Pos}(hN:X.N.Nodup)(hi:X.N[i]?=some x:=by rfl)(hx:Loc X.env.scope x:=by first | exact Or.inl rfl | exact Or.inr rfl)(hf:X.fn x=true∨X.env.scope.names.lookup x=some .local:=by first | exact .inl rfl | exact .inr rfl | assumption):PGd X G (.Name x pos) (gName i):=zQd hN hi hx hf
def zAW{s j p}:PAd X G [.Constant (.str s) j p] (aB (eC (.str s)) aNil):=aA (lL dU fun _=>.str _) aK cA
end
section
variable{P:Jf}{w:Jg}{K:Fg_}{mg:Str->Option Ja}{base:Je}{k:Nat}{x:Str}{st:Ji}{ps N:List Str}{f:Jc}{fd:FuncData}{b:Sv}
def eR(F:Fn K mg x st ps f fd)(S:FnScope N ps (aF st))
  (h:∀ {cdv:Ja} {A:Jh} {outer:List Env} {s:Jb} {H:Hp} {E:XK} {G:Gx},Good (BX P w K mg base N x st f cdv A outer s H E) G k->zGp (BX P w K mg base N x st f cdv A outer s H E) G->eN (BX P w K mg base N x st f cdv A outer s H E) G (fJ st) b):
  CanM P w K mg base (k+1) x ps (fn ps.length N.length b):=pJ F S fun _ _ _ _ _ _ _ W R=>h W R
end
end L3
namespace PySem.W.Fast
def tw3275419365827795851:=0
def tw16986498940802280894:=0
def tw17655952513438399944:=0
def tw10702646685764953153:=0
def tw685543217875267738:=0
def tw8449994136428943427:=0
def tw15647695293888607248:=0
def tw17366865871962294207:=0
def tw11609986032977433922:=0
def tw13389466253663336089:=0
def tw13464600585287597101:=0
def tw14264174227653206447:=0
def tw15137942411945993164:=0
def tw9283609433182551105:=0
def tw17012411344388038278:=0
def tw6293239991672955209:=0
def tw15735857678043527260:=0
def tw12411240746812202318:=0
def tw2972175321740442786:=0
def tw3429851765229796:=0
def tw15273386412131558045:=0
def tw10773484775667262047:=0
def tw10036100302426073364:=0
def tw16454815211401412116:=0
def tw5652477662890215915:=0
def tw5828524916195029920:=0
def tw4493780528170673771:=0
def tw9959204428555773454:=0
def tw9074364669602901175:=0
def tw13247722297839103984:=0
def tw343679206656055763:=0
def tw2024090192382984747:=0
def tw11413947354926146434:=0
def tw5455383660737928163:=0
def tw4077268688088305122:=0
def tw14227932445208396540:=0
def tw15626204683684704921:=0
def tw9077723593124279548:=0
def tw10092025776810577124:=0
def tw14477706486437063115:=0
def tw5581604737865638377:=0
def tw14774283331410165414:=0
def tw3269986274302207030:=0
def tw13724367190068467559:=0
def tw5446049694465714895:=0
def tw17610243566359485161:=0
def tw6448845338112513101:=0
def tw1306890329712993023:=0
def tw15395551966979573045:=0
def tw10151675520974791470:=0
def tw16738567388196430552:=0
def tw5587663247579326138:=0
def tw9539145952913007701:=0
def tw15868412035175882894:=0
def tw16325451970577912546:=0
def tw705434012500557745:=0
def tw13406700521300234474:=0
def tw8295226437100130910:=0
def tw132993737099764299:=0
def tw849447207961601067:=0
def tw8384528780887241222:=0
def tw12900107968014867993:=0
def tw11697350658743996213:=0
def tw6544285331453689479:=0
def tw5984543364646426139:=0
def tw4762977120547378287:=0
def tw15898872577422905413:=0
def tw16524069135559959492:=0
def tw9611984624063652233:=0
def tw9472262523545511110:=0
def tw14600860439912220526:=0
def tw14892371601381489080:=0
def tw13713659410551063510:=0
def tw12570232159662975359:=0
def tw17114200180609363301:=0
def tw17337463714254443806:=0
def tw3962281392757894712:=0
def tw2465185506137702049:=0
def tw301000341454185786:=0
def tw4172853863100708519:=0
def tw14624235443940166278:=0
def tw1559368171440957180:=0
def tw14417785575736157547:=0
def tw8492121128437289119:=0
def tw5390122979298058977:=0
def tw17066327857693911632:=0
def tw7276900571232684967:=0
def tw16325274141658576028:=0
def tw17953438600591603869:=0
def tw11172054046118255234:=0
def tw17597803235295356230:=0
def tw14225477297698353911:=0
def tw13989196914378068702:=0
def tw53652806342830667:=0
def tw12013466237770446559:=0
def tw1502346988941449971:=0
def tw118798632839755242:=0
def tw10992021179145833004:=0
def tw8224196079350062881:=0
def tw17450649971058264701:=0
def tw1421141219919156877:=0
def tw9571508465970695615:=0
def tw6496825080333610061:=0
def tw18329503836441818474:=0
def tw18431741580487759227:=0
def tw6882221796228030677:=0
def tw11218384477620550384:=0
def tw16109922818680546897:=0
def tw5535732106659565541:=0
def tw17458807680159623297:=0
def tw11507230792100865301:=0
def tw16358018645036556424:=0
def tw782556133753529369:=0
def tw3766712223474785865:=0
def tw4598975496462100015:=0
def tw254261713056026960:=0
def tw8902268557734019806:=0
def tw7879369775125869186:=0
def tw5922460755031465829:=0
def tw11435560470995039544:=0
def tw13419399188356913174:=0
def tw9973702697308253613:=0
def tw6808435621579581472:=0
def tw1719769830654222010:=0
def tw2724065441951344617:=0
def tw15782128083899717268:=0
def tw10625589852452887098:=0
def tw13986378741645159898:=0
def tw18048283377754149440:=0
def tw5889162415149352560:=0
def tw6388936020336080130:=0
def tw9076749726211841831:=0
def tw3386775728604217869:=0
def tw6642609740711753659:=0
def tw5664521687497060245:=0
def tw3519475715490969390:=0
def tw2541839235535465908:=0
def tw4956375337779692477:=0
def tw2610061855996785823:=0
def tw4389944501081823396:=0
def tw9188391632324953817:=0
def tw1381679325681132466:=0
def tw8314603252981990216:=0
def tw4969255398925207131:=0
def tw718693914194210358:=0
def tw1417632099782404289:=0
def tw5862927580966433682:=0
def tw7795697843486652081:=0
def tw3652797940169264114:=0
def tw11453860700506377374:=0
def tw5788701970097061875:=0
def tw536272316302604353:=0
def tw9483001545718731928:=0
def tw6123168138325873626:=0
def tw11026719981270067561:=0
def tw14308083843030763424:=0
def tw4005268707894752947:=0
def tw13535810100958400511:=0
def tw16402779087268619730:=0
def tw7438112599871932480:=0
def tw11402602428678667870:=0
def tw11153013430667811977:=0
def tw9995282108476355294:=0
def tw8247128559536388766:=0
def tw4548187700530974748:=0
def tw1865345475964800979:=0
def tw165748210315910136:=0
def tw5647176804421019195:=0
def tw4088421056272441826:=0
def tw6494419744111568257:=0
def tw16410207804672548586:=0
def tw4079455014876726264:=0
def tw17820910259121465785:=0
def tw8723949982374956075:=0
def tw7786313445034602880:=0
def tw7476699783164408149:=0
def tw12147530156832835793:=0
def tw8695179342178767526:=0
def tw8198302214839903989:=0
def tw6074867665683879258:=0
end PySem.W.Fast
namespace Lw
open L3 PySem
def tbT:List Str:=["Unlike"]
def zKu:List (Str×List Str):=[("Unlike", ["Unlike","CatchError","ValueError","Exception","BaseException","object"])]
def eV:D:=(.tup [(.int 0),(.int 1)])
def aT:List (Str×Str):=[("row","back"),("back","row"),("even","lack"),("lack","even"),("part","part"),("half","half")]
def d_WEIGHTED:D:=(.tup [(.str "even"),(.str "lack")])
def d_HALF:D:=(.tup [(.int 1),(.int 2)])
def d_BOAT:D:=(.str "boat")
def d_MOST_BOATS:D:=(.int 12)
def d_DEEPEST:D:=(.int 8)
def d_ACROSS:D:=(.int 0)
def d_UP:D:=(.int 1)
abbrev qX:Sv:=(dF 1 (aG 2))
abbrev rA:Sv:=(bA (dF 0 (aG 1)) qX)
abbrev pN:Sv:=(bA (dF 2 (eOp pP (aG 0) (aG 1))) rA)
abbrev qH:Sv:=(gE (aG 0))
abbrev qG:Sv:=(bA (fP (dD (eOp oNe (aG 1) (eC (.int 0)))) pN) qH)
abbrev qT:Sv:=(bA (dF 1 (eB zNW (aB (aG 1) aNil))) qG)
def dI:Mir:=fn 2 3 (bA (dF 0 (eB zNW (aB (aG 0) aNil))) qT)
def bJ:Mir:=fn 1 1 (gE (zGC (aB (aG 0) (aB (eC (.int 1)) aNil))))
def fR:Mir:=fn 2 2 (gE (eOp oLt (eOp yX (eOp oIx (aG 0) (eC (.int 0))) (eOp oIx (aG 1) (eC (.int 1)))) (eOp yX (eOp oIx (aG 1) (eC (.int 0))) (eOp oIx (aG 0) (eC (.int 1))))))
abbrev yY:Sv:=(dF 1 (eOp yX (aG 1) (eOp oIx (aG 2) (eC (.int 1)))))
abbrev zBH:Sv:=(dF 1 (eC (.int 1)))
abbrev uW:Sv:=(xI (qZ (aG 0)) (gName 2) yY)
def kJ:List D->Res (List Int):=zAo zBH uW
def bW:Mir:=fn 1 1 (sIf (dD (eUn (sG aT) (aG 0))) (hU "BadWay" (aB (eC (.str "no such way")) aNil)) sNext)
abbrev sC:Sv:=(sIf (dD (eOp oLt (aG 1) (eC (.int 0)))) (hU "BadClaim" (aB (eC (.str "a claim is below nought")) aNil)) sNext)
abbrev rS:Sv:=(xI (qZ (aG 0)) (gName 1) sC)
def eA:Mir:=fn 1 2 (bA (sIf (dD (eOp oEq (eB lM (aB (aG 0) aNil)) (eC (.int 0)))) (hU "BadClaim" (aB (eC (.str "there is no claim")) aNil)) sNext) rS)
abbrev rE:Sv:=(sIf (zHs (dD (eOp oLt (aG 4) (eC (.int 1)))) (dD (eOp oGt (aG 4) (eOp zIr (eC (.int 10)) (eC (.int 6)))))) (hU "BadWeights" (aB (eC (.str "a weight is not from 1 to 10 ** 6")) aNil)) sNext)
abbrev fZ:Sv:=(xI (qZ (aG 1)) (gName 4) rE)
abbrev jX:Sv:=(bA (sIf (dD (eOp oNe (eB lM (aB (aG 1) aNil)) (aG 3))) (hU "BadWeights" (aB (eC (.str "more or fewer weights than are due")) aNil)) sNext) fZ)
def aZ:Mir:=fn 3 5 (bA (dF 3 (eIf (dD (eOp oIn (aG 0) (eC d_WEIGHTED))) (aG 2) (eC (.int 0)))) jX)
abbrev zLo:Sv:=(gE (zGC (aB (eC d_BOAT) (aB (aG 0) aNil))))
def mE:Mir:=fn 1 1 (bA (sIf (zHs (dD (eOp oLt (aG 0) (eC (.int 0)))) (dD (eOp oGt (aG 0) (eOp zIr (eC (.int 10)) (eC (.int 9)))))) (hU "BadClaim" (aB (eC (.str "a boat's claim is not from 0 to 10 ** 9")) aNil)) sNext) zLo)
def cB:Mir:=fn 1 1 (gE (eOp oEq (eOp oIx (aG 0) (eC (.int 0))) (eC d_BOAT)))
def iQ:Mir:=fn 1 1 (gE (eOp oIx (aG 0) (eC (.int 0))))
def cU:Mir:=fn 1 1 (gE (eOp oIx (aG 0) (eC (.int 1))))
def lG:Mir:=fn 1 1 (gE (eOp oIx (eOp oIx (aG 0) (eUn zFj (eC (.int 1)))) (eC d_ACROSS)))
def qA:Mir:=fn 1 1 (gE (eOp oIx (eOp oIx (aG 0) (eUn zFj (eC (.int 1)))) (eC d_UP)))
def fX:Mir:=fn 1 1 (iI (iW (qZ (aG 0)) iK (eOp oIx (aG 1) (eC d_ACROSS))))
abbrev vF:Sv:=(gE (eC (.int 0)))
def bP:Mir:=fn 2 2 (bA (sIf (dD (eOp oLt (aG 1) (eB lM (aB (aG 0) aNil)))) (gE (eOp oIx (aG 0) (aG 1))) sNext) vF)
abbrev zLG:Sv:=(gE (zGC (aB (eOp zB (aG 0) (aG 2)) (aB (eOp zB (aG 1) (aG 2)) aNil))))
abbrev zKM:Sv:=(bA (sIf (dD (eOp oLt (aG 1) (eC (.int 0)))) (dF 2 (eUn zFj (aG 2))) sNext) zLG)
abbrev zKX:Sv:=(bA (dF 2 (aM dI (aB (aG 0) (aB (aG 1) aNil)))) zKM)
def jU:Mir:=fn 2 3 (bA (sIf (dD (eOp oEq (aG 1) (eC (.int 0)))) (hU "NoFraction" (aB (eC (.str "the bottom is nought")) aNil)) sNext) zKX)
def lB:Mir:=fn 2 2 (gE (eIf (dD (aM fR (aB (aG 0) (aB (aG 1) aNil)))) (aG 0) (aG 1)))
def dS:Mir:=fn 2 2 (gE (eOr (aM fR (aB (aG 0) (aB (eC eV) aNil))) (aM fR (aB (aG 1) (aB (aG 0) aNil)))))
abbrev zFS:Sv:=(qL (aM aZ (aB (aG 0) (aB (aG 1) (aB (eB lM (aB (aG 2) aNil)) aNil)))))
abbrev zGz:Sv:=(bA (qL (aM eA (aB (aG 2) aNil))) zFS)
def mC:Mir:=fn 3 3 (bA (qL (aM bW (aB (aG 0) aNil))) zGz)
abbrev tQ:Sv:=(gE (eUn (uX aT) (aG 0)))
def dL:Mir:=fn 1 1 (bA (qL (aM bW (aB (aG 0) aNil))) tQ)
def bQ:Mir:=fn 1 1 (gE (eIf (dD (aM cB (aB (aG 0) aNil))) (zGC aNil) (eOp oIx (aG 0) (eC (.int 2)))))
abbrev vZ:Sv:=(sIf (dD (aM fR (aB (eOp oIx (aG 3) (eC d_UP)) (aB (eOp oIx (aG 2) (eC d_UP)) aNil)))) (hU "BadLine" (aB (eC (.str "a y is less than the one ahead")) aNil)) sNext)
abbrev xM:Sv:=(bA (sIf (xF (dD (aM fR (aB (eOp oIx (aG 2) (eC d_ACROSS)) (aB (eOp oIx (aG 3) (eC d_ACROSS)) aNil))))) (hU "BadLine" (aB (eC (.str "an x is not greater than the one ahead")) aNil)) sNext) vZ)
abbrev yK:Sv:=(bA (dF 3 (eOp oIx (aG 0) (aG 1))) xM)
abbrev xD:Sv:=(bA (dF 2 (eOp oIx (aG 0) (eOp zDg (aG 1) (eC (.int 1))))) yK)
abbrev xT:Sv:=(xI (zIu (aB (eC (.int 1)) (aB (eB lM (aB (aG 0) aNil)) aNil))) (gName 1) xD)
abbrev xL:Sv:=(bA (sIf (dD (eOp oNe (eOp oIx (aG 0) (eC (.int 0))) (zGC (aB (eC eV) (aB (eC eV) aNil))))) (hU "BadLine" (aB (eC (.str "the first point is not nought and nought")) aNil)) sNext) xT)
def iB:Mir:=fn 1 4 (bA (sIf (dD (eOp oEq (eB lM (aB (aG 0) aNil)) (eC (.int 0)))) (hU "BadLine" (aB (eC (.str "a line has a point")) aNil)) sNext) xL)
abbrev qJ:Sv:=(sIf (dD (aM fR (aB (eOp oIx (eOp oIx (aG 0) (aG 5)) (aG 1)) (aB (aG 2) aNil)))) (dF 3 (eOp yF (aG 5) (eC (.int 1)))) (dF 4 (aG 5)))
abbrev qY:Sv:=(bA (dF 5 (eOp zB (eOp yF (aG 3) (aG 4)) (eC (.int 2)))) qJ)
abbrev kB:Sv:=(gE (aG 3))
abbrev qS:Sv:=(bA (fP (dD (eOp oLt (aG 3) (aG 4))) qY) kB)
abbrev qC:Sv:=(bA (dF 4 (eOp zDg (eB lM (aB (aG 0) aNil)) (eC (.int 1)))) qS)
def dH:Mir:=fn 3 6 (bA (dF 3 (eC (.int 0))) qC)
abbrev zGR:Sv:=(zKo 3 zAZ (eC (.int 1)))
abbrev zGT:Sv:=(bA (zDm 2 (eOp oIx (aG 1) (aG 3))) zGR)
abbrev zGF:Sv:=(zDm 2 (aG 4))
abbrev rK:Sv:=(bA (sIf (vT (dD (eOp oLt (aG 3) (eB lM (aB (aG 1) aNil)))) (dD (eOp oEq (eOp oIx (aG 1) (aG 3)) (aG 4)))) (zKo 3 zAZ (eC (.int 1))) sNext) zGF)
abbrev zGK:Sv:=(bA (fP (vT (dD (eOp oLt (aG 3) (eB lM (aB (aG 1) aNil)))) (dD (aM fR (aB (eOp oIx (aG 1) (aG 3)) (aB (aG 4) aNil))))) zGT) rK)
abbrev zEk:Sv:=(gC 2)
abbrev zDT:Sv:=(bA (zMK 2 (fSl (aG 1) (oS (aG 3)) oN)) zEk)
abbrev zGq:Sv:=(bA (xI (qZ (aG 0)) (gName 4) zGK) zDT)
abbrev zGL:Sv:=(bA (dF 3 (eC (.int 0))) zGq)
def lY:Mir:=fn 2 5 (bA (zCe 2 (jV aNil)) zGL)
abbrev xU:Sv:=(zDm 2 (aM bJ (aB (aG 1) aNil)))
abbrev oP:Sv:=(bA (zKo 1 zAZ (aG 3)) xU)
abbrev yA:Sv:=(gC 2)
abbrev xA:Sv:=(bA (xI (qZ (aG 0)) (gName 3) oP) yA)
abbrev xO:Sv:=(bA (zCe 2 (jV (aB (eC eV) aNil))) xA)
def fM:Mir:=fn 1 4 (bA (dF 1 (eC (.int 0))) xO)
abbrev jI:Sv:=(sIf (tFrzB (dD (aM fR (aB (eOp oIx (aG 1) (eUn zFj (eC (.int 1)))) (aB (aG 2) aNil))))) (zDm 1 (aG 2)) sNext)
abbrev pH:Sv:=(gC 1)
abbrev oU:Sv:=(bA (xI (qZ (aG 0)) (gName 2) jI) pH)
def cZ:Mir:=fn 1 3 (bA (zCe 1 (fSl (aG 0) oN (oS (eC (.int 1))))) oU)
abbrev xQ:Sv:=(zDm 3 (eOp oIx (eF (jV (aB (eOp pP (eOp zB (aG 5) (eC (.int 3))) (eC (.int 13))) (aB (eOp pP (eOp zB (aG 5) (eC (.int 3))) (eC (.int 3))) (aB (eOp pP (eOp zB (aG 5) (eC (.int 3))) (eOp yF (eOp zIr (eC (.int 10)) (eC (.int 9))) (eC (.int 1)))) aNil))))) (eOp pP (aG 5) (eC (.int 3)))))
abbrev xZ:Sv:=(bA (dF 5 (eOp pP (aM bP (aB (aG 0) (aB (eOp yF (eOp yF (aG 1) (eC (.int 1))) (aG 4)) aNil))) (eOp zIr (eC (.int 10)) (eC (.int 30))))) xQ)
abbrev oQ:Sv:=(gC 3)
abbrev yD:Sv:=(bA (xI (xE (aB (eOp yF (eC (.int 1)) (eOp pP (aM bP (aB (aG 0) (aB (aG 1) aNil))) (aG 2))) aNil)) (gName 4) xZ) oQ)
def hJ:Mir:=fn 3 6 (bA (zCe 3 (jV aNil)) yD)
def mI:Mir:=fn 2 2 (gE (aM jU (aB (eOp yF (eOp yX (eOp oIx (aG 0) (eC (.int 0))) (eOp oIx (aG 1) (eC (.int 1)))) (eOp yX (eOp oIx (aG 1) (eC (.int 0))) (eOp oIx (aG 0) (eC (.int 1))))) (aB (eOp yX (eOp oIx (aG 0) (eC (.int 1))) (eOp oIx (aG 1) (eC (.int 1)))) aNil))))
def cP:Mir:=fn 2 2 (gE (aM jU (aB (eOp zDg (eOp yX (eOp oIx (aG 0) (eC (.int 0))) (eOp oIx (aG 1) (eC (.int 1)))) (eOp yX (eOp oIx (aG 1) (eC (.int 0))) (eOp oIx (aG 0) (eC (.int 1))))) (aB (eOp yX (eOp oIx (aG 0) (eC (.int 1))) (eOp oIx (aG 1) (eC (.int 1)))) aNil))))
def dC:Mir:=fn 2 2 (gE (aM jU (aB (eOp yX (eOp oIx (aG 0) (eC (.int 0))) (eOp oIx (aG 1) (eC (.int 0)))) (aB (eOp yX (eOp oIx (aG 0) (eC (.int 1))) (eOp oIx (aG 1) (eC (.int 1)))) aNil))))
def pO:Mir:=fn 2 2 (gE (aM jU (aB (eOp yX (eOp oIx (aG 0) (eC (.int 0))) (eOp oIx (aG 1) (eC (.int 1)))) (aB (eOp yX (eOp oIx (aG 0) (eC (.int 1))) (eOp oIx (aG 1) (eC (.int 0)))) aNil))))
def bE:Mir:=fn 2 2 (sIf (dD (aM dS (aB (aG 0) (aB (aG 1) aNil)))) (hU "Outside" (aB (eC (.str "below nought, or more than there can be")) aNil)) sNext)
def dZ:Mir:=fn 2 2 (iI (vO (zMm (aB (aG 1) (aB (aG 0) aNil))) (aM jU (aB (aG 2) (aB (aG 3) aNil)))))
abbrev zAw:Sv:=(dF 2 (aM cP (aB (aG 2) (aB (aG 5) aNil))))
abbrev zAc:Sv:=(bA (zDm 3 (aG 5)) zAw)
abbrev rB:Sv:=(bA (dF 5 (aM lB (aB (aG 2) (aB (aM bJ (aB (aG 4) aNil)) aNil)))) zAc)
abbrev zBv:Sv:=(gC 3)
abbrev zAn:Sv:=(bA (xI (qZ (aG 0)) (gName 4) rB) zBv)
abbrev zBx:Sv:=(bA (zCe 3 (jV aNil)) zAn)
def gO:Mir:=fn 2 6 (bA (dF 2 (aG 1)) zBx)
abbrev xX:Sv:=(zKo 4 zDg (eOp oIx (aG 0) (aG 6)))
abbrev xW:Sv:=(bA (dF 3 (zQR (aM cP (aB (aG 3) (aB (eOp oIx (aG 5) (aG 6)) aNil))))) xX)
abbrev yB:Sv:=(bA (zSf 5 (aG 6) (aM lB (aB (aG 7) (aB (aM bJ (aB (eOp oIx (aG 1) (aG 6)) aNil)) aNil)))) xW)
abbrev bV:Sv:=(bA (dF 7 (aM pO (aB (aM dC (aB (aG 3) (aB (aM bJ (aB (eOp oIx (aG 0) (aG 6)) aNil)) aNil))) (aB (aM bJ (aB (aG 4) aNil)) aNil)))) yB)
abbrev kN:Sv:=(gC 5)
abbrev oR:Sv:=(zHn (aB (eF (cH dZ (aB (aG 0) (aB (aG 1) aNil)))) aNil) kJ (gName 6) bV kN)
abbrev xS:Sv:=(bA (zCe 5 (zNX (jV (aB (eC eV) aNil)) (eB lM (aB (aG 1) aNil)))) oR)
abbrev xJ:Sv:=(bA (dF 4 (eB zDj (aB (aG 0) aNil))) xS)
def dA:Mir:=fn 3 8 (bA (dF 3 (aG 2)) xJ)
abbrev xN:Sv:=(iI (iW (qZ (aG 0)) iK (aM dC (aB (aG 3) (aB (aM bJ (aB (aG 4) aNil)) aNil)))))
abbrev yC:Sv:=(bA (dF 3 (aM pO (aB (aG 1) (aB (aM bJ (aB (aG 2) aNil)) aNil)))) xN)
abbrev yE:Sv:=(bA (sIf (dD (eOp oEq (aG 2) (eC (.int 0)))) (iI (zNX (jV (aB (eC eV) aNil)) (eB lM (aB (aG 0) aNil)))) sNext) yC)
def fS:Mir:=fn 2 4 (bA (dF 2 (eB zDj (aB (aG 0) aNil))) yE)
abbrev yJ:Sv:=(gE (eOp oEq (aM dC (aB (aG 3) (aB (aG 6) aNil))) (aM dC (aB (aG 4) (aB (aG 5) aNil)))))
abbrev yI:Sv:=(bA (dF 6 (aM cP (aB (eOp oIx (aG 2) (eC d_ACROSS)) (aB (eOp oIx (aG 1) (eC d_ACROSS)) aNil)))) yJ)
abbrev yH:Sv:=(bA (dF 5 (aM cP (aB (eOp oIx (aG 1) (eC d_ACROSS)) (aB (eOp oIx (aG 0) (eC d_ACROSS)) aNil)))) yI)
abbrev xB:Sv:=(bA (dF 4 (aM cP (aB (eOp oIx (aG 2) (eC d_UP)) (aB (eOp oIx (aG 1) (eC d_UP)) aNil)))) yH)
def hZ:Mir:=fn 3 7 (bA (dF 3 (aM cP (aB (eOp oIx (aG 1) (eC d_UP)) (aB (eOp oIx (aG 0) (eC d_UP)) aNil)))) xB)
abbrev zNm:Sv:=(gE (aM mI (aB (eOp oIx (aG 6) (aG 3)) (aB (aM dC (aB (aG 7) (aB (aM cP (aB (eOp oIx (aG 5) (aG 3)) (aB (eOp oIx (aG 6) (aG 3)) aNil))) aNil))) aNil))))
abbrev zNP:Sv:=(bA (dF 7 (aM pO (aB (aM cP (aB (aG 2) (aB (eOp oIx (aG 6) (aG 1)) aNil))) (aB (aM cP (aB (eOp oIx (aG 5) (aG 1)) (aB (eOp oIx (aG 6) (aG 1)) aNil))) aNil)))) zNm)
abbrev zOn:Sv:=(bA (dF 6 (eOp oIx (aG 0) (eOp zDg (aG 4) (eC (.int 1))))) zNP)
abbrev zOd:Sv:=(bA (sIf (dD (eOp oEq (eOp oIx (aG 5) (aG 1)) (aG 2))) (gE (eOp oIx (aG 5) (aG 3))) sNext) zOn)
abbrev zOA:Sv:=(bA (dF 5 (eOp oIx (aG 0) (aG 4))) zOd)
abbrev zOk:Sv:=(bA (dF 4 (aM dH (aB (aG 0) (aB (aG 1) (aB (aG 2) aNil))))) zOA)
def wA:Mir:=fn 3 8 (bA (dF 3 (eOp zDg (eC (.int 1)) (aG 1))) zOk)
abbrev wU:Sv:=(zKo 3 zDg (eOp oIx (aG 0) (aG 6)))
abbrev wC:Sv:=(bA (zKo 2 zAZ (eOp oIx (aG 1) (aG 6))) wU)
abbrev fY:Sv:=(bA (zDm 5 (aM mI (aB (aM bJ (aB (aG 2) aNil)) (aB (aM dC (aB (eOp oIx (aG 4) (aG 6)) (aB (aM bJ (aB (aG 3) aNil)) aNil))) aNil)))) wC)
abbrev nJ:Sv:=(gC 5)
abbrev nG:Sv:=(zHn (aB (aG 4) aNil) kJ (gName 6) fY nJ)
abbrev uN:Sv:=(bA (zCe 5 (jV (aB (eC eV) aNil))) nG)
abbrev uL:Sv:=(bA (dF 4 (eF (cH dZ (aB (aG 0) (aB (aG 1) aNil))))) uN)
abbrev wI:Sv:=(bA (dF 3 (eB zDj (aB (aG 0) aNil))) uL)
def dB:Mir:=fn 2 7 (bA (dF 2 (eC (.int 0))) wI)
def gP:Mir:=fn 2 2 (iI (iW (zKy (aG 0)) iK (aM cP (aB (aG 1) (aB (aG 2) aNil)))))
abbrev wZ:Sv:=(iI (iW (qZ (eF (cH dA (aB (aG 2) (aB (aG 0) (aB (aM mI (aB (aG 1) (aB (aG 1) aNil))) aNil)))))) iK (aM dC (aB (aG 3) (aB (eC d_HALF) aNil)))))
def fK:Mir:=fn 2 3 (bA (dF 2 (eF (zNX (jV (aB (eC (.int 1)) aNil)) (eB lM (aB (aG 0) aNil))))) wZ)
abbrev vC:Sv:=(zDm 1 (aG 2))
abbrev zEq:Sv:=(bA (sIf (tFrzB (vT (dD (eOp oGt (eB lM (aB (aG 1) aNil)) (eC (.int 1)))) (dD (aM hZ (aB (eOp oIx (aG 1) (eUn zFj (eC (.int 2)))) (aB (eOp oIx (aG 1) (eUn zFj (eC (.int 1)))) (aB (aG 2) aNil))))))) (zRf 1) sNext) vC)
abbrev zEc:Sv:=(gE (eB zLI (aB (aG 1) aNil)))
abbrev zDG:Sv:=(bA (xI (qZ (aG 0)) (gName 2) zEq) zEc)
abbrev zDH:Sv:=(bA (zCe 1 (jV aNil)) zDG)
def eS:Mir:=fn 1 3 (bA (qL (aM iB (aB (aG 0) aNil))) zDH)
abbrev zID:Sv:=(gE (aM wA (aB (aG 0) (aB (eC d_ACROSS) (aB (aG 1) aNil)))))
def jR:Mir:=fn 2 2 (bA (qL (aM bE (aB (aG 1) (aB (aM lG (aB (aG 0) aNil)) aNil)))) zID)
abbrev zGt:Sv:=(gE (aM eS (aB (eF (iW (qZ (aG 3)) iK (zGC (aB (aG 4) (aB (aM jR (aB (aG 0) (aB (aM jR (aB (aG 1) (aB (aG 4) aNil))) aNil))) aNil))))) aNil)))
abbrev zGk:Sv:=(bA (dF 3 (eF (cH lY (aB (eF (cH fX (aB (aG 1) aNil))) (aB (aG 2) aNil))))) zGt)
abbrev zGO:Sv:=(bA (dF 2 (eF (iW (qZ (eF (cH fX (aB (aG 0) aNil)))) iK (aM wA (aB (aG 1) (aB (eC d_UP) (aB (aG 4) aNil))))))) zGk)
def gZ:Mir:=fn 2 4 (bA (sIf (dD (eOp oNe (aM lG (aB (aG 0) aNil)) (aM qA (aB (aG 1) aNil)))) (hU "Unlike" (aB (eC (.str "the first line's length is not the second one's height")) aNil)) sNext) zGO)
def nL:Mir:=fn 3 3 (gE (aM eS (aB (eF (vO (zMm (aB (aG 0) (aB (aG 1) aNil))) (zGC (aB (aG 3) (aB (eOp oIx (aG 4) (aG 2)) aNil))))) aNil)))
abbrev zCC:Sv:=(gE (aM eS (aB (eF (jV (aB (aG 1) (aB (zGC (aB (aM bJ (aB (aG 0) aNil)) (aB (aM bJ (aB (aG 0) aNil)) aNil))) aNil)))) aNil)))
abbrev zCU:Sv:=(bA (sIf (dD (eOp oEq (aG 0) (eC (.int 0)))) (gE (aM eS (aB (eF (jV (aB (aG 1) aNil))) aNil))) sNext) zCC)
def gF:Mir:=fn 1 2 (bA (dF 1 (zGC (aB (eC eV) (aB (eC eV) aNil)))) zCU)
abbrev tT:Sv:=(gE (eOp oIx (eF (iW (qZ (aG 2)) (dD (eOp oNe (aM jR (aB (aG 0) (aB (aG 3) aNil))) (aM jR (aB (aG 1) (aB (aG 3) aNil))))) (aG 3))) (eC (.int 0))))
def eU:Mir:=fn 2 3 (bA (dF 2 (eF (cH lY (aB (eF (cH fX (aB (aG 0) aNil))) (aB (eF (cH fX (aB (aG 1) aNil))) aNil))))) tT)
abbrev xP(r:Mir):Sv:=(iI (zLN (aG 4) (eF (cH gP (aB (aG 4) (aB (aG 3) aNil))))))
abbrev xY(r:Mir):Sv:=(iI (cH gP (aB (eF (cH r (aB (aM dL (aB (aG 0) aNil)) (aB (aG 1) (aB (aG 2) aNil))))) (aB (aG 3) aNil))))
abbrev zBq(r:Mir):Sv:=(bA (sIf (dD (eOp oEq (aG 0) (eC (.str "half")))) (bA (dF 4 (eF (iW (qZ (eF (cH dB (aB (eF (zNX (jV (aB (eC (.int 1)) aNil)) (eB lM (aB (aG 2) aNil)))) (aB (aG 2) aNil))))) iK (aM dC (aB (aG 5) (aB (eC d_HALF) aNil)))))) (xP r)) sNext) (xY r))
abbrev zY(r:Mir):Sv:=(bA (sIf (dD (eOp oEq (aG 0) (eC (.str "part")))) (iI (jV (aB (eC eV) (aB (aG 3) aNil)))) sNext) (zBq r))
abbrev zAz(r:Mir):Sv:=(bA (sIf (dD (eOp oEq (aG 0) (eC (.str "even")))) (iI (cH dB (aB (aG 1) (aB (aG 2) aNil)))) sNext) (zY r))
abbrev zAM(r:Mir):Sv:=(bA (sIf (dD (eOp oEq (aG 0) (eC (.str "row")))) (iI (cH fM (aB (aG 2) aNil))) sNext) (zAz r))
def bZ(r:Mir):Mir:=fn 3 5 (bA (dF 3 (aM bJ (aB (eB zDj (aB (aG 2) aNil)) aNil))) (zAM r))
def bI:Nat->Mir
 | 0=>fn 3 5 sNo
 | n+1=>bZ (bI n)
abbrev qW(r:Mir):Sv:=(iI (vO (zMm (aB (aG 2) (aB (aG 5) aNil))) (aM cP (aB (aM bJ (aB (aG 6) aNil)) (aB (aG 7) aNil)))))
abbrev qR(r:Mir):Sv:=(bA (dF 5 (eF (cH r (aB (eUn (uX aT) (aG 0)) (aB (aG 1) (aB (aG 2) (aB (aM cP (aB (aG 4) (aB (aG 3) aNil))) aNil))))))) (qW r))
abbrev sI(r:Mir):Sv:=(bA (sIf (vT (dD (eOp oEq (aG 0) (eC (.str "half")))) (xF (dD (aM fR (aB (aG 4) (aB (aM mI (aB (aG 3) (aB (aG 3) aNil))) aNil)))))) (iI (cH fK (aB (aG 2) (aB (aG 3) aNil)))) sNext) (qR r))
abbrev sK(r:Mir):Sv:=(bA (sIf (dD (eOp oEq (aG 0) (eC (.str "part")))) (iI (cH fS (aB (aG 2) (aB (aG 3) aNil)))) sNext) (sI r))
abbrev sM(r:Mir):Sv:=(bA (sIf (dD (eOp oEq (aG 0) (eC (.str "even")))) (iI (cH dA (aB (aG 1) (aB (aG 2) (aB (aG 3) aNil))))) sNext) (sK r))
abbrev sH(r:Mir):Sv:=(bA (sIf (dD (eOp oEq (aG 0) (eC (.str "row")))) (iI (cH gO (aB (aG 2) (aB (aG 3) aNil)))) sNext) (sM r))
def aS(r:Mir):Mir:=fn 4 6 (bA (dF 4 (aM bJ (aB (eB zDj (aB (aG 2) aNil)) aNil))) (sH r))
def aN:Nat->Mir
 | 0=>fn 4 6 sNo
 | n+1=>aS (aN n)
abbrev zIw:Sv:=(iI (cH (aN 2) (aB (aG 0) (aB (aG 1) (aB (aG 2) (aB (aG 3) aNil))))))
abbrev zJH:Sv:=(bA (qL (aM bE (aB (aG 3) (aB (aM bJ (aB (eB zDj (aB (aG 2) aNil)) aNil)) aNil)))) zIw)
def rQ:Mir:=fn 4 4 (bA (qL (aM mC (aB (aG 0) (aB (aG 1) (aB (aG 2) aNil))))) zJH)
abbrev zBw:Sv:=(iI (iW (xE (aB (eB lM (aB (aG 2) aNil)) aNil)) iK (aM nL (aB (aG 3) (aB (aG 4) (aB (aG 5) aNil))))))
abbrev zAF:Sv:=(bA (dF 4 (eF (iW (qZ (aG 3)) iK (eF (cH (aN 2) (aB (aG 0) (aB (aG 1) (aB (aG 2) (aB (aG 5) aNil))))))))) zBw)
abbrev zAp:Sv:=(bA (dF 3 (eF (cH cZ (aB (eF (cH (bI 2) (aB (aG 0) (aB (aG 1) (aB (aG 2) aNil))))) aNil)))) zAF)
def gG:Mir:=fn 3 5 (bA (qL (aM mC (aB (aG 0) (aB (aG 1) (aB (aG 2) aNil))))) zAp)
abbrev zAI(r:Mir):Sv:=(zMK 1 (cH r (aB (aG 2) aNil)))
abbrev zU(r:Mir):Sv:=(gC 1)
abbrev zAG(r:Mir):Sv:=(bA (xI (qZ (aM bQ (aB (aG 0) aNil))) (gName 2) (zAI r)) (zU r))
abbrev zP(r:Mir):Sv:=(bA (zCe 1 (jV aNil)) (zAG r))
def lE(r:Mir):Mir:=fn 1 3 (bA (sIf (dD (aM cB (aB (aG 0) aNil))) (iI (jV (aB (eOp oIx (aG 0) (eC (.int 1))) aNil))) sNext) (zP r))
def cM:Nat->Mir
 | 0=>fn 1 3 sNo
 | n+1=>lE (cM n)
def pX(r:Mir):Mir:=fn 1 1 (gE (eOp yF (eC (.int 1)) (eOp (fun x y=>zDu [x,y]) (eF (iW (qZ (aM bQ (aB (aG 0) aNil))) iK (aM r (aB (aG 1) aNil)))) (eC (.int 0)))))
def jF:Nat->Mir
 | 0=>fn 1 1 sNo
 | n+1=>pX (jF n)
abbrev zKK:Sv:=(gE (aG 3))
abbrev zKY:Sv:=(bA (sIf (zHs (dD (eOp oEq (eB lM (aB (aG 2) aNil)) (eC (.int 0)))) (zHs (dD (eOp oGt (eB lM (aB (eF (cH (cM 10) (aB (aG 3) aNil))) aNil)) (eC d_MOST_BOATS))) (dD (eOp oGt (aM (jF 10) (aB (aG 3) aNil)) (eC d_DEEPEST))))) (hU "TooMany" (aB (eC (.str "no kid, or too many boats, or too deep")) aNil)) sNext) zKK)
abbrev zLD:Sv:=(bA (dF 3 (zGC (aB (aG 0) (aB (eB zLI (aB (aG 1) aNil)) (aB (eB zLI (aB (aG 2) aNil)) aNil))))) zKY)
abbrev zLt:Sv:=(bA (qL (aM aZ (aB (aG 0) (aB (aG 1) (aB (eB lM (aB (aG 2) aNil)) aNil))))) zLD)
def kG:Mir:=fn 3 4 (bA (qL (aM bW (aB (aG 0) aNil))) zLt)
def dJ:Mir:=fn 1 1 (gE (eB zDj (aB (eF (cH (cM 10) (aB (aG 0) aNil))) aNil)))
def cT:Mir:=fn 1 1 (iI (iW (qZ (aM bQ (aB (aG 0) aNil))) iK (aM dJ (aB (aG 1) aNil))))
abbrev tH:Sv:=(gE (aM kG (aB (aG 2) (aB (aG 3) (aB (aG 0) aNil)))))
abbrev zCl:Sv:=(bA (sIf (zHs (dD (eOp oEq (aG 2) (eC (.str "even")))) (dD (eOp oEq (aG 2) (eC (.str "lack"))))) (dF 3 (eF (iW (xE (aB (eB lM (aB (aG 0) aNil)) aNil)) iK (eOp yF (eC (.int 1)) (eOp pP (eOp zB (aG 1) (eOp yF (eC (.int 6)) (eOp yX (eC (.int 13)) (aG 4)))) (eC (.int 4))))))) sNext) tH)
abbrev zBJ:Sv:=(bA (dF 3 (eF (jV aNil))) zCl)
def fL:Mir:=fn 2 4 (bA (dF 2 (eOp oIx (eF (jV (aB (eC (.str "row")) (aB (eC (.str "back")) (aB (eC (.str "even")) (aB (eC (.str "lack")) (aB (eC (.str "part")) (aB (eC (.str "half")) aNil)))))))) (eOp pP (aG 1) (eC (.int 6))))) zBJ)
abbrev zBN:Sv:=(zCe 3 (zSg (zLN (eF (fSl (aG 3) oN (oS (eUn zFj (aG 7))))) (eF (jV (aB (aM fL (aB (eF (fSl (aG 3) (oS (eUn zFj (aG 7))) oN)) (aB (eOp zB (aG 6) (eC (.int 6))) aNil))) aNil))))))
abbrev zBC:Sv:=(sIf (dD (eOp oEq (eOp pP (aG 6) (eC (.int 2))) (eC (.int 1)))) (bA (dF 7 (zQR (eOp yF (eC (.int 1)) (eOp pP (eOp zB (aG 6) (eC (.int 2))) (eB zQF (aB (eC (.int 3)) (aB (eB lM (aB (aG 3) aNil)) aNil))))))) zBN) sNext)
abbrev zCp:Sv:=(bA (dF 6 (eOp pP (aM bP (aB (aG 1) (aB (eOp yF (aG 2) (aG 4)) aNil))) (eOp zIr (eC (.int 10)) (eC (.int 30))))) zBC)
abbrev zBU:Sv:=(bA (zDm 3 (aM mE (aB (aG 5) aNil))) zCp)
abbrev tE:Sv:=(sFrzAt 3 (gE (aM fL (aB (aG 3) (aB (eOp pP (aM bP (aB (aG 1) (aB (eOp yF (aG 2) (eB lM (aB (aG 0) aNil))) aNil))) (eOp zIr (eC (.int 10)) (eC (.int 30)))) aNil)))))
abbrev zDf:Sv:=(bA (xI (zLA (aG 0)) (zGW (mP (gName 4) (mP (gName 5) zGY))) zBU) tE)
def eI:Mir:=fn 3 8 (bA (zCe 3 (jV aNil)) zDf)
abbrev xR:Sv:=(gE (aM kG (aB (aG 4) (aB (eF (jV aNil)) (aB (eF (jV (aB (aM kG (aB (aG 4) (aB (eF (jV aNil)) (aB (eF (iW (qZ (eF (fSl (aG 1) oN (oS (eUn zFj (eC (.int 1))))))) iK (aM mE (aB (aG 5) aNil)))) aNil)))) (aB (aM mE (aB (eOp oIx (aG 1) (eUn zFj (eC (.int 1)))) aNil)) aNil)))) aNil)))))
abbrev vP:Sv:=(gE (aM eI (aB (aG 1) (aB (aG 2) (aB (eC (.int 12)) aNil)))))
abbrev vI:Sv:=(bA (sIf (vT (dD (eOp oEq (eOp pP (aG 3) (eC (.int 6))) (eC (.int 5)))) (dD (eOp oEq (eB lM (aB (aG 1) aNil)) (eC (.int 1))))) (gE (aM mE (aB (eOp oIx (aG 1) (eC (.int 0))) aNil))) sNext) vP)
abbrev xK:Sv:=(bA (sIf (dD (eOp oEq (eOp pP (aG 3) (eC (.int 6))) (eC (.int 4)))) (gE (aM eI (aB (aG 1) (aB (aG 2) (aB (eC (.int 6)) aNil))))) sNext) vI)
abbrev kQ:Sv:=(bA (sIf (dD (eOp oEq (eOp pP (aG 3) (eC (.int 6))) (eC (.int 3)))) (gE (aM fL (aB (eF (zNB (aB (eOp oIx (aG 0) (eC (.int 2))) aNil))) (aB (eOp zB (aG 3) (eC (.int 6))) aNil)))) sNext) xK)
abbrev oO:Sv:=(bA (sIf (vT (dD (eOp oEq (eOp pP (aG 3) (eC (.int 6))) (eC (.int 2)))) (dD (eOp oGt (eB lM (aB (aG 1) aNil)) (eC (.int 1))))) (bA (dF 4 (eOp oIx (eF (jV (aB (eC (.str "row")) (aB (eC (.str "back")) (aB (eC (.str "part")) aNil))))) (eOp pP (eOp zB (aG 3) (eC (.int 6))) (eC (.int 3))))) xR) sNext) kQ)
def iE:Mir:=fn 4 5 (bA (sIf (dD (eOp oEq (eOp pP (aG 3) (eC (.int 6))) (eC (.int 1)))) (gE (aM kG (aB (eOp oIx (eF (jV (aB (eC (.str "row")) (aB (eC (.str "back")) (aB (eC (.str "part")) (aB (eC (.str "half")) aNil)))))) (eOp pP (eOp zB (aG 3) (eC (.int 6))) (eC (.int 4)))) (aB (eF (jV aNil)) (aB (eF (jV (aB (aG 0) aNil))) aNil))))) sNext) oO)
abbrev sU(r:Mir):Sv:=(zMK 3 (cH r (aB (aG 4) (aB (aG 5) aNil))))
abbrev zCt(r:Mir):Sv:=(gC 3)
abbrev zCd(r:Mir):Sv:=(bA (xI (zMm (aB (aM bQ (aB (aG 0) aNil)) (aB (aG 2) aNil))) (zGW (mP (gName 4) (mP (gName 5) zGY))) (sU r)) (zCt r))
abbrev zBF(r:Mir):Sv:=(bA (zCe 3 (jV aNil)) (zCd r))
abbrev zBV(r:Mir):Sv:=(bA (dF 2 (eF (cH rQ (aB (aM iQ (aB (aG 0) aNil)) (aB (aM cU (aB (aG 0) aNil)) (aB (eF (cH cT (aB (aG 0) aNil))) (aB (aG 1) aNil))))))) (zBF r))
def iY(r:Mir):Mir:=fn 2 6 (bA (sIf (dD (aM cB (aB (aG 0) aNil))) (iI (jV (aB (aG 1) aNil))) sNext) (zBV r))
def fQ:Nat->Mir
 | 0=>fn 2 6 sNo
 | n+1=>iY (fQ n)
abbrev sZ(r:Mir):Sv:=(zMK 2 (iW (qZ (eF (cH r (aB (aG 3) aNil)))) iK (aM gZ (aB (aG 5) (aB (aG 4) aNil)))))
abbrev zCy(r:Mir):Sv:=(gC 2)
abbrev zCq(r:Mir):Sv:=(bA (xI (zMm (aB (aM bQ (aB (aG 0) aNil)) (aB (aG 1) aNil))) (zGW (mP (gName 3) (mP (gName 4) zGY))) (sZ r)) (zCy r))
abbrev zCu(r:Mir):Sv:=(bA (zCe 2 (jV aNil)) (zCq r))
abbrev zCr(r:Mir):Sv:=(bA (dF 1 (eF (cH gG (aB (aM iQ (aB (aG 0) aNil)) (aB (aM cU (aB (aG 0) aNil)) (aB (eF (cH cT (aB (aG 0) aNil))) aNil)))))) (zCu r))
def iZ(r:Mir):Mir:=fn 1 5 (bA (sIf (dD (aM cB (aB (aG 0) aNil))) (iI (jV (aB (aM gF (aB (aM dJ (aB (aG 0) aNil)) aNil)) aNil))) sNext) (zCr r))
def cQ:Nat->Mir
 | 0=>fn 1 5 sNo
 | n+1=>iZ (cQ n)
abbrev zGf:Sv:=(iI (cH (fQ 10) (aB (aG 0) (aB (aG 1) aNil))))
def lP:Mir:=fn 2 2 (bA (qL (aM bE (aB (aG 1) (aB (aM bJ (aB (aM dJ (aB (aG 0) aNil)) aNil)) aNil)))) zGf)
abbrev zFX:Sv:=(sIf (dD (eOp oNe (eOp oIx (aG 2) (aG 4)) (eOp oIx (aG 3) (aG 4)))) (gE (zGC (aB (aM eU (aB (eOp oIx (aG 2) (aG 4)) (aB (eOp oIx (aG 3) (aG 4)) aNil))) (aB (aG 4) aNil)))) sNext)
abbrev yU:Sv:=(gE (eC .non))
abbrev zFZ:Sv:=(bA (xI (xE (aB (eB lM (aB (aG 2) aNil)) aNil)) (gName 4) zFX) yU)
abbrev zGQ:Sv:=(bA (dF 3 (eF (cH (cQ 10) (aB (aG 1) aNil)))) zFZ)
abbrev zGM:Sv:=(bA (dF 2 (eF (cH (cQ 10) (aB (aG 0) aNil)))) zGQ)
def eD:Mir:=fn 2 5 (bA (sIf (dD (eOp oNe (eF (cH (cM 10) (aB (aG 0) aNil))) (eF (cH (cM 10) (aB (aG 1) aNil))))) (hU "Unlike" (aB (eC (.str "the boats' claims are not the same")) aNil)) sNext) zGM)
def iM:Mir:=fn 2 2 (gE (zSn (aM eD (aB (aG 0) (aB (aG 1) aNil)))))
abbrev lV:Sv:=(sIf (dD (eOp oNe (eF (cH lP (aB (aG 0) (aB (eOp oIx (aG 3) (eC (.int 0))) aNil)))) (eF (cH lP (aB (aG 1) (aB (eOp oIx (aG 3) (eC (.int 0))) aNil)))))) (gE (eC (.bl false))) sNext)
abbrev zDJ:Sv:=(xI (qZ (aG 2)) (gName 3) lV)
abbrev wL:Sv:=(gE (eC (.bl true)))
def mU:Mir:=fn 2 4 (bA (xI (qZ (eF (zLN (eF (cH (cQ 10) (aB (aG 0) aNil))) (eF (cH (cQ 10) (aB (aG 1) aNil)))))) (gName 2) zDJ) wL)
abbrev tV:Sv:=(zDm 3 (zKx zKu 4 ["Outside","TooMany"]))
abbrev uZ:Sv:=(bA (zDm 3 (zKx zKu 4 ["BadCatch","BadClaim","BadLine","BadWay","BadWeights","NoBoat","NoFraction","NoText"])) tV)
abbrev tL:Sv:=(sFrzAt 3 (gE (eOp oEq (aG 3) (eF (jV (aB (eC (.bl true)) (aB (eC (.bl true)) (aB (eC (.bl false)) (aB (eC (.bl false)) aNil)))))))))
abbrev wV:Sv:=(bA (zPJ tbT 4 (xIf (dD (aG 0)) (zII iM (aB (aG 1) (aB (aG 2) aNil))) (zII eD (aB (aG 1) (aB (aG 2) aNil)))) (bA (zCe 3 (jV (aB (zKx zKu 4 ["ValueError"]) (aB (zKx zKu 4 ["Unlike"]) aNil)))) uZ)) tL)
def eE:Mir:=fn 3 5 (bA (zCe 3 (jV aNil)) wV)
abbrev zBc:Sv:=(gE (zSc (zSx "bool" (aG 3)) (zSc (eOp oEq (aG 3) (aG 2)) (eOp oEq (zSn (aM eD (aB (aG 0) (aB (aG 1) aNil)))) (aG 2)))))
def dY:Mir:=fn 3 4 (bA (dF 3 (aM iM (aB (aG 0) (aB (aG 1) aNil)))) zBc)
abbrev zKB:Sv:=(sIf (xF (dD (aM iM (aB (aM kG (aB (aG 6) (aB (eF (jV aNil)) (aB (eF (iW (qZ (aG 1)) iK (aM mE (aB (aG 11) aNil)))) aNil)))) (aB (aG 4) aNil))))) (gE (eC (.bl false))) sNext)
abbrev zFc:Sv:=(sIf (zHs (xF (dD (aM eE (aB (aG 10) (aB (aG 2) (aB (aG 9) aNil)))))) (xF (dD (aM eE (aB (aG 10) (aB (aG 9) (aB (aG 2) aNil))))))) (gE (eC (.bl false))) sNext)
abbrev zLl:Sv:=(xI (qZ (eF (jV (aB (eC (.bl true)) (aB (eC (.bl false)) aNil))))) (gName 10) zFc)
abbrev zEI:Sv:=(sIf (vT (dD (eOp oNe (aG 8) (eF (jV aNil)))) (dD (eOp oNe (aG 8) (aG 1)))) (bA (dF 9 (aM eI (aB (aG 8) (aB (aG 0) (aB (eC (.int 18)) aNil))))) zLl) sNext)
abbrev zFp:Sv:=(gE (eC (.bl true)))
abbrev zKT:Sv:=(bA (xI (qZ (eF (zLN (aG 7) (eF (jV (aB (eF (fSl (aG 1) oN (oS (eUn zFj (eC (.int 1)))))) aNil)))))) (gName 8) zEI) zFp)
abbrev zAr:Sv:=(bA (dF 7 (eF (jV (aB (eF (zLN (aG 1) (eF (jV (aB (eC (.int 0)) aNil))))) (aB (eF (zLN (eF (fSl (aG 1) (oS (eC (.int 1))) oN)) (eF (jV (aB (eB zNW (aB (eOp zDg (eOp oIx (aG 1) (eC (.int 0))) (eC (.int 1))) aNil)) aNil))))) (aB (eF (zLN (eF (jV (aB (eOp oIx (aG 1) (eC (.int 0))) aNil))) (aG 1))) (aB (eF (zSh (aG 1) oN oN (eUn zFj (eC (.int 1))))) aNil))))))) zKT)
abbrev zJF:Sv:=(bA (sIf (vT (dD (eOp oEq (eOp pP (aG 3) (eC (.int 6))) (eC (.int 2)))) (dD (eOp oGt (eB lM (aB (aG 1) aNil)) (eC (.int 1))))) (bA (dF 6 (eOp oIx (eF (jV (aB (eC (.str "row")) (aB (eC (.str "back")) (aB (eC (.str "part")) aNil))))) (eOp pP (eOp zB (aG 3) (eC (.int 6))) (eC (.int 3))))) zKB) sNext) zAr)
abbrev zIW:Sv:=(bA (sIf (zHs (xF (dD (aM dY (aB (aG 2) (aB (aG 4) (aB (aG 5) aNil)))))) (zHs (xF (dD (aM dY (aB (aG 4) (aB (aG 2) (aB (aG 5) aNil)))))) (xF (dD (aM dY (aB (aG 2) (aB (aG 2) (aB (eC (.bl true)) aNil)))))))) (gE (eC (.bl false))) sNext) zJF)
abbrev zIb:Sv:=(bA (dF 5 (aM mU (aB (aG 2) (aB (aG 4) aNil)))) zIW)
abbrev zJe:Sv:=(bA (dF 4 (aM iE (aB (aG 2) (aB (aG 1) (aB (aG 0) (aB (aG 3) aNil)))))) zIb)
abbrev zHN:Sv:=(bA (dF 3 (eOp pP (eOp zB (aM bP (aB (aG 0) (aB (eC (.int 0)) aNil))) (eC (.int 4))) (eOp zIr (eC (.int 10)) (eC (.int 30))))) zJe)
abbrev zIX:Sv:=(bA (dF 2 (aM eI (aB (aG 1) (aB (aG 0) (aB (eC (.int 6)) aNil))))) zHN)
def zOg:Mir:=fn 1 11 (bA (dF 1 (eF (cH hJ (aB (aG 0) (aB (eC (.int 0)) (aB (eC (.int 4)) aNil)))))) zIX)
end Lw
namespace Lw
open L3 PySem Fr Fq Ln
local macro_rules | `(⋯)=>`(by omega)
local macro_rules | `(∅)=>`(by decide)
local macro_rules | `(tactic| erw[$r,*])=>do
 let t<-r.getElems.mapM fun x=>`(tactic| (symm;rw[$x:rwRule]))
 `(tactic| ($[$t]*))
def c_NOUGHT:eV=dq 0:=rfl
local macro_rules | `(tactic| symm)=>do
 let ids:Array (Lean.TSyntax `term):=(("c_NOUGHT d_WEIGHTED d_HALF d_BOAT d_MOST_BOATS d_DEEPEST d_ACROSS d_UP fn_at enumF_t iZip_at iEnum_at enumF_l fComp2_at chO_s oEq_s oNe_s oTabNot_s L3.start sSeq_at seqF_nx seqF_ret sSet_at setF sOwn_at ownF sRet_at retF sRetF_at retFF sRetOwn_at retS sRetN sIf_at ifF_t ifF_f sNext sNo sDrop_at dropF dropG eVar_at varS eC eOp_at opF eUn eCall_at callF rtF eB eTup_at tupF aCons_at consF consG aNil tVal_at blF tNotB_at notF tAndB_at tandF_t tandF_f tOrB_at torF_t torF_f eAnd_at andF_t andF_f eOr_at orF_t orF_f eIf_at eifF_t eifF_f eF_at efF fLst_at fLstF fCall_at fcallF rtFF fList_at fListF_l fListF_t fComp_at fRep_at repF fCat_at catF catG eFrz_at frzF fFrz_at fFrzF oN oS_at oSF fSl3_at fSl3F fSl3G fSl3H fSl3I_i fSl_at fSlF fSlG fSlH eIsN_at isNF isNon sApp_at appS appF sExt_at extS extF sAug_at augS augF xDrop_at xdropF setG xIf_at sTry_at tryF_ok tryF_err tryE_t tryH_nx eIsE_at sUnp_at unpF nxF bSum_l bSum_t gTup_at gtF_t gCons_at gNil_at gName sFor_at forF iRevL_at revL_l iSeq_at seqD_l seqD_t iRng1_at iRng2_at sFrz sFrzAt frzAt tFrzB okb erb Rt.d fin oAdd_i oAddI_i oSub_i oMul_i oDiv_i oMod_i oPow_i oEq_i oNe_i oLt_i oLe_i oGt_i oGe_i oIx_tc sPop_at popS dp_mk ty_dp len_dp ix_dp0 ix_dp1 dep_dp noL_dp oEq_dp oNe_dp noLs_dps oNeg_i oNot_b bAbs_i bLen_t bLen_l bMin_i bTup_t bTup_l eIsT_at isTF isT ty_i ty_t ty_l ty_b ty_s ty_n ofO_some atD sRaise_at raiseF Sl.frz noErr dep depS noL noLs Qo Xd Ui Xu Vf List.replicate Qn Yc List.getElem?_cons_zero List.getElem?_cons_succ List.set_cons_zero List.set_cons_succ Nat.reduceAdd Nat.reduceSub Nat.reduceLeDiff Nat.reduceEqDiff Xl Xp Nat.max_self Vl if_true ite_true ite_false if_false Xn Bool.not_true Bool.not_false reduceIte ite_self Int.toNat_zero Int.reduceToNat Int.reduceLE Int.reduceLT Xh decide_true decide_false Bool.or_true Ul Bool.true_or Bool.false_or Bool.and_true Bool.true_and U3 Bool.false_and String.reduceBEq String.reduceEq beq_self_eq_true ix_dq0 ix_dq1 ty_dq dep_dq noL_dq len_dq eq_dq oEq_dq oNe_dq Qe okDiv_lit okMul_litr okMul_litl okp9 okp30 p10 fdiv_pos fmod_pos Int.reduceEq Int.reduceNeg p10ne p10ne2 p10pos2 Int.reduceMul Int.reduceAdd Int.reduceSub Int.reduceDiv Int.reduceMod eqD Nat.reduceLT Nat.reducePow ne_eq not_true_eq_false not_false_eq_true".splitOn " ").map fun s=>⟨Lean.mkIdent s.toName⟩).toArray
 `(tactic| simp only[$[$ids:term],*])
def tP(t b:Int):dI [.int t,.int b]=.ok (.v (.int (Int.gcd t b:Int))):=by
 unfold dI;symm
 refine zJL (fun ρ=>∃(x y:Int)(r:Sl),ρ=[.val (.int x),.val (.int y),r]/\0<=x/\0<=y/\Int.gcd x y=Int.gcd t b) (fun ρ=>(slI 1 ρ).toNat)
  (fun r=>(r.bind (zGX (gE (aG 0)))).bind fin=.ok (.v (.int (Int.gcd t b:Int)))) ⟨_,_,_,rfl,⋯,⋯,by simp[Int.gcd]⟩ ?_
 rintro ρ ⟨x,y,r,rfl,hx,hy,hg⟩
 by_cases h:y=0
 ·subst h
  refine .inl ⟨rfl,?_⟩
  have e:x=(Int.gcd t b:Int):=by
   rw[Int.gcd_zero_right] at hg;omega
  rw[<-e];rfl
 ·refine .inr ⟨?_,[.val (.int y),.val (.int (x.fmod y)),.val (.int (x.fmod y))],?_,⟨y,x.fmod y,_,rfl,hy,?_,?_⟩,?_⟩
  ·symm
   rw[Jj h];rfl
  ·symm
   rw[oMod_i h];symm
  ·rw[zEm _ hy];exact Vi _ h
  ·rw[zEm _ hy];exact(Fq.zLs hx ⋯).trans hg
  ·have:=V4 x (show 0<y by omega)
   rw[zEm _ hy];show(x % y).toNat<y.toNat
   omega
def zTi{t b:Int}(hb:b≠0):(dv t b).natAbs<=b.natAbs:=Nat.le_of_dvd ⋯ (Int.natAbs_dvd_natAbs.mpr (zFh t b))
def zCR{t b:Int}{n:Nat}(hb:b≠0)(hn:b.natAbs<2^n)(h:n<=8999):jU [.int t,.int b]=.ok (.v (dq (Rat.divInt t b))):=by
 have hd:nE (dv t b)=true:=zAE (zTj hb) (Xv (zTi hb) hn) h;have e0:decide (b=0)=false:=Jj hb;unfold jU;erw[e0,tP];symm;by_cases c:b<0
 ·have e:-(Int.gcd t b:Int)=dv t b:=by unfold dv;rw[Jk c]
  rw[J6 c];symm;rw[e,oDiv_i hd];erw[oDiv_i hd];symm;rw[zFl hb,zEQ hb];rfl
 ·have e:(Int.gcd t b:Int)=dv t b:=by unfold dv;rw[Jl c]
  rw[Jj c];symm;rw[e,oDiv_i hd];erw[oDiv_i hd];symm;rw[zFl hb,zEQ hb];rfl
def zSs(t:Int):jU [.int t,.int 0]=.err "NoFraction" := by
 unfold jU;symm
def zCO{p q:Rat}{m n:Nat}(hp:Sz m p)(hq:Sz n q)(h:m+n<=8999):mI [dq p,dq q]=.ok (.v (dq (p+q))):=by
 unfold mI;erw[oMul_i (dO hp.1 hq.d ⋯),oMul_i (dO hq.1 hp.d ⋯),oMul_i (dO hp.d hq.d ⋯)];symm;rw[zCR (X9 (iP p) (iP q)) (jP hp.d hq.d) h,zQT];symm
def eP{p q:Rat}{m n:Nat}(hp:Sz m p)(hq:Sz n q)(h:m+n<=8999):cP [dq p,dq q]=.ok (.v (dq (p-q))):=by
 unfold cP;erw[oMul_i (dO hp.1 hq.d ⋯),oMul_i (dO hq.1 hp.d ⋯),oMul_i (dO hp.d hq.d ⋯)];symm;rw[zCR (X9 (iP p) (iP q)) (jP hp.d hq.d) h,zMn];symm
def nR{p q:Rat}{m n:Nat}(hp:Sz m p)(hq:Sz n q)(h:m+n<=8999):dC [dq p,dq q]=.ok (.v (dq (p*q))):=by
 unfold dC;erw[oMul_i (dO hp.1 hq.1 ⋯),oMul_i (dO hp.d hq.d ⋯)];symm;rw[zCR (X9 (iP p) (iP q)) (jP hp.d hq.d) h,zMw];symm
def zJz{p q:Rat}{m n:Nat}(hp:Sz m p)(hq:Sz n q)(h0:q≠0)(h:m+n<=8999):pO [dq p,dq q]=.ok (.v (dq (p / q))):=by
 unfold pO;erw[oMul_i (dO hp.1 hq.d ⋯),oMul_i (dO hp.d hq.1 ⋯)];symm;rw[zCR (X9 (iP p) (zMb.mpr h0)) (jP hp.d hq.1) h,zIA];symm
def jY{p q:Rat}{m n:Nat}(hp:Sz m p)(hq:Sz n q)(h:m+n<=99999):fR [dq p,dq q]=.ok (.v (.bl (decide (p<q)))):=by
 unfold fR;erw[oMul_i (dO hp.1 hq.d ⋯),oMul_i (dO hq.1 hp.d ⋯)];symm;simp only[lt_iff]
def mn(a b:Rat):Rat:=if a<b then a else b
def ps0(x:Rat):Rat:=if x<0 then 0 else x
def jL:List Int->Int->Rat->List Rat
 | [],_,_=>[]
 | c::r,a,q=>mn (ps0 (q-(a:Rat))) (c:Rat)::jL r (a+c) q
def zBS:∀(cs:List Int)(a:Int)(q:Rat),(jL cs a q).length=cs.length
 | [],_,_=>rfl
 | c::r,a,q=>by simp only[jL,Qn,zBS r]
def zNV{q:Rat}{a c:Int}(h:0<=c):ps0 (q-(a:Rat))-mn (ps0 (q-(a:Rat))) (c:Rat)=ps0 (q-((a+c:Int):Rat)):=by
 have h':(0:Rat)<=(c:Rat):=by exact_mod_cast h
 rw[Ve];unfold ps0 mn;grind
def cS{n:Nat}{k:Int}(h:k.natAbs<2^n)(h0:0<n):Sz n (k:Rat):=by
 refine⟨h,?_⟩
 show 1<2^n
 exact Nat.one_lt_two_pow ⋯
def zSd{n:Nat}{q:Rat}(h:Sz n q)(h0:0<n):Sz n (ps0 q):=by
 unfold ps0;split
 ·exact cS (k:=0) (Nat.two_pow_pos n) h0
 ·exact h
def zPc{n:Nat}{p q:Rat}(h:Sz n p)(h':Sz n q):Sz n (mn p q):=by
 unfold mn;split
 ·exact h
 ·exact h'
def bR(k:Int):bJ [.int k]=.ok (.v (dq (k:Rat))):=by
 unfold bJ;erw[zRe]
def zFE{p q:Rat}{m n:Nat}(hp:Sz m p)(hq:Sz n q)(h:m+n<=99999):lB [dq p,dq q]=.ok (.v (dq (mn p q))):=by
 unfold lB;erw[jY hp hq h];symm;unfold mn;by_cases c:p<q
 ·rw[J6 c,Jk c]
  symm
 ·rw[Jj c,Jl c]
  symm
structure Cl (cs:List Int):Prop where
 nn:∀ c∈cs,0<=c
 up:∀ c∈cs,c<10^30
 lo:1<=cs.length
 hi:cs.length<=12
def zMZ:∀ {cs:List Int},(∀ c∈cs,0<=c)->(∀ c∈cs,c<10^30)->0<=cs.sum/\cs.sum<=cs.length*10^30
 | [],_,_=>∅
 | c::r,h,h'=>by
  have ih:=zMZ (fun x hx=>h x (Qd _ hx)) fun x hx=>h' x (Qd _ hx)
  have a:=h c Qb;have b:=h' c Qb;rw[Q4,Qn];refine⟨⋯,?_⟩
  have:((r.length+1:Nat):Int)*10^30=(r.length:Int)*10^30+10^30:=by rw[Yp,Yq];rfl
  omega
def Cl.sum{cs:List Int}(h:Cl cs):0<=cs.sum/\cs.sum<2^104:=by
 have a:=zMZ h.nn h.up;have b:=h.hi;refine⟨a.1,?_⟩
 omega
structure Haul (m:Nat) (q:Rat) (W:Int):Prop where
 nn:0<=q
 up:q<=(W:Rat)
 sz:Sz m q
def zFi{d:D}{q:Rat}{m:Nat}(hm:m<=3000)(hq:Sz m q):∀(cs:List Int)(a:Int)(acc:List D)(s t:Sl),(∀ c∈cs,0<=c)->(∀ c∈cs,c<10^30)->0<=a->a+cs.length*10^30<2^110->acc.length+cs.length<=100->
  ∃ l' s' t',loop (gName 4) rB (cs.map D.int) [.val d,.val (dq q),.val (dq (ps0 (q-(a:Rat)))),.own acc,s,t]=.ok (.nx [.val d,.val (dq q),l',.own (acc++(jL cs a q).map dq),s',t'])
 | [],a,acc,s,t,_,_,_,_,_=>⟨.val (dq (ps0 (q-(a:Rat)))),s,t,by rw[Xd,loop];simp[jL]⟩
 | c::r,a,acc,s,t,h1,h2,h3,h4,h5=>by
  have c0:=h1 c Qb;have c1:=h2 c Qb;rw[Qn] at h4 h5;have e4:((r.length+1:Nat):Int)*10^30=(r.length:Int)*10^30+10^30:=by rw[Yp,Yq];rfl
  have r0:0<=(r.length:Int)*10^30:=Wo ⋯ ∅
  have zl:Sz (m+111) (ps0 (q-(a:Rat))):=zSd (hq.sub (cS (n:=110) ⋯ ∅)) ⋯
  have zc:Sz (m+111) (c:Rat):=Sz.mono (m:=110) (cS ⋯ ∅) ⋯
  obtain⟨l',s',t',e⟩:=zFi hm hq r (a+c) (acc++[dq (mn (ps0 (q-(a:Rat))) (c:Rat))]) (.val (.int c)) (.val (dq (mn (ps0 (q-(a:Rat))) (c:Rat)))) (fun x hx=>h1 x (Qd _ hx)) (fun x hx=>h2 x (Qd _ hx)) ⋯ ⋯ (by rw[Qi,U2];omega)
  refine⟨l',s',t',?_⟩
  rw[Qo,cY (ρ1:=[.val d,.val (dq q),.val (dq (ps0 (q-(a:Rat)))),.own acc,.val (.int c),t]) rfl,e]
  ·rw[jL,Qo,Vr];rfl
  ·symm
   rw[bR];erw[zFE zl zc ⋯,Jk ⋯,eP zl (zPc zl zc) ⋯,zNV c0]
def zDC{d:D}{cs:List Int}{q:Rat}(hd:d=.lst (cs.map D.int)∨d=.tup (cs.map D.int)){m:Nat}(hm:m<=3000)(hc:Cl cs)(hq:Sz m q)(h0:0<=q):gO [d,dq q]=.ok (.f ((jL cs 0 q).map dq)):=by
 have sq:zKp d=.ok (cs.map D.int):=by rcases hd with rfl | rfl<;>rfl
 have:=hc.hi
 obtain⟨l',s',t',e⟩:=zFi (d:=d) hm hq cs 0 [] .un .un hc.nn hc.up ∅ ⋯ (by rw[Yc];omega)
 have z:ps0 (q-((0:Int):Rat))=q:=by
  unfold ps0;rw[show((0:Int):Rat)=0 from rfl];grind
 rw[z] at e;unfold gO;erw[sq,e];rfl
def zR(cs:List Int)(q:Rat):List Rat:=cs.map fun c=>Rat.divInt (c*q.num) (max 1 cs.sum*q.den)
def zKm{q:Rat}{c W:Int}(h:0<W):q / (W:Rat)*(c:Rat)=Rat.divInt (c*q.num) (W*q.den):=by
 have hW:(W:Rat)≠0:=by
  intro z;have:W=0:=by exact_mod_cast z
  omega
 rw[<-zIA q (W:Rat)];show Rat.divInt (q.num*((1:Nat):Int)) (q.den*W)*(c:Rat)=_
 rw[show((1:Nat):Int)=1 from rfl,Vw,<-Xe (c:Rat),U9];show Rat.divInt (q.num*c) (q.den*W*((1:Nat):Int))=_
 rw[show((1:Nat):Int)=1 from rfl,Vw,Wp q.num,Wp (q.den:Int)]
def pM:∀ {cs:List Int},(∀ c∈cs,0<=c)->cs.sum=0->∀ c∈cs,c=0
 | [],_,_,c,h=>by cases h
 | d::r,h,e,c,hc=>by
  rw[Q4] at e;have h0:=h d Qb
  have hr:0<=r.sum:=by
   have:∀ l:List Int,(∀ c∈l,0<=c)->0<=l.sum:=by
    intro l
    induction l with
    | nil=>intro _;decide
    | cons a l ih=>intro hl;rw[Q4];have:=hl a Qb;have:=ih fun x hx=>hl x (Qd _ hx);omega
   exact this r fun x hx=>h x (Qd _ hx)
  rcases Qc.mp hc with rfl | hc
  ·omega
  ·exact pM (fun x hx=>h x (Qd _ hx)) ⋯ c hc
def zCH{d:D}{cs:List Int}{q:Rat}(hd:d=.lst (cs.map D.int)∨d=.tup (cs.map D.int)){m:Nat}(hm:m<=3000)(hc:Cl cs)(hq:Sz m q):fS [d,dq q]=.ok (.f ((zR cs q).map dq)):=by
 have sm:=hc.sum;have hi:=hc.hi;have sq:zKp d=.ok (cs.map D.int):=by rcases hd with rfl | rfl<;>rfl
 have su:zDj [d]=.ok (.int cs.sum):=by rcases hd with rfl | rfl;exact bSum_l;exact bSum_t
 have ln:lM [d]=.ok (.int cs.length):=by rcases hd with rfl | rfl<;>(symm)
 unfold fS;erw[su];symm;by_cases c0:cs.sum=0
 ·rw[J6 c0]
  erw[ln,zFO ⋯];symm
  have e:(zR cs q).map dq=List.replicate cs.length (dq 0):=by
   unfold zR;rw[Qw,<-List.map_const'];refine Vp fun c h=>?_
   have c0:=pM hc.nn c0 c h;subst c0;show dq (Rat.divInt (0*q.num) _)=dq 0
   rw[Int.zero_mul,Rat.zero_divInt]
  rw[e]
 ·rw[Jj c0]
  symm;have W0:0<cs.sum:=⋯
  have zW:Sz 110 (cs.sum:Rat):=cS ⋯ ∅
  have nW:(cs.sum:Rat)≠0:=by
   intro z;have:cs.sum=0:=by exact_mod_cast z
   omega
  rw[bR];erw[zJz hq zW nW ⋯,sq];symm
  rw[eX (u:=D.int) (g:=fun c=>dq (Rat.divInt (c*q.num) (max 1 cs.sum*q.den))) ⋯ (fun c h=>by
   have c0:=hc.nn c h;have c1:=hc.up c h;erw[bR,nR (hq.div zW nW) (cS (n:=110) (k:=c) ⋯ ∅) ⋯];symm
   rw[zKm W0,Int.max_eq_right ⋯])]
  symm;unfold zR;rw[Qw];rfl
def jA(f:Nat->Rat)(l:List Nat):Rat:=(l.map f).sum
def bD(f:Nat->Rat)(i:Nat)(l:List Nat):jA f (i::l)=f i+jA f l:=by unfold jA;rw[Qo,Q4]
def iX(f:Nat->Rat):jA f []=0:=rfl
def rV{f g:Nat->Rat}:∀ {l:List Nat},(∀ i∈l,f i<=g i)->jA f l<=jA g l
 | [],_=>Qg
 | i::l,h=>by
  rw[bD,bD];have a:=h i Qb;have b:=rV fun j hj=>h j (Qd _ hj)
  grind
def rY{f g:Nat->Rat}:∀ {l:List Nat},(∀ i∈l,f i<=g i)->jA f l=jA g l->∀ i∈l,f i=g i
 | [],_,_,i,hi=>by cases hi
 | j::l,h,e,i,hi=>by
  rw[bD,bD] at e;have a:=h j Qb;have hb:∀ i∈l,f i<=g i:=fun k hk=>h k (Qd _ hk)
  have b:=rV hb;rcases Qc.mp hi with rfl | hi
  ·grind
  ·exact rY hb (by grind) i hi
def uV{f:Nat->Rat}{l m:List Nat}(h:l.Perm m):jA f l=jA f m:=by
 induction h with
 | nil=>rfl
 | cons x _ ih=>rw[bD,bD,ih]
 | swap x y l=>rw[bD,bD,bD,bD];grind
 | trans _ _ h1 h2=>rw[h1,h2]
def dM{w:Nat->Rat}{t:Rat}:∀ {l:List Nat},jA (fun i=>w i*t) l=t*jA w l
 | []=>by rw[iX,iX];grind
 | i::l=>by rw[bD,bD,dM];grind
def eG{f g:Nat->Rat}{l:List Nat}(h:∀ i∈l,f i=g i):jA f l=jA g l:=by unfold jA;rw[Vp h]
def zKR{w:Nat->Rat}:∀ {l:List Nat},(∀ i∈l,0<w i)->0<=jA w l
 | [],_=>Qg
 | i::l,h=>by
  rw[bD];have a:=h i Qb;have b:=zKR fun j hj=>h j (Qd _ hj)
  grind
def dN(c w:Nat->Rat)(t:Rat)(i:Nat):Rat:=mn (w i*t) (c i)
def zSK{a b c d:Rat}(h:a<=c)(h':b<=d):mn a b<=mn c d:=by unfold mn;grind
def nO{c w:Nat->Rat}{t u:Rat}{i:Nat}(hw:0<w i)(h:t<=u):dN c w t i<=dN c w u i:=
 zSK (Xz h (Qh hw)) Qg
def zAs{c w:Nat->Rat}{t u:Rat}{l:List Nat}(hw:∀ i∈l,0<w i)(h:jA (dN c w t) l=jA (dN c w u) l):∀ i∈l,dN c w t i=dN c w u i:=by
 rcases V5 (a:=t) (b:=u) with g | g
 ·exact rY (fun i hi=>nO (hw i hi) g) h
 ·exact fun i hi=>(rY (fun i hi=>nO (hw i hi) g) h.symm i hi).symm
def zHQ{L W w c:Rat}(hW:0<W)(h:L*w / W<c):mn (L*w / W) c=mn (w*(L / W)) c/\mn (w*(L / W)) c=w*(L / W):=by
 have e:L*w / W=w*(L / W):=by grind
 rw[e] at h ⊢
 exact⟨rfl,Jk h⟩
def zIz{r W w c:Rat}(hW:W≠0)(h:w*r<=c):mn (r*W*w / W) c=w*r:=by
 have e:r*W*w / W=w*r:=by grind
 rw[e];unfold mn;grind
def zHK{ci wi cj wj r:Rat}(h1:0<wi)(h2:0<wj)(h:ci*wj<=cj*wi)(hr:wi*r<=ci):wj*r<=cj:=by
 have a:wi*r*wj<=ci*wj:=Vs hr (Qh h2)
 have b:wj*r*wi<=cj*wi:=by
  have:wj*r*wi=wi*r*wj:=by grind
  rw[this];exact Q3 a h
 exact Yj b h1
def zGj{L W w c b:Rat}(hw:0<w)(h:¬ L*w / W<c)(hW:0<W)(hb:b*W<=L):∃ b',b<=b'/\c<=w*b'/\b' * (W-w)<=L-c:=by
 have h1:c*W<=L*w:=by
  have h':=V6.mp h;have:=Vs h' (Qh hW)
  rwa [Vt (by grind)] at this
 have e1:w*(c / w)=c:=by grind
 have e2:c / w*(W-w)=c*W / w-c:=by grind
 have e3:c*W / w<=L:=by
  have a:c*W / w*w<=L*w:=by rw[Vt (by grind)];exact h1
  exact Yj a hw
 rcases V5 (a:=b) (b:=c / w) with g | g
 ·exact⟨c / w,g,by rw[e1];exact Qg,by rw[e2];grind⟩
 ·refine⟨b,Qg,?_,?_⟩
  ·have:=Xz g (Qh hw)
   rwa [e1] at this
  ·have:=Xz g (Qh hw)
   rw[e1] at this;grind
structure Wt (ws cs:List Int):Prop where
 len:ws.length=cs.length
 lo:∀ w∈ws,1<=w
 up:∀ w∈ws,w<=10^6
def cR(cs:List Int)(i:Nat):Rat:=((cs.getD i 0:Int):Rat)
def qP:List (Nat×Rat)->List D->List D
 | [],am=>am
 | p::r,am=>qP r (am.set p.1 (dq p.2))
def wS(ws:List Int)(π:List Nat):Int:=(π.map fun i=>ws.getD i 0).sum
def nT(ws:List Int)(i:Nat)(π:List Nat):wS ws (i::π)=ws.getD i 0+wS ws π:=by unfold wS;rw[Qo,Q4]
def bO{l:List Int}{i:Nat}(h:i<l.length):l[i]?=some (l.getD i 0):=by rw[Qv,Qq h];rfl
def zRm{l:List Int}{i:Nat}(h:i<l.length):oIx (.lst (l.map D.int)) (.int (i:Int))=.ok (.int (l.getD i 0)):=qV (Xi i) (show l[((i:Nat):Int).toNat]?=some (l.getD i 0) from bO h)
def zTu{i:Nat}{k e:Ev}{ρ:Rho}{ds:List D}{d:D}{j:Nat}(h1:e ρ=.ok d)(h2:ρ[i]?=some (.own ds))(h3:k ρ=.ok (.int (j:Int)))(h4:j<ds.length):zSf i k e ρ=.ok (.nx (ρ.set i (.own (ds.set j d)))):=by
 unfold zSf;rw[h1];show(match ρ[i]? with | some (.own ds)=>_ | _=>_)=_
 rw[h2];show(k ρ).bind _=_
 rw[h3];exact Jk ⟨Xi j,⋯⟩
def zQr{ds:List D}{d:D}{i:Nat}(h:i<ds.length):oIx (.lst (ds.set i d)) (.int (i:Int))=.ok d:=by
 have e:=qV (f:=id) (l:=ds.set i d) (i:=(i:Int)) (a:=d) (Xi i) (show(ds.set i d)[i]?=some d from Vb h)
 rwa [List.map_id] at e
def Wt.at{ws cs:List Int}(h:Wt ws cs){i:Nat}(hi:i<cs.length):1<=ws.getD i 0/\ws.getD i 0<=10^6:=by
 have:=bO (l:=ws) (i:=i) (by rw[h.len];exact hi)
 exact⟨h.lo _ (Qj this),h.up _ (Qj this)⟩
def Wt.sum{ws cs:List Int}(h:Wt ws cs):∀ {π:List Nat},(∀ i∈π,i<cs.length)->(π.length:Int)<=wS ws π/\wS ws π<=π.length*10^6
 | [],_=>⟨Xh _,Xh _⟩
 | i::π,hi=>by
  have a:=h.at (hi i Qb);have b:=h.sum fun j hj=>hi j (Qd _ hj)
  rw[nT,Qn];omega
def Sq(d:D)(l:List Int):Prop:=d=.lst (l.map D.int)∨d=.tup (l.map D.int)
def Sq.ix{d:D}{l:List Int}(h:Sq d l){i:Nat}(hi:i<l.length):oIx d (.int (i:Int))=.ok (.int (l.getD i 0)):=by
 rcases h with rfl | rfl
 ·exact qV (Xi i) (bO hi)
 ·exact wE (Xi i) (bO hi)
def Sq.sum{d:D}{l:List Int}(h:Sq d l):zDj [d]=.ok (.int l.sum):=by
 rcases h with rfl | rfl
 ·exact bSum_l
 ·exact bSum_t
def Sq.len{d:D}{l:List Int}(h:Sq d l):lM [d]=.ok (.int l.length):=by
 rcases h with rfl | rfl
 ·rw[bLen_l,Qe]
 ·rw[bLen_t,Qe]
def Sq.seq{d:D}{l:List Int}(h:Sq d l):zKp d=.ok (l.map D.int):=by
 rcases h with rfl | rfl<;>rfl
def Sq.seqo{d:D}{l:List Int}(h:Sq d l):zKn d=some (l.map D.int):=by
 rcases h with rfl | rfl<;>rfl
def zIl{ws cs:List Int}{wd cd:D}(sw:Sq wd ws)(sc:Sq cd cs){qv s7:Sl}{L:Rat}{W:Int}{i:Nat}{am:List D}(hW:Wt ws cs)(hc:∀ c∈cs,0<=c/\c<10^30){m:Nat}(hm:m<=3000)(hL:Sz (m+250) L)(W0:0<W)(W1:W<=12*10^6)(hi:i<cs.length)(ha:am.length=cs.length){a:Rat}(ea:mn (L*cR ws i / (W:Rat)) (cR cs i)=a):
  bV [.val wd,.val cd,qv,.val (dq L),.val (.int W),.own am,.val (.int (i:Nat)),s7]=
   .ok (.nx [.val wd,.val cd,qv,.val (dq (L-a)),.val (.int (W-ws.getD i 0)),.own (am.set i (dq a)),.val (.int (i:Nat)),.val (dq (L*cR ws i / (W:Rat)))]):=by
 have hiw:i<ws.length:=by rw[hW.len];exact hi
 obtain⟨w1,w2⟩:=hW.at hi;obtain⟨c1,c2⟩:=hc _ (Qj (bO hi));have zW:Sz 24 (W:Rat):=cS ⋯ ∅
 have zw:Sz 20 (cR ws i):=cS ⋯ ∅
 have zc:Sz (m+294) (cR cs i):=Sz.mono (m:=100) (cS ⋯ ∅) ⋯
 have nW:(W:Rat)≠0:=by
  intro z;have:W=0:=by exact_mod_cast z
  omega
 have fw:bJ [.int (ws.getD i 0)]=.ok (.v (dq (cR ws i))):=bR _;have fc:bJ [.int (cs.getD i 0)]=.ok (.v (dq (cR cs i))):=bR _;have zx:Sz (m+294) (L*cR ws i / (W:Rat)):=((hL.mul zw).div zW nW).mono ⋯
 erw[sw.ix hiw,fw,nR hL zw ⋯,bR,zJz (hL.mul zw) zW nW ⋯];symm
 rw[zTu (j:=i) (d:=dq a) (ds:=am) (by
  erw[sc.ix hi,fc];symm;rw[zFE zx zc ⋯,ea]
  symm) rfl rfl ⋯]
 erw[zQr ⋯,eP hL (ea ▸ zPc zx zc) ⋯,sw.ix hiw];symm
def mV(ws:List Int):∀ π:List Nat,jA (cR ws) π=(wS ws π:Rat)
 | []=>rfl
 | i::π=>by rw[bD,mV ws π,nT,Ve];rfl
def zCw{ws cs:List Int}{wd cd:D}(sw:Sq wd ws)(sc:Sq cd cs){qv:Sl}{r:Rat}{m:Nat}(hm:m<=3000)(hW:Wt ws cs)(hc:∀ c∈cs,0<=c/\c<10^30)(hr:Sz (m+150) r):∀(π:List Nat)(am:List D)(s6 s7:Sl),(∀ i∈π,i<cs.length)->(∀ i∈π,cR ws i*r<=cR cs i)->π.length<=12->am.length=cs.length->
  ∃ l' W' s' t',loop (gName 6) bV (kM π) [.val wd,.val cd,qv,.val (dq (r*(wS ws π:Rat))),.val (.int (wS ws π)),.own am,s6,s7]=
   .ok (.nx [.val wd,.val cd,qv,l',W',.own (qP (π.map fun i=>(i,cR ws i*r)) am),s',t'])
 | [],am,s6,s7,_,_,_,_=>⟨_,_,_,_,rfl⟩
 | i::π,am,s6,s7,h1,h2,h4,h5=>by
  have hi:=h1 i Qb;obtain⟨W1,W2⟩:=hW.sum h1;rw[Qn] at h4 W1 W2;have zW:Sz 24 (wS ws (i::π):Rat):=cS ⋯ ∅
  have nW:(wS ws (i::π):Rat)≠0:=by
   intro z;have:wS ws (i::π)=0:=by exact_mod_cast z
   omega
  have e1:wS ws (i::π)-ws.getD i 0=wS ws π:=by rw[nT];omega
  have e2:r*(wS ws (i::π):Rat)-cR ws i*r=r*(wS ws π:Rat):=by
   rw[nT,Ve];show r*(cR ws i+(wS ws π:Rat))-cR ws i*r=_
   grind
  have tn:=zIl sw sc (qv:=qv) (s7:=s7) (W:=wS ws (i::π)) (am:=am) hW hc hm ((hr.mul zW).mono ⋯) ⋯ ⋯ hi h5 (zIz nW (h2 i Qb))
  rw[e1,e2] at tn;obtain⟨l',W',s',t',e⟩:=zCw sw sc hm hW hc hr π (am.set i (dq (cR ws i*r))) _ _ (fun j hj=>h1 j (Qd _ hj)) (fun j hj=>h2 j (Qd _ hj)) ⋯ (by rw[Q7];exact h5)
  refine⟨l',W',s',t',?_⟩
  show loop _ _ (.int (i:Nat)::kM π) _=_
  rw[cY rfl tn,e];rfl
def zCV{ws cs:List Int}{wd cd:D}(sw:Sq wd ws)(sc:Sq cd cs){qv:Sl}{q:Rat}{m:Nat}(hm:m<=3000)(hW:Wt ws cs)(hc:∀ c∈cs,0<=c/\c<10^30)(hq:Sz m q):∀(π:List Nat)(k:Int)(b:Rat)(am:List D)(s6 s7:Sl),(∀ i∈π,i<cs.length)->π.Pairwise (fun i j=>cR cs i*cR ws j<=cR cs j*cR ws i)->π.length<=12->am.length=cs.length->
  0<=k->k+π.length*10^30<2^110->0<=q-(k:Rat)->q-(k:Rat)<=jA (cR cs) π->b*(wS ws π:Rat)<=q-(k:Rat)->
  ∃ t,b<=t/\jA (dN (cR cs) (cR ws) t) π=q-(k:Rat)/\(∀ i∈π,Sz (m+155) (dN (cR cs) (cR ws) t i))/\∃ l' W' s' t',loop (gName 6) bV (kM π) [.val wd,.val cd,qv,.val (dq (q-(k:Rat))),.val (.int (wS ws π)),.own am,s6,s7]=
   .ok (.nx [.val wd,.val cd,qv,l',W',.own (qP (π.map fun i=>(i,dN (cR cs) (cR ws) t i)) am),s',t'])
 | [],k,b,am,s6,s7,_,_,_,_,_,_,h6,h7,_=>⟨b,Qg,by rw[iX] at h7 ⊢;grind,fun i h=>by(cases h),_,_,_,_,rfl⟩
 | i::π,k,b,am,s6,s7,h1,h2,h3,h4,h5,h5',h6,h7,h8=>by
  have hi:=h1 i Qb;have h1':∀ j∈π,j<cs.length:=fun j hj=>h1 j (Qd _ hj)
  obtain⟨W1,W2⟩:=hW.sum h1;obtain⟨V1,V2⟩:=hW.sum h1';obtain⟨w1,w2⟩:=hW.at hi;obtain⟨c1,c2⟩:=hc _ (Qj (bO hi));obtain⟨p1,p2⟩:=Qp.mp h2;rw[Qn] at h3 h5' W1 W2;have ek:((π.length+1:Nat):Int)*10^30=(π.length:Int)*10^30+10^30:=by rw[Yp,Yq];rfl
  have k0:0<=(π.length:Int)*10^30:=Wo ⋯ ∅
  have zW:Sz 24 (wS ws (i::π):Rat):=cS ⋯ ∅
  have zk:Sz 110 (k:Rat):=cS ⋯ ∅
  have zL:Sz (m+111) (q-(k:Rat)):=(hq.sub zk).mono ⋯
  have pW:(0:Rat)<(wS ws (i::π):Rat):=by exact_mod_cast (show 0<wS ws (i::π) by omega)
  have nW:(wS ws (i::π):Rat)≠0:=fun z=>by rw[z] at pW;exact absurd pW ∅
  have pw:∀ j,j<cs.length->0<cR ws j:=fun j hj=>by
   have:=(hW.at hj).1
   unfold cR;exact_mod_cast (show 0<ws.getD j 0 by omega)
  have e1:wS ws (i::π)-ws.getD i 0=wS ws π:=by rw[nT];omega
  have eW:(wS ws (i::π):Rat)=cR ws i+(wS ws π:Rat):=by rw[nT,Ve];rfl
  have pV:(0:Rat)<=(wS ws π:Rat):=by exact_mod_cast (show 0<=wS ws π by omega)
  generalize hL:q-(k:Rat)=L at h6 h7 h8 zL ⊢
  have loop1:∀ {a:Rat} {l' W' s' t':Sl} {am':List D},mn (L*cR ws i / (wS ws (i::π):Rat)) (cR cs i)=a->loop (gName 6) bV (kM π) [.val wd,.val cd,qv,.val (dq (L-a)),.val (.int (wS ws π)),.own (am.set i (dq a)),.val (.int (i:Nat)),.val (dq (L*cR ws i / (wS ws (i::π):Rat)))]=.ok (.nx [.val wd,.val cd,qv,l',W',.own am',s',t'])->
    loop (gName 6) bV (kM (i::π)) [.val wd,.val cd,qv,.val (dq L),.val (.int (wS ws (i::π))),.own am,s6,s7]=.ok (.nx [.val wd,.val cd,qv,l',W',.own am',s',t']):=fun {a l' W' s' t' am'} ea e=>by
   have tn:=zIl sw sc (qv:=qv) (s7:=s7) (W:=wS ws (i::π)) (am:=am) hW hc hm (zL.mono ⋯) ⋯ ⋯ hi h4 ea
   rw[e1] at tn;show loop _ _ (.int (i:Nat)::kM π) _=_
   rw[cY rfl tn];exact e
  by_cases hx:L*cR ws i / (wS ws (i::π):Rat)<cR cs i
  ·obtain⟨x1,x2⟩:=zHQ pW hx
   generalize hr:L / (wS ws (i::π):Rat)=r at x1 x2;have zr:Sz (m+135) r:=hr ▸ (zL.div zW nW).mono ⋯
   have eL:L=r*(wS ws (i::π):Rat):=by rw[<-hr,Vt nW]
   have wr:cR ws i*r<=cR cs i:=by
    have e:L*cR ws i / (wS ws (i::π):Rat)=cR ws i*r:=by rw[<-hr];grind
    rw[e] at hx;exact Qh hx
   have later:∀ j∈π,cR ws j*r<=cR cs j:=fun j hj=>zHK (pw i hi) (pw j (h1' j hj)) (p1 j hj) wr
   have gj:∀ j∈i::π,dN (cR cs) (cR ws) r j=cR ws j*r:=fun j hj=>by
    have:cR ws j*r<=cR cs j:=by
     rcases Qc.mp hj with rfl | hj
     ·exact wr
     ·exact later j hj
    unfold dN mn;grind
   have e2:L-cR ws i*r=r*(wS ws π:Rat):=by rw[eL,eW];grind
   obtain⟨l',W',s',t',e⟩:=zCw sw sc (qv:=qv) hm hW hc (zr.mono ⋯) π (am.set i (dq (cR ws i*r))) (.val (.int (i:Nat))) (.val (dq (L*cR ws i / (wS ws (i::π):Rat)))) h1' later ⋯ (by rw[Q7];exact h4)
   refine⟨r,Yj (by rw[<-eL];exact h8) pW,?_,fun j hj=>?_,l',W',s',t',loop1 (a:=cR ws i*r) (x1.trans x2) ?_⟩
   ·rw[eG gj,dM,mV,<-eL]
   ·rw[gj j hj]
    have v:=hW.at (h1 j hj);exact(Sz.mul (m:=20) (n:=m+135) (cS ⋯ ∅) zr).mono ⋯
   ·rw[e2,e,Qo,qP,gj i Qb]
    rw[Vp (g:=fun j=>(j,dN (cR cs) (cR ws) r j)) fun j hj=>by rw[gj j (Qd _ hj)]]
  ·have ea:mn (L*cR ws i / (wS ws (i::π):Rat)) (cR cs i)=cR cs i:=Jl hx
   obtain⟨b',g1,g2,g3⟩:=zGj (pw i hi) hx pW h8;have ek2:q-((k+cs.getD i 0:Int):Rat)=L-cR cs i:=by rw[Ve,<-hL];show q-((k:Rat)+cR cs i)=_;grind
   have c0:0<=cR cs i:=by unfold cR;exact_mod_cast c1
   have cL:cR cs i<=L:=by
    have y:=Vs (V6.mp hx) (Qh pW);rw[Vt nW] at y;have y2:L*cR ws i<=L*(wS ws (i::π):Rat):=Xz (by rw[eW];grind) h6
    exact Yj (Q3 y y2) pW
   rw[bD] at h7
   have g3':b' * (wS ws π:Rat)<=L-cR cs i:=by
    rw[eW] at g3;have:cR ws i+(wS ws π:Rat)-cR ws i=(wS ws π:Rat):=by grind
    rw[this] at g3;exact g3
   obtain⟨t,t1,t2,tz,l',W',s',t',e⟩:=zCV sw sc (qv:=qv) hm hW hc hq π (k+cs.getD i 0) b' (am.set i (dq (cR cs i))) (.val (.int (i:Nat))) (.val (dq (L*cR ws i / (wS ws (i::π):Rat)))) h1' p2 ⋯ (by rw[Q7];exact h4) ⋯ ⋯ (by rw[ek2];grind) (by rw[ek2];grind) (by rw[ek2];exact g3')
   have gi:dN (cR cs) (cR ws) t i=cR cs i:=by
    have:=Xz t1 (Qh (pw i hi))
    unfold dN mn;grind
   rw[ek2] at e t2;refine⟨t,Q3 g1 t1,?_,fun j hj=>?_,l',W',s',t',loop1 ea ?_⟩
   ·rw[bD,gi,t2];grind
   ·rcases Qc.mp hj with rfl | hj
    ·rw[gi];exact Sz.mono (m:=100) (cS ⋯ ∅) ⋯
    ·exact tz j hj
   ·rw[e,Qo,qP,gi]
def yQ{g:Nat->Rat}:∀(π:List Nat)(am:List D)(j:Nat),(qP (π.map fun i=>(i,g i)) am)[j]?=if j∈π then (if j<am.length then some (dq (g j)) else none) else am[j]?
 | [],am,j=>by simp[qP]
 | i::π,am,j=>by
  rw[Qo,qP,yQ π,Q7];by_cases h1:j∈π
  ·rw[Jk h1,Jk (Qd _ h1)]
  ·rw[Jl h1]
   by_cases h2:j=i
   ·subst h2
    rw[Jk Qb];by_cases h3:j<am.length
    ·rw[Jk h3];exact Vb h3
    ·rw[Jl h3,Qz (by rw[Q7];omega)]
   ·rw[Jl (by simp[h1,h2]),Va (fun z=>h2 z.symm)]
def zGs{g:Nat->Rat}{π:List Nat}{n:Nat}(h:π.Perm (List.range n)):qP (π.map fun i=>(i,g i)) (List.replicate n (dq 0))=((List.range n).map g).map dq:=by
 refine Yi fun j=>?_
 rw[yQ,Qu,Qu,X6];by_cases hj:j<n
 ·rw[Jk (h.mem_iff.mpr (Qk.mpr hj)),Jk hj,Xa hj];rfl
 ·rw[Jl (fun z=>hj (Qk.mp (h.mem_iff.mp z))),Qz (by rw[X6];omega),Qz (by rw[Q2];omega)];rfl
def zDv(kz:List Int):∃ π,iD kz π:=by
 refine⟨(List.range kz.length).mergeSort (fun i j=>decide (kz.getD i 0<=kz.getD j 0)),Qah _ _,?_⟩
 have:=Qai (le:=fun i j=>decide (kz.getD i 0<=kz.getD j 0)) (fun a b c h1 h2=>by simp only[J9] at *;omega) (fun a b=>by simp only[Xk,J9];omega) (List.range kz.length)
 exact this.imp fun h=>J8 h
def zIK{fs:Fv}{kf:List D->Res (List Int)}{g:Gv}{b r:Sv}{ρ:Rho}{kz:List Int}{x:Res Fl}(h1:(fs ρ).bind kf=.ok kz)(h:∀ π,iD kz π->bA (fun ρ=>loop g b (kM π) ρ) r ρ=x):zHn fs kf g b r ρ=x:=by
 obtain⟨π,hπ⟩:=zDv kz;unfold zHn;rw[h1];exact zFV hπ h
def uB:List Rat->Int
 | []=>1
 | x::r=>x.den*uB r
def zKw(B:Int)(x:Rat):Int:=x.num*B.fdiv x.den
def zEX:∀ {l:List Rat} {x:Rat},x∈l->(x.den:Int) ∣ uB l
 | y::r,x,h=>by
  rcases Qc.mp h with rfl | h
  ·exact⟨uB r,rfl⟩
  ·exact Int.dvd_trans (zEX h) ⟨y.den,Wp _ _⟩
def zAb:∀ l:List Rat,0<uB l
 | []=>∅
 | x::r=>Um (gK x) (zAb r)
def zMH{l:List Rat}{x:Rat}(h:x∈l):((zKw (uB l) x:Int):Rat)=x*(uB l:Rat):=by
 obtain⟨k,hk⟩:=zEX h;have d0:=gK x;unfold zKw;rw[fdiv_pos _ d0,hk,Int.mul_ediv_cancel_left _ ⋯,Vm,Vm]
 have e:x*((x.den:Int):Rat)=(x.num:Rat):=by
  have h1:=Xe x;rw[Yr] at h1
  have h2:((x.den:Int):Rat)≠0:=fun z=>by
   have:(x.den:Int)=0:=by exact_mod_cast z
   omega
  rw[<-Vt (a:=(x.num:Rat)) h2,h1]
 rw[<-e];grind
def zBK{a:Sl}:∀(l:List Rat)(B:Int)(s:Sl)(m:Nat),(∀ x∈l,(x.den:Int)<=10^6)->B.natAbs<2^m->m+20*l.length<=1000->
  ∃ s',loop (gName 2) yY (l.map dq) [a,.val (.int B),s]=.ok (.nx [a,.val (.int (B*uB l)),s'])/\(B*uB l).natAbs<2^(m+20*l.length)
 | [],B,s,m,_,h2,_=>⟨s,by rw[Xd,loop,uB,Vw],by rw[uB,Vw];exact h2⟩
 | x::r,B,s,m,h1,h2,h3=>by
  have d1:=h1 x Qb;have d0:=gK x;rw[Qn] at h3;have hx:((x.den:Int)).natAbs<2^20:=⋯
  obtain⟨s',e,hb⟩:=zBK r (B*x.den) (.val (dq x)) (m+20) (fun y hy=>h1 y (Qd _ hy)) (jP h2 hx) ⋯
  have ed:B*uB (x::r)=B*x.den*uB r:=by rw[uB,Wq]
  refine⟨s',?_,by rw[ed,Qn,show m+20*(r.length+1)=m+20+20*r.length by omega];exact hb⟩
  rw[ed,<-e,Qo];refine cY (ρ1:=[a,.val (.int B),.val (dq x)]) rfl ?_
  erw[oMul_i (dO (m:=m) (n:=20) h2 hx ⋯)];symm
def zFw{B:Int}(hB:B.natAbs<2^1000):∀ {l:List Rat},(∀ x∈l,(x.den:Int)<=10^6/\Sz 500 x)->oZ B (l.map dq)=.ok (l.map (zKw B))
 | [],_=>rfl
 | x::r,h=>by
  obtain⟨d1,z⟩:=h x Qb;have d0:=gK x;have e1:nE (x.den:Int)=true:=zAE (m:=20) ⋯ ⋯ ∅
  have e2:kP x.num (B.fdiv x.den)=true:=by
   rw[fdiv_pos _ d0];refine dO (m:=500) (n:=1000) z.1 (Xv ?_ hB) ∅
   exact Int.natAbs_ediv_le_natAbs _ _
  have k1:zKv B (dq x)=.ok (zKw B x):=by
   show(if (nE (x.den:Int) && kP x.num (B.fdiv x.den))=true then Res.ok _ else .no)=_
   rw[e1,e2];rfl
  rw[Qo,oZ,k1];show((oZ B (r.map dq)).bind fun ks=>Res.ok (zKw B x::ks))=_
  rw[zFw hB fun y hy=>h y (Qd _ hy)];rfl
def yL{l:List Rat}(h:∀ x∈l,(x.den:Int)<=10^6/\Sz 500 x)(hl:l.length<=12):kJ [.lst (l.map dq)]=.ok (l.map (zKw (uB l))):=by
 obtain⟨s',e,hb⟩:=zBK (a:=.val (.lst (l.map dq))) l 1 .un 1 (fun x hx=>(h x hx).1) ∅ ⋯
 rw[Int.one_mul] at e hb;have r1:zBH (start 3 [.lst (l.map dq)])=.ok (.nx [.val (.lst (l.map dq)),.val (.int 1),.un]):=rfl
 have r2:uW [.val (.lst (l.map dq)),.val (.int 1),.un]=.ok (.nx [.val (.lst (l.map dq)),.val (.int (uB l)),s']):=by
  symm;exact e
 unfold kJ zAo;rw[Jk (show [D.lst (l.map dq)].length=1 from rfl),r1];show(match uW [.val (.lst (l.map dq)),.val (.int 1),.un] with | .ok (.nx r')=>zFk r' | _=>.no)=_
 rw[r2];show(if (l.map dq).length<64 then oZ (uB l) (l.map dq) else .no)=_
 rw[Jk (by rw[Qe];omega)];exact zFw (Qs hb (V9 ∅ ⋯)) h
def lvs(ws cs:List Int):List Rat:=(cs.zip ws).map fun p=>Rat.divInt p.1 p.2
def zAB{ws cs:List Int}(h:ws.length=cs.length):(lvs ws cs).length=cs.length:=by unfold lvs;rw[Qe,Wn,h,Ub]
def zIV{ws cs:List Int}{i:Nat}(h:ws.length=cs.length)(hi:i<cs.length):(lvs ws cs)[i]?=some (cR cs i / cR ws i):=by
 unfold lvs;rw[Qu]
 have:(cs.zip ws)[i]?=some (cs.getD i 0,ws.getD i 0):=by
  rw[Qaj];exact⟨bO hi,bO ⋯⟩
 rw[this];show some (Rat.divInt _ _)=_
 rw[Yr];rfl
def zFz{t b:Int}(hb:0<b):((Rat.divInt t b).den:Int)<=b:=by
 have e:=zEQ (t:=t) (b:=b) ⋯
 have d0:0<=dv t b:=by unfold dv;rw[Jl ⋯];exact Xi _
 rw[<-e,zPl _ d0];exact Int.ediv_le_self _ ⋯
def zMu{ws cs:List Int}(hW:Wt ws cs)(hc:∀ c∈cs,0<=c/\c<10^30):∀ x∈lvs ws cs,(x.den:Int)<=10^6/\Sz 500 x:=fun x hx=>by
 obtain⟨p,hp,rfl⟩:=Qm.mp hx;obtain⟨h1,h2⟩:=Yn hp;have c:=hc _ h1;have w1:=hW.lo _ h2;have w2:=hW.up _ h2;have d:=zFz (t:=p.1) (b:=p.2) ⋯
 exact⟨⋯,Sz.of ⋯ ⋯ ⋯⟩
def uO{ws cs:List Int}{wd cd:D}(sw:Sq wd ws)(sc:Sq cd cs)(hW:Wt ws cs)(hl:cs.length<=12):dZ [wd,cd]=.ok (.f ((lvs ws cs).map dq)):=by
 have hw:=hW.len;unfold dZ;erw[pD sc.seqo sw.seqo];symm
 rw[mW (u:=D.int) (v:=D.int) (g:=fun c w=>dq (Rat.divInt c w)) ⋯ (fun p hp=>by
  have h2:=(Yn hp).2;have w1:=hW.lo _ h2;have w2:=hW.up _ h2;erw[zCR (n:=20) ⋯ ⋯ ∅]
  symm)]
 symm;unfold lvs;rw[Qw];rfl
def zAX(ws:List Int):∀ n,n<=ws.length->wS ws (List.range n)=(ws.take n).sum
 | 0,_=>rfl
 | n+1,h=>by
  have e:wS ws (List.range n++[n])=wS ws (List.range n)+ws.getD n 0:=by unfold wS;rw[Q9,V7];simp
  rw[Wk,e,zAX ws n ⋯,Wa,V7,bO (show n<ws.length by omega)];simp
def zBm{ws:List Int}{π:List Nat}(h:π.Perm (List.range ws.length)):wS ws π=ws.sum:=by
 have e:=mV ws π;rw[uV h,mV,zAX ws _ (Qf _),Vx] at e;have:=Rat.intCast_inj.mp e
 omega
def zMx{a b:Sv}{ρ ρ':Rho}(h:a ρ=.ok (.nx ρ')):bA a b ρ=b ρ':=by unfold bA;rw[h];rfl
def evs(ws cs:List Int)(t:Rat):List Rat:=(List.range cs.length).map (dN (cR cs) (cR ws) t)
def sW{ws cs:List Int}{wd cd:D}(sw:Sq wd ws)(sc:Sq cd cs){q:Rat}{m:Nat}(hmm:m<=3000)(hW:Wt ws cs)(hc:Cl cs)(hq:Sz m q)(h0:0<=q)(h1:q<=(cs.sum:Rat)):∃ t,0<=t/\dA [wd,cd,dq q]=.ok (.f ((evs ws cs t).map dq))/\(evs ws cs t).sum=q/\∀ i,i<cs.length->Sz (m+155) (dN (cR cs) (cR ws) t i):=by
 have hcc:∀ c∈cs,0<=c/\c<10^30:=fun c h=>⟨hc.nn c h,hc.up c h⟩
 have hi:=hc.hi;have hw:=hW.len;have hkr:=yL (zMu hW hcc) (by rw[zAB hw];exact hi)
 generalize hkz:(lvs ws cs).map (zKw (uB (lvs ws cs)))=kz at hkr;have lz:kz.length=cs.length:=by rw[<-hkz,Qe,zAB hw]
 have pw:∀ j,j<cs.length->0<cR ws j:=fun j hj=>by
  have:=(hW.at hj).1
  unfold cR;exact_mod_cast (show 0<ws.getD j 0 by omega)
 have one:∀ π,iD kz π->∃ t,0<=t/\jA (dN (cR cs) (cR ws) t) (List.range cs.length)=q/\(∀ i,i<cs.length->Sz (m+155) (dN (cR cs) (cR ws) t i))/\bA (fun ρ=>loop (gName 6) bV (kM π) ρ) kN [.val wd,.val cd,.val (dq q),.val (dq q),.val (.int ws.sum),.own (List.replicate cs.length (dq 0)),.un,.un]=.ok (.ret (.f ((evs ws cs t).map dq))):=by
  intro π hπ;obtain⟨hp,ho⟩:=hπ;rw[lz] at hp;have hm:∀ i∈π,i<cs.length:=fun i h=>Qk.mp (hp.mem_iff.mp h)
  have hl:π.length=cs.length:=by rw[hp.length_eq,Q2]
  have B0:=zAb (lvs ws cs);have B0':(0:Rat)<(uB (lvs ws cs):Rat):=by exact_mod_cast B0
  have kat:∀ i,i<cs.length->((kz.getD i 0:Int):Rat)=cR cs i / cR ws i*(uB (lvs ws cs):Rat):=fun i h=>by
   have e:=zIV hw h;have e2:kz.getD i 0=zKw (uB (lvs ws cs)) (cR cs i / cR ws i):=by rw[<-hkz,Qv,Qu,e];rfl
   rw[e2];exact zMH (Qj e)
  have ord:π.Pairwise (fun i j=>cR cs i*cR ws j<=cR cs j*cR ws i):=by
   refine Yo (fun {i j} h1 h2 h3=>?_) ho
   have h4:((kz.getD i 0:Int):Rat)<=((kz.getD j 0:Int):Rat):=Xc.mpr h3;rw[kat i (hm i h1),kat j (hm j h2)] at h4;have h5:=Yj h4 B0';have wi:=pw i (hm i h1);have wj:=pw j (hm j h2);have h6:=Vs h5 (Qh (Rat.mul_pos wi wj));have e1:cR cs i / cR ws i*(cR ws i*cR ws j)=cR cs i*cR ws j:=by grind
   have e2:cR cs j / cR ws j*(cR ws i*cR ws j)=cR cs j*cR ws i:=by grind
   rwa [e1,e2] at h6
  have hW':wS ws π=ws.sum:=zBm (by rw[hw];exact hp)
  have hC':jA (cR cs) π=(cs.sum:Rat):=by rw[mV,zBm hp]
  have z0:q-((0:Int):Rat)=q:=by rw[show((0:Int):Rat)=0 from rfl];grind
  obtain⟨t,t1,t2,tz,l',W',s',t',e⟩:=zCV sw sc (qv:=.val (dq q)) hmm hW hcc hq π 0 0 (List.replicate cs.length (dq 0)) .un .un hm ord ⋯ (by rw[X6]) ∅ (by rw[hl];omega) (by rw[z0];exact h0) (by rw[z0,hC'];exact h1) (by rw[z0];grind)
  rw[z0,hW'] at e;rw[z0] at t2;refine⟨t,t1,by rw[<-uV hp];exact t2,fun i h=>tz i (hp.mem_iff.mpr (Qk.mpr h)),?_⟩
  refine(zMx (a:=fun ρ=>loop (gName 6) bV (kM π) ρ) e).trans ?_
  rw[zGs hp];rfl
 obtain⟨π0,hπ0⟩:=zDv kz;obtain⟨t,t1,t2,tz,e0⟩:=one π0 hπ0;have pw':∀ i∈List.range cs.length,0<cR ws i:=fun i h=>pw i (Qk.mp h)
 refine⟨t,t1,?_,t2,tz⟩
 unfold dA;erw[sw.sum,sc.len,zFO ⋯];symm
 have hfs:Res.bind ((aB (eF (cH dZ (aB (aG 0) (aB (aG 1) aNil)))) aNil) [.val wd,.val cd,.val (dq q),.val (dq q),.val (.int ws.sum),.own (List.replicate cs.length (dq 0)),.un,.un]) kJ=.ok kz:=by
  erw[uO sw sc hW hi];symm;exact hkr
 have hall:∀ π,iD kz π->bA (fun ρ=>loop (gName 6) bV (kM π) ρ) kN [.val wd,.val cd,.val (dq q),.val (dq q),.val (.int ws.sum),.own (List.replicate cs.length (dq 0)),.un,.un]=.ok (.ret (.f ((evs ws cs t).map dq))):=fun π hπ=>by
  obtain⟨u,_,u2,_,eu⟩:=one π hπ;rw[eu];unfold evs;rw[Vp (zAs pw' (u2.trans t2.symm))]
 unfold oR;rw[zIK hfs hall];rfl
def ones(cs:List Int):List Int:=List.replicate cs.length 1
def fG(cs:List Int):Wt (ones cs) cs:=⟨X6,fun w h=>by rw[(List.mem_replicate.mp h).2];decide,fun w h=>by rw[(List.mem_replicate.mp h).2];decide⟩
def hf:Rat:=Rat.divInt 1 2
def jT:hf=1 / 2:=by unfold hf;rw[Yr];rfl
def zQD:d_HALF=dq hf:=zQS (b:=2) ∅
def zHp:Sz 2 hf:=Sz.of ∅ ∅ ∅
def dbl(q:Rat):q+q=q*((2:Int):Rat):=by rw[show((2:Int):Rat)=2 from rfl];grind
def zKe{q:Rat}{n:Nat}(h:Sz n q):Sz (n+2) (q+q):=by rw[dbl];exact h.mul (cS ∅ ∅)
def hvs(cs:List Int)(t:Rat):List Rat:=(List.range cs.length).map fun i=>dN (cR cs) (cR (ones cs)) t i*hf
structure Lvl (M:Nat) (ws cs:List Int) (q t:Rat):Prop where
 nn:0<=t
 sum:(evs ws cs t).sum=q
 sz:∀ i,i<cs.length->Sz M (dN (cR cs) (cR ws) t i)
def zCc{cs:List Int}{cd:D}(sc:Sq cd cs){q:Rat}{m:Nat}(hm:m<=2990)(hc:Cl cs)(hq:Sz m q)(h0:0<=q)(h1:q+q<=(cs.sum:Rat)):∃ t,Lvl (m+157) (ones cs) cs (q+q) t/\fK [cd,dq q]=.ok (.f ((hvs cs t).map dq)):=by
 have hi:=hc.hi;obtain⟨t,t1,e,t2,tz⟩:=sW (wd:=.lst ((ones cs).map D.int)) (.inl rfl) sc (m:=m+2) ⋯ (fG cs) hc (zKe hq) (by grind) h1
 refine⟨t,⟨t1,t2,fun i h=>(tz i h).mono ⋯⟩,?_⟩
 have eo:(ones cs).map D.int=List.replicate cs.length (.int 1):=by unfold ones;rw[List.map_replicate]
 rw[eo] at e;have hh:=zQD;unfold d_HALF at hh;unfold fK;erw[sc.len,zFO ⋯,zCO hq hq ⋯,e,show(evs (ones cs) cs t).map dq=(List.range cs.length).map (fun i=>dq (dN (cR cs) (cR (ones cs)) t i)) by unfold evs;rw[Qw];rfl]
 rw[eX (u:=fun i=>dq (dN (cR cs) (cR (ones cs)) t i)) (g:=fun i=>dq (dN (cR cs) (cR (ones cs)) t i*hf)) (by rw[Q2];omega) (fun i h=>by
  have hil:=Qk.mp h;symm;rw[hh,nR (tz i hil) zHp ⋯]
  symm)]
 symm;unfold hvs;rw[Qw];rfl
def Lvl.mono{M M':Nat}{ws cs:List Int}{q t:Rat}(h:Lvl M ws cs q t)(l:M<=M'):Lvl M' ws cs q t:=⟨h.nn,h.sum,fun i hi=>(h.sz i hi).mono l⟩
def vN{w v:Str}(h:aT.lookup w=some v):bW [.str w]=.ok (.v .non):=by
 unfold bW;erw[h];rfl
def wW{cs:List Int}{cd:D}(sc:Sq cd cs)(hc:Cl cs):eA [cd]=.ok (.v .non):=by
 have lo:=hc.lo;unfold eA;erw[sc.len,Jj ⋯,sc.seq];symm;refine zDr (Q:=fun r=>r=(.ok (.v .non):Res Rt)) (fun ρ=>∃ a,ρ=[.val cd,a]) ⟨_,rfl⟩ ?_ ?_
 ·rintro e ρ he ⟨a,rfl⟩
  obtain⟨c,h,rfl⟩:=Qm.mp he;have:=hc.nn c h
  refine⟨_,?_,.val (.int c),rfl⟩
  erw[Jj ⋯];symm
 ·rintro ρ ⟨a,rfl⟩
  rfl
def mG{q:Rat}{W:Int}{m:Nat}(hm:m<=3000)(h:Haul m q W)(hW:W.natAbs<2^110):bE [dq q,dq (W:Rat)]=.ok (.v .non):=by
 have z0:Sz 1 (0:Rat):=⟨∅,∅⟩
 have zW:Sz 110 (W:Rat):=cS hW ∅
 have n1:¬ q<0:=V6.mpr h.nn;have n2:¬ (W:Rat)<q:=V6.mpr h.up
 have io:dS [dq q,dq (W:Rat)]=.ok (.v (.bl false)):=by
  unfold dS;symm;rw[jY h.sz z0 ⋯,Jj n1];symm;rw[jY zW h.sz ⋯,Jj n2];symm
 unfold bE;erw[io];symm
def nF{r s:Type}(l:List r)(f:Nat->s)(d:r):l.zip ((List.range l.length).map f)=(List.range l.length).map fun i=>(l.getD i d,f i):=by
 refine Yi fun i=>?_
 rw[Qu];by_cases h:i<l.length
 ·rw[Xa h]
  refine Qaj.mpr ⟨?_,by rw[Qu,Xa h];rfl⟩
  show l[i]?=some (l.getD i d)
  rw[Qv,Qq h];rfl
 ·rw[Qz (by rw[Wn];omega),Qz (by rw[Q2];omega)];rfl
def kF{w:Str}{d:D}{n:Int}(hd:d=.lst []∨d=.tup [])(hw:oIn (.str w) d_WEIGHTED=.ok (.bl false)):aZ [.str w,d,.int n]=.ok (.v .non):=by
 have sq:zKp d=.ok []:=by rcases hd with rfl | rfl<;>rfl
 have ln:lM [d]=.ok (.int 0):=by rcases hd with rfl | rfl<;>rfl
 unfold d_WEIGHTED at hw;unfold aZ;erw[hw,ln,sq];rfl
def zUc:tM 10 6=true:=∅
def pS{w:Str}{ws cs:List Int}{wd:D}(sw:Sq wd ws)(hW:Wt ws cs)(hw:oIn (.str w) d_WEIGHTED=.ok (.bl true)):aZ [.str w,wd,.int cs.length]=.ok (.v .non):=by
 have hl:=hW.len;unfold d_WEIGHTED at hw;unfold aZ;erw[hw,sw.len];symm;rw[hl,J6 rfl];erw[sw.seq];symm;refine zDr (Q:=fun r=>r=(.ok (.v .non):Res Rt)) (fun ρ=>∃ a,ρ=[.val (.str w),.val wd,.val (.int cs.length),.val (.int cs.length),a]) ⟨_,rfl⟩ ?_ ?_
 ·rintro e ρ he ⟨a,rfl⟩
  obtain⟨c,h,rfl⟩:=Qm.mp he;have h1:=hW.lo c h;have h2:=hW.up c h;refine⟨_,?_,.val (.int c),rfl⟩
  erw[Jj ⋯,oPow_i zUc,Jj ⋯];symm
 ·rintro ρ ⟨a,rfl⟩
  rfl
def zTT:(Str.ofString "even" == Str.ofString "row")=false:=∅
def zTE:(Str.ofString "lack" == Str.ofString "row")=false:=∅
def zTP:(Str.ofString "lack" == Str.ofString "even")=false:=∅
def zTN:(Str.ofString "lack" == Str.ofString "part")=false:=∅
def zTz:(Str.ofString "lack" == Str.ofString "half")=false:=∅
def zFu:(aT.lookup (Str.ofString "even"))=some (Str.ofString "lack"):=∅
def zM:(aT.lookup (Str.ofString "lack"))=some (Str.ofString "even"):=∅
def zMe{n:Nat}{ws cs:List Int}{wd cd:D}(sw:Sq wd ws)(sc:Sq cd cs){q:Rat}{m:Nat}(hm:m<=3000)(hW:Wt ws cs)(hc:Cl cs)(hq:Sz m q)(h0:0<=q)(h1:q<=(cs.sum:Rat)):∃ t,Lvl (m+155) ws cs q t/\aN (n+1) [.str (Str.ofString "even"),wd,cd,dq q]=.ok (.f ((evs ws cs t).map dq)):=by
 obtain⟨t,t1,e,t2,tz⟩:=sW sw sc hm hW hc hq h0 h1;refine⟨t,⟨t1,t2,tz⟩,?_⟩
 show aS (aN n) _=_
 unfold aS;erw[sc.sum,bR,zTT,e];symm
def lks(ws cs:List Int)(t:Rat):List Rat:=(cs.zip (evs ws cs t)).map fun p=>(p.1:Rat)-p.2
def zQC(ws cs:List Int)(t:Rat):lks ws cs t=(List.range cs.length).map fun i=>cR cs i-dN (cR cs) (cR ws) t i:=by
 unfold lks evs;rw[nF cs _ 0,Qw];rfl
def zQl{n:Nat}{ws cs:List Int}{wd cd:D}(sw:Sq wd ws)(sc:Sq cd cs){q:Rat}{m:Nat}(hm:m<=2890)(hW:Wt ws cs)(hc:Cl cs)(hq:Haul m q cs.sum):∃ t,Lvl (m+261) ws cs ((cs.sum:Rat)-q) t/\aN (n+2) [.str (Str.ofString "lack"),wd,cd,dq q]=.ok (.f ((lks ws cs t).map dq)):=by
 have sm:=hc.sum;have hi:=hc.hi;have zW:Sz 105 (cs.sum:Rat):=cS ⋯ ∅
 have zT:Sz (m+106) ((cs.sum:Rat)-q):=(zW.sub hq.sz).mono ⋯
 have u:=hq.up;have u':=hq.nn;obtain⟨t,tl,e⟩:=zMe sw sc (n:=n) (m:=m+106) ⋯ hW hc zT (by grind) (by grind)
 refine⟨t,tl,?_⟩
 show aS (aN (n+1)) _=_
 unfold aS;erw[sc.sum,bR,zTE,zTP,zTN,zTz,show uX aT (.str (Str.ofString "lack"))=.ok (.str (Str.ofString "even")) by show zPF (aT.lookup (Str.ofString "lack"))=_;rw[zM];rfl,eP zW hq.sz ⋯,e,pD sc.seqo rfl];symm
 rw[mW (u:=D.int) (v:=dq) (g:=fun c l=>dq ((c:Rat)-l)) ⋯ (fun p hp=>by
  have hp':=hp;unfold evs at hp';rw[nF cs _ 0] at hp';obtain⟨i,hir,rfl⟩:=Qm.mp hp';have hil:=Qk.mp hir;have c1:=hc.nn _ (Qj (bO hil));have c2:=hc.up _ (Qj (bO hil));erw[bR,eP (m:=100) (n:=m+261) (cS ⋯ ∅) (tl.sz i hil) ⋯]
  symm)]
 symm;unfold lks;rw[Qw];rfl
def zSI:(Str.ofString "half" == Str.ofString "row")=false:=∅
def zSE:(Str.ofString "half" == Str.ofString "even")=false:=∅
def zTe:(Str.ofString "half" == Str.ofString "part")=false:=∅
def zAC:(aT.lookup (Str.ofString "half"))=some (Str.ofString "half"):=∅
def zHc{n:Nat}{e:D}{cs:List Int}{cd:D}(sc:Sq cd cs){q:Rat}{m:Nat}(hm:m<=2990)(hc:Cl cs)(hq:Sz m q)(h0:0<=q)(h1:q+q<=(cs.sum:Rat)):∃ t,Lvl (m+157) (ones cs) cs (q+q) t/\aN (n+1) [.str (Str.ofString "half"),e,cd,dq q]=.ok (.f ((hvs cs t).map dq)):=by
 have sm:=hc.sum;have zW:Sz 105 (cs.sum:Rat):=cS ⋯ ∅
 obtain⟨t,tl,ee⟩:=zCc sc hm hc hq h0 h1;refine⟨t,tl,?_⟩
 show aS (aN n) _=_
 unfold aS;erw[sc.sum,bR,zSI,zSE,zTe,zCO hq hq ⋯];symm;rw[jY zW (zKe hq) ⋯,Jj (V6.mpr h1)];erw[ee];symm
def lhs(cs:List Int)(t:Rat):List Rat:=(List.range cs.length).map fun i=>cR cs i-dN (cR cs) (cR (ones cs)) t i*hf
def zNM{n:Nat}{e:D}{cs:List Int}{cd:D}(sc:Sq cd cs){q:Rat}{m:Nat}(hm:m<=2880)(hc:Cl cs)(hq:Haul m q cs.sum)(h1:(cs.sum:Rat)<q+q):∃ t,Lvl (m+263) (ones cs) cs (((cs.sum:Rat)-q)+((cs.sum:Rat)-q)) t/\aN (n+2) [.str (Str.ofString "half"),e,cd,dq q]=.ok (.f ((lhs cs t).map dq)):=by
 have sm:=hc.sum;have hi:=hc.hi;have zW:Sz 105 (cs.sum:Rat):=cS ⋯ ∅
 have zT:Sz (m+106) ((cs.sum:Rat)-q):=(zW.sub hq.sz).mono ⋯
 have u:=hq.up;obtain⟨t,tl,ee⟩:=zHc sc (n:=n) (e:=e) (m:=m+106) ⋯ hc zT (by grind) (by grind)
 refine⟨t,tl,?_⟩
 show aS (aN (n+1)) _=_
 unfold aS;erw[sc.sum,bR,zSI,zSE,zTe,zCO hq.sz hq.sz ⋯];symm;rw[jY zW (zKe hq.sz) ⋯,J6 h1];erw[show uX aT (.str (Str.ofString "half"))=.ok (.str (Str.ofString "half")) by show zPF (aT.lookup (Str.ofString "half"))=_;rw[zAC];rfl,eP zW hq.sz ⋯,ee,pD sc.seqo rfl];symm
 rw[mW (u:=D.int) (v:=dq) (g:=fun c l=>dq ((c:Rat)-l)) ⋯ (fun p hp=>by
  have hp':=hp;unfold hvs at hp';rw[nF cs _ 0] at hp';obtain⟨i,hir,rfl⟩:=Qm.mp hp';have hil:=Qk.mp hir;have c1:=hc.nn _ (Qj (bO hil));have c2:=hc.up _ (Qj (bO hil));erw[bR,eP (m:=100) (n:=m+263+2) (cS ⋯ ∅) ((tl.sz i hil).mul zHp) ⋯]
  symm)]
 symm;unfold hvs lhs;rw[nF cs _ 0,Qw,Qw];rfl
def zTW:(Str.ofString "back" == Str.ofString "row")=false:=∅
def zTO:(Str.ofString "back" == Str.ofString "even")=false:=∅
def zTC:(Str.ofString "back" == Str.ofString "part")=false:=∅
def zTR:(Str.ofString "back" == Str.ofString "half")=false:=∅
def zTw:(Str.ofString "part" == Str.ofString "row")=false:=∅
def zTy:(Str.ofString "part" == Str.ofString "even")=false:=∅
def zHW:(aT.lookup (Str.ofString "row"))=some (Str.ofString "back"):=∅
def zN:(aT.lookup (Str.ofString "back"))=some (Str.ofString "row"):=∅
def zEy:(aT.lookup (Str.ofString "part"))=some (Str.ofString "part"):=∅
def zRQ{n:Nat}{d e:D}{cs:List Int}{q:Rat}(hd:d=.lst (cs.map D.int)∨d=.tup (cs.map D.int)){m:Nat}(hm:m<=3000)(hc:Cl cs)(hq:Sz m q)(h0:0<=q):aN (n+1) [.str (Str.ofString "row"),e,d,dq q]=.ok (.f ((jL cs 0 q).map dq)):=by
 have su:zDj [d]=.ok (.int cs.sum):=by rcases hd with rfl | rfl;exact bSum_l;exact bSum_t
 show aS (aN n) _=_
 unfold aS;erw[su,bR,zDC hd hm hc hq h0];symm
def zRK{n:Nat}{d e:D}{cs:List Int}{q:Rat}(hd:d=.lst (cs.map D.int)∨d=.tup (cs.map D.int)){m:Nat}(hm:m<=3000)(hc:Cl cs)(hq:Sz m q):aN (n+1) [.str (Str.ofString "part"),e,d,dq q]=.ok (.f ((zR cs q).map dq)):=by
 have su:zDj [d]=.ok (.int cs.sum):=by rcases hd with rfl | rfl;exact bSum_l;exact bSum_t
 show aS (aN n) _=_
 unfold aS;erw[su,bR,zTw,zTy,zCH hd hm hc hq];symm
def zMc(f g:Nat->Rat):∀ n:Nat,((List.range n).map fun i=>f i-g i).sum=((List.range n).map f).sum-((List.range n).map g).sum
 | 0=>by simp only[List.range_zero,Xd,Wr];grind
 | n+1=>by
  rw[Wk,Q9,Q9,Q9,V7,V7,V7,zMc f g n];simp only[Qo,Xd,Q4,Wr];grind
def sT(cs:List Int):((List.range cs.length).map (cR cs)).sum=(cs.sum:Rat):=by
 have e:=mV cs (List.range cs.length);rw[zAX cs _ (Qf _),Vx] at e;exact e
def pF{ws cs:List Int}{t:Rat}(hW:Wt ws cs)(hc:Cl cs)(h0:0<=t){i:Nat}(hi:i<cs.length):0<=dN (cR cs) (cR ws) t i/\dN (cR cs) (cR ws) t i<=cR cs i:=by
 have w:=(hW.at hi).1;have c:=hc.nn _ (Qj (bO hi));have w':(0:Rat)<=cR ws i:=by unfold cR;exact_mod_cast (show 0<=ws.getD i 0 by omega)
 have c':(0:Rat)<=cR cs i:=by unfold cR;exact_mod_cast c
 have:=Y0 w' h0
 unfold dN mn;grind
def zEL(l:List Int):dep (.lst (l.map D.int))<=2:=by
 have:depS (l.map D.int)<=1:=by
  induction l with
  | nil=>exact Vl _
  | cons a l ih=>rw[Qo];show max 0 (depS (l.map D.int))<=1;omega
 show depS (l.map D.int)+1<=2
 omega
def zMP(x:Rat):(x.num:Rat)=x*((x.den:Int):Rat):=by
 have d0:=gK x
 have nd:((x.den:Int):Rat)≠0:=fun z=>by
  have:(x.den:Int)=0:=by exact_mod_cast z
  omega
 have h1:=Xe x;rw[Yr] at h1;rw[<-Vt (a:=(x.num:Rat)) nd,h1]
def zIv{l:List Rat}{n:Nat}(h:l.length=n):l=(List.range n).map fun i=>l.getD i 0:=by
 refine Yi fun i=>?_
 rw[Qu];by_cases hi:i<n
 ·rw[Xa hi,Qq ⋯]
  show _=some (l.getD i 0)
  rw[Qv,Qq ⋯];rfl
 ·rw[Qz ⋯,Qz (by rw[Q2];omega)];rfl
def zBz(cs:List Int)(q:Rat)(i:Nat):Rat:=(jL cs 0 q).getD i 0
def zIT:∀(cs:List Int)(a:Int)(q:Rat)(i:Nat),(∀ c∈cs,0<=c)->i<cs.length->0<=(jL cs a q).getD i 0/\(jL cs a q).getD i 0<=cR cs i
 | c::r,a,q,0,h,_=>by
  have c0:(0:Rat)<=(c:Rat):=by exact_mod_cast h c Qb
  show 0<=mn (ps0 (q-(a:Rat))) (c:Rat)/\mn (ps0 (q-(a:Rat))) (c:Rat)<=(c:Rat)
  unfold mn ps0;grind
 | c::r,a,q,i+1,h,hi=>zIT r (a+c) q i (fun x hx=>h x (Qd _ hx)) (by rw[Qn] at hi;omega)
def vM:∀(cs:List Int)(a:Int){q q':Rat}(i:Nat),q<=q'->(jL cs a q).getD i 0<=(jL cs a q').getD i 0
 | [],_,_,_,_,_=>Qg
 | c::r,a,q,q',0,h=>by
  show mn (ps0 (q-(a:Rat))) (c:Rat)<=mn (ps0 (q' - (a:Rat))) (c:Rat)
  unfold mn ps0;grind
 | c::r,a,q,q',i+1,h=>vM r (a+c) i h
def zFF:∀(cs:List Int)(a:Int)(q:Rat),(∀ c∈cs,0<=c)->0<=cs.sum/\(jL cs a q).sum=mn (ps0 (q-(a:Rat))) (cs.sum:Rat)
 | [],a,q,_=>⟨Xh _,by show(0:Rat)=mn (ps0 _) ((0:Int):Rat);rw[show((0:Int):Rat)=0 from rfl];unfold mn ps0;grind⟩
 | c::r,a,q,h=>by
  have c0:=h c Qb;obtain⟨s0,e⟩:=zFF r (a+c) q fun x hx=>h x (Qd _ hx)
  have c0':(0:Rat)<=(c:Rat):=by exact_mod_cast c0
  have s0':(0:Rat)<=(r.sum:Rat):=by exact_mod_cast s0
  rw[Q4];refine⟨⋯,?_⟩
  rw[jL,Q4,e,Ve,Ve];unfold mn ps0;grind
def zIP{q:Rat}{m:Nat}(hq:Sz m q):∀(cs:List Int)(a:Int),(∀ c∈cs,0<=c)->(∀ c∈cs,c<10^30)->0<=a->a+cs.length*10^30<2^110->∀ x∈jL cs a q,Sz (m+111) x
 | [],_,_,_,_,_,x,hx=>by cases hx
 | c::r,a,h1,h2,h3,h4,x,hx=>by
  have c0:=h1 c Qb;have c1:=h2 c Qb;rw[Qn] at h4;have e4:((r.length+1:Nat):Int)*10^30=(r.length:Int)*10^30+10^30:=by rw[Yp,Yq];rfl
  have r0:0<=(r.length:Int)*10^30:=Wo ⋯ ∅
  rw[jL] at hx;rcases Qc.mp hx with rfl | hx
  ·exact zPc (zSd (hq.sub (cS (n:=110) ⋯ ∅)) ⋯) (Sz.mono (m:=100) (cS ⋯ ∅) ⋯)
  ·exact zIP hq r (a+c) (fun x hx=>h1 x (Qd _ hx)) (fun x hx=>h2 x (Qd _ hx)) ⋯ ⋯ x hx
def zDq{cs:List Int}{q:Rat}{m:Nat}(hc:Cl cs)(hq:Sz m q)(h0:0<=q)(h1:q<=(cs.sum:Rat)):(jL cs 0 q=(List.range cs.length).map (zBz cs q))/\(jL cs 0 q).sum=q/\∀ x∈jL cs 0 q,Sz (m+111) x:=by
 have hi:=hc.hi;refine⟨zIv (zBS _ _ _),?_,zIP hq cs 0 hc.nn hc.up ∅ ⋯⟩
 rw[(zFF cs 0 q hc.nn).2,show((0:Int):Rat)=0 from rfl];unfold mn ps0;grind
def zQh{n:Nat}{e:D}{cs:List Int}{cd:D}(sc:Sq cd cs){q:Rat}{m:Nat}(hm:m<=2890)(hc:Cl cs)(hq:Haul m q cs.sum):aN (n+2) [.str (Str.ofString "back"),e,cd,dq q]=.ok (.f (((List.range cs.length).map fun i=>cR cs i-zBz cs ((cs.sum:Rat)-q) i).map dq)):=by
 have sm:=hc.sum;have hi:=hc.hi;have zW:Sz 105 (cs.sum:Rat):=cS ⋯ ∅
 have zT:Sz (m+106) ((cs.sum:Rat)-q):=(zW.sub hq.sz).mono ⋯
 have u:=hq.up;have u':=hq.nn;obtain⟨r1,r2,r3⟩:=zDq hc zT (by grind) (by grind)
 have ee:=zRQ (n:=n) (e:=e) sc (m:=m+106) ⋯ hc zT (by grind)
 show aS (aN (n+1)) _=_
 unfold aS;erw[sc.sum,bR,zTW,zTO,zTC,zTR,show uX aT (.str (Str.ofString "back"))=.ok (.str (Str.ofString "row")) by show zPF (aT.lookup (Str.ofString "back"))=_;rw[zN];rfl,eP zW hq.sz ⋯,ee,pD sc.seqo rfl];symm
 rw[mW (u:=D.int) (v:=dq) (g:=fun c l=>dq ((c:Rat)-l)) ⋯ (fun p hp=>by
  obtain⟨p1,p2⟩:=Yn hp;have c1:=hc.nn _ p1;have c2:=hc.up _ p1;erw[bR,eP (m:=100) (n:=m+106+111) (cS ⋯ ∅) (r3 _ p2) ⋯]
  symm)]
 symm;rw[r1,nF cs _ 0,Qw,Qw];rfl
def jW(cs:List Int)(q:Rat)(i:Nat):Rat:=(zR cs q).getD i 0
def zEH{cs:List Int}{q:Rat}{i:Nat}(hi:i<cs.length):jW cs q i=Rat.divInt (cs.getD i 0*q.num) (max 1 cs.sum*q.den):=by
 unfold jW zR;rw[Qv,Qu,bO hi];rfl
def iL{cs:List Int}{q:Rat}(hc:Cl cs){i:Nat}(hi:i<cs.length):jW cs q i*(cs.sum:Rat)=q*cR cs i/\(cs.sum=0->jW cs q i=0):=by
 have sm:=hc.sum;have e:=zEH (q:=q) hi;by_cases z:cs.sum=0
 ·have c0:=pM hc.nn z _ (Qj (bO hi))
  have p0:jW cs q i=0:=by rw[e,c0,Int.zero_mul,Rat.zero_divInt]
  refine⟨?_,fun _=>p0⟩
  rw[p0];unfold cR;rw[c0,show((0:Int):Rat)=0 from rfl];grind
 ·have W0:0<cs.sum:=⋯
  have nW:(cs.sum:Rat)≠0:=fun y=>by
   have:cs.sum=0:=by exact_mod_cast y
   omega
  refine⟨?_,fun y=>absurd y z⟩
  rw[e,Int.max_eq_right ⋯,<-zKm W0];show q / (cs.sum:Rat)*cR cs i*(cs.sum:Rat)=_
  grind
def zIH{cs:List Int}{q:Rat}{m:Nat}(hc:Cl cs)(hq:Sz m q){i:Nat}(hi:i<cs.length):Sz (m+370) (jW cs q i):=by
 have sm:=hc.sum;have c1:=hc.nn _ (Qj (bO hi));have c2:=hc.up _ (Qj (bO hi));rw[zEH hi];have d0:=gK q;have p:=Um (show 0<max 1 cs.sum by omega) d0
 exact Sz.of ⋯ (Qs (jP (m:=100) (n:=m) ⋯ hq.1) (V9 ∅ ⋯)) (Qs (jP (m:=110) (n:=m) ⋯ hq.d) (V9 ∅ ⋯))
inductive Wy where
 | row | back | even | lack | part | half
def Wy.s:Wy->Str
 | .row=>Str.ofString "row"
 | .back=>Str.ofString "back"
 | .even=>Str.ofString "even"
 | .lack=>Str.ofString "lack"
 | .part=>Str.ofString "part"
 | .half=>Str.ofString "half"
def Wy.due(w:Wy)(ws cs:List Int):Prop:=match w with
 | .even=>Wt ws cs
 | .lack=>Wt ws cs
 | _=>ws=[]
def Al(M:Nat)(ws cs:List Int)(q:Rat)(f:Nat->Rat):Wy->Prop
 | .row=>∀ i,i<cs.length->f i=zBz cs q i
 | .back=>∀ i,i<cs.length->f i=cR cs i-zBz cs ((cs.sum:Rat)-q) i
 | .even=>∃ t,Lvl M ws cs q t/\∀ i,i<cs.length->f i=dN (cR cs) (cR ws) t i
 | .lack=>∃ t,Lvl M ws cs ((cs.sum:Rat)-q) t/\∀ i,i<cs.length->f i=cR cs i-dN (cR cs) (cR ws) t i
 | .part=>∀ i,i<cs.length->f i=jW cs q i
 | .half=>∃ t,(q+q<=(cs.sum:Rat)/\Lvl M (ones cs) cs (q+q) t/\∀ i,i<cs.length->f i=dN (cR cs) (cR (ones cs)) t i*hf)∨((cs.sum:Rat)<q+q/\Lvl M (ones cs) cs (((cs.sum:Rat)-q)+((cs.sum:Rat)-q)) t/\∀ i,i<cs.length->f i=cR cs i-dN (cR cs) (cR (ones cs)) t i*hf)
def zCh{w:Wy}{ws cs:List Int}{wd cd:D}(sw:Sq wd ws)(sc:Sq cd cs){q:Rat}{m:Nat}(hm:m<=2880)(hw:w.due ws cs)(hc:Cl cs)(hq:Haul m q cs.sum):∃ f,aN 2 [.str w.s,wd,cd,dq q]=.ok (.f (((List.range cs.length).map f).map dq))/\Al (m+263) ws cs q f w:=by
 have z:=hq.sz
 cases w with
 | row=>exact⟨zBz cs q,by rw[<-(zDq hc z hq.nn hq.up).1];exact zRQ sc ⋯ hc z hq.nn,fun i _=>rfl⟩
 | back=>exact⟨_,zQh sc ⋯ hc hq,fun i _=>rfl⟩
 | even=>
  obtain⟨t,tl,e⟩:=zMe sw sc (n:=1) ⋯ hw hc z hq.nn hq.up
  exact⟨_,e,t,tl.mono ⋯,fun i _=>rfl⟩
 | lack=>
  obtain⟨t,tl,e⟩:=zQl sw sc (n:=0) ⋯ hw hc hq
  rw[zQC] at e;exact⟨_,e,t,tl.mono ⋯,fun i _=>rfl⟩
 | part=>
  refine⟨jW cs q,?_,fun i _=>rfl⟩
  have e:zR cs q=(List.range cs.length).map (jW cs q):=zIv (by unfold zR;rw[Qe])
  rw[<-e];exact zRK sc ⋯ hc z
 | half=>
  by_cases h:(cs.sum:Rat)<q+q
  ·obtain⟨t,tl,e⟩:=zNM sc (n:=0) (e:=wd) ⋯ hc hq h
   exact⟨_,e,t,.inr ⟨h,tl,fun i _=>rfl⟩⟩
  ·obtain⟨t,tl,e⟩:=zHc sc (n:=1) (e:=wd) ⋯ hc z hq.nn (V6.mp h)
   exact⟨_,e,t,.inl ⟨V6.mp h,tl.mono ⋯,fun i _=>rfl⟩⟩
def zNx(w:Wy):∃ v,aT.lookup w.s=some v:=by
 cases w
 ·exact⟨_,zHW⟩
 ·exact⟨_,zN⟩
 ·exact⟨_,zFu⟩
 ·exact⟨_,zM⟩
 ·exact⟨_,zEy⟩
 ·exact⟨_,zAC⟩
def zFg{w:Wy}{ws cs:List Int}{wd cd:D}(sw:Sq wd ws)(sc:Sq cd cs)(hw:w.due ws cs)(hc:Cl cs):mC [.str w.s,wd,cd]=.ok (.v .non):=by
 have rw':aZ [.str w.s,wd,.int cs.length]=.ok (.v .non):=by
  cases w with
  | even=>exact pS sw hw rfl
  | lack=>exact pS sw hw rfl
  | row=>have e:ws=[]:=hw;rw[e] at sw;exact kF sw rfl
  | back=>have e:ws=[]:=hw;rw[e] at sw;exact kF sw rfl
  | part=>have e:ws=[]:=hw;rw[e] at sw;exact kF sw rfl
  | half=>have e:ws=[]:=hw;rw[e] at sw;exact kF sw rfl
 obtain⟨v,hv⟩:=zNx w;unfold mC;erw[vN hv,wW sc hc,sc.len,rw'];symm
def zOa{w:Wy}{ws cs:List Int}{wd cd:D}(sw:Sq wd ws)(sc:Sq cd cs){q:Rat}{m:Nat}(hm:m<=2880)(hw:w.due ws cs)(hc:Cl cs)(hq:Haul m q cs.sum):∃ f,rQ [.str w.s,wd,cd,dq q]=.ok (.f (((List.range cs.length).map f).map dq))/\Al (m+263) ws cs q f w:=by
 obtain⟨f,rd,al⟩:=zCh sw sc hm hw hc hq;have sm:=hc.sum;refine⟨f,?_,al⟩
 unfold rQ;erw[zFg sw sc hw hc,sc.sum,bR,mG ⋯ hq ⋯,rd];symm
structure Dl (M:Nat) (cs:List Int) (q:Rat) (f:Nat->Rat):Prop where
 bd:∀ i,i<cs.length->0<=f i/\f i<=cR cs i/\Sz M (f i)
 sum:((List.range cs.length).map f).sum=q
def zCE{f g:Nat->Rat}{n:Nat}(h:∀ i,i<n->f i=g i):((List.range n).map f).sum=((List.range n).map g).sum:=by rw[Vp fun i hi=>h i (Qk.mp hi)]
def Dl.congr{M:Nat}{cs:List Int}{q:Rat}{f g:Nat->Rat}(d:Dl M cs q g)(h:∀ i,i<cs.length->f i=g i):Dl M cs q f:=⟨fun i hi=>by rw[h i hi];exact d.bd i hi,by rw[zCE h];exact d.sum⟩
def Dl.mono{M M':Nat}{cs:List Int}{q:Rat}{f:Nat->Rat}(d:Dl M cs q f)(h:M<=M'):Dl M' cs q f:=⟨fun i hi=>⟨(d.bd i hi).1,(d.bd i hi).2.1,(d.bd i hi).2.2.mono h⟩,d.sum⟩
def zIx{cs:List Int}(hc:Cl cs){i:Nat}(hi:i<cs.length):0<=cR cs i/\Sz 100 (cR cs i):=by
 have c1:=hc.nn _ (Qj (bO hi));have c2:=hc.up _ (Qj (bO hi));exact⟨by unfold cR;exact_mod_cast c1,cS ⋯ ∅⟩
def Dl.dual{M:Nat}{cs:List Int}{q q':Rat}{g:Nat->Rat}(hc:Cl cs)(d:Dl M cs q' g)(h:q'=(cs.sum:Rat)-q):Dl (100+M+1) cs q (fun i=>cR cs i-g i):=by
 refine⟨fun i hi=>?_,?_⟩
 ·obtain⟨b1,b2,b3⟩:=d.bd i hi
  exact⟨by grind,by grind,(zIx hc hi).2.sub b3⟩
 ·rw[zMc,sT,d.sum]
  grind
def zLW{m:Nat}{cs:List Int}{q:Rat}(hc:Cl cs)(hq:Sz m q)(h0:0<=q)(h1:q<=(cs.sum:Rat)):Dl (m+111) cs q (zBz cs q):=by
 obtain⟨e,s,z⟩:=zDq hc hq h0 h1;refine⟨fun i hi=>?_,by rw[<-e];exact s⟩
 obtain⟨b1,b2⟩:=zIT cs 0 q i hc.nn hi;exact⟨b1,b2,z _ (by rw[e];exact Qm.mpr ⟨i,Qk.mpr hi,rfl⟩)⟩
def zMO{M:Nat}{ws cs:List Int}{q t:Rat}(hW:Wt ws cs)(hc:Cl cs)(tl:Lvl M ws cs q t):Dl M cs q (dN (cR cs) (cR ws) t):=
 ⟨fun i hi=>⟨(pF hW hc tl.nn hi).1,(pF hW hc tl.nn hi).2,tl.sz i hi⟩,tl.sum⟩
def zJl{M:Nat}{cs:List Int}{q t:Rat}(hc:Cl cs)(tl:Lvl M (ones cs) cs (q+q) t):Dl (M+2) cs q (fun i=>dN (cR cs) (cR (ones cs)) t i*hf):=by
 refine⟨fun i h=>?_,?_⟩
 ·obtain⟨b1,b2⟩:=pF (fG cs) hc tl.nn h
  exact⟨by rw[jT];grind,by rw[jT];grind,(tl.sz i h).mul zHp⟩
 ·have e:=tl.sum
  have e2:=dM (w:=dN (cR cs) (cR (ones cs)) t) (t:=hf) (l:=List.range cs.length);unfold evs at e;unfold jA at e2;rw[e2,e,jT];grind
def zOE{a b s:Rat}(hs:s≠0)(h:a*s=b*s):a=b:=by
 have e1:a*s / s=a:=by grind
 have e2:b*s / s=b:=by grind
 rw[<-e1,<-e2,h]
def rF{a b s:Rat}(hs:0<s)(h:a*s<=b*s):a<=b:=Yj h hs
def zOy{m:Nat}{cs:List Int}{q:Rat}(hc:Cl cs)(hq:Sz m q)(h0:0<=q)(h1:q<=(cs.sum:Rat)):Dl (m+370) cs q (jW cs q):=by
 have sm:=hc.sum;have cn:∀ i,i<cs.length->0<=cR cs i:=fun i hi=>(zIx hc hi).1
 have sc:jA (fun i=>jW cs q i*(cs.sum:Rat)) (List.range cs.length)=q*(cs.sum:Rat):=by
  rw[eG (g:=fun i=>cR cs i*q) fun i hi=>by rw[(iL hc (Qk.mp hi)).1];grind];rw[dM,show jA (cR cs) (List.range cs.length)=(cs.sum:Rat) from sT cs]
 rw[dM] at sc;by_cases z:cs.sum=0
 ·have p0:∀ i,i<cs.length->jW cs q i=cR cs i:=fun i hi=>by
   have c0:=pM hc.nn z _ (Qj (bO hi));rw[(iL hc hi).2 z];unfold cR;rw[c0];rfl
  refine⟨fun i hi=>⟨by rw[p0 i hi];exact cn i hi,by rw[p0 i hi];exact Qg,zIH hc hq hi⟩,?_⟩
  rw[zCE p0,sT];have:(cs.sum:Rat)=0:=by rw[z];rfl
  grind
 ·have W:(0:Rat)<(cs.sum:Rat):=by exact_mod_cast (show 0<cs.sum by omega)
  refine⟨fun i hi=>?_,?_⟩
  ·have e:=(iL (q:=q) hc hi).1
   have c0:=cn i hi;refine⟨rF W (by rw[e];have:=Y0 h0 c0;grind),rF W ?_,zIH hc hq hi⟩
   rw[e];have:=Vs h1 c0
   grind
  ·exact zOE (s:=(cs.sum:Rat)) (by grind) (by rw[Rat.mul_comm];exact sc)
def zPs{m:Nat}{w:Wy}{ws cs:List Int}{q:Rat}{f:Nat->Rat}(hw:w.due ws cs)(hc:Cl cs)(hq:Haul m q cs.sum)(al:Al (m+263) ws cs q f w):Dl (m+370) cs q f:=by
 have sm:=hc.sum;have zW:Sz 105 (cs.sum:Rat):=cS ⋯ ∅
 have z:=hq.sz;have z':Sz (m+106) ((cs.sum:Rat)-q):=(zW.sub hq.sz).mono ⋯
 have n:=hq.nn;have u:=hq.up
 cases w with
 | row=>exact((zLW hc z n u).mono ⋯).congr al
 | back=>exact((Dl.dual hc (zLW hc z' (by grind) (by grind)) rfl).mono ⋯).congr al
 | even=>
  obtain⟨t,tl,e⟩:=al;exact((zMO hw hc tl).mono ⋯).congr e
 | lack=>
  obtain⟨t,tl,e⟩:=al;exact((Dl.dual hc (zMO hw hc tl) rfl).mono ⋯).congr e
 | part=>exact(zOy hc z n u).congr al
 | half=>
  obtain⟨t,⟨c,tl,e⟩ | ⟨c,tl,e⟩⟩:=al
  ·exact((zJl hc tl).mono ⋯).congr e
  ·exact((Dl.dual hc (zJl hc tl) rfl).mono ⋯).congr e
def rT:∀(cs:List Int)(a:Int)(q:Rat)(i:Nat),i<cs.length->(jL cs a q).getD i 0=mn (ps0 (q-((a+(cs.take i).sum:Int):Rat))) (cR cs i)
 | c::r,a,q,0,_=>by simp[jL,cR]
 | c::r,a,q,i+1,h=>by
  have ih:=rT r (a+c) q i (by simpa using h)
  rw[Uo,Q4,<-Up];show(jL r (a+c) q).getD i 0=_
  rw[ih];rfl
def Dn(B:Int)(x:Rat):Prop:=∃ k:Int,x*(B:Rat)=(k:Rat)
def Dn.add{B:Int}{x y:Rat}(hx:Dn B x)(hy:Dn B y):Dn B (x+y):=by
 obtain⟨a,ha⟩:=hx;obtain⟨b,hb⟩:=hy;exact⟨a+b,by rw[Ve,<-ha,<-hb];grind⟩
def Dn.sub{B:Int}{x y:Rat}(hx:Dn B x)(hy:Dn B y):Dn B (x-y):=by
 obtain⟨a,ha⟩:=hx;obtain⟨b,hb⟩:=hy;exact⟨a-b,by rw[Ws,<-ha,<-hb];grind⟩
def Dn.int(B c:Int):Dn B (c:Rat):=⟨c*B,by rw[Vm]⟩
def Dn.zero(B:Int):Dn B 0:=Dn.int B 0
def Dn.mn{B:Int}{x y:Rat}(hx:Dn B x)(hy:Dn B y):Dn B (Lw.mn x y):=by
 unfold Lw.mn;split
 ·exact hx
 ·exact hy
def Dn.ps{B:Int}{x:Rat}(hx:Dn B x):Dn B (ps0 x):=by
 unfold ps0;split
 ·exact Dn.zero B
 ·exact hx
def Dn.den(x:Rat):Dn (x.den:Int) x:=⟨x.num,(zMP x).symm⟩
def Dn.le{B:Int}{x:Rat}(h:Dn B x)(hB:0<B):(x.den:Int)<=B:=by
 obtain⟨a,ha⟩:=h
 have nB:(B:Rat)≠0:=fun z=>by
  have:B=0:=by exact_mod_cast z
  omega
 have e:x=Rat.divInt a B:=by
  rw[Yr,<-ha];grind
 rw[e];exact zFz hB
def Dn.sz{B c:Int}{x:Rat}{a b:Nat}(h:Dn B x)(hB:0<B)(hb:B<2^b)(h0:0<=x)(h1:x<=(c:Rat))(hc:c<2^a):Sz (a+b) x:=by
 have le:=h.le hB;have d0:=gK x;have n0:0<=x.num:=Rat.num_nonneg.mpr h0
 have c0:0<=c:=by
  have:((0:Int):Rat)<=(c:Rat):=Q3 (by rw[show((0:Int):Rat)=0 from rfl];exact h0) h1
  exact Xc.mp this
 have n1:x.num<=c*x.den:=by
  have:((x.num:Int):Rat)<=((c*x.den:Int):Rat):=by
   rw[Vm,zMP];exact Vs h1 (by have z:(0:Int)<=x.den:=⋯;exact_mod_cast z)
  exact Xc.mp this
 have hb':(x.den:Int).natAbs<2^b:=by
  have:((2:Nat)^b:Nat)=((2:Int)^b):=by rw[Int.natCast_pow];rfl
  omega
 have ha':c.natAbs<2^a:=by
  have:((2:Nat)^a:Nat)=((2:Int)^a):=by rw[Int.natCast_pow];rfl
  omega
 have m:=jP ha' hb';refine⟨⋯,?_⟩
 have:2^b<=2^(a+b):=V9 ∅ ⋯
 omega
def wK{c w:Nat->Rat}{ci wi:Nat->Int}{t:Rat}(hc:∀ i,c i=(ci i:Rat))(hw:∀ i,w i=(wi i:Rat)):∀ l:List Nat,(∀ i∈l,1<=wi i/\wi i<=10^6)->∃ F W:Int,jA (dN c w t) l=(W:Rat)*t+(F:Rat)/\0<=W/\W<=l.length*10^6/\(W=0->∀ i∈l,dN c w t i=c i)
 | [],_=>⟨0,0,by rw[iX,show((0:Int):Rat)=0 from rfl];grind,∅,∅,fun _ i h=>by cases h⟩
 | i::l,h=>by
  obtain⟨F,W,e,w0,w1,f⟩:=wK (t:=t) hc hw l fun j hj=>h j (Qd _ hj)
  have hi:=h i Qb;have ek:((l.length+1:Nat):Int)*10^6=(l.length:Int)*10^6+10^6:=by rw[Yp,Yq];rfl
  rw[bD,Qn];by_cases z:w i*t<c i
  ·have g:dN c w t i=w i*t:=Jk z
   refine⟨F,W+wi i,?_,⋯,⋯,fun z=>⋯⟩
   rw[g,e,Ve,hw];grind
  ·have g:dN c w t i=c i:=Jl z
   refine⟨F+ci i,W,?_,w0,⋯,fun z j hj=>?_⟩
   ·rw[g,e,Ve,hc]
    grind
   ·rcases Qc.mp hj with rfl | hj
    ·exact g
    ·exact f z j hj
def zFf{M:Nat}{ws cs:List Int}{q t:Rat}{B:Int}(hW:Wt ws cs)(hl:cs.length<=12)(tl:Lvl M ws cs q t)(hq:Dn B q):∃ E:Int,0<E/\E<=12*10^6/\∀ i,i<cs.length->Dn (B*E) (dN (cR cs) (cR ws) t i):=by
 obtain⟨F,W,e,w0,w1,f⟩:=wK (c:=cR cs) (w:=cR ws) (ci:=fun i=>cs.getD i 0) (wi:=fun i=>ws.getD i 0) (t:=t) (fun _=>rfl) (fun _=>rfl) (List.range cs.length) fun i hi=>hW.at (Qk.mp hi)
 have s:jA (dN (cR cs) (cR ws) t) (List.range cs.length)=q:=tl.sum;rw[Q2] at w1;by_cases z:W=0
 ·refine⟨1,∅,∅,fun i hi=>?_⟩
  rw[f z i (Qk.mpr hi)];exact Dn.int _ _
 ·refine⟨W,⋯,⋯,fun i hi=>?_⟩
  unfold dN;refine Dn.mn ?_ (Dn.int _ _)
  obtain⟨k,hk⟩:=hq.sub (Dn.int B F);refine⟨ws.getD i 0*k,?_⟩
  rw[Vm,Vm,<-hk,<-s,e];show cR ws i*t*_=cR ws i*_
  grind
def zKb{B:Int}{x:Rat}(h:Dn B x):Dn (B*2) (x*hf):=by
 obtain⟨k,hk⟩:=h;refine⟨k,?_⟩
 rw[<-hk,Vm,jT,show((2:Int):Rat)=2 from rfl];grind
def zMv{cs:List Int}{q:Rat}{B:Int}(h:Dn B q){i:Nat}(hi:i<cs.length):Dn B (zBz cs q i):=by
 unfold zBz;rw[rT cs 0 q i hi];exact Dn.mn (Dn.ps (h.sub (Dn.int _ _))) (Dn.int _ _)
def zQw{M:Nat}{w:Wy}{ws cs:List Int}{q:Rat}{f:Nat->Rat}{B:Int}(hw:w.due ws cs)(hc:Cl cs)(hS:cs.sum<2^34)(al:Al M ws cs q f w)(hq:Dn B q):∃ E:Int,0<E/\E<2^34/\∀ i,i<cs.length->Dn (B*E) (f i):=by
 have hi:=hc.hi;have sm:=hc.sum;have hq':Dn B ((cs.sum:Rat)-q):=(Dn.int B cs.sum).sub hq
 cases w with
 | row=>exact⟨1,∅,∅,fun i hi=>by rw[al i hi,Vw];exact zMv hq hi⟩
 | back=>exact⟨1,∅,∅,fun i hi=>by rw[al i hi,Vw];exact(Dn.int _ _).sub (zMv hq' hi)⟩
 | even=>
  obtain⟨t,tl,e⟩:=al;obtain⟨E,e0,e1,e2⟩:=zFf hw hi tl hq;exact⟨E,e0,⋯,fun i hi=>by rw[e i hi];exact e2 i hi⟩
 | lack=>
  obtain⟨t,tl,e⟩:=al;obtain⟨E,e0,e1,e2⟩:=zFf hw hi tl hq';exact⟨E,e0,⋯,fun i hi=>by rw[e i hi];exact(Dn.int _ _).sub (e2 i hi)⟩
 | part=>
  by_cases z:cs.sum=0
  ·exact⟨1,∅,∅,fun i hi=>by rw[al i hi,(iL hc hi).2 z];exact Dn.zero _⟩
  ·refine⟨cs.sum,⋯,hS,fun i hi=>?_⟩
   have p:=(iL (q:=q) hc hi).1;rw[<-al i hi] at p;obtain⟨k,hk⟩:=hq;refine⟨k*cs.getD i 0,?_⟩
   rw[Vm,Vm,<-hk];show f i*((B:Rat)*(cs.sum:Rat))=q*(B:Rat)*cR cs i
   generalize (cs.sum:Rat)=S at *;generalize cR cs i=x at *;generalize f i=y at *;grind
 | half=>
  obtain⟨t,⟨c,tl,e⟩ | ⟨c,tl,e⟩⟩:=al
  ·obtain⟨E,e0,e1,e2⟩:=zFf (fG cs) hi tl (hq.add hq)
   exact⟨E*2,⋯,⋯,fun i hi=>by rw[e i hi,<-Wq];exact zKb (e2 i hi)⟩
  ·obtain⟨E,e0,e1,e2⟩:=zFf (fG cs) hi tl (hq'.add hq')
   exact⟨E*2,⋯,⋯,fun i hi=>by rw[e i hi,<-Wq];exact(Dn.int _ _).sub (zKb (e2 i hi))⟩
def Al.mono{M M':Nat}{w:Wy}{ws cs:List Int}{q:Rat}{f:Nat->Rat}(h:Al M ws cs q f w)(l:M<=M'):Al M' ws cs q f w:=by
 cases w with
 | row=>exact h
 | back=>exact h
 | part=>exact h
 | even=>obtain⟨t,tl,e⟩:=h;exact⟨t,tl.mono l,e⟩
 | lack=>obtain⟨t,tl,e⟩:=h;exact⟨t,tl.mono l,e⟩
 | half=>
  obtain⟨t,⟨c,tl,e⟩ | ⟨c,tl,e⟩⟩:=h
  ·exact⟨t,.inl ⟨c,tl.mono l,e⟩⟩
  ·exact⟨t,.inr ⟨c,tl.mono l,e⟩⟩
def zRJ(q:Rat):Sz (q.num.natAbs+q.den) q:=⟨Qs Qak (V9 ∅ ⋯),Qs Qak (V9 ∅ ⋯)⟩
def zQy{M:Nat}{w:Wy}{ws cs:List Int}{q:Rat}{f:Nat->Rat}(hw:w.due ws cs)(hc:Cl cs)(q0:0<=q)(q1:q<=(cs.sum:Rat))(al:Al M ws cs q f w):(∀ i,i<cs.length->0<=f i/\f i<=cR cs i)/\((List.range cs.length).map f).sum=q:=by
 have d:=zPs (m:=q.num.natAbs+q.den+M) hw hc ⟨q0,q1,(zRJ q).mono ⋯⟩ (al.mono ⋯)
 exact⟨fun i hi=>⟨(d.bd i hi).1,(d.bd i hi).2.1⟩,d.sum⟩
def nN{M M':Nat}{ws cs:List Int}{q q' t t':Rat}(hW:Wt ws cs)(a:Lvl M ws cs q t)(b:Lvl M' ws cs q' t')(h:q=q'){i:Nat}(hi:i<cs.length):dN (cR cs) (cR ws) t i=dN (cR cs) (cR ws) t' i:=by
 have pw:∀ j∈List.range cs.length,0<cR ws j:=fun j hj=>by
  have:=(hW.at (Qk.mp hj)).1
  unfold cR;exact_mod_cast (show 0<ws.getD j 0 by omega)
 exact zAs (c:=cR cs) (w:=cR ws) pw (by show(evs ws cs t).sum=(evs ws cs t').sum;rw[a.sum,b.sum,h]) i (Qk.mpr hi)
def zPO{M M':Nat}{w:Wy}{ws cs:List Int}{q:Rat}{f g:Nat->Rat}(hw:w.due ws cs)(a:Al M ws cs q f w)(b:Al M' ws cs q g w){i:Nat}(hi:i<cs.length):f i=g i:=by
 cases w with
 | row=>rw[a i hi,b i hi]
 | back=>rw[a i hi,b i hi]
 | part=>rw[a i hi,b i hi]
 | even=>
  obtain⟨t,tl,e⟩:=a;obtain⟨t',tl',e'⟩:=b;rw[e i hi,e' i hi,nN hw tl tl' rfl hi]
 | lack=>
  obtain⟨t,tl,e⟩:=a;obtain⟨t',tl',e'⟩:=b;rw[e i hi,e' i hi,nN hw tl tl' rfl hi]
 | half=>
  have W:=fG cs;obtain⟨t,⟨c,tl,e⟩ | ⟨c,tl,e⟩⟩:=a
  ·obtain⟨t',⟨c',tl',e'⟩ | ⟨c',tl',e'⟩⟩:=b
   ·rw[e i hi,e' i hi,nN W tl tl' rfl hi]
   ·exact absurd c' (V6.mpr c)
  ·obtain⟨t',⟨c',tl',e'⟩ | ⟨c',tl',e'⟩⟩:=b
   ·exact absurd c (V6.mpr c')
   ·rw[e i hi,e' i hi,nN W tl tl' rfl hi]
def uD{M M':Nat}{ws cs:List Int}{q q' t t':Rat}(hW:Wt ws cs)(a:Lvl M ws cs q t)(b:Lvl M' ws cs q' t')(h:q<=q'){i:Nat}(hi:i<cs.length):dN (cR cs) (cR ws) t i<=dN (cR cs) (cR ws) t' i:=by
 have pw:∀ j∈List.range cs.length,0<cR ws j:=fun j hj=>by
  have:=(hW.at (Qk.mp hj)).1
  unfold cR;exact_mod_cast (show 0<ws.getD j 0 by omega)
 rcases V5 (a:=t) (b:=t') with g | g
 ·exact nO (pw i (Qk.mpr hi)) g
 ·have le:∀ j∈List.range cs.length,dN (cR cs) (cR ws) t' j<=dN (cR cs) (cR ws) t j:=fun j hj=>nO (pw j hj) g
  have s1:jA (dN (cR cs) (cR ws) t') (List.range cs.length)=q':=b.sum;have s2:jA (dN (cR cs) (cR ws) t) (List.range cs.length)=q:=a.sum;have s3:=rV le;rw[rY le (by rw[s1,s2];rw[s1,s2] at s3;grind) i (Qk.mpr hi)];exact Qg
def zNA{M M':Nat}{w:Wy}{ws cs:List Int}{q q':Rat}{f g:Nat->Rat}(hw:w.due ws cs)(hc:Cl cs)(a:Al M ws cs q f w)(b:Al M' ws cs q' g w)(h:q<=q'){i:Nat}(hi:i<cs.length):f i<=g i:=by
 have sm:=hc.sum
 cases w with
 | row=>rw[a i hi,b i hi];exact vM cs 0 i h
 | back=>
  rw[a i hi,b i hi];have:=vM cs 0 (q:=(cs.sum:Rat)-q') (q':=(cs.sum:Rat)-q) i (by grind)
  unfold zBz;grind
 | even=>
  obtain⟨t,tl,e⟩:=a;obtain⟨t',tl',e'⟩:=b;rw[e i hi,e' i hi];exact uD hw tl tl' h hi
 | lack=>
  obtain⟨t,tl,e⟩:=a;obtain⟨t',tl',e'⟩:=b;rw[e i hi,e' i hi];have:=uD hw tl' tl (by grind) hi
  grind
 | part=>
  rw[a i hi,b i hi];have c0:0<=cR cs i:=by unfold cR;exact_mod_cast hc.nn _ (Qj (bO hi))
  obtain⟨p1,p2⟩:=iL (q:=q) hc hi;obtain⟨r1,r2⟩:=iL (q:=q') hc hi;by_cases z:cs.sum=0
  ·rw[p2 z,r2 z];exact Qg
  ·have W:(0:Rat)<(cs.sum:Rat):=by exact_mod_cast (show 0<cs.sum by omega)
   exact rF W (by rw[p1,r1];exact Vs h c0)
 | half=>
  have ow:=fG cs;obtain⟨t,⟨c,tl,e⟩ | ⟨c,tl,e⟩⟩:=a
  ·have b1:=(pF ow hc tl.nn hi).2
   obtain⟨t',⟨c',tl',e'⟩ | ⟨c',tl',e'⟩⟩:=b
   ·have:=uD ow tl tl' (by grind) hi
    rw[e i hi,e' i hi,jT];grind
   ·have b2:=(pF ow hc tl'.nn hi).2
    rw[e i hi,e' i hi,jT];grind
  ·obtain⟨t',⟨c',tl',e'⟩ | ⟨c',tl',e'⟩⟩:=b
   ·exfalso;grind
   ·have:=uD ow tl' tl (by grind) hi
    rw[e i hi,e' i hi,jT];grind
def Wy.con:Wy->Wy
 | .row=>.back
 | .back=>.row
 | .even=>.lack
 | .lack=>.even
 | .part=>.part
 | .half=>.half
def zET{M:Nat}{ws cs:List Int}{q t:Rat}(hW:Wt ws cs)(hc:Cl cs)(a:Lvl M ws cs q t)(h:q=(cs.sum:Rat)){i:Nat}(hi:i<cs.length):dN (cR cs) (cR ws) t i=cR cs i:=by
 have s:jA (dN (cR cs) (cR ws) t) (List.range cs.length)=q:=a.sum;exact rY (fun j hj=>(pF hW hc a.nn (Qk.mp hj)).2) (by rw[s,h];exact(sT cs).symm) i (Qk.mpr hi)
def zRV{M M':Nat}{w:Wy}{ws cs:List Int}{q:Rat}{f g:Nat->Rat}(hw:w.due ws cs)(hc:Cl cs)(hn:0<=q)(hu:q<=(cs.sum:Rat))(a:Al M ws cs q f w)(b:Al M' ws cs ((cs.sum:Rat)-q) g w.con){i:Nat}(hi:i<cs.length):g i=cR cs i-f i:=by
 have sm:=hc.sum;have e0:(cs.sum:Rat)-((cs.sum:Rat)-q)=q:=by grind
 cases w with
 | row=>
  have b':g i=cR cs i-zBz cs ((cs.sum:Rat)-((cs.sum:Rat)-q)) i:=b i hi;rw[b',e0,a i hi]
 | back=>
  have b':g i=zBz cs ((cs.sum:Rat)-q) i:=b i hi;rw[b',a i hi];grind
 | even=>
  obtain⟨t,tl,e⟩:=a;obtain⟨t',tl',e'⟩:=b;rw[e i hi,e' i hi,nN hw tl' tl e0 hi]
 | lack=>
  obtain⟨t,tl,e⟩:=a;obtain⟨t',tl',e'⟩:=b;rw[e i hi,e' i hi,nN hw tl' tl rfl hi];grind
 | part=>
  have b':g i=jW cs ((cs.sum:Rat)-q) i:=b i hi;have u:=hu;have n:=hn;obtain⟨p1,p2⟩:=iL (q:=q) hc hi;obtain⟨r1,r2⟩:=iL (q:=(cs.sum:Rat)-q) hc hi;rw[b',a i hi];by_cases z:cs.sum=0
  ·have c0:=pM hc.nn z _ (Qj (bO hi))
   rw[p2 z,r2 z];unfold cR;rw[c0,show((0:Int):Rat)=0 from rfl];grind
  ·have W:(0:Rat)<(cs.sum:Rat):=by exact_mod_cast (show 0<cs.sum by omega)
   have e:jW cs ((cs.sum:Rat)-q) i*(cs.sum:Rat)=(cR cs i-jW cs q i)*(cs.sum:Rat):=by rw[r1];grind
   have l1:=rF W (show jW cs ((cs.sum:Rat)-q) i*(cs.sum:Rat)<=(cR cs i-jW cs q i)*(cs.sum:Rat) by rw[e];exact Qg)
   have l2:=rF W (show(cR cs i-jW cs q i)*(cs.sum:Rat)<=jW cs ((cs.sum:Rat)-q) i*(cs.sum:Rat) by rw[e];exact Qg)
   grind
 | half=>
  have ow:=fG cs;obtain⟨t,⟨c,tl,e⟩ | ⟨c,tl,e⟩⟩:=a
  ·obtain⟨t',⟨c',tl',e'⟩ | ⟨c',tl',e'⟩⟩:=b
   ·have f1:=zET ow hc tl (by grind) hi
    have f2:=zET ow hc tl' (by grind) hi
    rw[e i hi,e' i hi,f1,f2,jT];grind
   ·have f1:=nN ow tl' tl (by grind) hi
    rw[e i hi,e' i hi,f1]
  ·obtain⟨t',⟨c',tl',e'⟩ | ⟨c',tl',e'⟩⟩:=b
   ·have f1:=nN ow tl' tl rfl hi
    rw[e i hi,e' i hi,f1];grind
   ·exfalso;grind
def zPi{w:Wy}{ws cs:List Int}(h:w.due ws cs):w.con.due ws cs:=by cases w<;>exact h
def Lin(f:Rat->Rat)(a b:Rat):Prop:=∀ x,a<=x->x<=b->(f x-f a)*(b-a)=(x-a)*(f b-f a)
def Cn(R:Rat->Rat->Prop):List Rat->Prop
 | a::b::l=>R a b/\Cn R (b::l)
 | _=>True
def Cn.imp{R R':Rat->Rat->Prop}(h:∀ a b,R a b->R' a b):∀ {l:List Rat},Cn R l->Cn R' l
 | [],_=>trivial
 | [_],_=>trivial
 | a::b::l,k=>⟨h a b k.1,Cn.imp h k.2⟩
def wO{A:List Rat}:∀ {l:List Rat},l.Pairwise (·<=·)->(∀ x∈A,x∈l∨∀ y∈l,x<=y)->Cn (fun s t=>s<=t/\∀ x∈A,x<=s∨t<=x) l
 | [],_,_=>trivial
 | [_],_,_=>trivial
 | a::b::r,h,hA=>by
  obtain⟨h1,h2⟩:=Qp.mp h;obtain⟨h3,h4⟩:=Qp.mp h2;refine⟨⟨h1 b Qb,fun x hx=>?_⟩,wO h2 fun x hx=>?_⟩
  ·rcases hA x hx with h | h
   ·rcases Qc.mp h with rfl | h
    ·exact .inl Qg
    ·rcases Qc.mp h with rfl | h
     ·exact .inr Qg
     ·exact .inr (h3 x h)
   ·exact .inl (h a Qb)
  ·rcases hA x hx with h | h
   ·rcases Qc.mp h with rfl | h
    ·exact .inr h1
    ·exact .inl h
   ·exact .inr fun y hy=>h y (Qd _ hy)
def QQ(ws cs:List Int)(t:Rat):Rat:=jA (dN (cR cs) (cR ws) t) (List.range cs.length)
def lv(ws cs:List Int)(i:Nat):Rat:=cR cs i / cR ws i
def Wt.pos{ws cs:List Int}(h:Wt ws cs){i:Nat}(hi:i<cs.length):0<cR ws i:=by
 have:=(h.at hi).1
 unfold cR;exact_mod_cast (show 0<ws.getD i 0 by omega)
def zH{ws cs:List Int}(h:Wt ws cs){i:Nat}(hi:i<cs.length):cR ws i*lv ws cs i=cR cs i:=by
 have:=h.pos hi
 unfold lv;grind
def zGH{ws cs:List Int}(h:Wt ws cs){i:Nat}(hi:i<cs.length){t:Rat}(l:lv ws cs i<=t):dN (cR cs) (cR ws) t i=cR cs i:=by
 have p:=h.pos hi;have e:=zH h hi;have:=Xz l (Qh p)
 unfold dN mn;grind
def zGm{ws cs:List Int}(h:Wt ws cs){i:Nat}(hi:i<cs.length){t:Rat}(l:t<=lv ws cs i):dN (cR cs) (cR ws) t i=cR ws i*t:=by
 have p:=h.pos hi;have e:=zH h hi;have:=Xz l (Qh p)
 unfold dN mn;grind
def zIk{ws cs:List Int}(h:Wt ws cs)(hc:Cl cs){i:Nat}(hi:i<cs.length):0<=lv ws cs i:=by
 have p:=h.pos hi;have c:=(zIx hc hi).1;have e:=zH h hi;rcases V5 (a:=0) (b:=lv ws cs i) with z | z
 ·exact z
 ·have:=Xz z (Qh p)
  have z2:cR cs i=0:=by grind
  unfold lv;rw[z2];grind
def sl(ws cs:List Int)(s:Rat)(i:Nat):Rat:=if lv ws cs i<=s then 0 else cR ws i
def zFr{f g:Nat->Rat}:∀ {l:List Nat},jA (fun i=>f i-g i) l=jA f l-jA g l
 | []=>by rw[iX,iX,iX];grind
 | a::l=>by rw[bD,bD,bD,zFr];grind
def zPD(ws cs:List Int)(s t:Rat):Prop:=∀ i,i<cs.length->lv ws cs i<=s∨t<=lv ws cs i
def zK{ws cs:List Int}(h:Wt ws cs){s t u:Rat}(n:zPD ws cs s t)(su:s<=u)(ut:u<=t){i:Nat}(hi:i<cs.length):dN (cR cs) (cR ws) u i-dN (cR cs) (cR ws) s i=sl ws cs s i*(u-s):=by
 unfold sl;by_cases z:lv ws cs i<=s
 ·rw[zGH h hi z,zGH h hi (Q3 z su),Jk z];grind
 ·rcases n i hi with k | k
  ·exact absurd k z
  ·rw[zGm h hi (Q3 ut k),zGm h hi (Q3 su (Q3 ut k)),Jl z];grind
def zCs{ws cs:List Int}(h:Wt ws cs){s t u:Rat}(n:zPD ws cs s t)(su:s<=u)(ut:u<=t):QQ ws cs u-QQ ws cs s=jA (sl ws cs s) (List.range cs.length)*(u-s):=by
 unfold QQ;rw[<-zFr,eG (g:=fun i=>sl ws cs s i*(u-s)) fun i hi=>zK h n su ut (Qk.mp hi)];rw[dM];grind
def lO{ws cs:List Int}(h:Wt ws cs){s t:Rat}(l:s<=t):QQ ws cs s<=QQ ws cs t:=rV fun i hi=>nO (h.pos (Qk.mp hi)) l
def zSP{ws cs:List Int}(h:Wt ws cs){s t:Rat}(e:QQ ws cs s=QQ ws cs t){i:Nat}(hi:i<cs.length):dN (cR cs) (cR ws) s i=dN (cR cs) (cR ws) t i:=zAs (fun i hi=>h.pos (Qk.mp hi)) e i (Qk.mpr hi)
def zRW{ws cs:List Int}(h:Wt ws cs){s t:Rat}(st:s<=t)(n:zPD ws cs s t){i:Nat}(hi:i<cs.length){f:Rat->Rat}(hf:∀ x,QQ ws cs s<=x->x<=QQ ws cs t->∃ u,QQ ws cs u=x/\f x=dN (cR cs) (cR ws) u i):Lin f (QQ ws cs s) (QQ ws cs t):=by
 have ab:=lO h st
 have at':∀ v,s<=v->v<=t->f (QQ ws cs v)=dN (cR cs) (cR ws) v i:=fun v h1 h2=>by
  obtain⟨u,e1,e2⟩:=hf _ (lO h h1) (lO h h2);rw[e2,zSP h e1 hi]
 have fa:=at' s Qg st;have fb:=at' t st Qg;intro x h1 h2;obtain⟨u,e1,e2⟩:=hf x h1 h2;rcases V5 (a:=u) (b:=s) with z | z
 ·have q:=lO h z
  have ex:x=QQ ws cs s:=by grind
  subst ex;grind
 rcases V5 (a:=t) (b:=u) with z' | z'
 ·have q:=lO h z'
  have ex:x=QQ ws cs t:=by grind
  subst ex;grind
 have d1:=zCs h n z z';have d2:=zCs h n st Qg;have g1:=zK h n z z' hi;have g2:=zK h n st Qg hi;rw[e1] at d1;rw[e2,fa,fb,g1,g2,d1,d2];grind
def zHz{ws cs:List Int}(h:Wt ws cs){q:Rat}:∀ {l:List Rat} {s:Rat},Cn (fun s t=>s<=t/\zPD ws cs s t) (s::l)->QQ ws cs s<=q->q<=QQ ws cs ((s::l).getLast (by simp))->∃ u,s<=u/\QQ ws cs u=q
 | [],s,_,h1,h2=>⟨s,Qg,by
  have h2':q<=QQ ws cs s:=h2
  grind⟩
 | t::l,s,hc,h1,h2=>by
  obtain⟨⟨st,n⟩,hc'⟩:=hc;rcases V5 (a:=QQ ws cs t) (b:=q) with z | z
  ·obtain⟨u,u1,u2⟩:=zHz h hc' z (by simpa using h2)
   exact⟨u,Q3 st u1,u2⟩
  ·by_cases e:QQ ws cs s=QQ ws cs t
   ·exact⟨s,Qg,by grind⟩
   have d2:=zCs h n st Qg;generalize jA (sl ws cs s) (List.range cs.length)=W at d2;have lt:QQ ws cs s<QQ ws cs t:=by have:=lO h st;grind
   have p:0<QQ ws cs t-QQ ws cs s:=by grind
   have nz:QQ ws cs t-QQ ws cs s≠0:=by grind
   have lam:0<=(q-QQ ws cs s) / (QQ ws cs t-QQ ws cs s)/\(q-QQ ws cs s) / (QQ ws cs t-QQ ws cs s)<=1:=by
    refine⟨rF p ?_,rF p ?_⟩
    ·rw[Vt nz];grind
    ·rw[Vt nz];grind
   have le:(q-QQ ws cs s) / (QQ ws cs t-QQ ws cs s)*(QQ ws cs t-QQ ws cs s)=q-QQ ws cs s:=Vt nz;generalize (q-QQ ws cs s) / (QQ ws cs t-QQ ws cs s)=k at lam le;have ts:0<=t-s:=by grind
   have m1:=Y0 lam.1 ts;have m2:=Vs lam.2 ts;refine⟨s+k*(t-s),by grind,?_⟩
   have d1:=zCs h n (u:=s+k*(t-s)) (by grind) (by grind)
   have d2':=zCs h n st Qg;grind
def zKf:∀(n:Nat)(g:Nat->Rat),∃ M,∀ i,i<n->Sz M (g i)
 | 0,_=>⟨0,fun i h=>⋯⟩
 | n+1,g=>by
  obtain⟨M,h⟩:=zKf n g;refine⟨M+((g n).num.natAbs+(g n).den),fun i hi=>?_⟩
  by_cases z:i=n
  ·rw[z];exact(zRJ (g n)).mono ⋯
  ·exact(h i ⋯).mono ⋯
def zTq{ws cs:List Int}(h:Wt ws cs)(hc:Cl cs){q:Rat}(q0:0<=q)(q1:q<=(cs.sum:Rat)):∃ u,0<=u/\QQ ws cs u=q:=by
 generalize hA:(List.range cs.length).map (lv ws cs)=A;have pm:(A.mergeSort fun a b=>decide (a<=b)).Perm A:=Qah A _
 have so:(A.mergeSort fun a b=>decide (a<=b)).Pairwise (·<=·):=by
  have:=Qai (le:=fun a b:Rat=>decide (a<=b)) (fun a b c h1 h2=>by
   have h1':=J8 h1;have h2':=J8 h2
   exact J6 (Q3 h1' h2')) (fun a b=>by
   rcases V5 (a:=a) (b:=b) with z | z
   ·simp[z]
   ·simp[z]) A
  exact this.imp fun h=>J8 h
 generalize A.mergeSort (fun a b=>decide (a<=b))=L at pm so
 have nn:∀ x∈L,0<=x:=fun x hx=>by
  have hx':=pm.mem_iff.mp hx;rw[<-hA] at hx';obtain⟨i,hi,rfl⟩:=Qm.mp hx';exact zIk h hc (Qk.mp hi)
 have so':(0::L).Pairwise (·<=·):=Qp.mpr ⟨nn,so⟩;have cn:=wO (A:=A) so' fun x hx=>.inl (Qd _ (pm.mem_iff.mpr hx))
 have cn':Cn (fun s t=>s<=t/\zPD ws cs s t) (0::L):=cn.imp fun a b hab=>⟨hab.1,fun i hi=>hab.2 _ (by rw[<-hA];exact Qm.mpr ⟨i,Qk.mpr hi,rfl⟩)⟩
 have z0:QQ ws cs 0=0:=by
  unfold QQ;rw[eG (g:=fun i=>cR ws i*0) fun i hi=>zGm h (Qk.mp hi) (zIk h hc (Qk.mp hi)),dM];grind
 have zl:QQ ws cs ((0::L).getLast (by simp))=(cs.sum:Rat):=by
  unfold QQ;rw[eG (g:=cR cs) fun i hi=>zGH h (Qk.mp hi) ?_]
  ·exact sT cs
  ·have m:lv ws cs i∈L:=pm.mem_iff.mpr (by rw[<-hA];exact Qm.mpr ⟨i,hi,rfl⟩)
   have key:∀ {l:List Rat} (ne:l≠[]),l.Pairwise (·<=·)->∀ x∈l,x<=l.getLast ne:=by
    intro l
    induction l with
    | nil=>intro ne;exact absurd rfl ne
    | cons a r ih=>
     intro ne hp x hx;obtain⟨p1,p2⟩:=Qp.mp hp
     cases r with
     | nil=>rw[Qr.mp hx];exact Qg
     | cons b r=>
      rw[List.getLast_cons (by simp)];rcases Qc.mp hx with rfl | hx
      ·exact Q3 (p1 b Qb) (ih (by simp) p2 b Qb)
      ·exact ih (by simp) p2 x hx
   exact key (by simp) so' _ (Qd _ m)
 exact zHz h cn' (by rw[z0];exact q0) (by rw[zl];exact q1)
def zFd{ws cs:List Int}(h:Wt ws cs)(hc:Cl cs){q:Rat}(q0:0<=q)(q1:q<=(cs.sum:Rat)):∃ M t,Lvl M ws cs q t:=by
 obtain⟨u,u0,e⟩:=zTq h hc q0 q1;obtain⟨M,hM⟩:=zKf cs.length (dN (cR cs) (cR ws) u);exact⟨M,u,u0,e,hM⟩
def zQq{w:Wy}{ws cs:List Int}(hw:w.due ws cs)(hc:Cl cs){q:Rat}(q0:0<=q)(q1:q<=(cs.sum:Rat)):∃ f M,Al M ws cs q f w:=by
 cases w with
 | row=>exact⟨_,0,fun i _=>rfl⟩
 | back=>exact⟨_,0,fun i _=>rfl⟩
 | part=>exact⟨_,0,fun i _=>rfl⟩
 | even=>
  obtain⟨M,t,tl⟩:=zFd hw hc q0 q1;exact⟨_,M,t,tl,fun i _=>rfl⟩
 | lack=>
  obtain⟨M,t,tl⟩:=zFd hw hc (q:=(cs.sum:Rat)-q) (by grind) (by grind)
  exact⟨_,M,t,tl,fun i _=>rfl⟩
 | half=>
  by_cases z:(cs.sum:Rat)<q+q
  ·obtain⟨M,t,tl⟩:=zFd (fG cs) hc (q:=((cs.sum:Rat)-q)+((cs.sum:Rat)-q)) (by grind) (by grind)
   exact⟨_,M,t,.inr ⟨z,tl,fun i _=>rfl⟩⟩
  ·have z':=V6.mp z
   obtain⟨M,t,tl⟩:=zFd (fG cs) hc (q:=q+q) (by grind) z'
   exact⟨_,M,t,.inl ⟨z',tl,fun i _=>rfl⟩⟩
open Classical in
def FF(w:Wy)(ws cs:List Int)(q:Rat):Nat->Rat:=if h:∃ f M,Al M ws cs q f w then Classical.choose h else fun _=>0
def yG{w:Wy}{ws cs:List Int}(hw:w.due ws cs)(hc:Cl cs){q:Rat}(q0:0<=q)(q1:q<=(cs.sum:Rat)):∃ M,Al M ws cs q (FF w ws cs q) w:=by
 unfold FF;rw[J7 (zQq hw hc q0 q1)];exact Uq (zQq hw hc q0 q1)
def uR{M:Nat}{w:Wy}{ws cs:List Int}(hw:w.due ws cs)(hc:Cl cs){q:Rat}{f:Nat->Rat}(q0:0<=q)(q1:q<=(cs.sum:Rat))(a:Al M ws cs q f w){i:Nat}(hi:i<cs.length):f i=FF w ws cs q i:=by
 obtain⟨M',b⟩:=yG hw hc q0 q1;exact zPO hw a b hi
def zLx{w:Wy}{ws cs:List Int}(hw:w.due ws cs)(hc:Cl cs){q:Rat}(q0:0<=q)(q1:q<=(cs.sum:Rat)):(∀ i,i<cs.length->0<=FF w ws cs q i/\FF w ws cs q i<=cR cs i)/\((List.range cs.length).map (FF w ws cs q)).sum=q:=by
 obtain⟨M,b⟩:=yG hw hc q0 q1;exact zQy hw hc q0 q1 b
def zOq{w:Wy}{ws cs:List Int}(hw:w.due ws cs)(hc:Cl cs){q q':Rat}(q0:0<=q)(l:q<=q')(q1:q'<=(cs.sum:Rat)){i:Nat}(hi:i<cs.length):FF w ws cs q i<=FF w ws cs q' i:=by
 obtain⟨M,a⟩:=yG hw hc q0 (Q3 l q1);obtain⟨M',b⟩:=yG hw hc (Q3 q0 l) q1;exact zNA hw hc a b l hi
def zMt{w:Wy}{ws cs:List Int}(hw:w.due ws cs)(hc:Cl cs){q:Rat}(q0:0<=q)(q1:q<=(cs.sum:Rat)){i:Nat}(hi:i<cs.length):FF w.con ws cs ((cs.sum:Rat)-q) i=cR cs i-FF w ws cs q i:=by
 obtain⟨M,a⟩:=yG hw hc q0 q1;obtain⟨M',b⟩:=yG (zPi hw) hc (q:=(cs.sum:Rat)-q) (by grind) (by grind)
 exact zRV hw hc q0 q1 a b hi
def zCL{f:Nat->Rat}:∀ {l:List Nat},(∀ i∈l,0<=f i)->jA f l=0->∀ i∈l,f i=0
 | [],_,_,i,h=>by cases h
 | a::l,hn,e,i,h=>by
  have p:0<=jA f l:=by
   have:∀ {l:List Nat},(∀ i∈l,0<=f i)->0<=jA f l:=by
    intro l
    induction l with
    | nil=>intro _;rw[iX];exact Qg
    | cons b l ih=>intro hl;rw[bD];have:=hl b Qb;have:=ih fun x hx=>hl x (Qd _ hx);grind
   exact this fun x hx=>hn x (Qd _ hx)
  have a0:=hn a Qb;rw[bD] at e;rcases Qc.mp h with rfl | h
  ·grind
  ·exact zCL (fun x hx=>hn x (Qd _ hx)) (by grind) i h
def zJs{w:Wy}{ws cs:List Int}(hw:w.due ws cs)(hc:Cl cs){i:Nat}(hi:i<cs.length):FF w ws cs 0 i=0:=by
 have s0:(0:Rat)<=(cs.sum:Rat):=by exact_mod_cast hc.sum.1
 obtain⟨b,s⟩:=zLx hw hc Qg s0;exact zCL (fun i hi=>(b i (Qk.mp hi)).1) s i (Qk.mpr hi)
def zEi{w:Wy}{ws cs:List Int}(hw:w.due ws cs)(hc:Cl cs){i:Nat}(hi:i<cs.length):FF w ws cs (cs.sum:Rat) i=cR cs i:=by
 have s0:(0:Rat)<=(cs.sum:Rat):=by exact_mod_cast hc.sum.1
 obtain⟨b,s⟩:=zLx hw hc s0 Qg
 have e:=rY (f:=FF w ws cs (cs.sum:Rat)) (g:=cR cs) (l:=List.range cs.length) (fun i hi=>(b i (Qk.mp hi)).2) (by
  show((List.range cs.length).map _).sum=_
  rw[s]
  exact(sT cs).symm)
 exact e i (Qk.mpr hi)
def zBe:∀ {cs:List Int} {i j:Nat},(∀ c∈cs,0<=c)->i<j->j<=cs.length->(cs.take i).sum+cs.getD i 0<=(cs.take j).sum/\0<=(cs.take i).sum
 | [],i,j,_,h,h'=>by simp at h';omega
 | c::r,i,0,_,h,_=>⋯
 | c::r,0,j+1,hn,_,_=>by
  have hr:∀ l:List Int,(∀ c∈l,0<=c)->0<=l.sum:=by
   intro l
   induction l with
   | nil=>intro _;decide
   | cons a l ih=>intro hl;rw[Q4];have:=hl a Qb;have:=ih fun x hx=>hl x (Qd _ hx);omega
  have:=hr (r.take j) fun x hx=>hn x (Qd _ (X0 hx))
  rw[Uo,Q4];simp
  omega
 | c::r,i+1,j+1,hn,h,h'=>by
  have ih:=zBe (cs:=r) (i:=i) (j:=j) (fun x hx=>hn x (Qd _ hx)) ⋯ (by simpa using h')
  have:=hn c Qb
  rw[Uo,Q4,Uo,Q4];show c+_+r.getD i 0<=_/\_
  omega
def Jt(w:Wy)(ws cs:List Int)(a b:Rat):Prop:=0<=a/\a<=b/\b<=(cs.sum:Rat)/\∀ i,i<cs.length->Lin (fun x=>FF w ws cs x i) a b
def Lin.const{f:Rat->Rat}{a b k:Rat}(hab:a<=b)(h:∀ x,a<=x->x<=b->f x=k):Lin f a b:=fun x h1 h2=>by
 rw[h x h1 h2,h a Qg hab,h b hab Qg];grind
def Lin.line{f:Rat->Rat}{a b m k:Rat}(hab:a<=b)(h:∀ x,a<=x->x<=b->f x=m*x+k):Lin f a b:=fun x h1 h2=>by
 rw[h x h1 h2,h a Qg hab,h b hab Qg];grind
def rj:List Int->Int->List Rat
 | [],a=>[(a:Rat)]
 | c::r,a=>(a:Rat)::rj r (a+c)
def zDn(r:List Int)(a:Int):∃ t,rj r a=(a:Rat)::t:=by cases r<;>exact⟨_,rfl⟩
def zJg{cs:List Int}(hc:Cl cs):∀(post pre:List Int),cs=pre++post->Cn (Jt .row [] cs) (rj post pre.sum)
 | [],_,_=>trivial
 | c::r,pre,e=>by
  have ih:=zJg hc r (pre++[c]) (by rw[e];simp)
  rw[V7,show([c]:List Int).sum=c by simp] at ih;obtain⟨t,et⟩:=zDn r (pre.sum+c);rw[rj,et];rw[et] at ih;refine⟨?_,ih⟩
  have hk:pre.length<cs.length:=by rw[e];simp
  have tk:cs.take pre.length=pre:=by rw[e];exact Wu
  have ck:cs.getD pre.length 0=c:=by rw[e,Qv,Vh (Qf _)];simp
  have c0:0<=c:=hc.nn c (by rw[e];simp)
  have p0:0<=pre.sum:=by
   have:∀ l:List Int,(∀ c∈l,0<=c)->0<=l.sum:=by
    intro l
    induction l with
    | nil=>intro _;decide
    | cons a l ih=>intro hl;rw[Q4];have:=hl a Qb;have:=ih fun x hx=>hl x (Qd _ hx);omega
   exact this pre fun x hx=>hc.nn x (by rw[e];exact Vc _ hx)
  have r0:0<=r.sum:=by
   have:∀ l:List Int,(∀ c∈l,0<=c)->0<=l.sum:=by
    intro l
    induction l with
    | nil=>intro _;decide
    | cons a l ih=>intro hl;rw[Q4];have:=hl a Qb;have:=ih fun x hx=>hl x (Qd _ hx);omega
   exact this r fun x hx=>hc.nn x (by rw[e];exact Qx _ (Qd _ hx))
  have se:cs.sum=pre.sum+c+r.sum:=by rw[e,V7,Q4];omega
  have ab:(pre.sum:Rat)<=((pre.sum+c:Int):Rat):=Xc.mpr ⋯
  have bS:((pre.sum+c:Int):Rat)<=(cs.sum:Rat):=Xc.mpr ⋯
  have a0:(0:Rat)<=(pre.sum:Rat):=by exact_mod_cast p0
  refine⟨a0,ab,bS,fun i hi=>?_⟩
  have fx:∀ x,(pre.sum:Rat)<=x->x<=((pre.sum+c:Int):Rat)->FF .row [] cs x i=mn (ps0 (x-((0+(cs.take i).sum:Int):Rat))) (cR cs i):=fun x h1 h2=>by
   rw[<-uR (M:=0) (w:=.row) (ws:=[]) (f:=zBz cs x) rfl hc (Q3 a0 h1) (Q3 h2 bS) (fun i _=>rfl) hi];exact rT cs 0 x i hi
  have ci:=(zIx hc hi).1;rcases We i pre.length with z | z | z
  ·have tu:=(zBe hc.nn z (Xj hk)).1
   rw[tk] at tu;refine Lin.const ab (k:=cR cs i) fun x h1 h2=>?_
   rw[fx x h1 h2]
   have tu':((0+(cs.take i).sum:Int):Rat)+cR cs i<=(pre.sum:Rat):=by
    unfold cR;rw[<-Ve];exact Xc.mpr ⋯
   unfold mn ps0;grind
  ·subst z
   refine Lin.line ab (m:=1) (k:=-(pre.sum:Rat)) fun x h1 h2=>?_
   rw[fx x h1 h2,tk,Ys];have:cR cs pre.length=(c:Rat):=by unfold cR;rw[ck]
   rw[this];rw[Ve] at h2;unfold mn ps0;grind
  ·have tu:=(zBe hc.nn z (Xj hi)).1
   rw[tk,ck] at tu;refine Lin.const ab (k:=0) fun x h1 h2=>?_
   rw[fx x h1 h2];have tu':((pre.sum+c:Int):Rat)<=((0+(cs.take i).sum:Int):Rat):=Xc.mpr ⋯
   unfold mn ps0;grind
def zRp{cs:List Int}(hc:Cl cs):Cn (Jt .row [] cs) (rj cs 0):=zJg hc cs [] rfl
def zNy{cs:List Int}(hc:Cl cs):Cn (Jt .part [] cs) [0,(cs.sum:Rat)]:=by
 have s0:(0:Rat)<=(cs.sum:Rat):=by exact_mod_cast hc.sum.1
 refine⟨⟨Qg,s0,Qg,fun i hi=>?_⟩,trivial⟩
 have fx:∀ x,0<=x->x<=(cs.sum:Rat)->FF .part [] cs x i*(cs.sum:Rat)=x*cR cs i:=fun x h1 h2=>by
  rw[<-uR (M:=0) (w:=.part) (ws:=[]) (f:=jW cs x) rfl hc h1 h2 (fun i _=>rfl) hi];exact(iL hc hi).1
 intro x h1 h2;have e0:=zJs (w:=.part) (ws:=[]) rfl hc hi;have e1:=fx x h1 h2;have e2:=zEi (w:=.part) (ws:=[]) rfl hc hi;show(FF .part [] cs x i-FF .part [] cs 0 i)*_=_*(FF .part [] cs (cs.sum:Rat) i-FF .part [] cs 0 i)
 rw[e0,e2];generalize FF Wy.part [] cs x i=y at *;generalize (cs.sum:Rat)=S at *;generalize cR cs i=c at *;grind
def zIJ{R R':Rat->Rat->Prop}{g:Rat->Rat}(h:∀ a b,R a b->R' (g a) (g b)):∀ {l:List Rat},Cn R l->Cn R' (l.map g)
 | [],_=>trivial
 | [_],_=>trivial
 | a::b::l,k=>⟨h a b k.1,zIJ h k.2⟩
def zIS{R:Rat->Rat->Prop}:∀ {l l':List Rat},Cn R l->Cn R l'->(∀ x y,l.getLast?=some x->l'.head?=some y->R x y)->Cn R (l++l')
 | [],_,_,h,_=>h
 | [a],[],_,_,_=>trivial
 | [a],b::l',_,h,k=>⟨k a b rfl rfl,h⟩
 | a::b::l,l',h,h',k=>⟨h.1,zIS h.2 h' fun x y hx hy=>k x y (by simpa using hx) hy⟩
def zJR{R R':Rat->Rat->Prop}{g:Rat->Rat}(h:∀ a b,R a b->R' (g b) (g a)):∀ {l:List Rat},Cn R l->Cn R' (l.reverse.map g)
 | [],_=>trivial
 | [_],_=>trivial
 | a::b::l,k=>by
  have ih:=zJR (l:=b::l) h k.2;rw[List.reverse_cons,Q9];refine zIS ih trivial fun x y hx hy=>?_
  rw[Xy,Wv] at hx;cases hx;cases hy;exact h a b k.1
def Lin.mir{f g:Rat->Rat}{a b S c:Rat}(hab:a<=b)(h:Lin f a b)(hg:∀ x,a<=x->x<=b->g (S-x)=c-f x):Lin g (S-b) (S-a):=fun x h1 h2=>by
 have k:=h (S-x) (by grind) (by grind)
 have e:=hg (S-x) (by grind) (by grind)
 rw[show S-(S-x)=x by grind] at e;rw[e,hg a Qg hab,hg b hab Qg];grind
def zML{w:Wy}{ws cs:List Int}(hw:w.due ws cs)(hc:Cl cs){a b:Rat}(h:Jt w ws cs a b):Jt w.con ws cs ((cs.sum:Rat)-b) ((cs.sum:Rat)-a):=by
 obtain⟨h1,h2,h3,h4⟩:=h;refine⟨by grind,by grind,by grind,fun i hi=>?_⟩
 exact Lin.mir h2 (h4 i hi) (c:=cR cs i) fun x x1 x2=>zMt hw hc (Q3 h1 x1) (Q3 x2 h3) hi
def zSN{ws cs:List Int}(h:Wt ws cs)(hc:Cl cs){s t:Rat}(s0:0<=s)(st:s<=t)(n:zPD ws cs s t):Jt .even ws cs (QQ ws cs s) (QQ ws cs t):=by
 have g0:∀ i,i<cs.length->∀ t,0<=t->0<=dN (cR cs) (cR ws) t i/\dN (cR cs) (cR ws) t i<=cR cs i:=fun i hi t t0=>pF h hc t0 hi
 have q0:0<=QQ ws cs s:=by
  have:jA (fun i=>cR ws i*0) (List.range cs.length)<=QQ ws cs s:=rV fun i hi=>by
   have:=(g0 i (Qk.mp hi) s s0).1
   grind
  rw[dM] at this;grind
 have q1:QQ ws cs t<=(cs.sum:Rat):=by
  have:QQ ws cs t<=jA (cR cs) (List.range cs.length):=rV fun i hi=>(g0 i (Qk.mp hi) t (Q3 s0 st)).2
  have e:jA (cR cs) (List.range cs.length)=(cs.sum:Rat):=sT cs;rw[e] at this;exact this
 refine⟨q0,lO h st,q1,fun i hi=>zRW h st n hi fun x x1 x2=>?_⟩
 obtain⟨M,u,tl,e⟩:=yG (w:=.even) h hc (Q3 q0 x1) (Q3 x2 q1);exact⟨u,tl.sum,e i hi⟩
def zOv{ws cs:List Int}(h:Wt ws cs)(hc:Cl cs){ls:List Rat}(so:ls.Pairwise (·<=·))(hm:∀ i,i<cs.length->lv ws cs i∈ls)(h0:∀ x∈ls,0<=x):Cn (Jt .even ws cs) ((0::ls).map (QQ ws cs)):=by
 have so':(0::ls).Pairwise (·<=·):=Qp.mpr ⟨h0,so⟩;have cn:=wO (A:=0::ls) so' fun x hx=>.inl hx
 have pos:∀ {l:List Rat},(∀ x∈l,0<=x)->Cn (fun s t=>s<=t/\∀ x∈0::ls,x<=s∨t<=x) l->Cn (fun s t=>0<=s/\s<=t/\∀ x∈0::ls,x<=s∨t<=x) l:=by
  intro l
  induction l with
  | nil=>intro _ _;trivial
  | cons a r ih=>
   intro hp k
   cases r with
   | nil=>trivial
   | cons b r=>exact⟨⟨hp a Qb,k.1⟩,ih (fun x hx=>hp x (Qd _ hx)) k.2⟩
 refine zIJ (fun a b hab=>?_) (pos (fun x hx=>?_) cn)
 ·exact zSN h hc hab.1 hab.2.1 fun i hi=>hab.2.2 _ (Qd _ (hm i hi))
 ·rcases Qc.mp hx with rfl | hx
  ·exact Qg
  ·exact h0 x hx
def vA{cs:List Int}(hc:Cl cs){q:Rat}(q0:0<=q)(q1:q+q<=(cs.sum:Rat)){i:Nat}(hi:i<cs.length):FF .half [] cs q i=FF .even (ones cs) cs (q+q) i*hf:=by
 have s0:(0:Rat)<=(cs.sum:Rat):=by exact_mod_cast hc.sum.1
 obtain⟨M,t,tl,e⟩:=yG (w:=.even) (ws:=ones cs) (fG cs) hc (q:=q+q) (by grind) q1
 rw[<-uR (M:=M) (w:=.half) (ws:=[]) (f:=fun i=>dN (cR cs) (cR (ones cs)) t i*hf) rfl hc q0 (by grind) ⟨t,.inl ⟨q1,tl,fun i _=>rfl⟩⟩ hi,e i hi]
def zOP{cs:List Int}(hc:Cl cs){a b:Rat}(h:Jt .even (ones cs) cs a b):Jt .half [] cs (a*hf) (b*hf):=by
 obtain⟨h1,h2,h3,h4⟩:=h;have tw:∀ x:Rat,x*hf+x*hf=x:=fun x=>by rw[jT];grind
 have ta:=tw a;have tb:=tw b;have p:(0:Rat)<hf:=by rw[jT];grind
 have l1:=Vs h1 (Qh p);have l2:=Vs h2 (Qh p);refine⟨by grind,l2,by grind,fun i hi x x1 x2=>?_⟩
 have fx:∀ y,a*hf<=y->y<=b*hf->FF .half [] cs y i=FF .even (ones cs) cs (y+y) i*hf:=fun y y1 y2=>vA hc (by grind) (by grind) hi
 show(FF .half [] cs x i-FF .half [] cs (a*hf) i)*_=_*(FF .half [] cs (b*hf) i-FF .half [] cs (a*hf) i)
 rw[fx x x1 x2,fx (a*hf) Qg l2,fx (b*hf) l2 Qg,ta,tb];have k:=h4 i hi (x+x) (by grind) (by grind)
 have k':(FF .even (ones cs) cs (x+x) i-FF .even (ones cs) cs a i)*(b-a)=(x+x-a)*(FF .even (ones cs) cs b i-FF .even (ones cs) cs a i):=k;rw[show b*hf-a*hf=(b-a)*hf by grind];have hh:hf*(1+1)=1:=by rw[jT];grind
 generalize FF Wy.even (ones cs) cs (x+x) i=u at *;generalize FF Wy.even (ones cs) cs a i=v at *;generalize FF Wy.even (ones cs) cs b i=z at *;generalize hf=H at *;grind
structure JL (w:Wy) (ws cs:List Int) (l:List Rat):Prop where
 cn:Cn (Jt w ws cs) l
 hd:l.head?=some 0
 la:l.getLast?=some (cs.sum:Rat)
def ddR:Rat->List Rat->List Rat
 | _,[]=>[]
 | k,x::l=>if k<x then x::ddR x l else ddR k l
def zNZ{w:Wy}{ws cs:List Int}:∀ {l:List Rat} {k:Rat},Cn (Jt w ws cs) (k::l)->Cn (fun a b=>a<b/\Jt w ws cs a b) (k::ddR k l)/\(k::ddR k l).getLast?=(k::l).getLast?
 | [],k,_=>⟨trivial,rfl⟩
 | x::l,k,h=>by
  rw[ddR];by_cases z:k<x
  ·rw[Jk z]
   obtain⟨i1,i2⟩:=zNZ h.2;refine⟨⟨⟨z,h.1⟩,i1⟩,?_⟩
   rw[Yt,Yt];exact i2
  ·rw[Jl z]
   have e:k=x:=by have:=h.1.2.1;grind
   subst e;obtain⟨i1,i2⟩:=zNZ h.2;refine⟨i1,?_⟩
   rw[i2,Yt]
def zJo:∀(l:List Rat)(k:Rat),(ddR k l).Sublist l
 | [],_=>List.Sublist.refl _
 | x::l,k=>by
  rw[ddR];split
  ·exact(zJo l x).cons₂ x
  ·exact(zJo l k).cons x
structure JS (w:Wy) (ws cs:List Int) (l:List Rat):Prop where
 cn:Cn (fun a b=>a<b/\Jt w ws cs a b) l
 hd:l.head?=some 0
 la:l.getLast?=some (cs.sum:Rat)
def JL.js{w:Wy}{ws cs:List Int}{l:List Rat}(h:JL w ws cs (0::l)):JS w ws cs (0::ddR 0 l):=by
 obtain⟨a,b⟩:=zNZ h.cn;exact⟨a,rfl,by rw[b];exact h.la⟩
def zOH{R:Rat->Rat->Prop}:∀ {l:List Rat},Cn (fun a b=>a<b/\R a b) l->l.Pairwise (· < ·)
 | [],_=>.nil
 | [a],_=>Ur ..
 | a::b::l,h=>by
  have ih:=zOH h.2;refine Qp.mpr ⟨fun x hx=>?_,ih⟩
  rcases Qc.mp hx with rfl | hx
  ·exact h.1.1
  ·have z1:=h.1.1
   have z2:=(Qp.mp ih).1 x hx;grind
def zRy{R:Rat->Rat->Prop}:∀ {l:List Rat} {k:Nat} {a b:Rat},Cn R l->l[k]?=some a->l[k+1]?=some b->R a b
 | x::y::l,0,a,b,h,e1,e2=>by cases e1;cases e2;exact h.1
 | x::y::l,k+1,a,b,h,e1,e2=>zRy (k:=k) h.2 (by simpa using e1) (by simpa using e2)
 | [x],0,a,b,h,e1,e2=>by simp at e2
 | [x],k+1,a,b,h,e1,e2=>by simp at e2
 | [],k,a,b,h,e1,e2=>by simp at e1
def jpt(w:Wy)(ws cs:List Int)(l:List Rat)(i:Nat):List Pt:=l.map fun q=>(q,FF w ws cs q i)
def JS.bd{w:Wy}{ws cs:List Int}{l:List Rat}(h:JS w ws cs l):∀ x∈l,0<=x/\x<=(cs.sum:Rat):=by
 have p:=zOH h.cn;intro x hx;obtain⟨hd,la⟩:=(⟨h.hd,h.la⟩:_/\_)
 cases l with
 | nil=>cases hx
 | cons a r=>
  cases hd;refine⟨?_,?_⟩
  ·rcases Qc.mp hx with rfl | hx
   ·exact Qg
   ·exact Qh ((Qp.mp p).1 x hx)
  ·have key:∀ {l:List Rat} {e x:Rat},l.Pairwise (· < ·)->l.getLast?=some e->x∈l->x<=e:=by
    intro l
    induction l with
    | nil=>intro e x _ _ hx;cases hx
    | cons a r ih=>
     intro e x hp he hx;obtain⟨p1,p2⟩:=Qp.mp hp
     cases r with
     | nil=>rw[Qr.mp hx];cases he;exact Qg
     | cons b r=>
      rw[Yt] at he;rcases Qc.mp hx with rfl | hx
      ·exact Q3 (Qh (p1 b Qb)) (ih p2 he Qb)
      ·exact ih p2 he hx
   exact key p la hx
def zFn{w:Wy}{ws cs:List Int}{l:List Rat}(hw:w.due ws cs)(hc:Cl cs)(h:JS w ws cs l){i:Nat}(hi:i<cs.length):Ok (jpt w ws cs l i)/\(jpt w ws cs l i).getLast?=some ((cs.sum:Rat),cR cs i):=by
 have b:=h.bd;refine⟨⟨?_,?_⟩,?_⟩
 ·unfold jpt
  rw[Yz,h.hd];show some ((0:Rat),FF w ws cs 0 i)=_
  rw[zJs hw hc hi]
 ·unfold jpt
  rw[Xx];refine Yo (fun {x y} hx hy hxy=>?_) (zOH h.cn)
  exact⟨hxy,zOq hw hc (b x hx).1 (Qh hxy) (b y hy).2 hi⟩
 ·unfold jpt
  rw[Xy,h.la];show some ((cs.sum:Rat),FF w ws cs (cs.sum:Rat) i)=_
  rw[zEi hw hc hi]
def zOf{w:Wy}{ws cs:List Int}{l:List Rat}(hw:w.due ws cs)(hc:Cl cs)(h:JS w ws cs l){i:Nat}(hi:i<cs.length){x:Rat}(x0:0<=x)(x1:x<=(cs.sum:Rat)):aP (jpt w ws cs l i) x=FF w ws cs x i:=by
 obtain⟨ok,la⟩:=zFn hw hc h hi
 have pt:∀ {k:Nat} {p:Pt},(jpt w ws cs l i)[k]?=some p->l[k]?=some p.1/\p.2=FF w ws cs p.1 i:=fun {k p} e=>by
  unfold jpt at e;rw[Qu] at e
  cases hk:l[k]? with
  | none=>rw[hk] at e;cases e
  | some a=>rw[hk] at e;cases e;exact⟨rfl,rfl⟩
 rcases wB ok.2 la (fun p hp=>by rw[ok.1] at hp;cases hp;exact x0) x1 with⟨k,p,e1,e2⟩ | ⟨k,p,q,e1,e2,e3,e4⟩
 ·have v:=bN ok.2 e1
  rw[(pt e1).2,e2] at v;exact v
 ·rw[cK ok.2 e1 e2 (Qh e3) (Qh e4)]
  obtain⟨a1,a2⟩:=pt e1;obtain⟨b1,b2⟩:=pt e2;obtain⟨lt,j⟩:=zRy h.cn a1 b1;have k:=j.2.2.2 i hi x (Qh e3) (Qh e4);have k':(FF w ws cs x i-FF w ws cs p.1 i)*(q.1-p.1)=(x-p.1)*(FF w ws cs q.1 i-FF w ws cs p.1 i):=k;unfold itp;rw[a2,b2];generalize FF w ws cs x i=u at *;generalize FF w ws cs p.1 i=v at *;generalize FF w ws cs q.1 i=z at *;have nz:q.1-p.1≠0:=by grind
  refine jH nz ?_
  have e:(x-p.1) / (q.1-p.1)*(q.1-p.1)=x-p.1:=Vt nz;generalize (x-p.1) / (q.1-p.1)=r at *;grind
def wln(w:Wy)(ws cs:List Int)(l:List Rat)(i:Nat):List Pt:=mH (jpt w ws cs l i)
def zMN{w:Wy}{ws cs:List Int}{l:List Rat}(hw:w.due ws cs)(hc:Cl cs)(h:JS w ws cs l){i:Nat}(hi:i<cs.length):zNd (wln w ws cs l i)/\(wln w ws cs l i).getLast?=some ((cs.sum:Rat),cR cs i)/\(∀ p∈wln w ws cs l i,p.1∈l/\p.2=FF w ws cs p.1 i)/\∀ x,0<=x->x<=(cs.sum:Rat)->aP (wln w ws cs l i) x=FF w ws cs x i:=by
 obtain⟨ok,la⟩:=zFn hw hc h hi;unfold wln;refine⟨lF ok,by rw[vE ok.2];exact la,fun p hp=>?_,fun x x0 x1=>by rw[yS ok.2];exact zOf hw hc h hi x0 x1⟩
 have m:=(oA ok.2).subset hp;unfold jpt at m;obtain⟨q,hq,rfl⟩:=Qm.mp m;exact⟨hq,rfl⟩
def vH:∀ {l m:List Rat},l.Perm m->l.Pairwise (·<=·)->m.Pairwise (·<=·)->l=m
 | [],m,p,_,_=>(List.nil_perm.mp p).symm
 | a::l,[],p,_,_=>by cases (List.perm_nil.mp p)
 | a::l,b::m,p,h,k=>by
  obtain⟨h1,h2⟩:=Qp.mp h;obtain⟨k1,k2⟩:=Qp.mp k
  have e:a=b:=by
   have x:a<=b:=by
    rcases Qc.mp (p.mem_iff.mpr Qb) with e | e
    ·rw[e];exact Qg
    ·exact h1 b e
   have y:b<=a:=by
    rcases Qc.mp (p.mem_iff.mp Qb) with e | e
    ·rw[e];exact Qg
    ·exact k1 a e
   grind
  subst e;rw[vH (List.perm_cons a |>.mp p) h2 k2]
def zBO{cs:List Int}{cd:D}(sc:Sq cd cs)(hc:Cl cs):fM [cd]=.ok (.f ((rj cs 0).map dq)):=by
 have hi:=hc.hi
 have lp:∀(r:List Int)(a:Int)(acc:List D)(s:Sl),acc.length+r.length<=1000->∃ a' s',loop (gName 3) oP (r.map D.int) [.val cd,.val (.int a),.own (acc++[dq (a:Rat)]),s]=.ok (.nx [.val cd,a',.own (acc++(rj r a).map dq),s']):=by
  intro r
  induction r with
  | nil=>intro a acc s _;exact⟨_,s,rfl⟩
  | cons c r ih=>
   intro a acc s hl;rw[Qn] at hl;obtain⟨a',s',e⟩:=ih (a+c) (acc++[dq (a:Rat)]) (.val (.int c)) (by rw[Qi];simp;omega)
   refine⟨a',s',?_⟩
   rw[Qo,cY (ρ1:=[.val cd,.val (.int a),.own (acc++[dq (a:Rat)]),.val (.int c)]) (ρ2:=[.val cd,.val (.int (a+c)),.own (acc++[dq (a:Rat)]++[dq ((a+c:Int):Rat)]),.val (.int c)]) rfl (by
    erw[bR];symm
    rw[Jk (by rw[Qi];simp;omega)]),e,rj,Qo,Vr]
   rfl
 obtain⟨a',s',e⟩:=lp cs 0 [] .un (by simp;omega)
 rw[Xu,Xu] at e;unfold fM;erw[sc.seq];symm;have e0:dq ((0:Int):Rat)=dq 0:=rfl;rw[e0] at e;rw[e];symm
def zHk{ws cs:List Int}(h:Wt ws cs){i:Nat}{pre post:List Nat}(hm:∀ j∈pre++i::post,j<cs.length)(so:(pre++i::post).Pairwise fun a b=>lv ws cs a<=lv ws cs b)(p:(pre++i::post).Perm (List.range cs.length)):QQ ws cs (lv ws cs i)=((wS cs pre:Int):Rat)+lv ws cs i*((wS ws (i::post):Int):Rat):=by
 unfold QQ;rw[<-uV p]
 have app:∀(f:Nat->Rat)(a b:List Nat),jA f (a++b)=jA f a+jA f b:=by
  intro f a b
  induction a with
  | nil=>rw[Xu,iX,Rat.zero_add]
  | cons x a ih=>rw[Ui,bD,bD,ih];grind
 obtain⟨s1,s2,s3⟩:=Ww.mp so;rw[app,eG (g:=cR cs) (l:=pre) fun j hj=>zGH h (hm j (Vc _ hj)) (s3 j hj i Qb),mV]
 rw[eG (g:=fun j=>cR ws j*lv ws cs i) (l:=i::post) fun j hj=>zGm h (hm j (Qx _ hj)) (by
  rcases Qc.mp hj with rfl | hj
  ·exact Qg
  ·exact(Qp.mp s2).1 j hj),dM,mV]
def zQv{ws cs:List Int}(h:Wt ws cs)(hc:Cl cs){i:Nat}(hi:i<cs.length):Sz 104 (lv ws cs i)/\Dn (ws.getD i 0) (lv ws cs i):=by
 have w:=h.at hi;have c1:=hc.nn _ (Qj (bO hi));have c2:=hc.up _ (Qj (bO hi));refine⟨?_,cs.getD i 0,?_⟩
 ·unfold lv cR
  rw[<-Yr];exact Sz.of ⋯ ⋯ ⋯
 ·have e:=zH h hi
  have e':((ws.getD i 0:Int):Rat)*lv ws cs i=((cs.getD i 0:Int):Rat):=e;rw[<-e'];grind
def zOU{cs:List Int}(hn:∀ c∈cs,0<=c):∀ {π:List Nat},(∀ i∈π,i<cs.length)->0<=wS cs π
 | [],_=>by show(0:Int)<=0;decide
 | i::π,h=>by
  rw[nT];have a:=hn _ (Qj (bO (h i Qb)));have b:=zOU hn fun j hj=>h j (Qd _ hj)
  omega
def zMX(cs:List Int)(a b:List Nat):wS cs (a++b)=wS cs a+wS cs b:=by unfold wS;rw[Q9,V7]
def pU{ws cs:List Int}{wd cd:D}(sw:Sq wd ws)(sc:Sq cd cs)(h:Wt ws cs)(hc:Cl cs):∃ ls:List Rat,dB [wd,cd]=.ok (.f (((0::ls).map (QQ ws cs)).map dq))/\ls.Pairwise (·<=·)/\ls.Perm ((List.range cs.length).map (lv ws cs))/\QQ ws cs 0=0:=by
 have hcc:∀ c∈cs,0<=c/\c<10^30:=fun c h=>⟨hc.nn c h,hc.up c h⟩
 have hi:=hc.hi;have sm:=hc.sum;have hw:=h.len;have hkr:=yL (zMu h hcc) (by rw[zAB hw];exact hi)
 generalize hkz:(lvs ws cs).map (zKw (uB (lvs ws cs)))=kz at hkr;have lz:kz.length=cs.length:=by rw[<-hkz,Qe,zAB hw]
 have B0:(0:Rat)<(uB (lvs ws cs):Rat):=by exact_mod_cast zAb (lvs ws cs)
 have kat:∀ i,i<cs.length->((kz.getD i 0:Int):Rat)=lv ws cs i*(uB (lvs ws cs):Rat):=fun i h=>by
  have e:=zIV hw h;have e2:kz.getD i 0=zKw (uB (lvs ws cs)) (cR cs i / cR ws i):=by rw[<-hkz,Qv,Qu,e];rfl
  rw[e2];exact zMH (Qj e)
 have z0:QQ ws cs 0=0:=by
  unfold QQ;rw[eG (g:=fun i=>cR ws i*0) fun i hi=>zGm h (Qk.mp hi) (zIk h hc (Qk.mp hi)),dM];grind
 have ord:∀ π,iD kz π->π.Perm (List.range cs.length)/\(∀ i∈π,i<cs.length)/\π.Pairwise fun a b=>lv ws cs a<=lv ws cs b:=by
  intro π hπ;obtain⟨hp,ho⟩:=hπ;rw[lz] at hp;have hm:∀ i∈π,i<cs.length:=fun i h=>Qk.mp (hp.mem_iff.mp h)
  refine⟨hp,hm,Yo (fun {i j} h1 h2 h3=>?_) ho⟩
  have h4:((kz.getD i 0:Int):Rat)<=((kz.getD j 0:Int):Rat):=Xc.mpr h3;rw[kat i (hm i h1),kat j (hm j h2)] at h4;exact Yj h4 B0
 obtain⟨π0,hπ0⟩:=zDv kz;obtain⟨p0,m0,s0⟩:=ord π0 hπ0
 have key:∀ π,iD kz π->π.map (lv ws cs)=π0.map (lv ws cs):=fun π hπ=>by
  obtain⟨p1,m1,s1⟩:=ord π hπ;exact vH ((p1.trans p0.symm).map _) (Xx.mpr s1) (Xx.mpr s0)
 refine⟨π0.map (lv ws cs),?_,Xx.mpr s0,p0.map _,z0⟩
 have lp:∀(π:List Nat)(hπ:π.Perm (List.range cs.length))(so:π.Pairwise fun a b=>lv ws cs a<=lv ws cs b)(post pre:List Nat)(acc:List D)(s:Sl),π=pre++post->acc.length+post.length<=100->∃ a' b' s',loop (gName 6) fY (kM post) [.val wd,.val cd,.val (.int (wS cs pre)),.val (.int (wS ws post)),.val (.lst ((lvs ws cs).map dq)),.own acc,s]=.ok (.nx [.val wd,.val cd,a',b',.val (.lst ((lvs ws cs).map dq)),.own (acc++post.map fun i=>dq (QQ ws cs (lv ws cs i))),s']):=by
  intro π hπ so post
  induction post with
  | nil=>intro pre acc s _ _;exact⟨_,_,s,by rw[Xd,Vf];rfl⟩
  | cons i post ih=>
   intro pre acc s e hl;have hm:∀ j∈pre++i::post,j<cs.length:=fun j hj=>Qk.mp (hπ.mem_iff.mp (by rw[e];exact hj))
   have hii:=hm i (by simp)
   have ss:=zHk h hm (by rw[<-e];exact so) (by rw[<-e];exact hπ)
   have W:=h.sum (π:=i::post) fun j hj=>hm j (Qx _ hj)
   have ln:(pre++i::post).length=cs.length:=by rw[<-e,hπ.length_eq,Q2]
   rw[Qi,Qn] at ln;rw[Qn] at W hl;have F0:=zOU hc.nn (π:=pre) fun j hj=>hm j (Vc _ hj)
   have F1:wS cs pre<=cs.sum:=by
    have t:=zBm (ws:=cs) (π:=pre++i::post) (by rw[<-e];exact hπ)
    rw[zMX] at t;have:=zOU hc.nn (π:=i::post) fun j hj=>hm j (Qx _ hj)
    omega
   obtain⟨a',b',s',e'⟩:=ih (pre++[i]) (acc++[dq (QQ ws cs (lv ws cs i))]) (.val (.int (i:Nat))) (by rw[e];simp) (by rw[Qi];simp;omega)
   refine⟨a',b',s',?_⟩
   have zl:=(zQv h hc hii).1;have zW:Sz 24 ((wS ws (i::post):Int):Rat):=cS ⋯ ∅
   have zF:Sz 105 ((wS cs pre:Int):Rat):=cS ⋯ ∅
   have ixl:oIx (.lst ((lvs ws cs).map dq)) (.int (i:Int))=.ok (dq (lv ws cs i)):=qV (Xi i) (zIV hw hii);show loop _ _ (.int (i:Nat)::kM post) _=_
   rw[cY (ρ1:=[.val wd,.val cd,.val (.int (wS cs pre)),.val (.int (wS ws (i::post))),.val (.lst ((lvs ws cs).map dq)),.own acc,.val (.int (i:Nat))]) (ρ2:=[.val wd,.val cd,.val (.int (wS cs (pre++[i]))),.val (.int (wS ws post)),.val (.lst ((lvs ws cs).map dq)),.own (acc++[dq (QQ ws cs (lv ws cs i))]),.val (.int (i:Nat))]) rfl (by
    erw[bR,ixl,bR,nR zl zW ∅];symm;rw[zCO zF (zl.mul zW) ∅,<-ss];erw[Jk ⋯,sc.ix hii,sw.ix ⋯];symm
    rw[zMX,nT ws,show wS cs [i]=cs.getD i 0 by unfold wS;simp,show ws.getD i 0+wS ws post-ws.getD i 0=wS ws post by omega]),e',Vr]
   rfl
 have one:∀ π,iD kz π->bA (fun ρ=>loop (gName 6) fY (kM π) ρ) nJ [.val wd,.val cd,.val (.int 0),.val (.int ws.sum),.val (.lst ((lvs ws cs).map dq)),.own [dq 0],.un]=.ok (.ret (.f (((0::π0.map (lv ws cs)).map (QQ ws cs)).map dq))):=by
  intro π hπ;obtain⟨p1,m1,s1⟩:=ord π hπ;have lπ:π.length=cs.length:=by rw[p1.length_eq,Q2]
  obtain⟨a',b',s',e⟩:=lp π p1 s1 π [] [dq 0] .un rfl (by simp;omega)
  rw[show wS cs []=0 from rfl,zBm (ws:=ws) (π:=π) (by rw[hw];exact p1)] at e;refine(zMx (a:=fun ρ=>loop (gName 6) fY (kM π) ρ) e).trans ?_
  rw[<-key π hπ,Qo,z0,Qo,Qw,Qw];rfl
 unfold dB;erw[sw.sum,uO sw sc h hi];symm;unfold nG;rw[zIK (kz:=kz) (by symm; exact hkr) one];rfl
def sP{l:List Rat}{S:Int}(hl:l.length<=1000)(hz:∀ x∈l,Sz 300 x)(hS:S.natAbs<2^105):gP [.lst (l.map dq),dq (S:Rat)]=.ok (.f ((l.reverse.map fun x=>(S:Rat)-x).map dq)):=by
 have zS:Sz 105 (S:Rat):=cS hS ∅
 unfold gP;erw[show(l.map dq).reverse=l.reverse.map dq by rw[List.map_reverse]]
 rw[eX (u:=dq) (g:=fun x=>dq ((S:Rat)-x)) (by rw[Vo];omega) (fun x hx=>by
  erw[eP zS (hz x (Us.mp hx)) ∅]
  symm)]
 erw[Qw];rfl
def rH{l:List Rat}(hl:l.length<=900)(hz:∀ x∈0::l,Sz 300 x):cZ [.lst ((0::l).map dq)]=.ok (.f ((0::ddR 0 l).map dq)):=by
 have lp:∀(r:List Rat)(acc:List Rat)(k:Rat)(d:Sl)(s:Sl),(∀ x∈r,Sz 300 x)->Sz 300 k->acc.length+r.length<=1000->∃ s',loop (gName 2) jI (r.map dq) [d,.own ((acc++[k]).map dq),s]=.ok (.nx [d,.own ((acc++k::ddR k r).map dq),s']):=by
  intro r
  induction r with
  | nil=>intro acc k d s _ _ _;exact⟨s,rfl⟩
  | cons x r ih=>
   intro acc k d s hr hk hl;rw[Qn] at hl;have hx:=hr x Qb;have ixk:oIx (.lst ((acc++[k]).map dq)) (.int (-1))=.ok (dq k):=zAO (k:=1) rfl ∅ (by rw[Qi];simp) (by rw[Qi];simp)
   have hr':∀ y∈r,Sz 300 y:=fun y hy=>hr y (Qd _ hy)
   rw[Qo,ddR];by_cases z:k<x
   ·obtain⟨s',e⟩:=ih (acc++[k]) x d (.val (dq x)) hr' hx (by rw[Qi];simp;omega)
    refine⟨s',?_⟩
    rw[Jk z,cY (ρ1:=[d,.own ((acc++[k]).map dq),.val (dq x)]) (ρ2:=[d,.own ((acc++[k]++[x]).map dq),.val (dq x)]) rfl (by
     cases d<;>(
      erw[ixk];symm;rw[jY hk hx ∅,J6 z];symm;rw[Jk (by rw[Qi];simp;omega),Q9 (l₁:=acc++[k])]
      rfl)),e,Vr]
    rfl
   ·obtain⟨s',e⟩:=ih acc k d (.val (dq x)) hr' hk ⋯
    refine⟨s',?_⟩
    rw[Jl z,cY (ρ1:=[d,.own ((acc++[k]).map dq),.val (dq x)]) (ρ2:=[d,.own ((acc++[k]).map dq),.val (dq x)]) rfl (by
     cases d<;>(
      erw[ixk];symm;rw[jY hk hx ∅,Jj z]
      symm)),e]
 obtain⟨s',e⟩:=lp (0::l) [] 0 (.val (.lst ((0::l).map dq))) .un hz ⟨∅,∅⟩ (by simp;omega)
 rw[Xu,Xu,ddR,Jl ∅] at e;unfold cZ;symm;rw[zLn ∅,show((1:Int).toNat)=1 from rfl,show List.take 1 (dq 0::l.map dq)=[0].map dq from rfl];rw[Qo] at e;rw[e];rfl
def zSv{B S:Int}{x:Rat}(h:Dn B x)(hB:0<B)(hB':B<2^30)(h0:0<=x)(h1:x<=(S:Rat))(hS:S<2^104):Sz 300 x:=(h.sz (a:=104) (b:=30) hB hB' h0 h1 hS).mono ∅
def Jd(cs:List Int)(l:List Rat):Prop:=l.length<=30/\∀ x∈l,∃ B:Int,0<B/\B<=2*10^6/\Dn B x
def zNz{w:Wy}{ws cs:List Int}:∀ {l:List Rat},Cn (Jt w ws cs) l->2<=l.length->∀ x∈l,0<=x/\x<=(cs.sum:Rat)
 | [],_,h,x,hx=>by cases hx
 | [a],_,h,x,hx=>by simp at h
 | [a,b],h,_,x,hx=>by
  obtain⟨h1,h2,h3,_⟩:=h.1;rcases Qc.mp hx with rfl | hx
  ·exact⟨h1,Q3 h2 h3⟩
  ·rw[Qr.mp hx];exact⟨Q3 h1 h2,h3⟩
 | a::b::c::l,h,_,x,hx=>by
  obtain⟨h1,h2,h3,_⟩:=h.1;rcases Qc.mp hx with rfl | hx
  ·exact⟨h1,Q3 h2 h3⟩
  ·exact zNz h.2 (by simp) x hx
def zMg:∀(r:List Int)(a:Int),∀ x∈rj r a,∃ k:Int,x=(k:Rat)
 | [],a,x,h=>⟨a,Qr.mp h⟩
 | c::r,a,x,h=>by
  rcases Qc.mp h with rfl | h
  ·exact⟨a,rfl⟩
  ·exact zMg r (a+c) x h
def zMI:∀(r:List Int)(a:Int),(rj r a).length=r.length+1/\(rj r a).getLast?=some ((a+r.sum:Int):Rat)
 | [],a=>⟨rfl,by show some (a:Rat)=_;rw[Wr,Wx]⟩
 | c::r,a=>by
  obtain⟨h1,h2⟩:=zMI r (a+c);refine⟨by rw[rj,Qn,h1,Qn],?_⟩
  obtain⟨t,et⟩:=zDn r (a+c);rw[rj,et,Yt,<-et,h2,Q4,Up]
def zOI{ws cs:List Int}(h:Wt ws cs)(hc:Cl cs){ls:List Rat}(so:ls.Pairwise (·<=·))(pm:ls.Perm ((List.range cs.length).map (lv ws cs))):∀ x∈(0::ls).map (QQ ws cs),∃ B:Int,0<B/\B<=10^6/\Dn B x:=by
 have gd:∀(t:Rat)(B:Int),Dn B t->Dn B (QQ ws cs t):=fun t B hB=>by
  have all:∀ l:List Nat,Dn B (jA (dN (cR cs) (cR ws) t) l):=by
   intro l
   induction l with
   | nil=>exact Dn.zero B
   | cons i l ih=>
    rw[bD];refine Dn.add (Dn.mn ?_ (Dn.int _ _)) ih
    obtain⟨k,hk⟩:=hB;refine⟨ws.getD i 0*k,?_⟩
    rw[Vm,<-hk];show cR ws i*t*_=cR ws i*_
    grind
  exact all _
 intro x hx;obtain⟨t,ht,rfl⟩:=Qm.mp hx;rcases Qc.mp ht with rfl | ht
 ·exact⟨1,∅,∅,gd 0 1 (Dn.zero 1)⟩
 ·obtain⟨i,hi,rfl⟩:=Qm.mp (pm.mem_iff.mp ht)
  have hi':=Qk.mp hi;have w:=h.at hi';exact⟨ws.getD i 0,⋯,w.2,gd _ _ (zQv h hc hi').2⟩
def zIL(w:Wy):aT.lookup w.s=some w.con.s:=by
 cases w
 ·exact zHW
 ·exact zN
 ·exact zFu
 ·exact zM
 ·exact zEy
 ·exact zAC
def zJQ(w:Wy):dL [.str w.s]=.ok (.v (.str w.con.s)):=by
 have e:uX aT (.str w.s)=.ok (.str w.con.s):=by show zPF (aT.lookup w.s)=_;rw[zIL];rfl
 unfold dL;erw[vN (zIL w),e];symm
def zV:∀ {l:List Rat} {e x:Rat},l.Pairwise (·<=·)->l.getLast?=some e->x∈l->x<=e
 | [],_,_,_,h,_=>by cases h
 | [a],e,x,_,h,hx=>by rw[Qr.mp hx];cases h;exact Qg
 | a::b::r,e,x,hp,h,hx=>by
  obtain⟨p1,p2⟩:=Qp.mp hp;rw[Yt] at h;rcases Qc.mp hx with rfl | hx
  ·exact Q3 (p1 b Qb) (zV p2 h Qb)
  ·exact zV p2 h hx
def zPp{ws cs:List Int}(h:Wt ws cs)(hc:Cl cs){ls:List Rat}(so:ls.Pairwise (·<=·))(pm:ls.Perm ((List.range cs.length).map (lv ws cs)))(z0:QQ ws cs 0=0):JL .even ws cs ((0::ls).map (QQ ws cs)):=by
 have hm:∀ i,i<cs.length->lv ws cs i∈ls:=fun i hi=>pm.mem_iff.mpr (Qm.mpr ⟨i,Qk.mpr hi,rfl⟩)
 have h0:∀ x∈ls,0<=x:=fun x hx=>by
  obtain⟨i,hi,rfl⟩:=Qm.mp (pm.mem_iff.mp hx);exact zIk h hc (Qk.mp hi)
 refine⟨zOv h hc so hm h0,by rw[Qo,z0];rfl,?_⟩
 rw[Xy];obtain⟨e,he⟩:∃ e,(0::ls).getLast?=some e:=⟨_,List.getLast?_eq_some_getLast (by simp)⟩
 rw[he];have so':(0::ls).Pairwise (·<=·):=Qp.mpr ⟨h0,so⟩;refine congrArg some ?_
 unfold QQ;rw[eG (g:=cR cs) fun i hi=>zGH h (Qk.mp hi) (zV so' he (Qd _ (hm i (Qk.mp hi))))];exact sT cs
def zMT{w:Wy}{ws cs:List Int}(hw:w.due ws cs)(hc:Cl cs){l:List Rat}(h:JL w ws cs l):JL w.con ws cs (l.reverse.map fun x=>(cs.sum:Rat)-x):=by
 refine⟨zJR (fun a b k=>zML hw hc k) h.cn,?_,?_⟩
 ·rw[Yz,List.head?_reverse,h.la]
  show some ((cs.sum:Rat)-(cs.sum:Rat))=some 0
  rw[show(cs.sum:Rat)-(cs.sum:Rat)=0 by grind]
 ·rw[Xy,Wv,h.hd]
  show some ((cs.sum:Rat)-0)=_
  rw[show(cs.sum:Rat)-0=(cs.sum:Rat) by grind]
def zPb{cs:List Int}(hc:Cl cs){l:List Rat}(h:JL .even (ones cs) cs l):JL .half [] cs (l.map (· * hf)++(l.map (· * hf)).reverse.map fun x=>(cs.sum:Rat)-x):=by
 have c1:Cn (Jt .half [] cs) (l.map (· * hf)):=zIJ (fun a b k=>zOP hc k) h.cn
 have c2:Cn (Jt .half [] cs) ((l.map (· * hf)).reverse.map fun x=>(cs.sum:Rat)-x):=zJR (fun a b k=>zML (w:=.half) (ws:=[]) rfl hc k) c1
 have s0:(0:Rat)<=(cs.sum:Rat):=by exact_mod_cast hc.sum.1
 have hh:hf+hf=1:=by rw[jT];grind
 have h0:(0:Rat)<=hf:=by rw[jT];grind
 have m0:=Y0 s0 h0;refine⟨zIS c1 c2 fun x y hx hy=>?_,?_,?_⟩
 ·rw[Xy,h.la] at hx
  rw[Yz,List.head?_reverse,Xy,h.la] at hy;cases hx;cases hy
  have e:(cs.sum:Rat)-(cs.sum:Rat)*hf=(cs.sum:Rat)*hf:=by
   generalize (cs.sum:Rat)=S at *;generalize hf=H at *;grind
  show Jt .half [] cs ((cs.sum:Rat)*hf) ((cs.sum:Rat)-(cs.sum:Rat)*hf)
  rw[e];refine⟨m0,Qg,by grind,fun i hi x x1 x2=>?_⟩
  have:x=(cs.sum:Rat)*hf:=by grind
  subst this;grind
 ·cases l with
  | nil=>cases h.hd
  | cons a l=>
   cases h.hd
   show some ((0:Rat)*hf)=some 0
   rw[Wc]
 ·have ne:((l.map (· * hf)).reverse.map fun x=>(cs.sum:Rat)-x).getLast?=some (cs.sum:Rat):=by
   rw[Xy,Wv,Yz,h.hd];show some ((cs.sum:Rat)-0*hf)=_
   rw[show(cs.sum:Rat)-0*hf=(cs.sum:Rat) by grind]
  rw[List.getLast?_append,ne];rfl
def zNY{w:Wy}{ws cs:List Int}(hc:Cl cs){l:List Rat}(h:JL w ws cs l)(h2:2<=l.length)(d:Jd cs l):∀ x∈l,Sz 300 x:=fun x hx=>by
 obtain⟨b0,b1⟩:=zNz h.cn h2 x hx;obtain⟨B,B0,B1,dn⟩:=d.2 x hx;exact zSv dn B0 ⋯ b0 b1 hc.sum.2
def zPn{w:Wy}{ws cs:List Int}{l:List Rat}(h:JL w ws cs l):∃ t,l=0::t:=by
 cases l with
 | nil=>cases h.hd
 | cons a t=>cases h.hd;exact⟨t,rfl⟩
section
variable{n:Nat}{ws cs:List Int}{wd cd e:D}
def zQn(sc:Sq cd cs)(hc:Cl cs):bI (n+1) [.str (Str.ofString "row"),e,cd]=.ok (.f ((rj cs 0).map dq)):=by
 show bZ (bI n) _=_
 unfold bZ;erw[sc.sum,bR,zBO sc hc];symm
def zMJ(sw:Sq wd ws)(sc:Sq cd cs)(h:Wt ws cs)(hc:Cl cs):∃ ls:List Rat,bI (n+1) [.str (Str.ofString "even"),wd,cd]=.ok (.f (((0::ls).map (QQ ws cs)).map dq))/\ls.Pairwise (·<=·)/\ls.Perm ((List.range cs.length).map (lv ws cs))/\QQ ws cs 0=0:=by
 obtain⟨ls,e1,e2,e3,e4⟩:=pU sw sc h hc;refine⟨ls,?_,e2,e3,e4⟩
 show bZ (bI n) _=_
 unfold bZ;erw[sc.sum,bR,zTT,e1];symm
def zRB(sc:Sq cd cs):bI (n+1) [.str (Str.ofString "part"),e,cd]=.ok (.f ([0,(cs.sum:Rat)].map dq)):=by
 show bZ (bI n) _=_
 unfold bZ;erw[sc.sum,bR,zTw,zTy];symm
def zSb(sc:Sq cd cs)(hc:Cl cs):∃ ls:List Rat,bI (n+1) [.str (Str.ofString "half"),e,cd]=.ok (.f ((((0::ls).map (QQ (ones cs) cs)).map (· * hf)++(((0::ls).map (QQ (ones cs) cs)).map (· * hf)).reverse.map fun x=>(cs.sum:Rat)-x).map dq))/\ls.Pairwise (·<=·)/\ls.Perm ((List.range cs.length).map (lv (ones cs) cs))/\QQ (ones cs) cs 0=0:=by
 obtain⟨ls,e1,e2,e3,e4⟩:=pU (wd:=.lst ((ones cs).map D.int)) (.inl rfl) sc (fG cs) hc;have hi:=hc.hi;have sm:=hc.sum;have W:=fG cs;have jl:=zPp W hc e2 e3 e4;have ll:((0::ls).map (QQ (ones cs) cs)).length=cs.length+1:=by rw[Qe,Qn,e3.length_eq,Qe,Q2]
 have bd:=zNz jl.cn (by rw[ll];have:=hc.lo;omega)
 have dn:=zOI W hc e2 e3;refine⟨ls,?_,e2,e3,e4⟩
 generalize (0::ls).map (QQ (ones cs) cs)=l at *
 have zl:∀ x∈l,Sz 134 x:=fun x hx=>by
  obtain⟨B,B0,B1,d⟩:=dn x hx;exact d.sz (a:=104) (b:=30) B0 ⋯ (bd x hx).1 (bd x hx).2 sm.2
 have eo:(ones cs).map D.int=List.replicate cs.length (.int 1):=by unfold ones;rw[List.map_replicate]
 rw[eo] at e1;have hh:=zQD;unfold d_HALF at hh;show bZ (bI n) _=_
 unfold bZ;erw[sc.sum,bR,zSI,zSE,zTe,sc.len,zFO ⋯,e1];symm
 rw[eX (u:=dq) (g:=fun x=>dq (x*hf)) ⋯ (fun x hx=>by
  symm;rw[hh,nR (zl x hx) zHp ∅]
  symm)]
 symm;have lm:l.map (fun x=>dq (x*hf))=(l.map (· * hf)).map dq:=by rw[Qw];rfl
 rw[lm,sP (S:=cs.sum) (by rw[Qe];omega) (fun x hx=>by
  obtain⟨y,hy,rfl⟩:=Qm.mp hx
  exact((zl y hy).mul zHp).mono ∅) ⋯]
 symm;rw[Jk (by simp only[Vo,Qe];omega),Q9];symm
end
def SzQ(a b:Nat)(p:Pt):Prop:=Sz a p.1/\Sz b p.2
def zCj{a b c:Pt}{n m:Nat}(ha:SzQ n m a)(hb:SzQ n m b)(hc:SzQ n m c)(h:2*n+2*m+2<=8999):hZ [dp a,dp b,dp c]=.ok (.v (.bl (btw a b c))):=by
 unfold hZ;erw[eP hb.2 ha.2 ⋯,eP hc.2 hb.2 ⋯,eP hb.1 ha.1 ⋯,eP hc.1 hb.1 ⋯,nR (hb.2.sub ha.2) (hc.1.sub hb.1) ⋯,nR (hc.2.sub hb.2) (hb.1.sub ha.1) ⋯];symm;rfl
def zCv{d:D}{ps:List Pt}{n m:Nat}(hd:d=.lst (ps.map dp)∨d=.tup (ps.map dp))(hl:ps.length<=100000)(hs:∀ p∈ps,SzQ n m p)(hn:2*n+2*m+2<=8999)(hk:Ok ps):iB [d]=.ok (.v .non):=by
 obtain⟨hh,hp⟩:=hk;have ln:lM [d]=.ok (.int (ps.length:Int)):=by rcases hd with rfl | rfl<;>simp[bLen_l,bLen_t]
 have ix:∀(i:Int)(k:Nat)(a:Pt),i=(k:Int)->ps[k]?=some a->oIx d (.int i)=.ok (dp a):=by
  intro i k a hi ha;subst hi;rcases hd with rfl | rfl
  ·exact qV ⋯ (by simpa using ha)
  ·exact wE ⋯ (by simpa using ha)
 clear hd
 have hpos:0<ps.length:=by cases ps with
  | nil=>cases hh
  | cons a r=>exact V0 _
 have h0:ps[0]?=some (0,0):=by rw[<-Xw];exact hh
 unfold iB;erw[ln,Jj ⋯,ix 0 0 _ rfl h0,ln,zPC ⋯ ⋯ ⋯ ⋯];symm;refine oY (Q:=fun r=>r=Res.ok (Rt.v D.non)) (fun i ρ=>∃ a b c,ρ=[.val d,a,b,c]) ⟨_,_,_,rfl⟩ ?_ ?_
 ·rintro i e ρ hd ⟨a,b,c,rfl⟩
  obtain⟨hi,rfl⟩:=zKj hd;have h1:ps[i]?=some ps[i]:=Qq _;have h2:ps[i+1]?=some ps[i+1]:=Qq _;have z1:=hs _ (Qj h1);have z2:=hs _ (Qj h2);have za:=kW hp (Vy i) h1 h2;generalize ps[i]=u at h1 z1 za;generalize ps[i+1]=v at h2 z2 za;erw[ix _ i _ ⋯ h1,ix _ (i+1) _ ⋯ h2,jY z1.1 z2.1 ⋯,J6 za.1,jY z2.2 z1.2 ⋯,Jj (by rw[V6];exact za.2)];symm;exact⟨_,rfl,_,_,_,rfl⟩
 ·rintro ρ' ⟨a,b,c,rfl⟩
  rfl
def qB{d:D}{ps:List Pt}{n m:Nat}(hd:d=.lst (ps.map dp)∨d=.tup (ps.map dp))(hl:ps.length<=100000)(hs:∀ p∈ps,SzQ n m p)(hn:2*n+2*m+2<=8999)(hk:Ok ps):eS [d]=.ok (.v (.tup ((mH ps).map dp))):=by
 have sq:zKp d=.ok (ps.map dp):=by rcases hd with rfl | rfl<;>rfl
 unfold eS;erw[zCv hd hl hs hn hk,sq];symm;refine oY (Q:=fun r=>r.bind fin=.ok (.v (.tup ((mH ps).map dp)))) (fun i ρ=>∃ a,ρ=[.val d,.own (((ps.take i).foldl push []).reverse.map dp),a]/\(∀ p∈(ps.take i).foldl push [],SzQ n m p)/\((ps.take i).foldl push []).length<=i) ⟨_,rfl,fun p hp=>by(rw[Ug] at hp;cases hp),by rw[Ug];exact Qf _⟩ ?_ ?_
 ·rintro i e ρ hd ⟨a,rfl,hz,hlen⟩
  rw[Qu] at hd
  cases hq:ps[i]? with
  | none=>rw[hq] at hd;cases hd
  | some p=>
   rw[hq] at hd;cases hd;have hi:i<ps.length:=(Qy.mp hq).1;have zp:=hs _ (Qj hq);rw[kY hq,List.foldl_append,U1,List.foldl_nil];generalize (ps.take i).foldl push []=s at hz hlen;generalize hK:(vC:Sv)=K;symm;by_cases hc:1<s.length
   case neg=>
    rw[Vo,Jj ⋯];subst hK;symm;rw[Jk (by rw[Vo];omega),zGU hc];exact⟨_,rfl,.val (dp p),by simp,by intro q hq;rcases Qc.mp hq with rfl | hq;exact zp;exact hz q hq,by simp;omega⟩
   match s,hz,hlen,hc with
   | [],_,_,hc=>exact absurd hc ∅
   | [b],_,_,hc=>exact absurd hc (by simp)
   | b::a::s,hz,hlen,_=>
    have za:=hz a (Qd _ Qb);have zb:=hz b Qb;have zs:∀ q∈s,SzQ n m q:=fun q hq=>hz q (Qd _ (Qd _ hq))
    have e1:((b::a::s).reverse)[(b::a::s).reverse.length-1]?=some b:=by simp
    have e2:((b::a::s).reverse)[(b::a::s).reverse.length-2]?=some a:=by simp
    rw[Qn,Qn] at hlen;have hll:(b::a::s).reverse.length=s.length+2:=by simp
    rw[hll];rw[J6 ⋯];erw[zAO (i:=-2) (k:=2) rfl ∅ (by rw[hll];omega) e2,zAO (i:=-1) (k:=1) rfl ∅ (by rw[hll];omega) e1,zCj za zb zp hn];symm
    cases hb:btw a b p with
    | false=>
     subst hK;symm;rw[hll,Jk ⋯];refine⟨_,rfl,.val (dp p),?_,?_,?_⟩
     ·rw[push,hb]
      simp
     ·rw[push,hb]
      intro q hq;rcases Qc.mp hq with rfl | hq
      ·exact zp
      ·exact hz q hq
     ·rw[push,hb]
      simp;omega
    | true=>
     subst hK;symm;rw[hll,Jl ⋯];erw[Jk (by simp;omega)];refine⟨_,rfl,.val (dp p),?_,?_,?_⟩
     ·rw[push,hb]
      simp
     ·rw[push,hb]
      intro q hq;rcases Qc.mp hq with rfl | hq
      ·exact zp
      ·exact hz q (Qd _ hq)
     ·rw[push,hb]
      simp;omega
 ·rintro ρ' ⟨a,rfl,_,_⟩
  rw[Qe,Vx];symm;rfl
def zRZ{w:Wy}{ws cs:List Int}{wd cd:D}{l:List Rat}(hw:w=.back∨w=.lack)(sc:Sq cd cs)(hc:Cl cs)(hl:l.length<=30)(hz:∀ x∈l,Sz 300 x)(e:bI 1 [.str w.con.s,wd,cd]=.ok (.f (l.map dq))):bI 2 [.str w.s,wd,cd]=.ok (.f ((l.reverse.map fun x=>(cs.sum:Rat)-x).map dq)):=by
 have sm:=hc.sum;have c:=zJQ w;show bZ (bI 1) _=_
 unfold bZ;erw[sc.sum,bR];symm;rcases hw with rfl | rfl
 ·rw[show Wy.back.s=Str.ofString "back" from rfl,zTW]
  erw[zTO,zTC,zTR];symm;rw[show Str.ofString "back" = Wy.back.s from rfl,c];erw[e,sP ⋯ hz ⋯];symm
 ·rw[show Wy.lack.s=Str.ofString "lack" from rfl,zTE]
  erw[zTP,zTN,zTz];symm;rw[show Str.ofString "lack" = Wy.lack.s from rfl,c];erw[e,sP ⋯ hz ⋯];symm
def zMM{cs:List Int}{l:List Rat}(h:Jd cs l):Jd cs (l.reverse.map fun x=>(cs.sum:Rat)-x):=by
 refine⟨by rw[Qe,Vo];exact h.1,fun x hx=>?_⟩
 obtain⟨y,hy,rfl⟩:=Qm.mp hx;obtain⟨B,b0,b1,d⟩:=h.2 y (Us.mp hy);exact⟨B,b0,b1,(Dn.int B cs.sum).sub d⟩
def zKV{w:Wy}{ws cs:List Int}{wd cd:D}(sw:Sq wd ws)(sc:Sq cd cs)(hw:w.due ws cs)(hc:Cl cs):∃ l:List Rat,bI 2 [.str w.s,wd,cd]=.ok (.f (l.map dq))/\JL w ws cs l/\Jd cs l/\2<=l.length:=by
 have hi:=hc.hi;have lo:=hc.lo
 have row:JL .row [] cs (rj cs 0)/\Jd cs (rj cs 0)/\2<=(rj cs 0).length:=by
  obtain⟨l1,l2⟩:=zMI cs 0;refine⟨⟨zRp hc,?_,by rw[l2,Ys]⟩,⟨⋯,fun x hx=>?_⟩,⋯⟩
  ·obtain⟨t,et⟩:=zDn cs 0
   rw[et];rfl
  ·obtain⟨k,rfl⟩:=zMg cs 0 x hx
   exact⟨1,∅,∅,Dn.int 1 k⟩
 have evn:∀ ls:List Rat,Wt ws cs->ls.Pairwise (·<=·)->ls.Perm ((List.range cs.length).map (lv ws cs))->QQ ws cs 0=0->JL .even ws cs ((0::ls).map (QQ ws cs))/\Jd cs ((0::ls).map (QQ ws cs))/\2<=((0::ls).map (QQ ws cs)).length:=fun ls W e2 e3 e4=>by
  have ll:((0::ls).map (QQ ws cs)).length=cs.length+1:=by rw[Qe,Qn,e3.length_eq,Qe,Q2]
  refine⟨zPp W hc e2 e3 e4,⟨⋯,fun x hx=>?_⟩,⋯⟩
  obtain⟨B,b0,b1,d⟩:=zOI W hc e2 e3 x hx;exact⟨B,b0,⋯,d⟩
 cases w with
 | row=>
  have e:ws=[]:=hw;subst e;exact⟨_,zQn (n:=1) (e:=wd) sc hc,row⟩
 | part=>
  have e:ws=[]:=hw;subst e;refine⟨_,zRB (n:=1) (e:=wd) sc,⟨zNy hc,rfl,rfl⟩,⟨by show 2<=30;decide,fun x hx=>?_⟩,Qf 2⟩
  rcases Qc.mp hx with rfl | hx
  ·exact⟨1,∅,∅,Dn.zero 1⟩
  ·rw[Qr.mp hx];exact⟨1,∅,∅,Dn.int 1 _⟩
 | even=>
  obtain⟨ls,e1,e2,e3,e4⟩:=zMJ (n:=1) sw sc hw hc;exact⟨_,e1,evn ls hw e2 e3 e4⟩
 | back=>
  have e:ws=[]:=hw;subst e;have k:=zRZ (w:=.back) (ws:=[]) (.inl rfl) sc hc row.2.1.1 (zNY hc row.1 row.2.2 row.2.1) (zQn (n:=0) (e:=wd) sc hc);exact⟨_,k,zMT (w:=.row) rfl hc row.1,zMM row.2.1,by rw[Qe,Vo];exact row.2.2⟩
 | lack=>
  obtain⟨ls,e1,e2,e3,e4⟩:=zMJ (n:=0) sw sc hw hc;obtain⟨r1,r2,r3⟩:=evn ls hw e2 e3 e4;have k:=zRZ (w:=.lack) (ws:=ws) (.inr rfl) sc hc r2.1 (zNY hc r1 r3 r2) e1;exact⟨_,k,zMT (w:=.even) hw hc r1,zMM r2,by rw[Qe,Vo];exact r3⟩
 | half=>
  have e:ws=[]:=hw;subst e;obtain⟨ls,e1,e2,e3,e4⟩:=zSb (n:=1) (e:=wd) sc hc;have W:=fG cs;have ll:((0::ls).map (QQ (ones cs) cs)).length=cs.length+1:=by rw[Qe,Qn,e3.length_eq,Qe,Q2]
  have jl:=zPp W hc e2 e3 e4;have dn:=zOI W hc e2 e3;generalize (0::ls).map (QQ (ones cs) cs)=l at *;refine⟨_,e1,zPb hc jl,⟨?_,fun x hx=>?_⟩,?_⟩
  ·simp only[Qi,Qe,Vo];omega
  ·have early:∀ y∈l.map (· * hf),∃ B:Int,0<B/\B<=2*10^6/\Dn B y:=fun y hy=>by
    obtain⟨z,hz,rfl⟩:=Qm.mp hy;obtain⟨B,b0,b1,d⟩:=dn z hz;exact⟨B*2,⋯,⋯,zKb d⟩
   rcases Q8.mp hx with hx | hx
   ·exact early x hx
   ·obtain⟨y,hy,rfl⟩:=Qm.mp hx
    obtain⟨B,b0,b1,d⟩:=early y (Us.mp hy);exact⟨B,b0,b1,(Dn.int B cs.sum).sub d⟩
  ·simp only[Qi,Qe,Vo];omega
def zFK{r:Type}:∀ l:List r,l.zip l=l.map fun x=>(x,x)
 | []=>rfl
 | a::l=>by rw[List.zip_cons_cons,zFK l,Qo]
def zDI{w:Wy}{ws cs:List Int}{wd cd:D}(sw:Sq wd ws)(sc:Sq cd cs)(hw:w.due ws cs)(hc:Cl cs):∃ J:List Rat,gG [.str w.s,wd,cd]=.ok (.f ((List.range cs.length).map fun i=>.tup ((wln w ws cs J i).map dp)))/\JS w ws cs J/\J.length<=30/\(∀ x∈J,Sz 300 x/\∀ i,i<cs.length->Sz 670 (FF w ws cs x i))/\Jd cs J:=by
 obtain⟨l,e1,jl,jd,l2⟩:=zKV sw sc hw hc;have zl:=zNY hc jl l2 jd;obtain⟨t,rfl⟩:=zPn jl;have js:=jl.js;have hi:=hc.hi;have lt:=jd.1;rw[Qn] at lt;have e2:=rH (l:=t) ⋯ zl
 have sub:=zJo t 0;have ln:(0::ddR 0 t).length<=30:=by rw[Qn];have:=sub.length_le;omega
 have zj:∀ x∈0::ddR 0 t,Sz 300 x:=fun x hx=>zl x (by
  rcases Qc.mp hx with rfl | hx
  ·exact Qb
  ·exact Qd _ (sub.subset hx))
 have dj:Jd cs (0::ddR 0 t):=⟨ln,fun x hx=>jd.2 x (by
  rcases Qc.mp hx with rfl | hx
  ·exact Qb
  ·exact Qd _ (sub.subset hx))⟩
 generalize 0::ddR 0 t=J at *;have bd:=js.bd
 have rd:∀ q∈J,aN 2 [.str w.s,wd,cd,dq q]=.ok (.f (((List.range cs.length).map (FF w ws cs q)).map dq))/\∀ i,i<cs.length->Sz 670 (FF w ws cs q i):=fun q hq=>by
  have ha:Haul 300 q cs.sum:=⟨(bd q hq).1,(bd q hq).2,zj q hq⟩;obtain⟨f,ef,af⟩:=zCh sw sc ∅ hw hc ha
  have df:=zPs hw hc ha af;have eq:∀ i,i<cs.length->f i=FF w ws cs q i:=fun i hi=>uR hw hc (bd q hq).1 (bd q hq).2 af hi
  refine⟨by rw[ef,Vp (g:=FF w ws cs q) fun i hi=>eq i (Qk.mp hi)],fun i hi=>by rw[<-eq i hi];exact(df.bd i hi).2.2⟩
 refine⟨J,?_,js,ln,fun x hx=>⟨zj x hx,(rd x hx).2⟩,dj⟩
 unfold gG;erw[zFg sw sc hw hc,e1];symm;rw[Qo] at e2;rw[e2];symm
 rw[eX (u:=dq) (g:=fun q=>D.lst (((List.range cs.length).map (FF w ws cs q)).map dq)) ⋯ (fun q hq=>by
  erw[(rd q hq).1]
  symm)]
 erw[sc.len,zAP ⋯ ⋯,show rng 0 ((cs.length:Int)).toNat 1=(List.range cs.length).map fun j:Nat=>D.int (j:Int) by unfold rng;rw[Xf];exact Vp fun j _=>by rw[show(0:Int)+(j:Int)*1=(j:Int) by omega]]
 rw[eX (u:=fun j:Nat=>D.int (j:Int)) (g:=fun i=>D.tup ((wln w ws cs J i).map dp)) (by rw[Q2];omega) (fun i hi=>by
  have hi':=Qk.mp hi
  have fl:nL [.lst (J.map dq),.lst (J.map fun q=>D.lst (((List.range cs.length).map (FF w ws cs q)).map dq)),.int (i:Int)]=.ok (.v (.tup ((wln w ws cs J i).map dp))):=by
   obtain⟨ok,la⟩:=zFn hw hc js hi';unfold nL;erw[pD rfl rfl];symm
   rw[mW (u:=dq) (v:=fun q=>D.lst (((List.range cs.length).map (FF w ws cs q)).map dq)) (g:=fun x y=>dp (x,FF w ws cs y i)) ⋯ (fun p hp=>by
    have e:oIx (.lst (((List.range cs.length).map (FF w ws cs p.2)).map dq)) (.int (i:Int))=.ok (dq (FF w ws cs p.2 i)):=by
     rw[Qw];exact qV (Xi i) (show(List.range cs.length)[i]?=some i from Xa hi')
    erw[e]
    symm)]
   symm;rw[zFK,Qw,show(J.map ((fun p:Rat×Rat=>dp (p.1,FF w ws cs p.2 i)) ∘ fun x=>(x,x)))=(jpt w ws cs J i).map dp by unfold jpt;rw[Qw];rfl]
   rw[qB (n:=300) (m:=670) (.inl rfl) (by unfold jpt;rw[Qe];omega) (fun p hp=>by
    unfold jpt at hp;obtain⟨q,hq,rfl⟩:=Qm.mp hp
    exact⟨zj q hq,(rd q hq).2 i hi'⟩) ∅ ok]
   symm;rfl
  erw[fl]
  symm)]
 symm
def zEV{ps:List Pt}{p:Pt}(h:ps.getLast?=some p):lG [.tup (ps.map dp)]=.ok (.v (dq p.1)):=by
 have h0:0<ps.length:=by cases ps with
  | nil=>cases h
  | cons a r=>exact V0 _
 unfold lG;erw[zIN (i:=-1) (k:=1) rfl ∅ h0 (by rw[<-Vn];exact h)];symm
def zLr{ps:List Pt}{p:Pt}(h:ps.getLast?=some p):qA [.tup (ps.map dp)]=.ok (.v (dq p.2)):=by
 have h0:0<ps.length:=by cases ps with
  | nil=>cases h
  | cons a r=>exact V0 _
 unfold qA;erw[zIN (i:=-1) (k:=1) rfl ∅ h0 (by rw[<-Vn];exact h)];symm
def zJM(b:Bool)(p:Pt):oIx (dp p) (.int (axi b))=.ok (dq (ax b p)):=by cases b<;>rfl
def zFP(b:Bool)(p:Pt):oIx (dp p) (.int (1-axi b))=.ok (dq (ax (!b) p)):=by cases b<;>rfl
def zJq{x l:Rat}{m n:Nat}(hx:Sz m x)(hl:Sz n l)(h:m+n<=99990):dS [dq x,dq l]=.ok (.v (.bl (decide (x<0) || decide (l<x)))):=by
 unfold dS;erw[jY (n:=1) hx ⟨∅,∅⟩ ⋯];symm;by_cases c:x<0
 ·rw[J6 c]
  symm
 ·rw[Jj c]
  erw[jY hl hx ⋯];symm
def zGD{x l:Rat}{m n:Nat}(hx:Sz m x)(hl:Sz n l)(h:m+n<=99990)(h0:0<=x)(h1:x<=l):bE [dq x,dq l]=.ok (.v .non):=by
 unfold bE;symm;rw[zJq hx hl h,Jj (by grind),Jj (by grind)];symm
def tW{ps:List Pt}{n m:Nat}(b:Bool){y:Rat}(h0:0<ps.length)(hl:ps.length<=100000)(hs:∀ p∈ps,Sz n (ax b p))(hy:Sz m y)(hn:n+m<=99999)(hp:ps.Pairwise asc):
  ∃ k:Nat,dH [.tup (ps.map dp),.int (axi b),dq y]=.ok (.v (.int (k:Int)))/\k<ps.length/\(∀ j p,j<k->ps[j]?=some p->ax b p<y)/\(k+1=ps.length∨∃ p,ps[k]?=some p/\y<=ax b p):=by
 unfold dH;symm
 refine zJL (fun ρ=>∃(u v:Nat)(r:Sl),ρ=[.val (.tup (ps.map dp)),.val (.int (axi b)),.val (dq y),.val (.int (u:Int)),.val (.int (v:Int)),r]/\u<=v/\v<ps.length/\(∀ j p,j<u->ps[j]?=some p->ax b p<y)/\(v+1=ps.length∨∃ p,ps[v]?=some p/\y<=ax b p))
  (fun ρ=>(slI 4 ρ-slI 3 ρ).toNat)
  (fun r=>∃ k:Nat,(r.bind (zGX kB)).bind fin=.ok (.v (.int (k:Int)))/\k<ps.length/\(∀ j p,j<k->ps[j]?=some p->ax b p<y)/\(k+1=ps.length∨∃ p,ps[k]?=some p/\y<=ax b p))
  ⟨0,ps.length-1,_,by rw[show((ps.length-1:Nat):Int)=(ps.length:Int)-1 by omega];rfl,⋯,⋯,fun j p h=>absurd h ⋯,.inl ⋯⟩ ?_
 rintro ρ ⟨u,v,r,rfl,h1,h2,h3,h4⟩
 by_cases c:u<v
 ·refine .inr ⟨?_,?_⟩
  ·symm
   rw[J6 ⋯]
  ·obtain⟨mid,e,b1,b2⟩:∃ mid:Nat,((u:Int)+(v:Int)) / 2=(mid:Int)/\u<=mid/\mid<v:=⟨(u+v) / 2,⋯,⋯,⋯⟩
   have hm:mid<ps.length:=Nat.lt_trans b2 h2;have hq:ps[mid]?=some ps[mid]:=Qq hm;have hz:=hs _ (Qj hq);generalize ps[mid]=q at hq hz;symm;rw[e,wE (Xi _) (by rw[Xf];exact hq)];erw[zJM,jY hz hy hn];symm;by_cases d:ax b q<y
   ·rw[J6 d]
    symm;refine⟨_,rfl,⟨mid+1,v,_,rfl,b2,h2,?_,h4⟩,?_⟩
    ·intro j p hj hpj
     have:=kK hp b (Nat.le_of_lt_succ hj) hpj hq
     grind
    ·show((v:Int)-((mid:Int)+1)).toNat<((v:Int)-(u:Int)).toNat
     omega
   ·rw[Jj d]
    symm;refine⟨_,rfl,⟨u,mid,_,rfl,b1,hm,h3,.inr ⟨q,hq,by grind⟩⟩,?_⟩
    show((mid:Int)-(u:Int)).toNat<((v:Int)-(u:Int)).toNat
    omega
 ·have e:u=v:=⋯
  subst e;refine .inl ⟨?_,u,?_,h2,h3,h4⟩
  ·symm
   rw[Jj ⋯]
  ·symm
def zRa{ps:List Pt}{n l m:Nat}(b:Bool){y:Rat}(h0:0<ps.length)(hl:ps.length<=100000)(hs:∀ p∈ps,Sz n (ax b p)/\Sz l (ax (!b) p))(hy:Sz m y)(hn:m+3*n+3*l+4<=8999)(hp:ps.Pairwise asc)(hlo:∀ p,ps[0]?=some p->ax b p<=y)(hhi:∀ p,ps.getLast?=some p->y<=ax b p):
  ∃ r:Rat,wA [.tup (ps.map dp),.int (axi b),dq y]=.ok (.v (dq r))/\∃(k:Nat)(q:Pt),ps[k]?=some q/\(∀ j p,j<k->ps[j]?=some p->ax b p<y)/\
   ((ax b q=y/\r=ax (!b) q)∨(0<k/\y<ax b q/\∃ p,ps[k-1]?=some p/\ax b p<y/\r=ax (!b) p+(y-ax b p) / (ax b q-ax b p)*(ax (!b) q-ax (!b) p))):=by
 obtain⟨k,e,hk,h1,h2⟩:=tW b h0 hl (fun p h=>(hs p h).1) hy ⋯ hp
 have hq:ps[k]?=some ps[k]:=Qq hk;have zq:=hs _ (Qj hq);generalize ps[k]=q at hq zq
 have hyq:y<=ax b q:=by
  rcases h2 with h2 | ⟨p,hp,h2⟩
  ·refine hhi q ?_
   rw[Vn,show ps.length-1=k by omega];exact hq
  ·rw[hq] at hp
   cases hp;exact h2
 unfold wA;erw[e,wE ⋯ (by rw[Xf];exact hq),zJM];symm;by_cases c:ax b q=y
 ·rw[J6 c]
  erw[zFP];symm;exact⟨_,rfl,k,q,hq,h1,.inl ⟨c,rfl⟩⟩
 ·have c2:y<ax b q:=by grind
  have k0:0<k:=by
   rcases Wf k with z | z
   ·subst z
    have:=hlo q hq
    grind
   ·exact z
  have hp1:ps[k-1]?=some ps[k-1]:=Qq _;have zp:=hs _ (Qj hp1);generalize ps[k-1]=p at hp1 zp;have lp:=h1 _ p (show k-1<k by omega) hp1
  have nz:ax b q-ax b p≠0:=by grind
  rw[Jj c];erw[wE ⋯ (by rw[show((k:Int)-1).toNat=k-1 by omega];exact hp1),zJM,eP hy (zp.1) ⋯,zJM,zJM,eP (zq.1) (zp.1) ⋯];symm;have z1:=hy.sub (zp.1);have z2:=(zq.1).sub (zp.1);have z3:=z1.div z2 nz;have z4:=(zq.2).sub (zp.2);rw[zJz z1 z2 nz ⋯];erw[zFP,zFP,zFP,eP (zq.2) (zp.2) ⋯,nR z3 z4 ⋯,zCO (zp.2) (z3.mul z4) ⋯];symm;exact⟨_,rfl,k,q,hq,h1,.inr ⟨k0,c2,p,hp1,lp,rfl⟩⟩
def zAV{ps:List Pt}{a b m:Nat}{x:Rat}{e:Pt}(hl:ps.length<=100000)(hs:∀ p∈ps,SzQ a b p)(hx:Sz m x)(hn:m+3*a+3*b+4<=8999)(hk:Ok ps)(he:ps.getLast?=some e)(h0:0<=x)(h1:x<=e.1):
  jR [.tup (ps.map dp),dq x]=.ok (.v (dq (aP ps x))):=by
 obtain⟨hh,hp⟩:=hk
 have hpos:0<ps.length:=by cases ps with
  | nil=>cases hh
  | cons a r=>exact V0 _
 have ze:SzQ a b e:=hs e (Wd he)
 obtain⟨r,e1,k,q,hq,hj,h⟩:=zRa false hpos hl (n:=a) (l:=b) hs hx hn hp (fun p hp=>by
  rw[<-Xw,hh] at hp;cases hp;exact h0) (fun p hp=>by rw[he] at hp;cases hp;exact h1)
 have er:r=aP ps x:=by
  rcases h with⟨c,rfl⟩ | ⟨k0,c,p,hp1,lp,rfl⟩
  ·have:q.1=x:=c
   rw[<-this];exact(bN hp hq).symm
  ·exact(cK hp hp1 (by rw[show k-1+1=k by omega];exact hq) (Qh lp) (Qh c)).symm
 subst er;unfold jR;erw[zEV he,zGD hx ze.1 ⋯ h0 h1];symm;rw[show(0:Int)=axi false from rfl,e1];symm
def uC{ps:List Pt}(hl:ps.length<=100000):fX [.tup (ps.map dp)]=.ok (.f ((ps.map Prod.fst).map dq)):=by
 unfold fX;erw[zCJ (h:=fun d=>match d with | .tup [x,_]=>x | _=>.non) (by rw[Qe];omega) ?_]
 ·symm
  rw[Qw,Qw];rfl
 ·intro d hd
  obtain⟨p,_,rfl⟩:=Qm.mp hd;symm;rfl
structure Mg (A B:List Rat) (i s:Nat) (C:List Rat):Prop where
 asc:C.Pairwise (· < ·)
 mem:∀ y,y∈C ↔ y∈A.take i∨y∈B.take s
 below:∀(j:Nat)(b:Rat),s<=j->B[j]?=some b->∀ c∈C,c<b
 under:∀(j:Nat)(a:Rat),i<=j->A[j]?=some a->∀ c∈C,c<a
 le:s<=B.length
 len:C.length<=i+s
def zFA{C:List Rat}{x:Rat}(h:C.Pairwise (· < ·))(hx:∀ c∈C,c<x):(C++[x]).Pairwise (· < ·):=by
 refine Ww.mpr ⟨h,Ur _ _,fun a ha b hb=>?_⟩
 rcases Qc.mp hb with rfl | hb
 ·exact hx a ha
 ·cases hb
def zCa{A:List Rat}(h:A.Pairwise (· < ·)){i j:Nat}{a b:Rat}(l:i<j)(ha:A[i]?=some a)(hb:A[j]?=some b):a<b:=by
 obtain⟨hi,rfl⟩:=Qy.mp ha;obtain⟨hj,rfl⟩:=Qy.mp hb;exact Y9.mp h i j hi hj l
def fV{A:List Rat}{i:Nat}{a y:Rat}(h:A[i]?=some a):y∈A.take (i+1) ↔ y∈A.take i∨y=a:=by
 rw[kY h,Q8,Qr]
def zEE{A B:List Rat}{m:Nat}(ha:A.Pairwise (· < ·))(hb:B.Pairwise (· < ·))(la:A.length<=100000)(lb:B.length<=100000)(za:∀ x∈A,Sz m x)(zb:∀ x∈B,Sz m x)(hm:m<=40000):
  ∃ C:List Rat,lY [.lst (A.map dq),.lst (B.map dq)]=.ok (.f (C.map dq))/\C.Pairwise (· < ·)/\(∀ y,y∈C ↔ y∈A∨y∈B)/\C.length<=A.length+B.length:=by
 have ix:∀(k:Nat)(a:Rat),B[k]?=some a->oIx (.lst (B.map dq)) (.int (k:Int))=.ok (dq a):=by
  intro k a h;exact qV ⋯ (by simpa using h)
 unfold lY;symm
 refine oY (Q:=fun r=>∃ C:List Rat,r.bind fin=.ok (.f (C.map dq))/\C.Pairwise (· < ·)/\(∀ y,y∈C ↔ y∈A∨y∈B)/\C.length<=A.length+B.length)
  (fun i ρ=>∃(s:Nat)(C:List Rat)(a:Sl),ρ=[.val (.lst (A.map dq)),.val (.lst (B.map dq)),.own (C.map dq),.val (.int (s:Int)),a]/\Mg A B i s C)
  ⟨0,[],_,rfl,⟨List.Pairwise.nil,by simp,by simp,by simp,⋯,by simp⟩⟩ ?_ ?_
 ·rintro i d ρ hd ⟨s,C,a,rfl,g⟩
  rw[Qu] at hd
  cases hq:A[i]? with
  | none=>rw[hq] at hd;cases hd
  | some x=>
   rw[hq] at hd;cases hd;have hi:i<A.length:=(Qy.mp hq).1;have zx:=za x (Qj hq);symm
   refine zJL (fun ρ=>∃(s:Nat)(C:List Rat),ρ=[.val (.lst (A.map dq)),.val (.lst (B.map dq)),.own (C.map dq),.val (.int (s:Int)),.val (dq x)]/\Mg A B i s C)
    (fun ρ=>B.length-(slI 3 ρ).toNat)
    (fun r=>∃ ρ2,r.bind (zGX rK)=.ok (.nx ρ2)/\∃(s:Nat)(C:List Rat)(a:Sl),ρ2=[.val (.lst (A.map dq)),.val (.lst (B.map dq)),.own (C.map dq),.val (.int (s:Int)),a]/\Mg A B (i+1) s C) ⟨s,C,rfl,g⟩ ?_
   rintro ρ ⟨s,C,rfl,g⟩
   have fin1:(s<B.length->∃ b,B[s]?=some b/\¬ b<x)->∃ ρ2,rK [.val (.lst (A.map dq)),.val (.lst (B.map dq)),.own (C.map dq),.val (.int (s:Int)),.val (dq x)]=.ok (.nx ρ2)/\∃(s:Nat)(C:List Rat)(a:Sl),ρ2=[.val (.lst (A.map dq)),.val (.lst (B.map dq)),.own (C.map dq),.val (.int (s:Int)),a]/\Mg A B (i+1) s C:=by
    intro hs
    have base:∀ s':Nat,s'<=B.length->s'<=s+1->(∀ y,(y∈A.take i∨y∈B.take s)∨y=x ↔ y∈A.take (i+1)∨y∈B.take s')->(∀(j:Nat)(b:Rat),s'<=j->B[j]?=some b->x<b/\s<=j)->C.length+1<=i+1+s'->Mg A B (i+1) s' (C++[x]):=by
     intro s' h1 h1' h2 h3 h4;have cx:∀ c∈C,c<x:=g.under i x (Qf _) hq;refine⟨zFA g.asc cx,fun y=>?_,fun j b hj hb' c hc=>?_,fun j a hj ha' c hc=>?_,h1,by rw[Qi];exact h4⟩
     ·rw[Q8,Qr,g.mem y]
      exact h2 y
     ·have h5:=h3 j b hj hb'
      rcases Q8.mp hc with hc | hc
      ·exact g.below j b h5.2 hb' c hc
      ·rw[Qr.mp hc]
       exact h5.1
     ·have h5:=zCa ha (show i<j by omega) hq ha'
      rcases Q8.mp hc with hc | hc
      ·have:=cx c hc
       grind
      ·rw[Qr.mp hc]
       exact h5
    have len:=g.len;have le:=g.le;symm;by_cases c1:s<B.length
    ·obtain⟨b,hb1,hb2⟩:=hs c1
     rw[J6 ⋯];erw[ix s b hb1];symm;by_cases c2:b=x
     ·rw[J6 c2]
      erw[Jk ⋯];refine⟨_,rfl,s+1,C++[x],_,by rw[Q9];rfl,base (s+1) ⋯ ⋯ (fun y=>?_) (fun j b' hj hb'=>?_) ⋯⟩
      ·rw[fV hq,fV hb1,c2]
       constructor
       ·rintro ((h | h) | h)
        ·exact .inl (.inl h)
        ·exact .inr (.inl h)
        ·exact .inl (.inr h)
       ·rintro ((h | h) | (h | h))
        ·exact .inl (.inl h)
        ·exact .inr h
        ·exact .inl (.inr h)
        ·exact .inr h
      ·have:=zCa hb (show s<j by omega) hb1 hb'
       rw[c2] at this;exact⟨this,⋯⟩
     ·rw[Jj c2]
      erw[Jk ⋯];refine⟨_,rfl,s,C++[x],_,by rw[Q9];rfl,base s le ⋯ (fun y=>?_) (fun j b' hj hb'=>?_) ⋯⟩
      ·rw[fV hq]
       grind
      ·rcases Yf hj with l | l
       ·have:=zCa hb l hb1 hb'
        exact⟨by grind,hj⟩
       ·subst l
        rw[hb1] at hb';cases hb'
        exact⟨by grind,hj⟩
    ·rw[Jj ⋯]
     erw[Jk ⋯];refine⟨_,rfl,s,C++[x],_,by rw[Q9];rfl,base s le ⋯ (fun y=>?_) (fun j b' hj hb'=>?_) ⋯⟩
     ·rw[fV hq]
      grind
     ·have:=(Qy.mp hb').1
      omega
   by_cases c1:s<B.length
   ·have hb1:B[s]?=some B[s]:=Qq c1
    have zb1:=zb _ (Qj hb1);generalize B[s]=b at hb1 zb1;by_cases c2:b<x
    ·refine .inr ⟨?_,?_⟩
     ·symm
      rw[J6 ⋯];erw[ix s b hb1];symm;rw[jY zb1 zx ⋯,J6 c2];symm
     ·have len:=g.len
      erw[ix s b hb1,Jk ⋯];symm;refine⟨_,rfl,⟨s+1,C++[b],by rw[Q9];rfl,⟨zFA g.asc (g.below s b (Qf _) hb1),fun y=>?_,fun j b' hj hb' c hc=>?_,fun j a' hj ha' c hc=>?_,c1,by rw[Qi,U2];omega⟩⟩,?_⟩
      ·rw[Q8,Qr,g.mem y,fV hb1]
       grind
      ·have:=zCa hb (show s<j by omega) hb1 hb'
       rcases Q8.mp hc with hc | hc
       ·exact g.below j b' ⋯ hb' c hc
       ·rw[Qr.mp hc]
        exact this
      ·rcases Q8.mp hc with hc | hc
       ·exact g.under j a' hj ha' c hc
       ·rw[Qr.mp hc]
        rcases Yf hj with l | l
        ·have:=zCa ha l hq ha'
         grind
        ·subst l
         rw[hq] at ha';cases ha'
         exact c2
      ·show B.length-(s+1)<B.length-s
       exact Nat.sub_lt_sub_left c1 (Vy s)
    ·refine .inl ⟨?_,?_⟩
     ·symm
      rw[J6 ⋯];erw[ix s b hb1];symm;rw[jY zb1 zx ⋯,Jj c2];symm
     ·exact fin1 fun _=>⟨b,hb1,c2⟩
   ·refine .inl ⟨?_,?_⟩
    ·symm
     rw[Jj ⋯];symm
    ·exact fin1 fun h=>absurd h c1
 ·rintro ρ' ⟨s,C,a,rfl,g⟩
  have len:=g.len;have le:=g.le;rw[Qe] at g len;symm;rw[yV ⋯,<-List.map_drop,Jk (by rw[Qe,Xs];omega)];symm;refine⟨C++B.drop s,by rw[Q9,Xf],?_,fun y=>?_,by rw[Qi,Xs];omega⟩
  ·refine Ww.mpr ⟨g.asc,hb.sublist (List.drop_sublist _ _),fun c hc b hb'=>?_⟩
   obtain⟨j,hj⟩:=Yg.mp hb';rw[Wz] at hj;exact g.below (s+j) b ⋯ hj c hc
  ·rw[Q8,g.mem y,Vx]
   constructor
   ·rintro ((h | h) | h)
    ·exact .inl h
    ·exact .inr (X0 h)
    ·exact .inr (Ut h)
   ·rintro (h | h)
    ·exact .inl (.inl h)
    ·rw[<-Y1 s B,Q8] at h
     rcases h with h | h
     ·exact .inl (.inr h)
     ·exact .inr h
def zLa{ps:List Pt}{a b m:Nat}{y:Rat}{e:Pt}(hl:ps.length<=100000)(hs:∀ p∈ps,SzQ a b p)(hy:Sz m y)(hn:m+3*a+3*b+4<=8999)(hk:Ok ps)(he:ps.getLast?=some e)(h0:0<=y)(h1:y<=e.2):
  ∃ r:Rat,wA [.tup (ps.map dp),.int 1,dq y]=.ok (.v (dq r))/\zFQ ps y r:=by
 have hpos:0<ps.length:=by cases ps with
  | nil=>cases he
  | cons a r=>exact V0 _
 obtain⟨r,e1,k,q,hq,hj,h⟩:=zRa true hpos hl (n:=b) (l:=a) (fun p hp=>⟨(hs p hp).2,(hs p hp).1⟩) hy ⋯ hk.2 (fun p hp=>by rw[<-Xw,hk.1] at hp;cases hp;exact h0) (fun p hp=>by rw[he] at hp;cases hp;exact h1)
 exact⟨r,e1,k,q,hq,hj,h⟩
def zLT{ps qs:List Pt}{e f:Pt}(a b c d n m z:Nat)(hp:Ok ps)(hq:Ok qs)(he:ps.getLast?=some e)(hf:qs.getLast?=some f)(hL:e.1=f.2)(lp:ps.length<=40000)(lq:qs.length<=40000)
  (zp:∀ p∈ps,SzQ a b p) (zq:∀ p∈qs,SzQ c d p) (n1:a+3*c+3*d+4<=8999) (cm:c<=m) (n2:m+3*c+3*d+4<=8999) (n3:n+3*a+3*b+4<=8999) (n4:2*m+2*z+2<=8999)
  (hb:∀ p∈ps,∀ r,zFQ qs p.1 r->Sz m r) (hv:∀ y,(∃ q∈qs,y=q.2)∨(∃ p∈ps,y=p.1)->Sz n y/\Sz z (aP ps y)):
  ∃ R:List Pt,gZ [.tup (ps.map dp),.tup (qs.map dp)]=.ok (.v (.tup (R.map dp)))/\zNd R/\R.getLast?=some (f.1,e.2)/\R.length<=ps.length+qs.length/\(∀ x,0<=x->x<=f.1->aP R x=aP ps (aP qs x))/\(∀ r∈R,SzQ m z r/\((∃ q∈qs,r.1=q.1)∨∃ p∈ps,zFQ qs p.1 r.1)):=by
 have bp:∀ p∈ps,0<=p.1/\p.1<=f.2:=fun p h=>by have:=dR hp he h;exact⟨this.1,by rw[<-hL];exact this.2.1⟩
 have up:∀ p∈ps,∃ r,wA [.tup (qs.map dp),.int 1,dq p.1]=.ok (.v (dq r))/\zFQ qs p.1 r:=fun p h=>zLa ⋯ zq (zp p h).1 n1 hq hf (bp p h).1 (bp p h).2
 obtain⟨bf,hbf⟩:∃ bf:Pt->Rat,∀ p∈ps,wA [.tup (qs.map dp),.int 1,dq p.1]=.ok (.v (dq (bf p)))/\zFQ qs p.1 (bf p):=
  ⟨fun p=>if h:p∈ps then Classical.choose (up p h) else 0,fun p h=>by simp only[J7 h];exact Uq (up p h)⟩
 have hval:∀ p∈ps,aP qs (bf p)=p.1/\0<=bf p/\bf p<=f.1:=fun p h=>(hbf p h).2.val hq hf
 have hasc:(ps.map bf).Pairwise (· < ·):=by
  refine Xx.mpr (Yo ?_ hp.2)
  intro a b ha hb' hab;have h1:=hval a ha;have h2:=hval b hb';rcases (V5:bf b<=bf a∨bf a<=bf b) with l | l
  ·have:=gW hq hf h2.2.1 l h1.2.2
   have:=hab.1
   grind
  ·have:bf a≠bf b:=by
    intro z;have:=hab.1
    rw[<-h1.1,<-h2.1,z] at this;grind
   grind
 have zb:∀ x∈ps.map bf,Sz m x:=fun x hx=>by
  obtain⟨p,h,rfl⟩:=Qm.mp hx;exact hb p h _ (hbf p h).2
 have zx:∀ x∈qs.map Prod.fst,Sz m x:=fun x hx=>by
  obtain⟨p,h,rfl⟩:=Qm.mp hx;exact(zq p h).1.mono cm
 obtain⟨C,h1,h2,h3,h4⟩:=zEE (zEf hq.2) hasc (by rw[Qe];omega) (by rw[Qe];omega) zx zb ⋯
 rw[Qe,Qe] at h4;have zC:∀ t∈C,Sz m t:=fun t ht=>((h3 t).mp ht).elim (zx t) (zb t)
 have from':∀ t∈C,(∃ q∈qs,t=q.1)∨∃ p∈ps,t=bf p:=by
  intro t ht;rcases (h3 t).mp ht with h | h
  ·obtain⟨q,h5,rfl⟩:=Qm.mp h
   exact .inl ⟨q,h5,rfl⟩
  ·obtain⟨q,h5,rfl⟩:=Qm.mp h
   exact .inr ⟨q,h5,rfl⟩
 have J:Joints ps qs f C:=by
  refine⟨h2,fun q h=>(h3 _).mpr (.inl (Qm.mpr ⟨q,h,rfl⟩)),fun p h=>⟨bf p,(h3 _).mpr (.inr (Qm.mpr ⟨p,h,rfl⟩)),(hval p h).1⟩,fun t ht=>?_⟩
  rcases from' t ht with⟨q,h,rfl⟩ | ⟨p,h,rfl⟩
  ·have:=dR hq hf h
   exact⟨this.1,this.2.1⟩
  ·exact(hval p h).2
 have v2:∀ t∈C,(∃ q∈qs,aP qs t=q.2)∨∃ p∈ps,aP qs t=p.1:=by
  intro t ht;rcases from' t ht with⟨q,h,rfl⟩ | ⟨p,h,rfl⟩
  ·obtain⟨i,hi⟩:=Yg.mp h
   exact .inl ⟨q,h,bN hq.2 hi⟩
  ·exact .inr ⟨p,h,(hval p h).1⟩
 have sz:∀ t∈C,Sz n (aP qs t)/\Sz z (aP ps (aP qs t)):=fun t ht=>hv _ (v2 t ht)
 obtain⟨ok,la⟩:=zED hp hq he hf hL J;refine⟨mH (rZ ps qs C),?_,lF ok,by rw[vE ok.2];exact la,Q5 (oA ok.2).length_le (by unfold rZ;rw[Qe];omega),fun x h0 h1=>by rw[yS ok.2,zIU hp hq he hf hL J h0 h1],fun r hr=>?_⟩
 rotate_left
 ·obtain⟨t,ht,rfl⟩:=Qm.mp ((oA ok.2).subset hr)
  exact⟨⟨zC t ht,(sz t ht).2⟩,(from' t ht).imp id fun ⟨p,h,e⟩=>⟨p,h,e ▸ (hbf p h).2⟩⟩
 unfold gZ;erw[zEV he,zLr hf,hL,uC ⋯];symm
 rw[Qw,eX (u:=dq ∘ Prod.fst) (g:=fun p=>dq (bf p)) ⋯ (fun p h=>by
  show aM wA _ [_,_,_,_,.val (dq p.1)]=_
  erw[(hbf p h).1]
  symm)]
 erw[uC ⋯];symm;rw[show(ps.map fun p=>dq (bf p))=(ps.map bf).map dq by rw[Qw];rfl,h1];symm
 rw[eX (u:=dq) (g:=fun t=>dp (t,aP ps (aP qs t))) ⋯ (fun t ht=>by
  have b2:=uI hq hf (J.bd t ht).1 (J.bd t ht).2;erw[zAV ⋯ zq (zC t ht) n2 hq hf (J.bd t ht).1 (J.bd t ht).2,zAV ⋯ zp (sz t ht).1 n3 hp he b2.1 (by rw[hL];exact b2.2)]
  symm)]
 erw[show(C.map fun t=>dp (t,aP ps (aP qs t)))=(rZ ps qs C).map dp by unfold rZ;rw[Qw];rfl];rw[qB (n:=m) (m:=z) (.inl rfl) (by unfold rZ;rw[Qe];omega) ?_ n4 ok]
 ·symm
 ·intro p hp1
  obtain⟨t,ht,rfl⟩:=Qm.mp hp1;exact⟨zC t ht,(sz t ht).2⟩
def wys:List Str:=["row","back","even","lack","part","half"]
def wOK(w:Str)(ws:List Int)(m:Nat):Prop:=(w = "even" ∨ w = "lack")/\ws.length=m/\(∀ x∈ws,1<=x/\x<=10^6)∨¬ (w = "even" ∨ w = "lack")/\ws=[]
def IsC:Nat->D->Prop
 | 0,_=>False
 | n+1,d=>(∃ c:Int,d=.tup [.str "boat", .int c])∨∃(w:Str)(ws:List Int)(ks:List D),d=.tup [.str w,.tup (ws.map D.int),.tup ks]/\(w == "boat")=false/\0<ks.length/\ks.length<=100/\ws.length<=100/\(w∈wys/\wOK w ws ks.length)/\∀ k∈ks,IsC n k
def clm:Nat->D->List Int
 | 0,_=>[]
 | n+1,d=>match d with
  | .tup [_,.int c]=>[c]
  | .tup [_,_,.tup ks]=>ks.flatMap (clm n)
  | _=>[]
def dpt:Nat->D->Int
 | 0,_=>0
 | n+1,d=>match d with
  | .tup [_,_,.tup ks]=>1+mx0 (ks.map (dpt n))
  | _=>1
def oI{c:Int}:cB [.tup [.str "boat", .int c]]=.ok (.v (.bl true)):=by
 unfold cB;symm
def oB{w:Str}{a b:D}(h:(w == "boat")=false):cB [.tup [.str w,a,b]]=.ok (.v (.bl false)):=by
 unfold cB;erw[h]
def zGu{c:Int}:bQ [.tup [.str "boat", .int c]]=.ok (.v (.tup [])):=by
 unfold bQ;erw[oI];symm
def kT{w:Str}{a b:D}(h:(w == "boat")=false):bQ [.tup [.str w,a,b]]=.ok (.v b):=by
 unfold bQ;erw[oB h];symm
def zMU{ks:List D}{n i:Nat}:((ks.take i).flatMap (clm n)).length<=(ks.flatMap (clm n)).length:=by
 conv=>rhs;rw[<-Y1 i ks,X1,Qi]
 exact Nat.le_add_right _ _
def zNv{ks:List D}{n:Nat}{k:D}(h:k∈ks):(clm n k).length<=(ks.flatMap (clm n)).length:=by
 obtain⟨a,b,rfl⟩:=List.append_of_mem h;rw[X1,Vu,Qi,Qi];omega
def fI:∀(n:Nat)(d:D),IsC n d->(clm n d).length<=1000->cM n [d]=.ok (.f ((clm n d).map D.int))
 | 0,d,h,_=>h.elim
 | n+1,d,h,hl=>by
  show lE (cM n) [d]=_
  unfold lE;symm;rcases h with⟨c,rfl⟩ | ⟨w,ws,ks,rfl,hw,k0,k1,w1,hy,hk⟩
  ·rw[oI]
   symm;rfl
  ·rw[oB hw]
   erw[kT hw];symm;refine oY (Q:=fun r=>r.bind fin=.ok (.f ((ks.flatMap (clm n)).map D.int))) (fun i ρ=>∃ a,ρ=[.val (.tup [.str w,.tup (ws.map D.int),.tup ks]),.own (((ks.take i).flatMap (clm n)).map D.int),a]) ⟨_,rfl⟩ ?_ ?_
   ·rintro i e ρ he ⟨a,rfl⟩
    have hm:=Qj he;have hl':(ks.flatMap (clm n)).length<=1000:=hl;have l1:=zNv (n:=n) hm;have l2:=zMU (ks:=ks) (n:=n) (i:=i);erw[fI n e (hk e hm) ⋯,Jk ⋯];refine⟨_,rfl,.val e,?_⟩
    rw[kY he,X1,Q9];simp[List.flatMap]
   ·rintro ρ' ⟨a,rfl⟩
    erw[Vx]
def zBX:∀(n:Nat)(d:D),IsC n d->jF n [d]=.ok (.v (.int (dpt n d)))
 | 0,d,h=>h.elim
 | n+1,d,h=>by
  show pX (jF n) [d]=_
  unfold pX;symm;rcases h with⟨c,rfl⟩ | ⟨w,ws,ks,rfl,hw,k0,k1,w1,hy,hk⟩
  ·rw[zGu]
   symm;rfl
  ·rw[kT hw]
   symm
   have e:=eX (u:=fun k=>k) (g:=fun k=>.int (dpt n k)) (l:=ks) (f:=aM (jF n) (aB (aG 1) aNil)) (ρ:=[.val (.tup [.str w,.tup (ws.map D.int),.tup ks])]) ⋯ (fun k hm=>by
    erw[zBX n k (hk k hm)]
    symm)
   rw[W3] at e;rw[e];erw[zKa];symm;rfl
def dOK:Nat->D->Prop
 | 0,_=>False
 | n+1,d=>(∃ i,d=.int i)∨(∃ x,d=.str x)∨∃ ds,d=.tup ds/\ds.length<=1000/\∀ e∈ds,dOK n e
def zLC:∀ {n m:Nat} {d:D},dOK n d->n<=m->dOK m d
 | 0,_,_,h,_=>h.elim
 | n+1,0,_,_,l=>absurd l ⋯
 | n+1,m+1,d,h,l=>by
  rcases h with h | h | ⟨ds,rfl,hl,he⟩
  ·exact .inl h
  ·exact .inr (.inl h)
  ·exact .inr (.inr ⟨ds,rfl,hl,fun e h=>zLC (he e h) ⋯⟩)
def zFv:∀(n:Nat)(d:D),IsC n d->dOK (2*n+1) d
 | 0,d,h=>h.elim
 | n+1,d,h=>by
  rcases h with⟨c,rfl⟩ | ⟨w,ws,ks,rfl,hw,k0,k1,w1,hy,hk⟩
  ·refine .inr (.inr ⟨_,rfl,by simp,fun e he=>?_⟩)
   rcases Qc.mp he with rfl | he
   ·exact .inr (.inl ⟨_,rfl⟩)
   ·rw[Qr.mp he];exact .inl ⟨_,rfl⟩
  ·refine .inr (.inr ⟨_,rfl,by simp,fun e he=>?_⟩)
   rcases Qc.mp he with rfl | he
   ·exact .inr (.inl ⟨_,rfl⟩)
   ·rcases Qc.mp he with rfl | he
    ·refine .inr (.inr ⟨_,rfl,by rw[Qe];omega,fun x hx=>?_⟩)
     obtain⟨i,_,rfl⟩:=Qm.mp hx;exact .inl ⟨_,rfl⟩
    ·rw[Qr.mp he]
     exact .inr (.inr ⟨_,rfl,⋯,fun x hx=>zFv n x (hk x hx)⟩)
def zBa:∀(n:Nat)(d:D),dOK n d->noL d=true
 | 0,d,h=>h.elim
 | n+1,d,h=>by
  rcases h with⟨i,rfl⟩ | ⟨x,rfl⟩ | ⟨ds,rfl,hl,he⟩
  ·simp[noL]
  ·simp[noL]
  ·rw[noL]
   clear hl
   induction ds with
   | nil=>rfl
   | cons a r ih=>rw[noLs,zBa n a (he a Qb),ih fun e h=>he e (Qd _ h)];rfl
def eH:∀ {n m:Nat} {d:D},IsC n d->n<=m->IsC m d
 | 0,_,_,h,_=>h.elim
 | n+1,0,_,_,l=>absurd l ⋯
 | n+1,m+1,d,h,l=>by
  rcases h with h | ⟨w,ws,ks,rfl,hw,k0,k1,w1,hy,hk⟩
  ·exact .inl h
  ·exact .inr ⟨w,ws,ks,rfl,hw,k0,k1,w1,hy,fun k h=>eH (hk k h) ⋯⟩
def cO:∀ {n m:Nat} {d:D},IsC n d->n<=m->clm m d=clm n d
 | 0,_,_,h,_=>h.elim
 | n+1,0,_,_,l=>absurd l ⋯
 | n+1,m+1,d,h,l=>by
  rcases h with⟨c,rfl⟩ | ⟨w,ws,ks,rfl,hw,k0,k1,w1,hy,hk⟩
  ·rfl
  ·show ks.flatMap (clm m)=ks.flatMap (clm n)
   rw[Uu,Uu];congr 1
   exact Vp fun k h=>cO (hk k h) ⋯
def zEA:∀ {n m:Nat} {d:D},IsC n d->n<=m->dpt m d=dpt n d
 | 0,_,_,h,_=>h.elim
 | n+1,0,_,_,l=>absurd l ⋯
 | n+1,m+1,d,h,l=>by
  rcases h with⟨c,rfl⟩ | ⟨w,ws,ks,rfl,hw,k0,k1,w1,hy,hk⟩
  ·rfl
  ·show 1+mx0 (ks.map (dpt m))=1+mx0 (ks.map (dpt n))
   rw[Vp fun k h=>zEA (hk k h) ⋯]
def zPR:∀ {l:List Int} {b:Int},0<=b->(∀ x∈l,x<=b)->mx0 l<=b
 | [],b,h,_=>h
 | a::r,b,_,h=>by
  have key:∀(r:List Int)(a:Int),a<=b->(∀ x∈r,x<=b)->zAq a r<=b:=by
   intro r
   induction r with
   | nil=>intro a ha _;exact ha
   | cons c r ih=>
    intro a ha hr;rw[zAq];refine ih _ ?_ fun x hx=>hr x (Qd _ hx)
    split
    ·exact hr c Qb
    ·exact ha
  exact key r a (h a Qb) fun x hx=>h x (Qd _ hx)
def zRT:∀ {l:List Int} {x:Int},x∈l->x<=mx0 l
 | [],_,h=>by cases h
 | a::r,x,h=>by
  have key:∀(r:List Int)(a:Int),a<=zAq a r/\∀ x∈r,x<=zAq a r:=by
   intro r
   induction r with
   | nil=>intro a;exact⟨Xh _,fun x h=>by cases h⟩
   | cons c r ih=>
    intro a;rw[zAq];have h1:=ih (if c > a then c else a);refine⟨Xm ?_ h1.1,fun x hx=>?_⟩
    ·split<;>omega
    ·rcases Qc.mp hx with rfl | hx
     ·refine Xm ?_ h1.1;split<;>omega
     ·exact h1.2 x hx
  rcases Qc.mp h with rfl | h
  ·exact(key r x).1
  ·exact(key r a).2 x h
def zHJ:∀ {n:Nat} {d:D},IsC n d->1<=dpt n d/\dpt n d<=n
 | 0,_,h=>h.elim
 | n+1,d,h=>by
  rcases h with⟨c,rfl⟩ | ⟨w,ws,ks,rfl,hw,k0,k1,w1,hy,hk⟩
  ·exact⟨by show(1:Int)<=1;omega,by show(1:Int)<=_;omega⟩
  ·have h1:mx0 (ks.map (dpt n))<=n:=zPR ⋯ fun x hx=>by
    obtain⟨k,hk',rfl⟩:=Qm.mp hx;exact(zHJ (hk k hk')).2
   have h2:0<=mx0 (ks.map (dpt n)):=by
    cases ks with
    | nil=>cases k0
    | cons k r=>exact Xm (by have:=(zHJ (hk k Qb)).1;omega) (zRT (x:=dpt n k) (by simp))
   exact⟨by show 1<=1+mx0 (ks.map (dpt n));omega,by show 1+mx0 (ks.map (dpt n))<=((n+1:Nat):Int);omega⟩
def zJE{w:Str}(h:w∈wys):(aT.lookup w).isSome=true/\(w == "boat")=false:=by
 simp only[wys,Qc,V3,or_false] at h;rcases h with rfl | rfl | rfl | rfl | rfl | rfl<;>decide
def zBW{w:Str}(h:w∈wys):bW [.str w]=.ok (.v .non):=by
 unfold bW;erw[(zJE h).1];symm
def zSS{w:Str}:oIn (.str w) (.tup [.str "even", .str "lack"])=.ok (.bl (decide (w = "even" ∨ w = "lack"))):=by
 show(if depS [D.str "even", D.str "lack"]<=50 then Res.ok (D.bl (((Str.ofString "even")==w) || (((Str.ofString "lack")==w) || false))) else .no)=_
 rw[Jk ∅,Ul];congr 2
 by_cases h1:w = "even"
 ·subst h1;decide
 ·by_cases h2:w = "lack"
  ·subst h2;decide
  ·rw[Jj (fun h=>h.elim h1 h2),beq_eq_false_iff_ne.mpr (Ne.symm h1),beq_eq_false_iff_ne.mpr (Ne.symm h2)];rfl
def tJ{w:Str}{ws:List Int}{m:Nat}{d:D}(hd:d=.lst (ws.map D.int)∨d=.tup (ws.map D.int))(h:wOK w ws m):aZ [.str w,d,.int m]=.ok (.v .non):=by
 have sq:zKp d=.ok (ws.map D.int):=by rcases hd with rfl | rfl<;>rfl
 have ln:lM [d]=.ok (.int (ws.length:Int)):=by rcases hd with rfl | rfl<;>simp[bLen_l,bLen_t]
 have fine:∀ x∈ws,1<=x/\x<=10^6:=by
  rcases h with⟨_,_,h⟩ | ⟨_,rfl⟩
  ·exact h
  ·intro x hx;cases hx
 have rest:∀ a:Sl,(fZ [.val (.str w),.val d,.val (.int m),a,.un]).bind fin=.ok (.v .non):=by
  intro a;erw[sq];symm;refine zDr (Q:=fun r:Res Rt=>r=.ok (.v .non)) (fun ρ=>∃ b,ρ=[.val (.str w),.val d,.val (.int m),a,b]) ⟨_,rfl⟩ ?_ ?_
  ·rintro e ρ he ⟨b,rfl⟩
   obtain⟨x,hx,rfl⟩:=Qm.mp he;have hf:=fine x hx;erw[Jj ⋯,oPow_i ∅,Jj ⋯];symm;exact⟨_,rfl,_,rfl⟩
  ·rintro ρ' ⟨b,rfl⟩
   rfl
 unfold aZ;erw[zSS];unfold jX;generalize (fZ:Sv)=K at rest ⊢;rcases h with⟨hw,hl,_⟩ | ⟨hw,rfl⟩
 ·rw[J6 hw]
  erw[ln,hl];symm;exact rest _
 ·rw[Jj hw]
  erw[ln,show decide (((0:Nat):Int)=0)=true from rfl];symm;exact rest _
def zFC{c:Int}(h0:0<=c)(h1:c<=10^9):mE [.int c]=.ok (.v (.tup [.str "boat", .int c])):=by
 unfold mE;erw[Jj ⋯,Jj ⋯];symm
def zNa{w:Str}{ws:List Int}{ks:List D}{n:Nat}{wd:D}(hd:wd=.lst (ws.map D.int)∨wd=.tup (ws.map D.int))(hw:w∈wys)(hs:wOK w ws ks.length)(l1:ws.length<=100)(k0:0<ks.length)(k1:ks.length<=100)(hn:n<=7)(hk:∀ k∈ks,IsC n k)(hc:(ks.flatMap (clm n)).length<=12):
  kG [.str w,wd,.lst ks]=.ok (.v (.tup [.str w,.tup (ws.map D.int),.tup ks]))/\IsC (n+1) (.tup [.str w,.tup (ws.map D.int),.tup ks]):=by
 have bt:zLI [wd]=.ok (.tup (ws.map D.int)):=by rcases hd with rfl | rfl<;>rfl
 have ic:IsC (n+1) (.tup [.str w,.tup (ws.map D.int),.tup ks]):=.inr ⟨w,ws,ks,rfl,(zJE hw).2,k0,k1,l1,⟨hw,hs⟩,hk⟩;have ic':=eH ic (show n+1<=10 by omega)
 have ec:=cO ic (show n+1<=10 by omega)
 have lc:(clm 10 (.tup [.str w,.tup (ws.map D.int),.tup ks])).length<=12:=by rw[ec];exact hc
 have dd:dpt 10 (.tup [.str w,.tup (ws.map D.int),.tup ks])<=8:=by
  rw[zEA ic (show n+1<=10 by omega)];have:=(zHJ ic).2
  omega
 refine⟨?_,ic⟩
 unfold kG;erw[zBW hw,tJ hd hs,bt,Jj ⋯,fI 10 _ ic' ⋯,Jj ⋯,zBX 10 _ ic',Jj ⋯];symm
structure Pl (L:List (D×Int)) (boats:Int):Prop where
 each:∀ p∈L,1<=p.2/\p.2<=7/\IsC p.2.toNat p.1
 few:((L.flatMap fun p=>clm 7 p.1).length:Int)<=boats
 most:boats<=12
 rng:∀ c∈(L.flatMap fun p=>clm 7 p.1),0<=c/\c<=10^9
def zEo:∀ {l:List D},(∀ d∈l,noL d=true)->noLs l=true
 | [],_=>rfl
 | a::r,h=>by rw[noLs,h a Qb,zEo fun d hd=>h d (Qd _ hd)];rfl
def zME:∀ {n:Nat} {d:D},dOK n d->dep d<=n
 | 0,_,h=>h.elim
 | n+1,d,h=>by
  rcases h with⟨i,rfl⟩ | ⟨x,rfl⟩ | ⟨ds,rfl,hl,he⟩
  ·simp[dep]
  ·simp[dep]
  ·rw[dep]
   clear hl
   have:depS ds<=n:=by
    induction ds with
    | nil=>simp[depS]
    | cons a r ih=>
     rw[depS];exact Y4.mpr ⟨zME (he a Qb),ih fun e h=>he e (Qd _ h)⟩
   omega
def zNK{n:Nat}:∀ {ds:List D},(∀ d∈ds,dOK n d)->depS ds<=n
 | [],_=>by simp[depS]
 | a::r,h=>by rw[depS];exact Y4.mpr ⟨zME (h a Qb),zNK fun e he=>h e (Qd _ he)⟩
def zKS{w:Str}(h:w∈wys):∃ v:Wy,v.s=w:=by
 unfold wys at h;rcases Qc.mp h with rfl | h
 ·exact⟨.row,rfl⟩
 rcases Qc.mp h with rfl | h
 ·exact⟨.back,rfl⟩
 rcases Qc.mp h with rfl | h
 ·exact⟨.even,rfl⟩
 rcases Qc.mp h with rfl | h
 ·exact⟨.lack,rfl⟩
 rcases Qc.mp h with rfl | h
 ·exact⟨.part,rfl⟩
 ·rw[Qr.mp h];exact⟨.half,rfl⟩
def zMa{v:Wy}{ws cs:List Int}(h:wOK v.s ws cs.length):v.due ws cs:=by
 have k:¬ (v.s = "even" ∨ v.s = "lack")->ws=[]:=fun hn=>by
  rcases h with⟨a,_⟩ | ⟨_,b⟩
  ·exact absurd a hn
  ·exact b
 have k2:(v.s = "even" ∨ v.s = "lack")->Wt ws cs:=fun hy=>by
  rcases h with⟨_,b,c⟩ | ⟨a,_⟩
  ·exact⟨b,fun x hx=>(c x hx).1,fun x hx=>(c x hx).2⟩
  ·exact absurd hy a
 cases v with
 | even=>exact k2 (.inl rfl)
 | lack=>exact k2 (.inr rfl)
 | row=>exact k ∅
 | back=>exact k ∅
 | part=>exact k ∅
 | half=>exact k ∅
def Gc(n:Nat)(d:D):Prop:=IsC n d/\(clm n d).length<=12/\∀ c∈clm n d,0<=c/\c<=10^9
def zHt:∀ {l:List Int},(∀ c∈l,0<=c/\c<=10^9)->0<=l.sum/\l.sum<=l.length*10^9
 | [],_=>∅
 | c::r,h=>by
  have ih:=zHt fun x hx=>h x (Qd _ hx)
  have a:=h c Qb;rw[Q4,Qn];have:((r.length+1:Nat):Int)*10^9=(r.length:Int)*10^9+10^9:=by rw[Yp,Yq];rfl
  omega
def Gc.sum{n:Nat}{d:D}(h:Gc n d):0<=(clm n d).sum/\(clm n d).sum<=12*10^9:=by
 have:=zHt h.2.2
 have:=h.2.1
 omega
def zFo{n:Nat}:∀ ks:List D,(ks.map fun k=>(clm n k).sum).sum=(ks.flatMap (clm n)).sum
 | []=>rfl
 | k::r=>by rw[Qo,Q4,zFo r,Vu,V7]
def zJC:∀ {n:Nat} {d:D},IsC n d->1<=(clm n d).length
 | 0,_,h=>h.elim
 | n+1,d,h=>by
  rcases h with⟨c,rfl⟩ | ⟨w,ws,ks,rfl,hw,k0,k1,w1,hy,hk⟩
  ·exact Qf 1
  ·cases ks with
   | nil=>simp at k0
   | cons k r=>
    have:=zJC (hk k Qb)
    show 1<=((k::r).flatMap (clm n)).length
    rw[Vu,Qi];omega
def yR{n:Nat}:∀ {ks:List D},(∀ k∈ks,IsC n k)->ks.length<=(ks.flatMap (clm n)).length
 | [],_=>Vl _
 | k::r,h=>by
  have a:=zJC (h k Qb);have b:=yR fun x hx=>h x (Qd _ hx)
  rw[Qn,Vu,Qi];omega
def zRP{n:Nat}{ks:List D}{k:D}(hk:k∈ks){c:Int}(hc:c∈clm n k):c∈ks.flatMap (clm n):=List.mem_flatMap.mpr ⟨k,hk,hc⟩
def Gc.kid{n:Nat}{w:D}{a ks:List D}(h:Gc (n+1) (.tup [w,.tup a,.tup ks]))(hi:∀ k∈ks,IsC n k){k:D}(hk:k∈ks):Gc n k:=
 ⟨hi k hk,Q5 (zNv hk) h.2.1,fun c hc=>h.2.2 c (zRP hk hc)⟩
def kcl(n:Nat)(ks:List D):List Int:=ks.map fun k=>(clm n k).sum
def jC(n:Nat)(ks:List D):(kcl n ks).length=ks.length:=Qe ..
def Gc.cl{n:Nat}{w:D}{a ks:List D}(h:Gc (n+1) (.tup [w,.tup a,.tup ks]))(hi:∀ k∈ks,IsC n k)(h0:0<ks.length):Cl (kcl n ks):=by
 have b:∀ c∈kcl n ks,0<=c/\c<=12*10^9:=fun c hc=>by
  obtain⟨k,hk,rfl⟩:=Qm.mp hc;exact(h.kid hi hk).sum
 have l:(ks.flatMap (clm n)).length<=12:=h.2.1;have:=yR hi
 exact⟨fun c hc=>(b c hc).1,fun c hc=>by have:=(b c hc).2;omega,by rw[jC];omega,by rw[jC];omega⟩
def ShL(P:D->Rat->List Rat->Prop):List D->(Nat->Rat)->Nat->List Rat->Prop
 | [],_,_,xs=>xs=[]
 | k::ks,f,i,xs=>∃ a b,xs=a++b/\P k (f i) a/\ShL P ks f (i+1) b
def Sh:Nat->D->Rat->List Rat->Prop
 | 0,_,_,_=>False
 | n+1,d,q,xs=>(∃ c:Int,d=.tup [.str "boat", .int c]/\xs=[q])∨∃(v:Wy)(ws:List Int)(ks:List D)(f:Nat->Rat),d=.tup [.str v.s,.tup (ws.map D.int),.tup ks]/\v.due ws (kcl n ks)/\Al 3000 ws (kcl n ks) q f v/\ShL (Sh n) ks f 0 xs
def zHr{P:D->Rat->List Rat->Prop}{n:Nat}{f:Nat->Rat}:∀ {ks:List D} {i:Nat} {xs:List Rat},(∀ k∈ks,∀ q xs,P k q xs->xs.length=(clm n k).length)->ShL P ks f i xs->xs.length=(ks.flatMap (clm n)).length
 | [],i,xs,_,h=>by rw[show xs=[] from h];rfl
 | k::r,i,xs,hp,h=>by
  obtain⟨a,b,rfl,ha,hb⟩:=h;rw[Qi,hp k Qb _ _ ha,zHr (fun x hx=>hp x (Qd _ hx)) hb,Vu,Qi]
def zMj:∀ {n:Nat} {d:D} {q:Rat} {xs:List Rat},Sh n d q xs->xs.length=(clm n d).length
 | 0,_,_,_,h=>h.elim
 | n+1,d,q,xs,h=>by
  rcases h with⟨c,rfl,rfl⟩ | ⟨v,ws,ks,f,rfl,hd,al,hs⟩
  ·rfl
  ·exact zHr (fun k _ q xs h=>zMj h) hs
def zFb{a:D}{l:List D}:iQ [.tup (a::l)]=.ok (.v a):=by
 unfold iQ;symm
def sR{a b:D}{l:List D}:cU [.tup (a::b::l)]=.ok (.v b):=by
 unfold cU;symm
def sE{n:Nat}{d:D}(h:IsC n d)(hn:n<=10)(hl:(clm n d).length<=1000):dJ [d]=.ok (.v (.int (clm n d).sum)):=by
 have e:=cO h hn;unfold dJ;erw[fI 10 d (eH h hn) (by rw[e];exact hl),e]
def sV{n:Nat}{w:Str}{a:D}{ks:List D}(hw:(w == "boat")=false)(hi:∀ k∈ks,IsC n k)(hn:n<=10)(hl:(ks.flatMap (clm n)).length<=1000):cT [.tup [.str w,a,.tup ks]]=.ok (.f ((kcl n ks).map D.int)):=by
 unfold cT;erw[kT hw];symm
 rw[zCJ (h:=fun k=>D.int (clm n k).sum) (by have:=yR hi;omega) (fun k hk=>by
  erw[sE (hi k hk) hn (Q5 (zNv hk) hl)]
  symm)]
 symm;unfold kcl;rw[Qw];rfl
def zOK(v:Wy):(v.s == "boat")=false:=by cases v<;>decide
def zNh(cs:List Int):Sq (.lst (cs.map D.int)) cs:=.inl rfl
def yT:∀(n N m:Nat)(d:D)(q:Rat),Gc n d->n<=N->n<=9->0<=q->q<=((clm n d).sum:Rat)->(q.den:Int)<2^m->m+34*n<=2000->∃ xs,fQ N [d,dq q]=.ok (.f (xs.map dq))/\Sh n d q xs
 | 0,_,_,_,_,h,_,_,_,_,_,_=>h.1.elim
 | n+1,0,_,_,_,_,hN,_,_,_,_,_=>⋯
 | n+1,N+1,m,d,q,g,hN,hn,q0,q1,qd,hm=>by
  rcases g.1 with⟨c,rfl⟩ | ⟨w,ws,ks,rfl,hw,k0,k1,w1,hy,hk⟩
  ·refine⟨[q],?_,.inl ⟨c,rfl,rfl⟩⟩
   show iY (fQ N) _=_
   unfold iY;erw[oI];symm
  ·obtain⟨v,rfl⟩:=zKS hy.1
   have cl:=g.cl hk k0;have l12:(ks.flatMap (clm n)).length<=12:=g.2.1;have hs:(kcl n ks).sum=(clm (n+1) (.tup [.str v.s,.tup (ws.map D.int),.tup ks])).sum:=zFo ks;have gs:=g.sum;have due:v.due ws (kcl n ks):=zMa (by rw[jC];exact hy.2)
   have sq:Sz (34+m) q:=(Dn.den q).sz (gK q) qd q0 q1 ⋯
   have hl:Haul (34+m) q (kcl n ks).sum:=⟨q0,by rw[hs];exact q1,sq⟩
   obtain⟨f,ef,af⟩:=zOa (wd:=.tup (ws.map D.int)) (.inr rfl) (zNh (kcl n ks)) ⋯ due cl hl
   have df:=zPs due cl hl af;have hS:(kcl n ks).sum<2^34:=by rw[hs];omega
   obtain⟨E,e0,e1,e2⟩:=zQw due cl hS af (Dn.den q)
   have dk:∀ i,i<ks.length->((f i).den:Int)<2^(m+34):=fun i hi=>by
    have a:=(e2 i (by rw[jC];exact hi)).le (Um (gK q) e0)
    have b:(q.den:Int)*E<2^m*2^34:=Int.mul_lt_mul qd (X8 e1) e0 (X8 (Yy ∅))
    rw[W4];omega
   have loopOk:∀(js:List D)(i:Nat)(acc:List Rat)(s t:Sl),(∀ k∈js,k∈ks)->i+js.length=ks.length->ks.drop i=js->acc.length+(js.flatMap (clm n)).length<=12->∃ xs s' t',ShL (Sh n) js f i xs/\
     loop (zGW (mP (gName 4) (mP (gName 5) zGY))) (sU (fQ N)) (kL js ((List.range' i js.length).map fun j=>dq (f j))) [.val (.tup [.str v.s,.tup (ws.map D.int),.tup ks]),.val (dq q),.val (.lst (((List.range (kcl n ks).length).map f).map dq)),.own (acc.map dq),s,t]=
      .ok (.nx [.val (.tup [.str v.s,.tup (ws.map D.int),.tup ks]),.val (dq q),.val (.lst (((List.range (kcl n ks).length).map f).map dq)),.own ((acc++xs).map dq),s',t']):=by
    intro js
    induction js with
    | nil=>intro i acc s t _ _ _ _;exact⟨[],s,t,rfl,by rw[Vf];rfl⟩
    | cons k r ih=>
     intro i acc s t hm' hl' hd' ha;have hik:i<ks.length:=by rw[Qn] at hl';omega
     have ik:k∈ks:=hm' k Qb;have gk:=g.kid hk ik;have fk:=df.bd i (by rw[jC];exact hik)
     have ck:cR (kcl n ks) i=((clm n k).sum:Rat):=by
      unfold cR kcl
      have:ks[i]?=some k:=by
       have:=Wz (xs:=ks) (i:=i) (j:=0)
       rw[hd'] at this;simpa using this.symm
      rw[Qv,Qu,this];rfl
     obtain⟨xs,ex,sx⟩:=yT n N (m+34) k (f i) gk ⋯ ⋯ fk.1 (by rw[<-ck];exact fk.2.1) (dk i hik) ⋯
     have lx:=zMj sx;rw[Vu,Qi] at ha;obtain⟨ys,s',t',sy,ey⟩:=ih (i+1) (acc++xs) (.val k) (.val (dq (f i))) (fun x hx=>hm' x (Qd _ hx)) (by rw[Qn] at hl';omega) (by rw[<-List.drop_drop,hd'];rfl) (by rw[Qi];omega)
     refine⟨xs++ys,s',t',⟨xs,ys,rfl,sx,sy⟩,?_⟩
     rw[Qn,List.range'_succ,Qo,show kL (k::r) (dq (f i)::(List.range' (i+1) r.length).map fun j=>dq (f j))=.tup [k,dq (f i)]::kL r ((List.range' (i+1) r.length).map fun j=>dq (f j)) from rfl]
     rw[cY (ρ1:=[.val (.tup [.str v.s,.tup (ws.map D.int),.tup ks]),.val (dq q),.val (.lst (((List.range (kcl n ks).length).map f).map dq)),.own (acc.map dq),.val k,.val (dq (f i))]) (ρ2:=[.val (.tup [.str v.s,.tup (ws.map D.int),.tup ks]),.val (dq q),.val (.lst (((List.range (kcl n ks).length).map f).map dq)),.own ((acc++xs).map dq),.val k,.val (dq (f i))]) (by symm) (by
      erw[ex];symm
      rw[Jk ⋯,Q9]),ey,Vr]
   obtain⟨xs,s',t',sx,ex⟩:=loopOk ks 0 [] .un .un (fun k h=>h) ⋯ rfl (by rw[Yc];omega)
   refine⟨xs,?_,.inr ⟨v,ws,ks,f,rfl,due,af.mono ⋯,sx⟩⟩
   show iY (fQ N) _=_
   unfold iY;erw[oB hw,zFb,sR,sV hw hk ⋯ ⋯,ef,kT hw];symm;rw[pD rfl rfl,show((List.range (kcl n ks).length).map f).map dq=(List.range' 0 ks.length).map fun j=>dq (f j) by rw[Qw,jC,W5];rfl];symm;rw[show((List.range (kcl n ks).length).map f).map dq=(List.range' 0 ks.length).map fun j=>dq (f j) by rw[Qw,jC,W5];rfl] at ex;rw[Xd] at ex;rw[ex];rfl
def zLQ{n m:Nat}{d:D}{q:Rat}(g:Gc n d)(hn:n<=9)(q0:0<=q)(q1:q<=((clm n d).sum:Rat))(qd:(q.den:Int)<2^m)(hm:m+34*n<=2000):∃ xs,lP [d,dq q]=.ok (.f (xs.map dq))/\Sh n d q xs:=by
 have gs:=g.sum;obtain⟨xs,ex,sx⟩:=yT n 10 m d q g ⋯ hn q0 q1 qd hm
 refine⟨xs,?_,sx⟩
 have sq:Sz (34+m) q:=(Dn.den q).sz (gK q) qd q0 q1 ⋯
 unfold lP;erw[sE g.1 ⋯ (by have:=g.2.1;omega),bR,mG ⋯ ⟨q0,q1,sq⟩ ⋯,ex];symm
def zTr{v v':Wy}(h:v.s=v'.s):v=v':=by cases v<;>cases v'<;>first | rfl | exact absurd h ∅
open Classical in
def wyS(w:Str):Wy:=if h:∃ v:Wy,v.s=w then Classical.choose h else .row
def zSA(v:Wy):wyS v.s=v:=by
 have h:∃ u:Wy,u.s=v.s:=⟨v,rfl⟩;unfold wyS;rw[J7 h];exact zTr (Uq h)
def zSl(l:List D):List Int:=l.map fun d=>match d with | .int i=>i | _=>0
def zKz(ws:List Int):zSl (ws.map D.int)=ws:=by
 unfold zSl;rw[Qw];exact List.map_id _
def SFL(g:D->Rat->List Rat)(f:Nat->Rat):List D->Nat->List Rat
 | [],_=>[]
 | k::ks,i=>g k (f i)++SFL g f ks (i+1)
def SF:Nat->D->Rat->List Rat
 | 0,_,_=>[]
 | n+1,d,q=>match d with
  | .tup [.str w,.tup a,.tup ks]=>SFL (SF n) (FF (wyS w) (zSl a) (kcl n ks) q) ks 0
  | _=>[q]
def nK(n:Nat)(v:Wy)(ws:List Int)(ks:List D)(q:Rat):SF (n+1) (.tup [.str v.s,.tup (ws.map D.int),.tup ks]) q=SFL (SF n) (FF v ws (kcl n ks) q) ks 0:=by
 show SFL (SF n) (FF (wyS v.s) (zSl (ws.map D.int)) (kcl n ks) q) ks 0=_
 rw[zSA,zKz]
def zId(g:D->Rat->List Rat)(f:Nat->Rat):∀(a b:List D)(i:Nat),SFL g f (a++b) i=SFL g f a i++SFL g f b (i+a.length)
 | [],b,i=>rfl
 | k::a,b,i=>by
  show g k (f i)++SFL g f (a++b) (i+1)=(g k (f i)++SFL g f a (i+1))++_
  rw[zId g f a b (i+1),Vr,Qn,show i+1+a.length=i+(a.length+1) by omega]
def zEw{n:Nat}{f:Nat->Rat}:∀ {ks:List D} {i:Nat},(∀ k∈ks,∀ q,(SF n k q).length=(clm n k).length)->(SFL (SF n) f ks i).length=(ks.flatMap (clm n)).length
 | [],i,_=>rfl
 | k::r,i,h=>by
  show(SF n k (f i)++SFL (SF n) f r (i+1)).length=_
  rw[Qi,h k Qb,zEw fun x hx=>h x (Qd _ hx),Vu,Qi]
def zER:∀ {n:Nat} {d:D},IsC n d->∀ q:Rat,(SF n d q).length=(clm n d).length
 | 0,_,h,_=>h.elim
 | n+1,d,h,q=>by
  rcases h with⟨c,rfl⟩ | ⟨w,ws,ks,rfl,hw,k0,k1,w1,hy,hk⟩
  ·rfl
  ·obtain⟨v,rfl⟩:=zKS hy.1
   rw[nK];exact zEw fun k hm q=>zER (hk k hm) q
def zNe{n:Nat}{ks:List D}{j:Nat}{k:D}(h:ks[j]?=some k):j<(kcl n ks).length/\cR (kcl n ks) j=((clm n k).sum:Rat):=by
 have hj:=(Qy.mp h).1;refine⟨by rw[jC];exact hj,?_⟩
 unfold cR kcl;rw[Qv,Qu,h];rfl
def zNi{P:D->Rat->List Rat->Prop}{n:Nat}{f g:Nat->Rat}:∀ {ks:List D} {i:Nat} {xs:List Rat},(∀ k∈ks,∀ q xs,P k q xs->0<=q->q<=((clm n k).sum:Rat)->xs=SF n k q)->(∀ j k,ks[j]?=some k->f (i+j)=g (i+j)/\0<=f (i+j)/\f (i+j)<=((clm n k).sum:Rat))->ShL P ks f i xs->xs=SFL (SF n) g ks i
 | [],i,xs,_,_,h=>h
 | k::r,i,xs,hp,hf,h=>by
  obtain⟨a,b,rfl,ha,hb⟩:=h;have f0:=hf 0 k rfl;rw[Nat.add_zero] at f0
  rw[hp k Qb _ _ ha f0.2.1 f0.2.2,zNi (fun x hx=>hp x (Qd _ hx)) (fun j k' hj=>by
   have:=hf (j+1) k' (by simpa using hj)
   rw[show i+1+j=i+(j+1) by omega];exact this) hb,f0.1]
  rfl
def zRX:∀ {n:Nat} {d:D} {q:Rat} {xs:List Rat},Gc n d->Sh n d q xs->0<=q->q<=((clm n d).sum:Rat)->xs=SF n d q
 | 0,_,_,_,g,_,_,_=>g.1.elim
 | n+1,d,q,xs,g,h,q0,q1=>by
  rcases h with⟨c,rfl,rfl⟩ | ⟨v,ws,ks,f,rfl,hd,al,hs⟩
  ·rfl
  ·rcases g.1 with⟨c,e⟩ | ⟨w,ws',ks',e,hw,k0,k1,w1,hy,hk⟩
   ·simp at e
   simp only[D.tup.injEq,List.cons.injEq,and_true] at e;obtain⟨e1,e2,rfl⟩:=e;have cl:=g.cl hk k0;have se:(kcl n ks).sum=(clm (n+1) (.tup [.str v.s,.tup (ws.map D.int),.tup ks])).sum:=zFo ks;have q1':q<=((kcl n ks).sum:Rat):=by rw[se];exact q1
   obtain⟨b1,b2⟩:=zQy hd cl q0 q1' al;rw[nK];refine zNi (P:=Sh n) (fun k hm q xs h1 h2 h3=>zRX (g.kid hk hm) h1 h2 h3) (fun j k hj=>?_) hs
   obtain⟨j1,j2⟩:=zNe (n:=n) hj;rw[Xl,<-j2];exact⟨uR hd cl q0 q1' al j1,b1 j j1⟩
def zQk{ws cs:List Int}(h:Wt ws cs){t y:Rat}{i:Nat}(hi:i<cs.length)(e:cR ws i*t=y){B:Int}(hB:Dn B y):Dn (B*ws.getD i 0) (QQ ws cs t):=by
 obtain⟨F,W,e1,w0,w1,w2⟩:=wK (c:=cR cs) (w:=cR ws) (ci:=fun i=>cs.getD i 0) (wi:=fun i=>ws.getD i 0) (t:=t) (fun _=>rfl) (fun _=>rfl) (List.range cs.length) (fun j hj=>h.at (Qk.mp hj))
 obtain⟨k,hk⟩:=hB;refine⟨W*k+F*(B*ws.getD i 0),?_⟩
 have q:QQ ws cs t=(W:Rat)*t+(F:Rat):=e1;rw[q,Ve,Vm,Vm,Vm,<-hk,<-e];unfold cR;grind
def zHY{cs:List Int}(hc:Cl cs){q y:Rat}(q0:0<=q)(q1:q<=(cs.sum:Rat)){i:Nat}(hi:i<cs.length)(e:FF .row [] cs q i=y)(y0:0<y)(y1:y<cR cs i){B:Int}(hB:Dn B y):Dn B q:=by
 rw[<-uR (M:=0) (w:=.row) (ws:=[]) (f:=zBz cs q) rfl hc q0 q1 (fun i _=>rfl) hi] at e;have f:zBz cs q i=mn (ps0 (q-((0+(cs.take i).sum:Int):Rat))) (cR cs i):=rT cs 0 q i hi;rw[f] at e
 have:q=y+((0+(cs.take i).sum:Int):Rat):=by
  unfold mn ps0 at e;grind
 rw[this];exact hB.add (Dn.int B _)
def zPB{ws cs:List Int}(h:Wt ws cs)(hc:Cl cs){t:Rat}(t0:0<=t)(q1:QQ ws cs t<=(cs.sum:Rat))(q0:0<=QQ ws cs t){i:Nat}(hi:i<cs.length):FF .even ws cs (QQ ws cs t) i=dN (cR cs) (cR ws) t i:=by
 obtain⟨M,hM⟩:=zKf cs.length (dN (cR cs) (cR ws) t);exact(uR (M:=M) (w:=.even) h hc q0 q1 ⟨t,⟨t0,rfl,hM⟩,fun _ _=>rfl⟩ hi).symm
def zES{ws cs:List Int}(h:Wt ws cs)(hc:Cl cs){q:Rat}(q0:0<=q)(q1:q<=(cs.sum:Rat)):∃ t,0<=t/\QQ ws cs t=q/\∀ i,i<cs.length->FF .even ws cs q i=dN (cR cs) (cR ws) t i:=by
 obtain⟨M,t,tl,e⟩:=yG (w:=.even) h hc q0 q1;exact⟨t,tl.nn,tl.sum,e⟩
def zBy{ws cs:List Int}(h:Wt ws cs)(hc:Cl cs){q y:Rat}(q0:0<=q)(q1:q<=(cs.sum:Rat)){i:Nat}(hi:i<cs.length)(e:FF .even ws cs q i=y)(y1:y<cR cs i){B:Int}(hB:Dn B y):Dn (B*ws.getD i 0) q:=by
 obtain⟨t,t0,tq,ef⟩:=zES h hc q0 q1;rw[ef i hi] at e;rw[<-tq];refine zQk h hi ?_ hB
 unfold dN mn at e;grind
def wR(q:Rat):(q+q)*hf=q:=by rw[jT];grind
def zEb{cs:List Int}{i:Nat}(hi:i<cs.length):(ones cs).getD i 0=1:=by
 unfold ones;rw[Qv,Y3,Jk hi];rfl
def zHH{cs:List Int}(hc:Cl cs){q y:Rat}(q0:0<=q)(q1:q+q<=(cs.sum:Rat)){i:Nat}(hi:i<cs.length)(e:FF .half [] cs q i=y)(y1:y+y<cR cs i){B:Int}(hB:Dn B y):Dn (B*2) q:=by
 rw[vA hc q0 q1 hi] at e
 have e':FF .even (ones cs) cs (q+q) i=y+y:=by
  have:=wR (FF .even (ones cs) cs (q+q) i)
  rw[<-e];grind
 have d:=zBy (fG cs) hc (by grind) q1 hi e' y1 (hB.add hB)
 rw[zEb hi,Vw] at d;have:=zKb d
 rw[wR] at this;exact this
def zMG{cs:List Int}(hc:Cl cs){i:Nat}(hi:i<cs.length):cs.getD i 0<=cs.sum:=by
 have t:=zBe hc.nn hi (Qf _);rw[Vx] at t
 have:0<=(cs.take i).sum:=by
  have:∀ l:List Int,(∀ c∈l,0<=c)->0<=l.sum:=by
   intro l
   induction l with
   | nil=>intro _;decide
   | cons a l ih=>intro hl;rw[Q4];have:=hl a Qb;have:=ih fun x hx=>hl x (Qd _ hx);omega
  exact this _ fun x hx=>hc.nn x (X0 hx)
 have:=t.1
 omega
def zRA{w:Wy}{ws cs:List Int}(hw:w.due ws cs)(hc:Cl cs)(hS:cs.sum<2^34){q y:Rat}(q0:0<=q)(q1:q<=(cs.sum:Rat)){i:Nat}(hi:i<cs.length)(e:FF w ws cs q i=y)(y0:0<y)(y1:y<cR cs i)(least:∀ t,0<=t->t<q->FF w ws cs t i<y){B:Int}(hB:Dn B y):∃ E:Int,0<E/\E<=2^34/\Dn (B*E) q:=by
 have dc:Dn B (cR cs i-y):=(Dn.int B _).sub hB;have S0:(0:Rat)<=(cs.sum:Rat):=by exact_mod_cast hc.sum.1
 have back:∀ {E:Int},Dn (B*E) ((cs.sum:Rat)-q)->Dn (B*E) q:=fun {E} d=>by
  have:=(Dn.int (B*E) cs.sum).sub d
  rw[show(cs.sum:Rat)-((cs.sum:Rat)-q)=q by grind] at this;exact this
 have con:=zMt hw hc q0 q1 hi;rw[e] at con
 cases w with
 | row=>
  have z:ws=[]:=hw;subst z;exact⟨1,∅,∅,by rw[Vw];exact zHY hc q0 q1 hi e y0 y1 hB⟩
 | back=>
  have z:ws=[]:=hw;subst z;refine⟨1,∅,∅,back ?_⟩
  rw[Vw];exact zHY hc (by grind) (by grind) hi con (by grind) (by grind) dc
 | even=>
  have wi:=Wt.at hw hi;exact⟨ws.getD i 0,⋯,⋯,zBy hw hc q0 q1 hi e y1 hB⟩
 | lack=>
  have wi:=Wt.at hw hi;exact⟨ws.getD i 0,⋯,⋯,back (zBy (ws:=ws) hw hc (by grind) (by grind) hi con (by grind) dc)⟩
 | part=>
  have z:ws=[]:=hw;subst z;rw[<-uR (M:=0) (w:=.part) (ws:=[]) (f:=jW cs q) rfl hc q0 q1 (fun i _=>rfl) hi] at e;have p:=(iL (q:=q) hc hi).1;rw[e] at p
  have c0:0<cs.getD i 0:=by
   have:(0:Rat)<cR cs i:=by grind
   unfold cR at this;exact_mod_cast this
  have:=zMG hc hi
  obtain⟨k,hk⟩:=hB;refine⟨cs.getD i 0,c0,⋯,k*cs.sum,?_⟩
  unfold cR at p;rw[Vm,Vm,<-hk];grind
 | half=>
  have z:ws=[]:=hw;subst z;have W:=fG cs;refine⟨2,∅,∅,?_⟩
  by_cases h:q+q<=(cs.sum:Rat)
  ·by_cases l:y+y<cR cs i
   ·exact zHH hc q0 h hi e l hB
   ·have e0:=e
    rw[vA hc q0 h hi] at e;obtain⟨t,t0,tq,ef⟩:=zES W hc (q:=q+q) (by grind) h
    have g1:=ef i hi
    have g2:FF .even (ones cs) cs (q+q) i=y+y:=by
     have:=wR (FF .even (ones cs) cs (q+q) i)
     rw[<-e];grind
    rw[g2] at g1
    have yc:y+y=cR cs i:=by
     unfold dN mn at g1;grind
    have lt:lv (ones cs) cs i<=t:=by
     rcases (V5:t<=lv (ones cs) cs i∨lv (ones cs) cs i<=t) with u | u
     ·have:=zGm W hi u
      rw[<-g1,yc,<-zH W hi] at this;have o:cR (ones cs) i=1:=by unfold cR;rw[zEb hi];rfl
      rw[o] at this;grind
     ·exact u
    have m1:=lO W lt;rw[tq] at m1;have l0:=zIk W hc hi
    have Q0:0<=QQ (ones cs) cs (lv (ones cs) cs i):=by
     have:=lO (cs:=cs) W l0
     have z:QQ (ones cs) cs 0=0:=by
      have:∀ j∈List.range cs.length,dN (cR cs) (cR (ones cs)) 0 j=0:=fun j hj=>by
       have:=zIx hc (Qk.mp hj)
       unfold dN mn;grind
      unfold QQ jA;rw[Vp (g:=fun _=>(0:Rat)) this]
      induction (List.range cs.length) with
      | nil=>rfl
      | cons a r ih=>rw[Qo,Q4,ih];grind
     grind
    have eq:QQ (ones cs) cs (lv (ones cs) cs i)=q+q:=by
     rcases Rat.le_iff_lt_or_eq.mp m1 with u | u
     ·exfalso
      have hh:QQ (ones cs) cs (lv (ones cs) cs i)*hf+QQ (ones cs) cs (lv (ones cs) cs i)*hf=QQ (ones cs) cs (lv (ones cs) cs i):=by rw[jT];grind
      have v:=least (QQ (ones cs) cs (lv (ones cs) cs i)*hf) (by rw[jT];grind) (by rw[jT];grind)
      rw[vA hc (by rw[jT];grind) (by rw[hh];grind) hi,hh,zPB W hc l0 (by grind) Q0 hi,zGH W hi Qg,<-yc,wR] at v;grind
     ·exact u
    have d:=zQk (cs:=cs) W hi (zH W hi) (Dn.int B (cs.getD i 0));rw[eq,zEb hi,Vw] at d;have:=zKb d
    rw[wR] at this;exact this
  ·have h':((cs.sum:Rat)-q)+((cs.sum:Rat)-q)<=(cs.sum:Rat):=by grind
   have con':FF .half [] cs ((cs.sum:Rat)-q) i=cR cs i-y:=con;by_cases l:(cR cs i-y)+(cR cs i-y)<cR cs i
   ·exact back (zHH hc (by grind) h' hi con' l dc)
   ·exfalso
    have hh:(cs.sum:Rat)*hf+(cs.sum:Rat)*hf=(cs.sum:Rat):=by rw[jT];grind
    have v:=least ((cs.sum:Rat)*hf) (by rw[jT];grind) (by rw[jT];grind)
    rw[vA hc (by rw[jT];grind) (by rw[hh];exact Qg) hi,hh,zEi (w:=.even) W hc hi,jT] at v;grind
def zJd{x:Rat}{B E:Int}{m:Nat}(h:Dn (B*E) x)(b0:0<B)(e0:0<E)(hb:B<=2^m)(he:E<=2^34):(x.den:Int)<=2^(m+34):=by
 have a:=h.le (Um b0 e0);have b:B*E<=2^m*2^34:=Int.mul_le_mul hb he (X8 e0) (X8 (Yy ∅))
 rw[W4];omega
def gI(m:Nat):(1:Int)<=2^m:=by
 have:(0:Int)<2^m:=Yy ∅
 omega
def uG{a b:Nat}(h:a<=b):(2:Int)^a<=2^b:=by
 have e:(2:Int)^b=2^a*2^(b-a):=by rw[<-W4,Nat.add_sub_cancel' h]
 have p:(0:Int)<2^a:=Yy ∅
 have:=Int.mul_le_mul_of_nonneg_left (gI (b-a)) (X8 p)
 rw[e];omega
def zNU{w:Wy}{ws cs:List Int}{J:List Rat}(hw:w.due ws cs)(hc:Cl cs)(hS:cs.sum<2^34)(js:JS w ws cs J)(jd:Jd cs J){i:Nat}(hi:i<cs.length){y r:Rat}(u:zFQ (wln w ws cs J i) y r){m:Nat}(hy:(y.den:Int)<=2^m):(r.den:Int)<=2^(m+34):=by
 obtain⟨ln,la,pts,val⟩:=zMN hw hc js hi;obtain⟨u1,u2,u3⟩:=u.val ln.1 la;have le:=fun t (t0:0<=t) (l:t<r)=>u.least ln.1 la t0 l
 obtain⟨k,q,hq,hj,h⟩:=u;have hqm:=Qj hq;rcases h with⟨e,rfl⟩ | ⟨k0,hlt,p,hp,hp2,e⟩
 ·obtain⟨B,b0,b1,d⟩:=jd.2 _ (pts q hqm).1
  have:=d.le b0
  have:=uG (show 34<=m+34 by omega)
  omega
 ·have bp:=dR ln.1 la (Qj hp)
  have bq:=dR ln.1 la hqm;have y0:0<y:=by have:=bp.2.2.1;grind
  have y1:y<cR cs i:=by have:=bq.2.2.2;grind
  rw[val r u2 u3] at u1
  obtain⟨E,e0,e1,d⟩:=zRA hw hc hS u2 u3 hi u1 y0 y1 (fun t t0 l=>by
   have:=le t t0 l
   rw[val t t0 (by grind)] at this
   exact this) (Dn.den y)
  exact zJd d (gK y) e0 hy e1
def zPW{w:Wy}{ws cs:List Int}(hw:w.due ws cs)(hc:Cl cs)(hS:cs.sum<2^34){q:Rat}(q0:0<=q)(q1:q<=(cs.sum:Rat)){i:Nat}(hi:i<cs.length){m:Nat}(hq:(q.den:Int)<=2^m):((FF w ws cs q i).den:Int)<=2^(m+34):=by
 obtain⟨M,al⟩:=yG hw hc q0 q1;obtain⟨E,e0,e1,e2⟩:=zQw hw hc hS al (Dn.den q);exact zJd (e2 i hi) (gK q) e0 hq (X8 e1)
def zLK{P:Nat->Prop}:∀ n,P n->∃ k,P k/\∀ j,j<k->¬ P j:=by
 intro n
 induction n using Nat.strongRecOn with
 | ind n ih=>
  intro h;by_cases c:∃ j,j<n/\P j
  ·obtain⟨j,l,hj⟩:=c
   exact ih j l hj
  ·exact⟨n,h,fun j l hj=>c ⟨j,l,hj⟩⟩
def zQG{ps:List Pt}{e:Pt}{y:Rat}(h:Ok ps)(he:ps.getLast?=some e)(y0:0<=y)(y1:y<=e.2):∃ r,zFQ ps y r:=by
 obtain⟨k,⟨q,hq,hy⟩,hm⟩:=zLK (P:=fun k=>∃ q:Pt,ps[k]?=some q/\y<=q.2) (ps.length-1) ⟨e,by rw[<-Vn];exact he,y1⟩
 have lt:∀(j:Nat)(p:Pt),j<k->ps[j]?=some p->p.2<y:=fun j p l hp=>Rat.not_le.mp fun z=>hm j l ⟨p,hp,z⟩
 by_cases c:q.2=y
 ·exact⟨q.1,k,q,hq,lt,.inl ⟨c,rfl⟩⟩
 ·have k0:0<k:=by
   rcases Wf k with z | z
   ·subst z
    rw[<-Xw,h.1] at hq;cases hq
    have:(0:Rat)=y:=by
     have:y<=(0:Rat):=hy
     grind
    exact absurd this c
   ·exact z
  have kl:=(Qy.mp hq).1;have hp:ps[k-1]?=some (ps[k-1]'⋯):=Qq _
  exact⟨_,k,q,hq,lt,.inr ⟨k0,by grind,_,hp,lt _ _ ⋯ hp,rfl⟩⟩
structure CL (S c:Int) (g:Rat->Rat) (m k:Nat) (l:List Pt):Prop where
 ln:zNd l
 la:l.getLast?=some ((S:Rat),(c:Rat))
 val:∀ x,0<=x->x<=(S:Rat)->aP l x=g x
 len:l.length<=k
 den:∀ p∈l,(p.1.den:Int)<=2^m
 yd:∀(x:Rat)(e:Nat),0<=x->x<=(S:Rat)->(x.den:Int)<=2^e->((g x).den:Int)<=2^(e+m)
 inv:∀(y r:Rat)(e:Nat),0<=y->y<=(c:Rat)->(y.den:Int)<=2^e->zFQ l y r->(r.den:Int)<=2^(e+m)
def zEK{x:Rat}{S:Int}{m:Nat}(x0:0<=x)(x1:x<=(S:Rat))(hS:S<2^34)(h:(x.den:Int)<=2^m):Sz (35+m) x:=by
 have:=(Dn.den x).sz (a:=34) (b:=m+1) (gK x) (by rw[Int.pow_succ];have:=gI m;omega) x0 x1 hS
 exact this.mono ⋯
def CL.pt{S c:Int}{g:Rat->Rat}{m k:Nat}{l:List Pt}(h:CL S c g m k l){p:Pt}(hp:p∈l):p.2=g p.1/\0<=p.1/\p.1<=(S:Rat)/\0<=p.2/\p.2<=(c:Rat):=by
 have b:=dR h.ln.1 h.la hp;obtain⟨i,hi⟩:=Yg.mp hp;exact⟨by rw[<-h.val _ b.1 b.2.1];exact(bN h.ln.1.2 hi).symm,b⟩
def CL.sz{S c:Int}{g:Rat->Rat}{m k:Nat}{l:List Pt}(h:CL S c g m k l)(hS:S<2^34)(hc:c<2^34):∀ p∈l,SzQ (35+m) (35+2*m) p:=fun p hp=>by
 obtain⟨e,a,b,c0,d⟩:=h.pt hp;refine⟨zEK a b hS (h.den p hp),?_⟩
 have:=h.yd _ m a b (h.den p hp)
 rw[<-e] at this;exact(zEK c0 d hc this).mono ⋯
def CL.one{S c c':Int}{g g':Rat->Rat}{m m' k k':Nat}{l l':List Pt}(h:CL S c g m k l)(h':CL S c' g' m' k' l')(e:∀ x,0<=x->x<=(S:Rat)->g x=g' x):l=l':=
 zIj h.ln h'.ln h.la h'.la rfl fun x x0 x1=>by rw[h.val x x0 x1,h'.val x x0 x1];exact e x x0 x1
def lnD(l:List Pt):D:=.tup (l.map dp)
def zHq{w:Wy}{ws cs:List Int}{J:List Rat}(hw:w.due ws cs)(hc:Cl cs)(hS:cs.sum<2^34)(js:JS w ws cs J)(lJ:J.length<=30)(zJ:∀ x∈J,Sz 300 x/\∀ i,i<cs.length->Sz 670 (FF w ws cs x i))(jd:Jd cs J){i:Nat}(hi:i<cs.length){c:Int}{g:Rat->Rat}{m k:Nat}{l:List Pt}(hc2:c<2^34)(h:CL (cs.getD i 0) c g m k l)(hm:m<=272)(hk:k<=1000):
  ∃ R,gZ [lnD l,lnD (wln w ws cs J i)]=.ok (.v (lnD R))/\CL cs.sum c (fun x=>g (FF w ws cs x i)) (m+34) (k+30) R:=by
 obtain⟨ln,la,pts,val⟩:=zMN hw hc js hi;have cs1:=zMG hc hi;have zl:=h.sz ⋯ hc2
 have bl:∀ p∈l,p.1<=cR cs i:=fun p hp=>(h.pt hp).2.2.1
 have wl:(wln w ws cs J i).length<=30:=by
  have:=(oA (zFn hw hc js hi).1.2).length_le
  unfold wln;unfold jpt at this ⊢
  rw[Qe] at this;omega
 have S0:(0:Rat)<=(cs.sum:Rat):=by exact_mod_cast hc.sum.1
 obtain⟨R,e,r1,r2,r3,r4,r5⟩:=zLT (ps:=l) (qs:=wln w ws cs J i) (35+m) (35+2*m) 300 670 670 400 1000 h.ln.1 ln.1 h.la la rfl (by have:=h.len;omega) ⋯ zl
  (fun p hp=>⟨(zJ _ (pts p hp).1).1,by rw[(pts p hp).2];exact(zJ _ (pts p hp).1).2 i hi⟩) ⋯ ∅ ⋯ ⋯ ⋯
  (fun p hp r u=>by
   have d:=zNU hw hc hS js jd hi u (h.den p hp);obtain⟨_,v2,v3⟩:=u.val ln.1 la
   exact(zEK v2 v3 hS d).mono ⋯)
  (fun y hy=>by
   have key:0<=y/\y<=cR cs i/\Sz 670 y:=by
    rcases hy with⟨q,hq,rfl⟩ | ⟨p,hp,rfl⟩
    ·have b:=dR ln.1 la hq
     exact⟨b.2.2.1,b.2.2.2,by rw[(pts q hq).2];exact(zJ _ (pts q hq).1).2 i hi⟩
    ·exact⟨(h.pt hp).2.1,bl p hp,(zl p hp).1.mono ⋯⟩
   obtain⟨y0,y1,y2⟩:=key;refine⟨y2,?_⟩
   have v:=uI h.ln.1 h.la y0 y1;rw[h.val y y0 y1] at v ⊢
   have d:=h.yd y 670 y0 y1 (by have:=y2.2;omega)
   exact(zEK v.1 v.2 hc2 d).mono ⋯)
 refine⟨R,e,r1,r2,fun x x0 x1=>?_,by have:=h.len;omega,fun p hp=>?_,fun x e x0 x1 xd=>?_,fun y r e y0 y1 yd u=>?_⟩
 ·have b:=zLx hw hc x0 x1
  rw[r4 x x0 x1,val x x0 x1,h.val _ (b.1 i hi).1 (b.1 i hi).2]
 ·rcases (r5 p hp).2 with⟨q,hq,e⟩ | ⟨q,hq,u⟩
  ·obtain⟨B,b0,b1,d⟩:=jd.2 _ (pts q hq).1
   rw[e];have:=d.le b0
   have:=uG (show 34<=m+34 by omega)
   omega
  ·exact zNU hw hc hS js jd hi u (h.den q hq)
 ·have b:=zLx hw hc x0 x1
  have:=h.yd _ (e+34) (b.1 i hi).1 (b.1 i hi).2 (zPW hw hc hS x0 x1 hi xd)
  rw[show e+(m+34)=e+34+m by omega];exact this
 ·obtain⟨z,uz⟩:=zQG h.ln.1 h.la y0 y1
  have dz:=h.inv y z e y0 y1 yd uz;obtain⟨z1,z2,z3⟩:=uz.val h.ln.1 h.la;obtain⟨x,ux⟩:=zQG ln.1 la z2 z3;have dx:=zNU hw hc hS js jd hi ux dz;obtain⟨x1,x2,x3⟩:=ux.val ln.1 la
  have er:r=x:=u.uniq r1.1 r2 (by rw[r4 x x2 x3,x1,z1]) x2 fun t t0 l=>by
   have t1:t<=(cs.sum:Rat):=Q3 (Qh l) x3;rw[r4 t t0 t1];exact uz.least h.ln.1 h.la (uI ln.1 la t0 t1).1 (ux.least ln.1 la t0 l)
  rw[er,show e+(m+34)=e+m+34 by omega];exact dx
def fW(ns:List Int)(k:Int)(h:0<=k):bP [.lst (ns.map D.int),.int k]=.ok (.v (.int (ns.getD k.toNat 0))):=by
 unfold bP;symm;by_cases c:k<(ns.length:Int)
 ·rw[J6 c]
  symm;have hk:k.toNat<ns.length:=⋯
  rw[qV h (Qq hk),Qv,Qq hk];rfl
 ·rw[Jj c]
  symm;rw[Qv,Qz ⋯];rfl
def zGJ{c:Int}(c0:0<=c)(c1:c<2^34):∃ l,gF [.int c]=.ok (.v (lnD l))/\CL c c (fun x=>x) 34 32 l/\l=if c=0 then [(0,0)] else [(0,0),((c:Rat),(c:Rat))]:=by
 have yd:∀(x:Rat)(e:Nat),0<=x->x<=(c:Rat)->(x.den:Int)<=2^e->(x.den:Int)<=2^(e+34):=fun x e _ _ h=>Xm h (uG ⋯)
 have z0:SzQ 40 40 ((0:Rat),(0:Rat)):=by
  have:=(Dn.zero 1).sz (a:=34) (b:=1) (c:=0) ∅ ∅ Qg Qg ∅
  exact⟨this.mono ∅,this.mono ∅⟩
 by_cases h:c=0
 ·subst h
  have ok:Ok [((0:Rat),(0:Rat))]:=⟨rfl,Ur _ _⟩;have le:mH [((0:Rat),(0:Rat))]=[((0:Rat),(0:Rat))]:=rfl;refine⟨[(0,0)],?_,⟨le ▸ lF ok,rfl,fun x x0 x1=>?_,by show 1<=32;decide,fun p hp=>?_,yd,fun y r e y0 y1 yd u=>?_⟩,by rw[Jk rfl]⟩
  ·unfold gF
   symm;rw[show D.lst [dp (0,0)]=.lst ([((0:Rat),(0:Rat))].map dp) from rfl,qB (n:=40) (m:=40) (.inl rfl) (by show 1<=100000;decide) (fun p hp=>by rw[Qr.mp hp];exact z0) ∅ ok];symm;rfl
  ·have:x=0:=by rw[show((0:Int):Rat)=0 from rfl] at x1;grind
   subst this;exact bN ok.2 (i:=0) rfl
  ·rw[Qr.mp hp]
   exact gI 34
  ·obtain⟨_,r0,r1⟩:=u.val ok (e:=(0,0)) rfl
   have:r=0:=by
    have r1':r<=(0:Rat):=r1;grind
   rw[this];exact gI _
 ·have cp:(0:Rat)<(c:Rat):=by exact_mod_cast (show 0<c by omega)
  have ok:Ok [((0:Rat),(0:Rat)),((c:Rat),(c:Rat))]:=⟨rfl,Qp.mpr ⟨fun p hp=>by rw[Qr.mp hp];exact⟨cp,Qh cp⟩,Ur _ _⟩⟩
  have le:mH [((0:Rat),(0:Rat)),((c:Rat),(c:Rat))]=[((0:Rat),(0:Rat)),((c:Rat),(c:Rat))]:=rfl
  have zc:Sz 40 (c:Rat):=by
   have:=(Dn.int 1 c).sz (a:=34) (b:=1) ∅ ∅ (Qh cp) Qg c1
   exact this.mono ∅
  have val:∀ x:Rat,0<=x->x<=(c:Rat)->aP [((0:Rat),(0:Rat)),((c:Rat),(c:Rat))] x=x:=fun x x0 x1=>by
   rw[cK ok.2 (i:=0) rfl rfl x0 x1];unfold itp;show(0:Rat)+(x-0) / ((c:Rat)-0)*((c:Rat)-0)=x
   have:(x-0) / ((c:Rat)-0)*((c:Rat)-0)=x-0:=Vt (by grind)
   rw[this];grind
  refine⟨[(0,0),((c:Rat),(c:Rat))],?_,⟨le ▸ lF ok,rfl,fun x x0 x1=>?_,by show 2<=32;decide,fun p hp=>?_,yd,fun y r e y0 y1 yd u=>?_⟩,by rw[Jl h]⟩
  ·unfold gF
   erw[Jj h,bR,bR];symm
   rw[show D.lst [dp (0,0),dp ((c:Rat),(c:Rat))]=.lst ([((0:Rat),(0:Rat)),((c:Rat),(c:Rat))].map dp) from rfl,qB (n:=40) (m:=40) (.inl rfl) (by show 2<=100000;decide) (fun p hp=>by
    rcases Qc.mp hp with rfl | hp
    ·exact z0
    ·rw[Qr.mp hp];exact⟨zc,zc⟩) ∅ ok]
   symm;rfl
  ·exact val x x0 x1
  ·rcases Qc.mp hp with rfl | hp
   ·exact gI 34
   ·rw[Qr.mp hp];exact gI 34
  ·obtain⟨r2,r0,r1⟩:=u.val ok (e:=((c:Rat),(c:Rat))) rfl
   rw[val r r0 r1] at r2;rw[r2];exact Xm yd (uG ⋯)
def LLg(S:Int)(A:List Int)(f:Rat->List Rat)(m k:Nat)(ls:List (List Pt)):Prop:=ls.length=A.length/\∀ j,j<A.length->CL S (A.getD j 0) (fun x=>(f x).getD j 0) m k (ls.getD j [])
def zKg{r:Type}{a b:List r}{j:Nat}{z:r}(h:j<a.length):(a++b).getD j z=a.getD j z:=by
 rw[Qv,Qv,Vk h]
def zHi{r:Type}{a b:List r}{j:Nat}{z:r}(h:a.length<=j):(a++b).getD j z=b.getD (j-a.length) z:=by
 rw[Qv,Qv,Vh h]
def zPM{S:Int}{A B:List Int}{f g:Rat->List Rat}{m k:Nat}{la lb:List (List Pt)}(ha:LLg S A f m k la)(hb:LLg S B g m k lb)(fl:∀ x,(f x).length=A.length):LLg S (A++B) (fun x=>f x++g x) m k (la++lb):=by
 refine⟨by rw[Qi,Qi,ha.1,hb.1],fun j hj=>?_⟩
 by_cases h:j<A.length
 ·have e:(fun x=>(f x++g x).getD j 0)=fun x=>(f x).getD j 0:=funext fun x=>zKg (by rw[fl];exact h)
  rw[e,zKg h,zKg (by rw[ha.1];exact h)];exact ha.2 j h
 ·have e:(fun x=>(f x++g x).getD j 0)=fun x=>(g x).getD (j-A.length) 0:=funext fun x=>by rw[zHi (by rw[fl];omega),fl]
  rw[e,zHi ⋯,zHi (by rw[ha.1];omega),ha.1];rw[Qi] at hj;exact hb.2 _ ⋯
def zLb{r:Type}(l:List r)(a:r):l=(List.range l.length).map fun j=>l.getD j a:=by
 refine Yi fun j=>?_
 rw[Qu];by_cases h:j<l.length
 ·rw[Xa h,Option.map_some,Qv,Qq h]
  rfl
 ·rw[Qz ⋯,Qz (l:=List.range l.length) (by rw[Q2];omega)]
  rfl
def zHd{w:Wy}{ws cs:List Int}{J:List Rat}(hw:w.due ws cs)(hc:Cl cs)(hS:cs.sum<2^34)(js:JS w ws cs J)(lJ:J.length<=30)(zJ:∀ x∈J,Sz 300 x/\∀ i,i<cs.length->Sz 670 (FF w ws cs x i))(jd:Jd cs J){i:Nat}(hi:i<cs.length){A:List Int}{f:Rat->List Rat}{m k:Nat}{ls:List (List Pt)}(hA:∀ c∈A,c<2^34)(h:LLg (cs.getD i 0) A f m k ls)(hm:m<=272)(hk:k<=1000):
  ∃ bf:Nat->List Pt,(∀ j,j<A.length->gZ [lnD (ls.getD j []),lnD (wln w ws cs J i)]=.ok (.v (lnD (bf j))))/\LLg cs.sum A (fun x=>f (FF w ws cs x i)) (m+34) (k+30) ((List.range A.length).map bf):=by
 have each:∀ j,j<A.length->∃ R,gZ [lnD (ls.getD j []),lnD (wln w ws cs J i)]=.ok (.v (lnD R))/\CL cs.sum (A.getD j 0) (fun x=>(f (FF w ws cs x i)).getD j 0) (m+34) (k+30) R:=fun j hj=>
  zHq hw hc hS js lJ zJ jd hi (hA _ (Qj (bO hj))) (h.2 j hj) hm hk
 let bf:Nat->List Pt:=fun j=>if hj:j<A.length then Classical.choose (each j hj) else []
 have hb:∀ j (hj:j<A.length),gZ [lnD (ls.getD j []),lnD (wln w ws cs J i)]=.ok (.v (lnD (bf j)))/\CL cs.sum (A.getD j 0) (fun x=>(f (FF w ws cs x i)).getD j 0) (m+34) (k+30) (bf j):=fun j hj=>by
  have e:bf j=Classical.choose (each j hj):=J7 hj;rw[e];exact Uq (each j hj)
 refine⟨bf,fun j hj=>(hb j hj).1,by rw[Qe,Q2],fun j hj=>?_⟩
 have e:((List.range A.length).map bf).getD j []=bf j:=by rw[Qv,Qu,Xa hj];rfl
 rw[e];exact(hb j hj).2
def jB:∀(n N:Nat)(d:D),Gc n d->n<=N->n<=9->∃ Ls:List (List Pt),cQ N [d]=.ok (.f (Ls.map lnD))/\LLg (clm n d).sum (clm n d) (SF n d) (34*n) (2+30*n) Ls
 | 0,_,_,h,_,_=>h.1.elim
 | n+1,0,_,_,hN,_=>⋯
 | n+1,N+1,d,g,hN,hn=>by
  rcases g.1 with⟨c,rfl⟩ | ⟨w,ws,ks,rfl,hw,k0,k1,w1,hy,hk⟩
  ·have c01:0<=c/\c<=10^9:=g.2.2 c Qb
   obtain⟨l,el,cl,_⟩:=zGJ c01.1 ⋯
   have se:(clm (n+1) (.tup [.str "boat", .int c])).sum=c:=by show([c]:List Int).sum=c;simp
   refine⟨[l],?_,rfl,fun j hj=>?_⟩
   ·show iZ (cQ N) _=_
    unfold iZ;erw[oI];symm;rw[sE g.1 ⋯ (by show 1<=1000;decide),se];erw[el];symm
   ·have hj':j<1:=hj
    have j0:j=0:=⋯
    subst j0;rw[se];exact⟨cl.ln,cl.la,cl.val,Q5 cl.len ⋯,fun p hp=>Xm (cl.den p hp) (uG ⋯),fun x e x0 x1 xd=>Xm (cl.yd x e x0 x1 xd) (uG ⋯),fun y r e y0 y1 yd u=>Xm (cl.inv y r e y0 y1 yd u) (uG ⋯)⟩
  ·obtain⟨v,rfl⟩:=zKS hy.1
   have cl:=g.cl hk k0;have l12:(ks.flatMap (clm n)).length<=12:=g.2.1;have hs:(kcl n ks).sum=(clm (n+1) (.tup [.str v.s,.tup (ws.map D.int),.tup ks])).sum:=zFo ks;have gs:=g.sum;have due:v.due ws (kcl n ks):=zMa (by rw[jC];exact hy.2)
   have hS:(kcl n ks).sum<2^34:=by rw[hs];omega
   obtain⟨J,eJ,js,lJ,zJ,jd⟩:=zDI (wd:=.tup (ws.map D.int)) (.inr rfl) (zNh (kcl n ks)) due cl;have ew:((List.range (kcl n ks).length).map fun i=>D.tup ((wln v ws (kcl n ks) J i).map dp))=(List.range' 0 ks.length).map fun i=>lnD (wln v ws (kcl n ks) J i):=by rw[jC,W5];rfl
   rw[ew] at eJ
   have loopOk:∀(js':List D)(i:Nat)(acc:List (List Pt))(s t:Sl),(∀ k∈js',k∈ks)->i+js'.length=ks.length->ks.drop i=js'->LLg (kcl n ks).sum ((ks.take i).flatMap (clm n)) (fun x=>SFL (SF n) (FF v ws (kcl n ks) x) (ks.take i) 0) (34*n+34) (2+30*n+30) acc->∃ xs s' t',LLg (kcl n ks).sum (ks.flatMap (clm n)) (fun x=>SFL (SF n) (FF v ws (kcl n ks) x) ks 0) (34*n+34) (2+30*n+30) xs/\
     loop (zGW (mP (gName 3) (mP (gName 4) zGY))) (sZ (cQ N)) (kL js' ((List.range' i js'.length).map fun i=>lnD (wln v ws (kcl n ks) J i))) [.val (.tup [.str v.s,.tup (ws.map D.int),.tup ks]),.val (.lst ((List.range' 0 ks.length).map fun i=>lnD (wln v ws (kcl n ks) J i))),.own (acc.map lnD),s,t]=
      .ok (.nx [.val (.tup [.str v.s,.tup (ws.map D.int),.tup ks]),.val (.lst ((List.range' 0 ks.length).map fun i=>lnD (wln v ws (kcl n ks) J i))),.own (xs.map lnD),s',t']):=by
    intro js'
    induction js' with
    | nil=>
     intro i acc s t _ h1 _ h2;rw[Yc,Nat.add_zero] at h1;rw[h1,Vx] at h2;exact⟨acc,s,t,h2,rfl⟩
    | cons k r ih=>
     intro i acc s t hm' hl' hd' ha;have hik:i<ks.length:=by rw[Qn] at hl';omega
     have ik:k∈ks:=hm' k Qb;have gk:=g.kid hk ik
     have ki:ks[i]?=some k:=by
      have:=Wz (xs:=ks) (i:=i) (j:=0)
      rw[hd'] at this;simpa using this.symm
     obtain⟨i1,i2⟩:=zNe (n:=n) ki
     have ci:(kcl n ks).getD i 0=(clm n k).sum:=by
      unfold kcl;rw[Qv,Qu,ki];rfl
     obtain⟨lk,ek,sk⟩:=jB n N k gk ⋯ ⋯
     rw[<-ci] at sk;obtain⟨bf,b1,b2⟩:=zHd due cl hS js lJ zJ jd i1 (fun c hc=>by have:=(gk.2.2 c hc).2;omega) sk ⋯ ⋯
     have tk:ks.take (i+1)=ks.take i++[k]:=by rw[List.take_add_one,ki];rfl
     have lt:(ks.take i).length=i:=by rw[Xq];omega
     have nx:LLg (kcl n ks).sum ((ks.take (i+1)).flatMap (clm n)) (fun x=>SFL (SF n) (FF v ws (kcl n ks) x) (ks.take (i+1)) 0) (34*n+34) (2+30*n+30) (acc++(List.range (clm n k).length).map bf):=by
      have q:=zPM ha b2 fun x=>zEw fun k' hk' q=>zER (hk k' (X0 hk')) q
      rw[tk,X1,Vu,Uv,Vf]
      have e:(fun x=>SFL (SF n) (FF v ws (kcl n ks) x) (ks.take i++[k]) 0)=fun x=>SFL (SF n) (FF v ws (kcl n ks) x) (ks.take i) 0++SF n k (FF v ws (kcl n ks) x i):=funext fun x=>by
       rw[zId,lt,Xl];show _++(SF n k (FF v ws (kcl n ks) x i)++[])=_
       rw[Vf]
      rw[e];exact q
     obtain⟨xs,s',t',sy,ey⟩:=ih (i+1) (acc++(List.range (clm n k).length).map bf) (.val k) (.val (lnD (wln v ws (kcl n ks) J i))) (fun x hx=>hm' x (Qd _ hx)) (by rw[Qn] at hl';omega) (by rw[<-List.drop_drop,hd'];rfl) nx
     refine⟨xs,s',t',sy,?_⟩
     have la:=nx.1;have lf:((ks.take (i+1)).flatMap (clm n)).length<=(ks.flatMap (clm n)).length:=zMU;rw[Qi,Qe,Q2] at la;have lk':lk.length=(clm n k).length:=sk.1;rw[zLb lk [],lk',Qw] at ek;rw[Qn,List.range'_succ,Qo,show kL (k::r) (lnD (wln v ws (kcl n ks) J i)::(List.range' (i+1) r.length).map fun i=>lnD (wln v ws (kcl n ks) J i))=.tup [k,lnD (wln v ws (kcl n ks) J i)]::kL r ((List.range' (i+1) r.length).map fun i=>lnD (wln v ws (kcl n ks) J i)) from rfl]
     rw[cY (ρ1:=[.val (.tup [.str v.s,.tup (ws.map D.int),.tup ks]),.val (.lst ((List.range' 0 ks.length).map fun i=>lnD (wln v ws (kcl n ks) J i))),.own (acc.map lnD),.val k,.val (lnD (wln v ws (kcl n ks) J i))]) (ρ2:=[.val (.tup [.str v.s,.tup (ws.map D.int),.tup ks]),.val (.lst ((List.range' 0 ks.length).map fun i=>lnD (wln v ws (kcl n ks) J i))),.own ((acc++(List.range (clm n k).length).map bf).map lnD),.val k,.val (lnD (wln v ws (kcl n ks) J i))]) (by symm) (by
      erw[ek];symm
      rw[eX (u:=lnD ∘ fun j=>lk.getD j []) (g:=fun j=>lnD (bf j)) (by rw[Q2];omega) (fun j hj=>by
       symm;rw[show(lnD ∘ fun j=>lk.getD j []) j=lnD (lk.getD j []) from rfl,b1 j (Qk.mp hj)]
       symm)]
      symm;rw[Jk (by simp only[Qe,Q2];omega),Q9,Qw]
      rfl),ey]
   obtain⟨xs,s',t',sx,ex⟩:=loopOk ks 0 [] .un .un (fun k h=>h) ⋯ rfl ⟨rfl,fun j hj=>absurd hj (Nat.not_lt_zero j)⟩
   refine⟨xs,?_,?_⟩
   ·show iZ (cQ N) _=_
    unfold iZ;erw[oB hw,zFb,sR,sV hw hk ⋯ ⋯,eJ,kT hw,pD rfl rfl];symm;rw[Xd] at ex;rw[ex];rfl
   ·have e:(fun x=>SFL (SF n) (FF v ws (kcl n ks) x) ks 0)=SF (n+1) (.tup [.str v.s,.tup (ws.map D.int),.tup ks]):=funext fun x=>(nK n v ws ks x).symm
    rw[e,hs] at sx;exact sx
abbrev zUl:D:=.lst [.str "row", .str "back", .str "even", .str "lack", .str "part", .str "half"]
def zOw(k:Int)(h0:0<=k)(h1:k<6):∃ w∈wys,oIx zUl (.int k)=.ok (.str w):=by
 have hk:k=0∨k=1∨k=2∨k=3∨k=4∨k=5:=⋯
 rcases hk with rfl | rfl | rfl | rfl | rfl | rfl
 all_goals exact⟨_,by simp[wys],rfl⟩
def zFe:∀ {ds:List D} {n i:Nat} {d:D},(pY n ds)[i]?=some d->∃ a,ds[i]?=some a/\d=.tup [.int ((n+i:Nat):Int),a]
 | a::r,n,0,d,h=>by cases h;exact⟨a,rfl,rfl⟩
 | a::r,n,i+1,d,h=>by
  obtain⟨b,h1,h2⟩:=zFe (ds:=r) (n:=n+1) (i:=i) h;exact⟨b,h1,by rw[h2];congr 4;omega⟩
 | [],n,i,d,h=>by cases i<;>cases h
def zEU:∀(ds:List D)(n:Nat),(pY n ds).length=ds.length
 | a::r,n=>by simp only[pY,Qn,zEU r (n+1)]
 | [],n=>rfl
def Nms(ns:List Str):Prop:=ns.length<=100/\∀ x∈ns,x.length<=1000
def zDK{ds:List D}{a:Int}(h:a<0):iO ds (some a) none=ds.drop (ds.length-(-a).toNat):=by
 unfold iO cut;simp only[Jl (show ¬ 0<=a by omega)];rw[show((ds.length:Int)+a).toNat=ds.length-(-a).toNat by omega];exact Y6 (by rw[Xs];omega)
def wJ{ds:List D}{a:Int}(h:a<0):iO ds none (some a)=ds.take (ds.length-(-a).toNat):=by
 unfold iO cut;simp only[Jl (show ¬ 0<=a by omega),List.drop_zero,Nat.sub_zero];rw[show((ds.length:Int)+a).toNat=ds.length-(-a).toNat by omega]
def zIy(ns:List Int)(a most:Int)(a0:0<=a)(m1:1<=most)(m2:most<=100):∃ cs:List Int,hJ [.lst (ns.map D.int),.int a,.int most]=.ok (.f (cs.map D.int))/\1<=cs.length/\(cs.length:Int)<=most/\∀ c∈cs,0<=c/\c<=10^9:=by
 unfold hJ;erw[fW ns a a0];generalize ns.getD a.toNat 0=x;have q0:=Vi x (show most≠0 by omega)
 have q1:=V4 x (show 0<most by omega)
 symm;rw[oMod_i ⋯,fmod_pos _ ⋯];symm;generalize x % most=q at q0 q1;rw[zAP ⋯ ⋯];symm;refine oY (Q:=fun r=>∃ cs:List Int,r.bind fin=.ok (.f (cs.map D.int))/\1<=cs.length/\(cs.length:Int)<=most/\∀ c∈cs,0<=c/\c<=10^9) (k:=zGX oQ) (fun i ρ=>∃(cs:List Int)(s t:Sl),ρ=[.val (.lst (ns.map D.int)),.val (.int a),.val (.int most),.own (cs.map D.int),s,t]/\cs.length=i/\∀ c∈cs,0<=c/\c<=10^9) ⟨[],_,_,rfl,rfl,fun c h=>by cases h⟩ ?_ ?_
 ·rintro i e ρ he ⟨cs,s,t,rfl,hl,hc⟩
  obtain⟨hi,rfl⟩:=zKj he;rw[show(0:Int)+(i:Int)*1=(i:Int) by omega];erw[fW ns _ ⋯];generalize ns.getD (a+1+(i:Int)).toNat 0=y;symm;have c0:=Vi y (b:=10^30) ∅
  generalize y % 10^30=cell at c0;have p1:(0:Int)<=cell / 3 % 13/\cell / 3 % 13<13:=⟨Vi _ ∅,V4 _ ∅⟩
  have p2:(0:Int)<=cell / 3 % 3/\cell / 3 % 3<3:=⟨Vi _ ∅,V4 _ ∅⟩
  have p3:(0:Int)<=cell / 3 % (10^9+1)/\cell / 3 % (10^9+1)<10^9+1:=⟨Vi _ ∅,V4 _ ∅⟩
  have p4:(0:Int)<=cell % 3/\cell % 3<3:=⟨Vi _ ∅,V4 _ ∅⟩
  obtain⟨u,hu,e⟩:∃ u:Int,(0<=u/\u<=10^9)/\oIx (.lst [.int (cell / 3 % 13),.int (cell / 3 % 3),.int (cell / 3 % (10^9+1))]) (.int (cell % 3))=.ok (.int u):=by
   generalize cell % 3=k at p4;have hk:k=0∨k=1∨k=2:=⋯
   rcases hk with rfl | rfl | rfl
   ·exact⟨_,⋯,rfl⟩
   ·exact⟨_,⋯,rfl⟩
   ·exact⟨_,⋯,rfl⟩
  rw[oMod_i ⋯,fmod_pos _ ⋯];erw[e,Jk ⋯];refine⟨_,rfl,cs++[u],_,_,by rw[Q9];rfl,by rw[Qi,hl];rfl,fun c hc'=>?_⟩
  rcases Q8.mp hc' with h | h
  ·exact hc c h
  ·rw[Qr.mp h];exact hu
 ·rintro ρ ⟨cs,s,t,rfl,hl,hc⟩
  have ll:(rng 0 (1+q).toNat 1).length=(1+q).toNat:=by unfold rng;simp
  exact⟨cs,rfl,⋯,⋯,hc⟩
def zEj{ks:List D}{cell:Int}{n:Nat}(c0:0<=cell)(k0:0<ks.length)(hn:n<=7)(hk:∀ k∈ks,IsC n k)(hc:(ks.flatMap (clm n)).length<=12):∃(w:Str)(ws:List Int),fL [.lst ks,.int cell]=.ok (.v (.tup [.str w,.tup (ws.map D.int),.tup ks]))/\IsC (n+1) (.tup [.str w,.tup (ws.map D.int),.tup ks]):=by
 have kl:=yR hk;have q6:0<=cell % 6/\cell % 6<6:=⟨Vi _ ∅,V4 _ ∅⟩
 obtain⟨w,hw,ew⟩:=zOw _ q6.1 q6.2;have key:∀(ws:List Int),wOK w ws ks.length->ws.length<=100->kG [.str w,.lst (ws.map D.int),.lst ks]=.ok (.v (.tup [.str w,.tup (ws.map D.int),.tup ks]))/\IsC (n+1) (.tup [.str w,.tup (ws.map D.int),.tup ks]):=fun ws hs hl=>zNa (.inl rfl) hw hs hl k0 ⋯ hn hk hc
 have nl:noLs ks=true:=zEo fun d hd=>zBa _ _ (zFv _ _ (hk d hd))
 unfold fL;erw[ew];symm
 have even:(w = "even" ∨ w = "lack")->∃(w':Str)(ws:List Int),(((dF 3 (eF (iW (xE (aB (eB lM (aB (aG 0) aNil)) aNil)) iK (eOp yF (eC (.int 1)) (eOp pP (eOp zB (aG 1) (eOp yF (eC (.int 6)) (eOp yX (eC (.int 13)) (aG 4)))) (eC (.int 4))))))) [.val (.lst ks),.val (.int cell),.val (.str w),.val (.lst [])]).bind (zGX tH)).bind fin=.ok (.v (.tup [.str w',.tup (ws.map D.int),.tup ks]))/\IsC (n+1) (.tup [.str w',.tup (ws.map D.int),.tup ks]):=fun hw2=>by
  erw[zAP ⋯ ⋯,show rng 0 ((ks.length:Int)).toNat 1=(List.range ks.length).map fun j:Nat=>D.int (j:Int) by unfold rng;rw[Xf];exact Vp fun j _=>by rw[show(0:Int)+(j:Int)*1=(j:Int) by omega]]
  rw[eX (u:=fun j:Nat=>D.int (j:Int)) (g:=fun j:Nat=>D.int (1+cell / (6+13*(j:Int)) % 4)) (by rw[Q2];omega) (fun j hj=>by
   symm;rw[oDiv_i (i:=cell) (j:=6+13*(j:Int)) (okDiv_lit ⋯ (by have:=Qk.mp hj;omega)),fdiv_pos _ ⋯]
   symm)]
  symm
  obtain⟨k1,k2⟩:=key ((List.range ks.length).map fun j:Nat=>1+cell / (6+13*(j:Int)) % 4) (.inl ⟨hw2,by rw[Qe,Q2],fun x hx=>by
   obtain⟨j,_,rfl⟩:=Qm.mp hx;have a:=Vi (cell / (6+13*(j:Int))) (b:=4) ∅
   have b:=V4 (cell / (6+13*(j:Int))) (b:=4) ∅
   omega⟩) (by rw[Qe,Q2];omega)
  rw[Qw] at k1;rw[show((List.range ks.length).map fun j:Nat=>D.int (1+cell / (6+13*(j:Int)) % 4))=(List.range ks.length).map (D.int ∘ fun j:Nat=>1+cell / (6+13*(j:Int)) % 4) from rfl,k1];symm;exact⟨w,_,by rw[Qw],k2⟩
 have bq:∀ x:Str,(w==x)=decide (w=x):=fun x=>by
  by_cases h:w=x
  ·subst h;simp
  ·simp[h]
 generalize hA:(dF 3 (eF (iW (xE (aB (eB lM (aB (aG 0) aNil)) aNil)) iK (eOp yF (eC (.int 1)) (eOp pP (eOp zB (aG 1) (eOp yF (eC (.int 6)) (eOp yX (eC (.int 13)) (aG 4)))) (eC (.int 4)))))):Sv)=A at even ⊢;rw[bq];by_cases h1:w = "even"
 ·rw[J6 h1]
  symm;exact even (.inl h1)
 ·rw[Jj h1]
  erw[bq];by_cases h2:w = "lack"
  ·rw[J6 h2]
   symm;exact even (.inr h2)
  ·rw[Jj h2]
   symm;obtain⟨k1,k2⟩:=key [] (.inr ⟨fun z=>z.elim h1 h2,rfl⟩) ∅
   rw[show D.lst []=.lst (([]:List Int).map D.int) from rfl,k1];exact⟨w,[],rfl,k2⟩
structure Pt2 (cs:List Int) (i:Nat) (L:List D):Prop where
 each:∀ p∈L,IsC (i+1) p
 all:L.flatMap (clm 7)=cs.take i
 pos:0<i->0<L.length
def zAj{cs ns:List Int}{a:Int}(a0:0<=a)(l1:1<=cs.length)(l5:cs.length<=5)(hc:∀ c∈cs,0<=c/\c<=10^9):∃(w:Str)(ws:List Int)(ks:List D),eI [.lst (cs.map D.int),.lst (ns.map D.int),.int a]=.ok (.v (.tup [.str w,.tup (ws.map D.int),.tup ks]))/\Gc 8 (.tup [.str w,.tup (ws.map D.int),.tup ks])/\clm 8 (.tup [.str w,.tup (ws.map D.int),.tup ks])=cs/\IsC 7 (.tup [.str w,.tup (ws.map D.int),.tup ks]):=by
 have fm:∀ {L:List D} {n:Nat},n<=7->(∀ p∈L,IsC n p)->L.flatMap (clm n)=L.flatMap (clm 7):=fun {L n} hn h=>by
  rw[Uu,Uu];congr 1
  exact Vp fun d hd=>(cO (h d hd) hn).symm
 unfold eI;symm;refine oY (Q:=fun r=>∃(w:Str)(ws:List Int)(ks:List D),r.bind fin=.ok (.v (.tup [.str w,.tup (ws.map D.int),.tup ks]))/\Gc 8 (.tup [.str w,.tup (ws.map D.int),.tup ks])/\clm 8 (.tup [.str w,.tup (ws.map D.int),.tup ks])=cs/\IsC 7 (.tup [.str w,.tup (ws.map D.int),.tup ks])) (k:=zGX tE) (fun i ρ=>∃(L:List D)(s4 s5 s6 s7:Sl),ρ=[.val (.lst (cs.map D.int)),.val (.lst (ns.map D.int)),.val (.int a),.own L,s4,s5,s6,s7]/\Pt2 cs i L) ⟨[],_,_,_,_,rfl,⟨fun p h=>(by cases h),by simp,fun h=>absurd h ∅⟩⟩ ?_ ?_
 ·rintro i e ρ he ⟨L,s4,s5,s6,s7,rfl,pt⟩
  obtain⟨x,hx,rfl⟩:=zFe he;rw[Qu] at hx
  obtain⟨c,hcx,rfl⟩:∃ c,cs[i]?=some c/\x=.int c:=by
   cases q:cs[i]? with
   | none=>rw[q] at hx;cases hx
   | some c=>rw[q] at hx;cases hx;exact⟨c,rfl,rfl⟩
  have hi:=(Qy.mp hcx).1;have cb:=hc c (Qj hcx);have tk:cs.take (i+1)=cs.take i++[c]:=kY hcx
  have allL:(L++[D.tup [.str "boat", .int c]]).flatMap (clm 7)=cs.take (i+1):=by
   rw[X1,pt.all,tk];rfl
  have eachL:∀ p∈L++[D.tup [.str "boat", .int c]],IsC (i+1) p:=fun p hp=>by
   rcases Q8.mp hp with h | h
   ·exact pt.each p h
   ·rw[Qr.mp h];exact .inl ⟨c,rfl⟩
  have lenL:(L++[D.tup [.str "boat", .int c]]).length<=5:=by
   have:=yR eachL
   rw[fm ⋯ eachL,allL,Xq] at this;omega
  have posL:0<(L++[D.tup [.str "boat", .int c]]).length:=by rw[Qi];exact V0 _
  have lenL':L.length<=4:=by rw[Qi] at lenL;exact Qal lenL
  generalize hM:L++[D.tup [.str "boat", .int c]]=M at allL eachL lenL posL;erw[zFC cb.1 cb.2];symm;rw[Jk ⋯,hM];erw[fW ns _ ⋯];symm;have q0:=Vi (ns.getD (a+(i:Int)).toNat 0) (b:=10^30) ∅
  generalize ns.getD (a+(i:Int)).toNat 0 % 10^30=cell at q0;by_cases c2:cell % 2=1
  ·rw[J6 c2]
   symm;have u0:=Vi (cell / 2) (show min 3 (M.length:Int)≠0 by omega)
   have u1:=V4 (cell / 2) (show 0<min 3 (M.length:Int) by omega)
   rw[oMod_i ⋯,fmod_pos _ ⋯];generalize cell / 2 % min 3 (M.length:Int)=q at u0 u1;symm;rw[wJ ⋯,zDK ⋯];have lp:0<(M.drop (M.length-(- -(1+q)).toNat)).length:=by rw[Xs];omega
   generalize hk:M.length-(- -(1+q)).toNat=k at lp;have sub:∀ d∈M.drop k,d∈M:=fun d hd=>Ut hd
   obtain⟨w,ws,ew,kc⟩:=zEj (ks:=M.drop k) (cell:=cell / 6) (n:=i+1) ⋯ lp ⋯ (fun d hd=>eachL d (sub d hd)) (by
    have:((M.take k).flatMap (clm (i+1))++(M.drop k).flatMap (clm (i+1))).length<=12:=by
     rw[<-X1,Y1,fm ⋯ eachL,allL,Xq];omega
    rw[Qi] at this
    omega)
   rw[ew];erw[Jk (by rw[Xq];omega)]
   have nl:noLs (M.take k++[.tup [.str w,.tup (ws.map D.int),.tup (M.drop k)]])=true:=zEo fun d hd=>by
    rcases Q8.mp hd with h | h
    ·exact zBa _ _ (zFv _ _ (eachL d (X0 h)))
    ·rw[Qr.mp h];exact zBa _ _ (zFv _ _ kc)
   erw[Jk nl];refine⟨_,rfl,_,_,_,_,_,rfl,⟨fun p hp=>?_,?_,fun _=>by rw[Qi];exact V0 _⟩⟩
   ·rcases Q8.mp hp with h | h
    ·exact eH (eachL p (X0 h)) ⋯
    ·rw[Qr.mp h];exact kc
   ·rw[X1,Vu,Uv,Vf,cO (m:=7) kc ⋯,show clm (i+1+1) (D.tup [.str w,.tup (ws.map D.int),.tup (M.drop k)])=(M.drop k).flatMap (clm (i+1)) from rfl,fm (L:=M.drop k) ⋯ (fun d hd=>eachL d (sub d hd)),<-X1,Y1,allL]
  ·rw[Jj c2]
   symm;exact⟨_,rfl,_,_,_,_,_,rfl,⟨fun p hp=>eH (eachL p hp) ⋯,allL,fun _=>posL⟩⟩
 ·rintro ρ ⟨L,s4,s5,s6,s7,rfl,pt⟩
  rw[zEU,Qe] at pt;have q0:=Vi (ns.getD (a+(cs.length:Int)).toNat 0) (b:=10^30) ∅
  have al:L.flatMap (clm 7)=cs:=by rw[pt.all,Vx]
  have e7:∀ p∈L,IsC 7 p:=fun p hp=>eH (pt.each p hp) ⋯
  obtain⟨w,ws,ew,kc⟩:=zEj (ks:=L) (cell:=ns.getD (a+(cs.length:Int)).toNat 0 % 10^30) (n:=cs.length+1) q0 (pt.pos l1) ⋯ pt.each (by rw[fm ⋯ pt.each,al];omega)
  have k7:IsC 7 (.tup [.str w,.tup (ws.map D.int),.tup L]):=eH kc ⋯
  have e8:clm 8 (.tup [.str w,.tup (ws.map D.int),.tup L])=cs:=by
   rw[cO (m:=8) kc ⋯];show L.flatMap (clm (cs.length+1))=cs
   rw[fm ⋯ pt.each,al]
  erw[fW ns _ ⋯,ew];symm;exact⟨w,ws,L,rfl,⟨eH k7 ∅,by rw[e8];omega,by rw[e8];exact hc⟩,e8,k7⟩
def zFL{r:Type}{u:r->D}{t:Tv}{f:Ev}{ρ:Rho}{p:r->Bool}:∀ {l:List r},(∀ a∈l,t (ρ++[.val (u a)])=.ok (p a)/\f (ρ++[.val (u a)])=.ok (u a))->gH t f ρ (l.map u)=.ok ((l.filter p).map u)
 | [],_=>rfl
 | a::l,h=>by
  have ⟨h1,h2⟩:=h a Qb;have ih:=zFL (u:=u) (t:=t) (f:=f) (ρ:=ρ) (p:=p) fun x hx=>h x (Qd _ hx)
  rw[Qo,gH,h1]
  cases z:p a with
  | true=>rw[List.filter_cons_of_pos z];simp only[noErr,Res.bind,if_true,h2,ih];rfl
  | false=>rw[List.filter_cons_of_neg (by rw[z];decide)];simp only[noErr,Res.bind,ih];rfl
def zJh{r:Type}{u:r->D}{t:Tv}{f:Ev}{ρ:Rho}{p:r->Bool}{l:List r}(hl:l.length<=16777215)(h:∀ a∈l,t (ρ++[.val (u a)])=.ok (p a)/\f (ρ++[.val (u a)])=.ok (u a)):zBM t f ρ (l.map u)=.ok ((l.filter p).map u):=by
 unfold zBM;rw[Jk (by rw[Qe];exact hl),zFL h]
def uS{x:Rat}:∀ {C:List Rat},(∃ c∈C,c<=x)->∃ a∈C,a<=x/\∀ c∈C,c<=x->c<=a
 | [],⟨c,h,_⟩=>by cases h
 | k::r,h=>by
  by_cases z:∃ c∈r,c<=x
  ·obtain⟨a,ha,ax,hm⟩:=uS z
   by_cases y:k<=x/\a<k
   ·refine⟨k,Qb,y.1,fun c hc cx=>?_⟩
    rcases Qc.mp hc with rfl | hc
    ·exact Qg
    ·exact Q3 (hm c hc cx) (Qh y.2)
   ·refine⟨a,Qd _ ha,ax,fun c hc cx=>?_⟩
    rcases Qc.mp hc with rfl | hc
    ·exact V6.mp fun l=>y ⟨cx,l⟩
    ·exact hm c hc cx
  ·obtain⟨c,hc,cx⟩:=h
   rcases Qc.mp hc with rfl | hc
   ·refine⟨c,Qb,cx,fun c' hc' cx'=>?_⟩
    rcases Qc.mp hc' with rfl | hc'
    ·exact Qg
    ·exact absurd ⟨c',hc',cx'⟩ z
   ·exact absurd ⟨c,hc,cx⟩ z
def zJO{x:Rat}{C:List Rat}(h:∃ c∈C,x<=c):∃ b∈C,x<=b/\∀ c∈C,x<=c->b<=c:=by
 obtain⟨c,hc,xc⟩:=h;obtain⟨a,ha,ax,hm⟩:=uS (x:=-x) (C:=C.map fun c=>-c) ⟨-c,Qm.mpr ⟨c,hc,rfl⟩,by grind⟩
 obtain⟨b,hb,rfl⟩:=Qm.mp ha;refine⟨b,hb,by grind,fun c hc xc=>?_⟩
 have:=hm (-c) (Qm.mpr ⟨c,hc,rfl⟩) (by grind)
 grind
def zCS{l l':List Pt}{e e':Pt}(h:zNd l)(h':zNd l')(he:l.getLast?=some e)(he':l'.getLast?=some e')(ee:e.1=e'.1)(hj:∀ t,(∃ p∈l,p.1=t)∨(∃ p∈l',p.1=t)->aP l t=aP l' t):l=l':=by
 refine zIj h h' he he' ee fun x x0 x1=>?_
 have hd:(0:Rat)∈l.map Prod.fst:=by
  have:l.head?=some (0,0):=h.1.1
  cases l with
  | nil=>cases this
  | cons a r=>cases this;exact Qb
 have em:=Wd he
 have mem:∀ t∈l.map Prod.fst++l'.map Prod.fst,aP l t=aP l' t/\0<=t/\t<=e.1:=fun t ht=>by
  rcases Q8.mp ht with ht | ht
  ·obtain⟨p,hp,rfl⟩:=Qm.mp ht
   have b:=dR h.1 he hp;exact⟨hj _ (.inl ⟨p,hp,rfl⟩),b.1,b.2.1⟩
  ·obtain⟨p,hp,rfl⟩:=Qm.mp ht
   have b:=dR h'.1 he' hp;exact⟨hj _ (.inr ⟨p,hp,rfl⟩),b.1,by rw[ee];exact b.2.1⟩
 obtain⟨a,ha,ax,am⟩:=uS (x:=x) (C:=l.map Prod.fst++l'.map Prod.fst) ⟨0,Vc _ hd,x0⟩;obtain⟨b,hb,xb,bm⟩:=zJO (x:=x) (C:=l.map Prod.fst++l'.map Prod.fst) ⟨e.1,Vc _ (Qm.mpr ⟨e,em,rfl⟩),x1⟩;obtain⟨va,a0,a1⟩:=mem a ha;obtain⟨vb,b0,b1⟩:=mem b hb;by_cases z:a=x
 ·rw[<-z];exact va
 by_cases y:b=x
 ·rw[<-y];exact vb
 have lt:a<b:=by grind
 have n1:∀ p∈l,a<p.1->b<=p.1:=fun p hp l1=>by
  have m:p.1∈l.map Prod.fst++l'.map Prod.fst:=Vc _ (Qm.mpr ⟨p,hp,rfl⟩);rcases (V5:p.1<=x∨x<=p.1) with w | w
  ·have:=am _ m w;grind
  ·exact bm _ m w
 have n2:∀ p∈l',a<p.1->b<=p.1:=fun p hp l1=>by
  have m:p.1∈l.map Prod.fst++l'.map Prod.fst:=Qx _ (Qm.mpr ⟨p,hp,rfl⟩);rcases (V5:p.1<=x∨x<=p.1) with w | w
  ·have:=am _ m w;grind
  ·exact bm _ m w
 have e1:=zZ h.1 he a0 lt b1 n1 ax xb;have e2:=zZ h'.1 he' a0 lt (by rw[<-ee];exact b1) n2 ax xb
 rw[va,vb] at e1;have e3:(aP l x-aP l' a)*(b-a)=(aP l' x-aP l' a)*(b-a):=by rw[e1,e2]
 have:=jH (show b-a≠0 by grind) e3
 grind
structure Fu (l l':List Pt) (x:Rat):Prop where
 at':(∃ p∈l,p.1=x)∨∃ p∈l',p.1=x
 ne:aP l x≠aP l' x
 le:∀ t,(∃ p∈l,p.1=t)∨(∃ p∈l',p.1=t)->aP l t≠aP l' t->x<=t
def Fu.one{l l':List Pt}{x y:Rat}(h:Fu l l' x)(h':Fu l l' y):x=y:=by
 have a:=h.le y h'.at' h'.ne;have b:=h'.le x h.at' h.ne;grind
def Fu.symm{l l':List Pt}{x:Rat}(h:Fu l l' x):Fu l' l x:=⟨h.at'.symm,fun e=>h.ne e.symm,fun t ht hn=>h.le t ht.symm fun e=>hn e.symm⟩
def zLu{S c c':Int}{g g':Rat->Rat}{l l':List Pt}(h:CL S c g 272 242 l)(h':CL S c' g' 272 242 l')(S0:0<=S)(hS:S<2^34)(hc:c<2^34)(hc':c' < 2^34)(hn:l≠l'):∃ x,eU [lnD l,lnD l']=.ok (.v (dq x))/\Fu l l' x:=by
 have ln:=h.len;have ln':=h'.len;have z:=h.sz hS hc;have z':=h'.sz hS hc';have zx:∀ x∈l.map Prod.fst,Sz 307 x:=fun x hx=>by obtain⟨p,hp,rfl⟩:=Qm.mp hx;exact(z p hp).1
 have zx':∀ x∈l'.map Prod.fst,Sz 307 x:=fun x hx=>by obtain⟨p,hp,rfl⟩:=Qm.mp hx;exact(z' p hp).1
 obtain⟨C,eM,c1,c2,c3⟩:=zEE (zEf h.ln.1.2) (zEf h'.ln.1.2) (by rw[Qe];omega) (by rw[Qe];omega) zx zx' ∅
 rw[Qe,Qe] at c3;have iff:∀ t,t∈C ↔ (∃ p∈l,p.1=t)∨∃ p∈l',p.1=t:=fun t=>by rw[c2,Qm,Qm]
 have bd:∀ t∈C,0<=t/\t<=(S:Rat)/\Sz 307 t:=fun t ht=>by
  rcases (iff t).mp ht with⟨p,hp,rfl⟩ | ⟨p,hp,rfl⟩
  ·exact⟨(h.pt hp).2.1,(h.pt hp).2.2.1,(z p hp).1⟩
  ·exact⟨(h'.pt hp).2.1,(h'.pt hp).2.2.1,(z' p hp).1⟩
 have ex:∃ t∈C,aP l t≠aP l' t:=by
  refine Qam fun no=>hn (zCS h.ln h'.ln h.la h'.la rfl fun t ht=>?_)
  exact Qam fun y=>no ⟨t,(iff t).mpr ht,y⟩
 have ev:∀ t∈C,jR [lnD l,dq t]=.ok (.v (dq (aP l t)))/\jR [lnD l',dq t]=.ok (.v (dq (aP l' t))):=fun t ht=>by
  obtain⟨t0,t1,zt⟩:=bd t ht;exact⟨zAV (a:=307) (b:=579) (m:=307) ⋯ z zt ∅ h.ln.1 h.la t0 t1,zAV (a:=307) (b:=579) (m:=307) ⋯ z' zt ∅ h'.ln.1 h'.la t0 t1⟩
 have ne:C.filter (fun t=>!decide (aP l t=aP l' t))≠[]:=by
  obtain⟨t,ht,hv⟩:=ex;exact List.ne_nil_of_mem (Yv.mpr ⟨ht,by simpa using hv⟩)
 obtain⟨x,r,er⟩:=List.exists_cons_of_ne_nil ne;have xm:x∈C.filter (fun t=>!decide (aP l t=aP l' t)):=by rw[er];exact Qb
 obtain⟨xC,xv⟩:=Yv.mp xm;refine⟨x,?_,⟨(iff x).mp xC,by simpa using xv,fun t ht hv=>?_⟩⟩
 ·unfold eU
  erw[show fX [lnD l]=_ from uC ⋯,show fX [lnD l']=_ from uC ⋯,eM];symm
  rw[zJh (u:=dq) (p:=fun t=>!decide (aP l t=aP l' t)) ⋯ (fun t ht=>by
   obtain⟨e1,e2⟩:=ev t ht;constructor
   ·symm
    rw[e1];erw[e2];symm
   ·symm)]
  rw[er];symm;rfl
 ·have tm:t∈C.filter (fun t=>!decide (aP l t=aP l' t)):=Yv.mpr ⟨(iff t).mpr ht,by simpa using hv⟩
  have so:=c1.filter (fun t=>!decide (aP l t=aP l' t))
  rw[er] at tm so;rcases Qc.mp tm with rfl | tm
  ·exact Qg
  ·exact Qh ((Qp.mp so).1 t tm)
def zFR{ls:List (List Pt)}{j:Nat}(h:j<ls.length):oIx (.lst (ls.map lnD)) (.int (j:Int))=.ok (lnD (ls.getD j [])):=qV (Xi j) (by rw[Xf,Qv,Qq h];rfl)
def Pd(d e:D)(r:D):Prop:=(r=.non/\∀ j,j<(clm 8 d).length->∀ x,0<=x->x<=((clm 8 d).sum:Rat)->(SF 8 d x).getD j 0=(SF 8 e x).getD j 0)∨
 ∃(j:Nat)(l l':List Pt)(x:Rat),r=.tup [dq x,.int (j:Int)]/\j<(clm 8 d).length/\(∀ i,i<j->∀ x,0<=x->x<=((clm 8 d).sum:Rat)->(SF 8 d x).getD i 0=(SF 8 e x).getD i 0)/\CL (clm 8 d).sum ((clm 8 d).getD j 0) (fun x=>(SF 8 d x).getD j 0) 272 242 l/\CL (clm 8 d).sum ((clm 8 d).getD j 0) (fun x=>(SF 8 e x).getD j 0) 272 242 l'/\Fu l l' x
def zTg{l l':List Pt}:eqD (lnD l) (lnD l')=decide (l=l'):=by
 unfold lnD;rw[eqD,zMo]
def zST{l l':List Pt}:oNe (lnD l) (lnD l')=.ok (.bl (!decide (l=l'))):=by
 unfold oNe;rw[Jk (show dep (lnD l)<=50 from zPk _),zTg]
def uA{d e:D}(g:Gc 8 d)(g':Gc 8 e)(hc:clm 8 d=clm 8 e):∃ r,eD [d,e]=.ok (.v r)/\Pd d e r:=by
 have gs:=g.sum;have l12:=g.2.1;have hS:(clm 8 d).sum<2^34:=⋯
 obtain⟨Ls,eL,l1,l2⟩:=jB 8 10 d g ∅ ∅
 obtain⟨Lt,eT,t1,t2⟩:=jB 8 10 e g' ∅ ∅
 rw[<-hc] at t1 t2;have fd:=fI 10 d (eH g.1 ∅) (by rw[cO (m:=10) g.1 ∅];omega)
 rw[cO (m:=10) g.1 ∅] at fd;have fe:=fI 10 e (eH g'.1 ∅) (by rw[cO (m:=10) g'.1 ∅,<-hc];omega)
 rw[cO (m:=10) g'.1 ∅,<-hc] at fe;unfold eD;erw[fd,fe,zNu (Q5 (zEL _) ∅),eL,eT];symm;rw[l1,zAP ⋯ ⋯];symm
 have same:∀ j,j<(clm 8 d).length->Ls.getD j []=Lt.getD j []->∀ x,0<=x->x<=((clm 8 d).sum:Rat)->(SF 8 d x).getD j 0=(SF 8 e x).getD j 0:=fun j hj eq x x0 x1=>by
  have a:=(l2 j hj).val x x0 x1;have b:=(t2 j hj).val x x0 x1;rw[eq] at a;rw[<-a,<-b]
 refine zBE (k:=zGX yU) (Q:=fun r=>∃ v,r.bind fin=.ok (.v v)/\Pd d e v) (fun i ρ=>∃ s4:Sl,ρ=[.val d,.val e,.val (.lst (Ls.map lnD)),.val (.lst (Lt.map lnD)),s4]/\∀ j,j<i->Ls.getD j []=Lt.getD j []) ⟨_,rfl,fun j h=>absurd h (Nat.not_lt_zero j)⟩ ?_ ?_
 ·rintro i x ρ he ⟨s4,rfl,al⟩
  obtain⟨hi,rfl⟩:=zKj he;have hi':i<(clm 8 d).length:=⋯
  have ci:=g.2.2 _ (Qj (bO hi'));rw[show(0:Int)+(i:Int)*1=(i:Int) by omega];erw[zFR (show i<Ls.length by omega),zFR (show i<Lt.length by omega),zST];symm;by_cases c:Ls.getD i []=Lt.getD i []
  ·left
   rw[J6 c];symm;refine⟨_,rfl,_,rfl,fun j hj=>?_⟩
   rcases Yf (Nat.le_of_lt_succ hj) with h | h
   ·exact al j h
   ·rw[h];exact c
  ·right
   rw[Jj c];obtain⟨x,ex,fu⟩:=zLu (l2 i hi') (t2 i hi') gs.1 hS ⋯ ⋯ c
   erw[zFR (show i<Ls.length by omega),zFR (show i<Lt.length by omega),ex];symm;exact⟨_,rfl,_,rfl,.inr ⟨i,_,_,x,rfl,hi',fun j hj x x0 x1=>same j ⋯ (al j hj) x x0 x1,l2 i hi',t2 i hi',fu⟩⟩
 ·rintro ρ ⟨s4,rfl,al⟩
  have ln:(rng 0 ((clm 8 d).length:Int).toNat 1).length=(clm 8 d).length:=by unfold rng;simp
  rw[ln] at al;exact⟨.non,rfl,.inl ⟨rfl,fun j hj x x0 x1=>same j hj (al j hj) x x0 x1⟩⟩
def Pd.one{d e r r':D}(hc:clm 8 d=clm 8 e)(h:Pd d e r)(h':Pd d e r'):r=r':=by
 have dif:∀ {j:Nat} {l l':List Pt} {x:Rat},CL (clm 8 d).sum ((clm 8 d).getD j 0) (fun x=>(SF 8 d x).getD j 0) 272 242 l->CL (clm 8 d).sum ((clm 8 d).getD j 0) (fun x=>(SF 8 e x).getD j 0) 272 242 l'->Fu l l' x->0<=x/\x<=((clm 8 d).sum:Rat)/\(SF 8 d x).getD j 0≠(SF 8 e x).getD j 0:=fun {j l l' x} a b f=>by
  have bd:0<=x/\x<=((clm 8 d).sum:Rat):=by
   rcases f.at' with⟨p,hp,rfl⟩ | ⟨p,hp,rfl⟩
   ·exact⟨(a.pt hp).2.1,(a.pt hp).2.2.1⟩
   ·exact⟨(b.pt hp).2.1,(b.pt hp).2.2.1⟩
  refine⟨bd.1,bd.2,?_⟩
  have:=f.ne
  rw[a.val x bd.1 bd.2,b.val x bd.1 bd.2] at this;exact this
 rcases h with⟨rfl,al⟩ | ⟨j,l,l',x,rfl,hj,al,a,b,f⟩
 ·rcases h' with⟨rfl,_⟩ | ⟨j,l,l',x,rfl,hj,_,a,b,f⟩
  ·rfl
  ·obtain⟨x0,x1,xn⟩:=dif a b f
   exact absurd (al j hj x x0 x1) xn
 ·rcases h' with⟨rfl,al'⟩ | ⟨k,m,m',y,rfl,hk,al',a',b',f'⟩
  ·obtain⟨x0,x1,xn⟩:=dif a b f
   exact absurd (al' j hj x x0 x1) xn
  ·obtain⟨x0,x1,xn⟩:=dif a b f
   obtain⟨y0,y1,yn⟩:=dif a' b' f'
   have jk:j=k:=by
    rcases We j k with z | z | z
    ·exact absurd (al' j z x x0 x1) xn
    ·exact z
    ·exact absurd (al k z y y0 y1) yn
   subst jk;have e1:=a.one a' fun _ _ _=>rfl
   have e2:=b.one b' fun _ _ _=>rfl
   subst e1 e2;rw[f.one f']
def Pd.symm{d e r:D}(hc:clm 8 d=clm 8 e)(h:Pd d e r):Pd e d r:=by
 rcases h with⟨rfl,al⟩ | ⟨j,l,l',x,rfl,hj,al,a,b,f⟩
 ·exact .inl ⟨rfl,fun j hj x x0 x1=>(al j (by rw[hc];exact hj) x x0 (by rw[hc];exact x1)).symm⟩
 ·exact .inr ⟨j,l',l,x,rfl,by rw[<-hc];exact hj,fun i hi x x0 x1=>(al i hi x x0 (by rw[hc];exact x1)).symm,by rw[<-hc];exact b,by rw[<-hc];exact a,f.symm⟩
def zTo{d:D}(g:Gc 8 d){j:Nat}(hj:j<(clm 8 d).length):∃ l,CL (clm 8 d).sum ((clm 8 d).getD j 0) (fun x=>(SF 8 d x).getD j 0) 272 242 l:=by
 obtain⟨Ls,eL,ll,lg⟩:=jB 8 10 d g ∅ ∅
 exact⟨_,lg j hj⟩
def zTQ{d:D}(g:Gc 8 d){x:Rat}{e:Nat}(x0:0<=x)(x1:x<=((clm 8 d).sum:Rat))(xd:(x.den:Int)<=2^e)(he:e<=1700):lP [d,dq x]=.ok (.f ((SF 8 d x).map dq)):=by
 obtain⟨xs,es,sh⟩:=zLQ (m:=e+1) g ∅ x0 x1 (Int.lt_of_le_of_lt xd (by rw[Int.pow_succ];have:=gI e;omega)) ⋯
 rw[es,zRX g sh x0 x1]
def clp(A c x:Rat):Rat:=mn (ps0 (x-A)) c
def zPu{cs:List Int}(hc:∀ c∈cs,0<=c){i:Nat}(hi:i<cs.length):0<=(cs.take i).sum/\(cs.take i).sum+cs.getD i 0<=cs.sum:=by
 have nn:∀ l:List Int,(∀ c∈l,0<=c)->0<=l.sum:=fun l h=>by
  induction l with
  | nil=>exact Xh 0
  | cons a l ih=>rw[Q4];have:=h a Qb;have:=ih fun c hc=>h c (Qd _ hc);omega
 have e:cs.sum=(cs.take i).sum+(cs.getD i 0+(cs.drop (i+1)).sum):=by
  have h1:cs=cs.take i++(cs.getD i 0::cs.drop (i+1)):=by
   rw[Qv,Qq hi];show cs=cs.take i++(cs[i]::cs.drop (i+1))
   rw[<-Uc hi,Y1]
  have h2:=congrArg List.sum h1;rw[V7,Q4] at h2;exact h2
 have a:=nn (cs.take i) fun c h=>hc c (X0 h)
 have b:=nn (cs.drop (i+1)) fun c h=>hc c (Ut h)
 exact⟨a,⋯⟩
def isW(v:Wy):Prop:=v=.row∨v=.back∨v=.part
def phi(v:Wy)(S A c:Int)(x:Rat):Rat:=match v with
 | .row=>clp (A:Rat) (c:Rat) x
 | .back=>clp ((S-A-c:Int):Rat) (c:Rat) x
 | _=>x*(c:Rat) / (S:Rat)
def zQf{v:Wy}(hv:isW v){cs:List Int}(hc:Cl cs){x:Rat}(x0:0<=x)(x1:x<=(cs.sum:Rat)){i:Nat}(hi:i<cs.length):FF v [] cs x i=phi v cs.sum (cs.take i).sum (cs.getD i 0) x:=by
 have t:=zPu hc.nn hi;have c0:=hc.nn _ (Qj (bO hi));rcases hv with rfl | rfl | rfl
 ·rw[<-uR (M:=0) (w:=.row) (f:=zBz cs x) rfl hc x0 x1 (fun j _=>rfl) hi]
  unfold zBz;rw[rT cs 0 x i hi,Ys];rfl
 ·have q0:(0:Rat)<=((cs.take i).sum:Rat):=Yu.mpr t.1
  have qc:(0:Rat)<=(cs.getD i 0:Rat):=Yu.mpr c0;have q1:((cs.take i).sum:Rat)+(cs.getD i 0:Rat)<=(cs.sum:Rat):=by rw[<-Ve];exact Xc.mpr t.2
  rw[<-uR (M:=0) (w:=.back) (f:=fun j=>cR cs j-zBz cs ((cs.sum:Rat)-x) j) rfl hc x0 x1 (fun j _=>rfl) hi];unfold zBz;rw[rT cs 0 _ i hi,Ys];unfold phi;rw[Ws,Ws];unfold clp mn ps0 cR;grind
 ·rw[<-uR (M:=0) (w:=.part) (f:=jW cs x) rfl hc x0 x1 (fun j _=>rfl) hi]
  obtain⟨p1,p2⟩:=iL (q:=x) hc hi;unfold phi;by_cases z:cs.sum=0
  ·have e0:cs.getD i 0=0:=⋯
   rw[p2 z,e0,z];rw[show((0:Int):Rat)=0 from rfl];grind
  ·have S0:=hc.sum.1
   have W:(cs.sum:Rat)≠0:=fun y=>z (by exact_mod_cast y)
   have:x*(cs.getD i 0:Rat) / (cs.sum:Rat)*(cs.sum:Rat)=x*(cs.getD i 0:Rat):=Vt W
   exact jH W (by rw[p1,this];rfl)
def zIZ{A C a c x:Rat}(a0:0<=a)(c0:0<=c)(ac:a+c<=C):clp a c (clp A C x)=clp (A+a) c x:=by
 unfold clp mn ps0;grind
def zNn{v:Wy}(hv:isW v){S A C a c:Int}{x:Rat}(a0:0<=a)(c0:0<=c)(ac:a+c<=C)(A0:0<=A)(AS:A+C<=S):phi v C a c (phi v S A C x)=phi v S (A+a) c x:=by
 have ra:(0:Rat)<=(a:Rat):=Yu.mpr a0;have rc:(0:Rat)<=(c:Rat):=Yu.mpr c0;rcases hv with rfl | rfl | rfl
 ·show clp (a:Rat) (c:Rat) (clp (A:Rat) (C:Rat) x)=clp ((A+a:Int):Rat) (c:Rat) x
  rw[zIZ ra rc (by rw[<-Ve];exact Xc.mpr ac),Ve]
 ·show clp ((C-a-c:Int):Rat) (c:Rat) (clp ((S-A-C:Int):Rat) (C:Rat) x)=clp ((S-(A+a)-c:Int):Rat) (c:Rat) x
  rw[zIZ (Yu.mpr ⋯) rc (by rw[<-Ve];exact Xc.mpr ⋯),<-Ve,show S-A-C+(C-a-c)=S-(A+a)-c by omega]
 ·show x*(C:Rat) / (S:Rat)*(c:Rat) / (C:Rat)=x*(c:Rat) / (S:Rat)
  by_cases z:C=0
  ·have e0:c=0:=⋯
   rw[e0,z,show((0:Int):Rat)=0 from rfl];grind
  ·have W:(C:Rat)≠0:=fun y=>z (by exact_mod_cast y)
   have:(C:Rat)*(C:Rat)⁻¹=1:=Xb _ W
   rw[Vd,Vd,Vd];grind
def SFp(n:Nat)(v:Wy)(S:Int)(q:Rat):Int->List D->List Rat
 | _,[]=>[]
 | A,k::ks=>SF n k (phi v S A (clm n k).sum q)++SFp n v S q (A+(clm n k).sum) ks
def zAN{n:Nat}{v:Wy}(hv:isW v){ks:List D}(hc:Cl (kcl n ks)){q:Rat}(q0:0<=q)(q1:q<=((kcl n ks).sum:Rat)):∀(post pre:List D),ks=pre++post->SFL (SF n) (FF v [] (kcl n ks) q) post pre.length=SFp n v (kcl n ks).sum q (kcl n pre).sum post
 | [],_,_=>rfl
 | k::r,pre,e=>by
  have hi:pre.length<(kcl n ks).length:=by rw[jC,e,Qi,Qn];omega
  have tk:(kcl n ks).take pre.length=kcl n pre:=by
   unfold kcl;rw[e,Q9,<-Qe (as:=pre) (f:=fun k=>(clm n k).sum)];exact Wu
  have gd:(kcl n ks).getD pre.length 0=(clm n k).sum:=by
   unfold kcl;rw[e,Qv,Qu,Vh (Qf _),Xp];rfl
  have ih:=zAN hv hc q0 q1 r (pre++[k]) (by rw[e,Vr];rfl)
  have ks1:(kcl n (pre++[k])).sum=(kcl n pre).sum+(clm n k).sum:=by
   unfold kcl;rw[Q9,V7];simp
  rw[Qi,ks1] at ih;show SF n k (FF v [] (kcl n ks) q pre.length)++SFL (SF n) (FF v [] (kcl n ks) q) r (pre.length+1)=SF n k (phi v (kcl n ks).sum (kcl n pre).sum (clm n k).sum q)++SFp n v (kcl n ks).sum q ((kcl n pre).sum+(clm n k).sum) r
  rw[zQf hv hc q0 q1 hi,tk,gd];exact congrArg _ ih
def zHo:∀ {n m:Nat} {d:D},IsC n d->n<=m->∀ q,SF m d q=SF n d q
 | 0,_,_,h,_,_=>h.elim
 | n+1,0,_,_,l,_=>absurd l ⋯
 | n+1,m+1,d,h,l,q=>by
  rcases h with⟨c,rfl⟩ | ⟨w,ws,ks,rfl,hw,k0,k1,w1,hy,hk⟩
  ·rfl
  ·obtain⟨v,rfl⟩:=zKS hy.1
   rw[nK,nK];have kc:kcl m ks=kcl n ks:=Vp fun k hm=>by rw[cO (hk k hm) ⋯]
   rw[kc]
   have:∀(js:List D)(i:Nat),(∀ k∈js,k∈ks)->SFL (SF m) (FF v ws (kcl n ks) q) js i=SFL (SF n) (FF v ws (kcl n ks) q) js i:=by
    intro js
    induction js with
    | nil=>intro i _;rfl
    | cons k r ih=>
     intro i hm;show SF m k _++_=SF n k _++_
     rw[zHo (hk k (hm k Qb)) ⋯,ih (i+1) fun x hx=>hm x (Qd _ hx)]
   exact this ks 0 fun k h=>h
def zIi(n:Nat)(v:Wy)(S:Int)(q:Rat):∀(a b:List D)(A:Int),SFp n v S q A (a++b)=SFp n v S q A a++SFp n v S q (A+(kcl n a).sum) b
 | [],b,A=>by
  show SFp n v S q A b=SFp n v S q (A+0) b
  rw[Wx]
 | k::a,b,A=>by
  show SF n k _++SFp n v S q (A+(clm n k).sum) (a++b)=(SF n k _++SFp n v S q (A+(clm n k).sum) a)++SFp n v S q (A+(kcl n (k::a)).sum) b
  rw[zIi n v S q a b,Vr,show(kcl n (k::a)).sum=(clm n k).sum+(kcl n a).sum by unfold kcl;rw[Qo,Q4],Up]
def zQo{v:Wy}(hv:isW v){S A C:Int}{x:Rat}(C0:0<=C)(A0:0<=A)(AS:A+C<=S)(x0:0<=x)(x1:x<=(S:Rat)):0<=phi v S A C x/\phi v S A C x<=(C:Rat):=by
 have rc:(0:Rat)<=(C:Rat):=Yu.mpr C0;rcases hv with rfl | rfl | rfl
 ·unfold phi clp mn ps0
  grind
 ·unfold phi clp mn ps0
  grind
 ·unfold phi
  by_cases z:S=0
  ·have e0:C=0:=⋯
   rw[e0,z,show((0:Int):Rat)=0 from rfl];grind
  ·have W:(0:Rat)<(S:Rat):=by exact_mod_cast (show 0<S by omega)
   have e:x*(C:Rat) / (S:Rat)*(S:Rat)=x*(C:Rat):=Vt (by grind)
   have a:x*(C:Rat)<=(S:Rat)*(C:Rat):=Vs x1 rc;have b:0<=x*(C:Rat):=Y0 x0 rc;exact⟨rF W (by rw[e];grind),rF W (by rw[e];grind)⟩
def zMD{l:List Int}(h:∀ c∈l,0<=c):0<=l.sum:=by
 induction l with
 | nil=>decide
 | cons a l ih=>rw[Q4];have:=h a Qb;have:=ih fun x hx=>h x (Qd _ hx);omega
def zMk{n m:Nat}{v:Wy}(hv:isW v){S A C:Int}{q:Rat}(hn:m<=n)(A0:0<=A)(AS:A+C<=S):∀(kk:List D)(a:Int),0<=a->(∀ k∈kk,Gc m k)->a+(kcl m kk).sum<=C->SFp m v C (phi v S A C q) a kk=SFp n v S q (A+a) kk
 | [],_,_,_,_=>rfl
 | k::r,a,a0,hk,ac=>by
  have gk:=hk k Qb;have c0:=gk.sum.1
  have r0:0<=(kcl m r).sum:=zMD fun c hc=>by
   obtain⟨x,hx,rfl⟩:=Qm.mp hc;exact(hk x (Qd _ hx)).sum.1
  rw[show(kcl m (k::r)).sum=(clm m k).sum+(kcl m r).sum by unfold kcl;rw[Qo,Q4]] at ac;show SF m k (phi v C a (clm m k).sum (phi v S A C q))++SFp m v C (phi v S A C q) (a+(clm m k).sum) r=SF n k (phi v S (A+a) (clm n k).sum q)++SFp n v S q (A+a+(clm n k).sum) r
  rw[zNn hv a0 c0 ⋯ A0 AS,zHo gk.1 hn,cO gk.1 hn,zMk hv hn A0 AS r (a+(clm m k).sum) ⋯ (fun x hx=>hk x (Qd _ hx)) ⋯,Up]
def zRs:∀(a b:List Int),zCN (a.map D.int) (b.map D.int)=decide (a=b)
 | [],[]=>rfl
 | [],_::_=>rfl
 | _::_,[]=>rfl
 | x::a,y::b=>by
  rw[Qo,Qo,zCN,zRs a b];by_cases h:x=y
  ·subst h
   simp[eqD]
  ·simp[eqD,h]
def zOb(a b:List Int):oNe (.lst (a.map D.int)) (.lst (b.map D.int))=.ok (.bl (!decide (a=b))):=by
 unfold oNe;rw[Jk (Q5 (zEL a) ∅),eqD,zRs]
def Pd.non{d e r:D}(h:Pd d e r)(al:∀ x,0<=x->x<=((clm 8 d).sum:Rat)->SF 8 d x=SF 8 e x):r=.non:=by
 rcases h with⟨rfl,_⟩ | ⟨j,l,l',x,rfl,hj,_,a,b,f⟩
 ·rfl
 ·exfalso
  have bd:0<=x/\x<=((clm 8 d).sum:Rat):=by
   rcases f.at' with⟨p,hp,rfl⟩ | ⟨p,hp,rfl⟩
   ·exact⟨(a.pt hp).2.1,(a.pt hp).2.2.1⟩
   ·exact⟨(b.pt hp).2.1,(b.pt hp).2.2.1⟩
  have:=f.ne
  rw[a.val x bd.1 bd.2,b.val x bd.1 bd.2,al x bd.1 bd.2] at this;exact this rfl
def zJK{a b:List Rat}{n:Nat}(ha:a.length=n)(hb:b.length=n)(h:∀ i,i<n->a.getD i 0=b.getD i 0):a=b:=by
 refine Yi fun i=>?_
 by_cases l:i<n
 ·have:=h i l
  rw[Qv,Qv,Qq ⋯,Qq ⋯] at this;rw[Qq ⋯,Qq ⋯];exact congrArg some this
 ·rw[Qz ⋯,Qz ⋯]
def zRR{a b:List Rat}:oNe (.lst (a.map dq)) (.lst (b.map dq))=.ok (.bl (!decide (a=b))):=by
 unfold oNe;rw[Jk (zND _),eqD,zMs]
def isN:D->Bool
 | .non=>true
 | _=>false
def zTf{r:D}(h:r≠.non):isN r=false:=by cases r<;>first | rfl | exact absurd rfl h
def zNC{d e:D}(g:Gc 8 d)(g':Gc 8 e)(hc:clm 8 d=clm 8 e){r:D}(pr:Pd d e r):mU [d,e]=.ok (.v (.bl (isN r))):=by
 have gs:=g.sum;have l12:=g.2.1;have hS:(clm 8 d).sum<2^34:=⋯
 obtain⟨Ls,eL,l1,l2⟩:=jB 8 10 d g ∅ ∅
 obtain⟨Lt,eT,t1,t2⟩:=jB 8 10 e g' ∅ ∅
 rw[<-hc] at t1 t2
 have at1:∀ {L:List (List Pt)},L.length=(clm 8 d).length->∀ l∈L,∃ j,j<(clm 8 d).length/\L.getD j []=l:=fun {L} hl l hm=>by
  obtain⟨j,hj⟩:=Yg.mp hm;have jl:=(Qy.mp hj).1;exact⟨j,⋯,by rw[Qv,hj];rfl⟩
 have pts:∀ l∈Ls++Lt,∀ p∈l,0<=p.1/\p.1<=((clm 8 d).sum:Rat)/\(p.1.den:Int)<=2^272:=fun l hm p hp=>by
  rcases Q8.mp hm with hm | hm
  ·obtain⟨j,hj,rfl⟩:=at1 l1 l hm
   have h:=l2 j hj;exact⟨(h.pt hp).2.1,(h.pt hp).2.2.1,h.den p hp⟩
  ·obtain⟨j,hj,rfl⟩:=at1 t1 l hm
   have h:=t2 j hj;exact⟨(h.pt hp).2.1,(h.pt hp).2.2.1,h.den p hp⟩
 have len1:=fun x=>zER g.1 x
 have len2:=fun x=>zER g'.1 x
 have step:∀ p:Pt,0<=p.1->p.1<=((clm 8 d).sum:Rat)->(p.1.den:Int)<=2^272->∀ s2,lV [.val d,.val e,s2,.val (dp p)]=if SF 8 d p.1=SF 8 e p.1 then .ok (.nx [.val d,.val e,s2,.val (dp p)]) else .ok (.ret (.v (.bl false))):=fun p p0 p1 pd s2=>by
  erw[zTQ g p0 p1 pd ∅,zTQ g' p0 (by rw[<-hc];exact p1) pd ∅,zRR];symm;by_cases c:SF 8 d p.1=SF 8 e p.1
  ·rw[J6 c,Jk c]
   symm
  ·rw[Jj c,Jl c]
   symm
 have all:(∀ l∈Ls++Lt,∀ p∈l,SF 8 d p.1=SF 8 e p.1)->r=.non:=fun h=>pr.non fun x x0 x1=>zJK (n:=(clm 8 d).length) (len1 x) (by rw[len2,hc]) fun j hj=>by
  have a:=l2 j hj;have b:=t2 j hj;have ml:Ls.getD j []∈Ls++Lt:=Vc _ (Qj (show Ls[j]?=some (Ls.getD j []) by rw[Qv,Qq ⋯];rfl))
  have mt:Lt.getD j []∈Ls++Lt:=Qx _ (Qj (show Lt[j]?=some (Lt.getD j []) by rw[Qv,Qq ⋯];rfl))
  have eq:Ls.getD j []=Lt.getD j []:=zCS a.ln b.ln a.la b.la rfl fun t ht=>by
   rcases ht with⟨p,hp,rfl⟩ | ⟨p,hp,rfl⟩
   ·obtain⟨p0,p1,_⟩:=pts _ ml p hp
    rw[a.val _ p0 p1,b.val _ p0 p1,h _ ml p hp]
   ·obtain⟨p0,p1,_⟩:=pts _ mt p hp
    rw[a.val _ p0 p1,b.val _ p0 p1,h _ mt p hp]
  have va:=a.val x x0 x1;have vb:=b.val x x0 x1;rw[eq] at va;rw[<-va,<-vb]
 have notAll:∀ p:Pt,0<=p.1->p.1<=((clm 8 d).sum:Rat)->SF 8 d p.1≠SF 8 e p.1->r≠.non:=fun p p0 p1 hn hr=>by
  rcases pr with⟨_,al⟩ | ⟨j,l,l',x,er,_⟩
  ·exact hn (zJK (n:=(clm 8 d).length) (len1 _) (by rw[len2,hc]) fun j hj=>al j hj _ p0 p1)
  ·rw[er] at hr;cases hr
 unfold mU;erw[eL,eT];symm;rw[Jk ⋯,<-Q9];symm;generalize Ls++Lt=P at pts all;refine zBE (k:=zGX wL) (Q:=fun q=>q.bind fin=.ok (.v (.bl (isN r)))) (fun i ρ=>∃ s2 s3:Sl,ρ=[.val d,.val e,s2,s3]/\∀ l∈P.take i,∀ p∈l,SF 8 d p.1=SF 8 e p.1) ⟨_,_,rfl,fun l h=>by rw[Ug] at h;cases h⟩ ?_ ?_
 ·rintro i x ρ he ⟨s2,s3,rfl,al⟩
  rw[Qu] at he
  cases hq:P[i]? with
  | none=>rw[hq] at he;cases he
  | some l=>
   rw[hq] at he;cases he;have lm:=Qj hq
   have inner:∀(ps:List Pt)(s3:Sl),(∀ p∈ps,p∈l)->(∃ s3',loop (gName 3) lV (ps.map dp) [.val d,.val e,.val (lnD l),s3]=.ok (.nx [.val d,.val e,.val (lnD l),s3'])/\∀ p∈ps,SF 8 d p.1=SF 8 e p.1)∨(loop (gName 3) lV (ps.map dp) [.val d,.val e,.val (lnD l),s3]=.ok (.ret (.v (.bl false)))/\r≠.non):=by
    intro ps
    induction ps with
    | nil=>intro s3 _;exact .inl ⟨s3,rfl,fun p h=>by cases h⟩
    | cons p r' ih=>
     intro s3 hm;obtain⟨p0,p1,pd⟩:=pts l lm p (hm p Qb);have st:=step p p0 p1 pd (.val (lnD l));by_cases c:SF 8 d p.1=SF 8 e p.1
     ·rw[Jk c] at st
      rw[Qo,cY rfl st];rcases ih (.val (dp p)) fun q hq=>hm q (Qd _ hq) with⟨s3',e1,e2⟩ | ⟨e1,e2⟩
      ·exact .inl ⟨s3',e1,fun q hq=>by
        rcases Qc.mp hq with rfl | hq
        ·exact c
        ·exact e2 q hq⟩
      ·exact .inr ⟨e1,e2⟩
     ·rw[Jl c] at st
      rw[Qo,zHj rfl st];exact .inr ⟨rfl,notAll p p0 p1 c⟩
   erw[show zKp (lnD l)=.ok (l.map dp) from rfl];symm;rcases inner l s3 fun p h=>h with⟨s3',e1,e2⟩ | ⟨e1,e2⟩
   ·left
    rw[e1];refine⟨_,rfl,_,_,rfl,fun k hk p hp=>?_⟩
    rw[kY hq] at hk;rcases Q8.mp hk with h | h
    ·exact al k h p hp
    ·rw[Qr.mp h] at hp;exact e2 p hp
   ·right
    rw[e1];exact⟨_,rfl,by rw[zTf e2]⟩
 ·rintro ρ ⟨s2,s3,rfl,al⟩
  rw[Qe,Vx] at al;rw[all al];rfl
abbrev dP(c:Int):D:=.tup [.str "boat", .int c]
abbrev gT(v:Wy)(cs:List Int):D:=.tup [.str v.s,.tup (([]:List Int).map D.int),.tup (cs.map dP)]
def nU(n:Nat)(cs:List Int):(cs.map dP).flatMap (clm (n+1))=cs:=by
 induction cs with
 | nil=>rfl
 | cons c r ih=>rw[Qo,Vu,ih];rfl
def vJ(n:Nat)(cs:List Int):∀ k∈cs.map dP,IsC (n+1) k:=fun k hm=>by
 obtain⟨c,_,rfl⟩:=Qm.mp hm;exact .inl ⟨c,rfl⟩
def zHI{v:Wy}(h:v≠.even/\v≠.lack)(m:Nat):v.s∈wys/\wOK v.s [] m:=by
 cases v
 ·exact⟨∅,.inr ⟨∅,rfl⟩⟩
 ·exact⟨∅,.inr ⟨∅,rfl⟩⟩
 ·exact absurd rfl h.1
 ·exact absurd rfl h.2
 ·exact⟨∅,.inr ⟨∅,rfl⟩⟩
 ·exact⟨∅,.inr ⟨∅,rfl⟩⟩
def zBr{v:Wy}(h:v≠.even/\v≠.lack){ks:List D}{n:Nat}(k0:0<ks.length)(hn:n<=7)(hk:∀ k∈ks,IsC n k)(hc:(ks.flatMap (clm n)).length<=12):kG [.str v.s,.lst [],.lst ks]=.ok (.v (.tup [.str v.s,.tup (([]:List Int).map D.int),.tup ks]))/\IsC (n+1) (.tup [.str v.s,.tup (([]:List Int).map D.int),.tup ks]):=
 zNa (ws:=[]) (.inl rfl) (zHI h 0).1 (zHI h _).2 ∅ k0 (by have:=yR hk;omega) hn hk hc
def zPt{v:Wy}(hv:isW v){as:List Int}{b:Int}(h0:0<as.length)(hl:as.length<=11)(hc:∀ c∈as++[b],0<=c/\c<=10^9){q:Rat}(q0:0<=q)(q1:q<=((as++[b]).sum:Rat)):SF 8 (.tup [.str v.s,.tup (([]:List Int).map D.int),.tup [gT v as,dP b]]) q=SF 8 (gT v (as++[b])) q:=by
 have gf:∀ {n:Nat} {cs:List Int},0<cs.length->cs.length<=12->(∀ c∈cs,0<=c/\c<=10^9)->Gc (n+2) (gT v cs):=fun {n cs} c0 cl ch=>by
  have nv:v≠.even/\v≠.lack:=by rcases hv with rfl | rfl | rfl<;>exact⟨fun z=>(by cases z),fun z=>(by cases z)⟩
  have e:clm (n+2) (gT v cs)=cs:=nU n cs;exact⟨.inr ⟨v.s,[],cs.map dP,rfl,zOK v,by rw[Qe];exact c0,by rw[Qe];omega,∅,zHI nv _,vJ n cs⟩,by rw[e];exact cl,by rw[e];exact ch⟩
 have ga:Gc 7 (gT v as):=gf (n:=5) h0 ⋯ fun c h=>hc c (Vc _ h)
 have ga6:∀ k∈as.map dP,Gc 6 k:=fun k hm=>by
  obtain⟨c,hcm,rfl⟩:=Qm.mp hm;exact⟨.inl ⟨c,rfl⟩,by show 1<=12;decide,fun x hx=>by have hx':x∈[c]:=hx;rw[Qr.mp hx'];exact hc c (Vc _ hcm)⟩
 have lf:(as++[b]).length<=12:=by rw[Qi];show as.length+1<=12;omega
 have gl:Gc 8 (gT v (as++[b])):=gf (n:=6) (by rw[Qi];exact V0 _) lf hc
 have kb:∀ n,kcl (n+1) ((as++[b]).map dP)=as++[b]:=fun n=>by
  unfold kcl;rw[Qw];have:((fun k=>(clm (n+1) k).sum) ∘ dP)=fun c:Int=>c:=funext fun c=>by show([c]:List Int).sum=c;simp
  rw[this,W3]
 have ka:∀ n,kcl (n+1) (as.map dP)=as:=fun n=>by
  unfold kcl;rw[Qw];have:((fun k=>(clm (n+1) k).sum) ∘ dP)=fun c:Int=>c:=funext fun c=>by show([c]:List Int).sum=c;simp
  rw[this,W3]
 have ea:clm 7 (gT v as)=as:=nU 5 as
 have k2:kcl 7 [gT v as,dP b]=[as.sum,b]:=by
  show [(clm 7 (gT v as)).sum,([b]:List Int).sum]=_
  rw[ea];simp
 have sS:([as.sum,b]:List Int).sum=(as++[b]).sum:=by rw[V7];simp
 have an:0<=as.sum:=zMD fun c h=>(hc c (Vc _ h)).1
 have bn:=hc b (Qx _ Qb);have up:=zHt (l:=as) fun c h=>hc c (Vc _ h)
 have cl2:Cl (kcl 7 [gT v as,dP b]):=by
  rw[k2];refine⟨fun c h=>?_,fun c h=>?_,by show 1<=2;decide,by show 2<=12;decide⟩
  ·rcases Qc.mp h with rfl | h
   ·exact an
   ·rw[Qr.mp h];exact bn.1
  ·rcases Qc.mp h with rfl | h
   ·omega
   ·rw[Qr.mp h];omega
 have cl3:Cl (kcl 7 ((as++[b]).map dP)):=by
  rw[kb];exact⟨fun c h=>(hc c h).1,fun c h=>by have:=(hc c h).2;omega,by rw[Qi];exact V0 _,lf⟩
 have cl4:Cl (kcl 6 (as.map dP)):=by
  rw[ka];exact⟨fun c h=>(hc c (Vc _ h)).1,fun c h=>by have:=(hc c (Vc _ h)).2;omega,h0,⋯⟩
 have A:=zAN (n:=7) (q:=q) hv cl2 q0 (by rw[k2,sS];exact q1) [gT v as,dP b] [] rfl
 have B:=zAN (n:=7) (q:=q) hv cl3 q0 (by rw[kb];exact q1) ((as++[b]).map dP) [] rfl
 rw[Yc,show(kcl 7 []).sum=0 from rfl] at A B;rw[k2,sS] at A;rw[kb] at B;have bd:=zQo (S:=(as++[b]).sum) (A:=0) (x:=q) hv an (Xh 0) (by rw[<-sS];show 0+as.sum<=as.sum+(b+0);omega) q0 q1
 have C:=zAN (n:=6) (q:=phi v (as++[b]).sum 0 as.sum q) hv cl4 bd.1 (by rw[ka];exact bd.2) (as.map dP) [] rfl
 rw[Yc,show(kcl 6 []).sum=0 from rfl,ka] at C;have I:=zMk (n:=7) (m:=6) (q:=q) (S:=(as++[b]).sum) (A:=0) (C:=as.sum) hv ∅ (Xh 0) (by rw[<-sS];show 0+as.sum<=as.sum+(b+0);omega) (as.map dP) 0 (Xh 0) ga6 (by rw[ka];omega)
 rw[Wx] at I;have s1:SF 8 (.tup [.str v.s,.tup (([]:List Int).map D.int),.tup [gT v as,dP b]]) q=SFL (SF 7) (FF v [] (kcl 7 [gT v as,dP b]) q) [gT v as,dP b] 0:=nK 7 v [] _ q;have s2:SF 8 (gT v (as++[b])) q=SFL (SF 7) (FF v [] (kcl 7 ((as++[b]).map dP)) q) ((as++[b]).map dP) 0:=nK 7 v [] _ q;have s3:∀ y,SF 7 (gT v as) y=SFL (SF 6) (FF v [] (kcl 6 (as.map dP)) y) (as.map dP) 0:=fun y=>nK 6 v [] _ y
 rw[s1,s2,k2,kb,A,B,Q9,zIi,ka,Ys];show SF 7 (gT v as) (phi v (as++[b]).sum 0 (clm 7 (gT v as)).sum q)++SFp 7 v (as++[b]).sum q (0+(clm 7 (gT v as)).sum) [dP b]=_
 rw[ea,s3,ka,C,I,Ys];rfl
def zRL{cs:List Int}(h:1<cs.length):∃ as b,cs=as++[b]/\0<as.length:=by
 have ne:cs≠[]:=fun z=>by rw[z] at h;exact absurd h ∅
 refine⟨cs.dropLast,cs.getLast ne,(List.dropLast_concat_getLast ne).symm,?_⟩
 rw[W9];omega
def w3(k:Int):Wy:=if k=0 then .row else if k=1 then .back else .part
def zQO(k:Int)(h0:0<=k)(h1:k<3):oIx (.lst [.str "row", .str "back", .str "part"]) (.int k)=.ok (.str (w3 k).s)/\isW (w3 k):=by
 have hk:k=0∨k=1∨k=2:=⋯
 rcases hk with rfl | rfl | rfl
 ·exact⟨rfl,.inl rfl⟩
 ·exact⟨rfl,.inr (.inl rfl)⟩
 ·exact⟨rfl,.inr (.inr rfl)⟩
def zTk(k:Int)(h0:0<=k)(h1:k<4):∃ v:Wy,oIx (.lst [.str "row", .str "back", .str "part", .str "half"]) (.int k)=.ok (.str v.s)/\v≠.even/\v≠.lack:=by
 have hk:k=0∨k=1∨k=2∨k=3:=⋯
 rcases hk with rfl | rfl | rfl | rfl
 ·exact⟨.row,rfl,fun z=>(by cases z),fun z=>(by cases z)⟩
 ·exact⟨.back,rfl,fun z=>(by cases z),fun z=>(by cases z)⟩
 ·exact⟨.part,rfl,fun z=>(by cases z),fun z=>(by cases z)⟩
 ·exact⟨.half,rfl,fun z=>(by cases z),fun z=>(by cases z)⟩
def zJZ{cs:List Int}{ρ:Rho}{n:Nat}(hρ:ρ.length=n)(hl:cs.length<=100)(hc:∀ c∈cs,0<=c/\c<=10^9):zBM iK (aM mE (aB (aG n) aNil)) ρ (cs.map D.int)=.ok (cs.map dP):=
 eX (u:=D.int) (g:=dP) ⋯ fun c hm=>by
  have:(ρ++[.val (.int c)])[n]?=some (.val (.int c)):=by rw[Vh ⋯,hρ,Xp];rfl
  erw[this,zFC (hc c hm).1 (hc c hm).2];symm
def zLz{w:Str}{ws:List Int}{ks:List D}{cs ns:List Int}{cell:Int}(c0:0<=cell)(l1:1<=cs.length)(l4:cs.length<=4)(hc:∀ c∈cs,0<=c/\c<=10^9)(g7:IsC 7 (.tup [.str w,.tup (ws.map D.int),.tup ks]))(e8:clm 8 (.tup [.str w,.tup (ws.map D.int),.tup ks])=cs):
  ∃ two,iE [.tup [.str w,.tup (ws.map D.int),.tup ks],.lst (cs.map D.int),.lst (ns.map D.int),.int cell]=.ok (.v two)/\Gc 8 two/\clm 8 two=cs/\(cell % 6=2->1<cs.length->∀ q,0<=q->q<=(cs.sum:Rat)->SF 8 two q=SF 8 (gT (w3 (cell / 6 % 3)) cs) q):=by
 have e7:clm 7 (.tup [.str w,.tup (ws.map D.int),.tup ks])=cs:=by rw[<-e8];exact(cO g7 ∅).symm
 have mk:∀ {n:Nat} {d:D},n<=8->IsC n d->clm n d=cs->Gc 8 d/\clm 8 d=cs:=fun {n d} hn h e=>by
  have e':clm 8 d=cs:=by rw[cO (m:=8) h hn];exact e
  exact⟨⟨eH h hn,by rw[e'];omega,by rw[e'];exact hc⟩,e'⟩
 unfold iE;symm;by_cases c1:cell % 6=1
 ·rw[J6 c1]
  symm;obtain⟨v,ev,nv⟩:=zTk (cell / 6 % 4) (Vi _ ∅) (V4 _ ∅)
  have fmx:([.tup [.str w,.tup (ws.map D.int),.tup ks]]:List D).flatMap (clm 7)=cs:=by rw[Vu,Uv,Vf];exact e7
  obtain⟨k1,k2⟩:=zBr (n:=7) nv (ks:=[.tup [.str w,.tup (ws.map D.int),.tup ks]]) (V0 _) ∅ (fun k hm=>by rw[Qr.mp hm];exact g7) (by rw[fmx];omega)
  rw[ev];erw[k1];obtain⟨m1,m2⟩:=mk (n:=8) ∅ k2 fmx
  symm;exact⟨_,rfl,m1,m2,fun z=>⋯⟩
 ·rw[Jj c1]
  have rest:(cell % 6=2->¬ 1<cs.length)->∃ two,(kQ [.val (.tup [.str w,.tup (ws.map D.int),.tup ks]),.val (.lst (cs.map D.int)),.val (.lst (ns.map D.int)),.val (.int cell),.un]).bind fin=.ok (.v two)/\Gc 8 two/\clm 8 two=cs/\(cell % 6=2->1<cs.length->∀ q,0<=q->q<=(cs.sum:Rat)->SF 8 two q=SF 8 (gT (w3 (cell / 6 % 3)) cs) q):=fun no=>by
   have fl:∀ two,cell % 6=2->1<cs.length->∀ q,0<=q->q<=(cs.sum:Rat)->SF 8 two q=SF 8 (gT (w3 (cell / 6 % 3)) cs) q:=fun two a b=>absurd b (no a)
   symm;by_cases c3:cell % 6=3
   ·rw[J6 c3]
    symm;rcases g7 with⟨u,eu⟩ | ⟨v,vs,kk,eu,hv,k0,kl,vl,hy,hk⟩
    ·simp at eu
    simp only[D.tup.injEq,List.cons.injEq,and_true] at eu;obtain⟨_,_,rfl⟩:=eu;have al:ks.flatMap (clm 6)=cs:=e7;obtain⟨w2,ws2,ew,kc⟩:=zEj (ks:=ks) (cell:=cell / 6) (n:=6) ⋯ k0 ∅ hk (by rw[al];omega)
    rw[ew];symm;obtain⟨m1,m2⟩:=mk (n:=7) ∅ kc al
    exact⟨_,rfl,m1,m2,fl _⟩
   ·rw[Jj c3]
    symm;by_cases c4:cell % 6=4
    ·rw[J6 c4]
     symm;obtain⟨w2,ws2,k2,e2,g2,m2,_⟩:=zAj (cs:=cs) (ns:=ns) (a:=6) ∅ l1 ⋯ hc
     rw[e2];symm;exact⟨_,rfl,g2,m2,fl _⟩
    ·rw[Jj c4]
     obtain⟨w2,ws2,k2,e2,g2,m2,_⟩:=zAj (cs:=cs) (ns:=ns) (a:=12) ∅ l1 ⋯ hc
     symm;by_cases c5:cell % 6=5
     ·rw[J6 c5]
      symm;by_cases ln:cs.length=1
      ·rw[J6 ⋯]
       obtain⟨c,rfl⟩:∃ c,cs=[c]:=by
        match cs,ln with
        | [c],_=>exact⟨c,rfl⟩
       have cb:=hc c Qb;erw[show oIx (D.lst [D.int c]) (D.int 0)=.ok (.int c) from rfl,zFC cb.1 cb.2];symm;obtain⟨m1,m2⟩:=mk (n:=1) (d:=dP c) ∅ (.inl ⟨c,rfl⟩) rfl
       exact⟨_,rfl,m1,m2,fun z=>⋯⟩
      ·rw[Jj ⋯]
       erw[e2];symm;exact⟨_,rfl,g2,m2,fl _⟩
     ·rw[Jj c5]
      erw[e2];symm;exact⟨_,rfl,g2,m2,fl _⟩
  generalize hK:(kQ:Sv)=K at rest;unfold oO;rw[hK];symm;by_cases c2:cell % 6=2
  ·rw[J6 c2]
   symm;by_cases ln:1<cs.length
   ·rw[J6 ⋯]
    obtain⟨as,b,rfl,a0⟩:=zRL ln;obtain⟨ew,isw⟩:=zQO (cell / 6 % 3) (Vi _ ∅) (V4 _ ∅)
    have nv:w3 (cell / 6 % 3)≠.even/\w3 (cell / 6 % 3)≠.lack:=by rcases isw with h | h | h<;>rw[h]<;>exact⟨fun z=>(by cases z),fun z=>(by cases z)⟩
    generalize w3 (cell / 6 % 3)=v at ew isw nv;have la:as.length<=3:=by rw[Qi] at l4;exact Qal l4
    have bb:=hc b (Qx _ Qb);obtain⟨k1,k2⟩:=zBr (n:=6) nv (ks:=as.map dP) (by rw[Qe];exact a0) ∅ (vJ 5 as) (by rw[nU 5];omega)
    have ea:clm 7 (gT v as)=as:=nU 5 as
    have fm2:([gT v as,dP b]:List D).flatMap (clm 7)=as++[b]:=by
     rw[Vu,Vu,Uv,Vf,ea];rfl
    obtain⟨k3,k4⟩:=zBr (n:=7) nv (ks:=[gT v as,dP b]) (V0 _) ∅ (fun k hm=>by
     rcases Qc.mp hm with rfl | hm
     ·exact k2
     ·rw[Qr.mp hm];exact .inl ⟨b,rfl⟩) (by rw[fm2];omega)
    erw[ew];symm;rw[wJ ∅,Qe,Qi,show(- -(1:Int)).toNat=1 from rfl,show as.length+[b].length-1=as.length from Wm ..,<-List.map_take,Wu,zJZ (n:=5) rfl ⋯ (fun c h=>hc c (Vc _ h))];erw[k1,zAO (l:=as++[b]) (i:=-1) (k:=1) (a:=b) rfl ∅ (by rw[Qi];exact Y8 (Vl _)) (by rw[Qi,show as.length+[b].length-1=as.length from Wm ..,Vh (Qf _),Xp];rfl),zFC bb.1 bb.2];symm;rw[show kG [D.str v.s,D.lst [],D.lst [D.tup [D.str v.s,D.tup [],D.tup (as.map dP)],D.tup [.str "boat", .int b]]]=_ from k3];symm;obtain⟨m1,m2⟩:=mk (n:=8) ∅ k4 fm2
    exact⟨_,rfl,m1,m2,fun _ _ q q0 q1=>zPt isw a0 ⋯ hc q0 q1⟩
   ·rw[Jj ⋯]
    symm;exact rest fun _=>ln
  ·rw[Jj c2]
   symm;exact rest fun z=>absurd z c2
def zSB{d e:D}(g:Gc 8 d)(g':Gc 8 e)(h:clm 8 d≠clm 8 e):eD [d,e]=.err "Unlike" := by
 have l12:=g.2.1;have l12':=g'.2.1;have fd:=fI 10 d (eH g.1 ∅) (by rw[cO (m:=10) g.1 ∅];omega)
 rw[cO (m:=10) g.1 ∅] at fd;have fe:=fI 10 e (eH g'.1 ∅) (by rw[cO (m:=10) g'.1 ∅];omega)
 rw[cO (m:=10) g'.1 ∅] at fe;unfold eD;erw[fd,fe];symm;rw[zOb,Jj h];symm
def zMr{d e:D}{b:Bool}(g:Gc 8 d)(g':Gc 8 e)(h:clm 8 d≠clm 8 e):eE [.bl b,d,e]=.ok (.v (.bl true)):=by
 have p:=zSB g g' h
 have a:iM [d,e]=.err "Unlike" := by
  unfold iM;erw[p];symm
 have t1:tbT.contains (Str.ofString "Unlike")=true:=rfl;have i1:zPH zKu [Str.ofString "ValueError"] (some (Sl.exc (Str.ofString "Unlike")))=.ok (.bl true):=rfl;have i2:zPH zKu [Str.ofString "Unlike"] (some (Sl.exc (Str.ofString "Unlike")))=.ok (.bl true):=rfl;have i3:zPH zKu ["BadCatch","BadClaim","BadLine","BadWay","BadWeights","NoBoat","NoFraction","NoText"] (some (Sl.exc (Str.ofString "Unlike")))=.ok (.bl false):=rfl;have i4:zPH zKu ["Outside","TooMany"] (some (Sl.exc (Str.ofString "Unlike")))=.ok (.bl false):=rfl;have d4:dep (.lst [.bl true,.bl true,.bl false,.bl false])<=50:=by simp[dep,depS]
 unfold eE
 cases b with
 | true=>
  erw[a,t1,i1,i2,i3,i4,zDl d4];symm
 | false=>
  erw[p,t1,i1,i2,i3,i4,zDl d4];symm
def zKd{d e r:D}(h:eD [d,e]=.ok (.v r)):iM [d,e]=.ok (.v (.bl (isN r))):=by
 unfold iM;erw[h];cases r<;>rfl
def zAa{d e r:D}(h:eD [d,e]=.ok (.v r)):dY [d,e,.bl (isN r)]=.ok (.v (.bl true)):=by
 unfold dY;erw[zKd h,zDl (by simp[dep]),h];cases r<;>rfl
def zJw{ns cs os:List Int}{d:D}{s3 s4 s5 s6 s9 s10:Sl}{ot:D}(g:Gc 8 d)(e8:clm 8 d=cs)(l5:os.length<=5)(hc:∀ c∈os,0<=c/\c<=10^9):∃ t9 t10,zEI [.val (.lst (ns.map D.int)),.val (.lst (cs.map D.int)),.val d,s3,s4,s5,s6,.val ot,.val (.lst (os.map D.int)),s9,s10]=.ok (.nx [.val (.lst (ns.map D.int)),.val (.lst (cs.map D.int)),.val d,s3,s4,s5,s6,.val ot,.val (.lst (os.map D.int)),t9,t10]):=by
 erw[show oNe (.lst (os.map D.int)) (.lst [])=.ok (.bl (!decide (os=[]))) from zOb os []];symm;by_cases c1:os=[]
 ·rw[J6 c1]
  symm;exact⟨_,_,rfl⟩
 ·rw[Jj c1]
  erw[zOb];symm;by_cases c2:os=cs
  ·rw[J6 c2]
   symm;exact⟨_,_,rfl⟩
  ·rw[Jj c2]
   have l1:1<=os.length:=Nat.pos_of_ne_zero fun z=>c1 (Ua z)
   obtain⟨w,ws,ks,e2,g2,m2,_⟩:=zAj (cs:=os) (ns:=ns) (a:=18) ∅ l1 l5 hc
   generalize D.tup [.str w,.tup (ws.map D.int),.tup ks]=e at e2 g2 m2;have h1:clm 8 d≠clm 8 e:=fun z=>c2 (by rw[<-m2,<-z,e8])
   have st:∀(b:Bool),zFc [.val (.lst (ns.map D.int)),.val (.lst (cs.map D.int)),.val d,s3,s4,s5,s6,.val ot,.val (.lst (os.map D.int)),.val e,.val (.bl b)]=.ok (.nx [.val (.lst (ns.map D.int)),.val (.lst (cs.map D.int)),.val d,s3,s4,s5,s6,.val ot,.val (.lst (os.map D.int)),.val e,.val (.bl b)]):=fun b=>by
    erw[zMr g g2 h1,zMr g2 g fun z=>h1 z.symm];symm
   erw[e2];symm;rw[cY rfl (st true),cY rfl (st false),loop];exact⟨_,_,rfl⟩
def zKh{r s:Type}{f:r->Option s}{g:r->s}:∀ {l:List r},(∀ x∈l,f x=some (g x))->l.filterMap f=l.map g
 | [],_=>rfl
 | a::l,h=>by rw[Yw,h a Qb,Qo,zKh fun x hx=>h x (Qd _ hx)]
def zLc(ds:List D):zFY ds none none (-1)=ds.reverse:=by
 have e:sliceRange (sliceBounds none none (some (-1)) ds.length).1 (sliceBounds none none (some (-1)) ds.length).2.1 (sliceBounds none none (some (-1)) ds.length).2.2=(List.range ds.length).map fun k=>ds.length-1-k:=by
  show(List.range _).map _=_
  have:(if ((-1:Int) > 0) then (if ((ds.length:Int)-1) < -1 then ((-1)-((ds.length:Int)-1)+(-1)-1) / (-1) else 0) else (if ((ds.length:Int)-1) > -1 then (((ds.length:Int)-1)-(-1)-(-1)-1) / (-(-1)) else 0)).toNat=ds.length:=by
   rw[Jl ∅,Int.neg_neg,Int.ediv_one];split<;>omega
  refine Eq.trans (congrArg (fun n=>(List.range n).map _) this) (Vp fun k hk=>?_)
  have:=Qk.mp hk
  show(((ds.length:Int)-1)+(-1)*(k:Int)).toNat=_
  omega
 unfold zFY;rw[e];rw[List.filterMap_map]
 have all:∀ k∈List.range ds.length,((fun x=>ds[x]?) ∘ fun k=>ds.length-1-k) k=some ((fun k=>ds.reverse.getD k .non) k):=by
  intro k hk;have hk:=Qk.mp hk;show ds[ds.length-1-k]?=some (ds.reverse.getD k .non)
  rw[Qv,Uk hk,Qq ⋯];rfl
 rw[zKh all];refine List.ext_getElem (by rw[Qe,Q2,Vo]) fun i h1 h2=>?_
 rw[List.getElem_map,List.getElem_range,Qv,Qq h2];rfl
def law_true:∀ ns:List Int,ns.length<=63->zOg [.lst (ns.map D.int)]=.ok (.v (.bl true)):=by
 intro ns hl;obtain⟨cs,ec,c1,c2,c3⟩:=zIy ns 0 4 ∅ ∅ ∅
 have l4:cs.length<=4:=⋯
 obtain⟨w,ws,ks,e1,g1,k1,i1⟩:=zAj (cs:=cs) (ns:=ns) (a:=6) ∅ c1 ⋯ c3
 have q0:=Vi (ns.getD 0 0 / 4) (b:=10^30) ∅
 obtain⟨two,e2,g2,k2,fl⟩:=zLz (ns:=ns) (cell:=ns.getD 0 0 / 4 % 10^30) q0 c1 l4 c3 i1 k1;generalize hd:D.tup [.str w,.tup (ws.map D.int),.tup ks]=d at e1 g1 k1 i1 e2;have hc:clm 8 d=clm 8 two:=by rw[k1,k2]
 obtain⟨r1,p1,pd1⟩:=uA g1 g2 hc;obtain⟨r2,p2,pd2⟩:=uA g2 g1 hc.symm;obtain⟨r3,p3,pd3⟩:=uA g1 g1 rfl;have e12:r2=r1:=(pd2.symm hc.symm).one hc pd1;subst e12;have e3:r3=.non:=pd3.non fun _ _ _=>rfl
 subst e3;have du:=zNC g1 g2 hc pd1;have ri1:=zAa p1;have ri2:=zAa p2;have ri3:dY [d,d,.bl true]=.ok (.v (.bl true)):=zAa p3;generalize hf:ns.getD 0 0 / 4 % 10^30=first at q0 e2 fl
 have loopP:∀(s6:Sl),(zAr [.val (.lst (ns.map D.int)),.val (.lst (cs.map D.int)),.val d,.val (.int first),.val two,.val (.bl (isN r2)),s6,.un,.un,.un,.un]).bind fin=.ok (.v (.bl true)):=fun s6=>by
  have c0:=c3 _ (Qj (bO (show 0<cs.length by omega)))
  have ab:0<=((cs.getD 0 0-1).natAbs:Int)/\((cs.getD 0 0-1).natAbs:Int)<=10^9:=⋯
  have i0:oIx (.lst (cs.map D.int)) (.int 0)=.ok (.int (cs.getD 0 0)):=zRm (show 0<cs.length by omega)
  erw[Jk ⋯];symm;rw[yV ∅,show((1:Int).toNat)=1 from rfl];rw[i0];erw[Jk (by rw[Xs,Qe];omega),i0,Jk ⋯];symm;rw[zLc,wJ ∅,Qe,show(- -(1:Int)).toNat=1 from rfl,<-List.map_drop,<-List.map_reverse,<-List.map_take];generalize D.lst [D.lst (cs.map D.int++[D.int 0]),D.lst ((cs.drop 1).map D.int++[D.int ((cs.getD 0 0-1).natAbs:Int)]),D.lst (D.int (cs.getD 0 0)::cs.map D.int),D.lst (cs.reverse.map D.int)]=ot
  have eo:[D.lst (cs.map D.int++[D.int 0]),D.lst ((cs.drop 1).map D.int++[D.int ((cs.getD 0 0-1).natAbs:Int)]),D.lst (D.int (cs.getD 0 0)::cs.map D.int),D.lst (cs.reverse.map D.int),D.lst ((cs.take (cs.length-1)).map D.int)]=[cs++[0],cs.drop 1++[((cs.getD 0 0-1).natAbs:Int)],cs.getD 0 0::cs,cs.reverse,cs.take (cs.length-1)].map fun os=>D.lst (os.map D.int):=by
   simp only[Qo,Xd,Q9]
  rw[eo]
  have ok:∀ os∈[cs++[0],cs.drop 1++[((cs.getD 0 0-1).natAbs:Int)],cs.getD 0 0::cs,cs.reverse,cs.take (cs.length-1)],os.length<=5/\∀ x∈os,0<=x/\x<=10^9:=fun os hm=>by
   rcases Qc.mp hm with rfl | hm
   ·refine⟨by rw[Qi];show cs.length+1<=5;omega,fun x hx=>?_⟩
    rcases Q8.mp hx with h | h
    ·exact c3 x h
    ·rw[Qr.mp h];decide
   rcases Qc.mp hm with rfl | hm
   ·refine⟨by rw[Qi,Xs];show cs.length-1+1<=5;omega,fun x hx=>?_⟩
    rcases Q8.mp hx with h | h
    ·exact c3 x (Ut h)
    ·rw[Qr.mp h];exact ab
   rcases Qc.mp hm with rfl | hm
   ·refine⟨by rw[Qn];omega,fun x hx=>?_⟩
    rcases Qc.mp hx with rfl | h
    ·exact c0
    ·exact c3 x h
   rcases Qc.mp hm with rfl | hm
   ·exact⟨by rw[Vo];omega,fun x hx=>c3 x (Us.mp hx)⟩
   ·rw[Qr.mp hm]
    exact⟨by rw[Xq];omega,fun x hx=>c3 x (X0 hx)⟩
  generalize [cs++[0],cs.drop 1++[((cs.getD 0 0-1).natAbs:Int)],cs.getD 0 0::cs,cs.reverse,cs.take (cs.length-1)]=oss at ok;refine oY (Q:=fun r=>r.bind fin=.ok (.v (.bl true))) (k:=zGX zFp) (fun i ρ=>∃ s8 s9 s10:Sl,ρ=[.val (.lst (ns.map D.int)),.val (.lst (cs.map D.int)),.val d,.val (.int first),.val two,.val (.bl (isN r2)),s6,.val ot,s8,s9,s10]) ⟨_,_,_,rfl⟩ ?_ ?_
  ·rintro i e ρ he ⟨s8,s9,s10,rfl⟩
   obtain⟨os,hm,rfl⟩:=Qm.mp (Qj he);obtain⟨o1,o2⟩:=ok os hm;obtain⟨t9,t10,ek⟩:=zJw (ns:=ns) (s3:=.val (.int first)) (s4:=.val two) (s5:=.val (.bl (isN r2))) (s6:=s6) (s9:=s9) (s10:=s10) (ot:=ot) g1 k1 o1 o2;exact⟨_,ek,_,_,_,rfl⟩
  ·rintro ρ ⟨s8,s9,s10,rfl⟩
   rfl
 generalize hK:(zAr:Sv)=K at loopP;unfold zOg zIX zHN zJe zIb zIW zJF;rw[hK];erw[ec,e1,fW ns 0 ∅];symm;rw[hf,e2];erw[du,ri1,ri2,ri3];symm;by_cases z2:first % 6=2
 ·rw[J6 z2]
  symm;by_cases ln:1<cs.length
  ·rw[J6 ⋯]
   obtain⟨ew,isw⟩:=zQO (first / 6 % 3) (Vi _ ∅) (V4 _ ∅)
   have flv:=fl z2 ln;have nv:w3 (first / 6 % 3)≠.even/\w3 (first / 6 % 3)≠.lack:=by rcases isw with h | h | h<;>rw[h]<;>exact⟨fun z=>(by cases z),fun z=>(by cases z)⟩
   generalize w3 (first / 6 % 3)=v at ew isw nv flv;have fmb:(cs.map dP).flatMap (clm 7)=cs:=nU 6 cs;obtain⟨kk1,kk2⟩:=zBr (n:=7) nv (ks:=cs.map dP) (by rw[Qe];omega) ∅ (vJ 6 cs) (by rw[fmb];omega)
   have ef:clm 8 (gT v cs)=cs:=fmb;have gf:Gc 8 (gT v cs):=⟨kk2,by rw[ef];omega,by rw[ef];exact c3⟩
   obtain⟨r4,p4,pd4⟩:=uA gf g2 (by rw[ef,k2])
   have e4:r4=.non:=pd4.non fun x x0 x1=>(flv x x0 (by rw[ef] at x1;exact x1)).symm
   subst e4;erw[ew,zJZ (n:=11) rfl ⋯ c3,kk1];symm;rw[show iM [D.tup [D.str v.s,D.tup [],D.tup (cs.map dP)],two]=_ from zKd p4];symm;exact loopP _
  ·rw[Jj ⋯]
   symm;exact loopP _
 ·rw[Jj z2]
  symm;exact loopP _
end Lw
namespace Lw
open PySem PySem.Spec PyProof.Rows L2 L3
local macro_rules | `(⋯)=>`(by (intro _ _ _ _ _ _ us hl; first | (obtain ⟨_,e⟩:=L3.ln1 hl;subst e;rfl) | (obtain ⟨_,_,e⟩:=L3.ln2 hl;subst e;rfl) | (obtain ⟨_,_,_,e⟩:=L3.ln3 hl;subst e;rfl) | (obtain ⟨_,_,_,_,e⟩:=L3.ln4 hl;subst e;rfl)))
def _root_.L3.CanM.mo{P:Jf}{w:Jg}{K:Fg_}{mg:Str->Option Ja}{base:Je}{j k:Nat}{x:Str}{ps:List Str}{m:Mir}(c:CanM P w K mg base j x ps m)(h:j<=k:=by decide):CanM P w K mg base k x ps m:=c.mono h
section
local macro_rules | `(∅)=>`(⟨rfl,rfl,rfl,by decide +kernel,rfl,by decide +kernel,by decide +kernel⟩)
def top(i:Nat):Ji:=PySem.Challenge.pw_catchhall_k40_alike_or_not.main.body.getD i (.Pass ⟨0,0,0,0⟩)
abbrev iJ:Ji:=top 15
def cG:FnScope ["one","two","rest"] ["one","two"] (aF iJ):=∅
abbrev zIM:Ji:=top 16
def zDF:FnScope ["top","bottom","divisor"] ["top","bottom"] (aF zIM):=∅
abbrev zDO:Ji:=top 17
def zKC:FnScope ["number"] ["number"] (aF zDO):=∅
abbrev zHm:Ji:=top 18
def zPg:FnScope ["one","two"] ["one","two"] (aF zHm):=∅
abbrev zEl:Ji:=top 19
def zLi:FnScope ["one","two"] ["one","two"] (aF zEl):=∅
abbrev zEx:Ji:=top 20
def zKE:FnScope ["one","two"] ["one","two"] (aF zEx):=∅
abbrev zJA:Ji:=top 21
def zOM:FnScope ["one","two"] ["one","two"] (aF zJA):=∅
abbrev zIY:Ji:=top 22
def zOs:FnScope ["one","two"] ["one","two"] (aF zIY):=∅
abbrev zAK:Ji:=top 23
def zJt:FnScope ["one","two"] ["one","two"] (aF zAK):=∅
abbrev mZ:Ji:=top 24
def zAx:FnScope ["amount","most"] ["amount","most"] (aF mZ):=∅
abbrev iG:Ji:=top 25
def rO:FnScope ["amount","most"] ["amount","most"] (aF iG):=∅
abbrev iT:Ji:=top 26
def qK:FnScope ["some","bottom","each"] ["some"] (aF iT):=∅
abbrev zBi:Ji:=top 31
def zHU:FnScope ["way","weights","claims"] ["way","weights","claims"] (aF zBi):=∅
abbrev nY:Ji:=top 32
def zAQ:FnScope ["way"] ["way"] (aF nY):=∅
abbrev jS:Ji:=top 33
def mF:FnScope ["claims","claim"] ["claims"] (aF jS):=∅
abbrev iH:Ji:=top 34
def gM:FnScope ["way","weights","many","due","weight"] ["way","weights","many"] (aF iH):=∅
abbrev kR:Ji:=top 35
def uJ:FnScope ["way"] ["way"] (aF kR):=∅
abbrev zDt:Ji:=top 36
def zKW:FnScope ["way","weights","claims","catch"] ["way","weights","claims","catch"] (aF zDt):=∅
abbrev dQ:Ji:=top 37
def eY:FnScope ["way","weights","claims","catch","most","lacking"] ["way","weights","claims","catch"] (aF dQ):=∅
abbrev oV:Ji:=top 38
def fO:FnScope ["claims","catch","left","amounts","claim","amount"] ["claims","catch"] (aF oV):=∅
abbrev nM:Ji:=top 39
def cV:FnScope ["weights","claims","catch","left","weight","amounts","spot","by_weight"] ["weights","claims","catch"] (aF nM):=∅
abbrev lT:Ji:=top 40
def zCA:FnScope ["weights","claims"] ["weights","claims"] (aF lT):=∅
abbrev kD:Ji:=top 41
def iV:FnScope ["claims","catch","most","part"] ["claims","catch"] (aF kD):=∅
abbrev kH:Ji:=top 42
def lN:FnScope ["claims","catch","ones"] ["claims","catch"] (aF kH):=∅
abbrev zJS:Ji:=top 47
def zON:FnScope ["claim"] ["claim"] (aF zJS):=∅
abbrev zIF:Ji:=top 48
def zIp:FnScope ["way","weights","kids","custom"] ["way","weights","kids"] (aF zIF):=∅
abbrev uK:Ji:=top 49
def zGV:FnScope ["custom"] ["custom"] (aF uK):=∅
abbrev zAg:Ji:=top 50
def zIc:FnScope ["custom"] ["custom"] (aF zAg):=∅
abbrev nD:Ji:=top 51
def zAt:FnScope ["custom"] ["custom"] (aF nD):=∅
abbrev wM:Ji:=top 52
def zGA:FnScope ["custom"] ["custom"] (aF wM):=∅
abbrev lQ:Ji:=top 53
def jZ:FnScope ["custom","claims","kid"] ["custom"] (aF lQ):=∅
abbrev rP:Ji:=top 54
def zEp:FnScope ["custom"] ["custom"] (aF rP):=∅
abbrev kE:Ji:=top 55
def qF:FnScope ["custom"] ["custom"] (aF kE):=∅
abbrev nS:Ji:=top 56
def rX:FnScope ["custom"] ["custom"] (aF nS):=∅
abbrev zBp:Ji:=top 57
def zJr:FnScope ["custom","catch"] ["custom","catch"] (aF zBp):=∅
abbrev oH:Ji:=top 58
def gJ:FnScope ["custom","catch","amounts","told","kid","amount"] ["custom","catch"] (aF oH):=∅
abbrev vU:Ji:=top 62
def sN:FnScope ["points","kept","point"] ["points"] (aF vU):=∅
abbrev nX:Ji:=top 63
def iS:FnScope ["points","spot","ahead","point"] ["points"] (aF nX):=∅
abbrev nH:Ji:=top 64
def fT:FnScope ["ahead","point","later","rise","later_rise","run","later_run"] ["ahead","point","later"] (aF nH):=∅
abbrev zAL:Ji:=top 65
def zHE:FnScope ["line"] ["line"] (aF zAL):=∅
abbrev zAi:Ji:=top 66
def zJI:FnScope ["line"] ["line"] (aF zAi):=∅
abbrev zEs:Ji:=top 67
def zKD:FnScope ["line","x"] ["line","x"] (aF zEs):=∅
abbrev iN:Ji:=top 68
def cI:FnScope ["line","axis","amount","low","high","middle"] ["line","axis","amount"] (aF iN):=∅
abbrev zPh:Ji:=top 69
def zD:FnScope ["line","axis","amount","other","spot","there","here","part"] ["line","axis","amount"] (aF zPh):=∅
abbrev qM:Ji:=top 70
def nI:FnScope ["one","two","bends","joints"] ["one","two"] (aF qM):=∅
abbrev tY:Ji:=top 71
def zBY:FnScope ["line"] ["line"] (aF tY):=∅
abbrev zAR:Ji:=top 72
def kX:FnScope ["one","two","both","spot","x"] ["one","two"] (aF zAR):=∅
abbrev jD:Ji:=top 74
def iF:FnScope ["way","weights","claims","joints","dealings"] ["way","weights","claims"] (aF jD):=∅
abbrev qU:Ji:=top 75
def zGN:FnScope ["joints","dealings","spot"] ["joints","dealings","spot"] (aF qU):=∅
abbrev jN:Ji:=top 76
def iA:FnScope ["way","weights","claims","most","early"] ["way","weights","claims"] (aF jN):=∅
abbrev mY:Ji:=top 77
def gA:FnScope ["claims","filled","joints","claim"] ["claims"] (aF mY):=∅
abbrev lK:Ji:=top 78
def cD:FnScope ["weights","claims","filled","weight","levels","joints","spot"] ["weights","claims"] (aF lK):=∅
abbrev oC:Ji:=top 79
def wN:FnScope ["joints","most"] ["joints","most"] (aF oC):=∅
abbrev gN:Ji:=top 80
def gB:FnScope ["joints","kept","joint"] ["joints"] (aF gN):=∅
abbrev lA:Ji:=top 82
def fE:FnScope ["custom","ways","told","kid","way_line"] ["custom"] (aF lA):=∅
abbrev sD:Ji:=top 83
def vW:FnScope ["claim","start"] ["claim"] (aF sD):=∅
abbrev zEu:Ji:=top 85
def zLJ:FnScope ["one","two"] ["one","two"] (aF zEu):=∅
abbrev zAH:Ji:=top 86
def pQ:FnScope ["one","two","ones","twos","number"] ["one","two"] (aF zAH):=∅
abbrev gX:Ji:=top 87
def jQ:FnScope ["one","two","joints"] ["one","two"] (aF gX):=∅
abbrev lI:Ji:=top 89
def xV:FnScope ["script","k"] ["script","k"] (aF lI):=∅
abbrev mX:Ji:=top 90
def iU:FnScope ["script","at","most","claims","k","cell"] ["script","at","most"] (aF mX):=∅
abbrev nZ:Ji:=top 91
def jE:FnScope ["kids","cell","way","weights"] ["kids","cell"] (aF nZ):=∅
abbrev sF:Ji:=top 92
def fF:FnScope ["claims","script","at","pile","k","claim","cell","many"] ["claims","script","at"] (aF sF):=∅
abbrev kI:Ji:=top 93
def lZ:FnScope ["one","claims","script","cell","way"] ["one","claims","script","cell"] (aF kI):=∅
abbrev wG:Ji:=top 94
def sO:FnScope ["one","two","line","point"] ["one","two"] (aF wG):=∅
abbrev lS:Ji:=top 95
def gU:FnScope ["asked","one","two","kept","e"] ["asked","one","two"] (aF lS):=∅
abbrev pI:Ji:=top 96
def sX:FnScope ["one","two","due","found"] ["one","two","due"] (aF pI):=∅
abbrev tO:Ji:=top 97
def mM:FnScope ["script","claims","one","first","two","due","way","others","other","three","asked"] ["script"] (aF tO):=∅
end
structure Bt (mg:Str->Option Ja):Prop where
 abs:mg "abs" = none
 sorted:mg "sorted" = none
 range:mg "range" = none
 len:mg "len" = none
 sum:mg "sum" = none
 zip:mg "zip" = none
 tuple:mg "tuple" = none
 max:mg "max" = none
 reversed:mg "reversed" = none
 enumerate:mg "enumerate" = none
 min:mg "min" = none
 list:mg "list" = none
 isinstance:mg "isinstance" = none
 bool:mg "bool" = none
structure Kt (K:PySem.W.Frag):Prop where
 bool:Kit K "bool"
structure Ct (K:PySem.W.Frag) (mg:Str->Option Ja):Prop where
 ACROSS:∃ v u,mg "ACROSS" = some u/\cW v u/\IsD K (fun _=>none) v d_ACROSS
 BOAT:∃ v u,mg "BOAT" = some u/\cW v u/\IsD K (fun _=>none) v d_BOAT
 DEEPEST:∃ v u,mg "DEEPEST" = some u/\cW v u/\IsD K (fun _=>none) v d_DEEPEST
 HALF:∃ v u,mg "HALF" = some u/\cW v u/\IsD K (fun _=>none) v d_HALF
 MOST_BOATS:∃ v u,mg "MOST_BOATS" = some u/\cW v u/\IsD K (fun _=>none) v d_MOST_BOATS
 NOUGHT:∃ v u,mg "NOUGHT" = some u/\cW v u/\IsD K (fun _=>none) v eV
 UP:∃ v u,mg "UP" = some u/\cW v u/\IsD K (fun _=>none) v d_UP
 WEIGHTED:∃ v u,mg "WEIGHTED" = some u/\cW v u/\IsD K (fun _=>none) v d_WEIGHTED
 CONTRARY:∃ a,IsTab K mg "CONTRARY" aT a
structure Rt (K:PySem.W.Frag) (mg:Str->Option Ja):Prop where
 BadClaim:∃ C,Err K mg "BadClaim" C
 BadLine:∃ C,Err K mg "BadLine" C
 BadWay:∃ C,Err K mg "BadWay" C
 BadWeights:∃ C,Err K mg "BadWeights" C
 NoFraction:∃ C,Err K mg "NoFraction" C
 Outside:∃ C,Err K mg "Outside" C
 TooMany:∃ C,Err K mg "TooMany" C
 Unlike:∃ C,Err K mg "Unlike" C
structure Et (K:PySem.W.Frag) (mg:Str->Option Ja):Prop where
 cat:∀ c,tbT.contains c=true->Cat K mg "CatchError" c
 ek:EK K mg zKu ["Unlike","ValueError","NoText","NoFraction","NoBoat","BadWeights","BadWay","BadLine","BadClaim","BadCatch","TooMany","Outside"]
def zSR{K:Fg_}{h:Je}{mg:Str->Option Ja}{t0 t1 t2 t3 t4 t5 t6 t7 t8 t9 t10:Tok}{pHALF0:Jc}{o_pHALF0:Option Jc}{n_pHALF0:Nat}{s_pHALF0:Array (Option Ja)}{pNOUGHT1:Jc}{o_pNOUGHT1:Option Jc}{n_pNOUGHT1:Nat}{s_pNOUGHT1:Array (Option Ja)}{pWEIGHTED2:Jc}{o_pWEIGHTED2:Option Jc}{n_pWEIGHTED2:Nat}{s_pWEIGHTED2:Array (Option Ja)}{a_CONTRARY:Jc}(X:K.In h)(G:h.Ns mainGlobals mg)(n_ACROSS:PySem.W.nsIn K mainGlobals "ACROSS" = some (some (.int (0) t0)))(n_BOAT:PySem.W.nsIn K mainGlobals "BOAT" = some (some (.str "boat" t1)))(n_DEEPEST:PySem.W.nsIn K mainGlobals "DEEPEST" = some (some (.int (8) t2)))(n_HALF:PySem.W.nsIn K mainGlobals "HALF" = some (some (.ref pHALF0)))(pHALF0_l:K.lookup pHALF0=some ⟨.type "tuple", o_pHALF0,.seq #[.int (1) t3,.int (2) t4] n_pHALF0,s_pHALF0⟩)(n_MOST_BOATS:PySem.W.nsIn K mainGlobals "MOST_BOATS" = some (some (.int (12) t5)))(n_NOUGHT:PySem.W.nsIn K mainGlobals "NOUGHT" = some (some (.ref pNOUGHT1)))(pNOUGHT1_l:K.lookup pNOUGHT1=some ⟨.type "tuple", o_pNOUGHT1,.seq #[.int (0) t6,.int (1) t7] n_pNOUGHT1,s_pNOUGHT1⟩)(n_UP:PySem.W.nsIn K mainGlobals "UP" = some (some (.int (1) t8)))(n_WEIGHTED:PySem.W.nsIn K mainGlobals "WEIGHTED" = some (some (.ref pWEIGHTED2)))(pWEIGHTED2_l:K.lookup pWEIGHTED2=some ⟨.type "tuple", o_pWEIGHTED2,.seq #[.str "even" t9,.str "lack" t10] n_pWEIGHTED2,s_pWEIGHTED2⟩)(n_CONTRARY:PySem.W.nsIn K mainGlobals "CONTRARY" = some (some (.ref a_CONTRARY)))(aT:PyProof.Rows.KTD.tabLook (PyProof.Rows.KTD.datLooks fun a=>K.lookup a) (fun a=>K.lookup a) a_CONTRARY (zKL Lw.aT)=true):Ct K mg:=⟨⟨.int (0),_,Vg X G n_ACROSS,⟨_,rfl⟩,(.int _)⟩,⟨.str "boat", _,Vg X G n_BOAT,⟨_,rfl⟩,(.str _)⟩,⟨.int (8),_,Vg X G n_DEEPEST,⟨_,rfl⟩,(.int _)⟩,⟨.ref pHALF0,_,Vg X G n_HALF,rfl,(.tup (.inr ⟨_,_,_,pHALF0_l,rfl,rfl,W6 rfl,(.cons (show cW (.int (1)) _ from ⟨_,rfl⟩) (.cons (show cW (.int (2)) _ from ⟨_,rfl⟩) .nil))⟩) (.cons (.int _) (.cons (.int _) .nil)))⟩,⟨.int (12),_,Vg X G n_MOST_BOATS,⟨_,rfl⟩,(.int _)⟩,⟨.ref pNOUGHT1,_,Vg X G n_NOUGHT,rfl,(.tup (.inr ⟨_,_,_,pNOUGHT1_l,rfl,rfl,W6 rfl,(.cons (show cW (.int (0)) _ from ⟨_,rfl⟩) (.cons (show cW (.int (1)) _ from ⟨_,rfl⟩) .nil))⟩) (.cons (.int _) (.cons (.int _) .nil)))⟩,⟨.int (1),_,Vg X G n_UP,⟨_,rfl⟩,(.int _)⟩,⟨.ref pWEIGHTED2,_,Vg X G n_WEIGHTED,rfl,(.tup (.inr ⟨_,_,_,pWEIGHTED2_l,rfl,rfl,W6 rfl,(.cons (show cW (.str "even") _ from ⟨_,rfl⟩) (.cons (show cW (.str "lack") _ from ⟨_,rfl⟩) .nil))⟩) (.cons (.str _) (.cons (.str _) .nil)))⟩,⟨a_CONTRARY,Vg X G n_CONTRARY,fun h X=>PyProof.Rows.KTD.text_of_look X aT⟩⟩
def zSq{K:Fg_}{h:Je}{mg:Str->Option Ja}{Mk:Jc}{Ml:Jc}{Mm:Jc}{Mn:Jc}{Mq:Jc}{Ms:Jc}{Mt:Jc}{Mu:Jc}(X:K.In h)(G:h.Ns mainGlobals mg)(n_BadClaim:PySem.W.nsIn K mainGlobals "BadClaim" = some (some (.ref Mk)))(x_BadClaim:PySem.W.excIn K Mk [.type "ValueError", .type "Exception", .type "BaseException", .type "object"] "ValueError.__new__" = true)(n_BadLine:PySem.W.nsIn K mainGlobals "BadLine" = some (some (.ref Ml)))(x_BadLine:PySem.W.excIn K Ml [.type "ValueError", .type "Exception", .type "BaseException", .type "object"] "ValueError.__new__" = true)(n_BadWay:PySem.W.nsIn K mainGlobals "BadWay" = some (some (.ref Mm)))(x_BadWay:PySem.W.excIn K Mm [.type "ValueError", .type "Exception", .type "BaseException", .type "object"] "ValueError.__new__" = true)(n_BadWeights:PySem.W.nsIn K mainGlobals "BadWeights" = some (some (.ref Mn)))(x_BadWeights:PySem.W.excIn K Mn [.type "ValueError", .type "Exception", .type "BaseException", .type "object"] "ValueError.__new__" = true)(n_NoFraction:PySem.W.nsIn K mainGlobals "NoFraction" = some (some (.ref Mq)))(x_NoFraction:PySem.W.excIn K Mq [.type "ValueError", .type "Exception", .type "BaseException", .type "object"] "ValueError.__new__" = true)(n_Outside:PySem.W.nsIn K mainGlobals "Outside" = some (some (.ref Ms)))(x_Outside:PySem.W.excIn K Ms [.type "ValueError", .type "Exception", .type "BaseException", .type "object"] "ValueError.__new__" = true)(n_TooMany:PySem.W.nsIn K mainGlobals "TooMany" = some (some (.ref Mt)))(x_TooMany:PySem.W.excIn K Mt [.type "ValueError", .type "Exception", .type "BaseException", .type "object"] "ValueError.__new__" = true)(n_Unlike:PySem.W.nsIn K mainGlobals "Unlike" = some (some (.ref Mu)))(x_Unlike:PySem.W.excIn K Mu [.type "ValueError", .type "Exception", .type "BaseException", .type "object"] "ValueError.__new__" = true):Rt K mg:=⟨tI X G n_BadClaim x_BadClaim X2,tI X G n_BadLine x_BadLine X2,tI X G n_BadWay x_BadWay X2,tI X G n_BadWeights x_BadWeights X2,tI X G n_NoFraction x_NoFraction X2,tI X G n_Outside x_Outside X2,tI X G n_TooMany x_TooMany X2,tI X G n_Unlike x_Unlike X2⟩
def zSM{K:Fg_}{h:Je}{mg:Str->Option Ja}{Mo:Jc}{Mu:Jc}{Mr:Jc}{Mq:Jc}{Mp:Jc}{Mn:Jc}{Mm:Jc}{Ml:Jc}{Mk:Jc}{Mj:Jc}{Mt:Jc}{Ms:Jc}(X:K.In h)(G:h.Ns mainGlobals mg)
  (n_CatchError:PySem.W.nsIn K mainGlobals "CatchError" = some (some (.ref Mo)))
  (n_Unlike:PySem.W.nsIn K mainGlobals "Unlike" = some (some (.ref Mu)))
  (n_NoText:PySem.W.nsIn K mainGlobals "NoText" = some (some (.ref Mr)))
  (n_NoFraction:PySem.W.nsIn K mainGlobals "NoFraction" = some (some (.ref Mq)))
  (n_NoBoat:PySem.W.nsIn K mainGlobals "NoBoat" = some (some (.ref Mp)))
  (n_BadWeights:PySem.W.nsIn K mainGlobals "BadWeights" = some (some (.ref Mn)))
  (n_BadWay:PySem.W.nsIn K mainGlobals "BadWay" = some (some (.ref Mm)))
  (n_BadLine:PySem.W.nsIn K mainGlobals "BadLine" = some (some (.ref Ml)))
  (n_BadClaim:PySem.W.nsIn K mainGlobals "BadClaim" = some (some (.ref Mk)))
  (n_BadCatch:PySem.W.nsIn K mainGlobals "BadCatch" = some (some (.ref Mj)))
  (n_TooMany:PySem.W.nsIn K mainGlobals "TooMany" = some (some (.ref Mt)))
  (n_Outside:PySem.W.nsIn K mainGlobals "Outside" = some (some (.ref Ms)))
  (z_ValueError:PySem.W.nsIn K mainGlobals "ValueError" = some none)
  (ce1:PySem.W.typeIn K (.ref Mo)=some (.type "type"))
  (ce2:PySem.W.hasDictIn K Mo=true)
  (ce3:PySem.W.mroIn K Mo (.type "BaseException")=some true)
  (g5:PySem.W.specialIn K (.builtin "object.__class__") "__get__" = some (some (.builtin "getset_descriptor.__get__")))
  (g6:PySem.W.takesIn K (.builtin "object.__class__")=some true)
  (e1_Unlike:PySem.W.hasDictIn K Mu=true)
  (e2_Unlike:PySem.W.findIn K (.ref Mu) "__getattribute__" = some (some (.builtin "BaseException.__getattribute__")))
  (e3_Unlike:PySem.W.findIn K (.ref Mu) "__getattr__" = some none)
  (e4_Unlike:PySem.W.findIn K (.ref Mu) "__class__" = some (some (.builtin "object.__class__")))
  (e7_Unlike:PySem.W.mroIn K Mu (.type "object")=some true)
  (e8_Unlike:PySem.W.mroIn K Mu (.type "BaseException")=some true)
  (em_Unlike:PySem.W.mroIn K Mu (.ref Mo)=some true)
  (k_Unlike_Unlike:PySem.W.kitOne K (.ref Mu) (.ref Mu)=some true)
  (k_Unlike_ValueError:PySem.W.kitOne K (.ref Mu) (.type "ValueError")=some true)
  (k_Unlike_NoText:PySem.W.kitOne K (.ref Mu) (.ref Mr)=some false)
  (k_Unlike_NoFraction:PySem.W.kitOne K (.ref Mu) (.ref Mq)=some false)
  (k_Unlike_NoBoat:PySem.W.kitOne K (.ref Mu) (.ref Mp)=some false)
  (k_Unlike_BadWeights:PySem.W.kitOne K (.ref Mu) (.ref Mn)=some false)
  (k_Unlike_BadWay:PySem.W.kitOne K (.ref Mu) (.ref Mm)=some false)
  (k_Unlike_BadLine:PySem.W.kitOne K (.ref Mu) (.ref Ml)=some false)
  (k_Unlike_BadClaim:PySem.W.kitOne K (.ref Mu) (.ref Mk)=some false)
  (k_Unlike_BadCatch:PySem.W.kitOne K (.ref Mu) (.ref Mj)=some false)
  (k_Unlike_TooMany:PySem.W.kitOne K (.ref Mu) (.ref Mt)=some false)
  (k_Unlike_Outside:PySem.W.kitOne K (.ref Mu) (.ref Ms)=some false):Et K mg:=by
 refine⟨fun c hc=>?_,fun c l hl=>?_⟩
 ·simp only[tbT,List.contains_cons,List.contains_nil,Ul,Xk,beq_iff_eq] at hc
  rcases hc with rfl
  ·exact⟨Mu,Mo,Vg X G n_Unlike,Vg X G n_CatchError,(zNb e1_Unlike e2_Unlike e3_Unlike e4_Unlike g5 g6 e7_Unlike e8_Unlike),zPX ce1 ce2 ce3,em_Unlike⟩
 ·have hm:=zG hl
  simp only[zKu,Qc,V3,or_false,Prod.mk.injEq] at hm;rcases hm with⟨rfl,rfl⟩
  ·refine⟨Mu,Vg X G n_Unlike,(zNb e1_Unlike e2_Unlike e3_Unlike e4_Unlike g5 g6 e7_Unlike e8_Unlike),fun x hx=>?_⟩
   simp only[List.contains_cons,List.contains_nil,Ul,Xk,beq_iff_eq] at hx;rcases hx with rfl | rfl | rfl | rfl | rfl | rfl | rfl | rfl | rfl | rfl | rfl | rfl
   ·exact⟨_,_,fU X G n_Unlike,⟨_,.inl rfl⟩,k_Unlike_Unlike⟩
   ·exact⟨_,_,zKQ X G z_ValueError PyProof.Rows.Boot.«ValueError» (by decide),⟨0,.inr ⟨_,rfl⟩⟩,k_Unlike_ValueError⟩
   ·exact⟨_,_,fU X G n_NoText,⟨_,.inl rfl⟩,k_Unlike_NoText⟩
   ·exact⟨_,_,fU X G n_NoFraction,⟨_,.inl rfl⟩,k_Unlike_NoFraction⟩
   ·exact⟨_,_,fU X G n_NoBoat,⟨_,.inl rfl⟩,k_Unlike_NoBoat⟩
   ·exact⟨_,_,fU X G n_BadWeights,⟨_,.inl rfl⟩,k_Unlike_BadWeights⟩
   ·exact⟨_,_,fU X G n_BadWay,⟨_,.inl rfl⟩,k_Unlike_BadWay⟩
   ·exact⟨_,_,fU X G n_BadLine,⟨_,.inl rfl⟩,k_Unlike_BadLine⟩
   ·exact⟨_,_,fU X G n_BadClaim,⟨_,.inl rfl⟩,k_Unlike_BadClaim⟩
   ·exact⟨_,_,fU X G n_BadCatch,⟨_,.inl rfl⟩,k_Unlike_BadCatch⟩
   ·exact⟨_,_,fU X G n_TooMany,⟨_,.inl rfl⟩,k_Unlike_TooMany⟩
   ·exact⟨_,_,fU X G n_Outside,⟨_,.inl rfl⟩,k_Unlike_Outside⟩
section
variable(P:Jf)(w:Jg){K:Fg_}{mg:Str->Option Ja}(base:Je)(k:Nat){f:Jc}{fd:FuncData}
set_option hygiene false in
local macro_rules | `(∅)=>`(CanM P w K mg base)
def zJx:RankDef iT:=⟨rfl,rfl,rfl,rfl,rfl,fun _ _ _=>⟨_,_,rfl,rfl,rfl⟩⟩
section
variable(B:Bt mg)(KT:Kt K)(C:Ct K mg)(R:Rt K mg)(ET:Et K mg)
variable(Qaq:∅ k "common_divisor" ["one","two"] dI)(Qce:∅ k "less" ["one","two"] fR)(Qa1:∅ k "refuse_way" ["way"] bW)(Qat:∅ k "refuse_claims" ["claims"] eA)(Qar:∅ k "refuse_weights" ["way","weights","many"] aZ)(Qbt:∅ k "is_boat" ["custom"] cB)(Qb8:∅ k "whole" ["number"] bJ)(Qay:∅ k "_law_cell_at" ["script","k"] bP)(Qcf:∅ k "made" ["top","bottom"] jU)(Qa2:∅ k "is_outside" ["amount","most"] dS)(Qbw:∅ k "lesser" ["one","two"] lB)(Qb7:∅ k "minus" ["one","two"] cP)(Qby:CanR P w K mg base k kJ)(Qbf:∅ k "levels_of" ["weights","claims"] dZ)(Qcb:∅ k "over" ["one","two"] pO)(Qb9:∅ k "times" ["one","two"] dC)(Qao:∅ k "first_reaching" ["line","axis","amount"] dH)(Qcd:∅ k "plus" ["one","two"] mI)(Qaz:∅ k "even_dealt" ["weights","claims","catch"] dA)(Qa0:∅ k "refuse_bad" ["points"] iB)(Qa9:∅ k "is_between" ["ahead","point","later"] hZ)(Qap:∅ k "refuse_outside" ["amount","most"] bE)(Qci:∅ k "met" ["line","axis","amount"] wA)(Qbu:∅ k "length" ["line"] lG)(Qb1:∅ k "merged" ["one","two"] lY)(Qbp:∅ k "line_of" ["points"] eS)(Qbv:∅ k "height" ["line"] qA)(Qbz:∅ k "places" ["line"] fX)(Qca:∅ k "value" ["line","x"] jR)(Qbk:∅ k "mirrored" ["joints","most"] gP)(Qba:∅ k "row_joints" ["claims"] fM)(Qax:∅ k "even_joints" ["weights","claims"] dB)(Qau:∅ k "contrary_way" ["way"] dL)(Qbd:∅ k "joints_of" ["way","weights","claims"] (bI 2))(Qbb:∅ k "row_dealt" ["claims","catch"] gO)(Qa3:∅ k "part_dealt" ["claims","catch"] fS)(Qa7:∅ k "half_dealt" ["claims","catch"] fK)(Qas:∅ k "rightly_dealt" ["way","weights","claims","catch"] (aN 2))(Qbx:∅ k "looked" ["way","weights","claims"] mC)(Qan:∅ k "without_doubles" ["joints"] cZ)(Qbo:∅ k "line_at" ["joints","dealings","spot"] nL)(Qbs:∅ k "kids_of" ["custom"] bQ)(Qbg:∅ k "claims_of" ["custom"] (cM 10))(Qbr:∅ k "deep_of" ["custom"] (jF 10))(Qbh:∅ k "claim_of" ["custom"] dJ)(Qcg:∅ k "knot" ["way","weights","kids"] kG)(Qbm:∅ k "_law_knot" ["kids","cell"] fL)(Qcc:∅ k "boat" ["claim"] mE)(Qbi:∅ k "_law_tree" ["claims","script","at"] eI)(Qb5:∅ k "dealt" ["way","weights","claims","catch"] rQ)(Qb3:∅ k "way_of" ["custom"] iQ)(Qa5:∅ k "weights_of" ["custom"] cU)(Qa6:∅ k "kid_claims" ["custom"] cT)(Qbl:∅ k "dealt_on" ["custom","catch"] (fQ 10))(Qbe:∅ k "way_lines" ["way","weights","claims"] gG)(Qbn:∅ k "straight" ["claim"] gF)(Qb0:∅ k "behind" ["one","two"] gZ)(Qbj:∅ k "lines_of" ["custom"] (cQ 10))(Qav:∅ k "first_unlike" ["one","two"] eU)(Qb2:∅ k "parted" ["one","two"] eD)(Qb4:∅ k "shares" ["custom","catch"] lP)(Qb6:∅ k "alike" ["one","two"] iM)(Qa4:∅ k "_law_claims" ["script","at","most"] hJ)(Qa8:∅ k "_law_beside" ["one","claims","script","cell"] iE)(Qbq:∅ k "_law_due" ["one","two"] mU)(Qbc:∅ k "_law_right" ["one","two","due"] dY)(Qaw:∅ k "_law_refused" ["asked","one","two"] eE)
def sJ(F:Fn K mg "common_divisor" iJ ["one","two"] f fd):∅ (k+1) "common_divisor" ["one","two"] dI:=
  eR F cG fun W WR=>(aD (s_z 0 cG.nd (aU zAU zIC rfl B.abs boot_abs (bB 0)))
 (aD (s_z 1 cG.nd (aU zAU zIC rfl B.abs boot_abs (bB 1)))
 (aD (zDB W.own (tst (neA W.u) zKr (aL 1) bT (aW _)) (aD (s_z 2 cG.nd (bC cN jK (aL 0) (aL 1)))
 (aD (s_z 0 cG.nd (aL 1))
 (aI (s_z 1 cG.nd (aL 2))))))
 (aI (bX (aL 0))))))
def zKF(F:Fn K mg "whole" zDO ["number"] f fd):∅ (k+1) "whole" ["number"] bJ:=
 eR F zKC fun W WR=>(aI (bX (nV (aA (aL 0) (aA bT aK cA) aH))))
def zPj(F:Fn K mg "less" zIY ["one","two"] f fd):∅ (k+1) "less" ["one","two"] fR:=
 eR F zOs fun W WR=>(aI (bX (yW zAS zLL (bC fB qQ (mT 0) (mT 1)) (bC fB qQ (mT 1) (mT 0)) (aW _))))
def zHy(F:Fn K mg "ranked" iT ["some"] f fd){T:Jc}(hT:qN K mg T)(hB:BMn base mg):CanR P w K mg base (k+1) kJ:=
 zOD F qK zJx hT hB B.sorted B.range B.len rfl fun cdv A outer s H E G W WR=>⟨(s_z 1 qK.nd bT),(lX W.own W.calm (iC (aL 0)) (g_z 2 qK.nd) bM (aI (s_z 1 qK.nd (bC fB qQ (aL 1) (mT 2)))))⟩
def zBs(F:Fn K mg "refuse_way" nY ["way"] f fd):∅ (k+1) "refuse_way" ["way"] bW:=
 eR F zAQ fun W WR=>(aI (iR (zLd C.CONTRARY.choose_spec rfl (aL 0) (by with_unfolding_all rfl)) (aI (fA W WR R.BadWay rfl zAW)) bF))
def tU(F:Fn K mg "refuse_claims" jS ["claims"] f fd):∅ (k+1) "refuse_claims" ["claims"] eA:=
  eR F mF fun W WR=>(aD (iR (tst (eqA W.u) pG (aU aO dG rfl B.len Q6 (bB 0)) bT (aW _)) (aI (fA W WR R.BadClaim rfl zAW)) bF)
 (aI (lX W.own W.calm (iC (aL 0)) (g_z 1 mF.nd) bM (aI (iR (tst zAS zLL (aL 1) bT (aW _)) (aI (fA W WR R.BadClaim rfl zAW)) bF)))))
def rW(F:Fn K mg "refuse_weights" iH ["way","weights","many"] f fd):∅ (k+1) "refuse_weights" ["way","weights","many"] aZ:=
  eR F gM fun W WR=>(aD (s_z 3 gM.nd (zPd (tst (inA W.u) zTY (aL 0) (bH rfl C.WEIGHTED) (by with_unfolding_all rfl)) (aL 2) bT))
 (aD (iR (tst (neA W.u) zKr (aU aO dG rfl B.len Q6 (bB 1)) (aL 3) (aW _)) (aI (fA W WR R.BadWeights rfl zAW)) bF)
 (aI (lX W.own W.calm (iC (aL 1)) (g_z 4 gM.nd) bM (aI (iR (PWd.pt (zNc (tst zAS zLL (aL 4) bT (aW _)) (zGw (tst zDk zNF (aL 4) (bC pK zDL bT bT) (aW _))))) (aI (fA W WR R.BadWeights rfl zAW)) bF))))))
def zPm(F:Fn K mg "boat" zJS ["claim"] f fd):∅ (k+1) "boat" ["claim"] mE:=
  eR F zON fun W WR=>(aD (iR (PWd.pt (zNc (tst zAS zLL (aL 0) bT (aW _)) (zGw (tst zDk zNF (aL 0) (bC pK zDL bT bT) (aW _))))) (aI (fA W WR R.BadClaim rfl zAW)) bF)
 (aI (bX (nV (aA (bH rfl C.BOAT) (bB 0) aH)))))
def zFW(F:Fn K mg "is_boat" uK ["custom"] f fd):∅ (k+1) "is_boat" ["custom"] cB:=
 eR F zGV fun W WR=>(aI (bX (yW (eqA W.u) pG (mT 0) (bH rfl C.BOAT) (aW _))))
def zJB(F:Fn K mg "way_of" zAg ["custom"] f fd):∅ (k+1) "way_of" ["custom"] iQ:=
 eR F zIc fun W WR=>(aI (bX (mT 0)))
def zAu(F:Fn K mg "weights_of" nD ["custom"] f fd):∅ (k+1) "weights_of" ["custom"] cU:=
 eR F zAt fun W WR=>(aI (bX (mT 0)))
def zJU(F:Fn K mg "length" zAL ["line"] f fd):∅ (k+1) "length" ["line"] lG:=
 eR F zHE fun W WR=>(aI (bX (fH bG oW (fH bG oW (aL 0) (mK bT) (fun _ _=>rfl)) (bH rfl C.ACROSS) (fun _ _=>rfl))))
def zIO(F:Fn K mg "height" zAi ["line"] f fd):∅ (k+1) "height" ["line"] qA:=
 eR F zJI fun W WR=>(aI (bX (fH bG oW (fH bG oW (aL 0) (mK bT) (fun _ _=>rfl)) (bH rfl C.UP) (fun _ _=>rfl))))
def zKk(F:Fn K mg "places" tY ["line"] f fd):∅ (k+1) "places" ["line"] fX:=
 eR F zBY fun W WR=>(aI (dW (eK W zBY.nd rfl (sc:=aF tY) rfl rfl (by decide +kernel) (iC (aL 0)) (fun C2 s2 H2 fp2 G W=>⟨jO,(fH bG oW (aL 1) (bH rfl C.ACROSS) (fun _ _=>rfl))⟩))))
def xG(F:Fn K mg "_law_cell_at" lI ["script","k"] f fd):∅ (k+1) "_law_cell_at" ["script","k"] bP:=
  eR F xV fun W WR=>(aD (iR (tst zAS zLL (aL 1) (aU aO dG rfl B.len Q6 (bB 0)) (aW _)) (aI (bX (rG (aL 0) 1))) bF)
 (aI (bX bT)))
def zOh(F:Fn K mg "made" zIM ["top","bottom"] f fd):∅ (k+1) "made" ["top","bottom"] jU:=
  eR F zDF fun W WR=>(aD (iR (tst (eqA W.u) pG (aL 1) bT (aW _)) (aI (fA W WR R.NoFraction rfl zAW)) bF)
 (aD (s_z 2 zDF.nd (aE W Qaq rfl (aA (aL 0) (bB 1) aH)))
 (aD (iR (tst zAS zLL (aL 1) bT (aW _)) (aI (s_z 2 zDF.nd (mK (aL 2)))) bF)
 (aI (bX (nV (aA (bC eZ qD (aL 0) (aL 2)) (aA (bC eZ qD (aL 1) (aL 2)) aK bL) bL)))))))
def zIE(F:Fn K mg "lesser" zAK ["one","two"] f fd):∅ (k+1) "lesser" ["one","two"] lB:=
 eR F zJt fun W WR=>(aI (bX (zPd (yN (aE W Qce rfl (aA (aL 0) (bB 1) aH))) (aL 0) (aL 1))))
def zAA(F:Fn K mg "is_outside" mZ ["amount","most"] f fd):∅ (k+1) "is_outside" ["amount","most"] dS:=
 eR F zAx fun W WR=>(aI (bX (zTs (aE W Qce rfl (aA (aL 0) (aA (bH rfl C.NOUGHT) aK aH) aH)) (zMp (aE W Qce rfl (aA (aL 1) (bB 0) aH))))))
def zJm(F:Fn K mg "looked" zBi ["way","weights","claims"] f fd):∅ (k+1) "looked" ["way","weights","claims"] mC:=
  eR F zHU fun W WR=>(aD (mO (aE W Qa1 rfl (bB 0)))
 (aD (mO (aE W Qat rfl (bB 2)))
 (aI (mO (aE W Qar rfl (aA (aL 0) (aA (aL 1) (aA (aU aO dG rfl B.len Q6 (bB 2)) aK aJ) aH) aH))))))
def wF(F:Fn K mg "contrary_way" kR ["way"] f fd):∅ (k+1) "contrary_way" ["way"] dL:=
  eR F uJ fun W WR=>(aD (mO (aE W Qa1 rfl (bB 0)))
 (aI (bX (zMz C.CONTRARY.choose_spec rfl (aL 0) (fun _ _=>rfl)))))
def zGI(F:Fn K mg "kids_of" wM ["custom"] f fd):∅ (k+1) "kids_of" ["custom"] bQ:=
 eR F zGA fun W WR=>(aI (bX (zPd (yN (aE W Qbt rfl (bB 0))) (nV aK) (mT 0))))
def zBo(F:Fn K mg "refuse_bad" nX ["points"] f fd):∅ (k+1) "refuse_bad" ["points"] iB:=
  eR F iS fun W WR=>(aD (iR (tst (eqA W.u) pG (aU aO dG rfl B.len Q6 (bB 0)) bT (aW _)) (aI (fA W WR R.BadLine rfl zAW)) bF)
 (aD (iR (tst (neA W.u) zKr (mT 0) (nV (aA (bH rfl C.NOUGHT) (aA (bH rfl C.NOUGHT) aK aH) aH)) (aW _)) (aI (fA W WR R.BadLine rfl zAW)) bF)
 (aI (lX W.own W.calm (zQm rfl B.range (aA bT (aA (aU aO dG rfl B.len Q6 (bB 0)) aK aJ) cA)) (g_z 1 iS.nd) bM (aD (s_z 2 iS.nd (fH bG oW (aL 0) (bC yP zGn (aL 1) bT) (fun _ _=>rfl)))
 (aD (s_z 3 iS.nd (rG (aL 0) 1))
 (aD (iR (zMl (yN (aE W Qce rfl (aA (fH bG oW (aL 2) (bH rfl C.ACROSS) (fun _ _=>rfl)) (aA (fH bG oW (aL 3) (bH rfl C.ACROSS) (fun _ _=>rfl)) aK aQ) aQ)))) (aI (fA W WR R.BadLine rfl zAW)) bF)
 (aI (iR (yN (aE W Qce rfl (aA (fH bG oW (aL 3) (bH rfl C.UP) (fun _ _=>rfl)) (aA (fH bG oW (aL 2) (bH rfl C.UP) (fun _ _=>rfl)) aK aQ) aQ))) (aI (fA W WR R.BadLine rfl zAW)) bF)))))))))
def rL(F:Fn K mg "first_reaching" iN ["line","axis","amount"] f fd):∅ (k+1) "first_reaching" ["line","axis","amount"] dH:=
  eR F cI fun W WR=>(aD (s_z 3 cI.nd bT)
 (aD (s_z 4 cI.nd (bC yP zGn (aU aO dG rfl B.len Q6 (bB 0)) bT))
 (aD (zDB W.own (tst zAS zLL (aL 3) (aL 4) (aW _)) (aD (s_z 5 cI.nd (bC eZ qD (bC gQ rM (aL 3) (aL 4)) bT))
 (aI (iR (yN (aE W Qce rfl (aA (rG (rG (aL 0) 5) 1) (bB 2) aQ))) (aI (s_z 3 cI.nd (bC gQ rM (aL 5) bT))) (aI (s_z 4 cI.nd (aL 5)))))))
 (aI (bX (aL 3))))))
def zKi(F:Fn K mg "merged" zAR ["one","two"] f fd):∅ (k+1) "merged" ["one","two"] lY:=
  eR F kX fun W WR=>(aD (pE (i:=2) kX.nd rfl (Or.inl rfl) (bK aK))
 (aD (s_z 3 kX.nd bT)
 (aD (lX W.own W.calm (iC (aL 0)) (g_z 4 kX.nd) bM (aD (zDB W.own (PWd.pt (zCK (tst zAS zLL (aL 3) (aU aO dG rfl B.len Q6 (bB 1)) (aW _)) (sY (yN (aE W Qce rfl (aA (rG (aL 1) 3) (bB 4) aQ)))))) (aD (uP (i:=2) (pv 2) (rG (aL 1) 3))
 (aI (zGv (i:=3) kX.nd rfl (Or.inl rfl) bT zFG zBt uE))))
 (aD (iR (PWd.pt (zCK (tst zAS zLL (aL 3) (aU aO dG rfl B.len Q6 (bB 1)) (aW _)) (sY (tst (eqA W.u) pG (rG (aL 1) 3) (aL 4) (aW _))))) (aI (zGv (i:=3) kX.nd rfl (Or.inl rfl) bT zFG zBt uE)) bF)
 (aI (uP (i:=2) (pv 2) (aL 4))))))
 (aD (zLm (i:=2) (pv 2) (lD (aL 1) (pC (aL 3)) lC))
 (aI (gY 2 (pv 2)))))))
def zBh(F:Fn K mg "row_joints" mY ["claims"] f fd):∅ (k+1) "row_joints" ["claims"] fM:=
  eR F gA fun W WR=>(aD (s_z 1 gA.nd bT)
 (aD (pE (i:=2) gA.nd rfl (Or.inl rfl) (bK (aA (bH rfl C.NOUGHT) aK aH)))
 (aD (lX W.own W.calm (iC (aL 0)) (g_z 3 gA.nd) bM (aD (zGv (i:=1) gA.nd rfl (Or.inl rfl) (aL 3) zFG zBt uE)
 (aI (uP (i:=2) (pv 2) (aE W Qb8 rfl (bB 1))))))
 (aI (gY 2 (pv 2))))))
def rD(F:Fn K mg "without_doubles" gN ["joints"] f fd):∅ (k+1) "without_doubles" ["joints"] cZ:=
  eR F gB fun W WR=>(aD (pE (i:=1) gB.nd rfl (Or.inl rfl) (lD (aL 0) lC (pC bT)))
 (aD (lX W.own W.calm (iC (aL 0)) (g_z 2 gB.nd) bM (aI (iR (PTd.frz (yN (aE W Qce rfl (aA (fH bG oW (aL 1) (mK bT) (fun _ _=>rfl)) (bB 2) aQ)))) (aI (uP (i:=1) (pv 1) (aL 2))) bF)))
 (aI (gY 1 (pv 1)))))
def zBj(F:Fn K mg "_law_claims" mX ["script","at","most"] f fd):∅ (k+1) "_law_claims" ["script","at","most"] hJ:=
  eR F iU fun W WR=>(aD (pE (i:=3) iU.nd rfl (Or.inl rfl) (bK aK))
 (aD (lX W.own W.calm (zFm rfl B.range (aA (bC gQ rM bT (bC cN jK (aE W Qay rfl (aA (aL 0) (bB 1) aH)) (aL 2))) aK bL)) (g_z 4 iU.nd) bM (aD (s_z 5 iU.nd (bC cN jK (aE W Qay rfl (aA (aL 0) (aA (bC gQ rM (bC gQ rM (aL 1) bT) (aL 4)) aK bL) aH)) (bC pK zDL bT bT)))
 (aI (uP (i:=3) (pv 3) (fH bG oW (PEf.d (bK (aA (bC cN jK (bC eZ qD (aL 5) bT) bT) (aA (bC cN jK (bC eZ qD (aL 5) bT) bT) (aA (bC cN jK (bC eZ qD (aL 5) bT) (bC gQ rM (bC pK zDL bT bT) bT)) aK bL) bL) bL))) (bC cN jK (aL 5) bT) (fun _ _=>rfl))))))
 (aI (gY 3 (pv 3)))))
def zOR(F:Fn K mg "plus" zHm ["one","two"] f fd):∅ (k+1) "plus" ["one","two"] mI:=
 eR F zPg fun W WR=>(aI (bX (aE W Qcf rfl (aA (bC gQ rM (bC fB qQ (mT 0) (mT 1)) (bC fB qQ (mT 1) (mT 0))) (aA (bC fB qQ (mT 0) (mT 1)) aK bL) bL))))
def zLF(F:Fn K mg "minus" zEl ["one","two"] f fd):∅ (k+1) "minus" ["one","two"] cP:=
 eR F zLi fun W WR=>(aI (bX (aE W Qcf rfl (aA (bC yP zGn (bC fB qQ (mT 0) (mT 1)) (bC fB qQ (mT 1) (mT 0))) (aA (bC fB qQ (mT 0) (mT 1)) aK bL) bL))))
def zKH(F:Fn K mg "times" zEx ["one","two"] f fd):∅ (k+1) "times" ["one","two"] dC:=
 eR F zKE fun W WR=>(aI (bX (aE W Qcf rfl (aA (bC fB qQ (mT 0) (mT 1)) (aA (bC fB qQ (mT 0) (mT 1)) aK bL) bL))))
def zOS(F:Fn K mg "over" zJA ["one","two"] f fd):∅ (k+1) "over" ["one","two"] pO:=
 eR F zOM fun W WR=>(aI (bX (aE W Qcf rfl (aA (bC fB qQ (mT 0) (mT 1)) (aA (bC fB qQ (mT 0) (mT 1)) aK bL) bL))))
def sL(F:Fn K mg "refuse_outside" iG ["amount","most"] f fd):∅ (k+1) "refuse_outside" ["amount","most"] bE:=
 eR F rO fun W WR=>(aI (iR (yN (aE W Qa2 rfl (aA (aL 0) (bB 1) aH))) (aI (fA W WR R.Outside rfl zAW)) bF))
def zCn(F:Fn K mg "levels_of" lT ["weights","claims"] f fd):∅ (k+1) "levels_of" ["weights","claims"] dZ:=
 eR F zCA fun W WR=>(aI (dW (uF (N:=["weights","claims"]) W (by decide +kernel) rfl (sc:=aF lT) rfl rfl (by decide +kernel) (zHT rfl B.zip (aA (aL 1) (bB 0) aH)) (fun C2 s2 H2 fp2 G W=>(aE W Qcf rfl (aA (aL 2) (bB 3) aH))))))
def zCW(F:Fn K mg "row_dealt" oV ["claims","catch"] f fd):∅ (k+1) "row_dealt" ["claims","catch"] gO:=
  eR F fO fun W WR=>(aD (s_z 2 fO.nd (aL 1))
 (aD (pE (i:=3) fO.nd rfl (Or.inl rfl) (bK aK))
 (aD (lX W.own W.calm (iC (aL 0)) (g_z 4 fO.nd) bM (aD (s_z 5 fO.nd (aE W Qbw rfl (aA (aL 2) (aA (aE W Qb8 rfl (bB 4)) aK aJ) aH)))
 (aD (uP (i:=3) (pv 3) (aL 5))
 (aI (s_z 2 fO.nd (aE W Qb7 rfl (aA (aL 2) (bB 5) aH)))))))
 (aI (gY 3 (pv 3))))))
def zAk(F:Fn K mg "even_dealt" nM ["weights","claims","catch"] f fd):∅ (k+1) "even_dealt" ["weights","claims","catch"] dA:=
  eR F cV fun W WR=>(aD (s_z 3 cV.nd (aL 2))
 (aD (s_z 4 cV.nd (aU (lH W.calm) vX rfl B.sum jM (bB 0)))
 (aD (pE (i:=5) cV.nd rfl (Or.inl rfl) (zEJ (bK (aA (bH rfl C.NOUGHT) aK aH)) (aU aO dG rfl B.len Q6 (bB 1))))
 (zHO W Qby zQZ zLY rfl (aA (PEf.d (aX W Qbf rfl (aA (aL 0) (bB 1) aH))) aK aJ) (g_z 6 cV.nd) bM (aD (s_z 7 cV.nd (aE W Qcb rfl (aA (aE W Qb9 rfl (aA (aL 3) (aA (aE W Qb8 rfl (aA (rG (aL 0) 6) aK aQ)) aK aJ) aH)) (aA (aE W Qb8 rfl (bB 4)) aK aJ) aJ)))
 (aD (zSH (i:=5) (pv 5) (aL 6) (aE W Qbw rfl (aA (aL 7) (aA (aE W Qb8 rfl (aA (rG (aL 1) 6) aK aQ)) aK aJ) aH)))
 (aD (s_z 3 cV.nd (PEd.frz (aE W Qb7 rfl (aA (aL 3) (aA (rG (aL 5) 6) aK aQ) aH))))
 (aI (zGv (i:=4) cV.nd rfl (Or.inl rfl) (rG (aL 0) 6) zMi zHG zFN))))) (aI (gY 5 (pv 5)))))))
def zBg(F:Fn K mg "part_dealt" kD ["claims","catch"] f fd):∅ (k+1) "part_dealt" ["claims","catch"] fS:=
  eR F iV fun W WR=>(aD (s_z 2 iV.nd (aU (lH W.calm) vX rfl B.sum jM (bB 0)))
 (aD (iR (tst (eqA W.u) pG (aL 2) bT (aW _)) (aI (dW (zEJ (bK (aA (bH rfl C.NOUGHT) aK aH)) (aU aO dG rfl B.len Q6 (bB 0))))) bF)
 (aD (s_z 3 iV.nd (aE W Qcb rfl (aA (aL 1) (aA (aE W Qb8 rfl (bB 2)) aK aJ) aH)))
 (aI (dW (eK W iV.nd rfl (sc:=aF kD) rfl rfl (by decide +kernel) (iC (aL 0)) (fun C2 s2 H2 fp2 G W=>⟨jO,(aE W Qb9 rfl (aA (aL 3) (aA (aE W Qb8 rfl (bB 4)) aK aJ) aH))⟩)))))))
def zBd(F:Fn K mg "is_between" nH ["ahead","point","later"] f fd):∅ (k+1) "is_between" ["ahead","point","later"] hZ:=
  eR F fT fun W WR=>(aD (s_z 3 fT.nd (aE W Qb7 rfl (aA (fH bG oW (aL 1) (bH rfl C.UP) (fun _ _=>rfl)) (aA (fH bG oW (aL 0) (bH rfl C.UP) (fun _ _=>rfl)) aK aQ) aQ)))
 (aD (s_z 4 fT.nd (aE W Qb7 rfl (aA (fH bG oW (aL 2) (bH rfl C.UP) (fun _ _=>rfl)) (aA (fH bG oW (aL 1) (bH rfl C.UP) (fun _ _=>rfl)) aK aQ) aQ)))
 (aD (s_z 5 fT.nd (aE W Qb7 rfl (aA (fH bG oW (aL 1) (bH rfl C.ACROSS) (fun _ _=>rfl)) (aA (fH bG oW (aL 0) (bH rfl C.ACROSS) (fun _ _=>rfl)) aK aQ) aQ)))
 (aD (s_z 6 fT.nd (aE W Qb7 rfl (aA (fH bG oW (aL 2) (bH rfl C.ACROSS) (fun _ _=>rfl)) (aA (fH bG oW (aL 1) (bH rfl C.ACROSS) (fun _ _=>rfl)) aK aQ) aQ)))
 (aI (bX (yW (eqA W.u) pG (aE W Qb9 rfl (aA (aL 3) (bB 6) aH)) (aE W Qb9 rfl (aA (aL 4) (bB 5) aH)) (aW _))))))))
def zRn(F:Fn K mg "met" zPh ["line","axis","amount"] f fd):∅ (k+1) "met" ["line","axis","amount"] wA:=
  eR F zD fun W WR=>(aD (s_z 3 zD.nd (bC yP zGn bT (aL 1)))
 (aD (s_z 4 zD.nd (aE W Qao rfl (aA (aL 0) (aA (aL 1) (bB 2) aH) aH)))
 (aD (s_z 5 zD.nd (rG (aL 0) 4))
 (aD (iR (tst (eqA W.u) pG (rG (aL 5) 1) (aL 2) (aW _)) (aI (bX (rG (aL 5) 3))) bF)
 (aD (s_z 6 zD.nd (fH bG oW (aL 0) (bC yP zGn (aL 4) bT) (fun _ _=>rfl)))
 (aD (s_z 7 zD.nd (aE W Qcb rfl (aA (aE W Qb7 rfl (aA (aL 2) (aA (rG (aL 6) 1) aK aQ) aH)) (aA (aE W Qb7 rfl (aA (rG (aL 5) 1) (aA (rG (aL 6) 1) aK aQ) aQ)) aK aJ) aJ)))
 (aI (bX (aE W Qcd rfl (aA (rG (aL 6) 3) (aA (aE W Qb9 rfl (aA (aL 7) (aA (aE W Qb7 rfl (aA (rG (aL 5) 3) (aA (rG (aL 6) 3) aK aQ) aQ)) aK aJ) aH)) aK aJ) aQ))))))))))
def xH(F:Fn K mg "even_joints" lK ["weights","claims"] f fd):∅ (k+1) "even_joints" ["weights","claims"] dB:=
  eR F cD fun W WR=>(aD (s_z 2 cD.nd bT)
 (aD (s_z 3 cD.nd (aU (lH W.calm) vX rfl B.sum jM (bB 0)))
 (aD (s_z 4 cD.nd (PEf.d (aX W Qbf rfl (aA (aL 0) (bB 1) aH))))
 (aD (pE (i:=5) cD.nd rfl (Or.inl rfl) (bK (aA (bH rfl C.NOUGHT) aK aH)))
 (zHO W Qby zQZ zLY rfl (bB 4) (g_z 6 cD.nd) bM (aD (uP (i:=5) (pv 5) (aE W Qcd rfl (aA (aE W Qb8 rfl (bB 2)) (aA (aE W Qb9 rfl (aA (rG (aL 4) 6) (aA (aE W Qb8 rfl (bB 3)) aK aJ) aQ)) aK aJ) aJ)))
 (aD (zGv (i:=2) cD.nd rfl (Or.inl rfl) (rG (aL 1) 6) zFG zBt uE)
 (aI (zGv (i:=3) cD.nd rfl (Or.inl rfl) (rG (aL 0) 6) zMi zHG zFN)))) (aI (gY 5 (pv 5))))))))
def zDS(F:Fn K mg "mirrored" oC ["joints","most"] f fd):∅ (k+1) "mirrored" ["joints","most"] gP:=
 eR F wN fun W WR=>(aI (dW (eK W wN.nd rfl (sc:=aF oC) rfl rfl (by decide +kernel) (zRI rfl B.reversed (aL 0)) (fun C2 s2 H2 fp2 G W=>⟨jO,(aE W Qb7 rfl (aA (aL 1) (bB 2) aH))⟩))))
def zBl(F:Fn K mg "half_dealt" kH ["claims","catch"] f fd):∅ (k+1) "half_dealt" ["claims","catch"] fK:=
  eR F lN fun W WR=>(aD (s_z 2 lN.nd (PEf.d (zEJ (bK (aA bT aK cA)) (aU aO dG rfl B.len Q6 (bB 0)))))
 (aI (dW (eK W lN.nd rfl (sc:=aF kH) rfl rfl (by decide +kernel) (iC (PEf.d (aX W Qaz rfl (aA (aL 2) (aA (aL 0) (aA (aE W Qcd rfl (aA (aL 1) (bB 1) aH)) aK aJ) aH) aH)))) (fun C2 s2 H2 fp2 G W=>⟨jO,(aE W Qb9 rfl (aA (aL 3) (aA (bH rfl C.HALF) aK aH) aH))⟩)))))
def zFU(F:Fn K mg "line_of" vU ["points"] f fd):∅ (k+1) "line_of" ["points"] eS:=
  eR F sN fun W WR=>(aD (mO (aE W Qa0 rfl (bB 0)))
 (aD (pE (i:=1) sN.nd rfl (Or.inl rfl) (bK aK))
 (aD (lX W.own W.calm (iC (aL 0)) (g_z 2 sN.nd) bM (aD (iR (PTd.frz (PWd.pt (zCK (tst zDk zNF (aU aO dG rfl B.len Q6 (bB 1)) bT (aW _)) (sY (yN (aE W Qa9 rfl (aA (fH bG oW (aL 1) (mK bT) (fun _ _=>rfl)) (aA (fH bG oW (aL 1) (mK bT) (fun _ _=>rfl)) (bB 2) aQ) aQ))))))) (aI (zSZ (i:=1) (pv 1))) bF)
 (aI (uP (i:=1) (pv 1) (aL 2)))))
 (aI (bX (vR lU zHA rfl B.tuple Mh (bB 1)))))))
def zLU(F:Fn K mg "value" zEs ["line","x"] f fd):∅ (k+1) "value" ["line","x"] jR:=
  eR F zKD fun W WR=>(aD (mO (aE W Qap rfl (aA (aL 1) (aA (aE W Qbu rfl (bB 0)) aK aJ) aH)))
 (aI (bX (aE W Qci rfl (aA (aL 0) (aA (bH rfl C.ACROSS) (bB 1) aH) aH)))))
def zHb(F:Fn K mg "behind" qM ["one","two"] f fd):∅ (k+1) "behind" ["one","two"] gZ:=
  eR F nI fun W WR=>(aD (iR (tst (neA W.u) zKr (aE W Qbu rfl (bB 0)) (aE W Qbv rfl (bB 1)) (aW _)) (aI (fA W WR R.Unlike rfl zAW)) bF)
 (aD (zIQ (i:=2) nI.nd rfl (Or.inl rfl) (PCf.d (zBb W nI.nd rfl (sc:=aF qM) rfl rfl (by decide +kernel) (iC (PEf.d (aX W Qbz rfl (bB 0)))) (fun C2 s2 H2 fp2 G W=>⟨jO,(aE W Qci rfl (aA (aL 1) (aA (bH rfl C.UP) (bB 4) aH) aH))⟩))) rfl)
 (aD (s_z 3 nI.nd (PEf.d (aX W Qb1 rfl (aA (PEf.d (aX W Qbz rfl (bB 1))) (bB 2) aJ))))
 (aI (bX (aE W Qbp rfl (aA (PEf.d (eK W nI.nd rfl (sc:=aF qM) rfl rfl (by decide +kernel) (iC (aL 3)) (fun C2 s2 H2 fp2 G W=>⟨jO,(nV (aA (aL 4) (aA (aE W Qca rfl (aA (aL 0) (aA (aE W Qca rfl (aA (aL 1) (bB 4) aH)) aK aJ) aH)) aK aJ) aH))⟩))) aK)))))))
def zGa(F:Fn K mg "line_at" qU ["joints","dealings","spot"] f fd):∅ (k+1) "line_at" ["joints","dealings","spot"] nL:=
 eR F zGN fun W WR=>(aI (bX (aE W Qbp rfl (aA (PEf.d (uF (N:=["joints","dealings","spot"]) W (by decide +kernel) rfl (sc:=aF qU) rfl rfl (by decide +kernel) (zHT rfl B.zip (aA (aL 0) (bB 1) aH)) (fun C2 s2 H2 fp2 G W=>(nV (aA (aL 3) (aA (rG (aL 4) 2) aK aQ) aH))))) aK))))
def zEa(F:Fn K mg "straight" sD ["claim"] f fd):∅ (k+1) "straight" ["claim"] gF:=
  eR F vW fun W WR=>(aD (s_z 1 vW.nd (nV (aA (bH rfl C.NOUGHT) (aA (bH rfl C.NOUGHT) aK aH) aH)))
 (aD (iR (tst (eqA W.u) pG (aL 0) bT (aW _)) (aI (bX (aE W Qbp rfl (aA (PEf.d (bK (bB 1))) aK kC)))) bF)
 (aI (bX (aE W Qbp rfl (aA (PEf.d (bK (aA (aL 1) (aA (nV (aA (aE W Qb8 rfl (bB 0)) (aA (aE W Qb8 rfl (bB 0)) aK aJ) aJ)) aK zLf) aH))) aK kC))))))
def wX(F:Fn K mg "first_unlike" gX ["one","two"] f fd):∅ (k+1) "first_unlike" ["one","two"] eU:=
  eR F jQ fun W WR=>(aD (s_z 2 jQ.nd (PEf.d (aX W Qb1 rfl (aA (PEf.d (aX W Qbz rfl (bB 0))) (aA (PEf.d (aX W Qbz rfl (bB 1))) aK aJ) aJ))))
 (aI (bX (zUg (PEf.d (eK W jQ.nd rfl (sc:=aF gX) rfl rfl (by decide +kernel) (iC (aL 2)) (fun C2 s2 H2 fp2 G W=>⟨(zPY (tst (neA W.u) zKr (aE W Qca rfl (aA (aL 0) (bB 3) aH)) (aE W Qca rfl (aA (aL 1) (bB 3) aH)) (aW _))),(aL 3)⟩)))))))
def zCP{r:Mir}(F:Fn K mg "joints_of" jN ["way","weights","claims"] f fd)(Qbd:∅ k "joints_of" ["way","weights","claims"] r):∅ (k+1) "joints_of" ["way","weights","claims"] (bZ r):=
  eR F iA fun W WR=>(aD (s_z 3 iA.nd (aE W Qb8 rfl (aA (aU (lH W.calm) vX rfl B.sum jM (bB 2)) aK aJ)))
 (aD (iR (tst (eqA W.u) pG (aL 0) (lL dU fun _=>.str _) (aW _)) (aI (dW (aX W Qba rfl (bB 2)))) bF)
 (aD (iR (tst (eqA W.u) pG (aL 0) (lL dU fun _=>.str _) (aW _)) (aI (dW (aX W Qax rfl (aA (aL 1) (bB 2) aH)))) bF)
 (aD (iR (tst (eqA W.u) pG (aL 0) (lL dU fun _=>.str _) (aW _)) (aI (dW (bK (aA (bH rfl C.NOUGHT) (bB 3) aH)))) bF)
 (aD (iR (tst (eqA W.u) pG (aL 0) (lL dU fun _=>.str _) (aW _)) (aD (zIQ (i:=4) iA.nd rfl (Or.inl rfl) (PCf.d (zBb W iA.nd rfl (sc:=aF jN) rfl rfl (by decide +kernel) (iC (PEf.d (aX W Qax rfl (aA (PEf.d (zEJ (bK (aA bT aK cA)) (aU aO dG rfl B.len Q6 (bB 2)))) (bB 2) bL)))) (fun C2 s2 H2 fp2 G W=>⟨jO,(aE W Qb9 rfl (aA (aL 5) (aA (bH rfl C.HALF) aK aH) aH))⟩))) rfl)
 (aI (dW (vD (aL 4) (PEf.d (aX W Qbk rfl (aA (aL 4) (bB 3) aH))))))) bF)
 (aI (dW (aX W Qbk rfl (aA (PEf.d (aX W Qbd rfl (aA (aE W Qau rfl (bB 0)) (aA (aL 1) (bB 2) aH) aJ))) (bB 3) aJ)))))))))
def tG(F:Fn K mg "joints_of" jN ["way","weights","claims"] f fd):∀ n:Nat,∅ (k+1+n) "joints_of" ["way","weights","claims"] (bI n)
 | 0=>pJ F iA fun cdv A outer s H E G W WR=>zGe
 | n+1=>zCP _ _ _ (k+1+n) B C F (Qb8:=Qb8.mono (by omega)) (Qbk:=Qbk.mono (by omega)) (Qba:=Qba.mono (by omega)) (Qax:=Qax.mono (by omega)) (Qb9:=Qb9.mono (by omega)) (Qau:=Qau.mono (by omega)) (Qbd:=tG F n)
def tR{r:Mir}(F:Fn K mg "rightly_dealt" dQ ["way","weights","claims","catch"] f fd)(Qas:∅ k "rightly_dealt" ["way","weights","claims","catch"] r):∅ (k+1) "rightly_dealt" ["way","weights","claims","catch"] (aS r):=
  eR F eY fun W WR=>(aD (s_z 4 eY.nd (aE W Qb8 rfl (aA (aU (lH W.calm) vX rfl B.sum jM (bB 2)) aK aJ)))
 (aD (iR (tst (eqA W.u) pG (aL 0) (lL dU fun _=>.str _) (aW _)) (aI (dW (aX W Qbb rfl (aA (aL 2) (bB 3) aH)))) bF)
 (aD (iR (tst (eqA W.u) pG (aL 0) (lL dU fun _=>.str _) (aW _)) (aI (dW (aX W Qaz rfl (aA (aL 1) (aA (aL 2) (bB 3) aH) aH)))) bF)
 (aD (iR (tst (eqA W.u) pG (aL 0) (lL dU fun _=>.str _) (aW _)) (aI (dW (aX W Qa3 rfl (aA (aL 2) (bB 3) aH)))) bF)
 (aD (iR (PWd.pt (zCK (tst (eqA W.u) pG (aL 0) (lL dU fun _=>.str _) (aW _)) (sY (zMl (yN (aE W Qce rfl (aA (aL 4) (aA (aE W Qcd rfl (aA (aL 3) (bB 3) aH)) aK aJ) aH))))))) (aI (dW (aX W Qa7 rfl (aA (aL 2) (bB 3) aH)))) bF)
 (aD (s_z 5 eY.nd (PEf.d (aX W Qas rfl (aA (zMz C.CONTRARY.choose_spec rfl (aL 0) (fun _ _=>rfl)) (aA (aL 1) (aA (aL 2) (aA (aE W Qb7 rfl (aA (aL 4) (bB 3) aH)) aK aJ) aH) aH) aQ))))
 (aI (dW (uF (N:=["way","weights","claims","catch","most","lacking"]) W (by decide +kernel) rfl (sc:=aF dQ) rfl rfl (by decide +kernel) (zHT rfl B.zip (aA (aL 2) (bB 5) aH)) (fun C2 s2 H2 fp2 G W=>(aE W Qb7 rfl (aA (aE W Qb8 rfl (bB 6)) (bB 7) aJ))))))))))))
def mJ(F:Fn K mg "rightly_dealt" dQ ["way","weights","claims","catch"] f fd):∀ n:Nat,∅ (k+1+n) "rightly_dealt" ["way","weights","claims","catch"] (aN n)
 | 0=>pJ F eY fun cdv A outer s H E G W WR=>zGe
 | n+1=>tR _ _ _ (k+1+n) B C F (Qb8:=Qb8.mono (by omega)) (Qbb:=Qbb.mono (by omega)) (Qaz:=Qaz.mono (by omega)) (Qa3:=Qa3.mono (by omega)) (Qa7:=Qa7.mono (by omega)) (Qb7:=Qb7.mono (by omega)) (Qce:=Qce.mono (by omega)) (Qcd:=Qcd.mono (by omega)) (Qas:=mJ F n)
def zLS(F:Fn K mg "dealt" zDt ["way","weights","claims","catch"] f fd):∅ (k+1) "dealt" ["way","weights","claims","catch"] rQ:=
  eR F zKW fun W WR=>(aD (mO (aE W Qbx rfl (aA (aL 0) (aA (aL 1) (bB 2) aH) aH)))
 (aD (mO (aE W Qap rfl (aA (aL 3) (aA (aE W Qb8 rfl (aA (aU (lH W.calm) vX rfl B.sum jM (bB 2)) aK aJ)) aK aJ) aH)))
 (aI (dW (aX W Qas rfl (aA (aL 0) (aA (aL 1) (aA (aL 2) (bB 3) aH) aH) aH))))))
def zBP(F:Fn K mg "way_lines" jD ["way","weights","claims"] f fd):∅ (k+1) "way_lines" ["way","weights","claims"] gG:=
  eR F iF fun W WR=>(aD (mO (aE W Qbx rfl (aA (aL 0) (aA (aL 1) (bB 2) aH) aH)))
 (aD (s_z 3 iF.nd (PEf.d (aX W Qan rfl (aA (PEf.d (aX W Qbd rfl (aA (aL 0) (aA (aL 1) (bB 2) aH) aH))) aK aJ))))
 (aD (s_z 4 iF.nd (PEf.d (eK W iF.nd rfl (sc:=aF jD) rfl rfl (by decide +kernel) (iC (aL 3)) (fun C2 s2 H2 fp2 G W=>⟨jO,(PEf.d (aX W Qas rfl (aA (aL 0) (aA (aL 1) (aA (aL 2) (bB 5) aH) aH) aH)))⟩))))
 (aI (dW (eK W iF.nd rfl (sc:=aF jD) rfl rfl (by decide +kernel) (zFm rfl B.range (aA (aU aO dG rfl B.len Q6 (bB 2)) aK aJ)) (fun C2 s2 H2 fp2 G W=>⟨jO,(aE W Qbo rfl (aA (aL 3) (aA (aL 4) (bB 5) aH) aH))⟩)))))))
def zDe{r:Mir}(F:Fn K mg "claims_of" lQ ["custom"] f fd)(Qbg:∅ k "claims_of" ["custom"] r):∅ (k+1) "claims_of" ["custom"] (lE r):=
  eR F jZ fun W WR=>(aD (iR (yN (aE W Qbt rfl (bB 0))) (aI (dW (bK (aA (mT 0) aK aQ)))) bF)
 (aD (pE (i:=1) jZ.nd rfl (Or.inl rfl) (bK aK))
 (aD (lX W.own W.calm (iC (aE W Qbs rfl (bB 0))) (g_z 2 jZ.nd) bM (aI (zLm (i:=1) (pv 1) (aX W Qbg rfl (bB 2)))))
 (aI (gY 1 (pv 1))))))
def sQ(F:Fn K mg "claims_of" lQ ["custom"] f fd):∀ n:Nat,∅ (k+1+n) "claims_of" ["custom"] (cM n)
 | 0=>pJ F jZ fun cdv A outer s H E G W WR=>zGe
 | n+1=>zDe _ _ _ (k+1+n) F (Qbt:=Qbt.mono (by omega)) (Qbs:=Qbs.mono (by omega)) (Qbg:=sQ F n)
def zGx{r:Mir}(F:Fn K mg "deep_of" nS ["custom"] f fd)(Qbr:∅ k "deep_of" ["custom"] r):∅ (k+1) "deep_of" ["custom"] (pX r):=
 eR F rX fun W WR=>(aI (bX (bC gQ rM bT (zPx W.calm rfl B.max (PEf.d (eK W rX.nd rfl (sc:=aF nS) rfl rfl (by decide +kernel) (iC (aE W Qbs rfl (bB 0))) (fun C2 s2 H2 fp2 G W=>⟨jO,(aE W Qbr rfl (bB 1))⟩))) bT))))
def yO(F:Fn K mg "deep_of" nS ["custom"] f fd):∀ n:Nat,∅ (k+1+n) "deep_of" ["custom"] (jF n)
 | 0=>pJ F rX fun cdv A outer s H E G W WR=>zGe
 | n+1=>zGx _ _ _ (k+1+n) B F (Qbs:=Qbs.mono (by omega)) (Qbr:=yO F n)
def zNR(F:Fn K mg "knot" zIF ["way","weights","kids"] f fd):∅ (k+1) "knot" ["way","weights","kids"] kG:=
  eR F zIp fun W WR=>(aD (mO (aE W Qa1 rfl (bB 0)))
 (aD (mO (aE W Qar rfl (aA (aL 0) (aA (aL 1) (aA (aU aO dG rfl B.len Q6 (bB 2)) aK aJ) aH) aH)))
 (aD (s_z 3 zIp.nd (nV (aA (aL 0) (aA (vR lU zHA rfl B.tuple Mh (bB 1)) (aA (vR lU zHA rfl B.tuple Mh (bB 2)) aK aJ) aJ) aH)))
 (aD (iR (PWd.pt (zNc (tst (eqA W.u) pG (aU aO dG rfl B.len Q6 (bB 2)) bT (aW _)) (zNc (tst zDk zNF (aU aO dG rfl B.len Q6 (aA (PEf.d (aX W Qbg rfl (bB 3))) aK aJ)) (bH rfl C.MOST_BOATS) (aW _)) (zGw (tst zDk zNF (aE W Qbr rfl (bB 3)) (bH rfl C.DEEPEST) (aW _)))))) (aI (fA W WR R.TooMany rfl zAW)) bF)
 (aI (bX (aL 3)))))))
def zDW(F:Fn K mg "claim_of" rP ["custom"] f fd):∅ (k+1) "claim_of" ["custom"] dJ:=
 eR F zEp fun W WR=>(aI (bX (aU (lH W.calm) vX rfl B.sum jM (aA (PEf.d (aX W Qbg rfl (bB 0))) aK aJ))))
def zAf(F:Fn K mg "kid_claims" kE ["custom"] f fd):∅ (k+1) "kid_claims" ["custom"] cT:=
 eR F qF fun W WR=>(aI (dW (eK W qF.nd rfl (sc:=aF kE) rfl rfl (by decide +kernel) (iC (aE W Qbs rfl (bB 0))) (fun C2 s2 H2 fp2 G W=>⟨jO,(aE W Qbh rfl (bB 1))⟩))))
def zEg(F:Fn K mg "_law_knot" nZ ["kids","cell"] f fd):∅ (k+1) "_law_knot" ["kids","cell"] fL:=
  eR F jE fun W WR=>(aD (s_z 2 jE.nd (fH bG oW (PEf.d (bK (aA (lL dU fun _=>.str _) (aA (lL dU fun _=>.str _) (aA (lL dU fun _=>.str _) (aA (lL dU fun _=>.str _) (aA (lL dU fun _=>.str _) zAW cA) cA) cA) cA) cA))) (bC cN jK (aL 1) bT) (fun _ _=>rfl)))
 (aD (s_z 3 jE.nd (PEf.d (bK aK)))
 (aD (iR (PWd.pt (zNc (tst (eqA W.u) pG (aL 2) (lL dU fun _=>.str _) (aW _)) (zGw (tst (eqA W.u) pG (aL 2) (lL dU fun _=>.str _) (aW _))))) (aI (zIQ (i:=3) jE.nd rfl (Or.inl rfl) (PCf.d (zBb W jE.nd rfl (sc:=aF nZ) rfl rfl (by decide +kernel) (zFm rfl B.range (aA (aU aO dG rfl B.len Q6 (bB 0)) aK aJ)) (fun C2 s2 H2 fp2 G W=>⟨jO,(bC gQ rM bT (bC cN jK (bC eZ qD (aL 1) (bC gQ rM bT (bC fB qQ bT (aL 4)))) bT))⟩))) rfl)) bF)
 (aI (bX (aE W Qcg rfl (aA (aL 2) (aA (aL 3) (bB 0) aH) aH)))))))
def zEe(F:Fn K mg "_law_tree" sF ["claims","script","at"] f fd):∅ (k+1) "_law_tree" ["claims","script","at"] eI:=
  eR F fF fun W WR=>(aD (pE (i:=3) fF.nd rfl (Or.inl rfl) (bK aK))
 (aD (lX W.own W.calm (zRC rfl B.enumerate (aL 0)) (zNq W.calm (rJ (g_z 4 fF.nd) (rJ (g_z 5 fF.nd) zJD)) (rR (rR zIh))) (zEr (oG bM (oG bM zDA))) (aD (uP (i:=3) (pv 3) (aE W Qcc rfl (bB 5)))
 (aD (s_z 6 fF.nd (bC cN jK (aE W Qay rfl (aA (aL 1) (aA (bC gQ rM (aL 2) (aL 4)) aK bL) aH)) (bC pK zDL bT bT)))
 (aI (iR (tst (eqA W.u) pG (bC cN jK (aL 6) bT) bT (aW _)) (aD (s_z 7 fF.nd (PEd.frz (bC gQ rM bT (bC cN jK (bC eZ qD (aL 6) bT) (aU (zHa W.calm) zQK rfl B.min boot_min (aA bT (aA (aU aO dG rfl B.len Q6 (bB 3)) aK aJ) cA))))))
 (aI (pE (i:=3) fF.nd rfl (Or.inl rfl) (PEf.frz (vD (PEf.d (lD (aL 3) lC (pC (mK (aL 7))))) (PEf.d (bK (aA (aE W Qbm rfl (aA (PEf.d (lD (aL 3) (pC (mK (aL 7))) lC)) (aA (bC eZ qD (aL 6) bT) aK bL) aQ)) aK aJ)))))))) bF)))))
 (eN.frzAt 3 (aI (bX (aE W Qbm rfl (aA (aL 3) (aA (bC cN jK (aE W Qay rfl (aA (aL 1) (aA (bC gQ rM (aL 2) (aU aO dG rfl B.len Q6 (bB 0))) aK bL) aH)) (bC pK zDL bT bT)) aK bL) aH)))))))
def zBn(F:Fn K mg "_law_beside" kI ["one","claims","script","cell"] f fd):∅ (k+1) "_law_beside" ["one","claims","script","cell"] iE:=
  eR F lZ fun W WR=>(aD (iR (tst (eqA W.u) pG (bC cN jK (aL 3) bT) bT (aW _)) (aI (bX (aE W Qcg rfl (aA (fH bG oW (PEf.d (bK (aA (lL dU fun _=>.str _) (aA (lL dU fun _=>.str _) (aA (lL dU fun _=>.str _) zAW cA) cA) cA))) (bC cN jK (bC eZ qD (aL 3) bT) bT) (fun _ _=>rfl)) (aA (PEf.d (bK aK)) (aA (PEf.d (bK (bB 0))) aK kC) kC) aQ)))) bF)
 (aD (iR (PWd.pt (zCK (tst (eqA W.u) pG (bC cN jK (aL 3) bT) bT (aW _)) (sY (tst zDk zNF (aU aO dG rfl B.len Q6 (bB 1)) bT (aW _))))) (aD (s_z 4 lZ.nd (fH bG oW (PEf.d (bK (aA (lL dU fun _=>.str _) (aA (lL dU fun _=>.str _) zAW cA) cA))) (bC cN jK (bC eZ qD (aL 3) bT) bT) (fun _ _=>rfl)))
 (aI (bX (aE W Qcg rfl (aA (aL 4) (aA (PEf.d (bK aK)) (aA (PEf.d (bK (aA (aE W Qcg rfl (aA (aL 4) (aA (PEf.d (bK aK)) (aA (PEf.d (eK W lZ.nd rfl (sc:=aF kI) rfl rfl (by decide +kernel) (iC (PEf.d (lD (aL 1) lC (pC (mK bT))))) (fun C2 s2 H2 fp2 G W=>⟨jO,(aE W Qcc rfl (bB 5))⟩))) aK) kC) aH)) (aA (aE W Qcc rfl (aA (fH bG oW (aL 1) (mK bT) (fun _ _=>rfl)) aK aQ)) aK aJ) aJ))) aK kC) kC) aH))))) bF)
 (aD (iR (tst (eqA W.u) pG (bC cN jK (aL 3) bT) bT (aW _)) (aI (bX (aE W Qbm rfl (aA (PEf.d (zOz rfl B.list boot_list (aA (mT 0) aK aQ))) (aA (bC eZ qD (aL 3) bT) aK bL) aJ)))) bF)
 (aD (iR (tst (eqA W.u) pG (bC cN jK (aL 3) bT) bT (aW _)) (aI (bX (aE W Qbi rfl (aA (aL 1) (aA (aL 2) (aA bT aK cA) aH) aH)))) bF)
 (aD (iR (PWd.pt (zCK (tst (eqA W.u) pG (bC cN jK (aL 3) bT) bT (aW _)) (sY (tst (eqA W.u) pG (aU aO dG rfl B.len Q6 (bB 1)) bT (aW _))))) (aI (bX (aE W Qcc rfl (aA (mT 1) aK aQ)))) bF)
 (aI (bX (aE W Qbi rfl (aA (aL 1) (aA (aL 2) (aA bT aK cA) aH) aH)))))))))
def zDV{r:Mir}(F:Fn K mg "dealt_on" oH ["custom","catch"] f fd)(Qbl:∅ k "dealt_on" ["custom","catch"] r):∅ (k+1) "dealt_on" ["custom","catch"] (iY r):=
  eR F gJ fun W WR=>(aD (iR (yN (aE W Qbt rfl (bB 0))) (aI (dW (bK (bB 1)))) bF)
 (aD (s_z 2 gJ.nd (PEf.d (aX W Qb5 rfl (aA (aE W Qb3 rfl (bB 0)) (aA (aE W Qa5 rfl (bB 0)) (aA (PEf.d (aX W Qa6 rfl (bB 0))) (bB 1) aJ) aJ) aJ))))
 (aD (pE (i:=3) gJ.nd rfl (Or.inl rfl) (bK aK))
 (aD (lX W.own W.calm (zHT rfl B.zip (aA (aE W Qbs rfl (bB 0)) (bB 2) aJ)) (zNq W.calm (rJ (g_z 4 gJ.nd) (rJ (g_z 5 gJ.nd) zJD)) (rR (rR zIh))) (zEr (oG bM (oG bM zDA))) (aI (zLm (i:=3) (pv 3) (aX W Qbl rfl (aA (aL 4) (bB 5) aH)))))
 (aI (gY 3 (pv 3)))))))
def wH(F:Fn K mg "dealt_on" oH ["custom","catch"] f fd):∀ n:Nat,∅ (k+1+n) "dealt_on" ["custom","catch"] (fQ n)
 | 0=>pJ F gJ fun cdv A outer s H E G W WR=>zGe
 | n+1=>zDV _ _ _ (k+1+n) B F (Qbt:=Qbt.mono (by omega)) (Qb5:=Qb5.mono (by omega)) (Qb3:=Qb3.mono (by omega)) (Qa5:=Qa5.mono (by omega)) (Qa6:=Qa6.mono (by omega)) (Qbs:=Qbs.mono (by omega)) (Qbl:=wH F n)
def zDx{r:Mir}(F:Fn K mg "lines_of" lA ["custom"] f fd)(Qbj:∅ k "lines_of" ["custom"] r):∅ (k+1) "lines_of" ["custom"] (iZ r):=
  eR F fE fun W WR=>(aD (iR (yN (aE W Qbt rfl (bB 0))) (aI (dW (bK (aA (aE W Qbn rfl (aA (aE W Qbh rfl (bB 0)) aK aJ)) aK aJ)))) bF)
 (aD (s_z 1 fE.nd (PEf.d (aX W Qbe rfl (aA (aE W Qb3 rfl (bB 0)) (aA (aE W Qa5 rfl (bB 0)) (aA (PEf.d (aX W Qa6 rfl (bB 0))) aK aJ) aJ) aJ))))
 (aD (pE (i:=2) fE.nd rfl (Or.inl rfl) (bK aK))
 (aD (lX W.own W.calm (zHT rfl B.zip (aA (aE W Qbs rfl (bB 0)) (bB 1) aJ)) (zNq W.calm (rJ (g_z 3 fE.nd) (rJ (g_z 4 fE.nd) zJD)) (rR (rR zIh))) (zEr (oG bM (oG bM zDA))) (aI (zLm (i:=2) (pv 2) (eK W fE.nd rfl (sc:=aF lA) rfl rfl (by decide +kernel) (iC (PEf.d (aX W Qbj rfl (bB 3)))) (fun C2 s2 H2 fp2 G W=>⟨jO,(aE W Qb0 rfl (aA (aL 5) (bB 4) aH))⟩)))))
 (aI (gY 2 (pv 2)))))))
def vQ(F:Fn K mg "lines_of" lA ["custom"] f fd):∀ n:Nat,∅ (k+1+n) "lines_of" ["custom"] (cQ n)
 | 0=>pJ F fE fun cdv A outer s H E G W WR=>zGe
 | n+1=>zDx _ _ _ (k+1+n) B F (Qbt:=Qbt.mono (by omega)) (Qbe:=Qbe.mono (by omega)) (Qb3:=Qb3.mono (by omega)) (Qa5:=Qa5.mono (by omega)) (Qa6:=Qa6.mono (by omega)) (Qbs:=Qbs.mono (by omega)) (Qbn:=Qbn.mono (by omega)) (Qbh:=Qbh.mono (by omega)) (Qb0:=Qb0.mono (by omega)) (Qbj:=vQ F n)
def zHw(F:Fn K mg "shares" zBp ["custom","catch"] f fd):∅ (k+1) "shares" ["custom","catch"] lP:=
  eR F zJr fun W WR=>(aD (mO (aE W Qap rfl (aA (aL 1) (aA (aE W Qb8 rfl (aA (aE W Qbh rfl (bB 0)) aK aJ)) aK aJ) aH)))
 (aI (dW (aX W Qbl rfl (aA (aL 0) (bB 1) aH)))))
def zJY(F:Fn K mg "parted" zAH ["one","two"] f fd):∅ (k+1) "parted" ["one","two"] eD:=
  eR F pQ fun W WR=>(aD (iR (tst (neA W.u) zKr (PEf.d (aX W Qbg rfl (bB 0))) (PEf.d (aX W Qbg rfl (bB 1))) (aW _)) (aI (fA W WR R.Unlike rfl zAW)) bF)
 (aD (s_z 2 pQ.nd (PEf.d (aX W Qbj rfl (bB 0))))
 (aD (s_z 3 pQ.nd (PEf.d (aX W Qbj rfl (bB 1))))
 (aD (lX W.own W.calm (zFm rfl B.range (aA (aU aO dG rfl B.len Q6 (bB 2)) aK aJ)) (g_z 4 pQ.nd) bM (aI (iR (tst (neA W.u) zKr (rG (aL 2) 4) (rG (aL 3) 4) (aW _)) (aI (bX (nV (aA (aE W Qav rfl (aA (rG (aL 2) 4) (aA (rG (aL 3) 4) aK aQ) aQ)) (bB 4) aJ)))) bF)))
 (aI (bX (lL zIe fun _=>.non)))))))
def zLk(F:Fn K mg "alike" zEu ["one","two"] f fd):∅ (k+1) "alike" ["one","two"] iM:=
 eR F zLJ fun W WR=>(aI (bX (zLZ (aE W Qb2 rfl (aA (aL 0) (bB 1) aH)) zIe (aW _))))
def zFT(F:Fn K mg "_law_due" wG ["one","two"] f fd):∅ (k+1) "_law_due" ["one","two"] mU:=
  eR F sO fun W WR=>(aD (lX W.own W.calm (iC (PEf.d (vD (PEf.d (aX W Qbj rfl (bB 0))) (PEf.d (aX W Qbj rfl (bB 1)))))) (g_z 2 sO.nd) bM (aI (lX W.own W.calm (iC (aL 2)) (g_z 3 sO.nd) bM (aI (iR (tst (neA W.u) zKr (PEf.d (aX W Qb4 rfl (aA (aL 0) (aA (mT 3) aK aQ) aH))) (PEf.d (aX W Qb4 rfl (aA (aL 1) (aA (mT 3) aK aQ) aH))) (aW _)) (aI (bX (lL sB fun _=>.bl _))) bF)))))
 (aI (bX (lL sB fun _=>.bl _))))
def wY(F:Fn K mg "_law_refused" lS ["asked","one","two"] f fd):∅ (k+1) "_law_refused" ["asked","one","two"] eE:=
  eR F gU fun W WR=>(aD (pE (i:=3) gU.nd rfl (Or.inl rfl) (bK aK))
 (aD (zSJ W zHg ET.cat rfl gU.nd (i:=4) rfl rfl (zOo (zUa (yN (aL 0)) (zOo (zNf W Qb6 rfl (aA (aL 1) (bB 2) aH))) (zOo (zNf W Qb2 rfl (aA (aL 1) (bB 2) aH))))) (fun ea W=>(aD (pE (i:=3) gU.nd rfl (Or.inl rfl) (bK (aA (zMy ET.ek rfl rfl B.isinstance (pv 4) rfl) (aA (zMy ET.ek rfl rfl B.isinstance (pv 4) rfl) aK aJ) aJ)))
 (aD (uP (i:=3) (pv 3) (zHR ET.ek (.cons rfl rfl (by decide) rfl (.cons rfl rfl (by decide) rfl (.cons rfl rfl (by decide) rfl (.cons rfl rfl (by decide) rfl (.cons rfl rfl (by decide) rfl (.cons rfl rfl (by decide) rfl (.cons rfl rfl (by decide) rfl (.cons rfl rfl (by decide) rfl .nil)))))))) rfl B.isinstance (pv 4) (by decide)))
 (aI (uP (i:=3) (pv 3) (zHR ET.ek (.cons rfl rfl (by decide) rfl (.cons rfl rfl (by decide) rfl .nil)) rfl B.isinstance (pv 4) (by decide))))))))
 (eN.frzAt 3 (aI (bX (yW (eqA W.u) pG (aL 3) (PEf.d (bK (aA (lL sB fun _=>.bl _) (aA (lL sB fun _=>.bl _) (aA (lL sB fun _=>.bl _) (aA (lL sB fun _=>.bl _) aK cA) cA) cA) cA))) (aW _)))))))
def zBT(F:Fn K mg "_law_right" pI ["one","two","due"] f fd):∅ (k+1) "_law_right" ["one","two","due"] dY:=
  eR F sX fun W WR=>(aD (s_z 3 sX.nd (aE W Qb6 rfl (aA (aL 0) (bB 1) aH)))
 (aI (bX (zMC (zQu KT.bool rfl B.isinstance (aL 3) (zJi (v:=.ty "bool") rfl B.bool boot_bool rfl)) (zMC (yW (eqA W.u) pG (aL 3) (aL 2) (aW _)) (zMp (yW (eqA W.u) pG (zLZ (aE W Qb2 rfl (aA (aL 0) (bB 1) aH)) zIe (aW _)) (aL 2) (aW _))))))))
def zRc(F:Fn K mg "law" tO ["script"] f fd):FnOk P w K mg base (CX1 P w) (k+1) f fd ["script"] (spM K mg 1 zOg):=
  zRx F mM fun cdv A outer s H E G W WR=>(aD (s_z 1 mM.nd (PEf.d (aX W Qa4 rfl (aA (aL 0) (aA bT (aA bT aK cA) cA) aH))))
 (aD (s_z 2 mM.nd (aE W Qbi rfl (aA (aL 1) (aA (aL 0) (aA bT aK cA) aH) aH)))
 (aD (s_z 3 mM.nd (bC cN jK (bC eZ qD (aE W Qay rfl (aA (aL 0) (aA bT aK cA) aH)) bT) (bC pK zDL bT bT)))
 (aD (s_z 4 mM.nd (aE W Qa8 rfl (aA (aL 2) (aA (aL 1) (aA (aL 0) (bB 3) aH) aH) aH)))
 (aD (s_z 5 mM.nd (aE W Qbq rfl (aA (aL 2) (bB 4) aH)))
 (aD (iR (PWd.pt (zNc (zMl (yN (aE W Qbc rfl (aA (aL 2) (aA (aL 4) (bB 5) aH) aH)))) (zNc (zMl (yN (aE W Qbc rfl (aA (aL 4) (aA (aL 2) (bB 5) aH) aH)))) (zGw (zMl (yN (aE W Qbc rfl (aA (aL 2) (aA (aL 2) (aA (lL sB fun _=>.bl _) aK cA) aH) aH)))))))) (aI (bX (lL sB fun _=>.bl _))) bF)
 (aD (iR (PWd.pt (zCK (tst (eqA W.u) pG (bC cN jK (aL 3) bT) bT (aW _)) (sY (tst zDk zNF (aU aO dG rfl B.len Q6 (bB 1)) bT (aW _))))) (aD (s_z 6 mM.nd (fH bG oW (PEf.d (bK (aA (lL dU fun _=>.str _) (aA (lL dU fun _=>.str _) zAW cA) cA))) (bC cN jK (bC eZ qD (aL 3) bT) bT) (fun _ _=>rfl)))
 (aI (iR (zMl (yN (aE W Qb6 rfl (aA (aE W Qcg rfl (aA (aL 6) (aA (PEf.d (bK aK)) (aA (PEf.d (eK W mM.nd rfl (sc:=aF tO) rfl rfl (by decide +kernel) (iC (aL 1)) (fun C2 s2 H2 fp2 G W=>⟨jO,(aE W Qcc rfl (bB 11))⟩))) aK) kC) aH)) (bB 4) aJ)))) (aI (bX (lL sB fun _=>.bl _))) bF))) bF)
 (aD (s_z 7 mM.nd (PEf.d (bK (aA (PEf.d (vD (aL 1) (PEf.d (bK (aA bT aK cA))))) (aA (PEf.d (vD (PEf.d (lD (aL 1) (pC bT) lC)) (PEf.d (bK (aA (aU zAU zIC rfl B.abs boot_abs (aA (bC yP zGn (mT 1) bT) aK bL)) aK aJ))))) (aA (PEf.d (vD (PEf.d (bK (aA (mT 1) aK aQ))) (aL 1))) (aA (PEf.d (zKl (aL 1) lC lC (mK bT))) aK aQ) bL) bL) bL))))
 (aD (lX W.own W.calm (iC (PEf.d (vD (aL 7) (PEf.d (bK (aA (PEf.d (lD (aL 1) lC (pC (mK bT)))) aK aQ)))))) (g_z 8 mM.nd) bM (aI (iR (PWd.pt (zCK (tst (neA W.u) zKr (aL 8) (PEf.d (bK aK)) (aW _)) (sY (tst (neA W.u) zKr (aL 8) (aL 1) (aW _))))) (aD (s_z 9 mM.nd (aE W Qbi rfl (aA (aL 8) (aA (aL 0) (aA bT aK cA) aH) aH)))
 (aI (lX W.own W.calm (iC (PEf.d (bK (aA (lL sB fun _=>.bl _) (aA (lL sB fun _=>.bl _) aK cA) cA)))) (g_z 10 mM.nd) bM (aI (iR (PWd.pt (zNc (zMl (yN (aE W Qaw rfl (aA (aL 10) (aA (aL 2) (bB 9) aH) aH)))) (zGw (zMl (yN (aE W Qaw rfl (aA (aL 10) (aA (aL 9) (bB 2) aH) aH))))))) (aI (bX (lL sB fun _=>.bl _))) bF))))) bF)))
 (aI (bX (lL sB fun _=>.bl _))))))))))))
end
end
def FnK(K:PySem.W.Frag)(x:Str)(st:Ji):Prop:=∃ f oc od sl kV dc pm an cd ct,PySem.W.nsIn K mainGlobals x=some (some (.ref f))/\K.lookup f=some ⟨oc,od,.func (PySem.W.fnOf x x (kO st) (fJ st) (aF st) .none kV dc pm an cd ct),sl⟩/\PySem.W.codeIn K cd x=true/\PySem.W.keepIn K (.ref f)=true
def fk{K:Fg_}{h:Je}{mg:Str->Option Ja}{x:Str}{st:Ji}(X:K.In h)(G:h.Ns mainGlobals mg)(d:FnK K x st)(ps:List Str)(hb:∀ (kV doc pm:Ja) (an:Option Jc) (cdv ct:Ja) (us:List Ja),us.length=ps.length->bindArgs (PySem.W.fnOf x x (kO st) (fJ st) (aF st) .none kV doc pm an cdv ct) ⟨us,[]⟩=pure (ps.zip us)):∃ f fd,Fn K mg x st ps f fd:=by
 obtain⟨f,oc,od,sl,kV,dc,pm,an,cd,ct,a,l,c,k⟩:=d;exact⟨f,_,zA (st:=st) l c k,(zA (st:=st) l c k).binds (ps:=ps) hb,k,Vg X G a⟩
def fkm{K:Fg_}{x:Str}{st:Ji}{f:Jc}{oc:Ja}{od an:Option Jc}{sl:Array (Option Ja)}{kV dc pm cd ct:Ja}(a:PySem.W.nsIn K mainGlobals x=some (some (.ref f)))(l:K.lookup f=some ⟨oc,od,.func (PySem.W.fnOf x x (kO st) (fJ st) (aF st) .none kV dc pm an cd ct),sl⟩)(c:PySem.W.codeIn K cd x=true)(k:PySem.W.keepIn K (.ref f)=true):FnK K x st:=⟨f,oc,od,sl,kV,dc,pm,an,cd,ct,a,l,c,k⟩
def zQp{l:PySem.W.OpenLaw}{w:Jg}{K:Fg_}{h:Je}{mg:Str->Option Ja}{fa f11 f67:Jc}(X:K.In h)(G:h.Ns mainGlobals mg)(hfa:mg "law" = some (.ref fa))
  {od11 an11:Option Jc} {sl11:Array (Option Ja)} {oc11 kV11 dc11 pm11 ct11:Ja}
  {od67 an67:Option Jc} {sl67:Array (Option Ja)} {oc67 kV67 dc67 pm67 cd67 ct67:Ja}
  (d0:FnK K "common_divisor" iJ)
  (d1:FnK K "made" zIM)
  (d2:FnK K "whole" zDO)
  (d3:FnK K "plus" zHm)
  (d4:FnK K "minus" zEl)
  (d5:FnK K "times" zEx)
  (d6:FnK K "over" zJA)
  (d7:FnK K "less" zIY)
  (d8:FnK K "lesser" zAK)
  (d9:FnK K "is_outside" mZ)
  (d10:FnK K "refuse_outside" iG)
  {cR T:Jc}
  (a11:PySem.W.nsIn K mainGlobals "ranked" = some (some (.ref f11))) (l11:K.lookup f11=some ⟨oc11,od11,.func (PySem.W.fnOf "ranked" "ranked" (kO iT) (fJ iT) (aF iT) .none kV11 dc11 pm11 an11 (.ref cR) ct11),sl11⟩) (c11:PySem.W.codeIn K (.ref cR) "ranked" = true) (k11:PySem.W.keepIn K (.ref f11)=true)
  (tq:PySem.W.codeHdIn K cR T=true) (tn:K.lookup T=none)
  (d12:FnK K "looked" zBi)
  (d13:FnK K "refuse_way" nY)
  (d14:FnK K "refuse_claims" jS)
  (d15:FnK K "refuse_weights" iH)
  (d16:FnK K "contrary_way" kR)
  (d17:FnK K "dealt" zDt)
  (d18:FnK K "rightly_dealt" dQ)
  (d19:FnK K "row_dealt" oV)
  (d20:FnK K "even_dealt" nM)
  (d21:FnK K "levels_of" lT)
  (d22:FnK K "part_dealt" kD)
  (d23:FnK K "half_dealt" kH)
  (d24:FnK K "boat" zJS)
  (d25:FnK K "knot" zIF)
  (d26:FnK K "is_boat" uK)
  (d27:FnK K "way_of" zAg)
  (d28:FnK K "weights_of" nD)
  (d29:FnK K "kids_of" wM)
  (d30:FnK K "claims_of" lQ)
  (d31:FnK K "claim_of" rP)
  (d32:FnK K "kid_claims" kE)
  (d33:FnK K "deep_of" nS)
  (d34:FnK K "shares" zBp)
  (d35:FnK K "dealt_on" oH)
  (d36:FnK K "line_of" vU)
  (d37:FnK K "refuse_bad" nX)
  (d38:FnK K "is_between" nH)
  (d39:FnK K "length" zAL)
  (d40:FnK K "height" zAi)
  (d41:FnK K "value" zEs)
  (d42:FnK K "first_reaching" iN)
  (d43:FnK K "met" zPh)
  (d44:FnK K "behind" qM)
  (d45:FnK K "places" tY)
  (d46:FnK K "merged" zAR)
  (d47:FnK K "way_lines" jD)
  (d48:FnK K "line_at" qU)
  (d49:FnK K "joints_of" jN)
  (d50:FnK K "row_joints" mY)
  (d51:FnK K "even_joints" lK)
  (d52:FnK K "mirrored" oC)
  (d53:FnK K "without_doubles" gN)
  (d54:FnK K "lines_of" lA)
  (d55:FnK K "straight" sD)
  (d56:FnK K "alike" zEu)
  (d57:FnK K "parted" zAH)
  (d58:FnK K "first_unlike" gX)
  (d59:FnK K "_law_cell_at" lI)
  (d60:FnK K "_law_claims" mX)
  (d61:FnK K "_law_knot" nZ)
  (d62:FnK K "_law_tree" sF)
  (d63:FnK K "_law_beside" kI)
  (d64:FnK K "_law_due" wG)
  (d65:FnK K "_law_refused" lS)
  (d66:FnK K "_law_right" pI)
  (a67:PySem.W.nsIn K mainGlobals "law" = some (some (.ref f67))) (l67:K.lookup f67=some ⟨oc67,od67,.func (PySem.W.fnOf "law" "law" (kO tO) (fJ tO) (aF tO) .none kV67 dc67 pm67 an67 cd67 ct67),sl67⟩) (c67:PySem.W.codeIn K cd67 "law" = true) (k67:PySem.W.keepIn K (.ref f67)=true)
  (z_abs:PySem.W.nsIn K mainGlobals "abs" = some none)
  (z_sorted:PySem.W.nsIn K mainGlobals "sorted" = some none)
  (z_range:PySem.W.nsIn K mainGlobals "range" = some none)
  (z_len:PySem.W.nsIn K mainGlobals "len" = some none)
  (z_sum:PySem.W.nsIn K mainGlobals "sum" = some none)
  (z_zip:PySem.W.nsIn K mainGlobals "zip" = some none)
  (z_tuple:PySem.W.nsIn K mainGlobals "tuple" = some none)
  (z_max:PySem.W.nsIn K mainGlobals "max" = some none)
  (z_reversed:PySem.W.nsIn K mainGlobals "reversed" = some none)
  (z_enumerate:PySem.W.nsIn K mainGlobals "enumerate" = some none)
  (z_min:PySem.W.nsIn K mainGlobals "min" = some none)
  (z_list:PySem.W.nsIn K mainGlobals "list" = some none)
  (z_isinstance:PySem.W.nsIn K mainGlobals "isinstance" = some none)
  (z_bool:PySem.W.nsIn K mainGlobals "bool" = some none)
  (KT:Kt K) (CC:∀(h:Je)(mg:Str->Option Ja),K.In h->h.Ns mainGlobals mg->Ct K mg) (RR:∀(h:Je)(mg:Str->Option Ja),K.In h->h.Ns mainGlobals mg->Rt K mg) (EE:∀(h:Je)(mg:Str->Option Ja),K.In h->h.Ns mainGlobals mg->Et K mg)
  : K.lookup T=none/\qN K mg T/\∃ fd:FuncData,(∀(s:Jb)(v:Ja),BindsTo s fd ⟨[v],[]⟩ [("script", v)])/\∀ base:Je,K.In base->base.Ns mainGlobals mg->BMn base mg->FnOk l.prog w K mg base (CX1 l.prog w) 30 fa fd ["script"] (zPI K mg):=by
 have e:=hfa.symm.trans (Vg X G a67);cases e;have B:Bt mg:=⟨Vq X G z_abs,Vq X G z_sorted,Vq X G z_range,Vq X G z_len,Vq X G z_sum,Vq X G z_zip,Vq X G z_tuple,Vq X G z_max,Vq X G z_reversed,Vq X G z_enumerate,Vq X G z_min,Vq X G z_list,Vq X G z_isinstance,Vq X G z_bool⟩;have C:Ct K mg:=CC h mg X G;have R:Rt K mg:=RR h mg X G;have ET:Et K mg:=EE h mg X G;have hT:qN K mg T:=⟨f11,_,_,_,_,cR,Vg X G a11,l11,rfl,fun h X=>PySem.W.codeHd_of_K X tq⟩
 refine⟨tn,hT,?_⟩
 refine⟨PySem.W.fnOf "law" "law" (kO tO) (fJ tO) (aF tO) .none kV67 dc67 pm67 an67 cd67 ct67,fun s v=>.of_eq rfl,fun base _ _ hB=>?_⟩
 obtain⟨_,_,F0⟩:=fk X G d0 ["one","two"] ⋯
 have Qaq:=sJ l.prog w base 0 B F0;obtain⟨_,_,F2⟩:=fk X G d2 ["number"] ⋯
 have Qb8:=zKF l.prog w base 0 F2;obtain⟨_,_,F7⟩:=fk X G d7 ["one","two"] ⋯
 have Qce:=zPj l.prog w base 0 F7;have F11:Fn K mg "ranked" iT ["some"] _ _:=⟨zA (st:=iT) l11 c11 k11,(zA (st:=iT) l11 c11 k11).binds (ps:=["some"]) ⋯,k11,Vg X G a11⟩
 have Qby:=zHy l.prog w base 0 B F11 hT hB;obtain⟨_,_,F13⟩:=fk X G d13 ["way"] ⋯
 have Qa1:=zBs l.prog w base 0 C R F13;obtain⟨_,_,F14⟩:=fk X G d14 ["claims"] ⋯
 have Qat:=tU l.prog w base 0 B R F14;obtain⟨_,_,F15⟩:=fk X G d15 ["way","weights","many"] ⋯
 have Qar:=rW l.prog w base 0 B C R F15;obtain⟨_,_,F24⟩:=fk X G d24 ["claim"] ⋯
 have Qcc:=zPm l.prog w base 0 C R F24;obtain⟨_,_,F26⟩:=fk X G d26 ["custom"] ⋯
 have Qbt:=zFW l.prog w base 0 C F26;obtain⟨_,_,F27⟩:=fk X G d27 ["custom"] ⋯
 have Qb3:=zJB l.prog w base 0 F27;obtain⟨_,_,F28⟩:=fk X G d28 ["custom"] ⋯
 have Qa5:=zAu l.prog w base 0 F28;obtain⟨_,_,F39⟩:=fk X G d39 ["line"] ⋯
 have Qbu:=zJU l.prog w base 0 C F39;obtain⟨_,_,F40⟩:=fk X G d40 ["line"] ⋯
 have Qbv:=zIO l.prog w base 0 C F40;obtain⟨_,_,F45⟩:=fk X G d45 ["line"] ⋯
 have Qbz:=zKk l.prog w base 0 C F45;obtain⟨_,_,F59⟩:=fk X G d59 ["script","k"] ⋯
 have Qay:=xG l.prog w base 0 B F59;obtain⟨_,_,F1⟩:=fk X G d1 ["top","bottom"] ⋯
 have Qcf:=zOh l.prog w base 1 R Qaq.mo F1;obtain⟨_,_,F8⟩:=fk X G d8 ["one","two"] ⋯
 have Qbw:=zIE l.prog w base 1 Qce.mo F8;obtain⟨_,_,F9⟩:=fk X G d9 ["amount","most"] ⋯
 have Qa2:=zAA l.prog w base 1 C Qce.mo F9;obtain⟨_,_,F12⟩:=fk X G d12 ["way","weights","claims"] ⋯
 have Qbx:=zJm l.prog w base 1 B Qa1.mo Qat.mo Qar.mo F12;obtain⟨_,_,F16⟩:=fk X G d16 ["way"] ⋯
 have Qau:=wF l.prog w base 1 C Qa1.mo F16;obtain⟨_,_,F29⟩:=fk X G d29 ["custom"] ⋯
 have Qbs:=zGI l.prog w base 1 Qbt.mo F29;obtain⟨_,_,F37⟩:=fk X G d37 ["points"] ⋯
 have Qa0:=zBo l.prog w base 1 B C R Qce.mo F37;obtain⟨_,_,F42⟩:=fk X G d42 ["line","axis","amount"] ⋯
 have Qao:=rL l.prog w base 1 B Qce.mo F42;obtain⟨_,_,F46⟩:=fk X G d46 ["one","two"] ⋯
 have Qb1:=zKi l.prog w base 1 B Qce.mo F46;obtain⟨_,_,F50⟩:=fk X G d50 ["claims"] ⋯
 have Qba:=zBh l.prog w base 1 C Qb8.mo F50;obtain⟨_,_,F53⟩:=fk X G d53 ["joints"] ⋯
 have Qan:=rD l.prog w base 1 Qce.mo F53;obtain⟨_,_,F60⟩:=fk X G d60 ["script","at","most"] ⋯
 have Qa4:=zBj l.prog w base 1 B Qay.mo F60;obtain⟨_,_,F3⟩:=fk X G d3 ["one","two"] ⋯
 have Qcd:=zOR l.prog w base 2 Qcf.mo F3;obtain⟨_,_,F4⟩:=fk X G d4 ["one","two"] ⋯
 have Qb7:=zLF l.prog w base 2 Qcf.mo F4;obtain⟨_,_,F5⟩:=fk X G d5 ["one","two"] ⋯
 have Qb9:=zKH l.prog w base 2 Qcf.mo F5;obtain⟨_,_,F6⟩:=fk X G d6 ["one","two"] ⋯
 have Qcb:=zOS l.prog w base 2 Qcf.mo F6;obtain⟨_,_,F10⟩:=fk X G d10 ["amount","most"] ⋯
 have Qap:=sL l.prog w base 2 R Qa2.mo F10;obtain⟨_,_,F21⟩:=fk X G d21 ["weights","claims"] ⋯
 have Qbf:=zCn l.prog w base 2 B Qcf.mo F21;obtain⟨_,_,F19⟩:=fk X G d19 ["claims","catch"] ⋯
 have Qbb:=zCW l.prog w base 3 Qb8.mo Qbw.mo Qb7.mo F19;obtain⟨_,_,F20⟩:=fk X G d20 ["weights","claims","catch"] ⋯
 have Qaz:=zAk l.prog w base 3 B C F20 (Qby:=Qby.mono (by decide)) (Qbf:=Qbf.mo) (Qcb:=Qcb.mo) (Qbw:=Qbw.mo) (Qb7:=Qb7.mo) (Qb9:=Qb9.mo) (Qb8:=Qb8.mo)
 obtain⟨_,_,F22⟩:=fk X G d22 ["claims","catch"] ⋯
 have Qa3:=zBg l.prog w base 3 B C Qb8.mo Qcb.mo Qb9.mo F22;obtain⟨_,_,F38⟩:=fk X G d38 ["ahead","point","later"] ⋯
 have Qa9:=zBd l.prog w base 3 C Qb7.mo Qb9.mo F38;obtain⟨_,_,F43⟩:=fk X G d43 ["line","axis","amount"] ⋯
 have Qci:=zRn l.prog w base 3 Qb7.mo Qcb.mo Qb9.mo Qao.mo Qcd.mo F43;obtain⟨_,_,F51⟩:=fk X G d51 ["weights","claims"] ⋯
 have Qax:=xH l.prog w base 3 B C F51 (Qbf:=Qbf.mo) (Qby:=Qby.mono (by decide)) (Qcd:=Qcd.mo) (Qb8:=Qb8.mo) (Qb9:=Qb9.mo)
 obtain⟨_,_,F52⟩:=fk X G d52 ["joints","most"] ⋯
 have Qbk:=zDS l.prog w base 3 B Qb7.mo F52;obtain⟨_,_,F23⟩:=fk X G d23 ["claims","catch"] ⋯
 have Qa7:=zBl l.prog w base 4 B C Qb9.mo Qcd.mo Qaz.mo F23;obtain⟨_,_,F36⟩:=fk X G d36 ["points"] ⋯
 have Qbp:=zFU l.prog w base 4 B Qa0.mo Qa9.mo F36;obtain⟨_,_,F41⟩:=fk X G d41 ["line","x"] ⋯
 have Qca:=zLU l.prog w base 4 C Qap.mo Qci.mo Qbu.mo F41;obtain⟨_,_,F44⟩:=fk X G d44 ["one","two"] ⋯
 have Qb0:=zHb l.prog w base 5 C R Qci.mo Qbu.mo Qb1.mo Qbp.mo Qbv.mo Qbz.mo Qca.mo F44;obtain⟨_,_,F48⟩:=fk X G d48 ["joints","dealings","spot"] ⋯
 have Qbo:=zGa l.prog w base 5 B Qbp.mo F48;obtain⟨_,_,F55⟩:=fk X G d55 ["claim"] ⋯
 have Qbn:=zEa l.prog w base 5 C Qb8.mo Qbp.mo F55;obtain⟨_,_,F58⟩:=fk X G d58 ["one","two"] ⋯
 have Qav:=wX l.prog w base 5 Qb1.mo Qbz.mo Qca.mo F58;obtain⟨_,_,F49⟩:=fk X G d49 ["way","weights","claims"] ⋯
 have Qbd:=tG l.prog w base 4 B C Qb8.mo Qb9.mo Qbk.mo Qba.mo Qax.mo Qau.mo F49 2;obtain⟨_,_,F18⟩:=fk X G d18 ["way","weights","claims","catch"] ⋯
 have Qas:=mJ l.prog w base 5 B C Qce.mo Qb8.mo Qb7.mo Qcd.mo Qaz.mo Qbb.mo Qa3.mo Qa7.mo F18 2;obtain⟨_,_,F17⟩:=fk X G d17 ["way","weights","claims","catch"] ⋯
 have Qb5:=zLS l.prog w base 8 B Qb8.mo Qap.mo Qas.mo Qbx.mo F17;obtain⟨_,_,F47⟩:=fk X G d47 ["way","weights","claims"] ⋯
 have Qbe:=zBP l.prog w base 8 B Qbd.mo Qas.mo Qbx.mo Qan.mo Qbo.mo F47;obtain⟨_,_,F30⟩:=fk X G d30 ["custom"] ⋯
 have Qbg:=sQ l.prog w base 2 Qbt.mo Qbs.mo F30 10;obtain⟨_,_,F33⟩:=fk X G d33 ["custom"] ⋯
 have Qbr:=yO l.prog w base 2 B Qbs.mo F33 10;obtain⟨_,_,F25⟩:=fk X G d25 ["way","weights","kids"] ⋯
 have Qcg:=zNR l.prog w base 13 B C R Qa1.mo Qar.mo Qbg.mo Qbr.mo F25;obtain⟨_,_,F31⟩:=fk X G d31 ["custom"] ⋯
 have Qbh:=zDW l.prog w base 13 B Qbg.mo F31;obtain⟨_,_,F32⟩:=fk X G d32 ["custom"] ⋯
 have Qa6:=zAf l.prog w base 14 Qbs.mo Qbh.mo F32;obtain⟨_,_,F61⟩:=fk X G d61 ["kids","cell"] ⋯
 have Qbm:=zEg l.prog w base 14 B Qcg.mo F61;obtain⟨_,_,F62⟩:=fk X G d62 ["claims","script","at"] ⋯
 have Qbi:=zEe l.prog w base 15 B Qay.mo Qbm.mo Qcc.mo F62;obtain⟨_,_,F63⟩:=fk X G d63 ["one","claims","script","cell"] ⋯
 have Qa8:=zBn l.prog w base 16 B Qcg.mo Qbm.mo Qcc.mo Qbi.mo F63;obtain⟨_,_,F35⟩:=fk X G d35 ["custom","catch"] ⋯
 have Qbl:=wH l.prog w base 15 B Qbt.mo Qbs.mo Qb5.mo Qb3.mo Qa5.mo Qa6.mo F35 10;obtain⟨_,_,F54⟩:=fk X G d54 ["custom"] ⋯
 have Qbj:=vQ l.prog w base 15 B Qbt.mo Qbs.mo Qbh.mo Qb3.mo Qa5.mo Qa6.mo Qbe.mo Qbn.mo Qb0.mo F54 10;obtain⟨_,_,F34⟩:=fk X G d34 ["custom","catch"] ⋯
 have Qb4:=zHw l.prog w base 26 Qb8.mo Qap.mo Qbh.mo Qbl.mo F34;obtain⟨_,_,F57⟩:=fk X G d57 ["one","two"] ⋯
 have Qb2:=zJY l.prog w base 26 B R Qbg.mo Qbj.mo Qav.mo F57;obtain⟨_,_,F56⟩:=fk X G d56 ["one","two"] ⋯
 have Qb6:=zLk l.prog w base 27 Qb2.mo F56;obtain⟨_,_,F64⟩:=fk X G d64 ["one","two"] ⋯
 have Qbq:=zFT l.prog w base 27 Qbj.mo Qb4.mo F64;obtain⟨_,_,F65⟩:=fk X G d65 ["asked","one","two"] ⋯
 have Qaw:=wY l.prog w base 28 B ET Qb2.mo Qb6.mo F65;obtain⟨_,_,F66⟩:=fk X G d66 ["one","two","due"] ⋯
 have Qbc:=zBT l.prog w base 28 B KT Qb2.mo Qb6.mo F66;have F67:Fn K mg "law" tO ["script"] _ _:=⟨zA (st:=tO) l67 c67 k67,(zA (st:=tO) l67 c67 k67).binds (ps:=["script"]) ⋯,k67,Vg X G a67⟩
 have Qch:=zRc l.prog w base 29 B Qay.mo Qcg.mo Qcc.mo Qbi.mo Qb6.mo Qa4.mo Qa8.mo Qbq.mo Qbc.mo Qaw.mo F67;exact zOF Qch law_true
end Lw
open PySem PySem.W PyProof.Rows
local macro_rules | `(tactic| walk_at "fk")=>`(tactic| (refine' Lw.fkm ?a ?l ?c ?k;(case a=>k_is);(case l=>k_is);(case c=>k_is);(case k=>k_is)))
set_option maxRecDepth 100000 in
set_option maxHeartbeats 0 in
theorem PySem.Challenge.cw_catchhall_k40_alike_or_not_holds : PySem.Challenge.rw_catchhall_k40_alike_or_not.Holds := by
 w_on;o_law;k_head;(case hw=>w_witness2)
 k_fill
 refine L3.zTb (l:=PySem.Challenge.rw_catchhall_k40_alike_or_not) (k:=30) rfl rfl ⟨rfl,by decide,by decide⟩ (fun w h Y=>PySem.W.km_in_of Y) (fun w h Y=>PySem.W.km_tabs_of Y _ (.head _)) ?F
 case F=>
  intro w mg fa h KX G hmg
  refine' Lw.zQp KX G hmg ?d0 ?d1 ?d2 ?d3 ?d4 ?d5 ?d6 ?d7 ?d8 ?d9 ?d10 ?a11 ?l11 ?c11 ?k11 ?tq ?tn ?d12 ?d13 ?d14 ?d15 ?d16 ?d17 ?d18 ?d19 ?d20 ?d21 ?d22 ?d23 ?d24 ?d25 ?d26 ?d27 ?d28 ?d29 ?d30 ?d31 ?d32 ?d33 ?d34 ?d35 ?d36 ?d37 ?d38 ?d39 ?d40 ?d41 ?d42 ?d43 ?d44 ?d45 ?d46 ?d47 ?d48 ?d49 ?d50 ?d51 ?d52 ?d53 ?d54 ?d55 ?d56 ?d57 ?d58 ?d59 ?d60 ?d61 ?d62 ?d63 ?d64 ?d65 ?d66 ?a67 ?l67 ?c67 ?k67 ?z_abs ?z_sorted ?z_range ?z_len ?z_sum ?z_zip ?z_tuple ?z_max ?z_reversed ?z_enumerate ?z_min ?z_list ?z_isinstance ?z_bool ?KT ?CC ?RR ?EE
  (case a11|l11|c11|k11=>k_is)
  (case tq=>first | k_is | kernel_rfl | kn_code | decide +kernel)
  (case tn=>first | k_is | kernel_rfl | kn_code | decide +kernel)
  (case a67|l67|c67|k67=>k_is)
  (case d0|d1|d2|d3|d4|d5|d6|d7|d8|d9|d10|d12|d13|d14|d15|d16|d17|d18|d19|d20|d21|d22|d23|d24|d25|d26|d27|d28|d29|d30|d31|d32|d33|d34|d35|d36|d37|d38|d39|d40|d41|d42|d43|d44|d45|d46|d47|d48|d49|d50|d51|d52|d53|d54|d55|d56|d57|d58|d59|d60|d61|d62|d63|d64|d65|d66=>walk_at "fk")
  (case z_abs|z_sorted|z_range|z_len|z_sum|z_zip|z_tuple|z_max|z_reversed|z_enumerate|z_min|z_list|z_isinstance|z_bool=>k_is)
  (case KT=>refine' ⟨⟨?t0_0,?t0_1,?t0_2,?t0_3,?t0_4,?t0_5⟩⟩<;>(first | kit_is | (show _=some true;kit_is) | (show _=some false;kit_is) | rfl | decide +kernel))
  (case CC=>
   intro h mg X G
   refine' Lw.zSR X G ?n_ACROSS ?n_BOAT ?n_DEEPEST ?n_HALF ?pHALF0_l ?n_MOST_BOATS ?n_NOUGHT ?pNOUGHT1_l ?n_UP ?n_WEIGHTED ?pWEIGHTED2_l ?n_CONTRARY ?aT<;>try first | k_is | kit_is | k_exc | rfl | decide +kernel | kernel_rfl)
  (case RR=>
   intro h mg X G
   refine' Lw.zSq X G ?n_BadClaim ?x_BadClaim ?n_BadLine ?x_BadLine ?n_BadWay ?x_BadWay ?n_BadWeights ?x_BadWeights ?n_NoFraction ?x_NoFraction ?n_Outside ?x_Outside ?n_TooMany ?x_TooMany ?n_Unlike ?x_Unlike<;>try first | k_is | kit_is | k_exc | rfl | decide +kernel | kernel_rfl)
  (case EE=>
   intro h mg X G
   refine' Lw.zSM X G ?n_CatchError ?n_Unlike ?n_NoText ?n_NoFraction ?n_NoBoat ?n_BadWeights ?n_BadWay ?n_BadLine ?n_BadClaim ?n_BadCatch ?n_TooMany ?n_Outside ?z_ValueError ?ce1 ?ce2 ?ce3 ?g5 ?g6 ?e1_Unlike ?e2_Unlike ?e3_Unlike ?e4_Unlike ?e7_Unlike ?e8_Unlike ?em_Unlike ?k_Unlike_Unlike ?k_Unlike_ValueError ?k_Unlike_NoText ?k_Unlike_NoFraction ?k_Unlike_NoBoat ?k_Unlike_BadWeights ?k_Unlike_BadWay ?k_Unlike_BadLine ?k_Unlike_BadClaim ?k_Unlike_BadCatch ?k_Unlike_TooMany ?k_Unlike_Outside<;>try first | k_is | kit_is | k_exc | rfl | decide +kernel | kernel_rfl)
