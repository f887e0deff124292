
import PyProof.Rows.All
import Wide.All
import OpenK.AllK
import Wide.FinOn
import Lean
import PyProof.EqAt
import PyProof.EqKinds
import PyProof.TupleCall
import PyProof.NeKinds
import KE.KRevIter
import PyProof.Rows.SumAny
import PySem.Challenge.RW_catchhall_k32_whole_lines_sum_up
noncomputable section
set_option Elab.async false
set_option linter.all false
set_option maxRecDepth 100000
def Qb:=@List.mem_cons_self
def Qc:=@List.mem_cons_of_mem
def Qd:=@List.mem_cons
def Qe:=@List.length_map
def Qf:=@Nat.le_refl
def Qg:=@Rat.le_of_lt
def Qh:=@Rat.le_refl
def Qi:=@List.mem_of_getElem?
def Qj:=@List.size_toArray
def Qk:=@List.length_cons
def Ql:=@List.mem_map
def Qm:=@List.getElem?_eq_getElem
def Qn:=@List.mem_range
def Qo:=@List.length_append
def Qp:=@List.pairwise_cons
def Qq:=@List.map_cons
def Qr:=@List.sum_cons
def Qs:=@Nat.ne_of_lt
def Qt:=@List.getElem?_map
def Qu:=@Nat.lt_of_lt_of_le
def Qv:=@List.getD_eq_getElem?_getD
def Qw:=@List.mem_singleton
def Qx:=@List.map_map
def Qy:=@List.getElem?_eq_some_iff
def Qz:=@Rat.le_trans
def Q2:=@List.mem_append_right
def Q3:=@List.length_range
def Q4:=@Nat.le_trans
def Q5:=@List.getElem?_eq_none
def Q6:=@PySem.boot_len
def Q7:=@List.mem_append
def Q8:=@List.map_append
def Q9:=@List.length_drop
def Va:=@Rat.div_def
def Vb:=@Rat.intCast_mul
def Vc:=@List.length_set
def Vd:=@Int.toNat_natCast
def Ve:=@Option.some.inj
def Vf:=@List.getElem?_set_ne
def Vg:=@List.getElem?_append_left
def Vh:=@Bool.and_eq_true
def Vi:=@Nat.zero_le
def Vj:=@List.getLast?_eq_getElem?
def Vk:=@List.getElem?_set_self
def Vl:=@Int.mul_one
def Vm:=@List.append_nil
def Vn:=@Nat.lt_succ_self
def Vo:=@Rat.intCast_add
def Vp:=@List.getElem?_append_right
def Vq:=@Nat.zero_add
def Vr:=@List.append_assoc
def Vs:=@Nat.pow_le_pow_right
def Vt:=@Int.le_trans
def Vu:=@List.take_length
def Vv:=@Rat.mul_le_mul_of_nonneg_right
def Vw:=@Int.natCast_nonneg
def Vx:=@List.length_reverse
def Vy:=@Int.emod_nonneg
def Vz:=@Int.emod_lt_of_pos
def V0:=@List.map_congr_left
def V3:=@Rat.not_lt
def V4:=@List.flatMap_cons
def V5:=@PySem.W.mg_of
def V6:=@Int.le_of_lt
def V7:=@Int.mul_ne_zero
def V8:=@List.getElem?_range
def V9:=@Rat.mul_inv_cancel
def Xa:=@List.pairwise_map
def Xb:=@List.lookup_cons
def Xc:=@List.not_mem_nil
def Xd:=@Rat.div_mul_cancel
def Xe:=@List.sum_nil
def Xf:=@PySem.W.mg_none_of
def Xg:=@Nat.lt_irrefl
def Xh:=@List.map_nil
def Xi:=@Rat.num_divInt_den
def Xj:=@List.all_eq_true
def Xk:=@Rat.le_total
def Xl:=@Int.mul_pos
def Xm:=@List.sum_append
def Xn:=@Nat.le_of_lt
def Xo:=@List.length_take
def Xp:=@List.nil_append
def Xq:=@Nat.lt_of_le_of_lt
def Xr:=@List.take_of_length_le
def Xs:=@List.head?_eq_getElem?
def Xt:=@List.mem_iff_getElem?
def Xu:=@List.getLast?_map
def Xv:=@Nat.lt_succ_of_lt
def Xw:=@List.flatMap_append
def Xx:=@List.mem_append_left
def Xy:=@Array.length_toList
def Xz:=@PySem.mem_of_lookup
def X0:=@List.replicate_succ
def X1:=@Bool.or_eq_true
def X2:=@List.drop_zero
def X3:=@Nat.min_eq_left
def X4:=@Nat.lt_or_eq_of_le
def X5:=@List.Pairwise.imp_of_mem
def X6:=@Rat.mul_le_mul_of_nonneg_left
def X7:=@Rat.intCast_le_intCast
def X8:=@Bool.false_ne_true
def X9:=@PyProof.Rows.callWith_type1
def Yc:=@List.nodup_cons
def Yd:=@List.length_replicate
def Yf:=@List.flatten_cons
def Yg:=@Int.pow_pos
def Yh:=@List.getLast?_cons
def Yi:=@Bool.false_eq_true
def Yj:=@List.take_zero
def Yk:=@Rat.le_of_mul_le_mul_right
def Ym:=@Int.mul_assoc
def Yn:=@List.cons.injEq
def Yo:=@PySem.F.excBase_ValueError
def Yp:=@Nat.ne_of_gt
def Yq:=@List.of_mem_zip
def Yr:=@Nat.le_total
def Ys:=@List.take_succ
def Yt:=@List.pairwise_iff_getElem
def Yu:=@List.head?_map
def Yv:=@Nat.min_self
def Yw:=@Nat.sub_self
def Yy:=@List.ext_getElem?
def Yz:=@Int.le_refl
def Y0:=@Int.natCast_add
def Y1:=@Int.add_mul
def Y2:=@Rat.divInt_eq_div
def Y3:=@List.take_succ_cons
def Y4:=@List.mem_of_mem_take
def Y5:=@List.getLast?_cons_cons
def Y6:=@List.pairwise_append
def Y7:=@List.take_append_drop
def Y8:=@Nat.sub_zero
def Y9:=@List.drop_eq_nil_of_le
def Ua:=@List.take_nil
def Ub:=@List.length_nil
def Uc:=@List.cons_append
def Ud:=@Nat.lt_add_right
def Ue:=@Array.getElem?_eq_some_iff
def Uf:=@Int.mul_comm
def Ug:=@Nat.succ_pos
def Uh:=@List.range_eq_range'
def Ui:=@List.getElem_mem
def Uj:=@List.filterMap_cons
def Uk:=@List.getElem?_replicate
def Ul:=@PyProof.Rows.slot_tuple_getitem
def Um:=@Nat.add_comm
def Uo:=@Nat.max_le
def Uq:=@Nat.min_eq_right
def Ur:=@Rat.add_zero
def Us:=@Nat.lt_trichotomy
def Ut:=@PySem.F.plainAttrs_list
def Uu:=@List.drop_eq_getElem_cons
def Uv:=@Nat.succ.inj
def Uw:=@Nat.add_zero
def Ux:=@Rat.mul_nonneg
def Uy:=@Classical.choose_spec
def Uz:=@List.pairwise_singleton
def U0:=@List.map_drop
def U1:=@List.getElem?_drop
def U2:=@List.flatMap_def
def U3:=@Int.pow_add
def U5:=@List.range'_succ
def U6:=@Nat.mul_add
def U7:=@PySem.W.hideAll_get
def U8:=@List.mem_filterMap
def U9:=@PySem.F.slot_tuple_add
def Wa:=@PySem.F.entry_tuple_add
def Wb:=@PySem.F.args_tuple_add_2
def Wc:=@List.foldl_cons
def Wd:=@List.length_singleton
def We:=@Array.getElem?_toList
def Wf:=@Int.gcd_dvd_left
def Wg:=@Int.gcd_dvd_right
def Wh:=@Rat.divInt_mul_divInt
def Wi:=@Nat.succ_le_succ
def Wj:=@Rat.zero_mul
def Wk:=@Rat.one_mul
def Wl:=@List.mem_of_getLast?
def Wm:=@Nat.eq_zero_or_pos
def Wn:=@PySem.intBits_le_iff
def Wo:=@List.eq_nil_of_length_eq_zero
def Wp:=@List.forIn_cons
def Wq:=@List.set_append_right
def Wr:=@List.range_succ
def Ws:=@Nat.add_sub_cancel
def Wu:=@List.toList_toArray
def Wv:=@Array.size_zip
def Ww:=@Nat.le_of_eq
def Wx:=@List.length_zip
def Wz:=@List.getElem?_reverse
def W3:=@Int.mul_nonneg
def W4:=@Int.add_assoc
def W5:=@Int.zero_add
def W6:=@List.getLast?_reverse
def W7:=@Rat.zero_add
def W8:=@List.mem_reverse
def W9:=@Int.pow_succ
def Qaa:=@List.flatMap_nil
def Qab:=@Nat.le_of_ble_eq_true
def Qac:=@PySem.W.cellsFrom_some
def Qad:=@List.pairwise_mergeSort
def Qae:=@List.mergeSort_perm
def Qaf:=@Int.eq_ofNat_of_zero_le
def Qag:=@Int.neg_ediv_of_dvd
def Qah:=@Int.mul_le_mul_of_nonneg_right
def Qai:=@Int.fdiv_eq_ediv_of_nonneg
def Qaj:=@Int.fmod_eq_emod_of_nonneg
def Qak:=@List.mem_of_mem_head?
def Qal:=@List.getLast?_eq_none_iff
def Qam:=@PySem.F.plain_list_iadd
def Qan:=@List.mem_iff_getElem
def Qao:=@List.extract_toArray
def Qap:=@List.extract_eq_take_drop
def Qaq:=@List.getElem?_zip_eq_some
def Qar:=@Nat.lt_two_pow_self
def Qas:=@List.mem_of_mem_drop
def Qat:=@Nat.mul_le_mul_left
abbrev Fg_:=PySem.W.Frag
abbrev Ja:=PySem.Value
abbrev Jb:=PySem.Shared
abbrev Jc:=PySem.Addr
abbrev Je:=PySem.Heap
abbrev Jf:=PySem.Program
abbrev Jg:=PySem.World
abbrev Jh:=PySem.Around
abbrev Ji:=PySem.Stmt
def Jj:=@decide_eq_false
def Jk:=@if_pos
def Jl:=@if_neg
def Jm:=@PySem.wpAny_Name
def Jn:=@PySem.wpAny_isTrue_Compare1
def Jo:=@PySem.wpAny_truthy_bool
def Jp:=@PySem.wpAny_execs_nil
def Jq:=@PySem.wpAny_assign_Name
def Jr:=@PySem.wpAny_bind
def Js:=@PySem.wpAny_passesOwn
def Ju:=@PySem.wpAny_pure
def Jv:=@PyProof.Rows.boot_range
def Jw:=@PySem.sizeLine_eq
def Jx:=@PySem.wpAny_Call_Name_kw
def Jy:=@PySem.concat_meets
def Jz:=@PySem.noFill_tuple_add
def J0:=@PySem.seq_tuple_add
def J1:=@PyProof.Rows.entry_tuple_getitem
def J2:=@PySem.seqIndex_of
def J3:=@PySem.seqIndex_neg
def J4:=@PyProof.Rows.subscriptTail_builtinR
def J5:=@decide_eq_true
def J6:=@dif_pos
def J7:=@of_decide_eq_true
def J8:=@PySem.wpAny_comprehension_free
def J9:=@PySem.lookup_relabel_local
def Ma:=@PySem.codeAny_compStart_list
def Mb:=@PySem.wpAny_pyIter_zip
def Mc:=@PyProof.Rows.wpS_bind
def Md:=@PySem.wpAny_pyIter_revIter
def Me:=@PyProof.Rows.boot_abs
def Mf:=@PyProof.Rows.boot_tuple
namespace L2
open PySem PySem.Spec PyProof.Rows
abbrev Key:=Sum Int Str
def zQe:Key->Ja->Bool
 | .inl k,v=>Value.isInt k v
 | .inr x,v=>Value.isStrOf x v
def zTT(w:Jg):Key->Int
 | .inl k=>hashInt k
 | .inr x=>hashStr w x
def dA:∀ {k:Key} {v:Ja},zQe k v=true->(∃ i t,k=Sum.inl i/\v=Value.int i t)∨(∃ x t,k=Sum.inr x/\v=Value.str x t)
 | .inl i,v,h=>by
  obtain⟨t,e⟩:=Value.isInt_shape (k:=i) (v:=v) h;exact .inl ⟨i,t,rfl,e⟩
 | .inr x,v,h=>by
  obtain⟨t,e⟩:=Value.isStrOf_shape (x:=x) (v:=v) h;exact .inr ⟨x,t,rfl,e⟩
def zQZ(a b:Int):decide ((Sum.inl a:Key)=Sum.inl b)=(a==b):=by
 by_cases e:a=b
 ·subst e;simp
 ·have h:¬ (Sum.inl a:Key)=Sum.inl b:=fun q=>e (Sum.inl.inj q)
  rw[Jj h];exact(beq_eq_false_iff_ne.mpr e).symm
def zRt(a b:Str):decide ((Sum.inr a:Key)=Sum.inr b)=decide (a=b):=by
 by_cases e:a=b
 ·subst e;simp
 ·have h:¬ (Sum.inr a:Key)=Sum.inr b:=fun q=>e (Sum.inr.inj q)
  rw[Jj h,Jj e]
def zRu(a:Int)(b:Str):decide ((Sum.inl a:Key)=Sum.inr b)=false:=Jj (fun q=>nomatch q)
def zQQ(a:Str)(b:Int):decide ((Sum.inr a:Key)=Sum.inl b)=false:=Jj (fun q=>nomatch q)
def zHS(prog:Jf)(w:Jg):PySem.KeyKind prog w Key where
 is:=zQe
 hash:=zTT w
 inj:=fun v a b ha hb=>by
  rcases dA ha with⟨i,t,rfl,rfl⟩ | ⟨x,t,rfl,rfl⟩
  ·rcases dA hb with⟨j,u,rfl,e⟩ | ⟨y,u,rfl,e⟩
   ·injection e with e1 _;rw[e1]
   ·exact nomatch e
  ·rcases dA hb with⟨j,u,rfl,e⟩ | ⟨y,u,rfl,e⟩
   ·exact nomatch e
   ·injection e with e1 _;rw[e1]
 byValue:=fun k v h=>by
  rcases dA h with⟨i,t,rfl,rfl⟩ | ⟨x,t,rfl,rfl⟩<;>rfl
 pyHash:=fun hv h=>by
  rcases dA hv with⟨i,t,rfl,rfl⟩ | ⟨x,t,rfl,rfl⟩
  ·exact wpAny_pyHash_int h
  ·exact wpAny_pyHash_str h
 eqBool:=fun hu hv h=>by
  rcases dA hu with⟨i,t,rfl,rfl⟩ | ⟨x,t,rfl,rfl⟩
  ·rcases dA hv with⟨j,u,rfl,rfl⟩ | ⟨y,u,rfl,rfl⟩
   ·rw[zQZ] at h;exact wpAny_eqBool_int h
   ·rw[zRu] at h;exact SeqAt.EqAt.int_str i t y u _ _ _ _ h
  ·rcases dA hv with⟨j,u,rfl,rfl⟩ | ⟨y,u,rfl,rfl⟩
   ·rw[zQQ] at h;exact SeqAt.EqAt.str_int x t j u _ _ _ _ h
   ·rw[zRt] at h;exact wpAny_eqBool_str h
 «strs» := fun k x t v h=>by
  rcases dA h with⟨i,u,rfl,e⟩ | ⟨y,u,rfl,e⟩
  ·exact nomatch e
  ·injection e with e1 _
   subst e1;cases v<;>rfl
inductive V where
 | non | bl (b:Bool) | int (i:Int) | str (x:Str) | byt (b:Array UInt8) | flt (b:UInt64) | ref (a:Jc) | ty (n:String)
 deriving DecidableEq
def cX:V->Ja->Prop
 | .non,u=>u=Value.none
 | .bl b,u=>u=Value.bool b
 | .int i,u=>∃ t,u=Value.int i t
 | .str x,u=>∃ t,u=Value.str x t
 | .byt b,u=>∃ t,u=Value.bytes b t
 | .flt b,u=>∃ t,u=Value.float b t
 | .ref a,u=>u=Value.ref a
 | .ty n,u=>u=Value.type n
abbrev dF:List V->List Ja->Prop:=Paired cX
def dF.length{xs:List V}{us:List Ja}(r:dF xs us):xs.length=us.length:=Paired.length r
def dF.get:∀ {xs:List V} {us:List Ja} {i:Nat} {x:V},dF xs us->xs[i]?=some x->∃ u,us[i]?=some u/\cX x u
 | _,_,_,_,.nil,e=>by simp at e
 | _,_,0,_,.cons r _,e=>by simp at e;subst e;exact⟨_,rfl,r⟩
 | _,_,i+1,x,.cons _ t,e=>by
  obtain⟨u,h1,h2⟩:=dF.get (i:=i) (x:=x) t (by simpa using e)
  exact⟨u,by simpa using h1,h2⟩
def dF.set{x:V}{u:Ja}(r:cX x u):∀ {xs:List V} {us:List Ja} (i:Nat),dF xs us->dF (xs.set i x) (us.set i u)
 | _,_,_,.nil=>.nil
 | _,_,0,.cons _ t=>.cons r t
 | _,_,i+1,.cons q t=>.cons q (dF.set r i t)
def dF.append:∀ {xs ys:List V} {us ws:List Ja},dF xs us->dF ys ws->dF (xs++ys) (us++ws)
 | _,_,_,_,.nil,s=>s
 | _,_,_,_,.cons r t,s=>.cons r (dF.append t s)
def dF.take:∀ {xs:List V} {us:List Ja} (n:Nat),dF xs us->dF (xs.take n) (us.take n)
 | _,_,0,_=>.nil
 | _,_,_+1,.nil=>.nil
 | _,_,n+1,.cons r t=>.cons r (dF.take n t)
def dF.drop:∀ {xs:List V} {us:List Ja} (n:Nat),dF xs us->dF (xs.drop n) (us.drop n)
 | _,_,0,r=>r
 | _,_,_+1,.nil=>.nil
 | _,_,n+1,.cons _ t=>dF.drop n t
def zTC:Option V->Option Ja->Prop
 | some v,some u=>cX v u
 | none,none=>True
 | _,_=>False
def KV{r:Type}:List (r×V)->List (r×Ja)->Prop:=Paired fun(p:r×V) (q:r×Ja)=>p.1=q.1/\cX p.2 q.2
def kV:Key->V
 | .inl i=>.int i
 | .inr x=>.str x
inductive HO where
 | lst (xs:List V)
 | tup (xs:List V)
 | dK (kvs:List (Key×V)) | dT (kvs:List (List Key×V))
 | set (S:Int->Bool) (n:Nat)
 | ins (C dx:Jc) (fs:List (Str×V))
 | own (x:Jc)
 | xd (fs:List (Str×V))
 | met (f x:Jc)
 | rng (lo hi:Int)
 | frz (o:Obj) (u:HO)
 | tbl (ps:Array Ja)
 | ext (φ:Je->Prop)
abbrev Hp:=Jc->Option HO
def upd(H:Hp)(a:Jc)(o:HO):Hp:=fun b=>if b=a then some o else H b
def aS{H:Hp}{a:Jc}{o:HO}:upd H a o a=some o:=by unfold upd;rw[Jk rfl]
def aV{H:Hp}{a b:Jc}{o:HO}(h:b≠a):upd H a o b=H b:=by unfold upd;rw[Jl h]
def zQi{H:Hp}{a b:Jc}{o u:HO}(h:H a=some o)(h':H b=some u)(d:o≠u):a≠b:=by
 intro e;subst e;rw[h] at h';exact d (Ve h')
def aX{H:Hp}{a b:Jc}{o:HO}(h:H a=some o)(h':H b=none):a≠b:=by
 intro e;subst e;rw[h] at h';cases h'
section
variable(P:Jf)(w:Jg)
def mJ(H:Hp)(h:Je)(a:Jc):HO->Prop
 | .lst xs=>xs.length<=sizeLine/\∃(its:List Ja)(n:Nat),dF xs its/\h.get? a=some { cls:=.type "list", data:=.seq its.toArray n }
 | .tup xs=>xs.length<=sizeLine/\∃ its:List Ja,dF xs its/\IsTup h a its.toArray
 | .dK kvs=>kvs.length<=sizeLine/\(a==sysModules)=false/\∃ vs,KV kvs vs/\h.DictOf (zHS P w) a vs
 | .dT kvs=>kvs.length<=sizeLine/\(a==sysModules)=false/\∃ xs:List (List Key×Jc×Ja),
   Paired (fun(p:List Key×V) (q:List Key×Jc×Ja)=>p.1=q.1/\H q.2.1=some (.tup (p.1.map kV))/\cX p.2 q.2.2) kvs xs/\
   ∃ o es ep,h.get? a=some o/\o.ExactDict/\o.data=.dict es ep/\es.toList=xs.map (entryOfKey (tupleKind (zHS P w)))/\(xs.map (·.1)).Nodup
 | .set S n=>h.SetOf (intKind P w) a S n
 | .ins C dx fs=>H dx=some (.own a)/\fs.length<=1000/\dx≠a/\h.get? a=some (PySem.W.instObj C dx)/\
   ∃ mA,h.Ns1 dx mA/\(∀ f,zTC (fs.lookup f) (mA f))/\PySem.Within mA (fs.map (·.1))
 | .own _=>∃ o,h.get? a=some o
 | .xd fs=>∃ mA,h.Ns1 a mA/\∀ f,zTC (fs.lookup f) (mA f)
 | .rng lo hi=>∃ t u v,h.get? a=some { cls:=.type "range", data:=.fields #[.int lo t,.int hi u,.int 1 v] }
 | .frz o u=>h.get? a=some o/\mJ H h a u
 | .tbl ps=>h.get? a=some { cls:=.none,data:=.fields ps }
 | .met f x=>h.get? a=some (PySem.W.methodObj (.ref f) (.ref x))
 | .ext r=>r h/\(∃ o,h.get? a=some o)/\∀ h1 h2:Je,r h1->(∀ o,h1.get? a=some o->h2.get? a=some o)->r h2
def HOk(H:Hp)(h:Je):Prop:=∀ a o,H a=some o->mJ P w H h a o
end
section
variable{P:Jf}{w:Jg}{H H':Hp}{h h':Je}{a:Jc}{o:HO}
def mJ.lt(x:mJ P w H h a o):a<h.objs.size:=by
 cases o with
 | lst xs=>obtain⟨_,_,_,_,e⟩:=x;exact Heap.lt_size e
 | tup xs=>obtain⟨_,_,_,p⟩:=x;exact p.lt
 | dK kvs=>obtain⟨_,_,_,_,o,_,_,e,_⟩:=x;exact Heap.lt_size e
 | dT kvs=>obtain⟨_,_,_,_,o,_,_,e,_⟩:=x;exact Heap.lt_size e
 | set S n=>obtain⟨o,_,_,_,e,_⟩:=x;exact Heap.lt_size e
 | ins C dx fs=>obtain⟨_,_,_,e,_⟩:=x;exact Heap.lt_size e
 | own y=>obtain⟨_,e⟩:=x;exact Heap.lt_size e
 | xd fs=>obtain⟨_,⟨_,_,_,e,_⟩,_⟩:=x;exact Heap.lt_size e
 | rng lo hi=>obtain⟨_,_,_,e⟩:=x;exact Heap.lt_size e
 | frz ob u=>obtain⟨e,_⟩:=x;exact Heap.lt_size e
 | tbl ps=>exact Heap.lt_size (show h.get? a=some _ from x)
 | met f y=>exact Heap.lt_size (show h.get? a=some _ from x)
 | ext i=>obtain⟨_,⟨_,e⟩,_⟩:=x;exact Heap.lt_size e
def Paired.mapP{s g:Type}{F G:s->g->Prop}:∀ {l₁:List s} {l₂:List g},Paired F l₁ l₂->(∀ a b,F a b->G a b)->Paired G l₁ l₂
 | _,_,.nil,_=>.nil
 | _,_,.cons r t,f=>.cons (f _ _ r) (Paired.mapP t f)
def mJ.stay(x:mJ P w H h a o)(k:∀ b u,(b=a∨H b=some (.own a))->h.get? b=some u->h'.get? b=some u)
  (ho:∀ b,H b=some (.own a)->H' b=some (.own a)) (ht:∀ b xs,H b=some (.tup xs)->H' b=some (.tup xs)):mJ P w H' h' a o:=by
 induction o with
 | lst xs=>obtain⟨z,its,n,r,e⟩:=x;exact⟨z,its,n,r,k _ _ (.inl rfl) e⟩
 | tup xs=>obtain⟨z,its,r,ob,e,c⟩:=x;exact⟨z,its,r,ob,k _ _ (.inl rfl) e,c⟩
 | dK kvs=>obtain⟨z,y,vs,r,ob,es,ep,e,c⟩:=x;exact⟨z,y,vs,r,ob,es,ep,k _ _ (.inl rfl) e,c⟩
 | dT kvs=>
  obtain⟨z,y,xs,r,ob,es,ep,e,c⟩:=x;exact⟨z,y,xs,Paired.mapP r fun p q z=>⟨z.1,ht _ _ z.2.1,z.2.2⟩,ob,es,ep,k _ _ (.inl rfl) e,c⟩
 | set S n=>obtain⟨ob,es,ep,t,e,c⟩:=x;exact⟨ob,es,ep,t,k _ _ (.inl rfl) e,c⟩
 | ins C dx fs=>
  obtain⟨d,z,ne,e,mA,⟨od,es,ep,e2,c⟩,r⟩:=x;exact⟨ho _ d,z,ne,k _ _ (.inl rfl) e,mA,⟨od,es,ep,k _ _ (.inr d) e2,c⟩,r⟩
 | own y=>obtain⟨ob,e⟩:=x;exact⟨ob,k _ _ (.inl rfl) e⟩
 | xd fs=>obtain⟨mA,⟨od,es,ep,e,c⟩,r⟩:=x;exact⟨mA,⟨od,es,ep,k _ _ (.inl rfl) e,c⟩,r⟩
 | rng lo hi=>obtain⟨t,u,v,e⟩:=x;exact⟨t,u,v,k _ _ (.inl rfl) e⟩
 | frz ob u ih=>obtain⟨e,q⟩:=x;exact⟨k _ _ (.inl rfl) e,ih q⟩
 | tbl ps=>
  have e:h.get? a=some { cls:=.none,data:=.fields ps }:=x;show h'.get? a=some { cls:=.none,data:=.fields ps }
  exact k a _ (.inl rfl) e
 | met f y=>
  have e:h.get? a=some (PySem.W.methodObj (.ref f) (.ref y)):=x;show h'.get? a=some (PySem.W.methodObj (.ref f) (.ref y))
  exact k a _ (.inl rfl) e
 | ext i=>obtain⟨p,⟨o,e⟩,st⟩:=x;exact⟨st _ _ p fun o q=>k _ _ (.inl rfl) q,⟨o,k _ _ (.inl rfl) e⟩,st⟩
def HOk.lt(x:HOk P w H h)(e:H a=some o):a<h.objs.size:=(x a o e).lt
def HOk.fresh(x:HOk P w H h)(e:h.objs.size<=a):H a=none:=by
 cases q:H a with
 | none=>rfl
 | some u=>exact absurd (Qu (x.lt q) e) (Xg _)
def HOk.kept(x:HOk P w H h)(k:∀ b u,h.get? b=some u->h'.get? b=some u):HOk P w H h':=fun a o e=>
 (x a o e).stay (fun b u _ q=>k b u q) (fun _ q=>q) fun _ _ q=>q
def HOk.laid(x:HOk P w H h)(k:∀ b u,h.get? b=some u->h'.get? b=some u)(hp:h.objs.size<=a)(new:mJ P w (upd H a o) h' a o):HOk P w (upd H a o) h':=fun b u e=>by
 have hn:=x.fresh hp;by_cases hb:b=a
 ·subst hb;rw[aS] at e;cases e;exact new
 ·rw[aV hb] at e
  exact(x b u e).stay (fun c v _ q=>k c v q) (fun c q=>by rw[aV (aX q hn)];exact q) fun c xs q=>by rw[aV (aX q hn)];exact q
end
def Rd(H:Hp)(a:Jc)(u:HO):Prop:=H a=some u∨∃ o,H a=some (.frz o u)
def Rd.ok{P:Jf}{w:Jg}{H:Hp}{h:Je}{a:Jc}{u:HO}(r:Rd H a u)(x:HOk P w H h):mJ P w H h a u:=by
 rcases r with r | ⟨o,r⟩
 ·exact x a u r
 ·obtain⟨_,q⟩:=x a _ r
  exact q
def Mut:Option HO->Prop
 | some (.lst _)=>True
 | some (.dK _)=>True
 | some (.dT _)=>True
 | some (.set _ _)=>True
 | some (.ins _ _ _)=>True
 | some (.ext _)=>True
 | _=>False
section
variable{P:Jf}{w:Jg}{H:Hp}{h h':Je}{x e:Jc}{o':HO}
def HOk.write(ok:HOk P w H h)(mu:Mut (H x))(he:e=x∨H e=some (.own x))(k:∀ b u,b≠e->h.get? b=some u->h'.get? b=some u)(heo:∃ u,h'.get? e=some u)
  (new:mJ P w (upd H x o') h' x o'):HOk P w (upd H x o') h':=fun b u q=>by
 have nown:∀ c y,H c=some (.own y)->c≠x:=fun c y r z=>by subst z;rw[r] at mu;exact mu
 have ntup:∀ c xs,H c=some (.tup xs)->c≠x:=fun c xs r z=>by subst z;rw[r] at mu;exact mu
 by_cases hb:b=x
 ·subst hb;rw[aS] at q;cases q;exact new
 ·rw[aV hb] at q
  by_cases hbe:b=e
  ·have q':H b=some (.own x):=by
    rcases he with z | z
    ·exact absurd (hbe.trans z) hb
    ·rw[hbe];exact z
   rw[q] at q';cases q'
   obtain⟨v,hv⟩:=heo;exact⟨v,by rw[hbe];exact hv⟩
  ·refine(ok b u q).stay (fun c v hc r=>k c v ?_ r) (fun c r=>by rw[aV (nown c b r)];exact r) fun c xs r=>by rw[aV (ntup c xs r)];exact r
   rcases hc with rfl | hc
   ·exact hbe
   ·rintro rfl
    rcases he with z | z
    ·exact nown c b hc z
    ·rw[hc] at z;cases z;exact hb rfl
end
structure Un (fs ex:List Jc) (H H':Hp) (h h':Je):Prop where
 keep:∀ b o,h.get? b=some o->H b=none->b∉fs->b∉ex->h'.get? b=some o
 slot:∀ b o,h.get? b=some o->H b=none->b∈fs->b∉ex->∃ sl,h'.get? b=some { o with slots:=sl }
 free:∀ b o,h.get? b=some o->H b=none->b∉ex->H' b=none
 there:∀ b o,h.get? b=some o->b∉ex->∃ o',h'.get? b=some o'
 tups:∀ b xs,H b=some (.tup xs)->H' b=some (.tup xs)
 frzs:∀ b o u,H b=some (.frz o u)->H' b=some (.frz o u)
 tbls:∀ b ps,H b=some (.tbl ps)->∃ more,H' b=some (.tbl (ps++more))
section
variable{fs fs' ex ex':List Jc}{H H1 H2:Hp}{h h1 h2 h':Je}{a x e:Jc}{o:HO}
def Un.any(u:Un fs ex H H1 h h1){b:Jc}{ob:Obj}(q:h.get? b=some ob)(n:H b=none)(hx:b∉ex):∃ sl,h1.get? b=some { ob with slots:=sl }:=by
 by_cases hb:b∈fs
 ·exact u.slot b ob q n hb hx
 ·exact⟨ob.slots,u.keep b ob q n hb hx⟩
def Un.kept(k:∀ b u,h.get? b=some u->h'.get? b=some u):Un fs ex H H h h':=
 ⟨fun b ob q _ _ _=>k b ob q,fun b ob q _ _ _=>⟨ob.slots,k b ob q⟩,fun _ _ _ n _=>n,fun b ob q _=>⟨ob,k b ob q⟩,fun _ _ q=>q,fun _ _ _ q=>q,fun _ ps q=>⟨#[],by rw[q];simp⟩⟩
def Un.refl:Un fs ex H H h h:=Un.kept fun _ _ q=>q
def Un.laid(k:∀ b u,h.get? b=some u->h'.get? b=some u)(hp:h.objs.size<=a)(hn:H a=none):Un fs ex H (upd H a o) h h' where
 keep:=fun b u q _ _ _=>k b u q
 slot:=fun b u q _ _ _=>⟨u.slots,k b u q⟩
 free:=fun b u q n _=>by rw[aV (Qs (Qu (Heap.lt_size q) hp))];exact n
 there:=fun b u q _=>⟨u,k b u q⟩
 tups:=fun b xs q=>by rw[aV (aX q hn)];exact q
 frzs:=fun b u xs q=>by rw[aV (aX q hn)];exact q
 tbls:=fun b ps q=>⟨#[],by rw[aV (aX q hn),q];simp⟩
def Un.write(mu:Mut (H x))(he:e=x∨H e=some (.own x))(k:∀ b u,b≠e->h.get? b=some u->h'.get? b=some u)(heo:∃ u,h'.get? e=some u):Un fs ex H (upd H x o) h h':=by
 have hx:∀ b,H b=none->b≠x:=fun b n z=>by subst z;rw[n] at mu;exact mu
 have hb:∀ b,H b=none->b≠e:=fun b n z=>by
  subst z;rcases he with r | r
  ·exact hx b n r
  ·rw[n] at r;cases r
 have hm:∀ b u,H b=some u->¬ Mut (some u)->b≠x:=fun b u q nm z=>by subst z;rw[q] at mu;exact nm mu
 refine⟨fun b u q n _ _=>k b u (hb b n) q,fun b u q n _ _=>⟨u.slots,k b u (hb b n) q⟩,fun b u q n _=>by rw[aV (hx b n)];exact n,fun b u q _=>?_,
  fun b xs q=>by rw[aV (hm b _ q fun z=>z)];exact q,fun b u xs q=>by rw[aV (hm b _ q fun z=>z)];exact q,fun b ps q=>⟨#[],by rw[aV (hm b _ q fun z=>z),q];simp⟩⟩
 by_cases hbe:b=e
 ·subst hbe;exact heo
 ·exact⟨u,k b u hbe q⟩
end
def trk(h:Je)(H:Hp):List Jc:=(List.range h.objs.size).filter fun a=>(H a).isSome
def zKK(h:Je)(H:Hp):Je:=PySem.W.hideAll h (trk h H)
def zJm(h:Je)(H:Hp):(zKK h H).objs.size=h.objs.size:=PySem.W.hideAll_size _ _
def zKV{h:Je}{H:Hp}{b:Jc}{o:Obj}(e:h.get? b=some o)(n:H b=none):(zKK h H).get? b=some o:=
 U7 _ e fun hm=>by
  have q:(H b).isSome=true:=(List.mem_filter.mp hm).2;rw[n] at q;simp at q
def zOA{h:Je}{H:Hp}{b:Jc}{o:Obj}(e:(zKK h H).get? b=some o):h.get? b=some o/\H b=none:=by
 have e':h.get? b=some o:=PySem.W.of_hideAll (trk h H) e;refine⟨e',?_⟩
 cases q:H b with
 | none=>rfl
 | some x=>
  have hm:b∈trk h H:=List.mem_filter.mpr ⟨Qn.mpr (Heap.lt_size e'),by simp[q]⟩
  have z:(zKK h H).get? b=none:=PySem.W.hideAll_none (trk h H) hm;rw[z] at e;cases e
def zON(g h:Je)(L:Jc):List (Jc×Obj):=(List.range h.objs.size).filterMap fun a=>if a=L∨(g.get? a).isSome=true then none else (h.get? a).map fun o=>(a,o)
def rest(g h:Je)(L d:Jc):List (Jc×Obj):=(zON g h L).filter fun p=>decide (p.1≠d)
structure Mod (K:PySem.W.Frag) (mg:Str->Option Ja) (base:Je):Prop where
 kin:K.In base
 glob:base.Ns mainGlobals mg
 blt:∃ mb,base.Ns builtinsNs mb/\∀ x:Str,x ≠ "__name__" -> mb x=bootBuiltins x
 nolimit:base.NoLimit
structure Cx where
 prog:Jf
 w:Jg
 K:PySem.W.Frag
 mg:Str->Option Ja
 base:Je
 A:Jh
 N:List Str
 s₀:Jb
 H₀:Hp
 env:Env
 outer:List Env
 stack:List Env
 ex:List Jc
 fn:Str->Bool
 calm:Bool
 pn:List (Jc×Obj)
 xe:Ja->Jb->Prop
def frs(l:List Env):List Jc:=l.filterMap (·.frame)
abbrev Cx.fs(X:Cx):List Jc:=frs X.outer
def Vis(sc:Scope)(x:Str):Prop:=sc.names.lookup x=some .local∨sc.names.lookup x=some .cell∨sc.names.lookup x=some .free
def Loc(sc:Scope)(x:Str):Prop:=sc.names.lookup x=some .local∨sc.names.lookup x=some .cell
def zTI(env:Env)(h:Je)(m:Str->Option Ja)(x:Str)(u:Ja):Prop:=
 (env.kindOf x=some .local/\m x=some u)∨((env.kindOf x=some .cell∨env.kindOf x=some .free)/\∃ c,env.cells.lookup x=some c/\h.IsCell c (some u))
structure Cx.Ok (X:Cx):Prop where
 mod:Mod X.K X.mg X.base
 kind:X.env.scope.kind=.function
 glob:X.env.globals=mainGlobals
 blt:X.env.builtins=builtinsNs
 above:X.s₀.heap.objs.size<=X.env.locals
 inj:∀ x y c,X.env.cells.lookup x=some c->X.env.cells.lookup y=some c->x=y
 has:∀ x,(X.env.kindOf x=some .cell∨X.env.kindOf x=some .free)->∃ c,X.env.cells.lookup x=some c
 cab:∀ x c,X.fn x=true->X.env.cells.lookup x=some c->X.s₀.heap.objs.size<=c
 hd:X.calm=true->X.A.handled=none
 frames:X.A.frames=some X.stack
 stk:X.stack=X.outer∨(X.stack=X.env::X.outer/\X.env.frame=some X.env.locals)
 exf:∀ b∈X.ex,b≠X.env.locals/\∀ x c,X.env.cells.lookup x=some c->c≠b
 bs:∀ b o,X.base.get? b=some o->X.s₀.heap.get? b=some o/\X.H₀ b=none
 bsz:X.base.objs.size<=X.s₀.heap.objs.size
 noex:∀ b o,X.base.get? b=some o->b∉X.ex
 exfs:∀ b∈X.ex,b∉X.fs
 funs:X.s₀.heap.FunFrames X.base X.outer
 frf:∀ b∈X.fs,X.H₀ b=none
structure Inv (X:Cx) (Mh:List (Jc×Obj)) (σ:List (Option V)) (H:Hp) (s:Jb):Prop where
 ok:X.Ok
 os:s.os=X.s₀.os
 bare:AllBare s.gens
 base:Un X.fs X.ex X.H₀ H X.s₀.heap s.heap
 loc:∃ m,s.heap.Ns X.env.locals m/\∀(i:Nat)(x:Str)(v:V),X.N[i]?=some x->σ[i]?=some (some v)->Vis X.env.scope x->∃ u,cX v u/\zTI X.env s.heap m x u
 cell:∀ x c,X.env.cells.lookup x=some c->∃ v,s.heap.IsCell c v
 free:H X.env.locals=none
 freeC:∀ x c,X.env.cells.lookup x=some c->H c=none
 pin:∀ p∈X.pn++Mh,s.heap.get? p.1=some p.2/\H p.1=none/\p.1≠X.env.locals/\p.1∉X.fs/\∀ v,p.2.data≠.cell v
 hok:HOk X.prog X.w H s.heap
 len:σ.length=X.N.length
section
variable{X:Cx}{Mh:List (Jc×Obj)}{σ:List (Option V)}{H H':Hp}{s:Jb}{h':Je}
def Cx.Ok.nofr(ok:X.Ok){b:Jc}{o:Obj}(e:X.base.get? b=some o):b∉X.fs:=fun hb=>by
 have:=(ok.funs.mem hb).1
 rw[e] at this;cases this
def Inv.bs(I:Inv X Mh σ H s):∀ b o,X.base.get? b=some o->s.heap.get? b=some o/\H b=none:=fun b o e=>
 ⟨I.base.keep b o (I.ok.bs b o e).1 (I.ok.bs b o e).2 (I.ok.nofr e) (I.ok.noex b o e),I.base.free b o (I.ok.bs b o e).1 (I.ok.bs b o e).2 (I.ok.noex b o e)⟩
def Inv.bk(I:Inv X Mh σ H s):∀ b o,X.base.get? b=some o->s.heap.get? b=some o:=fun b o e=>(I.bs b o e).1
def Inv.mod(I:Inv X Mh σ H s):Mod X.K X.mg X.base:=I.ok.mod
def Inv.kIn(I:Inv X Mh σ H s):X.K.In s.heap:=I.ok.mod.kin.keeps I.bk
def Inv.lt(I:Inv X Mh σ H s):X.env.locals<s.heap.objs.size:=let ⟨_,hn,_⟩:=I.loc;hn.lt
def Inv.sz(I:Inv X Mh σ H s):X.s₀.heap.objs.size<=s.heap.objs.size:=Q4 I.ok.above (Xn I.lt)
def Inv.nofs(I:Inv X Mh σ H s){a:Jc}(h:s.heap.objs.size<=a):a∉X.fs:=fun hb=>by
 obtain⟨_,o,ho,_⟩:=I.ok.funs.mem hb;exact absurd (Qu (Heap.lt_size ho) (Q4 I.sz h)) (Xg _)
def Inv.cne(I:Inv X Mh σ H s):∀ x c,X.env.cells.lookup x=some c->c≠X.env.locals:=fun x c e z=>by
 obtain⟨v,o,ho,hd⟩:=I.cell x c e;obtain⟨m,⟨o',es,ep,ho',hd',_⟩,_⟩:=I.loc;rw[z,ho'] at ho;cases ho;rw[hd'] at hd;cases hd
def Inv.funs(I:Inv X Mh σ H s):s.heap.FunFrames X.base X.outer:=by
 have all:∀(l:List Env),(∀ b∈frs l,b∈X.fs)->X.s₀.heap.FunFrames X.base l->s.heap.FunFrames X.base l:=by
  intro l
  induction l with
  | nil=>intro _ _;trivial
  | cons env r ih=>
   intro hs hl;obtain⟨hk,⟨L,o,hf,hn,ho,hd⟩,hr⟩:=hl;have hL:L∈X.fs:=hs L (by unfold frs;rw[Uj,hf];exact Qb)
   obtain⟨sl,e⟩:=I.base.slot L o ho (I.ok.frf L hL) hL fun z=>I.ok.exfs L z hL
   exact⟨hk,⟨L,_,hf,hn,e,hd⟩,ih (fun b hb=>hs b (by unfold frs;rw[Uj,hf];exact Qc _ hb)) hr⟩
 exact all X.outer (fun _ hb=>hb) I.ok.funs
def Inv.stack(I:Inv X Mh σ H s):s.heap.FunFrames X.base X.stack:=by
 rcases I.ok.stk with e | ⟨e,hf⟩
 ·rw[e];exact I.funs
 ·rw[e]
  obtain⟨m,hn,_⟩:=I.loc;refine .cons (by rw[I.ok.kind];decide) hf hn ?_ I.funs
  exact Heap.get?_none_of_le (Q4 I.ok.bsz I.ok.above)
def Inv.stkSub(I:Inv X Mh σ H s):∀ b∈frs X.stack,b∈X.env.locals::X.fs:=fun b hb=>by
 rcases I.ok.stk with e | ⟨e,hf⟩
 ·rw[e] at hb;exact Qc _ hb
 ·rw[e] at hb
  unfold frs at hb;rw[Uj,hf] at hb;exact hb
def Inv.stkFree(I:Inv X Mh σ H s):∀ b∈frs X.stack,H b=none:=fun b hb=>by
 rcases Qd.mp (I.stkSub b hb) with e | hb
 ·rw[e];exact I.free
 ·obtain⟨_,o,ho,_⟩:=I.ok.funs.mem hb
  exact I.base.free b o ho (I.ok.frf b hb) fun z=>I.ok.exfs b z hb
def Inv.step{g':Array GenState}{t':Nat}{d':Drawn}{ch:List Jc}(I:Inv X Mh σ H s)
  (hch:∀ b∈ch,(b∈X.ex∨X.s₀.heap.objs.size<=b)/\b≠X.env.locals/\(∀ x c,X.env.cells.lookup x=some c->c≠b)/\∀ p∈X.pn++Mh,p.1≠b)
  (keep:∀ b o,b≠X.env.locals->b∉X.fs->b∉ch->s.heap.get? b=some o->H b=none->h'.get? b=some o)
  (slot:∀ b o,b≠X.env.locals->b∈X.fs->b∉ch->s.heap.get? b=some o->H b=none->∃ sl,h'.get? b=some { o with slots:=sl }) (free:∀ b o,b∉ch->s.heap.get? b=some o->H b=none->H' b=none)
  (there:∀ b o,b∉ch->s.heap.get? b=some o->∃ o',h'.get? b=some o')
  (tups:∀ b xs,H b=some (.tup xs)->H' b=some (.tup xs)) (frzs:∀ b o u,H b=some (.frz o u)->H' b=some (.frz o u)) (tbls:∀ b ps,H b=some (.tbl ps)->∃ more,H' b=some (.tbl (ps++more)))
  (ns:∀ m,s.heap.Ns X.env.locals m->h'.Ns X.env.locals m) (hok:HOk X.prog X.w H' h') (hg:AllBare g'):
  Inv X Mh σ H' { s with heap:=h',gens:=g',drawn:=d',toks:=t' }:=by
 have neL:∀ b o,X.s₀.heap.get? b=some o->b≠X.env.locals:=fun b o e=>Qs (Qu (Heap.lt_size e) I.ok.above)
 have neC:∀ b o,X.s₀.heap.get? b=some o->b∉X.ex->b∉ch:=fun b o e hx hb=>by
  rcases (hch b hb).1 with z | z
  ·exact hx z
  ·exact absurd (Qu (Heap.lt_size e) z) (Xg _)
 have cellK:∀ x c,X.env.cells.lookup x=some c->∀ v,s.heap.IsCell c v->h'.IsCell c v:=fun x c e v ⟨o,ho,hd⟩=>by
  have nch:c∉ch:=fun z=>(hch c z).2.2.1 x c e rfl
  by_cases hc:c∈X.fs
  ·obtain⟨sl,q⟩:=slot c o (I.cne x c e) hc nch ho (I.freeC x c e)
   exact⟨_,q,hd⟩
  ·exact⟨o,keep c o (I.cne x c e) hc nch ho (I.freeC x c e),hd⟩
 refine⟨I.ok,I.os,hg,⟨fun b o e n hb hx=>?_,fun b o e n hb hx=>?_,fun b o e n hx=>?_,fun b o e hx=>?_,fun b xs e=>tups b xs (I.base.tups b xs e),fun b o xs e=>frzs b o xs (I.base.frzs b o xs e),fun b ps e=>?_⟩,?_,fun x c e=>?_,?_,fun x c e=>?_,fun p hp=>?_,hok,I.len⟩
 ·exact keep b o (neL b o e) hb (neC b o e hx) (I.base.keep b o e n hb hx) (I.base.free b o e n hx)
 ·obtain⟨sl,e1⟩:=I.base.slot b o e n hb hx
  obtain⟨sl',e2⟩:=slot b _ (neL b o e) hb (neC b o e hx) e1 (I.base.free b o e n hx);exact⟨sl',e2⟩
 ·obtain⟨o',e1⟩:=I.base.there b o e hx
  exact free b o' (neC b o e hx) e1 (I.base.free b o e n hx)
 ·obtain⟨o',e1⟩:=I.base.there b o e hx
  exact there b o' (neC b o e hx) e1
 ·obtain⟨m1,e1⟩:=I.base.tbls b ps e
  obtain⟨m2,e2⟩:=tbls b _ e1;exact⟨m1++m2,by rw[e2,Array.append_assoc]⟩
 ·obtain⟨m,hn,hl⟩:=I.loc
  refine⟨m,ns m hn,fun i x v e1 e2 e3=>?_⟩
  obtain⟨u,r,l⟩:=hl i x v e1 e2 e3;refine⟨u,r,?_⟩
  rcases l with l | ⟨k,c,e,z⟩
  ·exact .inl l
  ·exact .inr ⟨k,c,e,cellK x c e _ z⟩
 ·obtain⟨v,z⟩:=I.cell x c e
  exact⟨v,cellK x c e v z⟩
 ·obtain⟨m,⟨o,_,_,ho,_⟩,_⟩:=I.loc
  exact free _ o (fun z=>(hch _ z).2.1 rfl) ho I.free
 ·obtain⟨v,o,ho,hd⟩:=I.cell x c e
  exact free c o (fun z=>(hch c z).2.2.1 x c e rfl) ho (I.freeC x c e)
 ·obtain⟨e,n,ne,nf,d⟩:=I.pin p hp
  have nch:p.1∉ch:=fun z=>(hch p.1 z).2.2.2 p hp rfl
  exact⟨keep p.1 p.2 ne nf nch e n,free p.1 p.2 nch e n,ne,nf,d⟩
def Inv.un{t':Nat}(I:Inv X Mh σ H s)(u:Un X.fs [] H H' s.heap h')(hok:HOk X.prog X.w H' h'):Inv X Mh σ H' { s with heap:=h',toks:=t' }:=by
 obtain⟨m,⟨o,es,ep,ho,r⟩,_⟩:=id I.loc;obtain⟨sl,hL⟩:=u.any ho I.free (by simp)
 exact I.step (g':=s.gens) (d':=s.drawn) (ch:=[]) (fun _ z=>nomatch z) (fun b o _ hb _ e n=>u.keep b o e n hb (by simp)) (fun b o _ hb _ e n=>u.slot b o e n hb (by simp)) (fun b o _ e n=>u.free b o e n (by simp)) (fun b o _ e=>u.there b o e (by simp)) u.tups u.frzs u.tbls (fun m' hm=>by
  obtain⟨o',es',ep',ho',r'⟩:=hm;rw[ho] at ho';cases ho'
  exact⟨_,es',ep',hL,r'⟩) hok I.bare
def Inv.call{g':Array GenState}{t':Nat}{d':Drawn}{ch:List Jc}(I:Inv X Mh σ H s)(u:Un (frs X.stack) ch H H' s.heap h')(hok:HOk X.prog X.w H' h')(hg:AllBare g')
  (hch:∀ b∈ch,(b∈X.ex∨X.s₀.heap.objs.size<=b)/\b≠X.env.locals/\(∀ x c,X.env.cells.lookup x=some c->c≠b)/\∀ p∈X.pn++Mh,p.1≠b):
  Inv X Mh σ H' { s with heap:=h',gens:=g',drawn:=d',toks:=t' }:=by
 obtain⟨m,⟨o,es,ep,ho,r⟩,_⟩:=id I.loc;obtain⟨sl,hL⟩:=u.any ho I.free fun z=>(hch _ z).2.1 rfl
 exact I.step (ch:=ch) hch (fun b o hL hb hc e n=>u.keep b o e n (fun z=>(Qd.mp (I.stkSub b z)).elim hL hb) hc) (fun b o _ _ hc e n=>u.any e n hc) (fun b o hc e n=>u.free b o e n hc) (fun b o hc e=>u.there b o e hc) u.tups u.frzs u.tbls (fun m' hm=>by
  obtain⟨o',es',ep',ho',r'⟩:=hm;rw[ho] at ho';cases ho'
  exact⟨_,es',ep',hL,r'⟩) hok hg
def Inv.turned{t':Nat}{it:Jc}(I:Inv X Mh σ H s)(k:∀ b o,b≠it->s.heap.get? b=some o->h'.get? b=some o)(hn:H it=none)(hL:it≠X.env.locals)
  (h1:it∈X.ex∨X.s₀.heap.objs.size<=it) (h2:∀ x c,X.env.cells.lookup x=some c->c≠it) (h3:∀ p∈X.pn++Mh,p.1≠it):Inv X Mh σ H { s with heap:=h',toks:=t' }:=by
 have nit:∀ b u,H b=some u->b≠it:=fun b u e z=>by rw[z,hn] at e;cases e
 refine I.step (g':=s.gens) (d':=s.drawn) (ch:=[it]) (fun b hb=>?_) (fun b o _ _ hc e _=>k b o (fun z=>hc (by simp[z])) e) (fun b o _ _ hc e _=>⟨o.slots,k b o (fun z=>hc (by simp[z])) e⟩) (fun _ _ _ _ n=>n)
  (fun b o hc e=>⟨o,k b o (fun z=>hc (by simp[z])) e⟩) (fun _ _ e=>e) (fun _ _ _ e=>e) (fun b ps e=>⟨#[],by rw[e];simp⟩) (fun m hm=>?_) (fun b u e=>?_) I.bare
 ·have e:b=it:=by simpa using hb
  subst e;exact⟨h1,hL,h2,h3⟩
 ·obtain⟨o,es,ep,ho,r⟩:=hm
  exact⟨o,es,ep,k _ o (Ne.symm hL) ho,r⟩
 ·refine(I.hok b u e).stay (fun c v hc q=>k c v ?_ q) (fun _ q=>q) fun _ _ q=>q
  rcases hc with z | z
  ·rw[z];exact nit b u e
  ·exact nit c _ z
def Inv.tok(I:Inv X Mh σ H s)(t:Nat):Inv X Mh σ H { s with toks:=t }:=I.un (h':=s.heap) (t':=t) Un.refl I.hok
def Inv.kept{t':Nat}(I:Inv X Mh σ H s)(k:∀ b u,s.heap.get? b=some u->h'.get? b=some u):Inv X Mh σ H { s with heap:=h',toks:=t' }:=I.un (Un.kept k) (I.hok.kept k)
def Inv.laid{a:Jc}{o:HO}{t':Nat}(I:Inv X Mh σ H s)(k:∀ b u,s.heap.get? b=some u->h'.get? b=some u)(hp:s.heap.objs.size<=a)(new:mJ X.prog X.w (upd H a o) h' a o):
  Inv X Mh σ (upd H a o) { s with heap:=h',toks:=t' }:=I.un (Un.laid k hp (I.hok.fresh hp)) (I.hok.laid k hp new)
def Inv.write{x e:Jc}{o:HO}{t':Nat}(I:Inv X Mh σ H s)(mu:Mut (H x))(he:e=x∨H e=some (.own x))(k:∀ b u,b≠e->s.heap.get? b=some u->h'.get? b=some u)(heo:∃ u,h'.get? e=some u)
  (new:mJ X.prog X.w (upd H x o) h' x o):Inv X Mh σ (upd H x o) { s with heap:=h',toks:=t' }:=I.un (Un.write mu he k heo) (I.hok.write mu he k heo new)
def Inv.pins_of{pins':List (Jc×Obj)}(I:Inv X Mh σ H s)(h:∀ p∈pins',s.heap.get? p.1=some p.2/\H p.1=none/\p.1≠X.env.locals/\p.1∉X.fs/\∀ v,p.2.data≠.cell v):Inv X pins' σ H s:=
 ⟨I.ok,I.os,I.bare,I.base,I.loc,I.cell,I.free,I.freeC,fun p hp=>(Q7.mp hp).elim (fun z=>I.pin p (Xx _ z)) (h p),I.hok,I.len⟩
def zFP{N:List Str}(hN:N.Nodup){i j:Nat}{x:Str}(a:N[i]?=some x)(b:N[j]?=some x):i=j:=by
 obtain⟨h1,e1⟩:=Qy.mp a;obtain⟨h2,e2⟩:=Qy.mp b;exact(List.getElem_inj hN).mp (e1.trans e2.symm)
def zCh{M:Model}{A:Jh}{E:Ja->Jb->Prop}{i:Nat}{x:Str}{v:V}{u:Ja}{Q:Unit->Jb->Prop}(I:Inv X Mh σ H s)(hN:X.N.Nodup)(hi:X.N[i]?=some x)(hx:Loc X.env.scope x)(r:cX v u)
  (h:∀ s',Inv X Mh (σ.set i (some v)) H s'->(∃ a,Heap.SameBut a s.heap s'.heap/\(a=X.env.locals∨X.env.cells.lookup x=some a))->Q () s') (hf:X.fn x=true∨X.env.scope.names.lookup x=some .local:=by first | exact .inl rfl | exact .inr rfl | assumption):wpAny M A (storeName X.env x u) Q E s:=by
 obtain⟨m,hn,hl⟩:=id I.loc;have hcls:(X.env.scope.kind==.class || (X.env.scope.kind==.module && X.env.locals != X.env.globals))=false:=by rw[I.ok.kind];rfl
 have hiσ:i<σ.length:=by rw[I.len];exact(Qy.mp hi).1
 have cne:=I.cne
 have tracked:∀ {a:Jc} {h':Je},(∃ o,s.heap.get? a=some o/\H a=none)->Heap.SameBut a s.heap h'->HOk X.prog X.w H h':=fun {a h'} ha hs b ob e=>by
  obtain⟨_,_,hfree⟩:=ha;refine(I.hok b ob e).stay (fun c w' hc q=>(hs.2 c ?_).trans q) (fun _ q=>q) fun _ _ q=>q
  rintro rfl
  rcases hc with rfl | hc
  ·rw[hfree] at e;cases e
  ·rw[hfree] at hc;cases hc
 rcases hx with hk | hk
 ·refine wpAny_storeName_local hk hn (fun h' hn' hs=>?_) hcls
  obtain⟨oL,_,_,hoL,_⟩:=id hn;refine h _ ⟨I.ok,I.os,I.bare,⟨fun b o e n hb hx=>?_,fun b o e n hb hx=>?_,I.base.free,fun b o e hx=>?_,I.base.tups,I.base.frzs,I.base.tbls⟩,⟨_,hn',fun j y v' e1 e2 e3=>?_⟩,fun y c e=>?_,I.free,I.freeC,fun p hp=>?_,tracked ⟨oL,hoL,I.free⟩ hs,by simpa using I.len⟩ ⟨_,hs,.inl rfl⟩
  ·exact(hs.2 b (Qs (Qu (Heap.lt_size e) I.ok.above))).trans (I.base.keep b o e n hb hx)
  ·obtain⟨sl,e1⟩:=I.base.slot b o e n hb hx
   exact⟨sl,(hs.2 b (Qs (Qu (Heap.lt_size e) I.ok.above))).trans e1⟩
  ·obtain⟨o',e1⟩:=I.base.there b o e hx
   exact⟨o',(hs.2 b (Qs (Qu (Heap.lt_size e) I.ok.above))).trans e1⟩
  ·by_cases hj:j=i
   ·subst hj
    rw[hi] at e1;cases e1
    rw[Vk hiσ] at e2;cases e2;exact⟨u,r,.inl ⟨hk,by simp⟩⟩
   ·rw[Vf (Ne.symm hj)] at e2
    obtain⟨u',r',q⟩:=hl j y v' e1 e2 e3;refine⟨u',r',?_⟩
    rcases q with⟨k,e⟩ | ⟨k,c,e,z⟩
    ·refine .inl ⟨k,?_⟩
     have:y≠x:=fun e=>hj (zFP hN e1 (e ▸ hi))
     simp[this,e]
    ·exact .inr ⟨k,c,e,z.sameBut hs (cne y c e)⟩
  ·obtain⟨w',z⟩:=I.cell y c e
   exact⟨w',z.sameBut hs (cne y c e)⟩
  ·obtain⟨e,n,ne,nf,d⟩:=I.pin p hp
   exact⟨(hs.2 p.1 ne).trans e,n,ne,nf,d⟩
 ·have hfn:X.fn x=true:=by
   rcases hf with z | z
   ·exact z
   ·rw[z] at hk;cases hk
  obtain⟨c,hc⟩:=I.ok.has x (.inl hk);obtain⟨w',z⟩:=I.cell x c hc;refine wpAny_storeName_cell I.ok.kind hk hc z (fun h' hc' hs=>?_)
  obtain⟨oc,hoc,hocd⟩:=id z;refine h { s with heap:=h' } ⟨I.ok,I.os,I.bare,⟨fun b o e n hb hx=>?_,fun b o e n hb hx=>?_,I.base.free,fun b o e hx=>?_,I.base.tups,I.base.frzs,I.base.tbls⟩,⟨m,hn.sameBut hs (Ne.symm (cne x c hc)),fun j y v' e1 e2 e3=>?_⟩,fun y c' e=>?_,I.free,I.freeC,fun p hp=>?_,tracked ⟨oc,hoc,I.freeC x c hc⟩ hs,by simpa using I.len⟩ ⟨c,hs,.inr hc⟩
  ·exact(hs.2 b (Qs (Qu (Heap.lt_size e) (I.ok.cab x c hfn hc)))).trans (I.base.keep b o e n hb hx)
  ·obtain⟨sl,e1⟩:=I.base.slot b o e n hb hx
   exact⟨sl,(hs.2 b (Qs (Qu (Heap.lt_size e) (I.ok.cab x c hfn hc)))).trans e1⟩
  ·obtain⟨o',e1⟩:=I.base.there b o e hx
   exact⟨o',(hs.2 b (Qs (Qu (Heap.lt_size e) (I.ok.cab x c hfn hc)))).trans e1⟩
  ·by_cases hj:j=i
   ·subst hj
    rw[hi] at e1;cases e1
    rw[Vk hiσ] at e2;cases e2;exact⟨u,r,.inr ⟨.inl hk,c,hc,hc'⟩⟩
   ·rw[Vf (Ne.symm hj)] at e2
    obtain⟨u',r',q⟩:=hl j y v' e1 e2 e3;refine⟨u',r',?_⟩
    rcases q with q | ⟨k,c',e,z'⟩
    ·exact .inl q
    ·refine .inr ⟨k,c',e,z'.sameBut hs ?_⟩
     rintro rfl
     exact hj (zFP hN e1 (I.ok.inj _ _ _ e hc ▸ hi))
  ·by_cases hcc:c'=c
   ·subst hcc;exact⟨_,hc'⟩
   ·obtain⟨w2,z2⟩:=I.cell y c' e
    exact⟨w2,z2.sameBut hs hcc⟩
  ·obtain⟨e,n,ne,nf,d⟩:=I.pin p hp
   refine⟨(hs.2 p.1 ?_).trans e,n,ne,nf,d⟩
   intro q;rw[q,hoc] at e;have q':oc=p.2:=Ve e;exact d w' (by rw[<-q'];exact hocd)
def uI{M:Model}{A:Jh}{E:Ja->Jb->Prop}{i:Nat}{x:Str}{v:V}{u:Ja}{Q:Unit->Jb->Prop}(I:Inv X Mh σ H s)(hN:X.N.Nodup)(hi:X.N[i]?=some x)(hx:Loc X.env.scope x)(r:cX v u)
  (h:∀ s',Inv X Mh (σ.set i (some v)) H s'->Q () s') (hf:X.fn x=true∨X.env.scope.names.lookup x=some .local:=by first | exact .inl rfl | exact .inr rfl | assumption):wpAny M A (storeName X.env x u) Q E s:=
 zCh I hN hi hx r (fun s' I' _=>h s' I') hf
def Inv.call'{s':Jb}{ch:List Jc}(I:Inv X Mh σ H s)(ho:s'.os=s.os)(u:Un (frs X.stack) ch H H' s.heap s'.heap)(hok:HOk X.prog X.w H' s'.heap)(hg:AllBare s'.gens)
  (hch:∀ b∈ch,(b∈X.ex∨X.s₀.heap.objs.size<=b)/\b≠X.env.locals/\(∀ x c,X.env.cells.lookup x=some c->c≠b)/\∀ p∈X.pn++Mh,p.1≠b):Inv X Mh σ H' s':=by
 obtain⟨h',g',d',t',o'⟩:=s';have e:o'=s.os:=ho;subst e;exact I.call (g':=g') (t':=t') (d':=d') u hok hg hch
end
abbrev XK:=Ja->Option Jc->Hp->Prop
abbrev St:=List (Option V)
abbrev VK:=V->Hp->Prop
abbrev TE:=St->Hp->VK->Prop
abbrev TT:=St->Hp->(Bool->Hp->Prop)->Prop
abbrev TA:=St->Hp->(List V->Hp->Prop)->Prop
structure Ends where
 nx:St->Hp->Prop
 rt:VK
 bk:St->Hp->Prop:=fun _ _=>False
 ct:St->Hp->Prop:=fun _ _=>False
abbrev TS:=Ends->St->Hp->Prop
def EP(X:Cx)(Mh:List (Jc×Obj))(r:St)(Q:VK)(u:Ja)(s':Jb):Prop:=∃ v H',Inv X Mh r H' s'/\cX v u/\Q v H'
def TP(X:Cx)(Mh:List (Jc×Obj))(r:St)(Q:Bool->Hp->Prop)(b:Bool)(s':Jb):Prop:=∃ H',Inv X Mh r H' s'/\Q b H'
def AP(X:Cx)(Mh:List (Jc×Obj))(r:St)(Q:List V->Hp->Prop)(us:List Ja)(s':Jb):Prop:=∃ vs H',Inv X Mh r H' s'/\dF vs us/\Q vs H'
def SP(X:Cx)(Mh:List (Jc×Obj))(D:Ends)(f:Flow)(s':Jb):Prop:=
 match f with
 | .next=>∃ r' H',Inv X Mh r' H' s'/\D.nx r' H'
 | .brk=>∃ r' H',Inv X Mh r' H' s'/\D.bk r' H'
 | .cont=>∃ r' H',Inv X Mh r' H' s'/\D.ct r' H'
 | .ret u=>∃ v r' H',Inv X Mh r' H' s'/\cX v u/\D.rt v H'
def PE(X:Cx)(e:Expr)(t:TE):Prop:=
 ∀(Mh:List (Jc×Obj))(s:Jb)(r:St)(H:Hp)(Q:VK),Inv X Mh r H s->t r H Q->wpAny (model X.prog X.w) X.A (eval e X.env) (EP X Mh r Q) X.xe s
def PT(X:Cx)(e:Expr)(t:TT):Prop:=
 ∀(Mh:List (Jc×Obj))(s:Jb)(r:St)(H:Hp)(Q:Bool->Hp->Prop),Inv X Mh r H s->t r H Q->wpAny (model X.prog X.w) X.A (isTrue e X.env (eval e X.env)) (TP X Mh r Q) X.xe s
def PW(X:Cx)(e:Expr)(t:TT):Prop:=
 ∀(whole:Sem Ja)(Mh:List (Jc×Obj))(s:Jb)(r:St)(H:Hp)(Q:Bool->Hp->Prop),Inv X Mh r H s->t r H Q->wpAny (model X.prog X.w) X.A (isTrue e X.env whole) (TP X Mh r Q) X.xe s
def PW.pt{X:Cx}{e:Expr}{t:TT}(h:PW X e t):PT X e t:=h _
def PA(X:Cx)(es:List Expr)(t:TA):Prop:=
 ∀(pos:Pos)(Mh:List (Jc×Obj))(s:Jb)(r:St)(H:Hp)(Q:List V->Hp->Prop),Inv X Mh r H s->t r H Q->wpAny (model X.prog X.w) X.A (spliced (backTo pos (starEach es X.env))) (AP X Mh r Q) X.xe s
def PS(X:Cx)(st:Ji)(t:TS):Prop:=
 ∀(Mh:List (Jc×Obj))(s:Jb)(r:St)(H:Hp)(D:Ends),Inv X Mh r H s->t D r H->wpAny (model X.prog X.w) X.A (exec st X.env) (SP X Mh D) X.xe s
def PSs(X:Cx)(st:List Ji)(t:TS):Prop:=
 ∀(Mh:List (Jc×Obj))(s:Jb)(r:St)(H:Hp)(D:Ends),Inv X Mh r H s->t D r H->wpAny (model X.prog X.w) X.A (execs st X.env) (SP X Mh D) X.xe s
def thn{r:Type}{t:Sem r}{Q Q':r->Jb->Prop}{M:Model}{A:Jh}{E:Ja->Jb->Prop}{s:Jb}(h:wpAny M A t Q E s)(hQ:∀ a s,Q a s->Q' a s):wpAny M A t Q' E s:=wpAny_mono h hQ fun _ _ x=>x
section
variable{X:Cx}
def bin{a b:Expr}{ta tb:TE}(ha:PE X a ta)(hb:PE X b tb){Mh:List (Jc×Obj)}{s:Jb}{p:St}{H:Hp}{R:V->V->Hp->Prop}(I:Inv X Mh p H s)(h:ta p H fun x H1=>tb p H1 fun y H2=>R x y H2)
  {g:Type} {Q:g->Jb->Prop} {f:Ja->Ja->Sem g}
  (hf:∀ v u s2 x y H2,Inv X Mh p H2 s2->cX x v->cX y u->R x y H2->wpAny (model X.prog X.w) X.A (f v u) Q X.xe s2):
  wpAny (model X.prog X.w) X.A (eval a X.env) (fun v s₁=>wpAny (model X.prog X.w) X.A (eval b X.env) (fun u s₂=>wpAny (model X.prog X.w) X.A (f v u) Q X.xe s₂) X.xe s₁) X.xe s:=by
 refine thn (ha Mh s p H _ I h) fun v s1 ⟨x,H1,I1,r1,q1⟩=>?_
 refine thn (hb Mh s1 p H1 _ I1 q1) fun u s2 ⟨y,H2,I2,r2,q2⟩=>?_
 exact hf v u s2 x y H2 I2 r1 r2 q2
abbrev zEC(i:Nat):TE:=fun p H Q=>∃ v,p[i]?=some (some v)/\Q v H
abbrev tC(v:V):TE:=fun _ H Q=>Q v H
def uN{i:Nat}{x:Str}{pos:Pos}(hN:X.N[i]?=some x)(hv:Vis X.env.scope x)(hd:(x==("__debug__" : Str))=false:=by decide)(hcd:(x==("__classdict__" : Str))=false:=by decide):PE X (.Name x pos) (zEC i):=by
 intro Mh s p H Q I h;obtain⟨v,e,h⟩:=h;obtain⟨m,hn,hl⟩:=I.loc;obtain⟨u,r,l⟩:=hl i x v hN e hv;have fin:EP X Mh p Q u s:=⟨v,H,I,r,h⟩;rcases l with⟨hk,hm⟩ | ⟨hk,c,hc,hcell⟩
 ·exact Jm (wpAny_loadName_local I.ok.kind hk hn hm fin) hd
 ·rcases hk with hk | hk
  ·exact Jm (wpAny_loadName_cell I.ok.kind hk hc hcell fin) hd
  ·exact Jm (wpAny_loadName_free I.ok.kind hk hc hcell fin hcd) hd
def zKh{i j pos}:PE X (.Constant (.int i) j pos) (tC (.int i)):=fun _ _ _ H _ I h=>wpAny_Constant_int ⟨.int i,H,I.tok _,⟨_,rfl⟩,h⟩
def zMa{b j pos}:PE X (.Constant (.bool b) j pos) (tC (.bl b)):=fun _ _ _ H _ I h=>Constant_bool ⟨.bl b,H,I,rfl,h⟩
def gC{x j pos}:PE X (.Constant (.str x) j pos) (tC (.str x)):=fun _ _ _ H _ I h=>Calls.Constant_str ⟨.str x,H,I.tok _,⟨_,rfl⟩,h⟩
def Gl(X:Cx)(x:Str):Prop:=X.env.kindOf x=some .globalImplicit
def zEg{E:Ja->Jb->Prop}{Mh:List (Jc×Obj)}{s:Jb}{p:St}{H:Hp}{x:Str}{u:Ja}{pos:Pos}{Q:Ja->Jb->Prop}(I:Inv X Mh p H s)(hg:Gl X x)(hm:X.mg x=some u)(h:Q u s)
  (hd:(x==("__debug__" : Str))=false:=by decide):wpAny (model X.prog X.w) X.A (eval (.Name x pos) X.env) Q E s:=
 Calls.Name_function_global I.ok.kind hg (Calls.loadGlobal_global (by rw[I.ok.glob];exact I.mod.glob.keeps I.bk) hm h) hd
def qJ{E:Ja->Jb->Prop}{Mh:List (Jc×Obj)}{s:Jb}{p:St}{H:Hp}{x:Str}{u:Ja}{pos:Pos}{Q:Ja->Jb->Prop}(I:Inv X Mh p H s)(hg:Gl X x)(hm:X.mg x=none)(hv:bootBuiltins x=some u)(h:Q u s)
  (hn:x ≠ "__name__" := by decide) (hd:(x==("__debug__" : Str))=false:=by decide):wpAny (model X.prog X.w) X.A (eval (.Name x pos) X.env) Q E s:=by
 obtain⟨mb,h1,h2⟩:=I.mod.blt;exact Calls.Name_function_global I.ok.kind hg (Calls.loadGlobal_builtin (by rw[I.ok.glob];exact I.mod.glob.keeps I.bk) hm (by rw[I.ok.blt];exact h1.keeps I.bk) ((h2 x hn).trans hv) h) hd
def zHO{x:Str}{v:V}{u:Ja}{pos:Pos}(hg:Gl X x)(hm:X.mg x=some u)(r:cX v u)(hd:(x==("__debug__" : Str))=false:=by decide):PE X (.Name x pos) (tC v):=
 fun _ _ _ H _ I h=>zEg I hg hm ⟨v,H,I,r,h⟩ hd
variable{a b:Expr}{ta tb:TE}{pos:Pos}
def PC(X:Cx)(op:CmpOp)(a b:Expr)(t:TE):Prop:=
 ∀(Mh:List (Jc×Obj))(s:Jb)(p:St)(H:Hp)(Q:VK),Inv X Mh p H s->t p H Q->
  wpAny (model X.prog X.w) X.A (eval a X.env) (fun v s₁=>wpAny (model X.prog X.w) X.A (eval b X.env) (fun u s₂=>wpAny (model X.prog X.w) X.A (compareOp op v u) (EP X Mh p Q) X.xe s₂) X.xe s₁) X.xe s
def zMd(b:Expr){op:CmpOp}(h:op≠.In)(h2:op≠.NotIn):behindInMarks op b=false:=by
 have e1:(op==CmpOp.In)=false:=by cases op<;>first | rfl | exact absurd rfl h
 have e2:(op==CmpOp.NotIn)=false:=by cases op<;>first | rfl | exact absurd rfl h2
 cases b<;>simp[behindInMarks,e1,e2]
abbrev tB(t:TE):TT:=fun p H Q=>t p H fun x H1=>∃ c,x=.bl c/\Q c H1
def zTp{op:CmpOp}{t:TE}(h:PC X op a b t)(h1:behindInMarks op b=false:=by first | exact zMd _ (by decide) (by decide) | rfl):PT X (.Compare a [op] [b] pos) (tB t):=by
 intro Mh s p H Q I hw;refine Jn (thn (h Mh s p H _ I hw) fun v s1 h1=>thn h1 fun u s2 h2=>thn h2 fun c s3 ⟨x,H1,I1,r1,q1⟩=>?_) h1
 obtain⟨d,rfl,q⟩:=q1;cases r1;exact Jo ⟨H1,I1,q⟩
def zQa{e:Expr}{t:TE}(h:PE X e t)(he:∀ whole,isTrue e X.env whole=(do let v <-whole;standAt e.pos;holding [v] (truthy v)):=by intro _;rfl):PT X e (tB t):=by
 intro Mh s p H Q I hw;refine isTrue_plain (thn (h Mh s p H _ I hw) fun v s1 ⟨x,H1,I1,r1,q1⟩=>?_) (he _)
 obtain⟨d,rfl,q⟩:=q1;cases r1;exact Jo ⟨H1,I1,q⟩
variable{tA tB':TT}{rest:List Expr}
abbrev zUc(t u:TT):TT:=fun p H Q=>t p H fun c H1=>if c=true then u p H1 Q else Q false H1
abbrev tOr(t u:TT):TT:=fun p H Q=>t p H fun c H1=>if c=true then Q true H1 else u p H1 Q
abbrev zUd(t:TT):TT:=fun p H Q=>t p H fun c H1=>Q (!c) H1
def zOB(ha:PT X a tA):PW X (.BoolOp .And [a] pos) tA:=by
 intro wh Mh s p H Q I h;refine isTrue_and (thn (ha Mh s p H Q I h) fun c s1 e=>?_)
 cases c with
 | true=>exact isTrue_and_nil e
 | false=>exact e
def zQP(ha:PT X a tA):PW X (.BoolOp .Or [a] pos) tA:=by
 intro wh Mh s p H Q I h;refine isTrue_or (thn (ha Mh s p H Q I h) fun c s1 e=>?_)
 cases c with
 | false=>exact isTrue_or_nil e
 | true=>exact e
def zRc(ha:PT X a tA)(hb:PW X (.BoolOp .And (b::rest) pos) tB'):PW X (.BoolOp .And (a::b::rest) pos) (zUc tA tB'):=by
 intro wh Mh s p H Q I h;refine isTrue_and (thn (ha Mh s p H _ I h) fun c s1 ⟨H1,I1,q1⟩=>?_)
 cases c with
 | true=>exact hb wh Mh s1 p H1 Q I1 q1
 | false=>exact⟨H1,I1,q1⟩
def zSu(ha:PT X a tA)(hb:PW X (.BoolOp .Or (b::rest) pos) tB'):PW X (.BoolOp .Or (a::b::rest) pos) (tOr tA tB'):=by
 intro wh Mh s p H Q I h;refine isTrue_or (thn (ha Mh s p H _ I h) fun c s1 ⟨H1,I1,q1⟩=>?_)
 cases c with
 | true=>exact⟨H1,I1,q1⟩
 | false=>exact hb wh Mh s1 p H1 Q I1 q1
def zPJ(ha:PT X a tA):PT X (.UnaryOp .Not a pos) (zUd tA):=by
 intro Mh s p H Q I h;exact isTrue_not (ha Mh s p H (fun c H1=>Q (!c) H1) I h)
abbrev zTR(ta tb:TE):TE:=fun p H Q=>ta p H fun x H1=>∃ c,x=.bl c/\if c=true then Q (.bl true) H1 else tb p H1 Q
def zQF{op}{t:TE}(h:PE X a t):PE X (.BoolOp op [a] pos) t:=fun Mh s p H Q I hw=>BoolOp_one (h Mh s p H Q I hw)
def zSO(ha:PE X a ta)(hb:PE X (.BoolOp .Or (b::rest) pos) tb):PE X (.BoolOp .Or (a::b::rest) pos) (zTR ta tb):=by
 intro Mh s p H Q I h;refine BoolOp_or (thn (ha Mh s p H _ I h) fun v s1 ⟨x,H1,I1,r1,q1⟩=>?_)
 obtain⟨c,rfl,q1⟩:=q1;cases r1;refine Jo ?_
 cases c with
 | false=>exact hb Mh s1 p H1 Q I1 q1
 | true=>exact⟨.bl true,H1,I1,rfl,q1⟩
abbrev tIf(t:TT)(ta tb:TE):TE:=fun p H Q=>t p H fun c H1=>if c=true then ta p H1 Q else tb p H1 Q
def zLJ{c:Expr}(hc:PT X c tA)(ha:PE X a ta)(hb:PE X b tb):PE X (.IfExp c a b pos) (tIf tA ta tb):=by
 intro Mh s p H Q I h;refine wpAny_IfExp (thn (hc Mh s p H _ I h) fun d s1 ⟨H1,I1,q1⟩=>?_)
 cases d with
 | true=>exact ha Mh s1 p H1 Q I1 q1
 | false=>exact hb Mh s1 p H1 Q I1 q1
end
def SqL(K:PySem.W.Frag)(H:Hp)(a:Jc)(xs:List V):Prop:=
 Rd H a (.lst xs)∨
  ∃(o:Obj)(its:Array Ja)(n:Nat),K.lookup a=some o/\o.cls=.type "list" /\ o.dict=none/\o.data=.seq its n/\its.size<=sizeLine/\dF xs its.toList
def SqT(K:PySem.W.Frag)(H:Hp)(a:Jc)(xs:List V):Prop:=
 Rd H a (.tup xs)∨
  ∃(o:Obj)(its:Array Ja)(n:Nat),K.lookup a=some o/\o.cls=.type "tuple" /\ o.data=.seq its n/\its.size<=sizeLine/\dF xs its.toList
def zUe:Ja->Option V
 | .none=>some .non
 | .bool b=>some (.bl b)
 | .int i _=>some (.int i)
 | .str x _=>some (.str x)
 | .bytes b _=>some (.byt b)
 | .float b _=>some (.flt b)
 | .ref a=>some (.ref a)
 | .type n=>some (.ty n)
 | _=>none
def cX.abs{x:V}{u:Ja}(r:cX x u):zUe u=some x:=by
 cases x with
 | non=>cases r;rfl
 | bl _=>cases r;rfl
 | int _=>obtain⟨t,rfl⟩:=r;rfl
 | str _=>obtain⟨t,rfl⟩:=r;rfl
 | byt _=>obtain⟨t,rfl⟩:=r;rfl
 | flt _=>obtain⟨t,rfl⟩:=r;rfl
 | ref _=>cases r;rfl
 | ty _=>cases r;rfl
def cX.inj{x y:V}{u:Ja}(r:cX x u)(q:cX y u):x=y:=Ve (r.abs.symm.trans q.abs)
def dF.inj:∀ {xs ys:List V} {us:List Ja},dF xs us->dF ys us->xs=ys
 | _,_,_,.nil,.nil=>rfl
 | _,_,_,.cons r t,.cons r' t'=>by rw[r.inj r',dF.inj t t']
section
variable{X:Cx}{Mh:List (Jc×Obj)}{b:St}{H:Hp}{s:Jb}{a:Jc}{xs ys:List V}
def SqL.of{K:Fg_}(h:H a=some (.lst xs)):SqL K H a xs:=.inl (.inl h)
def SqT.of{K:Fg_}(h:H a=some (.tup xs)):SqT K H a xs:=.inl (.inl h)
def Inv.list(I:Inv X Mh b H s)(h:SqL X.K H a xs):∃ its:List Ja,dF xs its/\PlainL s.heap a its.toArray/\xs.length<=sizeLine:=by
 rcases h with h | ⟨o,its,n,hk,hc,hd,hs,hz,r⟩
 ·obtain⟨z,its,n,r,e⟩:=h.ok I.hok
  exact⟨its,r,⟨_,n,e,rfl,rfl,rfl⟩,z⟩
 ·refine⟨its.toList,r,⟨o,n,I.kIn a o hk,hc,hd,by simpa using hs⟩,?_⟩
  have e:=r.length;simp only[Xy] at e;omega
def Inv.tuple(I:Inv X Mh b H s)(h:SqT X.K H a xs):∃ its:List Ja,dF xs its/\IsTup s.heap a its.toArray/\xs.length<=sizeLine:=by
 rcases h with h | ⟨o,its,n,hk,hc,hs,hz,r⟩
 ·obtain⟨z,its,r,p⟩:=h.ok I.hok
  exact⟨its,r,p,z⟩
 ·refine⟨its.toList,r,⟨o,I.kIn a o hk,hc,n,by simpa using hs⟩,?_⟩
  have e:=r.length;simp only[Xy] at e;omega
def Inv.list_inj(I:Inv X Mh b H s)(h:SqL X.K H a xs)(h':SqL X.K H a ys):xs=ys:=by
 obtain⟨its,r,⟨o,n,e,_,_,d⟩,_⟩:=I.list h;obtain⟨its',r',⟨o',n',e',_,_,d'⟩,_⟩:=I.list h';rw[e] at e';cases e'
 rw[d] at d';injection d' with d1 _
 have:its=its':=by simpa using congrArg Array.toList d1
 subst this;exact r.inj r'
def Inv.tuple_inj(I:Inv X Mh b H s)(h:SqT X.K H a xs)(h':SqT X.K H a ys):xs=ys:=by
 obtain⟨its,r,⟨o,e,_,n,d⟩,_⟩:=I.tuple h;obtain⟨its',r',⟨o',e',_,n',d'⟩,_⟩:=I.tuple h';rw[e] at e';cases e'
 rw[d] at d';injection d' with d1 _
 have:its=its':=by simpa using congrArg Array.toList d1
 subst this;exact r.inj r'
end
section
variable{X:Cx}{st:Ji}{rest:List Ji}{t u:TS}{e:Expr}{te:TE}{pos:Pos}
abbrev zSk:TS:=fun D r H=>D.nx r H
abbrev zTa(t u:TS):TS:=fun D r H=>t { D with nx:=u D } r H
def zOZ:PSs X [] zSk:=fun _ _ r H _ I h=>Jp ⟨r,H,I,h⟩
def tW(h1:PS X st t)(h2:PSs X rest u):PSs X (st::rest) (zTa t u):=by
 intro Mh s r H D I h;refine wpAny_execs_cons (thn (h1 Mh s r H { D with nx:=u D } I h) fun f s1 q=>?_)
 cases f with
 | next=>
  obtain⟨r',H',I',q⟩:=q;exact h2 Mh s1 r' H' D I' q
 | ret v=>exact q
 | brk=>exact q
 | cont=>exact q
def zEw(h1:PS X st t):PSs X [st] t:=by
 intro Mh s r H D I h;refine wpAny_execs_cons (thn (h1 Mh s r H D I h) fun f s1 q=>?_)
 cases f with
 | next=>exact Jp q
 | ret v=>exact q
 | brk=>exact q
 | cont=>exact q
def Inv.quiet{Mh:List (Jc×Obj)}{r:St}{H:Hp}{s:Jb}(I:Inv X Mh r H s):interactive X.env=false:=by simp[interactive,I.ok.kind]
abbrev zSJ(te:TE):TS:=fun D r H=>te r H fun _ H1=>D.nx r H1
def uP(he:PE X e te)(hs:swapsWith e none pos.line X.env=pure false:=by rfl):PS X (.Expr e pos) (zSJ te):=by
 intro Mh s r H D I h;exact wpAny_Expr_any (thn (he Mh s r H _ I h) fun v s1 ⟨x,H1,I1,r1,q1⟩=>⟨r,H1,I1,q1⟩) I.quiet hs
abbrev zTq(te:TE):TS:=fun D r H=>te r H D.rt
def zFR(he:PE X e te):PS X (.Return (some e) pos) (zTq te):=by
 intro Mh s r H D I h;exact wpAny_Return_some (thn (he Mh s r H _ I h) fun v s1 ⟨x,H1,I1,r1,q1⟩=>⟨x,r,H1,I1,r1,q1⟩)
abbrev zTP(c:TT)(t u:TS):TS:=fun D r H=>c r H fun b H1=>if b=true then t D r H1 else u D r H1
def zSw{c:Expr}{a b:List Ji}{tc:TT}(hc:PT X c tc)(ha:PSs X a t)(hb:PSs X b u):PS X (.If c a b pos) (zTP tc t u):=by
 intro Mh s r H D I h;refine wpAny_If (thn (hc Mh s r H _ I h) fun d s1 ⟨H1,I1,q1⟩=>?_)
 cases d with
 | true=>exact ha Mh s1 r H1 D I1 q1
 | false=>exact hb Mh s1 r H1 D I1 q1
end
abbrev TG:=V->St->Hp->(St->Hp->Prop)->Prop
abbrev TGs:=List V->St->Hp->(St->Hp->Prop)->Prop
def PG(X:Cx)(target:Expr)(t:TG):Prop:=
 ∀(Mh:List (Jc×Obj))(s:Jb)(r:St)(H:Hp)(v:V)(u:Ja)(Q:St->Hp->Prop),Inv X Mh r H s->cX v u->t v r H Q->
  wpAny (model X.prog X.w) X.A (assign target X.env u) (fun _ s'=>∃ r' H',Inv X Mh r' H' s'/\Q r' H') X.xe s
def PGs(X:Cx)(ts:List Expr)(t:TGs):Prop:=
 ∀(Mh:List (Jc×Obj))(s:Jb)(r:St)(H:Hp)(vs:List V)(us:List Ja)(Q:St->Hp->Prop),Inv X Mh r H s->dF vs us->t vs r H Q->
  wpAny (model X.prog X.w) X.A (assignInOrder ((assignEach ts X.env).map (·.2)) us) (fun _ s'=>∃ r' H',Inv X Mh r' H' s'/\Q r' H') X.xe s
abbrev zSp:=V->V->V->Hp->(Hp->Prop)->Prop
def zTh(X:Cx)(t:zSp):Prop:=
 ∀(Mh:List (Jc×Obj))(s:Jb)(r:St)(H:Hp)(o i v:V)(ov iv u:Ja)(Q:Hp->Prop),Inv X Mh r H s->cX o ov->cX i iv->cX v u->t o i v H Q->
  wpAny (model X.prog X.w) X.A (setItem ov iv u) (fun _ s'=>∃ H',Inv X Mh r H' s'/\Q H') X.xe s
abbrev TIp:=V->V->Hp->VK->Prop
def PIp(X:Cx)(op:Operator)(t:TIp):Prop:=
 ∀(Mh:List (Jc×Obj))(s:Jb)(r:St)(H:Hp)(x y:V)(v u:Ja)(Q:VK),Inv X Mh r H s->cX x v->cX y u->t x y H Q->
  wpAny (model X.prog X.w) X.A (inplaceOp op v u) (EP X Mh r Q) X.xe s
section
variable{X:Cx}{pos:Pos}
abbrev gName(i:Nat):TG:=fun v p H Q=>Q (p.set i (some v)) H
def zET{i:Nat}{x:Str}(hN:X.N.Nodup)(hi:X.N[i]?=some x)(hx:Loc X.env.scope x)(hf:X.fn x=true∨X.env.scope.names.lookup x=some .local:=by first | exact .inl rfl | exact .inr rfl | assumption):PG X (.Name x pos) (gName i):=by
 intro Mh s p H v u Q I r h;exact Jq (uI I hN hi hx r (fun s' I'=>⟨_,H,I',h⟩) hf)
def zGU:TGs:=fun vs p H Q=>vs=[]/\Q p H
def jR(t:TG)(u:TGs):TGs:=fun vs p H Q=>∃ v r,vs=v::r/\t v p H fun p' H'=>u r p' H' Q
def zIg:PGs X [] zGU:=by
 intro Mh s p H vs us Q I r h;obtain⟨e,h⟩:=h;subst e;cases r;exact assignInOrder_nil ⟨p,H,I,h⟩
def zAf{e:Expr}{es:List Expr}{t:TG}{u:TGs}(h1:PG X e t)(h2:PGs X es u)
  (hs:(assignEach (e::es) X.env).map (·.2)=assign e X.env::(assignEach es X.env).map (·.2):=by rfl):PGs X (e::es) (jR t u):=by
 intro Mh s p H vs us Q I r h;obtain⟨v,vr,e1,h⟩:=h;subst e1
 cases r with
 | cons r rr=>
  rw[hs];refine assignInOrder_cons (thn (h1 Mh s p H _ _ _ I r h) fun _ s1 ⟨p1,H1,I1,q1⟩=>?_)
  exact h2 Mh s1 p1 H1 _ _ Q I1 rr q1
def zGN(K:PySem.W.Frag)(n:Nat)(t:TGs):TG:=fun v p H Q=>∃ a xs,v=.ref a/\SqT K H a xs/\xs.length=n/\t xs p H Q
def zMJ{es:List Expr}{k:Nat}{t:TGs}{n:Nat}(hc:X.calm=true)(h:PGs X es t)
  (hn:(assignEach es X.env).length=n:=by rfl) (hst:(assignEach es X.env).findIdx? (·.1)=none:=by rfl):PG X (.Tuple es k pos) (zGN X.K n t):=by
 intro Mh s p H v u Q I r hw;obtain⟨a,xs,e1,hq,hl,hw⟩:=hw;subst e1;cases r;obtain⟨its,rv,ht,hz⟩:=I.tuple hq;refine assign_Tuple_tuple (I.ok.hd hc) ht (by simp[hn,<-hl,rv.length]) hst fun h' hx=>?_
 have I1:Inv X Mh p H { s with heap:=h' }:=I.kept (t':=s.toks) fun b o e=>hx b o (Qs (Heap.lt_size e)) e
 exact h Mh _ p H xs _ Q I1 (by simpa using rv) hw
def zTX(to ti:TE)(t:zSp):TG:=fun v p H Q=>to p H fun o H1=>ti p H1 fun i H2=>t o i v H2 fun H3=>Q p H3
def zPO{o i:Expr}{to ti:TE}{t:zSp}(ho:PE X o to)(hi:PE X i ti)(hs:zTh X t)
  (ha:∀ v,assign (.Subscript o i pos) X.env v=(do
   let ov <-holding [v] (eval o X.env)
   let iv <-holding [v,ov] (eval i X.env)
   standAt pos
   holding [v,ov,iv] (setItem ov iv v)
   release [v,ov,iv] []):=by intro _;rfl):PG X (.Subscript o i pos) (zTX to ti t):=by
 intro Mh s p H v u Q I r h;rw[ha];refine Jr (wpAny_holding (thn (ho Mh s p H _ I h) fun ov s1 ⟨x,H1,I1,r1,q1⟩=>?_))
 refine Jr (wpAny_holding (thn (hi Mh s1 p H1 _ I1 q1) fun iv s2 ⟨y,H2,I2,r2,q2⟩=>?_))
 refine Jr (wpAny_standAt (Jr (wpAny_holding (thn (hs Mh s2 p H2 x y v ov iv u _ I2 r1 r2 r q2) fun _ s3 ⟨H3,I3,q3⟩=>?_))))
 exact wpAny_release ⟨p,H3,I3,q3⟩
abbrev zSI(te:TE)(g:TG):TS:=fun D p H=>te p H fun x H1=>g x p H1 D.nx
def zQw{tg e:Expr}{te:TE}{g:TG}(he:PE X e te)(hg:PG X tg g)(hs:swapsWithSole [tg] e pos.line X.env=pure false:=by rfl)(hw:swappedStores [tg] e X.env=pure none:=by rfl)
  (h1:(assignEach [tg] X.env).map (·.2)=[assign tg X.env]:=by rfl):PS X (.Assign [tg] e pos) (zSI te g):=by
 intro Mh s p H D I h;refine wpAny_Assign_stores (thn (he Mh s p H _ I h) fun v s1 ⟨x,H1,I1,r1,q1⟩=>?_) hs hw
 rw[h1];exact thn (hg Mh s1 p H1 x v _ I1 r1 q1) fun _ s2 q=>q
def zMu{i:Nat}{x:Str}{e:Expr}{te:TE}{pos':Pos}(hN:X.N.Nodup)(hi:X.N[i]?=some x)(hx:Loc X.env.scope x)(he:PE X e te)(hs:swapsWith e (some (.Name x pos')) pos.line X.env=pure false:=by rfl)(hf:X.fn x=true∨X.env.scope.names.lookup x=some .local:=by first | exact .inl rfl | exact .inr rfl | assumption):
  PS X (.Assign [.Name x pos'] e pos) (zSI te (gName i)):=by
 intro Mh s p H D I h;refine wpAny_Assign_Name (thn (he Mh s p H _ I h) fun v s1 ⟨y,H1,I1,r1,q1⟩=>?_) hs
 exact uI I1 hN hi hx r1 (fun s2 I2=>⟨_,H1,I2,q1⟩) hf
abbrev zTK(i:Nat)(te:TE)(ti:TIp):TS:=fun D p H=>∃ x,p[i]?=some (some x)/\te p H fun y H1=>ti x y H1 fun z H2=>D.nx (p.set i (some z)) H2
def zRA{i:Nat}{x:Str}{e:Expr}{te:TE}{op:Operator}{ti:TIp}{pos':Pos}(hN:X.N.Nodup)(hi:X.N[i]?=some x)(hx:Loc X.env.scope x)(he:PE X e te)(ho:PIp X op ti)(hf:X.fn x=true∨X.env.scope.names.lookup x=some .local:=by first | exact .inl rfl | exact .inr rfl | assumption):
  PS X (.AugAssign (.Name x pos') op e pos) (zTK i te ti):=by
 intro Mh s p H D I h;obtain⟨v,e1,h⟩:=h;obtain⟨m,hn,hl⟩:=I.loc;have vis:Vis X.env.scope x:=by rcases hx with k | k;exact .inl k;exact .inr (.inl k)
 obtain⟨u,r,l⟩:=hl i x v hi e1 vis;refine wpAny_AugAssign_Name ?_
 have go:wpAny (model X.prog X.w) X.A (eval e X.env) (fun w s₂=>wpAny (model X.prog X.w) X.A (inplaceOp op u w) (fun r s₃=>wpAny (model X.prog X.w) X.A (storeName X.env x r) (fun _=>SP X Mh D .next) X.xe s₃) X.xe s₂) X.xe s:=by
  refine thn (he Mh s p H _ I h) fun w s1 ⟨y,H1,I1,r1,q1⟩=>?_
  refine thn (ho Mh s1 p H1 v y u w _ I1 r r1 q1) fun z s2 ⟨zv,H2,I2,r2,q2⟩=>?_
  exact uI I2 hN hi hx r2 (fun s3 I3=>⟨_,H2,I3,q2⟩) hf
 rcases l with⟨hk,hm⟩ | ⟨hk,c,hc,hcell⟩
 ·exact wpAny_loadName_local I.ok.kind hk hn hm go
 ·rcases hk with hk | hk
  ·exact wpAny_loadName_cell I.ok.kind hk hc hcell go
  ·rcases hx with k | k
   ·have:X.env.scope.names.lookup x=some .free:=hk
    rw[k] at this;cases this
   ·have:X.env.scope.names.lookup x=some .free:=hk
    rw[k] at this;cases this
def ipI(f:Int->Int->Int):TIp:=fun x y H Q=>∃ i j,x=.int i/\y=.int j/\Q (.int (f i j)) H
def zGl:PIp X .Add (ipI fun i j=>i+j):=by
 intro Mh s p H x y v u Q I r1 r2 h;obtain⟨i,j,e1,e2,q⟩:=h;subst e1;subst e2
 obtain⟨t,rfl⟩:=r1;obtain⟨t',rfl⟩:=r2;exact iadd_int ⟨.int _,H,I.tok _,⟨_,rfl⟩,q⟩
def zMR:PIp X .Sub (ipI fun i j=>i-j):=by
 intro Mh s p H x y v u Q I r1 r2 h;obtain⟨i,j,e1,e2,q⟩:=h;subst e1;subst e2
 obtain⟨t,rfl⟩:=r1;obtain⟨t',rfl⟩:=r2;exact isub_int ⟨.int _,H,I.tok _,⟨_,rfl⟩,q⟩
end
section
variable{X:Cx}{pos:Pos}
def zRM(c:TT)(tb:TS):TS:=fun D r H=>∃ W:Nat->St->Hp->Prop,(∃ m,W m r H)/\∀ m r H,W m r H->
 c r H fun b H1=>if b=true then ∃ N:St->Hp->Prop,(∀ r' H',N r' H'->∃ m',m' < m/\W m' r' H')/\tb { D with nx:=N,ct:=N,bk:=D.nx } r H1 else D.nx r H1
def zLK{c:Expr}{body:List Ji}{tc:TT}{tb:TS}(hp:PassesOwn (model X.prog X.w) X.A X.env X.xe)(hc:PT X c tc)(hb:PSs X body tb):PS X (.While c body [] pos) (zRM tc tb):=by
 intro Mh s r H D I h;obtain⟨W,⟨m0,w0⟩,turn⟩:=h;refine wpAny_While (codeAny_whileLoop (fun n s'=>∃ r' H',Inv X Mh r' H' s'/\W n r' H') ?_ m0 ⟨r,H,I,w0⟩)
 rintro n s1 ⟨r1,H1,I1,w1⟩
 refine Js hp (thn (hc Mh s1 r1 H1 _ I1 (turn n r1 H1 w1)) fun b s2 ⟨H2,I2,q2⟩=>?_)
 cases b with
 | true=>
  obtain⟨N,hN,q2⟩:=q2;rw[Jk rfl];refine Js hp (thn (hb Mh s2 r1 H2 _ I2 q2) fun f s3 q3=>?_)
  cases f with
  | next=>
   obtain⟨r3,H3,I3,n3⟩:=q3;obtain⟨m',hm,w3⟩:=hN r3 H3 n3;exact⟨m',hm,r3,H3,I3,w3⟩
  | cont=>
   obtain⟨r3,H3,I3,n3⟩:=q3;obtain⟨m',hm,w3⟩:=hN r3 H3 n3;exact⟨m',hm,r3,H3,I3,w3⟩
  | brk=>exact q3
  | ret v=>exact q3
 | false=>
  rw[Jl X8];exact Jp ⟨r1,H2,I2,q2⟩
end
structure It where
 go:Nat->Hp->Prop
 yld:Nat->Hp->V->Hp->Prop
 stop:Nat->Hp->Prop
def tT(X:Cx)(Mh:List (Jc×Obj))(H:Hp)(b:Jc):Prop:=
 H b=none/\b≠X.env.locals/\b∉X.fs/\(b∈X.ex∨X.s₀.heap.objs.size<=b)/\(∀ x c,X.env.cells.lookup x=some c->c≠b)/\∀ p∈X.pn++Mh,p.1≠b
def Inv.fpOk{X:Cx}{Mh:List (Jc×Obj)}{r:St}{H H':Hp}{s:Jb}{b:Jc}(I:Inv X Mh r H s)(hb:s.heap.objs.size<=b)(hn:H' b=none):tT X Mh H' b:=by
 refine⟨hn,Yp (Qu I.lt hb),I.nofs hb,.inr (Q4 I.sz hb),fun x c e z=>?_,fun p hp z=>?_⟩
 ·obtain⟨v,q⟩:=I.cell x c e
  exact absurd (Qu q.lt (by rw[z];exact hb)) (Xg _)
 ·exact absurd (Qu (Heap.lt_size (I.pin p hp).1) (by rw[z];exact hb)) (Xg _)
structure Turn (P:Jf) (w:Jg) (K:PySem.W.Frag) (tg:Expr) (J:It) (fp:List Jc) (it:Jc) (tn:Nat->Je->Prop):Prop where
 mem:it∈fp
 obj:∀ i h,tn i h->∀ b∈fp,∃ o,h.get? b=some o/\∀ v,o.data≠.cell v
 keep:∀ i h h',tn i h->(∀ b∈fp,∀ o,h.get? b=some o->h'.get? b=some o)->tn i h'
 item:∀(X:Cx),X.prog=P->X.w=w->X.K=K->X.calm=true->∀(i:Nat)(Mh:List (Jc×Obj))(s:Jb)(σ:St)(H:Hp)(E:Ja->Jb->Prop),Inv X Mh σ H s->(∀ b∈fp,tT X Mh H b)->tn i s.heap->J.go i H->
  wpAny (model P w) X.A (pyNext (.ref it)) (fun r s1=>∃ u,r=some u/\
   wpAny (model P w) X.A (letOwnedTupleGo tg (.ref it) u) (fun _ s2=>∃ x H',Inv X Mh σ H' s2/\cX x u/\J.yld i H x H'/\tn (i+1) s2.heap/\∀ b∈fp,H' b=none) E s1) E s
 done:∀(X:Cx),X.prog=P->X.w=w->X.K=K->X.calm=true->∀(i:Nat)(Mh:List (Jc×Obj))(s:Jb)(σ:St)(H:Hp)(E:Ja->Jb->Prop),Inv X Mh σ H s->(∀ b∈fp,tT X Mh H b)->tn i s.heap->J.stop i H->
  wpAny (model P w) X.A (pyNext (.ref it)) (fun r s1=>r=none/\Inv X Mh σ H s1) E s
 self:∀(A:Jh)(i:Nat)(s:Jb)(Q:Ja->Jb->Prop)(E:Ja->Jb->Prop),tn i s.heap->Q (.ref it) s->wpAny (model P w) A (pyIter (.ref it)) Q E s
abbrev TI:=St->Hp->(It->Hp->Prop)->Prop
def PIE(X:Cx)(Mh:List (Jc×Obj))(r:St)(tg:Expr)(R:It->Hp->Prop)(itv:Ja)(s2:Jb):Prop:=
 ∃(it:Jc)(fp:List Jc)(tn:Nat->Je->Prop)(J:It)(H':Hp),itv=.ref it/\Inv X Mh r H' s2/\Turn X.prog X.w X.K tg J fp it tn/\tn 0 s2.heap/\(∀ b∈fp,tT X Mh H' b)/\R J H'
def PI(X:Cx)(tg iter:Expr)(wi:TI):Prop:=
 ∀(Mh:List (Jc×Obj))(s:Jb)(r:St)(H:Hp)(R:It->Hp->Prop),Inv X Mh r H s->wi r H R->
  wpAny (model X.prog X.w) X.A (eval iter X.env) (fun v s1=>wpAny (model X.prog X.w) X.A (pyIter v) (PIE X Mh r tg R) X.xe s1) X.xe s
def zKU{M:Model}{A:Jh}{E:Ja->Jb->Prop}{s:Jb}{tg:Expr}{it:Jc}{u:Ja}{o:Obj}{n:String}{vs:Array Ja}{Q:Unit->Jb->Prop}(ho:s.heap.get? it=some o)(hc:o.cls=.type n)(hd:o.data=.fields vs)
    (hn:["enumerate","zip","dict_itemiterator","dict_reverseitemiterator","odict_iterator","itertools.zip_longest","itertools.pairwise"].contains n=false) (hQ:Q () s):wpAny M A (letOwnedTupleGo tg (.ref it) u) Q E s:=by
  unfold letOwnedTupleGo
  cases tg<;>first
    | exact Ju hQ
    | (cases u<;>first
        | exact Ju hQ
        | (refine Jr (wpAny_load ho ?_)
           rw[hc,hd];show wpAny M A (if (["enumerate","zip","dict_itemiterator","dict_reverseitemiterator","odict_iterator","itertools.zip_longest","itertools.pairwise"].contains n && vs[0]?==some (rawInt _))=true then _ else _) Q E s
           rw[Jl (by intro h;rw[hn,Bool.false_and] at h;cases h)]
           exact Ju hQ))
def Itl(K:PySem.W.Frag)(a:Jc):It:=
 ⟨fun i H=>∃ xs x,SqL K H a xs/\xs[i]?=some x,fun i H x H'=>H'=H/\∀ xs,SqL K H a xs->xs[i]?=some x,fun i H=>∃ xs,SqL K H a xs/\xs.length<=i⟩
def Itt(K:PySem.W.Frag)(a:Jc):It:=
 ⟨fun i H=>∃ xs x,SqT K H a xs/\xs[i]?=some x,fun i H x H'=>H'=H/\∀ xs,SqT K H a xs->xs[i]?=some x,fun i H=>∃ xs,SqT K H a xs/\xs.length<=i⟩
def Itr(lo:Int)(n:Nat):It:=⟨fun i _=>i<n,fun i H x H'=>H'=H/\x=.int (lo+i),fun i _=>n<=i⟩
def zDj{P:Jf}{w:Jg}{K:Fg_}{tg:Expr}(a it:Jc):Turn P w K tg (Itl K a) [it] it (fun i h=>h.IsListIter it a i) where
 mem:=by simp
 obj:=fun i h st b hb=>by
  have e:b=it:=by simpa using hb
  subst e;obtain⟨o,e,c,d⟩:=st;exact⟨o,e,fun v z=>by rw[d] at z;cases z⟩
 keep:=fun i h h' st k=>st.at fun o e=>k it (by simp) o e
 item:=by
  intro X hP hw hK hc i Mh s r H E I hf st hg;subst hP hw hK;obtain⟨xs,x,hq,hx⟩:=hg;obtain⟨its,rv,p,hz⟩:=I.list hq;obtain⟨u,hu,ru⟩:=rv.get hx;obtain⟨f0,f1,f2,f3,f4,f5⟩:=hf it (by simp)
  refine wpAny_pyNext_list_item st p.isList (x:=u) (by simpa using hu) fun h' st' sb=>?_
  have I1:Inv X Mh r H { s with heap:=h' }:=I.turned (t':=s.toks) (fun b o hb e=>(sb.2 b hb).trans e) f0 f1 f3 f4 f5
  obtain⟨o,e,c,d⟩:=id st';exact⟨u,rfl,zKU (s:={ s with heap:=h' }) e c d (by decide) ⟨x,H,I1,ru,⟨rfl,fun ys hy=>by rw[I.list_inj hy hq];exact hx⟩,st',fun b hb=>(hf b hb).1⟩⟩
 done:=by
  intro X hP hw hK hc i Mh s r H E I hf st hg;subst hP hw hK;obtain⟨xs,hq,hx⟩:=hg;obtain⟨its,rv,p,hz⟩:=I.list hq;obtain⟨f0,f1,f2,f3,f4,f5⟩:=hf it (by simp)
  have hl:=rv.length;exact wpAny_pyNext_list_end (I.ok.hd hc) st p.isList (by simp;omega) fun h' eb=>⟨rfl,I.turned (t':=s.toks) (fun b o hb e=>eb b o hb e) f0 f1 f3 f4 f5⟩
 self:=fun _ _ _ _ _ st h=>wpAny_pyIter_listiter st h
def zGw{P:Jf}{w:Jg}{K:Fg_}{tg:Expr}(a it:Jc):Turn P w K tg (Itt K a) [it] it (fun i h=>h.IsTupleIter it a i) where
 mem:=by simp
 obj:=fun i h st b hb=>by
  have e:b=it:=by simpa using hb
  subst e;obtain⟨o,e,c,d⟩:=st;exact⟨o,e,fun v z=>by rw[d] at z;cases z⟩
 keep:=fun i h h' st k=>st.at fun o e=>k it (by simp) o e
 item:=by
  intro X hP hw hK hc i Mh s r H E I hf st hg;subst hP hw hK;obtain⟨xs,x,hq,hx⟩:=hg;obtain⟨its,rv,p,hz⟩:=I.tuple hq;obtain⟨u,hu,ru⟩:=rv.get hx;obtain⟨f0,f1,f2,f3,f4,f5⟩:=hf it (by simp)
  refine wpAny_pyNext_tuple_item st (show s.heap.IsTuple a its.toArray from p) (x:=u) (by simpa using hu) fun h' st' sb=>?_
  have I1:Inv X Mh r H { s with heap:=h' }:=I.turned (t':=s.toks) (fun b o hb e=>(sb.2 b hb).trans e) f0 f1 f3 f4 f5
  obtain⟨o,e,c,d⟩:=id st';exact⟨u,rfl,zKU (s:={ s with heap:=h' }) e c d (by decide) ⟨x,H,I1,ru,⟨rfl,fun ys hy=>by rw[I.tuple_inj hy hq];exact hx⟩,st',fun b hb=>(hf b hb).1⟩⟩
 done:=by
  intro X hP hw hK hc i Mh s r H E I hf st hg;subst hP hw hK;obtain⟨xs,hq,hx⟩:=hg;obtain⟨its,rv,p,hz⟩:=I.tuple hq;obtain⟨f0,f1,f2,f3,f4,f5⟩:=hf it (by simp)
  have hl:=rv.length;exact wpAny_pyNext_tuple_end (I.ok.hd hc) st (show s.heap.IsTuple a its.toArray from p) (by simp;omega) fun h' eb=>⟨rfl,I.turned (t':=s.toks) (fun b o hb e=>eb b o hb e) f0 f1 f3 f4 f5⟩
 self:=fun _ _ _ _ _ st h=>wpAny_pyIter_tupleiter st h
def zHn{P:Jf}{w:Jg}{K:Fg_}{tg:Expr}(it:Jc)(lo:Int)(n:Nat):Turn P w K tg (Itr lo n) [it] it (fun i h=>IsRangeIter h it (lo+(i:Nat)*1) ((n:Int)-(i:Nat)) 1) where
 mem:=by simp
 obj:=fun i h st b hb=>by
  have e:b=it:=by simpa using hb
  subst e
  exact⟨_,st,fun v z=>by
   have z':Data.fields _=Data.cell v:=z
   cases z'⟩
 keep:=fun i h h' st k=>k it (by simp) _ st
 item:=by
  intro X hP hw hK hc i Mh s r H E I hf st hg;subst hP hw hK;obtain⟨f0,f1,f2,f3,f4,f5⟩:=hf it (by simp)
  have W:=Walks.range (prog:=X.prog) (w:=X.w) (I.ok.hd hc) it lo 1 n;refine W.item i s _ _ hg st fun v h' tk hv st' kk=>?_
  obtain⟨t,rfl⟩:=hv;have I1:Inv X Mh r H { s with heap:=h',toks:=tk }:=I.turned (fun b o hb e=>kk b o (by simpa using hb) e) f0 f1 f3 f4 f5
  refine⟨_,rfl,zKU (s:={ s with heap:=h',toks:=tk }) (n := "range_iterator") st' rfl rfl (by decide) ⟨.int (lo+i),H,I1,⟨t,?_⟩,⟨rfl,rfl⟩,st',fun b hb=>(hf b hb).1⟩⟩
  rw[Vl]
 done:=by
  intro X hP hw hK hc i Mh s r H E I hf st hg;subst hP hw hK;obtain⟨f0,f1,f2,f3,f4,f5⟩:=hf it (by simp)
  exact wpAny_pyNext_range_end (I.ok.hd hc) st (by have:n<=i:=hg;omega) fun h' eb=>⟨rfl,I.turned (t':=s.toks) (fun b o hb e=>eb b o hb e) f0 f1 f3 f4 f5⟩
 self:=fun _ _ _ _ _ st h=>wpAny_pyIter_rangeiter st h
section
variable{X:Cx}{tg:Expr}
abbrev zSr(K:PySem.W.Frag)(tl:TE):TI:=fun c H R=>tl c H fun x H1=>∃ a,x=.ref a/\(∃ xs,SqL K H1 a xs)/\R (Itl K a) H1
def zPq{l:Expr}{tl:TE}(hl:PE X l tl):PI X tg l (zSr X.K tl):=by
 intro Mh s c H R I h;refine thn (hl Mh s c H _ I h) fun v s1 ⟨x,H1,I1,r1,q1⟩=>?_
 obtain⟨a,e,⟨xs,hq⟩,q⟩:=q1;subst e;cases r1;obtain⟨its,rv,p,hz⟩:=I1.list hq;refine wpAny_pyIter_list p.isList ?_
 refine⟨s1.heap.objs.size,[s1.heap.objs.size],_,_,H1,rfl,I1.kept (t':=s1.toks) fun b o e=>Heap.get?_push_of_some _ e,zDj a _,⟨_,Heap.get?_push_size _ rfl,rfl,rfl⟩,fun b hb=>?_,q⟩
 have e:b=s1.heap.objs.size:=by simpa using hb
 subst e;exact I1.fpOk (Qf _) (I1.hok.fresh (Qf _))
def zFw{Mh:List (Jc×Obj)}{c:St}{H:Hp}{s:Jb}{R:It->Hp->Prop}{E:Ja->Jb->Prop}{lo hi:Int}{t u v:Tok}{tk:Nat}(I:Inv X Mh c H s)(h1:-(2^62)<=lo)(h2:lo<2^62)(h3:-(2^62)<=hi)(h4:hi<2^62)
  (q:R (Itr lo (hi-lo).toNat) H):wpAny (model X.prog X.w) X.A (pyIter (.ref s.heap.objs.size)) (PIE X Mh c tg R) E { s with heap:=s.heap.push { cls:=.type "range", data:=.fields #[.int lo t,.int hi u,.int 1 v] },toks:=tk }:=by
 refine wpAny_pyIter_range (IsRange.new ..) (small_one h1 h2 h3 h4) ?_
 have I1:Inv X Mh c H { s with heap:=s.heap.push { cls:=.type "range", data:=.fields #[.int lo t,.int hi u,.int 1 v] },toks:=tk }:=I.kept fun b o e=>Heap.get?_push_of_some _ e
 refine⟨(s.heap.push { cls:=.type "range", data:=.fields #[.int lo t,.int hi u,.int 1 v] }).objs.size,[(s.heap.push { cls:=.type "range", data:=.fields #[.int lo t,.int hi u,.int 1 v] }).objs.size],_,_,H,rfl,
  I1.kept (t':=tk) fun b o e=>Heap.get?_push_of_some _ e,zHn _ lo (hi-lo).toNat,?_,fun b hb=>?_,q⟩
 ·have e1:lo+((0:Nat):Int)*1=lo:=by simp
  have e2:(((hi-lo).toNat:Nat):Int)-((0:Nat):Int)=Builtin.Range.rangeSize lo hi 1:=by rw[rangeSize_one];split<;>omega
  show IsRangeIter _ _ (lo+((0:Nat):Int)*1) ((((hi-lo).toNat:Nat):Int)-((0:Nat):Int)) 1
  rw[e1,e2];exact Heap.get?_push_size _ rfl
 ·have e:b=(s.heap.push { cls:=.type "range", data:=.fields #[.int lo t,.int hi u,.int 1 v] }).objs.size:=by simpa using hb
  subst e;exact I1.fpOk (Qf _) (I1.hok.fresh (Qf _))
abbrev zDO(ta:TA):TI:=fun c H R=>ta c H fun vs H1=>∃ j:Int,vs=[.int j]/\-(2^62)<=j/\j<2^62/\R (Itr 0 j.toNat) H1
abbrev zDH(ta:TA):TI:=fun c H R=>ta c H fun vs H1=>∃ i j:Int,vs=[.int i,.int j]/\(-(2^62)<=i/\i<2^62/\-(2^62)<=j/\j<2^62)/\R (Itr i (j-i).toNat) H1
def zIc{a:Expr}{ta:TA}{p pos:Pos}(hg:Gl X "range")(hm:X.mg "range" = none)(ha:PA X [a] ta)(hs:starEach [a] X.env=[(false,eval a X.env)]:=by rfl):PI X tg (.Call (.Name "range" p) [a] [] pos) (zDO ta):=by
 intro Mh s c H R I h;refine Call_ (qJ I hg hm Jv (X9 (thn (ha pos Mh s c H _ I h) fun us s1 ⟨vs,H1,I1,r1,q1⟩=>?_) hs rfl))
 obtain⟨j,e,q1,q2,q⟩:=q1;subst e
 cases r1 with
 | cons r rr=>
  cases rr;obtain⟨t,rfl⟩:=r;exact call_range_1 (zFw I1 (by omega) (by omega) q1 q2 (by simpa using q))
def zHJ{a b:Expr}{ta:TA}{p pos:Pos}(hg:Gl X "range")(hm:X.mg "range" = none)(ha:PA X [a,b] ta)(hs:starEach [a,b] X.env=[(false,eval a X.env),(false,eval b X.env)]:=by rfl)(hs2:starEach [b] X.env=[(false,eval b X.env)]:=by rfl):
  PI X tg (.Call (.Name "range" p) [a,b] [] pos) (zDH ta):=by
 intro Mh s c H R I h;refine Call_ (qJ I hg hm Jv (X9 (thn (ha pos Mh s c H _ I h) fun us s1 ⟨vs,H1,I1,r1,q1⟩=>?_) (by rw[hs,hs2]) (by rw[hs2];rfl)))
 obtain⟨i,j,e,⟨q1,q2,q3,q4⟩,q⟩:=q1;subst e
 cases r1 with
 | cons r rr=>
  cases rr with
  | cons r' rr=>
   cases rr;obtain⟨t,rfl⟩:=r;obtain⟨t',rfl⟩:=r';exact call_range_2 (zFw I1 q1 q2 q3 q4 q)
abbrev zTn(wi:TI)(g:TG)(tb:TS):TS:=fun D c H=>wi c H fun J H1=>∃ W:Nat->Nat->St->Hp->Prop,(∃ m,W 0 m c H1)/\∀ i m c H,W i m c H->
 (J.stop i H/\D.nx c H)∨(J.go i H/\∃ N:St->Hp->Prop,(∀ c' H',N c' H'->∃ m',m' < m/\W (i+1) m' c' H')/\∀ x H',J.yld i H x H'->g x c H' fun c2 H2=>tb { D with nx:=N,ct:=N,bk:=D.nx } c2 H2)
def vT(fp:List Jc)(h:Je):List (Jc×Obj):=fp.filterMap fun b=>(h.get? b).map fun o=>(b,o)
def fL{fp:List Jc}{h:Je}{b:Jc}{o:Obj}(hb:b∈fp)(e:h.get? b=some o):(b,o)∈vT fp h:=U8.mpr ⟨b,hb,by rw[e];rfl⟩
def zJa{fp:List Jc}{h:Je}{p:Jc×Obj}(hp:p∈vT fp h):p.1∈fp/\h.get? p.1=some p.2:=by
 obtain⟨b,hb,e⟩:=U8.mp hp
 cases q:h.get? b with
 | none=>rw[q] at e;cases e
 | some o=>
  rw[q] at e;have e':(b,o)=p:=Ve e;subst e';exact⟨hb,q⟩
def Inv.pinned{Mh:List (Jc×Obj)}{c:St}{H:Hp}{s:Jb}{fp:List Jc}(I:Inv X Mh c H s)(hf:∀ b∈fp,tT X Mh H b)(ho:∀ b∈fp,∃ o,s.heap.get? b=some o/\∀ v,o.data≠.cell v):Inv X (Mh++vT fp s.heap) c H s:=
 I.pins_of fun p hp=>(Q7.mp hp).elim (fun z=>I.pin p (Q2 _ z)) fun z=>by
  obtain⟨hb,e⟩:=zJa z;obtain⟨f0,f1,f2,_⟩:=hf p.1 hb;obtain⟨o,e',d⟩:=ho p.1 hb;rw[e] at e';cases e'
  exact⟨e,f0,f1,f2,d⟩
def Inv.unpinned{Mh pl:List (Jc×Obj)}{c:St}{H:Hp}{s:Jb}(I:Inv X (Mh++pl) c H s):Inv X Mh c H s:=I.pins_of fun p hp=>I.pin p (Q2 _ (Xx _ hp))
def zMS{iter:Expr}{body:List Ji}{wi:TI}{g:TG}{tb:TS}{pos:Pos}(hp:PassesOwn (model X.prog X.w) X.A X.env X.xe)(hc:X.calm=true)(hi:PI X tg iter wi)(hg:PG X tg g)(hb:PSs X body tb)
  (hs:∀ x,foldedSetIterable iter X.env x=pure x:=by intro _;rfl):PS X (.For tg iter body [] pos) (zTn wi g tb):=by
 intro Mh s c H D I h;refine wpAny_For (thn (hi Mh s c H _ I h) fun v s1 h1=>thn h1 fun itv s2 h2=>?_) hs
 obtain⟨it,fp,tn,J,H2,e,I2,T,st2,f2,W,⟨m0,w0⟩,turn⟩:=h2;subst e;have stat:∀ {H':Hp},(∀ b∈fp,H' b=none)->∀ b∈fp,tT X Mh H' b:=fun hn b hb=>⟨hn b hb,(f2 b hb).2⟩
 refine codeAny_forLoop_any (fun n s'=>∃ i c' H',Inv X Mh c' H' s'/\tn i s'.heap/\(∀ b∈fp,H' b=none)/\W i n c' H') ?_ m0 ⟨0,c,H2,I2,st2,fun b hb=>(f2 b hb).1,w0⟩
 rintro n s3 ⟨i,c3,H3,I3,st3,fr3,w3⟩
 rcases turn i n c3 H3 w3 with⟨stop,qn⟩ | ⟨go,N,hN,step⟩
 ·refine Js hp (thn (T.done X rfl rfl rfl hc i Mh s3 c3 H3 X.xe I3 (stat fr3) st3 stop) fun r s4 ⟨hr,I4⟩=>?_)
  subst hr;exact Jp ⟨c3,H3,I4,qn⟩
 ·refine Js hp (thn (T.item X rfl rfl rfl hc i Mh s3 c3 H3 X.xe I3 (stat fr3) st3 go) fun r s4 ⟨u,hr,h4⟩=>?_)
  subst hr;refine Js hp (thn h4 fun _ s5 ⟨x,H5,I5,r5,y5,st5,fr5⟩=>?_)
  have I5':=I5.pinned (stat fr5) (T.obj _ _ st5);refine Js hp (thn (hg _ s5 c3 H5 x u _ I5' r5 (step x H5 y5)) fun _ s6 ⟨c6,H6,I6,q6⟩=>?_)
  refine Js hp (thn (hb _ s6 c6 H6 _ I6 q6) fun f s7 q7=>?_)
  have again:∀ {c7:St} {H7:Hp},Inv X (Mh++vT fp s5.heap) c7 H7 s7->N c7 H7->∃ m,m<n/\∃ i c' H',Inv X Mh c' H' s7/\tn i s7.heap/\(∀ b∈fp,H' b=none)/\W i m c' H':=fun {c7 H7} I7 n7=>by
   obtain⟨m',hm,w7⟩:=hN c7 H7 n7;refine⟨m',hm,i+1,c7,H7,I7.unpinned,T.keep _ _ _ st5 fun b hb o e=>(I7.pin (b,o) (Q2 _ (Q2 _ (fL hb e)))).1,fun b hb=>?_,w7⟩
   obtain⟨o,e,d⟩:=T.obj _ _ st5 b hb;exact(I7.pin (b,o) (Q2 _ (Q2 _ (fL hb e)))).2.1
  cases f with
  | next=>obtain⟨c7,H7,I7,n7⟩:=q7;exact again I7 n7
  | cont=>obtain⟨c7,H7,I7,n7⟩:=q7;exact again I7 n7
  | brk=>obtain⟨c7,H7,I7,q7⟩:=q7;exact⟨c7,H7,I7.unpinned,q7⟩
  | ret v=>obtain⟨x7,c7,H7,I7,r7,q7⟩:=q7;exact⟨x7,c7,H7,I7.unpinned,r7,q7⟩
end
abbrev R2:=V->V->Hp->VK->Prop
def OpR(X:Cx)(f:Ja->Ja->Sem Ja)(r:R2):Prop:=
 ∀(Mh:List (Jc×Obj))(s:Jb)(p:St)(H:Hp)(x y:V)(v u:Ja)(Q:VK),Inv X Mh p H s->cX x v->cX y u->r x y H Q->
  wpAny (model X.prog X.w) X.A (f v u) (EP X Mh p Q) X.xe s
def UnR(X:Cx)(f:Ja->Sem Ja)(r:V->Hp->VK->Prop):Prop:=
 ∀(Mh:List (Jc×Obj))(s:Jb)(p:St)(H:Hp)(x:V)(v:Ja)(Q:VK),Inv X Mh p H s->cX x v->r x H Q->
  wpAny (model X.prog X.w) X.A (f v) (EP X Mh p Q) X.xe s
def wC(X:Cx)(f:Ja)(r:List V->Hp->VK->Prop):Prop:=
 ∀(Mh:List (Jc×Obj))(s:Jb)(p:St)(H:Hp)(xs:List V)(us:List Ja)(Q:VK),Inv X Mh p H s->dF xs us->r xs H Q->
  wpAny (model X.prog X.w) X.A (call f us) (EP X Mh p Q) X.xe s
abbrev tOp(r:R2)(ta tb:TE):TE:=fun s H Q=>ta s H fun x H1=>tb s H1 fun y H2=>r x y H2 Q
abbrev tUn(r:V->Hp->VK->Prop)(ta:TE):TE:=fun s H Q=>ta s H fun x H1=>r x H1 Q
def rI(C:Int->Int->Prop)(g:Int->Int->V):R2:=fun x y H Q=>∃ i j,x=.int i/\y=.int j/\C i j/\Q (g i j) H
def rI0(g:Int->Int->V):R2:=fun x y H Q=>∃ i j,x=.int i/\y=.int j/\Q (g i j) H
def rU(g:Int->V):V->Hp->VK->Prop:=fun x H Q=>∃ i,x=.int i/\Q (g i) H
section
variable{X:Cx}{a b c:Expr}{ta tb tc:TE}{pos:Pos}
def zSF(ha:PE X a ta)(hb:PE X b tb){Mh:List (Jc×Obj)}{s:Jb}{p:St}{H:Hp}{R:V->V->Hp->Prop}(I:Inv X Mh p H s)
  (h:ta p H fun x H1=>tb p H1 fun y H2=>R x y H2) {Q:Ja->Jb->Prop} {f:Ja->Ja->Sem Ja}
  (hf:∀ v u s2 x y H2,Inv X Mh p H2 s2->cX x v->cX y u->R x y H2->wpAny (model X.prog X.w) X.A (f v u) Q X.xe s2):
  wpAny (model X.prog X.w) X.A (eval a X.env) (fun v s₁=>wpAny (model X.prog X.w) X.A (eval b X.env) (fun u s₂=>wpAny (model X.prog X.w) X.A (f v u) Q X.xe s₂) X.xe s₁) X.xe s:=by
 refine thn (ha Mh s p H _ I h) fun v s1 ⟨x,H1,I1,r1,q1⟩=>?_
 refine thn (hb Mh s1 p H1 _ I1 q1) fun u s2 ⟨y,H2,I2,r2,q2⟩=>?_
 exact hf v u s2 x y H2 I2 r1 r2 q2
def zJK{op:Operator}{r:R2}(ho:OpR X (binaryOp op) r)(ha:PE X a ta)(hb:PE X b tb):PE X (.BinOp a op b pos) (tOp r ta tb):=by
 intro Mh s p H Q I h;exact wpAny_BinOp (zSF ha hb I h fun v u s2 x y H2 I2 rx ry q=>ho Mh s2 p H2 x y v u Q I2 rx ry q)
def zSz{op:UnaryOp}{r:V->Hp->VK->Prop}(ho:UnR X (unaryOp op) r)(ha:PE X a ta):PE X (.UnaryOp op a pos) (tUn r ta):=by
 intro Mh s p H Q I h;exact UnaryOp_ (thn (ha Mh s p H _ I h) fun v s1 ⟨x,H1,I1,r1,q1⟩=>ho Mh s1 p H1 x v Q I1 r1 q1)
def opI{f:Ja->Ja->Sem Ja}{C:Int->Int->Prop}{g:Int->Int->Int}
  (rule:∀(i j:Int)(t u:Tok)(s:Jb)(Q:Ja->Jb->Prop)(E:Ja->Jb->Prop),C i j->Q (.int (g i j) s.toks) { s with toks:=s.toks+1 }->wpAny (model X.prog X.w) X.A (f (.int i t) (.int j u)) Q E s):
  OpR X f (rI C fun i j=>.int (g i j)):=by
 intro Mh s p H x y v u Q I rx ry h;obtain⟨i,j,rfl,rfl,hc,q⟩:=h;obtain⟨t,rfl⟩:=rx;obtain⟨t',rfl⟩:=ry;exact rule i j t t' s _ _ hc ⟨.int (g i j),H,I.tok _,⟨_,rfl⟩,q⟩
def zTy{f:Ja->Ja->Sem Ja}{g:Int->Int->Int}
  (rule:∀(i j:Int)(t u:Tok)(s:Jb)(Q:Ja->Jb->Prop)(E:Ja->Jb->Prop),Q (.int (g i j) s.toks) { s with toks:=s.toks+1 }->wpAny (model X.prog X.w) X.A (f (.int i t) (.int j u)) Q E s):
  OpR X f (rI0 fun i j=>.int (g i j)):=by
 intro Mh s p H x y v u Q I rx ry h;obtain⟨i,j,rfl,rfl,q⟩:=h;obtain⟨t,rfl⟩:=rx;obtain⟨t',rfl⟩:=ry;exact rule i j t t' s _ _ ⟨.int (g i j),H,I.tok _,⟨_,rfl⟩,q⟩
def zTc{f:Ja->Ja->Sem Ja}{g:Int->Int->Bool}
  (rule:∀(i j:Int)(t u:Tok)(s:Jb)(Q:Ja->Jb->Prop)(E:Ja->Jb->Prop),Q (.bool (g i j)) s->wpAny (model X.prog X.w) X.A (f (.int i t) (.int j u)) Q E s):
  OpR X f (rI0 fun i j=>.bl (g i j)):=by
 intro Mh s p H x y v u Q I rx ry h;obtain⟨i,j,rfl,rfl,q⟩:=h;obtain⟨t,rfl⟩:=rx;obtain⟨t',rfl⟩:=ry;exact rule i j t t' s _ _ ⟨.bl (g i j),H,I,rfl,q⟩
def zRR(i j:Int):Prop:=(-(2^64)<i/\i<2^64)∨(-(2^64)<j/\j<2^64)
def zRR.ok{i j:Int}(h:zRR i j):IntMulOk i j:=by
 rcases h with⟨h1,h2⟩ | ⟨h1,h2⟩
 ·exact .of_left (intBits_le_64 h1 h2)
 ·exact .of_right (intBits_le_64 h1 h2)
def zRJ:OpR X (binaryOp .Add) (rI0 fun i j=>.int (i+j)):=zTy fun _ _ _ _ _ _ _ q=>add_int q
def mZ:OpR X (binaryOp .Sub) (rI0 fun i j=>.int (i-j)):=zTy fun _ _ _ _ _ _ _ q=>sub_int q
def fJ:OpR X (binaryOp .Mod) (rI (fun _ j=>j≠0) fun i j=>.int (i.fmod j)):=opI fun _ _ _ _ _ _ _ hc q=>mod_int' hc q
def unI{f:Ja->Sem Ja}{g:Int->Int}
  (rule:∀(i:Int)(t:Tok)(s:Jb)(Q:Ja->Jb->Prop)(E:Ja->Jb->Prop),Q (.int (g i) s.toks) { s with toks:=s.toks+1 }->wpAny (model X.prog X.w) X.A (f (.int i t)) Q E s):
  UnR X f (rU fun i=>.int (g i)):=by
 intro Mh s p H x v Q I rx h;obtain⟨i,rfl,q⟩:=h;obtain⟨t,rfl⟩:=rx;exact rule i t s _ _ ⟨.int (g i),H,I.tok _,⟨_,rfl⟩,q⟩
def zRp:UnR X (unaryOp .USub) (rU fun i=>.int (-i)):=unI fun _ _ _ _ _ q=>neg_int q
end
section
variable{X:Cx}{a b c:Expr}{ta tb tc:TE}{pos:Pos}
def pS:OpR X (compareOp .Lt) (rI0 fun i j=>.bl (decide (i<j))):=zTc fun _ _ _ _ _ _ _ q=>lt_int q
def zLO:OpR X (compareOp .Gt) (rI0 fun i j=>.bl (decide (j<i))):=zTc fun _ _ _ _ _ _ _ q=>gt_int q
def OpR.or{f:Ja->Ja->Sem Ja}{r r':R2}(h:OpR X f r)(h':OpR X f r'):OpR X f (fun x y H Q=>r x y H Q∨r' x y H Q):=by
 intro Mh s p H x y v u Q I rx ry q;rcases q with q | q
 ·exact h Mh s p H x y v u Q I rx ry q
 ·exact h' Mh s p H x y v u Q I rx ry q
def bA(b:Expr){op:CmpOp}(h:op≠.In:=by decide)(h2:op≠.NotIn:=by decide):behindInMarks op b=false:=by
 have e1:(op==CmpOp.In)=false:=by cases op<;>first | rfl | exact absurd rfl h
 have e2:(op==CmpOp.NotIn)=false:=by cases op<;>first | rfl | exact absurd rfl h2
 cases b<;>simp[behindInMarks,e1,e2]
def zOq{op:CmpOp}{r:R2}(ho:OpR X (compareOp op) r)(ha:PE X a ta)(hb:PE X b tb)(hm:behindInMarks op b=false):PE X (.Compare a [op] [b] pos) (tOp r ta tb):=by
 intro Mh s p H Q I h;exact wpAny_Compare1 (zSF ha hb I h fun v u s2 x y H2 I2 rx ry q=>ho Mh s2 p H2 x y v u Q I2 rx ry q) hm
abbrev zPR(t:TE):TT:=fun p H Q=>t p H fun x H'=>∃ k,x=.bl k/\Q k H'
def zIC{op:CmpOp}{r:R2}(ho:OpR X (compareOp op) r)(ha:PE X a ta)(hb:PE X b tb)(hm:behindInMarks op b=false):PT X (.Compare a [op] [b] pos) (zPR (tOp r ta tb)):=by
 intro Mh s p H Q I h
 refine Jn (thn (ha Mh s p H _ I h) fun v s1 ⟨x,H1,I1,r1,q1⟩=>thn (hb Mh s1 p H1 _ I1 q1) fun u s2 ⟨y,H2,I2,r2,q2⟩=>
  thn (ho Mh s2 p H2 x y v u _ I2 r1 r2 q2) fun c s3 ⟨z,H3,I3,r3,k,e,q3⟩=>?_) hm
 subst e;cases r3;exact Jo ⟨H3,I3,q3⟩
def zGi:(sizeLine:Nat)<2^63:=by rw[Jw];decide
def zAb{x:V}{us:List Ja}(r:dF [x] us):∃ u,us=[u]/\cX x u:=by
 cases r with
 | cons r1 r2=>cases r2;exact⟨_,rfl,r1⟩
def uH:wC X (.builtin "abs") (fun xs H Q=>∃ i,xs=[.int i]/\Q (.int (if i<0 then -i else i)) H):=by
 intro Mh s p H xs us Q I r h;obtain⟨i,rfl,q⟩:=h;obtain⟨u,rfl,t,rfl⟩:=zAb r;exact call_abs_int fun u tk=>⟨.int (if i<0 then -i else i),H,I.tok _,⟨_,rfl⟩,q⟩
def zBR:wC X (.type "int") (fun xs H Q=>(∃ i,xs=[.int i]/\Q (.int i) H)∨∃ k,xs=[.bl k]/\Q (.int (if k then 1 else 0)) H):=by
 intro Mh s p H xs us Q I r h;rcases h with⟨i,rfl,q⟩ | ⟨k,rfl,q⟩
 ·obtain⟨u,rfl,t,rfl⟩:=zAb r
  exact call_int_int ⟨.int i,H,I,⟨_,rfl⟩,q⟩
 ·obtain⟨u,rfl,r1⟩:=zAb r
  cases r1;exact call_int_bool ⟨.int (if k then 1 else 0),H,I.tok _,⟨_,rfl⟩,q⟩
end
structure Room (k:Nat) (A:Jh):Prop where
 hd:A.handled=none
 dp:A.depth+3*k+5<recursionLimit
 un:A.units+16*k+200<cLine
def Room.mono{j k:Nat}{A:Jh}(r:Room k A)(h:j<=k):Room j A:=⟨r.hd,by have:=r.dp;omega,by have:=r.un;omega⟩
def Room.deeper{k:Nat}{A:Jh}(r:Room (k+1) A)(env:Env):Room k (A.deeper env):=
 ⟨r.hd,by have:=r.dp;show A.depth+1+3*k+5<_;omega,by have:=r.un;show A.units+3+16*k+200<_;omega⟩
def Room.depth{k:Nat}{A:Jh}(r:Room k A):A.depth<recursionLimit:=by have:=r.dp;omega
def Room.units{k:Nat}{A:Jh}(r:Room k A):A.units+64<cLine:=by have:=r.un;omega
abbrev zTO:TA:=fun _ H Q=>Q [] H
abbrev zSl(ta:TE)(tr:TA):TA:=fun r H Q=>ta r H fun x H1=>tr r H1 fun xs H2=>Q (x::xs) H2
section
variable{X:Cx}{e:Expr}{es:List Expr}{te:TE}{t:TA}{pos:Pos}
def sS:PA X [] zTO:=fun _ _ _ _ H Q I h=>Calls.spliced_nil ⟨[],H,I,.nil,h⟩
def lY(ha:PE X e te)(hr:PA X es t)(hs:starEach (e::es) X.env=(false,eval e X.env)::starEach es X.env:=by rfl):PA X (e::es) (zSl te t):=by
 intro pos Mh s a H Q I h;rw[hs];show wpAny _ _ (spliced ((false,eval e X.env)::backTo pos (starEach es X.env))) _ _ s
 refine Calls.spliced_cons (thn (ha Mh s a H _ I h) fun u s1 ⟨x,H1,I1,r1,q1⟩=>?_)
 exact thn (hr pos Mh s1 a H1 _ I1 q1) fun us s2 ⟨xs,H2,I2,r2,q2⟩=>⟨x::xs,H2,I2,.cons r1 r2,q2⟩
abbrev zTJ(t:TA):TE:=fun a H Q=>t a H fun xs H1=>xs.length<=sizeLine/\∀ p,H1 p=none->Q (.ref p) (upd H1 p (.tup xs))
abbrev zUf(t:TA):TE:=fun a H Q=>t a H fun xs H1=>xs.length<=sizeLine/\∀ p,H1 p=none->Q (.ref p) (upd H1 p (.lst xs))
def zQj{x1}(h:PA X es t):PE X (.Tuple es x1 pos) (zTJ t):=by
 intro Mh s a H Q I hq;refine wpAny_Tuple_spliced (thn (h pos Mh s a H _ I hq) fun us s1 ⟨xs,H1,I1,r,z,q⟩=>⟨by rw[<-r.length];exact z,?_⟩)
 have hf:H1 s1.heap.objs.size=none:=I1.hok.fresh (Qf _);refine⟨.ref s1.heap.objs.size,upd H1 s1.heap.objs.size (.tup xs),I1.laid (t':=s1.toks) (fun b u e=>Heap.get?_push_of_some _ e) (Qf _) ?_,rfl,q _ hf⟩
 exact⟨z,us,r,⟨_,Heap.get?_push_size _ rfl,rfl,_,rfl⟩⟩
def zQm(h:PA X es t):PE X (.List es pos) (zUf t):=by
 intro Mh s a H Q I hq;refine wpAny_List_spliced (thn (h pos Mh s a H _ I hq) fun us s1 ⟨xs,H1,I1,r,z,q⟩=>⟨by rw[<-r.length];exact z,?_⟩)
 have hf:H1 s1.heap.objs.size=none:=I1.hok.fresh (Qf _);refine⟨.ref s1.heap.objs.size,upd H1 s1.heap.objs.size (.lst xs),I1.laid (t':=s1.toks) (fun b u e=>Heap.get?_push_of_some _ e) (Qf _) ?_,rfl,q _ hf⟩
 exact⟨z,us,0,r,Heap.get?_push_size _ rfl⟩
end
abbrev Sp:=List V->Hp->VK->XK->Prop
abbrev CXT:=List Env->Hp->Jb->XK->Ja->Jb->Prop
structure Env0 (P:Jf) (w:Jg) (K:PySem.W.Frag) (mg:Str->Option Ja) (base:Je) (A:Jh) (outer:List Env) (s:Jb) (H:Hp):Prop where
 frames:A.frames=some outer
 mod:Mod K mg base
 bs:∀ b o,base.get? b=some o->s.heap.get? b=some o/\H b=none
 bsz:base.objs.size<=s.heap.objs.size
 funs:s.heap.FunFrames base outer
 frf:∀ b∈frs outer,H b=none
 hok:HOk P w H s.heap
 bare:AllBare s.gens
def CE(outer:List Env)(P:Jf)(w:Jg)(H:Hp)(s:Jb)(Q:VK)(u:Ja)(s':Jb):Prop:=
 ∃ v H',s'.os=s.os/\AllBare s'.gens/\Un (frs outer) [] H H' s.heap s'.heap/\HOk P w H' s'.heap/\cX v u/\Q v H'
def CR(CX:CXT)(outer:List Env)(P:Jf)(w:Jg)(H:Hp)(s:Jb)(Q:VK)(E:XK)(r:Result)(s':Jb):Prop:=
 match r with
 | .ok (.ret u)=>CE outer P w H s Q u s'
 | .ok _=>False
 | .error e=>CX outer H s E e s'
structure FnOk (P:Jf) (w:Jg) (K:PySem.W.Frag) (mg:Str->Option Ja) (base:Je) (CX:CXT) (k:Nat) (f:Jc) (fd:FuncData) (ps:List Str) (sp:Sp):Prop where
 len:∀ vs H Q E,sp vs H Q E->vs.length=ps.length
 run:∀(A:Jh)(outer:List Env)(s:Jb)(H:Hp)(args:Args)(us:List Ja)(vs:List V)(Q:VK)(E:XK),Room k A->Env0 P w K mg base A outer s H->BindsTo s fd args (ps.zip us)->dF vs us->sp vs H Q E->
  codeAny (model P w) A (.call (.ref f) args) (CR CX outer P w H s Q E) s
def FnOk.mono{P:Jf}{w:Jg}{K:Fg_}{mg:Str->Option Ja}{base:Je}{CX:CXT}{j k:Nat}{f:Jc}{fd:FuncData}{ps:List Str}{sp:Sp}(F:FnOk P w K mg base CX j f fd ps sp)(h:j<=k):
  FnOk P w K mg base CX k f fd ps sp:=⟨F.len,fun A outer s H args us vs Q E hr=>F.run A outer s H args us vs Q E (hr.mono h)⟩
def FnOk.imp{P:Jf}{w:Jg}{K:Fg_}{mg:Str->Option Ja}{base:Je}{CX:CXT}{k:Nat}{f:Jc}{fd:FuncData}{ps:List Str}{sp sp':Sp}(F:FnOk P w K mg base CX k f fd ps sp)
  (h:∀ vs H Q E,sp' vs H Q E->sp vs H Q E):FnOk P w K mg base CX k f fd ps sp':=
 ⟨fun vs H Q E q=>F.len vs H Q E (h _ _ _ _ q),fun A outer s H args us vs Q E hr he hb hv hs=>F.run A outer s H args us vs Q E hr he hb hv (h _ _ _ _ hs)⟩
def Env0.in1{P:Jf}{w:Jg}{K:Fg_}{mg:Str->Option Ja}{base:Je}{A:Jh}{outer:List Env}{s:Jb}{H:Hp}(e:Env0 P w K mg base A outer s H):
  Env0 P w K mg base A.in1 outer s H:=⟨e.frames,e.mod,e.bs,e.bsz,e.funs,e.frf,e.hok,e.bare⟩
section
variable{X:Cx}{Mh:List (Jc×Obj)}{p:St}{H:Hp}{s s':Jb}
def Inv.env0(I:Inv X Mh p H s):Env0 X.prog X.w X.K X.mg X.base X.A X.stack s H:=
 ⟨I.ok.frames,I.ok.mod,I.bs,Q4 I.ok.bsz I.sz,I.stack,I.stkFree,I.hok,I.bare⟩
def Inv.after{Q:VK}{u:Ja}(I:Inv X Mh p H s)(h:CE X.stack X.prog X.w H s Q u s'):EP X Mh p Q u s':=by
 obtain⟨v,H',os,bare,un,hok,r,q⟩:=h;obtain⟨hh,g,d,t,os'⟩:=s';obtain rfl:os'=s.os:=os;exact⟨v,H',I.call (h':=hh) (g':=g) (d':=d) (t':=t) (ch:=[]) un hok bare (fun b z=>absurd z (by simp)),r,q⟩
end
abbrev zPs(sp:Sp)(dvs:List V)(E:XK)(t:TA):TE:=fun r H Q=>t r H fun vs H1=>sp (vs++dvs) H1 Q E
def zDu(K:PySem.W.Frag)(fd:FuncData)(ps:List Str)(ds:List Ja):Prop:=
 ∀(s:Jb)(us:List Ja),K.In s.heap->(us++ds).length=ps.length->BindsTo s fd ⟨us,[]⟩ (ps.zip (us++ds))
def zDu.all{K:Fg_}{fd:FuncData}{ps:List Str}(h:∀ us:List Ja,us.length=ps.length->bindArgs fd ⟨us,[]⟩=pure (ps.zip us)):zDu K fd ps []:=fun s us _ hl=>by
 rw[Vm] at hl ⊢
 exact .of_eq (h us hl)
def zFN(CX:CXT)(X:Cx)(E:XK):Prop:=∀(Mh:List (Jc×Obj))(r:St)(H:Hp)(s:Jb)(e:Ja)(s':Jb),Inv X Mh r H s->CX X.stack H s E e s'->X.xe e s'
section
variable{X:Cx}{CX:CXT}{k:Nat}{f C:Jc}{fd:FuncData}{ps:List Str}{sp:Sp}{dvs:List V}{ds:List Ja}{E:XK}{x m:Str}{p pos apos:Pos}{e o:Expr}{es:List Expr}{ta:TE}{t:TA}
def zRE{Mh:List (Jc×Obj)}{a:St}{H:Hp}{s:Jb}{Q:VK}{us:List Ja}{vs:List V}(F:FnOk X.prog X.w X.K X.mg X.base CX k f fd ps sp)(hr:Room k X.A)(hb:zDu X.K fd ps ds)(hd:dF dvs ds)(hx:zFN CX X E)
  (I:Inv X Mh a H s) (r:dF vs us) (h:sp (vs++dvs) H Q E):wpAny (model X.prog X.w) X.A (call (.ref f) us) (EP X Mh a Q) X.xe s:=by
 have r2:dF (vs++dvs) (us++ds):=r.append hd;have hl:(us++ds).length=ps.length:=by rw[<-r2.length];exact F.len _ _ _ _ h
 refine wpAny_call (codeAny_mono (F.run X.A X.stack s H ⟨us,[]⟩ (us++ds) (vs++dvs) Q E hr I.env0 (hb s us I.kIn hl) r2 h) fun r s' hq=>?_)
 cases r with
 | error e=>exact hx Mh a H s e s' I hq
 | ok fl=>
  cases fl with
  | ret u=>exact I.after hq
  | next=>exact False.elim hq
  | brk=>exact False.elim hq
  | cont=>exact False.elim hq
def zED(F:FnOk X.prog X.w X.K X.mg X.base CX k f fd ps sp)(hr:Room k X.A)(hg:Gl X x)(hm:X.mg x=some (.ref f))(hk:PySem.W.keepIn X.K (.ref f)=true)(hb:zDu X.K fd ps ds)(hd:dF dvs ds)(hx:zFN CX X E)
  (ha:PA X (e::es) t) (hdb:(x==("__debug__" : Str))=false:=by decide) (he:starEach (e::es) X.env=(false,eval e X.env)::starEach es X.env:=by rfl) (hpl:(backTo pos (starEach es X.env)).any (·.1)=false:=by rfl):
  PE X (.Call (.Name x p) (e::es) [] pos) (zPs sp dvs E t):=by
 intro Mh s a H Q I h;refine Jx (zEg I hg hm ?_ hdb)
 refine PySem.W.callWith_K (h₀:=X.base) I.ok.mod.kin hk (thn (ha pos Mh s a H _ I h) fun us s1 ⟨vs,H1,I1,r,q⟩=>⟨I1.kIn,?_⟩) he hpl
 exact zRE F hr hb hd hx I1 r q
end
structure FnScope (N P:List Str) (sc:Scope):Prop where
 kind:sc.kind=.function
 co:sc.isCoroutine=false
 gen:sc.isGenerator=false
 nd:N.Nodup
 pre:N.take P.length=P
 par:∀ x∈P,sc.names.lookup x=some .local∨sc.names.lookup x=some .cell
 nofree:∀ y∈sc.names,y.2≠.free
def zCP{kindOf:Str->Option NameKind}{x:Str}:∀ {binds:List (Str×Ja)} {m:Str->Option Ja},(∀ v,(x,v)∉binds)->bindL kindOf binds m x=m x
 | [],_,_=>rfl
 | (n,v)::r,m,h=>by
  unfold bindL;rw[zCP fun w hw=>h w (Qc _ hw)];split
  ·have:x≠n:=by rintro rfl;exact h v Qb
   simp[this]
  ·rfl
def zDa{kindOf:Str->Option NameKind}{x:Str}:∀ {binds:List (Str×Ja)} {m:Str->Option Ja},(∀ v,(x,v)∉binds)->bindC kindOf binds m x=m x
 | [],_,_=>rfl
 | (n,v)::r,m,h=>by
  unfold bindC;rw[zDa fun w hw=>h w (Qc _ hw)];split
  ·rfl
  ·have:x≠n:=by rintro rfl;exact h v Qb
   simp[this]
def zCC{kindOf:Str->Option NameKind}{x:Str}{v:Ja}:∀ {P:List Str} {vs:List Ja} {i:Nat} {m:Str->Option Ja},P.Nodup->P[i]?=some x->vs[i]?=some v->kindOf x=some .local->
  bindL kindOf (P.zip vs) m x=some v
 | [],_,_,_,_,h,_,_=>by simp at h
 | _::_,[],_,_,_,_,h,_=>by simp at h
 | p::P,w::vs,0,m,nd,h1,h2,hk=>by
  simp at h1 h2;subst h1;subst h2
  show bindL kindOf ((p,w)::P.zip vs) m p=_
  unfold bindL;rw[zCP fun v hv=>(Yc.mp nd).1 (Yq hv).1,Jk hk];simp
 | p::P,w::vs,i+1,m,nd,h1,h2,hk=>by
  show bindL kindOf ((p,w)::P.zip vs) m x=_
  unfold bindL;exact zCC (i:=i) (Yc.mp nd).2 (by simpa using h1) (by simpa using h2) hk
def zCo{kindOf:Str->Option NameKind}{x:Str}{v:Ja}:∀ {P:List Str} {vs:List Ja} {i:Nat} {m:Str->Option Ja},P.Nodup->P[i]?=some x->vs[i]?=some v->kindOf x≠some .local->
  bindC kindOf (P.zip vs) m x=some v
 | [],_,_,_,_,h,_,_=>by simp at h
 | _::_,[],_,_,_,_,h,_=>by simp at h
 | p::P,w::vs,0,m,nd,h1,h2,hk=>by
  simp at h1 h2;subst h1;subst h2
  show bindC kindOf ((p,w)::P.zip vs) m p=_
  unfold bindC;rw[zDa fun v hv=>(Yc.mp nd).1 (Yq hv).1,Jl hk];simp
 | p::P,w::vs,i+1,m,nd,h1,h2,hk=>by
  show bindC kindOf ((p,w)::P.zip vs) m x=_
  unfold bindC;exact zCo (i:=i) (Yc.mp nd).2 (by simpa using h1) (by simpa using h2) hk
def start(N:List Str)(vs:List V):St:=vs.map some++List.replicate (N.length-vs.length) none
def zHj(CX:CXT)(P:Jf)(w:Jg)(K:PySem.W.Frag)(mg:Str->Option Ja)(base:Je)(N:List Str)(qual:Str)(scope:Scope)(f:Jc)(cd:Ja)(A:Jh)(outer:List Env)(s:Jb)(H:Hp)(E:XK):Cx where
 prog:=P
 w:=w
 K:=K
 mg:=mg
 base:=base
 A:=A.deeper (envOfC qual scope s.heap.objs.size f cd)
 N:=N
 s₀:=s
 H₀:=H
 env:=envOfC qual scope s.heap.objs.size f cd
 outer:=outer
 stack:=envOfC qual scope s.heap.objs.size f cd::outer
 ex:=[]
 calm:=true
 fn:=fun _=>true
 pn:=[]
 xe:=fun e s'=>wpAny (model P w) (A.deeper (envOfC qual scope s.heap.objs.size f cd)) (leaving (envOfC qual scope s.heap.objs.size f cd) e) (fun _ s''=>CX outer H s E e s'') (fun e' s''=>CX outer H s E e' s'') s'
def zFC{sc:Scope}{n:Nat}{x:Str}(h:sc.names.lookup x=some .cell):∃ c,(cellsFrom n sc.names []).lookup x=some c:=by
 have q:=Qac sc.names n [] (.inl h);exact Option.isSome_iff_exists.mp q
def zJA{CX:CXT}{P:Jf}{w:Jg}{K:Fg_}{mg:Str->Option Ja}{base:Je}{N ps:List Str}{qual:Str}{scope:Scope}{f:Jc}{cd:Ja}{A:Jh}{outer:List Env}{s s1:Jb}{H:Hp}{E:XK}{us:List Ja}{vs:List V}
  (S:FnScope N ps scope) (hd:A.handled=none) (e0:Env0 P w K mg base A outer s H) (hl:vs.length=ps.length) (r:dF vs us)
  (x:InCallC s s.heap.objs.size (bindL (envOfC qual scope s.heap.objs.size f cd).kindOf (ps.zip us) fun _=>none) (cellsFrom (s.heap.objs.size+1) scope.names []) (bindC (envOfC qual scope s.heap.objs.size f cd).kindOf (ps.zip us) fun _=>none) s1):
  Inv (zHj CX P w K mg base N qual scope f cd A outer s H E) [] (start N vs) H s1:=by
 have hpl:ps.length<=N.length:=by have:=congrArg List.length S.pre;rw[Xo] at this;omega
 obtain⟨h1,tk,rfl,hk⟩:=x.done;have noA:∀ b:Jc,b∉(zHj CX P w K mg base N qual scope f cd A outer s H E).ex:=fun b z=>absurd (show b∈([]:List Jc) from z) (by simp)
 refine⟨⟨e0.mod,S.kind,rfl,rfl,Qf _,fun y z c h1 h2=>?_,fun y hy=>?_,fun y c _ h=>?_,fun _=>hd,Around.frames_deeper e0.frames,.inr ⟨rfl,rfl⟩,fun b z=>absurd z (noA b),e0.bs,e0.bsz,fun b _ _=>noA b,fun b z=>absurd z (noA b),e0.funs,e0.frf⟩,
  rfl,e0.bare,Un.kept hk,⟨_,x.toInCall.ns,fun i y v h1 h2 h3=>?_⟩,fun y c h=>⟨_,x.cell y c h⟩,e0.hok.fresh (Qf _),fun y c h=>?_,fun p hp=>absurd (show p∈([]:List (Jc×Obj)) from hp) (by simp),e0.hok.kept hk,?_⟩
 ·exact name_of_addr x.apart (Xz h1) (Xz h2)
 ·have hy:scope.names.lookup y=some .cell∨scope.names.lookup y=some .free:=hy
  rcases hy with hy | hy
  ·exact zFC hy
  ·exact absurd rfl (S.nofree _ (Xz hy))
 ·exact Xn (x.above y c (Xz h))
 ·have hi:i<vs.length:=by
   unfold start at h2;by_cases hi:i<vs.length
   ·exact hi
   ·rw[Vp (by simpa using hi)] at h2
    rw[Uk] at h2;split at h2<;>cases h2
  have ha:vs[i]?=some v:=by
   unfold start at h2;rw[Vg (by simpa using hi),Qt] at h2
   cases e:vs[i]? with
   | none=>rw[e] at h2;cases h2
   | some a=>rw[e] at h2;cases h2;rfl
  obtain⟨u,hu,rv⟩:=r.get ha
  have hp:ps[i]?=some y:=by
   rw[<-S.pre,List.getElem?_take_of_lt (by omega)];exact h1
  have ndP:ps.Nodup:=by rw[<-S.pre];exact S.nd.sublist (List.take_sublist _ _)
  refine⟨u,rv,?_⟩
  rcases S.par y (Qi hp) with k | k
  ·exact .inl ⟨k,zCC ndP hp hu k⟩
  ·obtain⟨c,e⟩:=zFC (n:=s.heap.objs.size+1) k
   refine .inr ⟨.inl k,c,e,?_⟩
   have q:=x.cell y c e;rw[zCo ndP hp hu (by show scope.names.lookup y≠_;rw[k];decide)] at q;exact q
 ·exact e0.hok.fresh (Xn (x.above y c (Xz h)))
 ·unfold start
  show _=N.length
  rw[Qo,Qe,Yd];omega
def zPP{CX:CXT}{P:Jf}{w:Jg}{K:Fg_}{mg:Str->Option Ja}{base:Je}{k:Nat}{f:Jc}{name qual:Str}{params:Arguments}{body:List Ji}{scope:Scope}{dV kV doc pm cdv ct oc:Ja}{an od:Option Jc}
  {osl:Array (Option Ja)} {N ps:List Str} {sp:Sp} (lk:K.lookup f=some ⟨oc,od,.func (PySem.W.fnOf name qual params body scope dV kV doc pm an cdv ct),osl⟩) (hcd:PySem.W.codeIn K cdv qual=true) (S:FnScope N ps scope)
  (len:∀ vs H Q E,sp vs H Q E->vs.length=ps.length)
  (hbody:∀(A:Jh)(outer:List Env)(s:Jb)(H:Hp)(vs:List V)(Q:VK)(E:XK),Room k (A.deeper (envOfC qual scope s.heap.objs.size f cdv))->sp vs H Q E->
   ∃ t,PSs (zHj CX P w K mg base N qual scope f cdv A outer s H E) body t/\t { nx:=fun _ H'=>Q .non H',rt:=Q } (start N vs) H):
  FnOk P w K mg base CX (k+1) f (PySem.W.fnOf name qual params body scope dV kV doc pm an cdv ct) ps sp:=by
 refine⟨len,fun A outer s H args us vs Q E hr e0 hb r hsp=>?_⟩
 have hl:=len _ _ _ _ hsp;have KX:K.In s.heap:=e0.mod.kin.keeps fun b o e=>(e0.bs b o e).1
 have lim:s.heap.NoLimit:=e0.mod.nolimit.keeps fun b o e=>(e0.bs b o e).1
 have hkind:∀ y∈ps.zip us,scope.names.lookup y.1=some .local∨(scope.names.lookup y.1=some .cell/\((cellsFrom (s.heap.objs.size+1) scope.names []).lookup y.1).isSome=true):=fun ⟨n,v⟩ hy=>by
  rcases S.par n (Yq hy).1 with q | q
  ·exact .inl q
  ·exact .inr ⟨q,Qac _ _ _ (.inl q)⟩
 refine codeAny_call_function hr.depth (KX _ _ lk) rfl S.co S.gen rfl (PySem.W.codeRec_of KX hcd) (hb _ _ _ _ ?_)
 refine wpAny_newFunctionEnv_cells S.kind hkind fun env he s1 x=>?_
 subst he;refine⟨lim.keeps x.toInCall.keep,codeAny_func ?_⟩
 obtain⟨t,ht,hq⟩:=hbody A outer s H vs Q E (hr.deeper _) hsp;have I:Inv (zHj CX P w K mg base N qual scope f cdv A outer s H E) [] (start N vs) H s1:=zJA S hr.hd e0 hl r x;refine wpAny_mono (ht [] s1 (start N vs) H _ I hq) (fun fl s' hs=>?_) fun e s' hs=>hs
 have fin:∀ {r':St} {H':Hp} {v:V} {u:Ja},Inv (zHj CX P w K mg base N qual scope f cdv A outer s H E) [] r' H' s'->cX v u->Q v H'->CE outer P w H s Q u s':=
  fun {r' H' v u} J rv q=>⟨v,H',J.os,J.bare,J.base,J.hok,rv,q⟩
 cases fl with
 | ret u=>
  obtain⟨v,r',H',J,rv,q⟩:=hs;exact fin J rv q
 | next=>
  obtain⟨r',H',J,q⟩:=hs;exact fin (v:=V.non) (u:=Value.none) J rfl q
 | brk=>
  obtain⟨_,_,_,q⟩:=hs;exact False.elim q
 | cont=>
  obtain⟨_,_,_,q⟩:=hs;exact False.elim q
section
variable{X:Cx}{x:Str}{p pos:Pos}{e:Expr}{es:List Expr}{t:TA}{id T:String}{r:List V->Hp->VK->Prop}
abbrev tCB(r:List V->Hp->VK->Prop)(t:TA):TE:=fun a H Q=>t a H fun vs H1=>r vs H1 Q
def zFM(hc:wC X (.builtin id) r)(hg:Gl X x)(hm:X.mg x=none)(hv:bootBuiltins x=some (.builtin id))(ha:PA X (e::es) t)(hn:x ≠ "__name__" := by decide)(hdb:(x==("__debug__" : Str))=false:=by decide)
  (he:starEach (e::es) X.env=(false,eval e X.env)::starEach es X.env:=by rfl) (hpl:(backTo pos (starEach es X.env)).any (·.1)=false:=by rfl):PE X (.Call (.Name x p) (e::es) [] pos) (tCB r t):=by
 intro Mh s a H Q I h;refine Jx (qJ I hg hm hv ?_ hn hdb)
 exact PyProof.Rows.callWith_builtin1 (thn (ha pos Mh s a H _ I h) fun us s1 ⟨vs,H1,I1,r1,q1⟩=>hc Mh s1 a H1 vs us Q I1 r1 q1) he hpl
def zCM(hc:wC X (.type T) r)(hg:Gl X x)(hm:X.mg x=none)(hv:bootBuiltins x=some (.type T))(ha:PA X (e::es) t)(hn:x ≠ "__name__" := by decide)(hdb:(x==("__debug__" : Str))=false:=by decide)
  (he:starEach (e::es) X.env=(false,eval e X.env)::starEach es X.env:=by rfl) (hpl:(backTo pos (starEach es X.env)).any (·.1)=false:=by rfl):PE X (.Call (.Name x p) (e::es) [] pos) (tCB r t):=by
 intro Mh s a H Q I h;refine Jx (qJ I hg hm hv ?_ hn hdb)
 exact X9 (thn (ha pos Mh s a H _ I h) fun us s1 ⟨vs,H1,I1,r1,q1⟩=>hc Mh s1 a H1 vs us Q I1 r1 q1) he hpl
end
end L2
namespace HT
open PySem PyProof.Rows
section
open PySem.SeqAt
open PySem.AutoSeq1 (wpAny_loadPart')
open PySem.MeetsSeq PySem.MeetsSeq2 PySem.MeetsSeq3
end
section
variable{prog:Jf}{w:Jg}{A:Jh}{E:Ja->Jb->Prop}{s:Jb}
def cat_tup{t b:Jc}{vs ws:List Ja}{Q:Ja->Jb->Prop}(ht:IsTup s.heap t vs.toArray)(hb:IsTup s.heap b ws.toArray)(hv:vs≠[])
  (h1:ws=[]->Q (.ref t) s) (h2:ws≠[]->Q (.ref s.heap.objs.size) { s with heap:=s.heap.push { cls:=.type "tuple", data:=.seq (vs++ws).toArray } })
  (hsz:vs.length+ws.length<=sizeLine):wpAny (model prog w) A (binaryOp .Add (.ref t) (.ref b)) Q E s:=by
 obtain⟨⟨cls,dd,data,sl⟩,ho,hc,n,hd⟩:=id ht;obtain⟨⟨cls2,dd2,data2,sl2⟩,ho2,hc2,n2,hd2⟩:=id hb;simp only at hc hd hc2 hd2
 subst hc hd hc2 hd2;have e:vs.toArray++ws.toArray=(vs++ws).toArray:=by simp
 by_cases hw:ws=[]
 ·exact Jy ⟨_,ho,rfl⟩ ⟨_,ho2,rfl⟩ Jz J0 U9 Wa (Wb _ _)
   (tuple_addW1 t b vs.toArray ws.toArray n n2 dd dd2 sl sl2 (by simpa using hv) (by simp[hw])) ⟨ho,ho2,h1 hw⟩
 ·refine Jy ⟨_,ho,rfl⟩ ⟨_,ho2,rfl⟩ Jz J0 U9 Wa (Wb _ _)
   (tuple_addW2 t b vs.toArray ws.toArray n n2 dd dd2 sl sl2 (by simpa using hv) (by simpa using hw) (by rw[Qj,Qj];exact hsz)) ⟨ho,ho2,?_⟩
  rw[e];exact h2 hw
def sIx(n d:Nat):Option Int->Nat
 | none=>d
 | some v=>if v<0 then (v+(n:Int)).toNat else min v.toNat n
def zPY(n d:Nat)(hd:d<=n)(o:Option Int):sIx n d o<=n:=by
 cases o with
 | none=>exact hd
 | some v=>
  show(if v<0 then (v+(n:Int)).toNat else min v.toNat n)<=n
  by_cases hv:v<0
  ·rw[Jk hv];omega
  ·rw[Jl hv];exact Nat.min_le_right _ _
def zJg(v:Int)(n d:Nat):(if v<0 then max (v+(n:Int)) 0 else min v (n:Int))=((sIx n d (some v):Nat):Int):=by
 show(if v<0 then max (v+(n:Int)) 0 else min v (n:Int))=(((if v<0 then (v+(n:Int)).toNat else min v.toNat n):Nat):Int)
 by_cases hv:v<0
 ·simp only[Jk hv];omega
 ·simp only[Jl hv];omega
def zGt(lo hi:Option Int)(n:Nat):Builtin.Slice.sliceAdjust lo hi 1 (n:Int)=(((sIx n 0 lo:Nat):Int),((sIx n n hi:Nat):Int)):=by
 have h1:¬ ((1:Int)<0):=by omega
 unfold Builtin.Slice.sliceAdjust;simp only[h1,if_false];refine Prod.ext ?_ ?_
 ·cases lo with
  | none=>rfl
  | some v=>exact zJg v n 0
 ·cases hi with
  | none=>rfl
  | some v=>exact zJg v n n
def zGI(i j:Nat):Builtin.Slice.slicePlaces (i:Int) (j:Int) 1=j-i:=by
 unfold Builtin.Slice.slicePlaces;have h1:(1:Int) > 0:=by omega
 simp only[h1,if_true,Int.ediv_one];split<;>omega
def zE{v:Ja}{o:Option Int}{Q:Option Int->Jb->Prop}(p:IsPart v o)(h:Q o s):wpAny (model prog w) A (Builtin.Slice.slicePartIndex v) Q E s:=by
 cases p with
 | none=>exact slicePart_none h
 | int i t=>exact slicePart_int h
def sliceApplied_gen{sl:Jc}{vl vu:Ja}{lo hi:Option Int}{n:Nat}{Q:Int×Int×Nat->Jb->Prop}(hs:s.heap.IsSliceOf sl vl vu .none)(pl:IsPart vl lo)(pu:IsPart vu hi)
  (h:Q (((sIx n 0 lo:Nat):Int),1,sIx n n hi-sIx n 0 lo) s):wpAny (model prog w) A (Builtin.Slice.sliceApplied (.ref sl) (pure (n:Int))) Q E s:=by
 obtain⟨os,hos,hcs,hds⟩:=id hs;unfold Builtin.Slice.sliceApplied Builtin.Slice.sliceFields;refine Jr (Jr (wpAny_field hos hds (x:=vl) rfl (Jr (wpAny_field hos hds (x:=vu) rfl (Jr (wpAny_field hos hds (x:=.none) rfl (Ju ?_)))))))
 refine Jr (slicePart_none ?_)
 show wpAny _ _ (if ((1:Int)==0)=true then _ else _) _ _ s
 rw[Jl (by decide)];refine Jr (zE pl (Jr (zE pu (Jr (Ju ?_)))))
 show wpAny _ _ (match Builtin.Slice.sliceAdjust lo hi 1 (n:Int) with | (lo,hi)=>pure (lo,(1:Int),Builtin.Slice.slicePlaces lo hi 1)) _ _ s
 rw[zGt lo hi n];show wpAny _ _ (pure (((sIx n 0 lo:Nat):Int),(1:Int),Builtin.Slice.slicePlaces ((sIx n 0 lo:Nat):Int) ((sIx n n hi:Nat):Int) 1)) _ _ s
 rw[zGI];exact Ju h
def zLU(xs:Array Ja)(i k:Nat):((List.range k).filterMap fun(m:Nat)=>xs[((i:Int)+(m:Int)*1).toNat]?).toArray=((xs.toList.drop i).take k).toArray:=by
 have e:(fun(m:Nat)=>xs[((i:Int)+(m:Int)*1).toNat]?)=fun m=>xs[i+m]?:=by
  funext m
  have:((i:Int)+(m:Int)*1).toNat=i+m:=by omega
  rw[this]
 rw[e];have:=pick_run xs i k
 rw[List.filterMap_map] at this;have e2:((fun x=>xs[x]?) ∘ fun x=>i+x)=fun m=>xs[i+m]?:=rfl
 rw[e2] at this;rw[this]
def getItem_tuple_cut{t sl:Jc}{items:Array Ja}{vl vu:Ja}{lo hi:Option Int}{Q:Ja->Jb->Prop}(ht:IsTup s.heap t items)(hs:s.heap.IsSliceOf sl vl vu .none)(pl:IsPart vl lo)(pu:IsPart vu hi)
  (hw:¬ (sIx items.size 0 lo=0/\sIx items.size items.size hi=items.size))
  (h:Q (.ref s.heap.objs.size) { s with heap:=s.heap.push { cls:=.type "tuple", data:=.seq ((items.toList.drop (sIx items.size 0 lo)).take (sIx items.size items.size hi-sIx items.size 0 lo)).toArray } })
  (hsz:items.size<=sizeLine):wpAny (model prog w) A (getItem (.ref t) (.ref sl)) Q E s:=by
 have htake:sizeOk (.seq ((items.toList.drop (sIx items.size 0 lo)).take (sIx items.size items.size hi-sIx items.size 0 lo)).toArray):=by
  show((items.toList.drop (sIx items.size 0 lo)).take (sIx items.size items.size hi-sIx items.size 0 lo)).toArray.size<=sizeLine
  rw[Qj,Xo,Q9,Xy];omega
 have hj:sIx items.size items.size hi<=items.size:=zPY _ _ (Qf _) hi;obtain⟨os,hos,hcs,hds⟩:=id hs;have hTs:s.TypeIs (.ref sl) "slice" := ⟨os,hos,hcs⟩;unfold getItem;try with_reducible refine wpAny_holding ?_
 first | refine Jr (Ju ?_) | skip
 refine Jr (wpAny_sequenceKey ht.typeIs (by decide) ?_)
 refine Jr (wpAny_callSpecial?_slot (name:=Str.ofString "__getitem__") ht.typeIs Ul
  (wpAny_call_entry Ul ht.typeIs J1 ?_ (args_tuple_getitem _ _)))
 show wpAny _ _ (Builtin.Tuple.tupleItemsOf (.ref t) >>= _) _ _ s
 refine Jr (tupleItemsOf_ ht ?_)
 refine Jr (wpAny_typeOf hTs ?_)
 rw[Jk (by decide)];refine Jr (sliceApplied_gen hs pl pu ?_)
 have hno:¬ ((((sIx items.size 0 lo:Nat):Int)==0 && (1:Int)==1 && (sIx items.size items.size hi-sIx items.size 0 lo)==items.size)=true):=by
  intro q;rw[Vh,Vh] at q;have q1:((sIx items.size 0 lo:Nat):Int)=0:=eq_of_beq q.1.1;have q2:sIx items.size items.size hi-sIx items.size 0 lo=items.size:=eq_of_beq q.2;exact hw ⟨by omega,by omega⟩
 show wpAny _ _ (if (((sIx items.size 0 lo:Nat):Int)==0 && (1:Int)==1 && (sIx items.size items.size hi-sIx items.size 0 lo)==items.size)=true then _ else _) _ _ s
 rw[Jl hno,zLU]
 first
  | exact Jr (m:=Builtin.Tuple.tupleExact _) (wpAny_newObj_type (Ju ⟨_,rfl,Ju h⟩) htake)
  | exact Jr (m:=Builtin.Tuple.tupleExact _) (wpAny_newObj_type (Jr (Ju (Ju ⟨_,rfl,Ju h⟩))) htake)
  | exact Jr (Jr (m:=Builtin.Tuple.tupleExact _) (wpAny_newObj_type (Ju (Ju ⟨_,rfl,Ju h⟩)) htake))
  | exact Jr (Jr (m:=Builtin.Tuple.tupleExact _) (wpAny_newObj_type (Ju ⟨_,rfl,Ju h⟩) htake))
end
end HT
namespace L2
open PySem PySem.Spec PyProof.Rows
local macro_rules | `(⋯)=>`(by omega)
abbrev TO:=St->Hp->(Option Int->Hp->Prop)->Prop
def PO(X:Cx)(e:Option Expr)(t:TO):Prop:=
 ∀(Mh:List (Jc×Obj))(s:Jb)(r:St)(H:Hp)(Q:Option Int->Hp->Prop),Inv X Mh r H s->t r H Q->
  wpAny (model X.prog X.w) X.A (evalPart e X.env) (fun u s'=>∃ o H',Inv X Mh r H' s'/\IsPart u o/\Q o H') X.xe s
abbrev zPj:TO:=fun _ H Q=>Q none H
abbrev zSf(t:TE):TO:=fun r H Q=>t r H fun x H1=>∃ i,x=.int i/\Q (some i) H1
section
variable{X:Cx}{e:Expr}{te:TE}{lo hi:Option Expr}{tl th:TO}{pos p2:Pos}
def zPe:PO X none zPj:=by
 intro Mh s c H Q I h;rw[evalPart_none];exact Ju ⟨none,H,I,.none,h⟩
def zNu(h:PE X e te):PO X (some e) (zSf te):=by
 intro Mh s c H Q I hw;rw[evalPart_some];refine thn (h Mh s c H _ I hw) fun u s1 ⟨x,H1,I1,r1,q1⟩=>?_
 obtain⟨i,rfl,q⟩:=q1;obtain⟨t,rfl⟩:=r1;exact⟨some i,H1,I1,.int i t,q⟩
def SlR(X:Cx)(r:V->Option Int->Option Int->Hp->VK->Prop):Prop:=
 ∀(Mh:List (Jc×Obj))(s:Jb)(c:St)(H:Hp)(x:V)(v vl vu:Ja)(lo hi:Option Int)(sl:Jc)(Q:VK),Inv X Mh c H s->cX x v->s.heap.IsSliceOf sl vl vu .none->IsPart vl lo->IsPart vu hi->r x lo hi H Q->
  ∃ T id,typeLookup (.type T) "__getitem__" = pure (some (.builtin id))/\s.TypeIs v T/\wpAny (model X.prog X.w) X.A (getItem v (.ref sl)) (EP X Mh c Q) X.xe s
def SlR.or{r r':V->Option Int->Option Int->Hp->VK->Prop}(h:SlR X r)(h':SlR X r'):SlR X (fun x lo hi H Q=>r x lo hi H Q∨r' x lo hi H Q):=by
 intro Mh s c H x v vl vu lo hi sl Q I rx hs pl pu q;rcases q with q | q
 ·exact h Mh s c H x v vl vu lo hi sl Q I rx hs pl pu q
 ·exact h' Mh s c H x v vl vu lo hi sl Q I rx hs pl pu q
abbrev tSl(r:V->Option Int->Option Int->Hp->VK->Prop)(te:TE)(tl th:TO):TE:=fun c H Q=>te c H fun x H1=>tl c H1 fun l H2=>th c H2 fun u H3=>r x l u H3 Q
def zGr{r:V->Option Int->Option Int->Hp->VK->Prop}(hr:SlR X r)(he:PE X e te)(hl:PO X lo tl)(hu:PO X hi th):PE X (.Subscript e (.Slice lo hi none p2) pos) (tSl r te tl th):=by
 intro Mh s c H Q I h;refine Subscript_ (thn (he Mh s c H _ I h) fun v s1 ⟨x,H1,I1,r1,q1⟩=>?_)
 refine wpAny_Slice (thn (hl Mh s1 c H1 _ I1 q1) fun vl s2 ⟨l,H2,I2,pl,q2⟩=>thn (hu Mh s2 c H2 _ I2 q2) fun vu s3 ⟨u,H3,I3,pu,q3⟩=>?_)
 rw[evalPart_none];refine Ju ?_
 have I4:Inv X Mh c H3 { s3 with heap:=s3.heap.push { cls:=.type "slice", data:=.fields #[vl,vu,.none] } }:=I3.kept (t':=s3.toks) fun b ob q=>Heap.get?_push_of_some _ q
 obtain⟨T,id,hT,ht,hg⟩:=hr Mh { s3 with heap:=s3.heap.push { cls:=.type "slice", data:=.fields #[vl,vu,.none] } } c H3 x v vl vu l u s3.heap.objs.size Q I4 r1 (Heap.IsSliceOf.new ..) pl pu q3;show wpAny (model X.prog X.w) X.A (subscriptTail e (.Slice lo hi none p2) v (.ref s3.heap.objs.size)) (EP X Mh c Q) X.xe { s3 with heap:=s3.heap.push { cls:=.type "slice", data:=.fields #[vl,vu,.none] } }
 exact tail_any (ops:=[.ref s3.heap.objs.size,v]) ht hT hg (by with_unfolding_all rfl)
def zKM(xs:List V)(lo hi:Option Int):List V:=(xs.drop (HT.sIx xs.length 0 lo)).take (HT.sIx xs.length xs.length hi-HT.sIx xs.length 0 lo)
def wA(xs:List V)(lo hi:Option Int):(zKM xs lo hi).length<=xs.length:=by
 unfold zKM;rw[Xo,Q9];omega
def zUi(K:PySem.W.Frag):V->Option Int->Option Int->Hp->VK->Prop:=fun x lo hi H Q=>∃ a xs,x=.ref a/\SqT K H a xs/\
 ¬ (HT.sIx xs.length 0 lo=0/\HT.sIx xs.length xs.length hi=xs.length)/\∀ p,H p=none->Q (.ref p) (upd H p (.tup (zKM xs lo hi)))
def zQr:SlR X (zUi X.K):=by
 intro Mh s c H x v vl vu lo hi sl Q I rx hs pl pu h;obtain⟨a,xs,rfl,hx,hw,q⟩:=h;cases rx;obtain⟨its,r,ht,hz⟩:=I.tuple hx;have hlen:its.toArray.size=xs.length:=by rw[Qj];exact r.length.symm
 refine⟨"tuple", _,PyProof.Rows.slot_tuple_getitem.lookup,ht.typeIs,?_⟩
 refine HT.getItem_tuple_cut ht hs pl pu (by rw[hlen];exact hw) ?_ (by rw[hlen];exact hz)
 rw[hlen];refine⟨.ref s.heap.objs.size,_,I.laid (t':=s.toks) (o:=.tup (zKM xs lo hi)) (fun b ob q=>Heap.get?_push_of_some _ q) (Qf _) ?_,rfl,q _ (I.hok.fresh (Qf _))⟩
 exact⟨Q4 (wA xs lo hi) hz,_,(r.drop (HT.sIx xs.length 0 lo)).take (HT.sIx xs.length xs.length hi-HT.sIx xs.length 0 lo),IsTup.new _ _⟩
def zRB(K:PySem.W.Frag):R2:=fun x y H Q=>∃ a b xs ys,x=.ref a/\y=.ref b/\SqT K H a xs/\SqT K H b ys/\xs≠[]/\xs.length+ys.length<=sizeLine/\
 (ys=[]->Q (.ref a) H)/\(ys≠[]->∀ p,H p=none->Q (.ref p) (upd H p (.tup (xs++ys))))
def dF.nil_iff{xs:List V}{us:List Ja}(r:dF xs us):us=[] ↔ xs=[]:=by
 cases r with
 | nil=>simp
 | cons _ _=>simp
def zNH:OpR X (binaryOp .Add) (zRB X.K):=by
 intro Mh s c H x y v u Q I rx ry h;obtain⟨a,b,xs,ys,rfl,rfl,ha,hb,hx,hz,q1,q2⟩:=h;cases rx;cases ry;obtain⟨its,r1,p1,_⟩:=I.tuple ha;obtain⟨its2,r2,p2,_⟩:=I.tuple hb;refine HT.cat_tup p1 p2 (fun z=>hx (r1.nil_iff.mp z)) (fun z=>⟨.ref a,H,I,rfl,q1 (r2.nil_iff.mp z)⟩) (fun z=>?_) (by rw[<-r1.length,<-r2.length];exact hz)
 refine⟨.ref s.heap.objs.size,_,I.laid (t':=s.toks) (o:=.tup (xs++ys)) (fun b ob q=>Heap.get?_push_of_some _ q) (Qf _) ?_,rfl,q2 (fun w=>z (r2.nil_iff.mpr w)) _ (I.hok.fresh (Qf _))⟩
 exact⟨by rw[Qo];exact hz,_,r1.append r2,IsTup.new _ _⟩
end
def ixN(n:Nat)(i:Int):Option Nat:=if 0<=i then (if i<n then some i.toNat else none) else if -(n:Int)<=i then some (i+n).toNat else none
def atI{r:Type}(xs:List r)(i:Int):Option r:=(ixN xs.length i).bind fun j=>xs[j]?
def zIM{n:Nat}{i:Int}{j:Nat}(h:ixN n i=some j):seqIndex? i n=some j/\j<n/\-(n:Int)<=i/\i<n:=by
 unfold ixN at h;by_cases h0:0<=i
 ·rw[Jk h0] at h
  by_cases h1:i<n
  ·rw[Jk h1] at h
   have e:i.toNat=j:=Ve h;exact⟨by rw[J2 h0 h1,e],by omega,by omega,h1⟩
  ·rw[Jl h1] at h;cases h
 ·rw[Jl h0] at h
  by_cases h1:-(n:Int)<=i
  ·rw[Jk h1] at h
   have e:(i+n).toNat=j:=Ve h;exact⟨by rw[J3 ⋯ h1,e],by omega,h1,by omega⟩
  ·rw[Jl h1] at h;cases h
def zKw{r:Type}{xs:List r}{i:Int}{v:r}(h:atI xs i=some v):∃ j,seqIndex? i xs.length=some j/\xs[j]?=some v/\j<xs.length/\-(xs.length:Int)<=i/\i<xs.length:=by
 unfold atI at h
 cases e:ixN xs.length i with
 | none=>rw[e] at h;cases h
 | some j=>
  rw[e] at h;obtain⟨h1,h2,h3,h4⟩:=zIM e;exact⟨j,h1,h,h2,h3,h4⟩
def zDP{r:Type}{xs:List r}{j:Nat}{v:r}(h:xs[j]?=some v):atI xs (j:Int)=some v:=by
 have hj:j<xs.length:=(Qy.mp h).1
 have e:ixN xs.length (j:Int)=some j:=by
  unfold ixN;rw[Jk ⋯,Jk ⋯];simp
 unfold atI;rw[e];exact h
def zEI(b:Expr):Prop:=∀ o i,subscripted b false o i=operate [o,i] (getItem o i)
def IxR(X:Cx)(r:R2):Prop:=
 ∀(value slice:Expr)(Mh:List (Jc×Obj))(s:Jb)(p:St)(H:Hp)(x y:V)(v u:Ja)(Q:VK),Inv X Mh p H s->cX x v->cX y u->r x y H Q->
  subscripted slice false v u=operate [v,u] (getItem v u)->wpAny (model X.prog X.w) X.A (subscriptTail value slice v u) (EP X Mh p Q) X.xe s
def MtR(X:Cx)(id:String)(r:V->List V->Hp->VK->Prop):Prop:=
 ∀(Mh:List (Jc×Obj))(s:Jb)(p:St)(H:Hp)(x:V)(xs:List V)(v:Ja)(us:List Ja)(Q:VK),Inv X Mh p H s->cX x v->dF xs us->r x xs H Q->
  wpAny (model X.prog X.w) X.A (call (.builtin id) (v::us)) (EP X Mh p Q) X.xe s
section
variable{X:Cx}{a b:Expr}{ta tb:TE}{pos:Pos}
def IxR.or{r r':R2}(h:IxR X r)(h':IxR X r'):IxR X (fun x y H Q=>r x y H Q∨r' x y H Q):=by
 intro value slice Mh s d H x y v u Q I rx ry q hs;rcases q with q | q
 ·exact h value slice Mh s d H x y v u Q I rx ry q hs
 ·exact h' value slice Mh s d H x y v u Q I rx ry q hs
def zHu{r:R2}(hr:IxR X r)(ha:PE X a ta)(hb:PE X b tb)(hs:zEI b):PE X (.Subscript a b pos) (tOp r ta tb):=by
 intro Mh s d H Q I h;exact Subscript_ (zSF ha hb I h fun v u s2 x y H2 I2 rx ry q=>hr a b Mh s2 d H2 x y v u Q I2 rx ry q (hs _ _))
def zRY(K:PySem.W.Frag):R2:=fun x y H Q=>∃ p xs i v,x=.ref p/\y=.int i/\SqL K H p xs/\atI xs i=some v/\Q v H
def zRQ(K:PySem.W.Frag):R2:=fun x y H Q=>∃ p xs i v,x=.ref p/\y=.int i/\SqT K H p xs/\atI xs i=some v/\Q v H
def zOz:IxR X (zRY X.K):=by
 intro value slice Mh s d H x y v u Q I rx ry h hs;obtain⟨p,xs,i,z,rfl,rfl,hq,he,q⟩:=h;cases rx;obtain⟨t,rfl⟩:=ry;obtain⟨its,r,pl,hz⟩:=I.list hq;obtain⟨j,h1,h2,h3,h4,h5⟩:=zKw he;obtain⟨w,ew,rw'⟩:=r.get h2;have hl:=r.length;have hn:=zGi;have fin:EP X Mh d Q w s:=⟨z,H,I,rw',q⟩;by_cases h0:0<=i
 ·have hj:i.toNat=j:=by
   rw[J2 h0 h5] at h1;exact Ve h1
  exact item_listR pl.isList h0 ⋯ (by rw[hj];simpa using ew) fin hs
 ·have hj:(i+(its.toArray.size:Int)).toNat=j:=by
   rw[J3 ⋯ h4] at h1;rw[Qj,<-hl];exact Ve h1
  exact J4 (x:=w) pl.isList.typeIs slot_list_getitem.lookup
   (wpAny_getItem_list_neg (Q:=fun r s'=>r=w/\EP X Mh d Q r s') pl.isList ⋯ (by rw[Qj]<;>omega) ⋯ (by rw[hj];simpa using ew) ⟨rfl,fin⟩) hs
def zRl:IxR X (zRQ X.K):=by
 intro value slice Mh s d H x y v u Q I rx ry h hs;obtain⟨p,xs,i,z,rfl,rfl,hq,he,q⟩:=h;cases rx;obtain⟨t,rfl⟩:=ry;obtain⟨its,r,pl,hz⟩:=I.tuple hq;obtain⟨j,h1,h2,h3,h4,h5⟩:=zKw he;obtain⟨w,ew,rw'⟩:=r.get h2;have hl:=r.length;have hn:=zGi;have fin:EP X Mh d Q w s:=⟨z,H,I,rw',q⟩
 exact J4 (x:=w) pl.typeIs slot_tuple_getitem.lookup
  (getItem_tuple (j:=j) (Q:=fun r s'=>r=w/\EP X Mh d Q r s') pl ⋯ ⋯ (by rw[Qj,<-hl];exact h1) (by simpa using ew) ⟨rfl,fin⟩) hs
def zHb(its:List Ja)(n j:Nat)(u:Ja):Obj.mapSeq (·.setIfInBounds j u) { cls:=.type "list", data:=.seq its.toArray n }={ cls:=.type "list", data:=.seq (its.set j u).toArray n }:=by
 simp[Obj.mapSeq]
def Inv.lst{Mh:List (Jc×Obj)}{d:St}{H:Hp}{s:Jb}{p:Jc}{xs:List V}(I:Inv X Mh d H s)(h:H p=some (.lst xs)):
  ∃(its:List Ja)(n:Nat),dF xs its/\s.heap.get? p=some { cls:=.type "list", data:=.seq its.toArray n }/\xs.length<=sizeLine:=by
 obtain⟨z,its,n,r,e⟩:=I.hok p _ h;exact⟨its,n,r,e,z⟩
def Inv.lstUpd{Mh:List (Jc×Obj)}{d:St}{H:Hp}{s:Jb}{p:Jc}{xs ys:List V}{its its':List Ja}{n n':Nat}{f:Obj->Obj}(I:Inv X Mh d H s)(h:H p=some (.lst xs))
  (ho:s.heap.get? p=some { cls:=.type "list", data:=.seq its.toArray n }) (hf:f { cls:=.type "list", data:=.seq its.toArray n }={ cls:=.type "list", data:=.seq its'.toArray n' }) (r:dF ys its') (hz:ys.length<=sizeLine) (t:Nat):
  Inv X Mh d (upd H p (.lst ys)) { s with heap:=s.heap.update p f,toks:=t }:=by
 have e:(s.heap.update p f).get? p=some { cls:=.type "list", data:=.seq its'.toArray n' }:=by
  rw[Heap.get?_update_self f ho (by rw[hf]<;>rfl),hf]
 refine I.write (x:=p) (e:=p) (by rw[h];trivial) (.inl rfl) (fun b u hb q=>(Heap.get?_update_other _ _ (Ne.symm hb)).trans q) ⟨_,e⟩ ?_
 exact⟨hz,its',n',r,e⟩
def zSC:V->V->V->Hp->(Hp->Prop)->Prop:=fun o i v H Q=>∃ p xs k j,o=.ref p/\i=.int k/\H p=some (.lst xs)/\ixN xs.length k=some j/\Q (upd H p (.lst (xs.set j v)))
def zMc:zTh X zSC:=by
 intro Mh s d H o i v ov iv u Q I ro ri rv h;obtain⟨p,xs,k,j,rfl,rfl,hp,hj,q⟩:=h;cases ro;obtain⟨t,rfl⟩:=ri;obtain⟨its,n,r,ho,hz⟩:=I.lst hp;obtain⟨h1,h2,h3,h4⟩:=zIM hj;have hl:=r.length;have hn:=zGi
 have I':Inv X Mh d (upd H p (.lst (xs.set j v))) { s with heap:=s.heap.update p (Obj.mapSeq (·.setIfInBounds j u)) }:=
  I.lstUpd hp ho (zHb its n j u) (r.set rv j) (by rw[Vc];exact hz) s.toks
 by_cases h0:0<=k
 ·have hk:k.toNat=j:=by
   rw[J2 h0 h4] at h1;exact Ve h1
  exact PySem.W.ki_setAt ho h0 ⋯ (by rw[Qj,<-hl];exact h4) (by rw[hk];exact⟨_,I',q⟩)
 ·have hk:(k+(its.toArray.size:Int)).toNat=j:=by
   rw[J3 ⋯ h3] at h1;rw[Qj,<-hl];exact Ve h1
  exact PySem.W.ki_setBack ho ⋯ (by rw[Qj,<-hl];exact h3) ⋯ (by rw[hk];exact⟨_,I',q⟩)
def zBX(lo hi:Option Int)(n:Nat):(sliceBounds lo hi none n).1=((HT.sIx n 0 lo:Nat):Int)/\(sliceBounds lo hi none n).2.1=((HT.sIx n n hi:Nat):Int)/\(sliceBounds lo hi none n).2.2=1:=by
 refine⟨?_,?_,rfl⟩
 ·cases lo with
  | none=>simp[sliceBounds,HT.sIx]
  | some i=>
   simp only[sliceBounds,HT.sIx,Option.getD_none,show(1:Int) > 0 by decide,if_true];by_cases h:i<0
   ·simp only[h,if_true]<;>omega
   ·simp only[h,if_false]<;>omega
 ·cases hi with
  | none=>simp[sliceBounds,HT.sIx]
  | some i=>
   simp only[sliceBounds,HT.sIx,Option.getD_none,show(1:Int) > 0 by decide,if_true];by_cases h:i<0
   ·simp only[h,if_true]<;>omega
   ·simp only[h,if_false]<;>omega
def zBg(its:List Ja)(lo hi:Option Int):slicePick its.toArray lo hi none=((its.drop (HT.sIx its.length 0 lo)).take (HT.sIx its.length its.length hi-HT.sIx its.length 0 lo)).toArray:=by
 obtain⟨h1,h2,h3⟩:=zBX lo hi its.toArray.size;unfold slicePick;rw[h1,h2,h3];simp only[sliceRange_one,pick_run,Qj]<;>rfl
def zTL(K:PySem.W.Frag):V->Option Int->Option Int->Hp->VK->Prop:=fun x lo hi H Q=>∃ a xs,x=.ref a/\SqL K H a xs/\∀ p,H p=none->Q (.ref p) (upd H p (.lst (zKM xs lo hi)))
def zIo:SlR X (zTL X.K):=by
 intro Mh s d H x v vl vu lo hi sl Q I rx hs pl pu h;obtain⟨a,xs,rfl,hx,q⟩:=h;cases rx;obtain⟨its,r,ht,hz⟩:=I.list hx;have hlen:=r.length;refine⟨"list", _,slot_list_getitem.lookup,ht.isList.typeIs,?_⟩
 refine wpAny_getItem_list_slice ht.isList hs pl pu .none (by simp) ?_ (by rw[Qj]<;>omega)
 rw[zBg,<-hlen];refine⟨.ref s.heap.objs.size,_,I.laid (t':=s.toks) (o:=.lst (zKM xs lo hi)) (fun b ob q=>Heap.get?_push_of_some _ q) (Qf _) ?_,rfl,q _ (I.hok.fresh (Qf _))⟩
 exact⟨Q4 (wA xs lo hi) hz,_,0,(r.drop (HT.sIx xs.length 0 lo)).take (HT.sIx xs.length xs.length hi-HT.sIx xs.length 0 lo),Heap.get?_push_size _ rfl⟩
def aQ:wC X (.builtin "len") (fun xs H Q=>∃ p ys,xs=[.ref p]/\(SqL X.K H p ys∨SqT X.K H p ys)/\Q (.int ys.length) H):=by
 intro Mh s d H xs us Q I r h;obtain⟨p,ys,rfl,hq,q⟩:=h;obtain⟨u,rfl,rx⟩:=zAb r;cases rx;have hn:=zGi;rcases hq with hq | hq
 ·obtain⟨its,r',pl,hz⟩:=I.list hq
  have hlen:=r'.length;exact Calls.call_len_list pl.isList (by simp only[Qj]<;>omega) ⟨.int ys.length,H,I.tok _,⟨s.toks+1,by rw[Qj,hlen]⟩,q⟩
 ·obtain⟨its,r',pl,hz⟩:=I.tuple hq
  have hlen:=r'.length;exact len_tuple pl (by simp only[Qj]<;>omega) ⟨.int ys.length,H,I.tok _,⟨s.toks+1,by rw[Qj,hlen]⟩,q⟩
def zCn:wC X (.type "list") (fun xs H Q=>∃ p ys,xs=[.ref p]/\(SqL X.K H p ys∨SqT X.K H p ys)/\∀ l,H l=none->Q (.ref l) (upd H l (.lst ys))):=by
 intro Mh s d H xs us Q I r h;obtain⟨p,ys,rfl,hq,q⟩:=h;obtain⟨u,rfl,rx⟩:=zAb r;cases rx
 have fin:∀(its:List Ja),dF ys its->ys.length<=sizeLine->∀(h':Je)(c':Nat),(∀ b o',s.heap.get? b=some o'->h'.get? b=some o')->
   h'.get? s.heap.objs.size=some { cls:=.type "list", dict:=none,data:=.seq its.toArray c',slots:=#[] }->EP X Mh d Q (.ref s.heap.objs.size) { s with heap:=h' }:=fun its r' hz h' c' kp e=>
  ⟨.ref s.heap.objs.size,_,I.laid (t':=s.toks) kp (Qf _) (show mJ X.prog X.w _ h' _ (.lst ys) from ⟨hz,its,c',r',e⟩),rfl,q _ (I.hok.fresh (Qf _))⟩
 rcases hq with hq | hq
 ·obtain⟨its,r',pl,hz⟩:=I.list hq
  have hlen:=r'.length;obtain⟨o,ho,hc,n,hd⟩:=pl.isList;exact call_list_seq p (.inl rfl) ho hc hd (fun h' c' kp e=>fin its r' hz h' c' kp e) (by simp only[Qj]<;>omega)
 ·obtain⟨its,r',pl,hz⟩:=I.tuple hq
  have hlen:=r'.length;obtain⟨o,ho,hc,n,hd⟩:=pl;exact call_list_seq p (.inr rfl) ho hc hd (fun h' c' kp e=>fin its r' hz h' c' kp e) (by simp only[Qj]<;>omega)
def lX:wC X (.type "tuple") (fun xs H Q=>∃ p ys,xs=[.ref p]/\((SqL X.K H p ys/\∀ l,H l=none->Q (.ref l) (upd H l (.tup ys)))∨(SqT X.K H p ys/\Q (.ref p) H))):=by
 intro Mh s d H xs us Q I r h;obtain⟨p,ys,rfl,h⟩:=h;obtain⟨u,rfl,rx⟩:=zAb r;cases rx;rcases h with⟨hq,q⟩ | ⟨hq,q⟩
 ·obtain⟨its,r',pl,hz⟩:=I.list hq
  have hlen:=r'.length;refine call_tuple_list pl.isList (fun h' kp=>?_) (by simp only[Qj]<;>omega)
  have I1:Inv X Mh d H { s with heap:=h' }:=I.kept (t':=s.toks) kp
  have I2:Inv X Mh d (upd H h'.objs.size (.tup ys)) { s with heap:=h'.push { cls:=.type "tuple", data:=.seq its.toArray } }:=
   I1.laid (t':=s.toks) (fun b o e=>Heap.get?_push_of_some _ e) (Qf _) (show mJ X.prog X.w _ _ _ (.tup ys) from ⟨hz,its,r',IsTup.new _ _⟩)
  exact⟨.ref h'.objs.size,_,I2,rfl,q _ (I1.hok.fresh (Qf _))⟩
 ·obtain⟨its,r',pl,hz⟩:=I.tuple hq
  exact call_tuple_same pl ⟨.ref p,H,I,rfl,q⟩
def tyV(K:PySem.W.Frag)(T:String)(x:V)(H:Hp):Prop:=match x with
 | .str _=>T = "str"
 | .int _=>T = "int"
 | .ref p=>(T = "list" /\ ∃ xs,SqL K H p xs)∨(T = "tuple" /\ ∃ o,K.lookup p=some o/\o.cls=.type "tuple" /\ o.dict=none)∨
   (T = "dict" /\ ((∃ kvs,H p=some (.dK kvs))∨∃ kvs,H p=some (.dT kvs)))∨(T = "set" /\ ∃ S n,H p=some (.set S n))
 | _=>False
def zMC{Mh:List (Jc×Obj)}{d:St}{H:Hp}{s:Jb}{T:String}{x:V}{v:Ja}(I:Inv X Mh d H s)(r:cX x v)(ty:tyV X.K T x H):
  s.TypeIs v T/\∀ a,v=.ref a->∃ ob,s.heap.get? a=some ob/\ob.dict=none:=by
 cases x with
 | str z=>
  obtain⟨t,rfl⟩:=r;cases (show T = "str" from ty)
  exact⟨typeIs_str s z t,fun _ e=>nomatch e⟩
 | int i=>
  obtain⟨t,rfl⟩:=r;cases (show T = "int" from ty)
  exact⟨typeIs_int s i t,fun _ e=>nomatch e⟩
 | ref p=>
  cases r;rcases ty with⟨rfl,xs,hq⟩ | ⟨rfl,o,hk,hc,hd⟩ | ⟨rfl,hk⟩ | ⟨rfl,S,n,hk⟩
  ·obtain⟨its,_,pl,_⟩:=I.list hq
   refine⟨pl.isList.typeIs,fun a e=>?_⟩
   cases e;obtain⟨o,n,e,c,hd,_⟩:=pl;exact⟨o,e,hd⟩
  ·refine⟨⟨o,I.kIn p o hk,hc⟩,fun a e=>?_⟩
   cases e;exact⟨o,I.kIn _ o hk,hd⟩
  ·have z:∃ o,s.heap.get? p=some o/\o.ExactDict:=by
    rcases hk with⟨kvs,hk⟩ | ⟨kvs,hk⟩
    ·obtain⟨_,_,_,_,o,_,_,e,ex,_⟩:=I.hok p _ hk
     exact⟨o,e,ex⟩
    ·obtain⟨_,_,_,_,o,_,_,e,ex,_⟩:=I.hok p _ hk
     exact⟨o,e,ex⟩
   obtain⟨o,e,ex⟩:=z;refine⟨⟨o,e,ex.1⟩,fun a e2=>?_⟩
   cases e2;exact⟨o,e,ex.2.1⟩
  ·obtain⟨o,_,_,_,e,ex,_⟩:=I.hok p _ hk
   refine⟨⟨o,e,ex.1⟩,fun a e2=>?_⟩
   cases e2;exact⟨o,e,ex.2.1⟩
 | _=>exact False.elim ty
abbrev zTW(K:PySem.W.Frag)(T:String)(r:V->List V->Hp->VK->Prop)(to:TE):TE:=fun d H Q=>to d H fun x H1=>tyV K T x H1/\r x [] H1 Q
abbrev tBM(K:PySem.W.Frag)(T:String)(r:V->List V->Hp->VK->Prop)(to:TE)(t:TA):TE:=fun d H Q=>to d H fun x H1=>tyV K T x H1/\t d H1 fun xs H2=>r x xs H2 Q
variable{o e:Expr}{es:List Expr}{to:TE}{t:TA}{name:Str}{apos cpos:Pos}{T id:String}{r:V->List V->Hp->VK->Prop}
def zPL(pa:PlainAttrs T)(slot:Slot T name id)(hty:typeOf (.builtin id)=pure (.type "method_descriptor"))(hm:MtR X id r)(ho:PE X o to)
  (hbase:attributeBase o name X.env (eval o X.env)=eval o X.env:=by rfl) (hline:(apos.endLine==cpos.line)=true:=by rfl):PE X (.Call (.Attribute o name apos) [] [] cpos) (zTW X.K T r to):=by
 intro Mh s d H Q I h;refine wpAny_Call_method0_late hbase hline (thn (ho Mh s d H _ I h) fun v s1 ⟨x,H1,I1,r1,ty,q1⟩=>?_)
 obtain⟨h1,h2⟩:=zMC I1 r1 ty;exact⟨T,id,pa,slot,hty,h1,h2,Calls.callWith_builtin rfl (PySem.evalArgs_none (hm Mh s1 d H1 x [] v [] Q I1 r1 .nil q1))⟩
def zOh(pa:PlainAttrs T)(slot:Slot T name id)(hty:typeOf (.builtin id)=pure (.type "method_descriptor"))(hm:MtR X id r)(ho:PE X o to)(ha:PA X (e::es) t)
  (hbase:attributeBase o name X.env (eval o X.env)=eval o X.env:=by rfl)
  (hfew:((backTo cpos (starEach (e::es) X.env)).all (fun x=>!x.1) && (backToKw cpos (keywordEach [] X.env)).all (fun x=>x.1.isSome)
   && decide ((e::es).length+([]:List Keyword).length+(if ([]:List Keyword).isEmpty then 0 else 1)<30))=true:=by rfl)
  (hline:(apos.endLine==cpos.line)=true:=by rfl) (hs:starEach (e::es) X.env=(false,eval e X.env)::starEach es X.env:=by rfl) (hplain:(backTo cpos (starEach es X.env)).any (·.1)=false:=by rfl):
  PE X (.Call (.Attribute o name apos) (e::es) [] cpos) (tBM X.K T r to t):=by
 intro Mh s d H Q I h;refine wpAny_Call_method_late hbase hfew hline rfl (thn (ho Mh s d H _ I h) fun v s1 ⟨x,H1,I1,r1,ty,q1⟩=>?_)
 obtain⟨h1,h2⟩:=zMC I1 r1 ty;refine⟨T,id,pa,slot,hty,h1,h2,?_⟩
 have hA:=ha cpos Mh s1 d H1 _ I1 q1;rw[hs] at hA ⊢
 refine Calls.callWith_builtin (by show(false || (backTo cpos (starEach es X.env)).any (·.1))=false;rw[hplain]<;>rfl) (Calls.evalArgs_plain ?_)
 exact thn hA fun us s2 ⟨vs,H2,I2,r2,q2⟩=>hm Mh s2 d H2 x vs v us Q I2 r1 r2 q2
end
def MtM(X:Cx)(id:String)(r:V->List V->Hp->VK->Prop):Prop:=
 ∀(Mh:List (Jc×Obj))(s:Jb)(p:St)(H:Hp)(x:V)(xs:List V)(v:Ja)(us:List Ja)(Q:VK),Inv X Mh p H s->cX x v->dF xs us->r x xs H Q->
  wpAny (model X.prog X.w) X.A (call (.builtin id) (v::us)) (EP X Mh p Q) X.xe s
def dF.one:∀ {x:V} {us:List Ja},dF [x] us->∃ u,us=[u]/\cX x u
 | _,_,.cons r .nil=>⟨_,rfl,r⟩
def dF.two:∀ {x y:V} {us:List Ja},dF [x,y] us->∃ u v,us=[u,v]/\cX x u/\cX y v
 | _,_,_,.cons r (.cons q .nil)=>⟨_,_,rfl,r,q⟩
def dF.zero:∀ {us:List Ja},dF [] us->us=[]
 | _,.nil=>rfl
def dF.dropLast{xs:List V}{us:List Ja}(h:dF xs us):dF xs.dropLast us.dropLast:=by
 induction h with
 | nil=>exact .nil
 | cons r t ih=>
  cases t with
  | nil=>exact .nil
  | cons q t'=>exact .cons r ih
def dF.rep{xs:List V}{us:List Ja}(h:dF xs us):∀ k:Nat,dF (List.replicate k xs).flatten (List.replicate k us).flatten
 | 0=>.nil
 | k+1=>by
  rw[X0,X0,Yf,Yf];exact dF.append h (dF.rep h k)
def zHo{s:Type}(l:List s):l.eraseIdx (l.length-1)=l.dropLast:=by
 induction l with
 | nil=>rfl
 | cons a r ih=>
  cases r with
  | nil=>rfl
  | cons b r=>
   have e:(a::b::r).length-1=((b::r).length-1)+1:=by
    have h1:(a::b::r).length=r.length+2:=rfl;have h2:(b::r).length=r.length+1:=rfl;omega
   rw[e,List.eraseIdx_cons_succ,ih]
   all_goals rfl
def zCG(its:List Ja):∀(k:Nat)(acc:List Ja),
  List.foldl (fun x1 x2=>x1++x2) acc.toArray (List.replicate k its.toArray)=(acc++(List.replicate k its).flatten).toArray
 | 0,acc=>by simp
 | k+1,acc=>by
  have e:acc.toArray++its.toArray=(acc++its).toArray:=by simp
  have e2:(acc++its)++(List.replicate k its).flatten=acc++(List.replicate (k+1) its).flatten:=by
   rw[X0,Yf,Vr]
  rw[<-e2,<-zCG its k (acc++its),<-e,X0,Wc]
section
variable{X:Cx}{Mh:List (Jc×Obj)}{p:St}{H:Hp}{s:Jb}{l b:Jc}{xs ys zs:List V}
def Inv.lset{its its':List Ja}{n:Nat}{f:Array Ja->Array Ja}{t':Nat}(I:Inv X Mh p H s)(hH:H l=some (.lst xs))
  (e:s.heap.get? l=some { cls:=.type "list", data:=.seq its.toArray n }) (hf:f its.toArray=its'.toArray) (hv:dF ys its') (hz:ys.length<=sizeLine):
  Inv X Mh p (upd H l (.lst ys)) { s with heap:=s.heap.update l (Obj.mapSeq f),toks:=t' }:=by
 have q:=PySem.IsL.update e f;rw[hf] at q;refine I.write (x:=l) (e:=l) (by rw[hH];exact trivial) (.inl rfl) (fun b' u hb hu=>(Heap.get?_update_other s.heap (Obj.mapSeq f) (Ne.symm hb)).trans hu) ⟨_,q⟩ ?_
 exact⟨hz,its',_,hv,q⟩
def Inv.lnew{its:List Ja}{t':Nat}(I:Inv X Mh p H s)(hv:dF ys its)(hz:ys.length<=sizeLine):
  Inv X Mh p (upd H s.heap.objs.size (.lst ys)) { s with heap:=s.heap.push { cls:=.type "list", data:=.seq its.toArray },toks:=t' }:=
 I.laid (fun _ _ q=>Heap.get?_push_of_some _ q) (Qf _) ⟨hz,its,0,hv,Heap.get?_push_size _ rfl⟩
def Inv.fresh(I:Inv X Mh p H s):H s.heap.objs.size=none:=I.hok.fresh (Qf _)
def Inv.lstM(I:Inv X Mh p H s)(hH:H l=some (.lst xs)):xs.length<=sizeLine/\∃(its:List Ja)(n:Nat),dF xs its/\xs.length=its.length/\s.heap.get? l=some { cls:=.type "list", data:=.seq its.toArray n }:=by
 obtain⟨z,its,n,r,e⟩:=I.hok l _ hH;exact⟨z,its,n,r,r.length,e⟩
def zGc{n:Nat}(h:n<=sizeLine):Builtin.List.listTooLong n=false:=by
 unfold Builtin.List.listTooLong;exact Jj ⋯
end
section
variable{X:Cx}
def zNV:V->List V->Hp->VK->Prop:=fun x vs H Q=>∃ l xs y,x=.ref l/\vs=[y]/\H l=some (.lst xs)/\xs.length<sizeLine/\Q .non (upd H l (.lst (xs++[y])))
def wQ:MtM X "list.append" zNV:=by
 intro Mh s c H x vs v us Q I rx rv h;obtain⟨l,xs,y,rfl,rfl,hH,hz,q⟩:=h;cases rx;obtain⟨u,rfl,ru⟩:=rv.one;obtain⟨z,its,n,r,hl,e⟩:=I.lstM hH;refine call_meets F.slot_list_append ⟨_,e,rfl⟩ F.entry_list_append (F.args_list_append_2 _ _) (PySem.list_append l its.toArray n u (by rw[Qj];omega)) ⟨e,?_⟩
 refine⟨.non,_,I.lset (its':=its++[u]) hH e (by simp) (r.append (.cons ru .nil)) ?_,rfl,q⟩
 rw[Qo,Wd];omega
def zOV:V->List V->Hp->VK->Prop:=fun x vs H Q=>∃ l b xs zs,x=.ref l/\vs=[.ref b]/\H l=some (.lst xs)/\H b=some (.lst zs)/\xs.length+zs.length<=sizeLine/\Q .non (upd H l (.lst (xs++zs)))
def zIJ:MtM X "list.extend" zOV:=by
 intro Mh s c H x vs v us Q I rx rv h;obtain⟨l,b,xs,zs,rfl,rfl,hH,hB,hz,q⟩:=h;cases rx;obtain⟨u,rfl,ru⟩:=rv.one;cases ru;obtain⟨z,its,n,r,hl,e⟩:=I.lstM hH;obtain⟨z2,its2,n2,r2,hl2,e2⟩:=I.lstM hB;have hsz:its.toArray.size+its2.toArray.size<=sizeLine:=by rw[Qj,Qj];omega
 have hlong:¬ (!its.toArray.isEmpty && Builtin.List.listTooLong (its.toArray.size+its2.toArray.size))=true:=by
  rw[zGc hsz,Bool.and_false];exact X8
 refine call_meets F.slot_list_extend ⟨_,e,rfl⟩ F.entry_list_extend (F.args_list_extend_2 _ _)
  (AutoSeq1.list_extend_list_list_0 l its.toArray n b its2.toArray n2 hlong (by rw[Qj];omega) ⋯) ⟨e,e2,?_⟩
 refine⟨.non,_,I.lset (its':=its++its2) hH e (by simp) (r.append r2) ?_,rfl,q⟩
 rw[Qo];omega
def zTZ:V->List V->Hp->VK->Prop:=fun x vs H Q=>∃ l xs y,x=.ref l/\vs=[]/\H l=some (.lst xs)/\xs[xs.length-1]?=some y/\Q y (upd H l (.lst xs.dropLast))
def zQz:MtM X "list.pop" zTZ:=by
 intro Mh s c H x vs v us Q I rx rv h;obtain⟨l,xs,y,rfl,rfl,hH,hy,q⟩:=h;cases rx;have hus:=rv.zero;subst hus;obtain⟨z,its,n,r,hl,e⟩:=I.lstM hH;obtain⟨u,hu,ru⟩:=r.get hy
 have hy':its.toArray[its.toArray.size-1]?=some u:=by
  show its.toArray[its.length-1]?=some u
  rw[<-We,<-hl];exact hu
 refine call_meets F.slot_list_pop ⟨_,e,rfl⟩ F.entry_list_pop (F.args_list_pop_1 _) (MeetsSeq.list_pop_last l its.toArray n u hy' (by rw[Qj];omega)) ⟨e,?_⟩
 refine⟨y,_,I.lset (its':=its.dropLast) hH e ?_ r.dropLast ?_,ru,q⟩
 ·show its.toArray.eraseIdxIfInBounds (its.toArray.size-1)=its.dropLast.toArray
  rw[Qj,List.eraseIdxIfInBounds_toArray,zHo]
 ·rw[List.length_dropLast]
  omega
def zUk:R2:=fun x y H Q=>∃ l k xs,x=.ref l/\y=.int k/\H l=some (.lst xs)/\-(2^63)<=k/\k<2^63/\xs.length*k.toNat<=sizeLine/\
 ∀ p,H p=none->Q (.ref p) (upd H p (.lst (List.replicate k.toNat xs).flatten))
def zNz{d:Type}(xs:List d)(k:Nat):(List.replicate k xs).flatten.length=k*xs.length:=by
 induction k with
 | zero=>simp
 | succ k ih=>rw[X0,Yf,Qo,ih,Nat.succ_mul,Um]
def zQB:OpR X (binaryOp .Mult) zUk:=by
 intro Mh s c H x y v u Q I rx ry h;obtain⟨l,k,xs,rfl,rfl,hH,h1,h2,hz,q⟩:=h;cases rx;obtain⟨t,rfl⟩:=ry;obtain⟨z,its,n,r,hl,e⟩:=I.lstM hH;have hlen:its.toArray.size*k.toNat<=sizeLine:=by rw[Qj,<-hl];exact hz
 have hcap:¬ its.toArray.size*k.toNat > (2^63-1) / 8:=by
  have:(sizeLine:Nat)<=(2^63-1) / 8:=by decide
  omega
 have hfit:¬ (!Builtin.List.listFitsIndex k)=true:=by
  rw[fitsIndex_both h1 h2];exact X8
 have hlong:¬ Builtin.List.listTooLong (its.toArray.size*k.toNat)=true:=by
  rw[zGc hlen];exact X8
 have hnew:List.foldl (fun x1 x2=>x1++x2) #[] (List.replicate (if its.toArray.isEmpty=true then 0 else k.toNat) its.toArray)=(List.replicate k.toNat its).flatten.toArray:=by
  have f0:∀ m:Nat,List.foldl (fun x1 x2=>x1++x2) #[] (List.replicate m its.toArray)=(List.replicate m its).flatten.toArray:=fun m=>by
   have:=zCG its m []
   rw[Xp] at this;exact this
  rw[f0]
  cases its with
  | nil=>simp
  | cons a r'=>rw[Jl (by simp)]
 refine wpAny_binaryOp_repeat_ref (T := "list") (U := "int") (by decide) ⟨_,e,rfl⟩ (fun s'=>typeIs_int s' k t) noFill_list_mul F.fills_int_mul F.slot_int_rmul repeat_list F.slot_int_index.lookup
  (call_meets F.slot_int_rmul (typeIs_int s k t) F.entry_int_rmul (F.args_int_rmul_2 _ _) (int___rmul___int_list k t l its.toArray n)
   ⟨e,rfl,⟨_,e,rfl⟩,call_meets F.slot_list_mul ⟨_,e,rfl⟩ F.entry_list_mul (F.args_list_mul_2 _ _) (AutoListH.list___mul___list_int_3 l its.toArray n k t hfit hcap hlong) ⟨e,?_⟩⟩)
 rw[hnew];exact⟨.ref _,_,I.lnew (t':=s.toks) (r.rep k.toNat) (by rw[zNz,Nat.mul_comm];exact hz),rfl,q _ I.fresh⟩
end
section
variable{prog:Jf}{w:Jg}{A:Jh}{E:Ja->Jb->Prop}{s:Jb}
set_option maxRecDepth 100000 in
end
end L2
namespace Att
open PySem PySem.W PySem.Calls PyProof.Rows
def wU{P:Params}{h:Je}:∀(ns:List Int)(vs:List Ja),WellAll P h vs (ns.map WData.int)->IntsAre vs ns:=by
 intro ns
 induction ns with
 | nil=>
  intro vs w;rw[Xh] at w;cases w;exact .nil
 | cons n ns ih=>
  intro vs w;rw[Qq] at w
  cases w with
  | cons a b=>
   cases a;exact .cons _ _ (ih _ b)
def script_of{l:OpenLaw}{n:Nat}(hn:l.most=some n){P:Params}{h:Je}{args:List WData}{vals:List Ja}
  (hpre:l.row.toRowW.claim.pre args=true) (hwl:WellAll P h vals args):
  ∃ a vs ns,vals=[Value.ref a]/\args=[WData.list (ns.map WData.int)]/\h.get? a=some { cls:=.type "list", data:=.seq vs.toArray }/\IntsAre vs ns/\ns.length<=n:=by
 have hsh:WShape.hasAll [] args [.list .int]=true:=(pre_splitW hpre).1;have hc:l.pre.holds [] { args:=args }=true:=(pre_splitW hpre).2;obtain⟨d,r,rfl,h1,h2⟩:=hasAllW_cons hsh;obtain rfl:=hasAllW_nil h2;obtain⟨xs,rfl,h3⟩:=hasW_list h1;obtain⟨ns,rfl⟩:=items_int h3
 have hlen:ns.length<=n:=by
  unfold OpenLaw.pre at hc
  have h4:(WTm.not (.lt (.lit (.int (n:Int))) (.len (.arg 0)))).holds [] { args:=[.list (ns.map .int)] }=true:=by
   have h4:=(holds_andW hc).1;rw[hn] at h4;exact h4
  have h5:=condW_of h4 (w_not (w_lt w_lit (w_len_list (w_arg rfl))));rw[Qe] at h5;refine Nat.le_of_not_lt fun q=>?_
  have q':(n:Int)<((ns.length:Nat):Int):=by omega
  first
   | (rw[J5 q'] at h5;exact absurd h5 (by decide))
   | (simp at h5;omega)
 cases hwl with
 | cons w1 w2=>
  cases w2
  cases w1 with
  | list ho hall=>exact⟨_,_,ns,rfl,rfl,ho,wU ns _ hall,hlen⟩
def post_true(l:OpenLaw)(args:List WData):l.row.toRowW.claim.post args (.bool true) args=true:=
 postW_of (r:=l.row.toRowW) (X:=(true==true))
  (show WShape.has [] (.bool true) .bool=true by first | rfl | decide | simp[WShape.has,WShape.arms,WShape.armsAll])
  (show(WTm.eq .res (.lit (.bool true))).value [] { args:=args,res:=some (.bool true),after:=args }=some (.bool (true==true)) from w_eq_bool (w_res rfl) w_lit) rfl
end Att
namespace L2
open PySem PySem.Spec PyProof.Rows
def zBV:∀ {vs:List Ja} {ns:List Int},IntsAre vs ns->dF (ns.map V.int) vs
 | _,_,.nil=>.nil
 | _,_,.cons n t h=>.cons ⟨t,rfl⟩ (zBV h)
def zTM(H:Hp):Prop:=∀ b,H b=none∨∃ o xs,H b=some (.frz o (.lst xs))
def kK(s:Ji):Arguments:=match s with
 | .FunctionDef _ a _ _ _ _ _ _ _ _=>a
 | _=>{ posonlyargs:=[],args:=[],vararg:=none,kwonlyargs:=[],kw_defaults:=[],kwarg:=none,defaults:=[] }
def fG(s:Ji):List Ji:=match s with
 | .FunctionDef _ _ b _ _ _ _ _ _ _=>b
 | _=>[]
def aF(s:Ji):Scope:=match s with
 | .FunctionDef _ _ _ _ _ _ sc _ _ _=>sc
 | _=>{ kind:=.function,names:=[],isGenerator:=false,isCoroutine:=false }
structure Fun (K:PySem.W.Frag) (x qual:Str) (st:Ji) (f:Jc) (fd:FuncData):Prop where
 ex:∃(oc:Ja)(od:Option Jc)(kV doc pm:Ja)(an:Option Jc)(cdv ct:Ja)(osl:Array (Option Ja)),
  fd=PySem.W.fnOf x qual (kK st) (fG st) (aF st) .none kV doc pm an cdv ct/\K.lookup f=some ⟨oc,od,.func fd,osl⟩/\PySem.W.codeIn K cdv qual=true
 kp:PySem.W.keepIn K (.ref f)=true
section
variable{P:Jf}{w:Jg}{K:Fg_}{mg:Str->Option Ja}{base:Je}
def Fun.binds{x qual:Str}{st:Ji}{f:Jc}{fd:FuncData}{ps:List Str}(F:Fun K x qual st f fd)
  (h:∀(kV doc pm:Ja)(an:Option Jc)(cdv ct:Ja)(us:List Ja),us.length=ps.length->bindArgs (PySem.W.fnOf x qual (kK st) (fG st) (aF st) .none kV doc pm an cdv ct) ⟨us,[]⟩=pure (ps.zip us)):zDu K fd ps []:=by
 obtain⟨oc,od,kV,doc,pm,an,cdv,ct,osl,rfl,lk,hcd⟩:=F.ex;exact .all (h kV doc pm an cdv ct)
def zV{x qual:Str}{st:Ji}{f:Jc}{oc:Ja}{od an:Option Jc}{osl:Array (Option Ja)}{kV doc pm cdv ct:Ja}(l:K.lookup f=some ⟨oc,od,.func (PySem.W.fnOf x qual (kK st) (fG st) (aF st) .none kV doc pm an cdv ct),osl⟩)
  (c:PySem.W.codeIn K cdv qual=true) (k:PySem.W.keepIn K (.ref f)=true):Fun K x qual st f (PySem.W.fnOf x qual (kK st) (fG st) (aF st) .none kV doc pm an cdv ct):=⟨⟨oc,od,kV,doc,pm,an,cdv,ct,osl,rfl,l,c⟩,k⟩
end
section
variable{X:Cx}
def pv(i:Nat){x:Str}{pos:Pos}(hN:X.N[i]?=some x:=by rfl)(hv:Vis X.env.scope x:=by first | exact Or.inl rfl | exact Or.inr (Or.inl rfl) | exact Or.inr (Or.inr rfl))(hd:(x==("__debug__" : Str))=false:=by decide)
  (hcd:(x==("__classdict__" : Str))=false:=by decide):PE X (.Name x pos) (zEC i):=uN hN hv hd hcd
end
def Same(H H':Hp):Prop:=∀ b o,H b=some o->H' b=some o
def Same.refl(H:Hp):Same H H:=fun _ _ h=>h
def Same.trans{H H1 H2:Hp}(a:Same H H1)(b:Same H1 H2):Same H H2:=fun c o h=>b c o (a c o h)
end L2
set_option maxHeartbeats 4000000
set_option exponentiation.threshold 20000
namespace L2
open PySem PySem.Spec PyProof.Rows
section
variable{P:Jf}{w:Jg}{H H':Hp}{h:Je}{a:Jc}{o:HO}
def mJ.here(x:mJ P w H h a o):∃ ob,h.get? a=some ob:=by
 cases o with
 | lst xs=>obtain⟨_,_,_,_,e⟩:=x;exact⟨_,e⟩
 | tup xs=>obtain⟨_,_,_,e⟩:=x;obtain⟨ob,e,_⟩:=e;exact⟨_,e⟩
 | dK kvs=>obtain⟨_,_,_,_,e⟩:=x;obtain⟨ob,_,_,e,_⟩:=e;exact⟨_,e⟩
 | dT kvs=>obtain⟨_,_,_,_,ob,_,_,e,_⟩:=x;exact⟨_,e⟩
 | set S n=>obtain⟨ob,_,_,_,e,_⟩:=x;exact⟨_,e⟩
 | ins C dx fs=>obtain⟨_,_,_,e,_⟩:=x;exact⟨_,e⟩
 | own y=>exact x
 | xd fs=>obtain⟨_,⟨ob,_,_,e,_⟩,_⟩:=x;exact⟨_,e⟩
 | met f y=>exact⟨_,x⟩
 | rng lo hi=>obtain⟨_,_,_,e⟩:=x;exact⟨_,e⟩
 | frz ob u=>exact⟨_,x.1⟩
 | tbl ps=>exact⟨_,x⟩
 | ext r=>exact x.2.1
def HOk.none_of(ok:HOk P w H h)(e:h.get? a=none):H a=none:=by
 cases q:H a with
 | none=>rfl
 | some o=>
  obtain⟨ob,z⟩:=(ok a o q).here;rw[e] at z;cases z
end
structure Fly (P:Jf) (w:Jg) (l:List Env) (H H':Hp) (s:Jb) (ea:Jc) (cls:Ja) (s':Jb):Prop where
 os:s'.os=s.os
 bare:AllBare s'.gens
 un:Un (frs l) [] H H' s.heap s'.heap
 hok:HOk P w H' s'.heap
 ne:H' ea=none
 new:s.heap.get? ea=none
 fly:∃ B a0,Heap.FlyingW B l ea cls a0 s'.heap/\(∀ b o,s'.heap.get? b=some o->((∃ o',s.heap.get? b=some o')∨H' b≠none)->b∉frs l->B.get? b=some o)
def CX1(P:Jf)(w:Jg):CXT:=fun outer H s E e s'=>∃ ea cls H',e=.ref ea/\Fly P w outer H H' s ea cls s'/\E cls none H'
structure Own (X:Cx):Prop where
 stk:X.stack=X.env::X.outer
 fr:X.env.frame=some X.env.locals
 ex:X.ex=[]
section
variable{X:Cx}{Mh:List (Jc×Obj)}{r:St}{H H':Hp}{s s':Jb}{ea:Jc}{cls:Ja}
def zFp(O:Own X):frs X.stack=X.env.locals::X.fs:=by
 rw[O.stk];show List.filterMap _ (_::_)=_
 rw[Uj,O.fr];rfl
def Inv.there0(I:Inv X Mh r H s)(O:Own X){b:Jc}{o:Obj}(e:X.s₀.heap.get? b=some o):∃ o',s.heap.get? b=some o':=I.base.there b o e (by rw[O.ex];simp)
def Inv.ne0(I:Inv X Mh r H s){b:Jc}{o:Obj}(e:X.s₀.heap.get? b=some o):b≠X.env.locals:=Qs (Qu (Heap.lt_size e) I.ok.above)
def Fly.leave(I:Inv X Mh r H s)(O:Own X)(F:Fly X.prog X.w X.stack H H' s ea cls s'){h':Je}{B:Je}{a0:Ja}
  (hf:Heap.FlyingW B X.stack ea cls a0 s'.heap) (cov:∀ b o,s'.heap.get? b=some o->((∃ o',s.heap.get? b=some o')∨H' b≠none)->b∉frs X.stack->B.get? b=some o)
  (hf':Heap.FlyingW B X.outer ea cls a0 h') (up:s'.heap.UpToSlots h'):Fly X.prog X.w X.outer X.H₀ H' X.s₀ ea cls { s' with heap:=h' }:=by
 have fst:frs X.stack=X.env.locals::X.fs:=zFp O;have nin:∀ {b:Jc},b≠X.env.locals->b∉X.fs->b∉frs X.stack:=fun h1 h2=>by rw[fst];simp[h1,h2]
 have trk:∀ {b:Jc},H' b≠none->b∉frs X.stack:=fun {b} hb hm=>by
  have h1:=I.stkFree b hm;obtain⟨_,o,ho,_⟩:=I.stack.mem hm;exact hb (F.un.free b o ho h1 (by simp))
 have keepB:∀ {b:Jc} {o:Obj},s'.heap.get? b=some o->((∃ o',s.heap.get? b=some o')∨H' b≠none)->b∉frs X.stack->h'.get? b=some o:=fun e1 e2 e3=>hf'.1 _ _ (cov _ _ e1 e2 e3)
 have slotOf:∀ {b:Jc} {o:Obj},b∈frs X.stack->s'.heap.get? b=some o->∃ sl,h'.get? b=some { o with slots:=sl }:=fun {b o} hm e=>by
  obtain⟨_,o',ho',hn⟩:=hf.2.2.1.mem hm;rw[e] at ho';cases ho'
  exact up b o e hn
 refine⟨F.os.trans I.os,F.bare,⟨?_,?_,?_,?_,?_,?_,?_⟩,?_,F.ne,?_,⟨B,a0,hf',?_⟩⟩
 ·intro b o e n hb hx
  have e1:=I.base.keep b o e n hb (by rw[O.ex];simp)
  have n1:=I.base.free b o e n (by rw[O.ex];simp)
  have hs:b∉frs X.stack:=nin (I.ne0 e) hb;exact keepB (F.un.keep b o e1 n1 hs (by simp)) (.inl ⟨o,e1⟩) hs
 ·intro b o e n hb hx
  obtain⟨sl,e1⟩:=I.base.slot b o e n hb (by rw[O.ex];simp)
  have n1:=I.base.free b o e n (by rw[O.ex];simp)
  have hs:b∈frs X.stack:=by rw[fst];exact Qc _ hb
  obtain⟨sl2,e2⟩:=F.un.slot b _ e1 n1 hs (by simp)
  obtain⟨sl3,e3⟩:=slotOf hs e2;exact⟨sl3,e3⟩
 ·intro b o e n hx
  obtain⟨o1,e1⟩:=I.there0 O e;exact F.un.free b o1 e1 (I.base.free b o e n (by rw[O.ex];simp)) (by simp)
 ·intro b o e hx
  obtain⟨o1,e1⟩:=I.there0 O e;obtain⟨o2,e2⟩:=F.un.there b o1 e1 (by simp)
  by_cases hs:b∈frs X.stack
  ·obtain⟨sl,e3⟩:=slotOf hs e2
   exact⟨_,e3⟩
  ·exact⟨o2,keepB e2 (.inl ⟨o1,e1⟩) hs⟩
 ·exact fun b xs e=>F.un.tups b xs (I.base.tups b xs e)
 ·exact fun b o u e=>F.un.frzs b o u (I.base.frzs b o u e)
 ·intro b ps e
  obtain⟨m1,e1⟩:=I.base.tbls b ps e;obtain⟨m2,e2⟩:=F.un.tbls b _ e1;exact⟨m1++m2,by rw[e2,Array.append_assoc]⟩
 ·intro a o e
  refine(F.hok a o e).stay (fun b u hb z=>?_) (fun b z=>z) (fun b xs z=>z)
  have hb':H' b≠none:=by
   rcases hb with rfl | hb
   ·rw[e];simp
   ·rw[hb];simp
  exact keepB z (.inr hb') (trk hb')
 ·show X.s₀.heap.get? ea=none
  cases q:X.s₀.heap.get? ea with
  | none=>rfl
  | some o=>
   obtain⟨o1,e1⟩:=I.there0 O q;rw[F.new] at e1;cases e1
 ·intro b o e c hb
  have c':(∃ o',s.heap.get? b=some o')∨H' b≠none:=by
   rcases c with⟨o',c⟩ | c
   ·exact .inl (I.there0 O c)
   ·exact .inr c
  have hs:b∉frs X.stack:=by
   rcases c with⟨o',c⟩ | c
   ·exact nin (I.ne0 c) hb
   ·exact trk c
  have ex:∃ o2,s'.heap.get? b=some o2:=by
   rcases c' with⟨o',c1⟩ | c1
   ·exact F.un.there b o' c1 (by simp)
   ·cases q:H' b with
    | none=>exact absurd q c1
    | some u=>exact(F.hok b u q).here
  obtain⟨o2,e2⟩:=ex;have z:=keepB e2 c' hs;have z':h'.get? b=some o:=e;rw[z] at z';cases z'
  exact cov b o e2 c' hs
end
section
variable{X:Cx}{Mh:List (Jc×Obj)}{r:St}{H H':Hp}{s s':Jb}{ea:Jc}{cls:Ja}
def zQS(l:List Env):∀ env∈l,∀ b,env.frame=some b->b∈frs l:=fun env he b hb=>U8.mpr ⟨env,he,hb⟩
def Fly.made(I:Inv X Mh r H s)(O:Own X){vs:List Ja}(hx:Heap.MadeExcOf s.heap s'.heap ea cls vs)(hos:s'.os=s.os)(hg:AllBare s'.gens){h':Je}{t:Jc}
  (hf':Heap.FlyingW (PySem.W.hideAll s.heap (frs X.stack)) X.outer ea cls (.ref t) h') (up:s'.heap.UpToSlots h'):Fly X.prog X.w X.outer X.H₀ H X.s₀ ea cls { s' with heap:=h' }:=by
 have fst:frs X.stack=X.env.locals::X.fs:=zFp O;have nin:∀ {b:Jc},b≠X.env.locals->b∉X.fs->b∉frs X.stack:=fun h1 h2=>by rw[fst];simp[h1,h2]
 have trk:∀ {b:Jc},H b≠none->b∉frs X.stack:=fun {b} hb hm=>hb (I.stkFree b hm)
 have keepB:∀ {b:Jc} {o:Obj},s.heap.get? b=some o->b∉frs X.stack->h'.get? b=some o:=fun e1 e3=>hf'.1 _ _ (U7 _ e1 e3)
 have slotOf:∀ {b:Jc} {o:Obj},b∈frs X.stack->s.heap.get? b=some o->∃ sl,h'.get? b=some { o with slots:=sl }:=fun {b o} hm e=>by
  obtain⟨_,o',ho',hn⟩:=I.stack.mem hm;rw[e] at ho';cases ho'
  exact up b o (hx.keeps b o e) hn
 refine⟨hos.trans I.os,hg,⟨?_,?_,?_,?_,?_,?_,?_⟩,?_,?_,?_,⟨_,_,hf',?_⟩⟩
 ·intro b o e n hb hx'
  exact keepB (I.base.keep b o e n hb (by rw[O.ex];simp)) (nin (I.ne0 e) hb)
 ·intro b o e n hb hx'
  obtain⟨sl,e1⟩:=I.base.slot b o e n hb (by rw[O.ex];simp)
  have hs:b∈frs X.stack:=by rw[fst];exact Qc _ hb
  obtain⟨sl3,e3⟩:=slotOf hs e1;exact⟨sl3,e3⟩
 ·exact fun b o e n hx'=>I.base.free b o e n (by rw[O.ex];simp)
 ·intro b o e hx'
  obtain⟨o1,e1⟩:=I.there0 O e;by_cases hs:b∈frs X.stack
  ·obtain⟨sl,e3⟩:=slotOf hs e1
   exact⟨_,e3⟩
  ·exact⟨o1,keepB e1 hs⟩
 ·exact fun b xs e=>I.base.tups b xs e
 ·exact fun b o u e=>I.base.frzs b o u e
 ·exact fun b ps e=>I.base.tbls b ps e
 ·intro a o e
  refine(I.hok a o e).stay (fun b u hb z=>?_) (fun b z=>z) (fun b xs z=>z)
  have hb':H b≠none:=by
   rcases hb with rfl | hb
   ·rw[e];simp
   ·rw[hb];simp
  exact keepB z (trk hb')
 ·exact I.hok.none_of hx.new
 ·show X.s₀.heap.get? ea=none
  cases q:X.s₀.heap.get? ea with
  | none=>rfl
  | some o=>
   obtain⟨o1,e1⟩:=I.there0 O q;rw[hx.new] at e1;cases e1
 ·intro b o e c hb
  have hs:b∉frs X.stack:=by
   rcases c with⟨o',c⟩ | c
   ·exact nin (I.ne0 c) hb
   ·exact trk c
  have ex:∃ o2,s.heap.get? b=some o2:=by
   rcases c with⟨o',c1⟩ | c1
   ·exact I.there0 O c1
   ·cases q:H b with
    | none=>exact absurd q c1
    | some u=>exact(I.hok b u q).here
  obtain⟨o2,e2⟩:=ex;have z:=keepB e2 hs;have z':h'.get? b=some o:=e;rw[z] at z';cases z'
  exact U7 _ e2 hs
end
section
variable{CX:CXT}{P:Jf}{w:Jg}{K:Fg_}{mg:Str->Option Ja}{base:Je}{N:List Str}{qual:Str}{scope:Scope}{f:Jc}{cd:Ja}{A:Jh}{outer:List Env}{s₀:Jb}{H₀:Hp}{E:XK}
def zNf:Own (zHj CX P w K mg base N qual scope f cd A outer s₀ H₀ E):=⟨rfl,rfl,rfl⟩
def zSn{E':XK}(h:∀ c H',E' c none H'->E c none H'):zFN (CX1 P w) (zHj (CX1 P w) P w K mg base N qual scope f cd A outer s₀ H₀ E) E':=by
 intro Mh r H s e s' I hc;obtain⟨ea,cls,H',rfl,F,q⟩:=hc;obtain⟨B,a0,hf,cov⟩:=F.fly;have O:Own (zHj (CX1 P w) P w K mg base N qual scope f cd A outer s₀ H₀ E):=zNf;exact wpAny_leaves_onW (I.ok.frames.trans (congrArg some O.stk)) O.fr hf fun h' hf' up=>⟨ea,cls,H',rfl,F.leave I O hf cov hf' up,h _ _ q⟩
def zEH{Mh:List (Jc×Obj)}{r:St}{H:Hp}{s s':Jb}{ea:Jc}{cls:Ja}{vs:List Ja}(I:Inv (zHj (CX1 P w) P w K mg base N qual scope f cd A outer s₀ H₀ E) Mh r H s)
  (hx:Heap.MadeExcOf s.heap s'.heap ea cls vs) (hos:s'.os=s.os) (hg:AllBare s'.gens) (q:E cls none H):(zHj (CX1 P w) P w K mg base N qual scope f cd A outer s₀ H₀ E).xe (.ref ea) s':=by
 have O:Own (zHj (CX1 P w) P w K mg base N qual scope f cd A outer s₀ H₀ E):=zNf;have hst:=O.stk
 exact wpAny_leaves_madeW (base:=PySem.W.hideAll s.heap (frs (zHj (CX1 P w) P w K mg base N qual scope f cd A outer s₀ H₀ E).stack)) (h:=s.heap) (I.ok.frames.trans (congrArg some O.stk)) O.fr (fun b o z=>PySem.W.of_hideAll _ z)
  (PySem.W.funFrames_hide (I.stack) (zQS _)) hx fun h' t hf' _ _ up=>⟨ea,cls,H,rfl,Fly.made I O hx hos hg hf' up,q⟩
end
structure Err (K:PySem.W.Frag) (mg:Str->Option Ja) (x:Str) (C:Jc):Prop where
 own:∀ h:Je,K.In h->∃ bm newId B initId,OwnCls x C bm newId mg h/\ExcBaseFacts B newId initId bm
end L2
namespace L3
open PySem
inductive D where
 | non | bl (b:Bool) | int (i:Int) | str (x:Str) | tup (ds:List D) | lst (ds:List D)
inductive Res (α:Type) where
 | ok (a:α) | err (c:Str) | no
def Res.bind{r s:Type}(x:Res r)(f:r->Res s):Res s:=match x with
 | .ok a=>f a
 | .err c=>.err c
 | .no=>.no
def Res.ok_bind{r s:Type}{a:r}{f:r->Res s}:(Res.ok a).bind f=f a:=rfl
inductive Sl where
 | un | val (d:D) | own (ds:List D) | exc (c:Str) | tab (T:List (Str×Str))
abbrev Rho:=List Sl
inductive Rt where
 | v (d:D) | f (ds:List D)
def Rt.d:Rt->D
 | .v d=>d
 | .f ds=>.lst ds
inductive Fl where
 | nx (ρ:Rho) | ret (r:Rt) | brk (ρ:Rho) | ctn (ρ:Rho)
abbrev Ev:=Rho->Res D
abbrev Fv:=Rho->Res (List D)
abbrev Tv:=Rho->Res Bool
abbrev Sv:=Rho->Res Fl
abbrev Mir:=List D->Res Rt
mutual
def eqD:D->D->Bool
 | .non,.non=>true
 | .bl a,.bl b=>a==b
 | .bl a,.int b=>(if a then 1 else 0)==b
 | .int a,.bl b=>a==(if b then 1 else 0)
 | .int a,.int b=>a==b
 | .str a,.str b=>a==b
 | .tup ds,.tup es=>zHw ds es
 | .lst ds,.lst es=>zHw ds es
 | _,_=>false
def zHw:List D->List D->Bool
 | [],[]=>true
 | d::ds,e::es=>eqD d e && zHw ds es
 | _,_=>false
end
mutual
def dep:D->Nat
 | .tup ds=>depS ds+1
 | .lst ds=>depS ds+1
 | _=>0
def depS:List D->Nat
 | []=>0
 | d::ds=>max (dep d) (depS ds)
end
mutual
def noL:D->Bool
 | .tup ds=>noLs ds
 | .lst _=>false
 | _=>true
def noLs:List D->Bool
 | []=>true
 | d::ds=>noL d && noLs ds
end
def xB:∀ {ds:List D} {d:D},d∈ds->dep d<=depS ds
 | e::ds,d,h=>by
  rw[depS];rcases Qd.mp h with rfl | h
  ·exact Nat.le_max_left ..
  ·exact Q4 (xB h) (Nat.le_max_right ..)
def zLg:∀ {ds:List D},noLs ds=true ↔ ∀ d∈ds,noL d=true
 | []=>by simp[noLs]
 | d::ds=>by rw[noLs,Vh,zLg];simp
def oC:∀(ds es:List D),zHw ds es=((List.range (min ds.length es.length)).all (fun j=>eqD (ds.getD j .non) (es.getD j .non)) && ds.length==es.length)
 | [],[]=>rfl
 | [],e::es=>by simp[zHw]
 | d::ds,[]=>by simp[zHw]
 | d::ds,e::es=>by
  rw[zHw,oC ds es];have h:min (d::ds).length (e::es).length=min ds.length es.length+1:=by simp only[Qk];omega
  rw[h,List.range_succ_eq_map];simp[List.all_map,Function.comp_def,Bool.and_assoc]
mutual
def uC:∀ d:D,eqD d d=true
 | .non=>rfl
 | .bl b=>by simp[eqD]
 | .int i=>by simp[eqD]
 | .str x=>by simp[eqD]
 | .tup ds=>by rw[eqD];exact vK ds
 | .lst ds=>by rw[eqD];exact vK ds
def vK:∀ ds:List D,zHw ds ds=true
 | []=>rfl
 | d::ds=>by rw[zHw,uC d,vK ds];rfl
end
def nb(i:Int):Nat:=i.natAbs.log2+1
def zPc(i:Int):i.natAbs<2^nb i:=Nat.lt_log2_self
def zSU{i:Int}{m:Nat}(h:i.natAbs<2^m)(hm:0<m):nb i<=m:=by
 unfold nb;by_cases h0:i.natAbs=0
 ·rw[h0];exact hm
 ·exact(Nat.log2_lt h0).mpr h
def kL(i j:Int):Bool:=(decide (-(2^64)<i) && decide (i<2^64)) || (decide (-(2^64)<j) && decide (j<2^64)) || decide (nb i+nb j<=134217728)
def mM(j:Int):Bool:=decide (j≠0) && decide (nb j<=9000)
def sI(i j:Int):Bool:=decide (0<=j) && decide ((nb i:Int)*j<=2^27)
abbrev Op2:=D->D->Res D
def zQ:Op2
 | .int i,.int j=>.ok (.int (i+j))
 | .tup a,.tup b=>if a.length+b.length<=16777216 then .ok (.tup (a++b)) else .no
 | _,_=>.no
def zAT:Op2
 | .int i,.int j=>.ok (.int (i+j))
 | _,_=>.no
def xQ:Op2
 | .int i,.int j=>.ok (.int (i-j))
 | _,_=>.no
def pU:Op2
 | .int i,.int j=>if kL i j=true then .ok (.int (i*j)) else .no
 | _,_=>.no
def vE:Op2
 | .int i,.int j=>if mM j=true then .ok (.int (i.fdiv j)) else .no
 | _,_=>.no
def zAh:Op2
 | .int i,.int j=>if j≠0 then .ok (.int (i.fmod j)) else .no
 | _,_=>.no
def zMX:Op2
 | .int i,.int j=>if sI i j=true then .ok (.int (i^j.toNat)) else .no
 | _,_=>.no
def oEq(x y:D):Res D:=if dep x<=50 then .ok (.bl (eqD x y)) else .no
def oNe(x y:D):Res D:=if dep x<=50 then .ok (.bl (!eqD x y)) else .no
def oLt:Op2
 | .int i,.int j=>.ok (.bl (decide (i<j)))
 | _,_=>.no
def oLe:Op2
 | .int i,.int j=>.ok (.bl (decide (i<=j)))
 | _,_=>.no
def oGt:Op2
 | .int i,.int j=>.ok (.bl (decide (j<i)))
 | _,_=>.no
def oGe:Op2
 | .int i,.int j=>.ok (.bl (decide (j<=i)))
 | _,_=>.no
def atD(ds:List D)(i:Int):Option D:=if 0<=i then ds[i.toNat]? else if 0<=(ds.length:Int)+i then ds[((ds.length:Int)+i).toNat]? else none
def ofO{r:Type}:Option r->Res r
 | some a=>.ok a
 | none=>.no
def oIx:Op2
 | .tup ds,.int i=>ofO (atD ds i)
 | .lst ds,.int i=>ofO (atD ds i)
 | _,_=>.no
def oIn:Op2
 | d,.lst ds=>if depS ds<=50 then .ok (.bl (ds.any fun e=>eqD e d)) else .no
 | d,.tup ds=>if depS ds<=50 then .ok (.bl (ds.any fun e=>eqD e d)) else .no
 | _,_=>.no
def zCg:D->Res D
 | .int i=>.ok (.int (-i))
 | _=>.no
def zTN:D->Res D
 | .bl b=>.ok (.bl (!b))
 | _=>.no
def aE(i:Nat)(ρ:Rho):Res D:=match ρ[i]? with
 | some (.val d)=>.ok d
 | _=>.no
def eC(d:D)(_ρ:Rho):Res D:=.ok d
def eOp(o:Op2)(a b:Ev)(ρ:Rho):Res D:=(a ρ).bind fun x=>(b ρ).bind fun y=>o x y
def eUn(o:D->Res D)(a:Ev)(ρ:Rho):Res D:=(a ρ).bind o
def zTA(a b:Ev)(ρ:Rho):Res D:=(a ρ).bind fun x=>match x with
 | .bl c=>if c=true then b ρ else .ok (.bl false)
 | _=>.no
def eOr(a b:Ev)(ρ:Rho):Res D:=(a ρ).bind fun x=>match x with
 | .bl c=>if c=true then .ok (.bl true) else b ρ
 | _=>.no
def eIf(t:Tv)(a b:Ev)(ρ:Rho):Res D:=(t ρ).bind fun c=>if c=true then a ρ else b ρ
def aNil(_ρ:Rho):Res (List D):=.ok []
def aB(e:Ev)(r:Fv)(ρ:Rho):Res (List D):=(e ρ).bind fun d=>(r ρ).bind fun ds=>.ok (d::ds)
def tG(a:Fv)(ρ:Rho):Res D:=(a ρ).bind fun ds=>if ds.length<=16777216 then .ok (.tup ds) else .no
def aL(m:Mir)(a:Fv)(ρ:Rho):Res D:=(a ρ).bind fun ds=>(m ds).bind fun r=>.ok r.d
def nD:List D->Res D
 | [.lst ds]=>.ok (.int ds.length)
 | [.tup ds]=>.ok (.int ds.length)
 | _=>.no
def zMF:List D->Res D
 | [.int i]=>.ok (.int (if i<0 then -i else i))
 | _=>.no
def zUp:List D->Res D
 | [.int i,.int j]=>.ok (.int (if j > i then j else i))
 | _=>.no
def zUh:List D->Res D
 | [.int i,.int j]=>.ok (.int (if j<i then j else i))
 | _=>.no
def zNi:List D->Res D
 | [.lst ds]=>.ok (.tup ds)
 | [.tup ds]=>.ok (.tup ds)
 | _=>.no
def zPC:List D->Res D
 | [.int i]=>.ok (.int i)
 | [.bl b]=>.ok (.int (if b then 1 else 0))
 | _=>.no
def eB(b:List D->Res D)(a:Fv)(ρ:Rho):Res D:=(a ρ).bind b
def tyN:D->String
 | .non => "NoneType" | .bl _ => "bool" | .int _ => "int" | .str _ => "str" | .tup _ => "tuple" | .lst _ => "list"
def isT(T:String)(d:D):Bool:=tyN d==T || (T == "int" && tyN d == "bool")
def zUb(T:String)(a:Ev)(ρ:Rho):Res D:=(a ρ).bind fun d=>.ok (.bl (isT T d))
def isNon:D->Bool
 | .non=>true
 | _=>false
def Sl.frz:Sl->Sl
 | .own ds=>.val (.lst ds)
 | s=>s
def zRX(e:Ev)(ρ:Rho):Res D:=(e (ρ.map Sl.frz)).bind fun d=>if noL d=true then .ok d else .no
def mU(a:Fv)(ρ:Rho):Res (List D):=(a ρ).bind fun ds=>if ds.length<=16777216 then .ok ds else .no
def cQ(m:Mir)(a:Fv)(ρ:Rho):Res (List D):=(a ρ).bind fun ds=>(m ds).bind fun r=>match r with
 | .f ds=>.ok ds
 | .v _=>.no
def zOl(a:Fv)(ρ:Rho):Res (List D):=(a ρ).bind fun ds=>match ds with
 | [.lst ds]=>.ok ds
 | [.tup ds]=>.ok ds
 | _=>.no
def zPx(a b:Ev)(ρ:Rho):Res (List D):=(a ρ).bind fun x=>(b ρ).bind fun y=>match x,y with
 | .lst ds,.lst es=>if ds.length+es.length<=16777216 then .ok (ds++es) else .no
 | _,_=>.no
def eF(f:Fv)(ρ:Rho):Res D:=(f ρ).bind fun ds=>.ok (.lst ds)
def zPB(f:Fv)(ρ:Rho):Res (List D):=(f (ρ.map Sl.frz)).bind fun ds=>if noLs ds=true then .ok ds else .no
def cut(n:Nat)(i:Option Int)(d:Nat):Nat:=match i with
 | none=>d
 | some i=>if 0<=i then min i.toNat n else ((n:Int)+i).toNat
def dX(ds:List D)(lo hi:Option Int):List D:=(ds.drop (cut ds.length lo 0)).take (cut ds.length hi ds.length-cut ds.length lo 0)
abbrev Ov:=Rho->Res (Option Int)
def oN(_ρ:Rho):Res (Option Int):=.ok none
def oS(e:Ev)(ρ:Rho):Res (Option Int):=(e ρ).bind fun d=>match d with
 | .int i=>.ok (some i)
 | _=>.no
def fSl(a:Ev)(lo hi:Ov)(ρ:Rho):Res (List D):=(a ρ).bind fun x=>(lo ρ).bind fun l=>(hi ρ).bind fun h=>match x with
 | .lst ds=>.ok (dX ds l h)
 | _=>.no
def zUl(a:Ev)(lo hi:Ov)(ρ:Rho):Res D:=(a ρ).bind fun x=>(lo ρ).bind fun l=>(hi ρ).bind fun h=>match x with
 | .tup ds=>if (dX ds l h).length<ds.length then .ok (.tup (dX ds l h)) else .no
 | _=>.no
def dM(e:Ev)(ρ:Rho):Res Bool:=(e ρ).bind fun d=>match d with
 | .bl b=>.ok b
 | _=>.no
def tFrzB(t:Tv)(ρ:Rho):Res Bool:=t (ρ.map Sl.frz)
def zLT(t:Tv)(ρ:Rho):Res Bool:=(t ρ).bind fun b=>.ok (!b)
def xN(t u:Tv)(ρ:Rho):Res Bool:=(t ρ).bind fun b=>if b=true then u ρ else .ok false
def zMH(t u:Tv)(ρ:Rho):Res Bool:=(t ρ).bind fun b=>if b=true then .ok true else u ρ
def sNext(ρ:Rho):Res Fl:=.ok (.nx ρ)
def aY(a b:Sv)(ρ:Rho):Res Fl:=(a ρ).bind fun f=>match f with
 | .nx ρ'=>b ρ'
 | f=>.ok f
def sIf(t:Tv)(a b:Sv)(ρ:Rho):Res Fl:=(t ρ).bind fun c=>if c=true then a ρ else b ρ
def cU(i:Nat)(e:Ev)(ρ:Rho):Res Fl:=(e ρ).bind fun d=>.ok (.nx (ρ.set i (.val d)))
def zBM(i:Nat)(f:Fv)(ρ:Rho):Res Fl:=(f ρ).bind fun ds=>.ok (.nx (ρ.set i (.own ds)))
def tR(e:Ev)(ρ:Rho):Res Fl:=(e ρ).bind fun _=>.ok (.nx ρ)
def iQ(e:Ev)(ρ:Rho):Res Fl:=(e (ρ.map Sl.frz)).bind fun d=>.ok (.ret (.v d))
def iC(f:Fv)(ρ:Rho):Res Fl:=(f (ρ.map Sl.frz)).bind fun ds=>.ok (.ret (.f ds))
def fF(i:Nat)(ρ:Rho):Res Fl:=match ρ[i]? with
 | some (.own ds)=>.ok (.ret (.f ds))
 | _=>.no
def sRetN(_ρ:Rho):Res Fl:=.ok (.ret (.v .non))
def jN(c:Str)(a:Fv)(ρ:Rho):Res Fl:=(a ρ).bind fun ds=>if ds.length<=16777216 then .err c else .no
def sNo(_ρ:Rho):Res Fl:=.no
def zHx(i:Nat)(e:Ev)(ρ:Rho):Res Fl:=match ρ[i]? with
 | some (.own ds)=>(e ρ).bind fun d=>if ds.length<16777216 then .ok (.nx (ρ.set i (.own (ds++[d])))) else .no
 | _=>.no
def zLh(i:Nat)(e:Fv)(ρ:Rho):Res Fl:=match ρ[i]? with
 | some (.own ds)=>(e ρ).bind fun es=>if ds.length+es.length<=16777216 then .ok (.nx (ρ.set i (.own (ds++es)))) else .no
 | _=>.no
def zRU(i:Nat)(k e:Ev)(ρ:Rho):Res Fl:=(e ρ).bind fun d=>match ρ[i]? with
 | some (.own ds)=>(k ρ).bind fun j=>match j with
  | .int j=>if 0<=j/\j<ds.length then .ok (.nx (ρ.set i (.own (ds.set j.toNat d)))) else if -(ds.length:Int)<=j/\j<0 then .ok (.nx (ρ.set i (.own (ds.set (j+ds.length).toNat d)))) else .no
  | _=>.no
 | _=>.no
def zQq(i:Nat)(ρ:Rho):Res Fl:=match ρ[i]? with
 | some (.own ds)=>if ds.length=0 then .no else .ok (.nx (ρ.set i (.own ds.dropLast)))
 | _=>.no
def zKI(i:Nat)(o:Op2)(e:Ev)(ρ:Rho):Res Fl:=match ρ[i]? with
 | some (.val x)=>(e ρ).bind fun y=>(o x y).bind fun d=>.ok (.nx (ρ.set i (.val d)))
 | _=>.no
def sFrz(s:Sv)(ρ:Rho):Res Fl:=s (ρ.map Sl.frz)
def frzAt(i:Nat)(ρ:Rho):Rho:=match ρ[i]? with
 | some (.own ds)=>ρ.set i (.val (.lst ds))
 | _=>ρ
def sFrzAt(i:Nat)(s:Sv)(ρ:Rho):Res Fl:=s (frzAt i ρ)
def noErr{s:Type}:Res s->Res s
 | .err _=>.no
 | r=>r
abbrev Gv:=D->Rho->Res Rho
def gName(i:Nat)(d:D)(ρ:Rho):Res Rho:=.ok (ρ.set i (.val d))
def zGN(gs:List D->Rho->Res Rho)(d:D)(ρ:Rho):Res Rho:=match d with
 | .tup ds=>gs ds ρ
 | _=>.no
def zGU(ds:List D)(ρ:Rho):Res Rho:=match ds with
 | []=>.ok ρ
 | _=>.no
def jR(g:Gv)(r:List D->Rho->Res Rho)(ds:List D)(ρ:Rho):Res Rho:=match ds with
 | d::ds=>(g d ρ).bind fun ρ'=>r ds ρ'
 | []=>.no
def zTV(g:Gv)(f:Ev)(ρ:Rho):Res Fl:=(f ρ).bind fun d=>(g d ρ).bind fun ρ'=>.ok (.nx ρ')
def gE(g:Gv)(b:Sv):List D->Rho->Res Fl
 | [],ρ=>.ok (.nx ρ)
 | d::ds,ρ=>(g d ρ).bind fun ρ1=>(b ρ1).bind fun f=>match f with
  | .nx ρ2=>gE g b ds ρ2
  | .ctn ρ2=>gE g b ds ρ2
  | .brk ρ2=>.ok (.nx ρ2)
  | .ret r=>.ok (.ret r)
def vA(it:Fv)(g:Gv)(b:Sv)(ρ:Rho):Res Fl:=(it ρ).bind fun ds=>gE g b ds ρ
def oP(e:Ev)(ρ:Rho):Res (List D):=(e ρ).bind fun d=>match d with
 | .lst ds=>.ok ds
 | .tup ds=>.ok ds
 | _=>.no
def rng(lo:Int)(n:Nat)(c:Int):List D:=(List.range n).map fun(i:Nat)=>D.int (lo+(i:Int)*c)
def zDO(a:Fv)(ρ:Rho):Res (List D):=(a ρ).bind fun ds=>match ds with
 | [.int j]=>if -(2^62)<=j/\j<2^62 then .ok (rng 0 j.toNat 1) else .no
 | _=>.no
def zDH(a:Fv)(ρ:Rho):Res (List D):=(a ρ).bind fun ds=>match ds with
 | [.int i,.int j]=>if -(2^62)<=i/\i<2^62/\-(2^62)<=j/\j<2^62 then .ok (rng i (j-i).toNat 1) else .no
 | _=>.no
def wh(t:Tv)(b:Sv):Nat->Rho->Res Fl
 | 0,_=>.no
 | n+1,ρ=>(t ρ).bind fun c=>if c=true then (b ρ).bind fun f=>match f with
   | .nx ρ2=>wh t b n ρ2
   | .ctn ρ2=>wh t b n ρ2
   | .brk ρ2=>.ok (.nx ρ2)
   | .ret r=>.ok (.ret r)
  else .ok (.nx ρ)
open Classical in
def eS(t:Tv)(b:Sv)(ρ:Rho):Res Fl:=if h:∃ n,wh t b n ρ≠.no then wh t b h.choose ρ else .no
def zAQ{t:Tv}{b:Sv}:∀ {n:Nat} {ρ:Rho} {k:Nat},wh t b n ρ≠.no->n<=k->wh t b k ρ=wh t b n ρ
 | 0,ρ,k,h,_=>absurd rfl h
 | n+1,ρ,0,h,l=>absurd l (by omega)
 | n+1,ρ,k+1,h,l=>by
  rw[wh,wh];rw[wh] at h
  cases ht:t ρ with
  | no=>rfl
  | err c=>rfl
  | ok c=>
   rw[ht] at h;simp only[Res.bind] at h ⊢
   cases c with
   | false=>rfl
   | true=>
    simp only[if_true] at h ⊢
    cases hb:b ρ with
    | no=>rfl
    | err c=>rfl
    | ok f=>
     rw[hb] at h
     cases f with
     | nx ρ2=>exact zAQ h (by omega)
     | ctn ρ2=>exact zAQ h (by omega)
     | brk ρ2=>rfl
     | ret r=>rfl
def iB{t:Tv}{b:Sv}{n:Nat}{ρ:Rho}(h:wh t b n ρ≠.no):eS t b ρ=wh t b n ρ:=by
 have hx:∃ n,wh t b n ρ≠.no:=⟨n,h⟩;unfold eS;rw[J6 hx];rcases Yr n hx.choose with l | l
 ·exact zAQ h l
 ·exact(zAQ hx.choose_spec l).symm
def pD{t:Tv}{b:Sv}{ρ:Rho}(h:eS t b ρ≠.no):∃ n,eS t b ρ=wh t b n ρ:=by
 unfold eS at h ⊢
 split
 ·exact⟨_,rfl⟩
 ·rename_i hx;rw[dif_neg hx] at h;exact absurd rfl h
def zCt{t:Tv}{b:Sv}{ρ:Rho}:eS t b ρ=((t ρ).bind fun c=>if c=true then (b ρ).bind fun f=>match f with
   | .nx ρ2=>eS t b ρ2
   | .ctn ρ2=>eS t b ρ2
   | .brk ρ2=>.ok (.nx ρ2)
   | .ret r=>.ok (.ret r)
  else .ok (.nx ρ)):=by
 have key:∀ n,wh t b (n+1) ρ≠.no->wh t b (n+1) ρ=((t ρ).bind fun c=>if c=true then (b ρ).bind fun f=>match f with
   | .nx ρ2=>eS t b ρ2
   | .ctn ρ2=>eS t b ρ2
   | .brk ρ2=>.ok (.nx ρ2)
   | .ret r=>.ok (.ret r)
  else .ok (.nx ρ)):=by
  intro n h;rw[wh] at h ⊢
  cases ht:t ρ with
  | no=>rfl
  | err c=>rfl
  | ok c=>
   rw[ht] at h;simp only[Res.bind] at h ⊢
   cases c with
   | false=>rfl
   | true=>
    simp only[if_true] at h ⊢
    cases hb:b ρ with
    | no=>rfl
    | err c=>rfl
    | ok f=>
     rw[hb] at h
     cases f with
     | nx ρ2=>exact(iB h).symm
     | ctn ρ2=>exact(iB h).symm
     | brk ρ2=>rfl
     | ret r=>rfl
 by_cases h:eS t b ρ=.no
 ·rw[h]
  cases ht:t ρ with
  | no=>rfl
  | err c=>
   exfalso
   have q:wh t b 1 ρ=.err c:=by rw[wh,ht];rfl
   have:=iB (t:=t) (b:=b) (ρ:=ρ) (n:=1) (by rw[q];exact fun z=>by cases z)
   rw[h,q] at this;cases this
  | ok c=>
   simp only[Res.bind]
   cases c with
   | false=>
    exfalso
    have q:wh t b 1 ρ=.ok (.nx ρ):=by rw[wh,ht];rfl
    have:=iB (t:=t) (b:=b) (ρ:=ρ) (n:=1) (by rw[q];exact fun z=>by cases z)
    rw[h,q] at this;cases this
   | true=>
    simp only[if_true]
    cases hb:b ρ with
    | no=>rfl
    | err c=>
     exfalso
     have q:wh t b 1 ρ=.err c:=by rw[wh,ht];simp[Res.bind,hb]
     have:=iB (t:=t) (b:=b) (ρ:=ρ) (n:=1) (by rw[q];exact fun z=>by cases z)
     rw[h,q] at this;cases this
    | ok f=>
     have again:∀ ρ2,(f=.nx ρ2∨f=.ctn ρ2)->eS t b ρ2=.no:=by
      intro ρ2 hf;by_cases h2:eS t b ρ2=.no
      ·exact h2
      ·exfalso
       obtain⟨n,e⟩:=pD h2
       have q:wh t b (n+1) ρ=wh t b n ρ2:=by
        rw[wh,ht];simp only[Res.bind,if_true,hb];rcases hf with rfl | rfl<;>rfl
       have h3:wh t b (n+1) ρ≠.no:=by rw[q,<-e];exact h2
       have:=iB h3
       rw[h] at this;exact h3 this.symm
     cases f with
     | nx ρ2=>exact(again ρ2 (.inl rfl)).symm
     | ctn ρ2=>exact(again ρ2 (.inr rfl)).symm
     | brk ρ2=>
      exfalso
      have q:wh t b 1 ρ=.ok (.nx ρ2):=by rw[wh,ht];simp[Res.bind,hb]
      have:=iB (t:=t) (b:=b) (ρ:=ρ) (n:=1) (by rw[q];exact fun z=>by cases z)
      rw[h,q] at this;cases this
     | ret r=>
      exfalso
      have q:wh t b 1 ρ=.ok (.ret r):=by rw[wh,ht];simp[Res.bind,hb]
      have:=iB (t:=t) (b:=b) (ρ:=ρ) (n:=1) (by rw[q];exact fun z=>by cases z)
      rw[h,q] at this;cases this
 ·obtain⟨n,e⟩:=pD h
  cases n with
  | zero=>rw[e] at h;exact absurd rfl h
  | succ n=>rw[e];exact key n (by rw[<-e];exact h)
def zNI(f:Fv)(g:Ev)(ρ:Rho):Res (List D):=(f ρ).bind fun ds=>(g ρ).bind fun d=>match d with
 | .int k=>if 0<=k/\k<2^62/\ds.length*k.toNat<=16777216 then .ok (List.replicate k.toNat ds).flatten else .no
 | _=>.no
def iM(_ρ:Rho):Res Bool:=.ok true
def iK(t:Tv)(f:Ev)(ρ:Rho):List D->Res (List D)
 | []=>.ok []
 | d::ds=>(noErr (t (ρ++[.val d]))).bind fun c=>if c=true then (noErr (f (ρ++[.val d]))).bind fun e=>(iK t f ρ ds).bind fun es=>.ok (e::es) else iK t f ρ ds
def iS(it:Fv)(t:Tv)(f:Ev)(ρ:Rho):Res (List D):=(it ρ).bind fun ds=>if ds.length<=16777215 then iK t f ρ ds else .no
def start(n:Nat)(ds:List D):Rho:=ds.map Sl.val++List.replicate (n-ds.length) .un
def fin:Fl->Res Rt
 | .nx _=>.ok (.v .non)
 | .ret r=>.ok r
 | .brk _=>.no
 | .ctn _=>.no
def fn(p n:Nat)(b:Sv)(ds:List D):Res Rt:=if ds.length=p then (b (start n ds)).bind fin else .no
def xG:D->Option (List D)
 | .lst ds=>some ds
 | .tup ds=>some ds
 | _=>none
def kU:List D->List D->List D
 | a::r,b::q=>.tup [a,b]::kU r q
 | _,_=>[]
def zMM(a:Fv)(ρ:Rho):Res (List D):=(a ρ).bind fun ds=>match ds with
 | [x,y]=>match xG x,xG y with
  | some xs,some ys=>.ok (kU xs ys)
  | _,_=>.no
 | _=>.no
def gF(f:Ev)(ρ:Rho):List D->Res (List D)
 | []=>.ok []
 | .tup [a,b]::ds=>(noErr (f (ρ++[.val a,.val b]))).bind fun e=>(gF f ρ ds).bind fun es=>.ok (e::es)
 | _::_=>.no
def wM(it:Fv)(f:Ev)(ρ:Rho):Res (List D):=(it ρ).bind fun ds=>if ds.length<=16777215 then gF f ρ ds else .no
def slQ(l h:Option Int):D->Res D
 | .lst ds=>.ok (.lst (dX ds l h))
 | .tup ds=>.ok (.tup (dX ds l h))
 | _=>.no
def zSD(a:Ev)(lo hi:Ov)(ρ:Rho):Res D:=(a ρ).bind fun x=>(lo ρ).bind fun l=>(hi ρ).bind fun h=>slQ l h x
def zTU:D->Option Str
 | .str x=>some x
 | .int i=>if i.natAbs.log2<1920 then some (toString i) else none
 | _=>none
def zUa:Str->List D->Option Str
 | a,[]=>some a
 | a,d::r=>match zTU d with
  | some x=>if x.length<=sizeLine/\(a++x).length<=sizeLine then zUa (a++x) r else none
  | none=>none
def oO:List D->Option (List Int)
 | []=>some []
 | .int i::ds=>match oO ds with
  | some ns=>some (i::ns)
  | none=>none
 | _::_=>none
def zCU:List D->Res D
 | [.lst ds]=>(match oO ds with
  | some ns=>.ok (.int ns.sum)
  | none=>.no)
 | [.tup ds]=>(match oO ds with
  | some ns=>.ok (.int ns.sum)
  | none=>.no)
 | _=>.no
def chO:Option Nat->Res D
 | some c=>.ok (.str ⟨#[c]⟩)
 | none=>.no
def zMT:List D->Option (List Bool)
 | []=>some []
 | .bl b::r=>(zMT r).map (b::·)
 | _=>none
def zUm:List D->Res D
 | [.lst ds]=>(match zMT ds with | some bs=>.ok (.bl (bs.all id)) | none=>.no)
 | _=>.no
def slS(l u:Option Int):D->Res D
 | .str x=>if x.length<=sizeLine then .ok (.str (Txt.slice x l u)) else .no
 | _=>.no
def rO(T:List (Str×Str)):D->Res D
 | .str x=>.ok (.bl (!(T.lookup x).isSome))
 | _=>.no
def zPA:Option Str->Res D
 | some y=>.ok (.str y)
 | none=>.no
def wX(T:List (Str×Str)):D->Res D
 | .str x=>zPA (T.lookup x)
 | _=>.no
def zAZ:Int->List Int->Int
 | a,[]=>a
 | a,b::r=>zAZ (if b > a then b else a) r
def zBP:List D->Res D
 | [.lst ds]=>(match oO ds with | some (a::r)=>.ok (.int (zAZ a r)) | _=>.no)
 | _=>.no
end L3
namespace L3
open PySem
def gG(kz:List Int)(π:List Nat):Prop:=π.Perm (List.range kz.length)/\π.Pairwise (fun i j=>kz.getD i 0<=kz.getD j 0)/\π.Pairwise (fun i j=>kz.getD i 0=kz.getD j 0->i<j)
def zKJ(b:Int):D->Res Int
 | .tup [.int t,.int d]=>if mM d && kL t (b.fdiv d) then .ok (t*b.fdiv d) else .no
 | _=>.no
def pE(b:Int):List D->Res (List Int)
 | []=>.ok []
 | d::r=>(zKJ b d).bind fun k=>(pE b r).bind fun ks=>.ok (k::ks)
def kQ(π:List Nat):List D:=π.map fun i:Nat=>D.int (i:Int)
def zNy{b k:Int}{d:D}(h:zKJ b d=.ok k):∃ t c,d=.tup [.int t,.int c]/\mM c=true/\kL t (b.fdiv c)=true/\k=t*b.fdiv c:=by
 unfold zKJ at h;split at h
 ·rename_i t c
  split at h
  ·rename_i hc
   rw[Vh] at hc;cases h;exact⟨t,c,rfl,hc.1,hc.2,rfl⟩
  ·cases h
 ·cases h
def zBk{b:Int}:∀ {rows:List D} {kz:List Int},pE b rows=.ok kz->kz.length=rows.length/\∀(j:Nat)(k:Int),kz[j]?=some k->∃ d,rows[j]?=some d/\zKJ b d=.ok k
 | [],kz,h=>by cases h;exact⟨rfl,fun j k z=>by simp at z⟩
 | d::r,kz,h=>by
  unfold pE at h
  cases e:zKJ b d with
  | no=>rw[e] at h;cases h
  | err c=>rw[e] at h;cases h
  | ok k0=>
   rw[e] at h;have h':(pE b r).bind (fun ks=>Res.ok (k0::ks))=.ok kz:=h
   cases e2:pE b r with
   | no=>rw[e2] at h';cases h'
   | err c=>rw[e2] at h';cases h'
   | ok ks=>
    rw[e2] at h';cases h'
    obtain⟨h1,h2⟩:=zBk e2;refine⟨by rw[Qk,Qk,h1],fun j k z=>?_⟩
    cases j with
    | zero=>simp at z;subst z;exact⟨d,rfl,e⟩
    | succ j=>exact h2 j k (by simpa using z)
def zGa(ρ:Rho):Res (List Int):=match ρ[0]?,ρ[1]? with
 | some (Sl.val (.lst rows)),some (Sl.val (.int b))=>if rows.length<64 then pE b rows else .no
 | _,_=>.no
def zBG(sa sb:Sv)(ds:List D):Res (List Int):=if ds.length=1 then (match sa (L3.start 3 ds) with
 | .ok (.nx ρ)=>(match sb ρ with
  | .ok (.nx ρ')=>zGa ρ'
  | _=>.no)
 | _=>.no) else .no
def zFm{b:Int}:∀ {rows:List D} {c:Str},pE b rows≠.err c
 | [],c,h=>by cases h
 | d::r,c,h=>by
  unfold pE at h
  have k0:∀ c,zKJ b d≠.err c:=fun c z=>by
   unfold zKJ at z;split at z
   ·split at z<;>cases z
   ·cases z
  cases e:zKJ b d with
  | no=>rw[e] at h;cases h
  | err c'=>exact k0 _ e
  | ok k=>
   rw[e] at h;have h':(pE b r).bind (fun ks=>Res.ok (k::ks))=.err c:=h
   cases e2:pE b r with
   | no=>rw[e2] at h';cases h'
   | err c'=>exact zFm e2
   | ok ks=>rw[e2] at h';cases h'
def zRO{sa sb:Sv}(ds:List D)(c:Str):zBG sa sb ds≠.err c:=fun h=>by
 unfold zBG zGa at h;split at h
 ·split at h
  ·split at h
   ·split at h
    ·split at h
     ·exact zFm h
     ·cases h
    ·cases h
   ·cases h
  ·cases h
 ·cases h
def zMA{sa sb:Sv}(ds:List D)(h:zBG sa sb ds≠.no):ds.length=1:=by
 unfold zBG at h;split at h
 ·assumption
 ·exact absurd rfl h
open Classical in
def pI(kz:List Int)(F:List Nat->Res Fl):Res Fl:=if h:∃ x,∀ π,gG kz π->F π=x then h.choose else .no
def zGE{kz:List Int}{F:List Nat->Res Fl}{π:List Nat}(h:pI kz F≠.no)(hπ:gG kz π):F π=pI kz F:=by
 unfold pI at h ⊢
 split at h
 ·rename_i z;rw[J6 z];exact z.choose_spec π hπ
 ·exact absurd rfl h
def zGO{kz:List Int}{F:List Nat->Res Fl}{x:Res Fl}{π:List Nat}(hπ:gG kz π)(h:∀ π,gG kz π->F π=x):pI kz F=x:=by
 have z:∃ x,∀ π,gG kz π->F π=x:=⟨x,h⟩;unfold pI;rw[J6 z,<-z.choose_spec π hπ];exact h π hπ
def zJU(fs:Fv)(kf:List D->Res (List Int))(g:Gv)(b r:Sv):Sv:=fun ρ=>((fs ρ).bind kf).bind fun kz=>pI kz fun π=>aY (fun ρ=>gE g b (kQ π) ρ) r ρ
def zRS(i:Nat)(k e:Ev)(ρ:Rho):Res Fl:=match ρ[i]? with
 | some (.own ds)=>(k ρ).bind fun j=>(e ρ).bind fun d=>match j with
  | .int j=>if 0<=j/\j<=ds.length/\ds.length<100000 then .ok (.nx (ρ.set i (.own (ds.take j.toNat++d::ds.drop j.toNat)))) else .no
  | _=>.no
 | _=>.no
abbrev Tri:=D×List D×List D
def zKS(e:Ev):Fv:=fun ρ=>(e ρ).bind fun d=>match d with
 | .lst ds=>.ok ds.reverse
 | _=>.no
def zTf:D->Res (List D)
 | .lst ds=>.ok ds.reverse
 | _=>.no
def revL_l{ds:List D}:zTf (.lst ds)=.ok ds.reverse:=rfl
def iRevL_at{e:Ev}{ρ:Rho}:zKS e ρ=(e ρ).bind zTf:=by
 unfold zKS;congr
def zRD(kz:List Int)(i j:Nat):Bool:=decide (kz.getD i 0<kz.getD j 0) || decide (kz.getD i 0=kz.getD j 0) && decide (i<=j)
def qU{kz:List Int}{i j:Nat}:zRD kz i j=true ↔ kz.getD i 0<kz.getD j 0∨kz.getD i 0=kz.getD j 0/\i<=j:=by
 unfold zRD;rw[X1,Vh,decide_eq_true_eq,decide_eq_true_eq,decide_eq_true_eq]
def zGs(kz:List Int):List Nat:=(List.range kz.length).mergeSort (zRD kz)
def zKy(kz:List Int):(zGs kz).Pairwise fun i j=>zRD kz i j=true:=
 Qad (le:=zRD kz) (fun a b c h1 h2=>by rw[qU] at *;omega) (fun a b=>by rw[X1,qU,qU];omega) _
def zJr(kz:List Int):gG kz (zGs kz):=by
 have p:(zGs kz).Perm (List.range kz.length):=Qae _ _;have nd:(zGs kz).Nodup:=p.nodup_iff.mpr List.nodup_range;have w:=zKy kz;refine⟨p,w.imp fun h=>?_,(List.Pairwise.and w nd).imp fun h=>?_⟩
 ·rw[qU] at h;omega
 ·obtain⟨h1,h2⟩:=h
  rw[qU] at h1;intro e;omega
def sJ:List D->List D->List D->List D
 | a::r,b::q,c::t=>.tup [a,b,c]::sJ r q t
 | _,_,_=>[]
def zLe(a:Fv)(ρ:Rho):Res (List D):=(a ρ).bind fun ds=>match ds with
 | [x,y,z]=>match xG x,xG y,xG z with
  | some xs,some ys,some zs=>.ok (sJ xs ys zs)
  | _,_,_=>.no
 | _=>.no
def zRa:List D->Res (List D)
 | [x,y,z]=>match xG x,xG y,xG z with
  | some xs,some ys,some zs=>.ok (sJ xs ys zs)
  | _,_,_=>.no
 | _=>.no
def iZip3_at{a:Fv}{ρ:Rho}:zLe a ρ=(a ρ).bind zRa:=by
 unfold zLe;congr
def zLl{x y z:D}{xs ys zs:List D}(hx:xG x=some xs)(hy:xG y=some ys)(hz:xG z=some zs):zRa [x,y,z]=.ok (sJ xs ys zs):=by
 show(match xG x,xG y,xG z with | some xs,some ys,some zs=>Res.ok (sJ xs ys zs) | _,_,_=>.no)=_
 rw[hx,hy,hz]
def zAu:∀(xs ys zs:List D)(i:Nat)(d:D),(sJ xs ys zs)[i]?=some d->∃ a b c,xs[i]?=some a/\ys[i]?=some b/\zs[i]?=some c/\d=.tup [a,b,c]
 | a::r,b::q,c::t,0,d,h=>by cases h;exact⟨a,b,c,rfl,rfl,rfl,rfl⟩
 | a::r,b::q,c::t,i+1,d,h=>zAu r q t i d h
 | [],_,_,i,d,h=>by cases i<;>cases h
 | a::r,[],_,i,d,h=>by cases i<;>cases h
 | a::r,b::q,[],i,d,h=>by cases i<;>cases h
end L3
namespace Fq
def zFo{a b:Int}(ha:0<=a)(hb:0<b):Int.gcd b (a % b)=Int.gcd a b:=by
 obtain⟨m,rfl⟩:=Qaf ha;obtain⟨n,rfl⟩:=Qaf (V6 hb);show Nat.gcd n (m % n)=Nat.gcd m n
 rw[Nat.gcd_comm n (m % n),Nat.gcd_comm m n,Nat.gcd_rec n m]
def dv(t b:Int):Int:=if b<0 then -(Int.gcd t b:Int) else (Int.gcd t b:Int)
def zOC{t b:Int}(hb:b≠0):0<(Int.gcd t b:Int):=by
 have h:Int.gcd t b≠0:=fun h=>hb (Int.gcd_eq_zero_iff.mp h).2
 omega
def zRj{t b:Int}(hb:b≠0):dv t b≠0:=by
 have:=zOC (t:=t) hb
 unfold dv;split<;>omega
def zAR(t b:Int):dv t b ∣ t:=by
 unfold dv;split
 ·exact Int.neg_dvd.mpr (Wf ..)
 ·exact Wf ..
def zFK(t b:Int):dv t b ∣ b:=by
 unfold dv;split
 ·exact Int.neg_dvd.mpr (Wg ..)
 ·exact Wg ..
def pM{t d:Int}(h:d ∣ t):t.fdiv d=t / d:=by
 rw[Int.fdiv_eq_ediv];simp[h]
def zA{t b:Int}(hb:b≠0):t.fdiv (dv t b)=(Rat.divInt t b).num:=by
 rw[pM (zAR t b),Rat.num_divInt,Int.gcd_comm b t];unfold dv;rcases Int.lt_trichotomy b 0 with h | h | h
 ·rw[Jk h,Int.sign_eq_neg_one_of_neg h,Int.ediv_neg]
  have:(-1:Int)*t=-t:=by omega
  rw[this,Qag (Wf ..)]
 ·exact absurd h hb
 ·rw[Jl (by omega),Int.sign_eq_one_of_pos h,Int.one_mul]
def zP{t b:Int}(hb:b≠0):b.fdiv (dv t b)=((Rat.divInt t b).den:Int):=by
 rw[pM (zFK t b),Rat.den_divInt,Jl hb,Int.gcd_comm b t];unfold dv;rcases Int.lt_trichotomy b 0 with h | h | h
 ·rw[Jk h,Int.ediv_neg,Int.natCast_ediv]
  have e:((b.natAbs:Nat):Int)=-b:=by omega
  rw[e,Qag (Wg ..)]
 ·exact absurd h hb
 ·rw[Jl (by omega),Int.natCast_ediv]
  have e:((b.natAbs:Nat):Int)=b:=by omega
  rw[e]
def dU(q:Rat):(q.den:Int)≠0:=by have:=q.den_nz;omega
def dB(q:Rat):(0:Int)<(q.den:Int):=by have:=q.den_nz;omega
def zJG(p q:Rat):Rat.divInt (p.num*q.den+q.num*p.den) (p.den*q.den)=p+q:=by
 rw[<-Rat.divInt_add_divInt _ _ (dU p) (dU q),Xi,Xi]
def zKu(p q:Rat):Rat.divInt (p.num*q.den-q.num*p.den) (p.den*q.den)=p-q:=by
 rw[<-Rat.divInt_sub_divInt _ _ (dU p) (dU q),Xi,Xi]
def zJX(p q:Rat):Rat.divInt (p.num*q.num) (p.den*q.den)=p*q:=by
 rw[<-Wh,Xi,Xi]
def zII(p q:Rat):Rat.divInt (p.num*q.den) (p.den*q.num)=p / q:=by
 rw[<-Wh,Xi,Va,Rat.inv_def]
def zMY{q:Rat}:q.num≠0 ↔ q≠0:=by
 constructor
 ·intro h e;exact h (by rw[e];rfl)
 ·intro h e;exact h (Rat.num_eq_zero.mp e)
def Sz(n:Nat)(q:Rat):Prop:=q.num.natAbs<2^n/\q.den<2^n
def Sz.mono{m n:Nat}{q:Rat}(h:Sz m q)(l:m<=n):Sz n q:=
 ⟨Qu h.1 (Vs (by decide) l),Qu h.2 (Vs (by decide) l)⟩
def zQb{t b:Int}(hb:b≠0):(Rat.divInt t b).num.natAbs<=t.natAbs:=by
 rw[<-zA hb,pM (zAR t b),Int.natAbs_ediv_of_dvd (zAR t b)];exact Nat.div_le_self ..
def zFe{t b:Int}(hb:b≠0):(Rat.divInt t b).den<=b.natAbs:=by
 rw[Rat.den_divInt,Jl hb];exact Nat.div_le_self ..
def Sz.of{n:Nat}{t b:Int}(hb:b≠0)(ht:t.natAbs<2^n)(h:b.natAbs<2^n):Sz n (Rat.divInt t b):=
 ⟨Xq (zQb hb) ht,Xq (zFe hb) h⟩
def eX{a b:Int}{m n:Nat}(ha:a.natAbs<2^m)(hb:b.natAbs<2^n):(a*b).natAbs<2^(m+n):=by
 rw[Int.natAbs_mul,Nat.pow_add];exact Nat.mul_lt_mul'' ha hb
def zRy{a b:Int}{m:Nat}(ha:a.natAbs<2^m)(hb:b.natAbs<2^m):(a+b).natAbs<2^(m+1):=by
 rw[Nat.pow_succ];omega
def zQV{a b:Int}{m:Nat}(ha:a.natAbs<2^m)(hb:b.natAbs<2^m):(a-b).natAbs<2^(m+1):=by
 rw[Nat.pow_succ];omega
def Sz.d{n:Nat}{q:Rat}(h:Sz n q):((q.den:Int)).natAbs<2^n:=h.2
def Sz.add{m n:Nat}{p q:Rat}(hp:Sz m p)(hq:Sz n q):Sz (m+n+1) (p+q):=by
 rw[<-zJG];refine Sz.of (by have:=dB p;have:=dB q;exact V7 (dU p) (dU q)) (zRy (eX hp.1 hq.d) ?_) ?_
 ·rw[Um m n];exact eX hq.1 hp.d
 ·exact Qu (eX hp.d hq.d) (Vs (by decide) (by omega))
def Sz.sub{m n:Nat}{p q:Rat}(hp:Sz m p)(hq:Sz n q):Sz (m+n+1) (p-q):=by
 rw[<-zKu];refine Sz.of (V7 (dU p) (dU q)) (zQV (eX hp.1 hq.d) ?_) ?_
 ·rw[Um m n];exact eX hq.1 hp.d
 ·exact Qu (eX hp.d hq.d) (Vs (by decide) (by omega))
def Sz.mul{m n:Nat}{p q:Rat}(hp:Sz m p)(hq:Sz n q):Sz (m+n) (p*q):=by
 rw[<-zJX];exact Sz.of (V7 (dU p) (dU q)) (eX hp.1 hq.1) (eX hp.d hq.d)
def Sz.div{m n:Nat}{p q:Rat}(hp:Sz m p)(hq:Sz n q)(h:q≠0):Sz (m+n) (p / q):=by
 rw[<-zII];exact Sz.of (V7 (dU p) (zMY.mpr h)) (eX hp.1 hq.d) (eX hp.d hq.1)
end Fq
namespace Fr
open L3 PySem Fq
local macro_rules | `(⋯)=>`(by omega)
def zDc{t:Tv}{b:Sv}{ρ:Rho}(P:Rho->Prop)(r:Rho->Nat)(Q:Res Fl->Prop)(h0:P ρ)
  (step:∀ ρ,P ρ->(t ρ=.ok false/\Q (.ok (.nx ρ)))∨(t ρ=.ok true/\∃ ρ',b ρ=.ok (.nx ρ')/\P ρ'/\r ρ' < r ρ)):Q (eS t b ρ):=by
 have main:∀ n ρ,r ρ<=n->P ρ->Q (eS t b ρ):=by
  intro n
  induction n with
  | zero=>
   intro ρ hn hp;rw[zCt];rcases step ρ hp with⟨h1,h2⟩ | ⟨h1,ρ',h2,h3,h4⟩
   ·rw[h1];exact h2
   ·omega
  | succ n ih=>
   intro ρ hn hp;rw[zCt];rcases step ρ hp with⟨h1,h2⟩ | ⟨h1,ρ',h2,h3,h4⟩
   ·rw[h1];exact h2
   ·rw[h1]
    simp only[Res.bind,if_true,h2];exact ih ρ' ⋯ h3
 exact main _ ρ (Qf _) h0
def zFz{i:Int}{m:Nat}(h:i.natAbs<2^m):nb i<=m+1:=zSU (Qu h (Vs (by decide) ⋯)) ⋯
def bN{i j:Int}{m n:Nat}(hi:i.natAbs<2^m)(hj:j.natAbs<2^n)(h:m+n<=100000000):kL i j=true:=by
 unfold kL;have h1:=zFz hi;have h2:=zFz hj;rw[X1];exact .inr (J5 ⋯)
def zOD{i j:Int}(h1:-(2^64)<j)(h2:j<2^64):kL i j=true:=by
 unfold kL;rw[X1,X1];exact .inl (.inr (by rw[J5 h1,J5 h2];rfl))
def zOP{i j:Int}(h1:-(2^64)<i)(h2:i<2^64):kL i j=true:=by
 unfold kL;rw[X1,X1];exact .inl (.inl (by rw[J5 h1,J5 h2];rfl))
def uB{j:Int}{m:Nat}(h0:j≠0)(hj:j.natAbs<2^m)(h:m<=8999):mM j=true:=by
 unfold mM;have h1:=zFz hj;rw[J5 h0,J5 (show nb j<=9000 by omega)];rfl
def zLG{i j:Int}{m:Nat}(hi:i.natAbs<2^m)(h0:0<=j)(h:((m:Int)+1)*j<=2^27):sI i j=true:=by
 unfold sI;have h1:=zFz hi;rw[J5 h0,J5 (show(nb i:Int)*j<=2^27 from Vt (Qah ⋯ h0) h)];rfl
def okDiv_lit{j:Int}(h0:0<j)(h:j<1000000000000000000):mM j=true:=uB (m:=64) ⋯ ⋯ (by decide)
def okMul_litr{i j:Int}(h1:-1000000000000000000<j)(h2:j<1000000000000000000):kL i j=true:=zOD ⋯ ⋯
def okMul_litl{i j:Int}(h1:-1000000000000000000<i)(h2:i<1000000000000000000):kL i j=true:=zOP ⋯ ⋯
def p10(n:Nat):(0:Int)<10^n:=Yg (by decide)
def p10ne(n:Nat):((10:Int)^n=0)=False:=eq_false (by have:=p10 n;omega)
def p10pos2(n:Nat):(0:Int)<2*10^n:=by have:=p10 n;omega
def p10ne2(n:Nat):((2:Int)*10^n=0)=False:=eq_false (by have:=p10 n;omega)
def okp9:sI 10 9=true:=by decide
def dq(q:Rat):D:=.tup [.int q.num,.int (q.den:Int)]
def dp(p:Rat×Rat):D:=.tup [dq p.1,dq p.2]
def eq_dq(p q:Rat):eqD (dq p) (dq q)=decide (p=q):=by
 show((p.num==q.num) && (((p.den:Int)==(q.den:Int)) && true))=decide (p=q)
 by_cases h:p=q
 ·subst h;simp
 ·rw[Jj h]
  by_cases h1:p.num=q.num
  ·have h2:p.den≠q.den:=fun e=>h (Rat.ext h1 e)
   have:((p.den:Int)==(q.den:Int))=false:=by simp;omega
   rw[this];simp
  ·simp[h1]
def dep_dq(q:Rat):dep (dq q)=1:=rfl
def ix_dq0(q:Rat):oIx (dq q) (.int 0)=.ok (.int q.num):=rfl
def ix_dq1(q:Rat):oIx (dq q) (.int 1)=.ok (.int (q.den:Int)):=rfl
def ty_dq(q:Rat):tyN (dq q) = "tuple" := rfl
def len_dq(q:Rat):nD [dq q]=.ok (.int 2):=rfl
def oEq_dq(p q:Rat):oEq (dq p) (dq q)=.ok (.bl (decide (p=q))):=by
 rw[<-eq_dq];rfl
def oNe_dq(p q:Rat):oNe (dq p) (dq q)=.ok (.bl (!decide (p=q))):=by
 rw[<-eq_dq];rfl
def noL_dq(q:Rat):noL (dq q)=true:=rfl
def zPM(p q:Rat×Rat):eqD (dp p) (dp q)=decide (p=q):=by
 show(eqD (dq p.1) (dq q.1) && (eqD (dq p.2) (dq q.2) && true))=decide (p=q)
 rw[eq_dq,eq_dq];obtain⟨a,b⟩:=p;obtain⟨c,d⟩:=q;simp
def dp_mk(a b:Rat):(.tup [dq a,dq b]:D)=dp (a,b):=rfl
def ix_dp0(p:Rat×Rat):oIx (dp p) (.int 0)=.ok (dq p.1):=rfl
def ix_dp1(p:Rat×Rat):oIx (dp p) (.int 1)=.ok (dq p.2):=rfl
def ty_dp(p:Rat×Rat):tyN (dp p) = "tuple" := rfl
def len_dp(p:Rat×Rat):nD [dp p]=.ok (.int 2):=rfl
def dep_dp(p:Rat×Rat):dep (dp p)=2:=rfl
def noL_dp(p:Rat×Rat):noL (dp p)=true:=rfl
def oEq_dp(p q:Rat×Rat):oEq (dp p) (dp q)=.ok (.bl (decide (p=q))):=by
 rw[<-zPM];rfl
def oNe_dp(p q:Rat×Rat):oNe (dp p) (dp q)=.ok (.bl (!decide (p=q))):=by
 rw[<-zPM];rfl
def fdiv_pos(a:Int){b:Int}(h:0<b):a.fdiv b=a / b:=Qai a ⋯
def fmod_pos(a:Int){b:Int}(h:0<b):a.fmod b=a % b:=Qaj a ⋯
def zNR(a:Int){b:Int}(h:0<=b):a.fdiv b=a / b:=Qai a h
def zBr(a:Int){b:Int}(h:0<=b):a.fmod b=a % b:=Qaj a h
def zFa:∀ l:List (Rat×Rat),depS (l.map dp)<=2
 | []=>Vi _
 | q::l=>by rw[Qq,depS];exact Uo.mpr ⟨Qf _,zFa l⟩
def noLs_dps:∀ l:List (Rat×Rat),noLs (l.map dp)=true
 | []=>rfl
 | q::l=>by rw[Qq,noLs,noL_dp,noLs_dps l];rfl
def nY{r:Type}{l:List r}{i:Nat}{a:r}(h:l[i]?=some a):l.take (i+1)=l.take i++[a]:=by rw[Ys,h];rfl
def zRL{b:Int}(h:0<b):(.tup [.int 1,.int b]:D)=dq (Rat.divInt 1 b):=by
 have hb:b≠0:=by omega
 have e:Fq.dv 1 b=1:=by unfold Fq.dv;rw[Jl ⋯];simp
 unfold dq;rw[<-Fq.zA hb,<-Fq.zP hb,e];simp
def zRh(k:Int):(.tup [.int k,.int 1]:D)=dq (k:Rat):=rfl
end Fr
namespace L3
open PySem
def zKs(b:Sv):Fl->Res Fl
 | .nx ρ=>b ρ
 | .ret r=>.ok (.ret r)
 | .brk ρ=>.ok (.brk ρ)
 | .ctn ρ=>.ok (.ctn ρ)
def sSeq_at{a b:Sv}{ρ:Rho}:aY a b ρ=(a ρ).bind (zKs b):=by
 unfold aY;congr;funext f;cases f<;>rfl
def ifF(a b:Sv)(ρ:Rho):Bool->Res Fl
 | true=>a ρ
 | false=>b ρ
def sIf_at{t:Tv}{a b:Sv}{ρ:Rho}:sIf t a b ρ=(t ρ).bind (ifF a b ρ):=by
 unfold sIf;congr;funext c;cases c<;>rfl
def zSv(a b:Ev)(ρ:Rho):Bool->Res D
 | true=>a ρ
 | false=>b ρ
def eIf_at{t:Tv}{a b:Ev}{ρ:Rho}:eIf t a b ρ=(t ρ).bind (zSv a b ρ):=by
 unfold eIf;congr;funext c;cases c<;>rfl
def zSg(b:Ev)(ρ:Rho):D->Res D
 | .bl true=>b ρ
 | .bl false=>.ok (.bl false)
 | _=>.no
def eAnd_at{a b:Ev}{ρ:Rho}:zTA a b ρ=(a ρ).bind (zSg b ρ):=by
 unfold zTA;congr;funext c;cases c<;>try rfl
 rename_i c;cases c<;>rfl
def orF(b:Ev)(ρ:Rho):D->Res D
 | .bl true=>.ok (.bl true)
 | .bl false=>b ρ
 | _=>.no
def eOr_at{a b:Ev}{ρ:Rho}:eOr a b ρ=(a ρ).bind (orF b ρ):=by
 unfold eOr;congr;funext c;cases c<;>try rfl
 rename_i c;cases c<;>rfl
def opF(o:Op2)(b:Ev)(ρ:Rho)(x:D):Res D:=(b ρ).bind (o x)
def eOp_at{o:Op2}{a b:Ev}{ρ:Rho}:eOp o a b ρ=(a ρ).bind (opF o b ρ):=rfl
def consG(d:D)(ds:List D):Res (List D):=.ok (d::ds)
def consF(r:Fv)(ρ:Rho)(d:D):Res (List D):=(r ρ).bind (consG d)
def aCons_at{e:Ev}{r:Fv}{ρ:Rho}:aB e r ρ=(e ρ).bind (consF r ρ):=rfl
def tupF(ds:List D):Res D:=if ds.length<=16777216 then .ok (.tup ds) else .no
def eTup_at{a:Fv}{ρ:Rho}:tG a ρ=(a ρ).bind tupF:=rfl
def rtF(r:Rt):Res D:=.ok r.d
def callF(m:Mir)(ds:List D):Res D:=(m ds).bind rtF
def eCall_at{m:Mir}{a:Fv}{ρ:Rho}:aL m a ρ=(a ρ).bind (callF m):=rfl
def isTF(T:String)(d:D):Res D:=.ok (.bl (isT T d))
def eIsT_at{T:String}{a:Ev}{ρ:Rho}:zUb T a ρ=(a ρ).bind (isTF T):=rfl
def frzF(d:D):Res D:=if noL d=true then .ok d else .no
def eFrz_at{e:Ev}{ρ:Rho}:zRX e ρ=(e (ρ.map Sl.frz)).bind frzF:=rfl
def fLstF(ds:List D):Res (List D):=if ds.length<=16777216 then .ok ds else .no
def fLst_at{a:Fv}{ρ:Rho}:mU a ρ=(a ρ).bind fLstF:=rfl
def rtFF:Rt->Res (List D)
 | .f ds=>.ok ds
 | .v _=>.no
def fcallF(m:Mir)(ds:List D):Res (List D):=(m ds).bind rtFF
def fCall_at{m:Mir}{a:Fv}{ρ:Rho}:cQ m a ρ=(a ρ).bind (fcallF m):=by
 unfold cQ fcallF;congr
def zBO:List D->Res (List D)
 | [.lst ds]=>.ok ds
 | [.tup ds]=>.ok ds
 | _=>.no
def fListF_l{ds:List D}:zBO [.lst ds]=.ok ds:=rfl
def fListF_t{ds:List D}:zBO [.tup ds]=.ok ds:=rfl
def fList_at{a:Fv}{ρ:Rho}:zOl a ρ=(a ρ).bind zBO:=rfl
def catG(x y:D):Res (List D):=match x,y with
 | .lst ds,.lst es=>if ds.length+es.length<=16777216 then .ok (ds++es) else .no
 | _,_=>.no
def catF(b:Ev)(ρ:Rho)(x:D):Res (List D):=(b ρ).bind (catG x)
def fCat_at{a b:Ev}{ρ:Rho}:zPx a b ρ=(a ρ).bind (catF b ρ):=rfl
def efF(ds:List D):Res D:=.ok (.lst ds)
def eF_at{f:Fv}{ρ:Rho}:eF f ρ=(f ρ).bind efF:=rfl
def fFrzF(ds:List D):Res (List D):=if noLs ds=true then .ok ds else .no
def fFrz_at{f:Fv}{ρ:Rho}:zPB f ρ=(f (ρ.map Sl.frz)).bind fFrzF:=rfl
def oSF:D->Res (Option Int)
 | .int i=>.ok (some i)
 | _=>.no
def oS_at{e:Ev}{ρ:Rho}:oS e ρ=(e ρ).bind oSF:=by
 unfold oS;congr
def fSlH(x:D)(l h:Option Int):Res (List D):=match x with
 | .lst ds=>.ok (dX ds l h)
 | _=>.no
def fSlG(hi:Ov)(ρ:Rho)(x:D)(l:Option Int):Res (List D):=(hi ρ).bind (fSlH x l)
def fSlF(lo hi:Ov)(ρ:Rho)(x:D):Res (List D):=(lo ρ).bind (fSlG hi ρ x)
def fSl_at{a:Ev}{lo hi:Ov}{ρ:Rho}:fSl a lo hi ρ=(a ρ).bind (fSlF lo hi ρ):=rfl
def zUo(x:D)(l h:Option Int):Res D:=match x with
 | .tup ds=>if (dX ds l h).length<ds.length then .ok (.tup (dX ds l h)) else .no
 | _=>.no
def blF:D->Res Bool
 | .bl b=>.ok b
 | _=>.no
def tVal_at{e:Ev}{ρ:Rho}:dM e ρ=(e ρ).bind blF:=by
 unfold dM;congr
def notF(b:Bool):Res Bool:=.ok (!b)
def tNotB_at{t:Tv}{ρ:Rho}:zLT t ρ=(t ρ).bind notF:=rfl
def zOu(u:Tv)(ρ:Rho):Bool->Res Bool
 | true=>u ρ
 | false=>.ok false
def tAndB_at{t u:Tv}{ρ:Rho}:xN t u ρ=(t ρ).bind (zOu u ρ):=by
 unfold xN;congr;funext c;cases c<;>rfl
def zRP(u:Tv)(ρ:Rho):Bool->Res Bool
 | true=>.ok true
 | false=>u ρ
def tOrB_at{t u:Tv}{ρ:Rho}:zMH t u ρ=(t ρ).bind (zRP u ρ):=by
 unfold zMH;congr;funext c;cases c<;>rfl
def setF(i:Nat)(ρ:Rho)(d:D):Res Fl:=.ok (.nx (ρ.set i (.val d)))
def sSet_at{i:Nat}{e:Ev}{ρ:Rho}:cU i e ρ=(e ρ).bind (setF i ρ):=rfl
def ownF(i:Nat)(ρ:Rho)(ds:List D):Res Fl:=.ok (.nx (ρ.set i (.own ds)))
def sOwn_at{i:Nat}{f:Fv}{ρ:Rho}:zBM i f ρ=(f ρ).bind (ownF i ρ):=rfl
def dropF(ρ:Rho)(_d:D):Res Fl:=.ok (.nx ρ)
def sDrop_at{e:Ev}{ρ:Rho}:tR e ρ=(e ρ).bind (dropF ρ):=rfl
def retF(d:D):Res Fl:=.ok (.ret (.v d))
def sRet_at{e:Ev}{ρ:Rho}:iQ e ρ=(e (ρ.map Sl.frz)).bind retF:=rfl
def retFF(ds:List D):Res Fl:=.ok (.ret (.f ds))
def sRetF_at{f:Fv}{ρ:Rho}:iC f ρ=(f (ρ.map Sl.frz)).bind retFF:=rfl
def raiseF(c:Str)(ds:List D):Res Fl:=if ds.length<=16777216 then .err c else .no
def sRaise_at{c:Str}{a:Fv}{ρ:Rho}:jN c a ρ=(a ρ).bind (raiseF c):=rfl
def appF(i:Nat)(ρ:Rho)(ds:List D)(d:D):Res Fl:=if ds.length<16777216 then .ok (.nx (ρ.set i (.own (ds++[d])))) else .no
def appS(i:Nat)(e:Ev)(ρ:Rho):Option Sl->Res Fl
 | some (.own ds)=>(e ρ).bind (appF i ρ ds)
 | _=>.no
def sApp_at{i:Nat}{e:Ev}{ρ:Rho}:zHx i e ρ=appS i e ρ ρ[i]?:=by
 unfold zHx appS;rfl
def extF(i:Nat)(ρ:Rho)(ds:List D)(es:List D):Res Fl:=if ds.length+es.length<=16777216 then .ok (.nx (ρ.set i (.own (ds++es)))) else .no
def extS(i:Nat)(e:Fv)(ρ:Rho):Option Sl->Res Fl
 | some (.own ds)=>(e ρ).bind (extF i ρ ds)
 | _=>.no
def sExt_at{i:Nat}{e:Fv}{ρ:Rho}:zLh i e ρ=extS i e ρ ρ[i]?:=by
 unfold zLh extS;rfl
def augF(i:Nat)(ρ:Rho)(o:Op2)(x y:D):Res Fl:=(o x y).bind (setF i ρ)
def augS(i:Nat)(o:Op2)(e:Ev)(ρ:Rho):Option Sl->Res Fl
 | some (.val x)=>(e ρ).bind (augF i ρ o x)
 | _=>.no
def sAug_at{i:Nat}{o:Op2}{e:Ev}{ρ:Rho}:zKI i o e ρ=augS i o e ρ ρ[i]?:=by
 unfold zKI augS;rfl
def dropG(ρ:Rho)(_r:Rt):Res Fl:=.ok (.nx ρ)
def setG(i:Nat)(ρ:Rho)(r:Rt):Res Fl:=.ok (.nx (ρ.set i (.val r.d)))
def varS:Option Sl->Res D
 | some (.val d)=>.ok d
 | _=>.no
def eVar_at{i:Nat}{ρ:Rho}:aE i ρ=varS ρ[i]?:=by
 unfold aE varS;rfl
def retS:Option Sl->Res Fl
 | some (.own ds)=>.ok (.ret (.f ds))
 | _=>.no
def sRetOwn_at{i:Nat}{ρ:Rho}:fF i ρ=retS ρ[i]?:=by
 unfold fF retS;rfl
def nxF(ρ:Rho):Res Fl:=.ok (.nx ρ)
def unpF(g:Gv)(ρ:Rho)(d:D):Res Fl:=(g d ρ).bind nxF
def sUnp_at{g:Gv}{f:Ev}{ρ:Rho}:zTV g f ρ=(f ρ).bind (unpF g ρ):=rfl
def gtF(gs:List D->Rho->Res Rho)(ρ:Rho):D->Res Rho
 | .tup ds=>gs ds ρ
 | _=>.no
def gTup_at{gs:List D->Rho->Res Rho}{d:D}{ρ:Rho}:zGN gs d ρ=gtF gs ρ d:=by
 unfold zGN gtF;rfl
def gCons_at{g:Gv}{r:List D->Rho->Res Rho}{d:D}{ds:List D}{ρ:Rho}:jR g r (d::ds) ρ=(g d ρ).bind (r ds):=rfl
def gNil_at{ρ:Rho}:zGU [] ρ=.ok ρ:=rfl
def forF(g:Gv)(b:Sv)(ρ:Rho)(ds:List D):Res Fl:=gE g b ds ρ
def sFor_at{it:Fv}{g:Gv}{b:Sv}{ρ:Rho}:vA it g b ρ=(it ρ).bind (forF g b ρ):=rfl
def zNd:D->Res (List D)
 | .lst ds=>.ok ds
 | .tup ds=>.ok ds
 | _=>.no
def seqD_l{ds:List D}:zNd (.lst ds)=.ok ds:=rfl
def seqD_t{ds:List D}:zNd (.tup ds)=.ok ds:=rfl
def iSeq_at{e:Ev}{ρ:Rho}:oP e ρ=(e ρ).bind zNd:=by
 unfold oP;congr
def zRH:List D->Res (List D)
 | [.int j]=>if -(2^62)<=j/\j<2^62 then .ok (rng 0 j.toNat 1) else .no
 | _=>.no
def iRng1_at{a:Fv}{ρ:Rho}:zDO a ρ=(a ρ).bind zRH:=rfl
def zRG:List D->Res (List D)
 | [.int i,.int j]=>if -(2^62)<=i/\i<2^62/\-(2^62)<=j/\j<2^62 then .ok (rng i (j-i).toNat 1) else .no
 | _=>.no
def iRng2_at{a:Fv}{ρ:Rho}:zDH a ρ=(a ρ).bind zRG:=rfl
def fn_at{p n:Nat}{b:Sv}{ds:List D}(h:ds.length=p):fn p n b ds=(b (start n ds)).bind fin:=by
 unfold fn;rw[Jk h]
def nr{r:Sort _}{a b:r}(h:a=b):a=b:=h
def okb{r s:Type}{a:r}{f:r->Res s}:(Res.ok a).bind f=f a:=nr rfl
def erb{r s:Type}{c:Str}{f:r->Res s}:(Res.err c).bind f=.err c:=nr rfl
def seqF_nx{b:Sv}{ρ:Rho}:zKs b (.nx ρ)=b ρ:=nr rfl
def seqF_ret{b:Sv}{r:Rt}:zKs b (.ret r)=.ok (.ret r):=nr rfl
def gtF_t{gs:List D->Rho->Res Rho}{ρ:Rho}{ds:List D}:gtF gs ρ (.tup ds)=gs ds ρ:=nr rfl
def ifF_t{a b:Sv}{ρ:Rho}:ifF a b ρ true=a ρ:=nr rfl
def ifF_f{a b:Sv}{ρ:Rho}:ifF a b ρ false=b ρ:=nr rfl
def eifF_t{a b:Ev}{ρ:Rho}:zSv a b ρ true=a ρ:=nr rfl
def eifF_f{a b:Ev}{ρ:Rho}:zSv a b ρ false=b ρ:=nr rfl
def andF_t{b:Ev}{ρ:Rho}:zSg b ρ (.bl true)=b ρ:=nr rfl
def andF_f{b:Ev}{ρ:Rho}:zSg b ρ (.bl false)=.ok (.bl false):=nr rfl
def orF_t{b:Ev}{ρ:Rho}:orF b ρ (.bl true)=.ok (.bl true):=nr rfl
def orF_f{b:Ev}{ρ:Rho}:orF b ρ (.bl false)=b ρ:=nr rfl
def tandF_t{u:Tv}{ρ:Rho}:zOu u ρ true=u ρ:=nr rfl
def tandF_f{u:Tv}{ρ:Rho}:zOu u ρ false=.ok false:=nr rfl
def torF_t{u:Tv}{ρ:Rho}:zRP u ρ true=.ok true:=nr rfl
def torF_f{u:Tv}{ρ:Rho}:zRP u ρ false=u ρ:=nr rfl
def oAdd_i{i j:Int}:zQ (.int i) (.int j)=.ok (.int (i+j)):=rfl
def oAddI_i{i j:Int}:zAT (.int i) (.int j)=.ok (.int (i+j)):=rfl
def oSub_i{i j:Int}:xQ (.int i) (.int j)=.ok (.int (i-j)):=rfl
def oMul_i{i j:Int}(h:kL i j=true):pU (.int i) (.int j)=.ok (.int (i*j)):=Jk h
def oDiv_i{i j:Int}(h:mM j=true):vE (.int i) (.int j)=.ok (.int (i.fdiv j)):=Jk h
def oMod_i{i j:Int}(h:j≠0):zAh (.int i) (.int j)=.ok (.int (i.fmod j)):=Jk h
def oPow_i{i j:Int}(h:sI i j=true):zMX (.int i) (.int j)=.ok (.int (i^j.toNat)):=Jk h
def oEq_i{i j:Int}:oEq (.int i) (.int j)=.ok (.bl (decide (i=j))):=rfl
def oNe_i{i j:Int}:oNe (.int i) (.int j)=.ok (.bl (!decide (i=j))):=rfl
def oLt_i{i j:Int}:oLt (.int i) (.int j)=.ok (.bl (decide (i<j))):=rfl
def oLe_i{i j:Int}:oLe (.int i) (.int j)=.ok (.bl (decide (i<=j))):=rfl
def oGt_i{i j:Int}:oGt (.int i) (.int j)=.ok (.bl (decide (j<i))):=rfl
def oGe_i{i j:Int}:oGe (.int i) (.int j)=.ok (.bl (decide (j<=i))):=rfl
def ofO_some{r:Type}{a:r}:ofO (some a)=.ok a:=rfl
def oNeg_i{i:Int}:zCg (.int i)=.ok (.int (-i)):=rfl
def oNot_b{b:Bool}:zTN (.bl b)=.ok (.bl (!b)):=rfl
def bAbs_i{i:Int}:zMF [.int i]=.ok (.int (i.natAbs:Int)):=by
 show Res.ok (D.int (if i<0 then -i else i))=_
 congr 2;split<;>omega
def bMin_i{i j:Int}:zUh [.int i,.int j]=.ok (.int (min i j)):=by
 show Res.ok (D.int (if j<i then j else i))=_
 congr 2;split<;>omega
def zEV{j:Int}(h1:-(2^62)<=j)(h2:j<2^62):zRH [.int j]=.ok (rng 0 j.toNat 1):=Jk ⟨h1,h2⟩
def zEQ{i j:Int}(h1:-(2^62)<=i)(h2:i<2^62)(h3:-(2^62)<=j)(h4:j<2^62):zRG [.int i,.int j]=.ok (rng i (j-i).toNat 1):=Jk ⟨h1,h2,h3,h4⟩
def zJp{r:Type}{g:Gv}{b:Sv}{ds:List D}{ρ:Rho}{k:Fl->Res r}{Q:Res r->Prop}(P:Rho->Prop)(h0:P ρ)
  (st:∀ d ρ,d∈ds->P ρ->∃ ρ2,(g d ρ).bind b=.ok (.nx ρ2)/\P ρ2) (fi:∀ ρ',P ρ'->Q (k (.nx ρ'))):Q ((gE g b ds ρ).bind k):=by
 suffices h:∃ ρ',gE g b ds ρ=.ok (.nx ρ')/\P ρ' by
  obtain⟨ρ',e,hp⟩:=h;rw[e];exact fi ρ' hp
 clear fi
 induction ds generalizing ρ with
 | nil=>exact⟨ρ,rfl,h0⟩
 | cons d ds ih=>
  obtain⟨ρ2,e,hp⟩:=st d ρ Qb h0;obtain⟨ρ',e',hp'⟩:=ih hp fun d' ρ' hd=>st d' ρ' (Qc _ hd)
  refine⟨ρ',?_,hp'⟩
  rw[gE]
  cases hg:g d ρ with
  | no=>rw[hg] at e;cases e
  | err c=>rw[hg] at e;cases e
  | ok ρ1=>
   rw[hg] at e;have e2:b ρ1=.ok (.nx ρ2):=e;simp only[Res.bind,e2];exact e'
def ty_i{i:Int}:tyN (.int i) = "int" := rfl
def ty_b{b:Bool}:tyN (.bl b) = "bool" := rfl
def ty_t{ds:List D}:tyN (.tup ds) = "tuple" := rfl
def ty_l{ds:List D}:tyN (.lst ds) = "list" := rfl
def ty_s{x:Str}:tyN (.str x) = "str" := rfl
def ty_n:tyN .non = "NoneType" := rfl
def bLen_t{ds:List D}:nD [.tup ds]=.ok (.int ds.length):=rfl
def bLen_l{ds:List D}:nD [.lst ds]=.ok (.int ds.length):=rfl
def bTup_t{ds:List D}:zNi [.tup ds]=.ok (.tup ds):=rfl
def bTup_l{ds:List D}:zNi [.lst ds]=.ok (.tup ds):=rfl
def kW{r:Type}{g:Gv}{b:Sv}{ds:List D}{ρ:Rho}{k:Fl->Res r}{Q:Res r->Prop}(P:Nat->Rho->Prop)(h0:P 0 ρ)
  (st:∀ i d ρ,ds[i]?=some d->P i ρ->∃ ρ2,(g d ρ).bind b=.ok (.nx ρ2)/\P (i+1) ρ2) (fi:∀ ρ',P ds.length ρ'->Q (k (.nx ρ'))):Q ((gE g b ds ρ).bind k):=by
 suffices h:∀(ds:List D)(j:Nat)(ρ:Rho),P j ρ->(∀ i d ρ,ds[i]?=some d->P (j+i) ρ->∃ ρ2,(g d ρ).bind b=.ok (.nx ρ2)/\P (j+i+1) ρ2)->∃ ρ',gE g b ds ρ=.ok (.nx ρ')/\P (j+ds.length) ρ' by
  obtain⟨ρ',e,hp⟩:=h ds 0 ρ h0 (fun i d ρ hd hp=>by rw[Vq] at hp ⊢;exact st i d ρ hd hp)
  rw[e];exact fi ρ' (by rw[Vq] at hp;exact hp)
 intro ds
 induction ds with
 | nil=>intro j ρ hp _;exact⟨ρ,rfl,hp⟩
 | cons d ds ih=>
  intro j ρ hp st;obtain⟨ρ2,e,hp2⟩:=st 0 d ρ rfl hp
  obtain⟨ρ',e',hp'⟩:=ih (j+1) ρ2 hp2 fun i d' ρ' hd hp=>by
   have:=st (i+1) d' ρ' (by simpa using hd) (by rw[show j+(i+1)=j+1+i by omega];exact hp)
   rw[show j+(i+1)=j+1+i by omega] at this;exact this
  refine⟨ρ',?_,by rw[Qk,show j+(ds.length+1)=j+1+ds.length by omega];exact hp'⟩
  rw[gE]
  cases hg:g d ρ with
  | no=>rw[hg] at e;cases e
  | err c=>rw[hg] at e;cases e
  | ok ρ1=>
   rw[hg] at e;have e2:b ρ1=.ok (.nx ρ2):=e;simp only[Res.bind,e2];exact e'
def zFF{lo c:Int}{n i:Nat}{d:D}(h:(rng lo n c)[i]?=some d):i<n/\d=.int (lo+(i:Int)*c):=by
 unfold rng at h;rw[Qt] at h;by_cases hi:i<n
 ·rw[V8 hi] at h
  cases h;exact⟨hi,rfl⟩
 ·rw[Q5 (by rw[Q3];omega)] at h
  cases h
def zFx{f:Ev}{ρ:Rho}{h:D->D}:∀ {ds:List D},(∀ d∈ds,f (ρ++[.val d])=.ok (h d))->iK iM f ρ ds=.ok (ds.map h)
 | [],_=>rfl
 | d::ds,hf=>by
  rw[iK,hf d Qb];simp only[iM,noErr,Res.bind,if_true];rw[zFx fun e he=>hf e (Qc _ he)];rfl
def zIm(t:Tv)(f:Ev)(ρ:Rho)(ds:List D):Res (List D):=if ds.length<=16777215 then iK t f ρ ds else .no
def fComp_at{it:Fv}{t:Tv}{f:Ev}{ρ:Rho}:iS it t f ρ=(it ρ).bind (zIm t f ρ):=rfl
def zDq{f:Ev}{ρ:Rho}{h:D->D}{ds:List D}(hl:ds.length<=16777215)(hf:∀ d∈ds,f (ρ++[.val d])=.ok (h d)):zIm iM f ρ ds=.ok (ds.map h):=by
 unfold zIm;rw[Jk hl,zFx hf]
def zAm{d:D}(h:dep d<=50):oNe d d=.ok (.bl false):=by unfold oNe;rw[Jk h,uC];rfl
def zAw{ds:List D}{k:Int}(h:0<=k):dX ds none (some k)=ds.take k.toNat:=by
 unfold dX cut;simp only[h,if_true,X2,Y8];rcases Yr k.toNat ds.length with l | l
 ·rw[X3 l]
 ·rw[Uq l,Vu,Xr l]
def zGp{r:Type}(l:List r)(a:Nat):l.drop (min a l.length)=l.drop a:=by
 rcases Yr a l.length with h | h
 ·rw[X3 h]
 ·rw[Uq h,List.drop_length,Y9 h]
def zIw{ds:List D}{a b:Int}(h1:0<=a)(h2:0<=b):dX ds (some a) (some b)=(ds.drop a.toNat).take (b.toNat-a.toNat):=by
 unfold dX cut;simp only[h1,h2,if_true];rw[zGp];rcases Yr ds.length a.toNat with c | c
 ·rw[Y9 c,Ua,Ua]
 ·rw[X3 c]
  rcases Yr b.toNat ds.length with d | d
  ·rw[X3 d]
  ·rw[Uq d,Xr (by rw[Q9];exact Qf _),Xr (by rw[Q9];exact Nat.sub_le_sub_right d _)]
def yX{ds:List D}{a:Int}(h1:0<=a):dX ds (some a) none=ds.drop a.toNat:=by
 unfold dX cut;simp only[h1,if_true];rw[zGp,Xr (by rw[Q9];omega)]
def kE{r:Type}{f:r->D}{l:List r}{i:Int}{a:r}(h0:0<=i)(h:l[i.toNat]?=some a):oIx (.lst (l.map f)) (.int i)=.ok (f a):=by
 show ofO (atD (l.map f) i)=_
 unfold atD;rw[Jk h0,Qt,h];rfl
def popS(i:Nat)(ρ:Rho):Option Sl->Res Fl
 | some (.own ds)=>if ds.length=0 then .no else .ok (.nx (ρ.set i (.own ds.dropLast)))
 | _=>.no
def sPop_at{i:Nat}{ρ:Rho}:zQq i ρ=popS i ρ ρ[i]?:=by unfold zQq popS;rfl
def oIx_tc{d:D}{ds:List D}{i:Int}:oIx (.tup (d::ds)) (.int i)=ofO (atD (d::ds) i):=rfl
def pL{r:Type}{f:r->D}{l:List r}{i:Int}{a:r}(h0:0<=i)(h:l[i.toNat]?=some a):oIx (.tup (l.map f)) (.int i)=.ok (f a):=by
 show ofO (atD (l.map f) i)=_
 unfold atD;rw[Jk h0,Qt,h];rfl
def zNn{r:Type}{f:r->D}{l:List r}{k:Nat}{a:r}(h0:0<k)(h:k<=l.length)(h2:l[l.length-k]?=some a):atD (l.map f) (-(k:Int))=some (f a):=by
 unfold atD;rw[Jl (by omega),Qe,Jk (by omega),show((l.length:Int)+-(k:Int)).toNat=l.length-k by omega,Qt,h2];rfl
def zDV{r:Type}{f:r->D}{l:List r}{k:Nat}{i:Int}{a:r}(hi:i=-(k:Int))(h0:0<k)(h:k<=l.length)(h2:l[l.length-k]?=some a):oIx (.lst (l.map f)) (.int i)=.ok (f a):=by
 show ofO (atD (l.map f) i)=_
 rw[hi,zNn h0 h h2];rfl
def zIf{r:Type}{f:r->D}{l:List r}{k:Nat}{i:Int}{a:r}(hi:i=-(k:Int))(h0:0<k)(h:k<=l.length)(h2:l[l.length-k]?=some a):oIx (.tup (l.map f)) (.int i)=.ok (f a):=by
 show ofO (atD (l.map f) i)=_
 rw[hi,zNn h0 h h2];rfl
def zSo(ds:List D):D->Res (List D)
 | .int k=>if 0<=k/\k<2^62/\ds.length*k.toNat<=16777216 then .ok (List.replicate k.toNat ds).flatten else .no
 | _=>.no
def repF(g:Ev)(ρ:Rho)(ds:List D):Res (List D):=(g ρ).bind (zSo ds)
def fRep_at{f:Fv}{g:Ev}{ρ:Rho}:zNI f g ρ=(f ρ).bind (repF g ρ):=by
 unfold zNI repF;congr
def zEZ{d:D}{k:Nat}(h:k<=16777216):zSo [d] (.int (k:Int))=.ok (List.replicate k d):=by
 have e:∀ n,(List.replicate n [d]).flatten=List.replicate n d:=by
  intro n
  induction n with
  | zero=>rfl
  | succ n ih=>rw[X0,Yf,ih];rfl
 unfold zSo;dsimp only
 rw[Jk ⟨by omega,by omega,by simp only[Qk,Ub,Vd];omega⟩,Vd,e]
def zKk{r:Type}{u:r->D}{f:Ev}{ρ:Rho}{g:r->D}:∀ {l:List r},(∀ a∈l,f (ρ++[.val (u a)])=.ok (g a))->iK iM f ρ (l.map u)=.ok (l.map g)
 | [],_=>rfl
 | a::l,h=>by
  rw[Qq,iK,h a Qb];simp only[iM,noErr,Res.bind,if_true];rw[zKk fun b hb=>h b (Qc _ hb)];rfl
def dQ{r:Type}{u:r->D}{f:Ev}{ρ:Rho}{g:r->D}{l:List r}(hl:l.length<=16777215)(h:∀ a∈l,f (ρ++[.val (u a)])=.ok (g a)):zIm iM f ρ (l.map u)=.ok (l.map g):=by
 unfold zIm;rw[Jk (by rw[Qe];exact hl),zKk h]
def bSum_l{ns:List Int}:zCU [.lst (ns.map D.int)]=.ok (.int ns.sum):=by
 have e:∀ ns:List Int,oO (ns.map D.int)=some ns:=by
  intro ns
  induction ns with
  | nil=>rfl
  | cons i ns ih=>rw[Qq,oO,ih]
 show(match oO (ns.map D.int) with | some ns=>Res.ok (D.int ns.sum) | none=>.no)=_
 rw[e]
def bSum_t{ns:List Int}:zCU [.tup (ns.map D.int)]=.ok (.int ns.sum):=by
 have e:∀ ns:List Int,oO (ns.map D.int)=some ns:=by
  intro ns
  induction ns with
  | nil=>rfl
  | cons i ns ih=>rw[Qq,oO,ih]
 show(match oO (ns.map D.int) with | some ns=>Res.ok (D.int ns.sum) | none=>.no)=_
 rw[e]
def slI(i:Nat)(ρ:Rho):Int:=match ρ[i]? with
 | some (.val (.int x))=>x
 | _=>0
def chO_s{c:Nat}:chO (some c)=.ok (.str ⟨#[c]⟩):=rfl
def zRf{x:Str}:dep (.str x)<=50:=by simp[dep]
def oEq_s{x y:Str}:oEq (.str x) (.str y)=.ok (.bl (x==y)):=by
 unfold oEq;rw[Jk zRf,eqD]
def oNe_s{x y:Str}:oNe (.str x) (.str y)=.ok (.bl (!(x==y))):=by
 unfold oNe;rw[Jk zRf,eqD]
def dD{g:Gv}{b:Sv}{d:D}{ds:List D}{ρ ρ1 ρ2:Rho}(hg:g d ρ=.ok ρ1)(hb:b ρ1=.ok (.nx ρ2)):gE g b (d::ds) ρ=gE g b ds ρ2:=by
 rw[gE];simp only[hg,Res.bind,hb]
def oTabNot_s{T:List (Str×Str)}{x:Str}:rO T (.str x)=.ok (.bl (!(T.lookup x).isSome)):=rfl
def zCR{r:Type}(p:r->Int):∀ l:List r,oO (l.map fun a=>D.int (p a))=some (l.map p)
 | []=>rfl
 | a::l=>by rw[Qq,oO,zCR p l];rfl
def mx0:List Int->Int
 | []=>0
 | a::r=>zAZ a r
def zCw{s:Type}{p:s->Int}{l:List s}(h:0<l.length):zBP [.lst (l.map fun a=>D.int (p a))]=.ok (.int (mx0 (l.map p))):=by
 show(match oO (l.map fun a=>D.int (p a)) with | some (a::r)=>Res.ok (D.int (zAZ a r)) | _=>.no)=_
 rw[zCR]
 cases l with
 | nil=>cases h
 | cons a r=>rfl
def zTr:List D->Res (List D)
 | [x,y]=>match xG x,xG y with
  | some xs,some ys=>.ok (kU xs ys)
  | _,_=>.no
 | _=>.no
def iZip_at{a:Fv}{ρ:Rho}:zMM a ρ=(a ρ).bind zTr:=by
 unfold zMM;congr
def pQ{x y:D}{xs ys:List D}(hx:xG x=some xs)(hy:xG y=some ys):zTr [x,y]=.ok (kU xs ys):=by
 show(match xG x,xG y with | some xs,some ys=>Res.ok (kU xs ys) | _,_=>.no)=_
 rw[hx,hy]
def zKe(f:Ev)(ρ:Rho)(ds:List D):Res (List D):=if ds.length<=16777215 then gF f ρ ds else .no
def fComp2_at{it:Fv}{f:Ev}{ρ:Rho}:wM it f ρ=(it ρ).bind (zKe f ρ):=rfl
def zFu{r s:Type}{u:r->D}{v:s->D}{f:Ev}{ρ:Rho}{g:r->s->D}:∀ {l:List r} {m:List s},(∀ p∈l.zip m,f (ρ++[.val (u p.1),.val (v p.2)])=.ok (g p.1 p.2))->
  gF f ρ (kU (l.map u) (m.map v))=.ok ((l.zip m).map fun p=>g p.1 p.2)
 | [],m,h=>by cases m<;>rfl
 | a::l,[],h=>rfl
 | a::l,b::m,h=>by
  have h1:=h (a,b) Qb;have h2:=zFu (l:=l) (m:=m) (u:=u) (v:=v) (g:=g) fun p hp=>h p (Qc _ hp)
  show(noErr (f (ρ++[.val (u a),.val (v b)]))).bind (fun e=>(gF f ρ (kU (l.map u) (m.map v))).bind fun es=>.ok (e::es))=_
  rw[h1,h2];rfl
def mY{r s:Type}{u:r->D}{v:s->D}{f:Ev}{ρ:Rho}{g:r->s->D}{l:List r}{m:List s}(hl:l.length<=16777215)(h:∀ p∈l.zip m,f (ρ++[.val (u p.1),.val (v p.2)])=.ok (g p.1 p.2)):
  zKe f ρ (kU (l.map u) (m.map v))=.ok ((l.zip m).map fun p=>g p.1 p.2):=by
 unfold zKe;rw[Jk,zFu h]
 have:∀(a b:List D),(kU a b).length<=a.length:=by
  intro a
  induction a with
  | nil=>intro b;cases b<;>exact Qf _
  | cons x a ih=>intro b;cases b with
   | nil=>exact Vi _
   | cons y b=>exact Wi (ih b)
 exact Q4 (this _ _) (by rw[Qe];exact hl)
def zTg(hi:Ov)(ρ:Rho)(x:D)(l:Option Int):Res D:=(hi ρ).bind fun h=>slQ l h x
def slQF(lo hi:Ov)(ρ:Rho)(x:D):Res D:=(lo ρ).bind (zTg hi ρ x)
def eSlQ_at{a:Ev}{lo hi:Ov}{ρ:Rho}:zSD a lo hi ρ=(a ρ).bind (slQF lo hi ρ):=rfl
def zSq(x:D)(l h:Option Int):Res D:=slQ l h x
def slQE_at{hi:Ov}{ρ:Rho}{x:D}{l:Option Int}:zTg hi ρ x l=(hi ρ).bind (zSq x l):=rfl
def slQG_l{ds:List D}{l h:Option Int}:zSq (.lst ds) l h=.ok (.lst (dX ds l h)):=rfl
def slQG_t{ds:List D}{l h:Option Int}:zSq (.tup ds) l h=.ok (.tup (dX ds l h)):=rfl
end L3
namespace Ln
open Fq
abbrev Pt:=Rat×Rat
def asc(a b:Pt):Prop:=a.1<b.1/\a.2<=b.2
def btw(a b c:Pt):Bool:=decide ((b.2-a.2)*(c.1-b.1)=(c.2-b.2)*(b.1-a.1))
def push:List Pt->Pt->List Pt
 | b::a::s,c=>if btw a b c=true then c::a::s else c::b::a::s
 | s,c=>c::s
def zHt{s:List Pt}{c:Pt}(h:¬ 1<s.length):push s c=c::s:=by
 match s,h with
 | [],_=>rfl
 | [b],_=>rfl
 | b::a::s,h=>exact absurd (show 1<s.length+2 by omega) h
def jT(ps:List Pt):List Pt:=(ps.foldl push []).reverse
def few:Pt->List Pt->List Pt
 | _,[]=>[]
 | _,[b]=>[b]
 | a,b::c::r=>if btw a b c=true then few b (c::r) else b::few b (c::r)
def xF:List Pt->List Pt
 | []=>[]
 | a::r=>a::few a r
def dir(a p b:Pt):Prop:=a.1<b.1/\p.1<b.1/\(b.2-a.2)*(b.1-p.1)=(b.2-p.2)*(b.1-a.1)
def jP{x a b:Rat}(h:x≠0)(e:a*x=b*x):a=b:=by
 have:a*x*x⁻¹=b*x*x⁻¹:=by rw[e]
 rw[Rat.mul_assoc,Rat.mul_assoc,V9 _ h,Rat.mul_one,Rat.mul_one] at this;exact this
def wV{a p b c:Pt}(h:dir a p b):btw a b c=btw p b c:=by
 obtain⟨h1,h2,h3⟩:=h;unfold btw;have n1:b.1-a.1≠0:=by grind
 have n2:b.1-p.1≠0:=by grind
 congr 1
 apply propext
 constructor
 ·intro e
  refine jP n1 ?_
  grind
 ·intro e
  refine jP n2 ?_
  grind
def zDS{a b c:Pt}(h:a.1<b.1)(k:b.1<c.1)(e:btw a b c=true):dir a b c:=by
 have e:=J7 e;refine⟨by grind,k,?_⟩
 grind
def zBx:∀(r:List Pt)(p b a:Pt)(s:List Pt),dir a p b->(b::r).Pairwise asc->(r.foldl push (b::a::s)).reverse=(a::s).reverse++few p (b::r)
 | [],p,b,a,s,_,_=>by simp[few]
 | c::r,p,b,a,s,h,hp=>by
  have hbc:asc b c:=(Qp.mp hp).1 c Qb;have hr:=(Qp.mp hp).2;rw[Wc,push,few,wV h];by_cases e:btw p b c=true
  ·rw[Jk e,Jk e]
   exact zBx r b c a s (zDS h.1 hbc.1 (by rw[wV h];exact e)) hr
  ·rw[Jl e,Jl e,zBx r b c b (a::s) ⟨hbc.1,hbc.1,rfl⟩ hr]
   simp
def mW{ps:List Pt}(h:ps.Pairwise asc):jT ps=xF ps:=by
 unfold jT
 match ps,h with
 | [],_=>rfl
 | [a],_=>rfl
 | a::b::r,h=>
  have hab:=(Qp.mp h).1 b Qb;show(r.foldl push [b,a]).reverse=_
  rw[zBx r a b a [] ⟨hab.1,hab.1,rfl⟩ (Qp.mp h).2];rfl
def zES:∀(r:List Pt)(a:Pt),(few a r).Sublist r
 | [],_=>List.Sublist.slnil
 | [b],_=>List.Sublist.refl _
 | b::c::r,a=>by
  rw[few];split
  ·exact(zES (c::r) b).cons b
  ·exact(zES (c::r) b).cons₂ b
def zZ(ps:List Pt):(xF ps).Sublist ps:=by
 cases ps with
 | nil=>exact List.Sublist.slnil
 | cons a r=>exact(zES r a).cons₂ a
def zFt:∀(r:List Pt)(a:Pt),(few a r).getLast?=r.getLast?
 | [],_=>rfl
 | [b],_=>rfl
 | b::c::r,a=>by
  have ih:=zFt (c::r) b;rw[few];split
  ·rw[ih];rfl
  ·rw[Yh,ih]
   simp[Yh]
def zDX(ps:List Pt):(xF ps).getLast?=ps.getLast?:=by
 cases ps with
 | nil=>rfl
 | cons a r=>rw[xF,Yh,zFt,Yh]
def zHv:List Pt->Prop
 | a::b::c::r=>btw a b c=false/\zHv (b::c::r)
 | _=>True
def zFW:∀(r:List Pt)(a:Pt),zHv (a::r)->few a r=r
 | [],_,_=>rfl
 | [b],_,_=>rfl
 | b::c::r,a,h=>by
  rw[few,h.1,zFW (c::r) b h.2];rfl
def zDY{ps:List Pt}(h:zHv ps):xF ps=ps:=by
 cases ps with
 | nil=>rfl
 | cons a r=>rw[xF,zFW r a h]
def zFd:∀(r:List Pt)(p b:Pt),(p::b::r).Pairwise asc->∃ d t,few p (b::r)=d::t/\b.1<=d.1/\(d.2-p.2)*(b.1-p.1)=(b.2-p.2)*(d.1-p.1)
 | [],p,b,_=>⟨b,[],rfl,Qh,rfl⟩
 | c::r,p,b,h=>by
  have h1:=Qp.mp h;have h2:=Qp.mp h1.2;have pb:=h1.1 b Qb;have bc:=h2.1 c Qb;rw[few];by_cases e:btw p b c=true
  ·rw[Jk e]
   obtain⟨d,t,e1,l,e2⟩:=zFd r b c h1.2;have e3:=J7 e;refine⟨d,t,e1,by grind [asc],?_⟩
   have n:c.1-b.1≠0:=by grind [asc]
   refine jP n ?_
   have e4:(d.2-b.2)*(b.1-p.1)=(b.2-p.2)*(d.1-b.1):=by
    refine jP n ?_
    grind
   grind
  ·rw[Jl e]
   exact⟨b,_,rfl,Qh,rfl⟩
def zAF:∀(r:List Pt)(a p b:Pt),dir a p b->(b::r).Pairwise asc->(p::b::r).Pairwise asc->zHv (a::few p (b::r))
 | [],a,p,b,_,_,_=>by simp[few,zHv]
 | c::r,a,p,b,h,hb,hp=>by
  have bc:=(Qp.mp hb).1 c Qb;have hc:=(Qp.mp hb).2;rw[few];by_cases e:btw p b c=true
  ·rw[Jk e]
   exact zAF r a b c (zDS h.1 bc.1 (by rw[wV h];exact e)) hc hb
  ·rw[Jl e]
   have ih:=zAF r b b c ⟨bc.1,bc.1,rfl⟩ hc hb;obtain⟨d,t,e1,l,e2⟩:=zFd r b c hb;rw[e1] at ih ⊢
   refine⟨?_,ih⟩
   rw[wV h];rw[Bool.eq_false_iff];intro z;apply e
   have z:=J7 z;refine J5 ?_
   have n:d.1-b.1≠0:=by grind [asc]
   refine jP n ?_
   grind
def zEa{ps:List Pt}(h:ps.Pairwise asc):zHv (xF ps):=by
 match ps,h with
 | [],_=>trivial
 | [a],_=>trivial
 | a::b::r,h=>
  have hab:=(Qp.mp h).1 b Qb;exact zAF r a a b ⟨hab.1,hab.1,rfl⟩ (Qp.mp h).2 h
def Ok(ps:List Pt):Prop:=ps.head?=some (0,0)/\ps.Pairwise asc
def zLx(ps:List Pt):Prop:=Ok ps/\zHv ps
def jE{ps:List Pt}(h:Ok ps):zLx (jT ps):=by
 rw[mW h.2];refine⟨⟨?_,h.2.sublist (zZ ps)⟩,zEa h.2⟩
 obtain⟨h,_⟩:=h
 cases ps with
 | nil=>cases h
 | cons a r=>exact h
def zEF{ps:List Pt}(h:zLx ps):jT ps=ps:=by rw[mW h.1.2,zDY h.2]
def lB{ps:List Pt}(h:ps.Pairwise asc){i j:Nat}{a b:Pt}(l:i<j)(ha:ps[i]?=some a)(hb:ps[j]?=some b):asc a b:=by
 obtain⟨hi,rfl⟩:=Qy.mp ha;obtain⟨hj,rfl⟩:=Qy.mp hb;exact Yt.mp h i j hi hj l
def lt_iff{p q:Rat}:p.num*q.den<q.num*p.den ↔ p<q:=Rat.lt_iff p q |>.symm
def itp(p q:Pt)(x:Rat):Rat:=p.2+(x-p.1) / (q.1-p.1)*(q.2-p.2)
def aO:List Pt->Rat->Rat
 | [],_=>0
 | [p],_=>p.2
 | p::q::r,x=>if x<=q.1 then itp p q x else aO (q::r) x
def zOY(p q:Pt):itp p q p.1=p.2:=by
 unfold itp;rw[Rat.sub_self,Va,Wj,Wj,Ur]
def zNS{p q:Pt}(h:p.1<q.1):itp p q q.1=q.2:=by
 unfold itp;have n:q.1-p.1≠0:=by grind
 rw[Va,V9 _ n,Wk];grind
def bF:∀ {ps:List Pt},ps.Pairwise asc->∀ {i:Nat} {p:Pt},ps[i]?=some p->aO ps p.1=p.2
 | [],_,i,p,hp=>by cases hp
 | [a],_,i,p,hp=>by
  cases i with
  | zero=>cases hp;rfl
  | succ i=>cases hp
 | a::b::r,h,i,p,hp=>by
  have hab:=(Qp.mp h).1 b Qb;rw[aO]
  match i,hp with
  | 0,hp=>
   cases hp;rw[Jk (Qg hab.1),zOY]
  | 1,hp=>
   cases hp;rw[Jk Qh,zNS hab.1]
  | i+2,hp=>
   have hb:asc b p:=lB h (show 1<i+2 by omega) rfl hp
   rw[Jl (by have:=hb.1;grind)];exact bF (Qp.mp h).2 (i:=i+1) hp
def bX:∀ {ps:List Pt},ps.Pairwise asc->∀ {i:Nat} {p q:Pt} {x:Rat},ps[i]?=some p->ps[i+1]?=some q->p.1<=x->x<=q.1->aO ps x=itp p q x
 | [],_,i,p,q,x,hp,_,_,_=>by cases hp
 | [a],_,i,p,q,x,hp,hq,_,_=>by cases hq
 | a::b::r,h,i,p,q,x,hp,hq,h1,h2=>by
  have hab:=(Qp.mp h).1 b Qb
  cases i with
  | zero=>
   cases hp;cases hq;rw[aO,Jk h2]
  | succ i=>
   have hr:=(Qp.mp h).2;by_cases c:x=p.1
   ·subst c
    rw[zOY];exact bF h hp
   ·rw[aO,Jl]
    ·exact bX hr (i:=i) hp hq h1 h2
    ·intro z
     cases i with
     | zero=>
      cases hp;exact c (by grind)
     | succ i=>
      have hb:asc b p:=lB h (show 1<i+1+1 by omega) rfl hp
      have:=hb.1
      grind
def ax:Bool->Pt->Rat
 | false,p=>p.1
 | true,p=>p.2
def axi:Bool->Int
 | false=>0
 | true=>1
def kR{ps:List Pt}(h:ps.Pairwise asc)(b:Bool){i j:Nat}{p q:Pt}(l:i<=j)(hp:ps[i]?=some p)(hq:ps[j]?=some q):ax b p<=ax b q:=by
 rcases X4 l with l | l
 ·have:=lB h l hp hq
  cases b
  ·exact Qg this.1
  ·exact this.2
 ·subst l
  rw[hp] at hq;cases hq;exact Qh
def tJ:∀ {ps:List Pt} {e:Pt} {x:Rat},ps.Pairwise asc->ps.getLast?=some e->(∀ p,ps.head?=some p->p.1<=x)->x<=e.1->
  (∃(i:Nat)(p:Pt),ps[i]?=some p/\p.1=x)∨∃(i:Nat)(p q:Pt),ps[i]?=some p/\ps[i+1]?=some q/\p.1<x/\x<q.1
 | [],e,x,_,he,_,_=>by cases he
 | [a],e,x,_,he,h0,h1=>by
  cases he;have:=h0 a rfl
  exact .inl ⟨0,a,rfl,by grind⟩
 | a::b::r,e,x,h,he,h0,h1=>by
  have ha:=h0 a rfl;by_cases c:a.1=x
  ·exact .inl ⟨0,a,rfl,c⟩
  by_cases d:x<b.1
  ·exact .inr ⟨0,a,b,rfl,rfl,by grind,d⟩
  ·rcases tJ (Qp.mp h).2 (by rw[<-he];simp[Yh]) (fun p hp=>by cases hp;grind) h1 with⟨i,p,h2,h3⟩ | ⟨i,p,q,h2,h3,h4⟩
   ·exact .inl ⟨i+1,p,h2,h3⟩
   ·exact .inr ⟨i+1,p,q,h2,h3,h4⟩
def zAp{p q:Pt}(h:asc p q){x y:Rat}(l:x<=y):itp p q x<=itp p q y:=by
 unfold itp;have n:0<(q.1-p.1)⁻¹:=Rat.inv_pos.mpr (by have:=h.1;grind)
 rw[Va,Va];have m1:(x-p.1)*(q.1-p.1)⁻¹<=(y-p.1)*(q.1-p.1)⁻¹:=Vv (by grind) (Qg n)
 have m2:=Vv m1 (show 0<=q.2-p.2 by have:=h.2;grind)
 grind
def rY{p q:Pt}(h:asc p q){x:Rat}(h1:p.1<=x)(h2:x<=q.1):p.2<=itp p q x/\itp p q x<=q.2:=by
 have a:=zAp h h1;have b:=zAp h h2;rw[zOY] at a;rw[zNS h.1] at b;exact⟨a,b⟩
def eY{ps:List Pt}{e:Pt}(h:Ok ps)(he:ps.getLast?=some e){x y:Rat}(h0:0<=x)(l:x<=y)(h1:y<=e.1):aO ps x<=aO ps y:=by
 obtain⟨hh,hp⟩:=h;have hd:∀ z,0<=z->∀ p,ps.head?=some p->p.1<=z:=fun z hz p hp=>by rw[hh] at hp;cases hp;exact hz
 have key:∀ {i j:Nat} {p q:Pt},i<=j->ps[i]?=some p->ps[j]?=some q->p.2<=q.2:=fun l hp' hq'=>kR hp true l hp' hq'
 have kx:∀ {i j:Nat} {p q:Pt},ps[i]?=some p->ps[j]?=some q->p.1<q.1->i<j:=by
  intro i j p q hp' hq' l;rcases Nat.lt_or_ge i j with g | g
  ·exact g
  ·have:=kR hp false g hq' hp'
   exact absurd (show q.1<=p.1 from this) (by grind)
 rcases tJ hp he (hd x h0) (by grind) with⟨i,p,ip,ep⟩ | ⟨i,p,q,ip,iq,lp,lq⟩
 ·rcases tJ hp he (hd y (by grind)) h1 with⟨j,u,ju,eu⟩ | ⟨j,u,v,ju,jv,lu,lv⟩
  ·rw[<-ep,<-eu,bF hp ip,bF hp ju]
   by_cases c:p.1=u.1
   ·have a1:=bF hp ip
    have a2:=bF hp ju;rw[c,a2] at a1;rw[a1];exact Qh
   ·exact key (Xn (kx ip ju (by grind))) ip ju
  ·rw[<-ep,bF hp ip,bX hp ju jv (Qg lu) (Qg lv)]
   have huv:=lB hp (Vn j) ju jv;have b:=rY huv (Qg lu) (Qg lv);have:i<j+1:=kx ip jv (by grind)
   have:=key (show i<=j by omega) ip ju
   grind
 ·rcases tJ hp he (hd y (by grind)) h1 with⟨j,u,ju,eu⟩ | ⟨j,u,v,ju,jv,lu,lv⟩
  ·rw[<-eu,bF hp ju,bX hp ip iq (Qg lp) (Qg lq)]
   have hpq:=lB hp (Vn i) ip iq;have b:=rY hpq (Qg lp) (Qg lq);have:i<j:=kx ip ju (by grind)
   have:=key (show i+1<=j by omega) iq ju
   grind
  ·rw[bX hp ip iq (Qg lp) (Qg lq),bX hp ju jv (Qg lu) (Qg lv)]
   have hpq:=lB hp (Vn i) ip iq;have huv:=lB hp (Vn j) ju jv;have g1:i<j+1:=kx ip jv (by grind)
   rcases X4 (show i<=j by omega) with g | g
   ·have b1:=rY hpq (Qg lp) (Qg lq)
    have b2:=rY huv (Qg lu) (Qg lv);have:=key (show i+1<=j by omega) iq ju
    grind
   ·subst g
    rw[ip] at ju;rw[iq] at jv;cases ju;cases jv;exact zAp hpq l
def wY{ps:List Pt}{e:Pt}(h:Ok ps)(he:ps.getLast?=some e){x:Rat}(h0:0<=x)(h1:x<=e.1):0<=aO ps x/\aO ps x<=e.2:=by
 have z:aO ps 0=0:=bF h.2 (i:=0) (p:=(0,0)) (by rw[<-Xs];exact h.1)
 have t:aO ps e.1=e.2:=bF h.2 (i:=ps.length-1) (by rw[<-Vj];exact he)
 have e0:0<=e.1:=by grind
 have a:=eY h he (Qh) h0 h1;have b:=eY h he h0 h1 Qh;grind
def zHd{a b c:Pt}(h1:a.1<b.1)(h2:b.1<c.1)(e:btw a b c=true):(b.2-a.2) / (b.1-a.1)=(c.2-a.2) / (c.1-a.1)/\(c.2-b.2) / (c.1-b.1)=(c.2-a.2) / (c.1-a.1):=by
 have e:=J7 e;have n1:b.1-a.1≠0:=by grind
 have n2:c.1-b.1≠0:=by grind
 have n3:c.1-a.1≠0:=by grind
 have i1:=V9 _ n1;have i2:=V9 _ n2;have i3:=V9 _ n3;rw[Va,Va,Va];constructor
 ·refine jP n1 (jP n3 ?_)
  grind
 ·refine jP n2 (jP n3 ?_)
  grind
def dY(p q:Pt)(x:Rat):itp p q x=p.2+(x-p.1)*((q.2-p.2) / (q.1-p.1)):=by
 unfold itp;rw[Va,Va];grind
def zMf{a b c:Pt}(h1:a.1<b.1)(h2:b.1<c.1)(e:btw a b c=true)(x:Rat):itp a b x=itp a c x/\itp b c x=itp a c x:=by
 obtain⟨s1,s2⟩:=zHd h1 h2 e;rw[dY,dY,dY,s1,s2];refine⟨rfl,?_⟩
 have n1:b.1-a.1≠0:=by grind
 have i1:=V9 _ n1;rw[<-s1,Va];generalize (b.1-a.1)⁻¹=u at i1;grind
def zLp{a b c:Pt}{r:List Pt}(h1:a.1<b.1)(h2:b.1<c.1)(e:btw a b c=true)(x:Rat):aO (a::b::c::r) x=aO (a::c::r) x:=by
 obtain⟨e1,e2⟩:=zMf h1 h2 e x;rw[aO,aO,aO,e1,e2];by_cases c1:x<=b.1
 ·rw[Jk c1,Jk (by grind)]
 ·rw[Jl c1]
def zEq:∀(r:List Pt)(a p b:Pt)(x:Rat),dir a p b->(b::r).Pairwise asc->aO (a::few p (b::r)) x=aO (a::b::r) x
 | [],a,p,b,x,_,_=>rfl
 | c::r,a,p,b,x,h,hb=>by
  have bc:=(Qp.mp hb).1 c Qb;have hc:=(Qp.mp hb).2;rw[few];by_cases e:btw p b c=true
  ·have e':btw a b c=true:=by rw[wV h];exact e
   rw[Jk e,zEq r a b c x (zDS h.1 bc.1 e') hc,zLp h.1 bc.1 e']
  ·show _=(if x<=b.1 then itp a b x else aO (b::c::r) x)
   rw[Jl e,aO,zEq r b b c x ⟨bc.1,bc.1,rfl⟩ hc]
def rQ{ps:List Pt}(h:ps.Pairwise asc)(x:Rat):aO (jT ps) x=aO ps x:=by
 rw[mW h]
 match ps,h with
 | [],_=>rfl
 | [a],_=>rfl
 | a::b::r,h=>
  have hab:=(Qp.mp h).1 b Qb;exact zEq r a a b x ⟨hab.1,hab.1,rfl⟩ (Qp.mp h).2
def pA{ps:List Pt}(h:ps.Pairwise asc):(jT ps).getLast?=ps.getLast?:=by rw[mW h,zDX]
def jD{ps:List Pt}(h:ps.Pairwise asc):(jT ps).Sublist ps:=by rw[mW h];exact zZ ps
def zBQ{C:List Rat}(h:C.Pairwise (· < ·))(h0:(0:Rat)∈C)(hn:∀ x∈C,0<=x):C.head?=some 0:=by
 cases C with
 | nil=>cases h0
 | cons a C=>
  rcases Qd.mp h0 with e | e
  ·rw[<-e];rfl
  ·have h1:=(Qp.mp h).1 0 e
   have h2:=hn a Qb;grind
def zHW{C:List Rat}{e L:Rat}(h:C.Pairwise (· < ·))(he:C.getLast?=some e)(hL:L∈C)(hn:∀ x∈C,x<=L):e=L:=by
 obtain⟨j,hj⟩:=Xt.mp hL;rw[Vj] at he;have hjl:=(Qy.mp hj).1;have h1:=hn e (Qi he);rcases X4 (show j<=C.length-1 by omega) with l | l
 ·obtain⟨hi,e1⟩:=Qy.mp hj
  obtain⟨hi2,e2⟩:=Qy.mp he;have:=Yt.mp h j (C.length-1) hi hi2 l
  rw[e1,e2] at this;grind
 ·subst l
  rw[he] at hj;cases hj;rfl
def zGZ(ps qs:List Pt)(C:List Rat):List Pt:=C.map fun x=>(x,aO ps x+aO qs x)
def zDJ{ps:List Pt}(h:ps.Pairwise asc):(ps.map Prod.fst).Pairwise (· < ·):=Xa.mpr (h.imp fun a=>a.1)
def cW{ps:List Pt}{e p:Pt}(h:Ok ps)(he:ps.getLast?=some e)(hp:p∈ps):0<=p.1/\p.1<=e.1/\0<=p.2/\p.2<=e.2:=by
 obtain⟨i,hi⟩:=Xt.mp hp;have hil:=(Qy.mp hi).1;have h0:ps[0]?=some (0,0):=by rw[<-Xs];exact h.1
 rw[Vj] at he;have a1:(0:Rat)<=p.1:=kR h.2 false (Vi i) h0 hi;have a2:(0:Rat)<=p.2:=kR h.2 true (Vi i) h0 hi;have b1:p.1<=e.1:=kR h.2 false (show i<=ps.length-1 by omega) hi he
 have b2:p.2<=e.2:=kR h.2 true (show i<=ps.length-1 by omega) hi he
 exact⟨a1,b1,a2,b2⟩
def zJe{ps qs:List Pt}{e f:Pt}{C:List Rat}(hp:Ok ps)(hq:Ok qs)(he:ps.getLast?=some e)(hf:qs.getLast?=some f)(hL:e.1=f.1)(hC:C.Pairwise (· < ·))(hm:∀ y,y∈C ↔ y∈ps.map Prod.fst∨y∈qs.map Prod.fst):
  Ok (zGZ ps qs C)/\(zGZ ps qs C).getLast?=some (e.1,e.2+f.2)/\∀ x∈C,0<=x/\x<=e.1:=by
 have bd:∀ x∈C,0<=x/\x<=e.1:=by
  intro x hx;rcases (hm x).mp hx with h | h
  ·obtain⟨p,hp1,rfl⟩:=Ql.mp h
   have:=cW hp he hp1
   exact⟨this.1,this.2.1⟩
  ·obtain⟨p,hp1,rfl⟩:=Ql.mp h
   have:=cW hq hf hp1
   exact⟨this.1,by rw[hL];exact this.2.1⟩
 have z0:(0:Rat)∈C:=(hm 0).mpr (.inl (Ql.mpr ⟨(0,0),Qak (by rw[hp.1];rfl),rfl⟩))
 have zL:e.1∈C:=(hm _).mpr (.inl (Ql.mpr ⟨e,Wl he,rfl⟩));have v0:∀ {ls:List Pt},Ok ls->aO ls 0=0:=fun {ls} h=>bF h.2 (i:=0) (p:=(0,0)) (by rw[<-Xs];exact h.1)
 have vL:∀ {ls:List Pt} {u:Pt},Ok ls->ls.getLast?=some u->aO ls u.1=u.2:=fun {ls u} h hu=>bF h.2 (i:=ls.length-1) (by rw[<-Vj];exact hu)
 refine⟨⟨?_,?_⟩,?_,bd⟩
 ·unfold zGZ
  rw[Yu,zBQ hC z0 fun x hx=>(bd x hx).1];show some (0,aO ps 0+aO qs 0)=_
  rw[v0 hp,v0 hq,Ur]
 ·unfold zGZ
  refine Xa.mpr (X5 ?_ hC)
  intro a b ha hb hab;refine⟨hab,?_⟩
  have h1:=eY hp he (bd a ha).1 (Qg hab) (bd b hb).2;have h2:=eY hq hf (bd a ha).1 (Qg hab) (by rw[<-hL];exact(bd b hb).2)
  show aO ps a+aO qs a<=aO ps b+aO qs b
  grind
 ·unfold zGZ
  rw[Xu]
  cases hc:C.getLast? with
  | none=>rw[Qal] at hc;rw[hc] at z0;cases z0
  | some u=>
   have:u=e.1:=zHW hC hc zL fun x hx=>(bd x hx).2
   subst this;show some (e.1,aO ps e.1+aO qs e.1)=_
   rw[vL hp he,show aO qs e.1=f.2 by rw[hL];exact vL hq hf]
def uV{ps:List Pt}{e:Pt}{a b x:Rat}(h:Ok ps)(he:ps.getLast?=some e)(h0:0<=a)(hab:a<b)(hb:b<=e.1)(hno:∀ p∈ps,a<p.1->b<=p.1)(hx:a<=x)(xb:x<=b):
  (aO ps x-aO ps a)*(b-a)=(aO ps b-aO ps a)*(x-a):=by
 have key:∃(i:Nat)(p q:Pt),ps[i]?=some p/\ps[i+1]?=some q/\p.1<=a/\b<=q.1:=by
  rcases tJ h.2 he (fun p hp=>by rw[h.1] at hp;cases hp;exact h0) (show a<=e.1 by grind) with⟨i,p,ip,ep⟩ | ⟨i,p,q,ip,iq,lp,lq⟩
  ·have hi:=(Qy.mp ip).1
   have hl:i+1<ps.length:=by
    rcases Nat.lt_or_ge (i+1) ps.length with l | l
    ·exact l
    ·rw[Vj,show ps.length-1=i by omega,ip] at he
     cases he;grind
   have iq:ps[i+1]?=some ps[i+1]:=Qm hl;have:=(lB h.2 (Vn i) ip iq).1
   exact⟨i,p,ps[i+1],ip,iq,by grind,hno _ (Qi iq) (by grind)⟩
  ·exact⟨i,p,q,ip,iq,Qg lp,hno _ (Qi iq) lq⟩
 obtain⟨i,p,q,ip,iq,l1,l2⟩:=key;rw[bX h.2 ip iq l1 (by grind),bX h.2 ip iq (show p.1<=x by grind) (by grind),bX h.2 ip iq (show p.1<=b by grind) l2];rw[dY,dY,dY];grind
def sE(ps qs:List Pt)(C:List Rat):List Pt:=C.map fun t=>(t,aO ps (aO qs t))
structure Joints (ps qs:List Pt) (f:Pt) (C:List Rat):Prop where
 asc:C.Pairwise (· < ·)
 own:∀ q∈qs,q.1∈C
 hit:∀ p∈ps,∃ t∈C,aO qs t=p.1
 bd:∀ t∈C,0<=t/\t<=f.1
def zFi{ps qs:List Pt}{e f:Pt}{C:List Rat}(hp:Ok ps)(hq:Ok qs)(he:ps.getLast?=some e)(hf:qs.getLast?=some f)(hL:e.1=f.2)(J:Joints ps qs f C):
  Ok (sE ps qs C)/\(sE ps qs C).getLast?=some (f.1,e.2):=by
 have z0:(0:Rat)∈C:=J.own (0,0) (Qak (by rw[hq.1];rfl))
 have zL:f.1∈C:=J.own f (Wl hf);have v0:∀ {ls:List Pt},Ok ls->aO ls 0=0:=fun {ls} h=>bF h.2 (i:=0) (p:=(0,0)) (by rw[<-Xs];exact h.1)
 have vL:∀ {ls:List Pt} {u:Pt},Ok ls->ls.getLast?=some u->aO ls u.1=u.2:=fun {ls u} h hu=>bF h.2 (i:=ls.length-1) (by rw[<-Vj];exact hu)
 refine⟨⟨?_,?_⟩,?_⟩
 ·unfold sE
  rw[Yu,zBQ J.asc z0 fun x hx=>(J.bd x hx).1];show some (0,aO ps (aO qs 0))=_
  rw[v0 hq,v0 hp]
 ·unfold sE
  refine Xa.mpr (X5 ?_ J.asc)
  intro a b ha hb hab;have b1:=wY hq hf (J.bd a ha).1 (J.bd a ha).2;have b2:=wY hq hf (J.bd b hb).1 (J.bd b hb).2;exact⟨hab,eY hp he b1.1 (eY hq hf (J.bd a ha).1 (Qg hab) (J.bd b hb).2) (by rw[hL];exact b2.2)⟩
 ·unfold sE
  rw[Xu]
  cases hc:C.getLast? with
  | none=>rw[Qal] at hc;rw[hc] at z0;cases z0
  | some u=>
   have:u=f.1:=zHW J.asc hc zL fun x hx=>(J.bd x hx).2
   subst this;show some (f.1,aO ps (aO qs f.1))=_
   rw[vL hq hf,<-hL,vL hp he]
def zJF{ps qs:List Pt}{e f:Pt}{C:List Rat}(hp:Ok ps)(hq:Ok qs)(he:ps.getLast?=some e)(hf:qs.getLast?=some f)(hL:e.1=f.2)(J:Joints ps qs f C){x:Rat}(h0:0<=x)(h1:x<=f.1):
  aO (sE ps qs C) x=aO ps (aO qs x):=by
 obtain⟨ok,la⟩:=zFi hp hq he hf hL J
 have at':∀ {i:Nat} {u:Pt},(sE ps qs C)[i]?=some u->C[i]?=some u.1/\u.2=aO ps (aO qs u.1):=by
  intro i u hu;unfold sE at hu;rw[Qt] at hu
  cases hc:C[i]? with
  | none=>rw[hc] at hu;cases hu
  | some c=>rw[hc] at hu;cases hu;exact⟨rfl,rfl⟩
 rcases tJ ok.2 la (fun p hp=>by rw[ok.1] at hp;cases hp;exact h0) h1 with⟨i,u,iu,eu⟩ | ⟨i,u,v,iu,iv,lu,lv⟩
 ·obtain⟨_,e2⟩:=at' iu
  rw[<-eu,bF ok.2 iu,e2]
 ·obtain⟨c1,e1⟩:=at' iu
  obtain⟨d1,e2⟩:=at' iv;rw[bX ok.2 iu iv (Qg lu) (Qg lv)];have hC:=J.asc
  have out:∀ t∈C,t<=u.1∨v.1<=t:=by
   intro t ht;obtain⟨j,hj⟩:=Xt.mp ht
   have lt:∀ {i j:Nat} {a b:Rat},i<j->C[i]?=some a->C[j]?=some b->a<b:=by
    intro i j a b l ha hb;obtain⟨hi,rfl⟩:=Qy.mp ha;obtain⟨hj,rfl⟩:=Qy.mp hb;exact Yt.mp hC i j hi hj l
   rcases Us j i with l | l | l
   ·exact .inl (Qg (lt l hj c1))
   ·subst l;rw[hj] at c1;cases c1;exact .inl Qh
   ·rcases X4 (show i+1<=j by omega) with l | l
    ·exact .inr (Qg (lt l d1 hj))
    ·subst l;rw[hj] at d1;cases d1;exact .inr Qh
  have bu:=J.bd u.1 (Qi c1);have bv:=J.bd v.1 (Qi d1);have luv:u.1<v.1:=by grind
  have l2:=uV hq hf bu.1 luv bv.2 (fun p hp l=>by
   rcases out p.1 (J.own p hp) with z | z
   ·grind
   ·exact z) (Qg lu) (Qg lv)
  have mA:=eY hq hf bu.1 (Qg lu) (show x<=f.1 by grind)
  have mB:=eY hq hf (show 0<=x by grind) (Qg lv) bv.2
  have nA:=wY hq hf bu.1 bu.2;have nB:=wY hq hf bv.1 bv.2;have n:v.1-u.1≠0:=by grind
  have i1:=V9 _ n;unfold itp;rw[e1,e2,Va]
  have fin:(aO ps (aO qs x)-aO ps (aO qs u.1))*(v.1-u.1)=(aO ps (aO qs v.1)-aO ps (aO qs u.1))*(x-u.1):=by
   by_cases c:aO qs u.1=aO qs v.1
   ·have:aO qs x=aO qs u.1:=by grind
    rw[this,<-c];grind
   ·have AB:aO qs u.1<aO qs v.1:=by grind
    have l1:=uV hp he nA.1 AB (by rw[hL];exact nB.2) (fun p hp' l=>by
     obtain⟨t,ht,et⟩:=J.hit p hp';have bt:=J.bd t ht;rcases out t ht with z | z
     ·have:=eY hq hf bt.1 z bu.2
      grind
     ·have:=eY hq hf bv.1 z bt.2
      grind) mA mB
    have nn:aO qs v.1-aO qs u.1≠0:=by grind
    refine jP nn ?_
    grind
  generalize (v.1-u.1)⁻¹=w at i1;refine jP n ?_
  grind
def zGb(ps:List Pt)(y r:Rat):Prop:=∃(k:Nat)(q:Pt),ps[k]?=some q/\(∀(j:Nat)(p:Pt),j<k->ps[j]?=some p->p.2<y)/\
 ((q.2=y/\r=q.1)∨(0<k/\y<q.2/\∃ p:Pt,ps[k-1]?=some p/\p.2<y/\r=itp (p.2,p.1) (q.2,q.1) y))
def zGb.val{ps:List Pt}{e:Pt}{y r:Rat}(h:Ok ps)(he:ps.getLast?=some e)(u:zGb ps y r):aO ps r=y/\0<=r/\r<=e.1:=by
 obtain⟨k,q,hq,hj,c⟩:=u;have bq:=cW h he (Qi hq);rcases c with⟨c1,rfl⟩ | ⟨k0,l,p,hp,lp,rfl⟩
 ·exact⟨by rw[bF h.2 hq,c1],bq.1,bq.2.1⟩
 ·have bp:=cW h he (Qi hp)
  have hq':ps[k-1+1]?=some q:=by rw[show k-1+1=k by omega];exact hq
  have pq:=lB h.2 (Vn (k-1)) hp hq';have sw:asc (p.2,p.1) (q.2,q.1):=⟨by show p.2<q.2;grind,Qg pq.1⟩
  have b:=rY sw (x:=y) (Qg lp) (Qg l);have b1:p.1<=itp (p.2,p.1) (q.2,q.1) y:=b.1;have b2:itp (p.2,p.1) (q.2,q.1) y<=q.1:=b.2;refine⟨?_,by grind,by grind⟩
  rw[bX h.2 hp hq' b1 b2];have n1:q.1-p.1≠0:=by have:=pq.1;grind
  have n2:q.2-p.2≠0:=by grind
  have i1:=V9 _ n1;have i2:=V9 _ n2;unfold itp;dsimp only
  rw[Va,Va];generalize (q.1-p.1)⁻¹=a at i1;generalize (q.2-p.2)⁻¹=b at i2;grind
def oI{a p:Pt}{r:List Pt}(h:(a::p::r).Pairwise asc){x:Rat}(hx:p.1<=x):aO (a::p::r) x=aO (p::r) x:=by
 have hp:=(Qp.mp h).2;have ap:=(Qp.mp h).1 p Qb;rw[aO];by_cases c:x<=p.1
 ·have e:x=p.1:=by grind
  rw[Jk c,e,zNS ap.1];exact(bF hp (i:=0) rfl).symm
 ·rw[Jl c]
def zCv{a p q e f:Pt}{r s:List Pt}(hr:(a::p::r).Pairwise asc)(hs:(a::q::s).Pairwise asc)(br:zHv (a::p::r))(er:(a::p::r).getLast?=some e)(es:(a::q::s).getLast?=some f)(ef:e.1=f.1)
  (hv:∀ x,a.1<=x->x<=e.1->aO (a::p::r) x=aO (a::q::s) x):¬ p.1<q.1:=by
 intro l;have ap:=(Qp.mp hr).1 p Qb;have aq:=(Qp.mp hs).1 q Qb
 have qf:q.1<=f.1:=by
  rw[Vj] at es;exact kR hs false (i:=1) (show 1<=(a::q::s).length-1 by simp) rfl es
 cases r with
 | nil=>
  cases er;have:p.1=f.1:=ef
  grind
 | cons u r=>
  have hp:=(Qp.mp hr).2;have pu:=(Qp.mp hp).1 u Qb
  have ue:u.1<=e.1:=by
   rw[Vj] at er;exact kR hr false (i:=2) (show 2<=(a::p::u::r).length-1 by simp) rfl er
  have key:∀ x,p.1<x->x<=u.1->x<=q.1->btw a p u=true:=by
   intro x h1 h2 h3;have v1:=hv p.1 (Qg ap.1) (by grind)
   have v2:=hv x (by have:=ap.1;grind) (by grind)
   rw[oI hr Qh,bF hp (i:=0) rfl,aO,Jk (Qg l)] at v1;rw[oI hr (Qg h1),aO,Jk h2,aO,Jk h3] at v2;rw[dY] at v1;rw[dY,dY] at v2;generalize (q.2-a.2) / (q.1-a.1)=k at v1 v2;have n1:x-p.1≠0:=by grind
   have n2:u.1-p.1≠0:=by have:=pu.1;grind
   have i2:=V9 _ n2;rw[Va] at v2;generalize (u.1-p.1)⁻¹=w at i2 v2
   have s1:(u.2-p.2)*w=k:=by
    refine jP n1 ?_
    grind
   refine J5 ?_
   have s2:u.2-p.2=k*(u.1-p.1):=by
    have:(u.2-p.2)*w*(u.1-p.1)=k*(u.1-p.1):=by rw[s1]
    grind
   grind
  have nb:=br.1;by_cases c:u.1<=q.1
  ·rw[key u.1 pu.1 Qh c] at nb
   cases nb
  ·rw[key q.1 l (by grind) Qh] at nb
   cases nb
def zFb:∀(r s:List Pt)(a e f:Pt),(a::r).Pairwise asc->(a::s).Pairwise asc->zHv (a::r)->zHv (a::s)->(a::r).getLast?=some e->(a::s).getLast?=some f->e.1=f.1->
  (∀ x,a.1<=x->x<=e.1->aO (a::r) x=aO (a::s) x)->r=s
 | [],[],_,_,_,_,_,_,_,_,_,_,_=>rfl
 | [],q::s,a,e,f,_,hs,_,_,er,es,ef,_=>by
  cases er;rw[Vj] at es;have:=(lB hs (i:=0) (show 0<(a::q::s).length-1 by simp) rfl es).1
  grind
 | p::r,[],a,e,f,hr,_,_,_,er,es,ef,_=>by
  cases es;rw[Vj] at er;have:=(lB hr (i:=0) (show 0<(a::p::r).length-1 by simp) rfl er).1
  grind
 | p::r,q::s,a,e,f,hr,hs,br,bs,er,es,ef,hv=>by
  have n1:=zCv hr hs br er es ef hv;have n2:=zCv hs hr bs es er ef.symm fun x h1 h2=>(hv x h1 (by rw[ef];exact h2)).symm
  have pq:p.1=q.1:=by grind
  have hp:=(Qp.mp hr).2;have hq:=(Qp.mp hs).2;have ap:=(Qp.mp hr).1 p Qb
  have pe:p.1<=e.1:=by
   have er':=er;rw[Vj] at er';exact kR hr false (i:=1) (show 1<=(a::p::r).length-1 by simp) rfl er'
  have v:=hv p.1 (Qg ap.1) pe;rw[oI hr Qh,bF hp (i:=0) rfl,oI hs (show q.1<=p.1 by grind),pq,bF hq (i:=0) rfl] at v;have e1:p=q:=Prod.ext pq v;subst e1
  have br':zHv (p::r):=by
   cases r with
   | nil=>trivial
   | cons u r=>exact br.2
  have bs':zHv (p::s):=by
   cases s with
   | nil=>trivial
   | cons u s=>exact bs.2
  rw[zFb r s p e f hp hq br' bs' (by rw[<-er];simp[Yh]) (by rw[<-es];simp[Yh]) ef fun x h1 h2=>by
   have:=hv x (by have:=ap.1;grind) h2
   rw[oI hr h1,oI hs h1] at this
   exact this]
def zNL{ps qs:List Pt}{e f:Pt}(hp:zLx ps)(hq:zLx qs)(he:ps.getLast?=some e)(hf:qs.getLast?=some f)(ef:e.1=f.1)(hv:∀ x,0<=x->x<=e.1->aO ps x=aO qs x):ps=qs:=by
 cases ps with
 | nil=>cases he
 | cons a r=>
  cases qs with
  | nil=>cases hf
  | cons b s=>
   have h1:=hp.1.1;have h2:=hq.1.1;cases h1;cases h2;rw[zFb r s (0,0) e f hp.1.2 hq.1.2 hp.2 hq.2 he hf ef hv]
def zRv{p q:Pt}(h1:p.1<q.1)(h2:p.2<q.2){x y:Rat}(l:x<y):itp p q x<itp p q y:=by
 have n:0<(q.1-p.1)⁻¹:=Rat.inv_pos.mpr (by grind)
 have s:0<(q.2-p.2)*(q.1-p.1)⁻¹:=Rat.mul_pos (by grind) n
 rw[dY,dY,Va];have:=Rat.mul_lt_mul_of_pos_right (show x-p.1<y-p.1 by grind) s
 grind
def zGb.least{ps:List Pt}{e:Pt}{y r:Rat}(h:Ok ps)(he:ps.getLast?=some e)(u:zGb ps y r){t:Rat}(t0:0<=t)(l:t<r):aO ps t<y:=by
 have hv:=u.val h he;obtain⟨k,q,hq,hj,c⟩:=u;have h00:ps[0]?=some (0,0):=by rw[<-Xs];exact h.1
 have k0:0<k:=by
  rcases Wm k with z | z
  ·subst z
   rw[h00] at hq;cases hq;rcases c with⟨_,c⟩ | ⟨c,_⟩
   ·have:r=0:=c
    grind
   ·exact absurd c (by decide)
  ·exact z
 have hkl:=(Qy.mp hq).1;have hp:ps[k-1]?=some ps[k-1]:=Qm (by omega)
 have hq':ps[k-1+1]?=some q:=by rw[show k-1+1=k by omega];exact hq
 have lp:=hj _ _ (show k-1<k by omega) hp
 have pq:=lB h.2 (Vn (k-1)) hp hq';have vp:=bF h.2 hp;generalize ps[k-1]=p at hp lp pq vp
 have yq:y<=q.2:=by
  rcases c with⟨c,_⟩ | ⟨_,c,_⟩
  ·rw[c];exact Qh
  ·exact Qg c
 have rq:r<=q.1:=by
  rcases c with⟨_,c⟩ | ⟨_,c1,p',hp',lp',c⟩
  ·rw[c];exact Qh
  ·rw[c]
   rw[hp] at hp';cases hp'
   have sw:asc (p.2,p.1) (q.2,q.1):=⟨by show p.2<q.2;grind,Qg pq.1⟩
   exact(rY sw (x:=y) (Qg lp) yq).2
 by_cases c1:t<=p.1
 ·have bp:=cW h he (Qi hp)
  have:=eY h he t0 c1 bp.2.1
  grind
 ·have e1:=bX h.2 hp hq' (x:=t) (by grind) (by grind)
  have e2:=bX h.2 hp hq' (x:=r) (by grind) rq
  have:=zRv pq.1 (show p.2<q.2 by grind) l
  rw[e1];rw[e2] at hv;grind
def zGb.uniq{ps:List Pt}{e:Pt}{y r r':Rat}(h:Ok ps)(he:ps.getLast?=some e)(u:zGb ps y r)(v:aO ps r'=y)(r0:0<=r')(lt:∀ t,0<=t->t<r'->aO ps t<y):r=r':=by
 have hv:=u.val h he;by_cases l:r<r'
 ·have:=lt r hv.2.1 l
  grind
 ·by_cases l2:r' < r
  ·have:=u.least h he r0 l2
   grind
  ·grind
end Ln
namespace L3
open PySem PySem.Spec PyProof.Rows L2
abbrev St:=L2.St
mutual
inductive IsD (K:PySem.W.Frag) (H:Hp):V->D->Prop where
 | non:IsD K H .non .non
 | bl (b:Bool):IsD K H (.bl b) (.bl b)
 | int (i:Int):IsD K H (.int i) (.int i)
 | str (x:Str):IsD K H (.str x) (.str x)
 | tup {a:Jc} {xs:List V} {ds:List D}:SqT K H a xs->IsDs K H xs ds->IsD K H (.ref a) (.tup ds)
 | lst {a:Jc} {xs:List V} {ds:List D}:SqL K H a xs->IsDs K H xs ds->IsD K H (.ref a) (.lst ds)
inductive IsDs (K:PySem.W.Frag) (H:Hp):List V->List D->Prop where
 | nil:IsDs K H [] []
 | cons {v:V} {d:D} {vs:List V} {ds:List D}:IsD K H v d->IsDs K H vs ds->IsDs K H (v::vs) (d::ds)
end
def _root_.L2.Same.rd{H H':Hp}(e:Same H H'){a:Jc}{u:HO}(h:Rd H a u):Rd H' a u:=by
 rcases h with h | ⟨o,h⟩
 ·exact .inl (e _ _ h)
 ·exact .inr ⟨o,e _ _ h⟩
def bV{K:Fg_}{H H':Hp}(e:Same H H'){a:Jc}{xs:List V}(h:SqT K H a xs):SqT K H' a xs:=h.imp (Same.rd e) id
def cJ{K:Fg_}{H H':Hp}(e:Same H H'){a:Jc}{xs:List V}(h:SqL K H a xs):SqL K H' a xs:=h.imp (Same.rd e) id
section
variable{K:Fg_}{H H':Hp}
mutual
def IsD.mono(e:Same H H'):∀ {v:V} {d:D},IsD K H v d->IsD K H' v d
 | _,_,.non=>.non
 | _,_,.bl b=>.bl b
 | _,_,.int i=>.int i
 | _,_,.str x=>.str x
 | _,_,.tup h hs=>.tup (bV e h) (IsDs.mono e hs)
 | _,_,.lst h hs=>.lst (cJ e h) (IsDs.mono e hs)
def IsDs.mono(e:Same H H'):∀ {vs:List V} {ds:List D},IsDs K H vs ds->IsDs K H' vs ds
 | _,_,.nil=>.nil
 | _,_,.cons h hs=>.cons (IsD.mono e h) (IsDs.mono e hs)
end
def IsDs.length:∀ {vs:List V} {ds:List D},IsDs K H vs ds->vs.length=ds.length
 | _,_,.nil=>rfl
 | _,_,.cons _ hs=>by rw[Qk,Qk,IsDs.length hs]
def IsDs.at:∀ {vs:List V} {ds:List D} {j:Nat} {d:D},IsDs K H vs ds->ds[j]?=some d->∃ v,vs[j]?=some v/\IsD K H v d
 | _,_,_,_,.nil,e=>by simp at e
 | _,_,0,_,.cons r _,e=>by simp at e;subst e;exact⟨_,rfl,r⟩
 | _,_,j+1,d,.cons _ t,e=>by
  obtain⟨v,h1,h2⟩:=IsDs.at (j:=j) (d:=d) t (by simpa using e)
  exact⟨v,by simpa using h1,h2⟩
def IsDs.append:∀ {vs ws:List V} {ds es:List D},IsDs K H vs ds->IsDs K H ws es->IsDs K H (vs++ws) (ds++es)
 | _,_,_,_,.nil,s=>s
 | _,_,_,_,.cons r t,s=>.cons r (IsDs.append t s)
def IsDs.take:∀ {vs:List V} {ds:List D} (n:Nat),IsDs K H vs ds->IsDs K H (vs.take n) (ds.take n)
 | _,_,0,_=>.nil
 | _,_,_+1,.nil=>.nil
 | _,_,n+1,.cons r t=>.cons r (IsDs.take n t)
def IsDs.drop:∀ {vs:List V} {ds:List D} (n:Nat),IsDs K H vs ds->IsDs K H (vs.drop n) (ds.drop n)
 | _,_,0,r=>r
 | _,_,_+1,.nil=>.nil
 | _,_,n+1,.cons _ t=>IsDs.drop n t
def IsDs.dropLast:∀ {vs:List V} {ds:List D},IsDs K H vs ds->IsDs K H vs.dropLast ds.dropLast
 | _,_,.nil=>.nil
 | _,_,.cons _ .nil=>.nil
 | _,_,.cons r (.cons q t)=>.cons r (IsDs.dropLast (.cons q t))
def IsDs.set{v:V}{d:D}(h:IsD K H v d):∀ {vs:List V} {ds:List D} (j:Nat),IsDs K H vs ds->IsDs K H (vs.set j v) (ds.set j d)
 | _,_,_,.nil=>.nil
 | _,_,0,.cons _ t=>.cons h t
 | _,_,j+1,.cons q t=>.cons q (IsDs.set h j t)
mutual
def IsD.noL(k:∀ b xs,Rd H b (.tup xs)->Rd H' b (.tup xs)):∀ {v:V} {d:D},IsD K H v d->L3.noL d=true->IsD K H' v d
 | _,_,.non,_=>.non
 | _,_,.bl b,_=>.bl b
 | _,_,.int i,_=>.int i
 | _,_,.str x,_=>.str x
 | _,_,.tup h hs,e=>.tup (h.imp (k _ _) id) (IsDs.noL k hs (by rw[L3.noL] at e;exact e))
 | _,_,.lst h hs,e=>by rw[L3.noL] at e;cases e
def IsDs.noL(k:∀ b xs,Rd H b (.tup xs)->Rd H' b (.tup xs)):∀ {vs:List V} {ds:List D},IsDs K H vs ds->L3.noLs ds=true->IsDs K H' vs ds
 | _,_,.nil,_=>.nil
 | _,_,.cons h hs,e=>by
  rw[L3.noLs,Vh] at e;exact .cons (IsD.noL k h e.1) (IsDs.noL k hs e.2)
end
end
def IsD.intI{K:Fg_}{H:Hp}{v:V}{i:Int}(h:IsD K H v (.int i)):v=.int i:=by cases h;rfl
def IsD.blI{K:Fg_}{H:Hp}{v:V}{b:Bool}(h:IsD K H v (.bl b)):v=.bl b:=by cases h;rfl
def IsD.strI{K:Fg_}{H:Hp}{v:V}{x:Str}(h:IsD K H v (.str x)):v=.str x:=by cases h;rfl
def IsD.tupI{K:Fg_}{H:Hp}{v:V}{ds:List D}(h:IsD K H v (.tup ds)):∃ a xs,v=.ref a/\SqT K H a xs/\IsDs K H xs ds:=by
 cases h with
 | tup h hs=>exact⟨_,_,rfl,h,hs⟩
def IsD.lstI{K:Fg_}{H:Hp}{v:V}{ds:List D}(h:IsD K H v (.lst ds)):∃ a xs,v=.ref a/\SqL K H a xs/\IsDs K H xs ds:=by
 cases h with
 | lst h hs=>exact⟨_,_,rfl,h,hs⟩
def tU:Str := "ranked.<locals>.<lambda>"
def zDz(P:Jc)(H:Hp):Prop:=∃ ps,H P=some (.tbl ps)/\TriplesOk ps.toList/\∀(pos:Pos)(cv:Ja),codeAmong pos ps.toList=some cv->∃ c oc vs t u,cv=.ref c/\H c=some (.frz oc u)/\oc.data=.fields vs/\vs[1]?=some (.str tU t)
def zDz.put{P a:Jc}{H:Hp}{x:HO}(h:zDz P H)(h1:∀ ps,H a≠some (.tbl ps))(h2:∀ o u,H a≠some (.frz o u)):zDz P (upd H a x):=by
 obtain⟨ps,e,t,k⟩:=h;refine⟨ps,by rw[aV (show P≠a from fun z=>h1 ps (by rw[<-z];exact e))];exact e,t,fun pos cv q=>?_⟩
 obtain⟨c,oc,vs,tk,u,r1,r2,r3⟩:=k pos cv q;exact⟨c,oc,vs,tk,u,r1,by rw[aV (show c≠a from fun z=>h2 oc u (by rw[<-z];exact r2))];exact r2,r3⟩
structure Keep (H H':Hp):Prop where
 k:∀ b o,H b=some o->H' b=some o∨∃ ps ps',o=.tbl ps/\H' b=some (.tbl ps')
 t:∀ P,zDz P H->zDz P H'
def Keep.refl(H:Hp):Keep H H:=⟨fun _ _ e=>.inl e,fun _ e=>e⟩
def Keep.trans{H H1 H2:Hp}(a:Keep H H1)(b:Keep H1 H2):Keep H H2:=
 ⟨fun c o e=>by
  rcases a.k c o e with z | ⟨ps,ps',rfl,z⟩
  ·exact b.k c o z
  ·rcases b.k c _ z with y | ⟨qs,qs',_,y⟩
   ·exact .inr ⟨ps,ps',rfl,y⟩
   ·exact .inr ⟨ps,qs',rfl,y⟩,fun P e=>b.t P (a.t P e)⟩
def Keep.at{H H':Hp}(k:Keep H H'){b:Jc}{o:HO}(e:H b=some o)(ho:∀ ps,o≠.tbl ps:=by intro ps z;cases z):H' b=some o:=by
 rcases k.k b o e with z | ⟨ps,ps',z,_⟩
 ·exact z
 ·exact absurd z (ho ps)
def Keep.none{H H':Hp}(k:Keep H H'){p:Jc}(e:H' p=none):H p=none:=by
 cases z:H p with
 | none=>rfl
 | some o=>rcases k.k p o z with y | ⟨_,_,_,y⟩<;>(rw[y] at e;cases e)
structure Ext (Hi H Hi' H':Hp):Prop where
 i:Same Hi Hi'
 h:Keep H H'
 s:Same Hi' H'
 n:∀ b,Hi b=none->Hi' b≠none->H b=none
def Ext.refl{Hi H:Hp}(h:Same Hi H):Ext Hi H Hi H:=⟨Same.refl _,Keep.refl _,h,fun _ e q=>absurd e q⟩
def Ext.trans{Hi H Hi1 H1 Hi2 H2:Hp}(a:Ext Hi H Hi1 H1)(b:Ext Hi1 H1 Hi2 H2):Ext Hi H Hi2 H2:=
 ⟨a.i.trans b.i,a.h.trans b.h,b.s,fun c e q=>by
  cases z:Hi1 c with
  | some o=>exact a.n c e (by rw[z];exact fun w=>by cases w)
  | none=>
   have z2:=b.n c z q
   exact a.h.none z2⟩
def bY{H:Hp}{p:Jc}(h:H p=none)(o:HO):Same H (upd H p o):=fun b u q=>by rw[aV (aX q h)];exact q
def zFT{H:Hp}{p:Jc}(h:H p=none)(o:HO):Keep H (upd H p o):=⟨fun b u q=>.inl (bY h o b u q),fun P e=>e.put (fun ps z=>by rw[h] at z;cases z) (fun ob u z=>by rw[h] at z;cases z)⟩
def _root_.L2.Same.none{H H':Hp}(h:Same H H'){p:Jc}(e:H' p=none):H p=none:=by
 cases z:H p with
 | none=>rfl
 | some o=>rw[h _ _ z] at e;cases e
def Ext.new{Hi H:Hp}{p:Jc}{o:HO}(h:Same Hi H)(hp:H p=none):Ext Hi H (upd Hi p o) (upd H p o) where
 i:=bY (h.none hp) o
 h:=zFT hp o
 s:=fun b u q=>by
  by_cases e:b=p
  ·subst e;rw[aS] at q ⊢;exact q
  ·rw[aV e] at q ⊢;exact h _ _ q
 n:=fun b e q=>by
  by_cases z:b=p
  ·rw[z];exact hp
  ·rw[aV z] at q;exact absurd e q
def Ext.newF{Hi H:Hp}{p:Jc}{o:HO}(h:Same Hi H)(hp:H p=none):Ext Hi H Hi (upd H p o) where
 i:=Same.refl _
 h:=zFT hp o
 s:=h.trans (bY hp o)
 n:=fun b e q=>absurd e q
def Ext.out{Hi H Hi' H':Hp}(e:Ext Hi H Hi' H'){a:Jc}{o:HO}(h:H a=some o)(hi:Hi a=none)(ho:∀ ps,o≠.tbl ps:=by intro ps z;cases z):H' a=some o/\Hi' a=none:=by
 refine⟨e.h.at h ho,?_⟩
 cases z:Hi' a with
 | none=>rfl
 | some u=>have:=e.n a hi (by rw[z];exact fun w=>by cases w);rw[h] at this;cases this
def Ext.hold{Hi H Hi' H':Hp}(e:Ext Hi H Hi' H'){a:Jc}{o:HO}(hn:H a=none)(h:H' a=some o)(hi:Hi' a=none):Ext Hi H (upd Hi' a o) H' where
 i:=e.i.trans (bY hi o)
 h:=e.h
 s:=fun b u q=>by
  by_cases z:b=a
  ·subst z;rw[aS] at q;cases q;exact h
  ·rw[aV z] at q;exact e.s _ _ q
 n:=fun b z q=>by
  by_cases w:b=a
  ·rw[w];exact hn
  ·rw[aV w] at q;exact e.n b z q
def zSx(a C:Jc):Je->Prop:=fun h=>∃ o vs,h.get? a=some o/\o.cls=.ref C/\o.data=.fields vs
def kvT(T:List (Str×Str)):List (Key×V):=T.map fun q=>(Sum.inr q.1,V.str q.2)
def zGj(K:PySem.W.Frag)(mg:Str->Option Ja)(B Hi H:Hp)(o:Option (Option V)):Sl->Prop
 | .un=>True
 | .val d=>∃ v,o=some (some v)/\IsD K Hi v d
 | .own ds=>∃ a xs,o=some (some (.ref a))/\H a=some (.lst xs)/\Hi a=none/\B a=none/\IsDs K Hi xs ds
 | .exc c=>∃ a C,o=some (some (.ref a))/\H a=some (.ext (zSx a C))/\Hi a=none/\B a=none/\mg c=some (.ref C)
 | .tab T=>∃ a,o=some (some (.ref a))/\Hi a=some (.dK (kvT T))
structure Rel (K:PySem.W.Frag) (mg:Str->Option Ja) (B Bi Hi H:Hp) (σ:St) (ρ:Rho):Prop where
 len:σ.length=ρ.length
 ext:Ext Bi B Hi H
 slot:∀(i:Nat)(s:Sl),ρ[i]?=some s->zGj K mg B Hi H σ[i]? s
 dist:∀(i j:Nat)(a:Jc)(ds es:List D),ρ[i]?=some (.own ds)->ρ[j]?=some (.own es)->σ[i]?=some (some (.ref a))->σ[j]?=some (some (.ref a))->i=j
section
variable{K:Fg_}{mg:Str->Option Ja}{B Bi Hi H Hi' H':Hp}{f:St}{ρ:Rho}
def zGj.ext{o:Option (Option V)}{s:Sl}(h:zGj K mg B Hi H o s)(e:Ext Hi H Hi' H'):zGj K mg B Hi' H' o s:=by
 cases s with
 | un=>trivial
 | val d=>obtain⟨v,q,r⟩:=h;exact⟨v,q,r.mono e.i⟩
 | own ds=>
  obtain⟨a,xs,q,h1,h2,h3,h4⟩:=h;obtain⟨e1,e2⟩:=e.out h1 h2;exact⟨a,xs,q,e1,e2,h3,h4.mono e.i⟩
 | exc c=>
  obtain⟨a,C,q,h1,h2,h3,h4⟩:=h;obtain⟨e1,e2⟩:=e.out h1 h2;exact⟨a,C,q,e1,e2,h3,h4⟩
 | tab T=>obtain⟨a,q,h1⟩:=h;exact⟨a,q,e.i _ _ h1⟩
def Rel.grow(R:Rel K mg B Bi Hi H f ρ)(e:Ext Hi H Hi' H'):Rel K mg B Bi Hi' H' f ρ:=⟨R.len,R.ext.trans e,fun i s q=>(R.slot i s q).ext e,R.dist⟩
def Rel.s(R:Rel K mg B Bi Hi H f ρ):Same Hi H:=R.ext.s
def Rel.set{i:Nat}{v:V}{d:D}(R:Rel K mg B Bi Hi H f ρ)(h:IsD K Hi v d):Rel K mg B Bi Hi H (f.set i (some v)) (ρ.set i (.val d)) where
 len:=by rw[Vc,Vc];exact R.len
 ext:=R.ext
 slot:=fun j s q=>by
  by_cases e:i=j
  ·subst e
   by_cases hl:i<ρ.length
   ·rw[Vk hl] at q;cases q
    exact⟨v,by rw[Vk (by rw[R.len];exact hl)],h⟩
   ·rw[Q5 (by rw[Vc];omega)] at q;cases q
  ·rw[Vf e] at q ⊢
   exact R.slot j s q
 dist:=fun j k a ds es q1 q2 q3 q4=>by
  have h1:∀ {j:Nat} {ds:List D},(ρ.set i (.val d))[j]?=some (.own ds)->i≠j:=fun {j ds} q e=>by
   subst e;by_cases hl:i<ρ.length
   ·rw[Vk hl] at q;cases q
   ·rw[Q5 (by rw[Vc];omega)] at q;cases q
  have n1:=h1 q1;have n2:=h1 q2;rw[Vf n1] at q1 q3;rw[Vf n2] at q2 q4;exact R.dist j k a ds es q1 q2 q3 q4
def Rel.setOwn{i:Nat}{a:Jc}{xs:List V}{ds:List D}(R:Rel K mg B Bi Hi H f ρ)(e:Ext Hi H Hi' H')(hn:H a=none)(h:H' a=some (.lst xs))(hi:Hi' a=none)(hs:IsDs K Hi' xs ds):
  Rel K mg B Bi Hi' H' (f.set i (some (.ref a))) (ρ.set i (.own ds)) where
 len:=by rw[Vc,Vc];exact R.len
 ext:=R.ext.trans e
 slot:=fun j s q=>by
  by_cases z:i=j
  ·subst z
   by_cases hl:i<ρ.length
   ·rw[Vk hl] at q;cases q
    exact⟨a,xs,by rw[Vk (by rw[R.len];exact hl)],h,hi,R.ext.h.none hn,hs⟩
   ·rw[Q5 (by rw[Vc];omega)] at q;cases q
  ·rw[Vf z] at q ⊢
   exact(R.slot j s q).ext e
 dist:=fun j k b es fs q1 q2 q3 q4=>by
  have h1:∀ {j:Nat} {es:List D},i≠j->ρ[j]?=some (.own es)->f[j]?=some (some (.ref a))->False:=fun {j es} _ p1 p2=>by
   obtain⟨a',xs',q,h1,_⟩:=R.slot j _ p1;rw[p2] at q;cases q;rw[hn] at h1;cases h1
  have h2:∀ {j:Nat} {es:List D},(ρ.set i (.own ds))[j]?=some (.own es)->i<f.length∨i≠j:=fun {j es} p=>by
   by_cases z:i=j
   ·subst z
    by_cases hl:i<ρ.length
    ·exact .inl (by rw[R.len];exact hl)
    ·rw[Q5 (by rw[Vc];omega)] at p;cases p
   ·exact .inr z
  by_cases z1:i=j
  ·by_cases z2:i=k
   ·rw[<-z1,<-z2]
   ·exfalso
    subst z1;have hl:i<f.length:=(h2 q1).resolve_right (fun w=>w rfl)
    rw[Vk hl] at q3;cases q3
    rw[Vf z2] at q2 q4;exact h1 z2 q2 q4
  ·by_cases z2:i=k
   ·exfalso
    subst z2;have hl:i<f.length:=(h2 q2).resolve_right (fun w=>w rfl)
    rw[Vk hl] at q4;cases q4
    rw[Vf z1] at q1 q3;exact h1 z1 q1 q3
   ·rw[Vf z1] at q1 q3
    rw[Vf z2] at q2 q4;exact R.dist j k b es fs q1 q2 q3 q4
def Rel.write{i:Nat}{a:Jc}{ys:List V}{ds es:List D}(R:Rel K mg B Bi Hi H f ρ)(e:ρ[i]?=some (.own ds))(ea:f[i]?=some (some (.ref a)))(hs:IsDs K Hi ys es):
  Rel K mg B Bi Hi (upd H a (.lst ys)) f (ρ.set i (.own es)):=by
 obtain⟨a',xs',q,h1,h2,h3,h4⟩:=R.slot i _ e;rw[ea] at q;cases q
 have hl:i<ρ.length:=by
  by_cases hl:i<ρ.length
  ·exact hl
  ·rw[Q5 (by omega)] at e;cases e
 refine⟨by rw[Vc];exact R.len,⟨R.ext.i,⟨fun b o z=>?_,fun P z=>(R.ext.h.t P z).put (fun ps y=>by rw[h1] at y;cases y) (fun ob u y=>by rw[h1] at y;cases y)⟩,fun b o z=>?_,R.ext.n⟩,fun j s z=>?_,fun j k b fs gs q1 q2 q3 q4=>?_⟩
 ·rw[aV (aX z h3)];exact R.ext.h.k _ _ z
 ·rw[aV (aX z h2)];exact R.ext.s _ _ z
 ·by_cases w:i=j
  ·subst w
   rw[Vk hl] at z;cases z
   exact⟨a,ys,ea,aS,h2,h3,hs⟩
  ·rw[Vf w] at z
   have S:=R.slot j s z
   cases s with
   | un=>trivial
   | val d=>exact S
   | own fs=>
    obtain⟨b,zs,p,g1,g2,g3,g4⟩:=S;have hb:b≠a:=fun c=>w (R.dist i j a ds fs e z ea (by rw[p,c]))
    exact⟨b,zs,p,by rw[aV hb];exact g1,g2,g3,g4⟩
   | exc c=>
    obtain⟨b,C,p,g1,g2,g3,g4⟩:=S;have hb:b≠a:=zQi g1 h1 (by intro z;cases z)
    exact⟨b,C,p,by rw[aV hb];exact g1,g2,g3,g4⟩
   | tab T=>exact S
 ·have own:∀ {j:Nat} {fs:List D},(ρ.set i (.own es))[j]?=some (.own fs)->∃ gs,ρ[j]?=some (.own gs):=fun {j fs} p=>by
   by_cases w:i=j
   ·subst w;exact⟨ds,e⟩
   ·rw[Vf w] at p;exact⟨fs,p⟩
  obtain⟨fs',q1'⟩:=own q1;obtain⟨gs',q2'⟩:=own q2;exact R.dist j k b fs' gs' q1' q2' q3 q4
def Rel.frzAt{i:Nat}(R:Rel K mg B Bi Hi H f ρ):∃ Hi',Same Hi Hi'/\Rel K mg B Bi Hi' H f (L3.frzAt i ρ):=by
 unfold L3.frzAt;split
 ·rename_i ds e
  obtain⟨a,xs,q,h1,h2,h3,h4⟩:=R.slot i _ e
  have hl:i<ρ.length:=by
   by_cases hl:i<ρ.length
   ·exact hl
   ·rw[Q5 (by omega)] at e;cases e
  have sm:Same Hi (upd Hi a (.lst xs)):=bY h2 _
  have ss:Same (upd Hi a (.lst xs)) H:=fun b u z=>by
   by_cases w:b=a
   ·subst w;rw[aS] at z;cases z;exact h1
   ·rw[aV w] at z;exact R.s _ _ z
  refine⟨upd Hi a (.lst xs),sm,by rw[Vc];exact R.len,⟨R.ext.i.trans sm,R.ext.h,ss,fun b z w=>?_⟩,fun j s z=>?_,fun j k b fs gs q1 q2 q3 q4=>?_⟩
  ·by_cases c:b=a
   ·rw[c];exact h3
   ·rw[aV c] at w;exact R.ext.n b z w
  ·by_cases w:i=j
   ·subst w
    rw[Vk hl] at z;cases z
    exact⟨.ref a,q,.lst (SqL.of aS) (h4.mono sm)⟩
   ·rw[Vf w] at z
    have S:=R.slot j s z
    cases s with
    | un=>trivial
    | val d=>obtain⟨v,p,r⟩:=S;exact⟨v,p,r.mono sm⟩
    | own fs=>
     obtain⟨b,zs,p,g1,g2,g3,g4⟩:=S;have hb:b≠a:=fun c=>w (R.dist i j a ds fs e z q (by rw[p,c]))
     exact⟨b,zs,p,g1,by rw[aV hb];exact g2,g3,g4.mono sm⟩
    | exc c=>
     obtain⟨b,C,p,g1,g2,g3,g4⟩:=S;have hb:b≠a:=zQi g1 h1 (by intro z;cases z)
     exact⟨b,C,p,g1,by rw[aV hb];exact g2,g3,g4⟩
    | tab T=>obtain⟨b,p,g1⟩:=S;exact⟨b,p,sm _ _ g1⟩
  ·have own:∀ {j:Nat} {fs:List D},(ρ.set i (.val (.lst ds)))[j]?=some (.own fs)->ρ[j]?=some (.own fs):=fun {j fs} p=>by
    by_cases w:i=j
    ·subst w;rw[Vk hl] at p;cases p
    ·rw[Vf w] at p;exact p
   exact R.dist j k b fs gs (own q1) (own q2) q3 q4
 ·exact⟨Hi,Same.refl _,R⟩
end
end L3
namespace L3
open PySem PySem.Spec PyProof.Rows L2
section
variable{K:Fg_}{mg:Str->Option Ja}{B Bi Hi H Hi' H':Hp}{f:St}{ρ:Rho}
def Rel.frz(R:Rel K mg B Bi Hi H f ρ):∃ Hf,Same Hi Hf/\Rel K mg B Bi Hf H f (ρ.map Sl.frz)/\∀ b,Hi b=none->Hf b≠none->∃ xs,Hf b=some (.lst xs):=by
 let own:Jc->Prop:=fun b=>∃(i:Nat)(ds:List D),ρ[i]?=some (.own ds)/\f[i]?=some (some (.ref b))
 have dec:∀ b,Decidable (own b):=fun b=>Classical.propDecidable _
 let Hf:Hp:=fun b=>match Hi b with
  | some o=>some o
  | none=>if own b then H b else none
 have hf1:∀ b o,Hi b=some o->Hf b=some o:=fun b o e=>by show(match Hi b with | some o=>some o | none=>if own b then H b else none)=_;rw[e]
 have hf2:∀ b,Hi b=none->own b->Hf b=H b:=fun b e z=>by show(match Hi b with | some o=>some o | none=>if own b then H b else none)=_;rw[e];exact Jk z
 have hf3:∀ b,Hi b=none->¬ own b->Hf b=none:=fun b e z=>by show(match Hi b with | some o=>some o | none=>if own b then H b else none)=_;rw[e];exact Jl z
 have lst:∀ b,own b->∃ xs,H b=some (.lst xs)/\Hi b=none/\B b=none:=fun b ⟨i,ds,e1,e2⟩=>by
  obtain⟨a,xs,q,h1,h2,h3,h4⟩:=R.slot i _ e1;rw[e2] at q;cases q
  exact⟨xs,h1,h2,h3⟩
 have ss:Same Hf H:=fun b o z=>by
  cases q:Hi b with
  | some u=>rw[hf1 b u q] at z;cases z;exact R.s _ _ q
  | none=>
   by_cases w:own b
   ·rw[hf2 b q w] at z;exact z
   ·rw[hf3 b q w] at z;cases z
 refine⟨Hf,hf1,⟨by rw[Qe];exact R.len,⟨R.ext.i.trans hf1,R.ext.h,ss,fun b z w=>?_⟩,fun j s z=>?_,fun j k b fs gs q1 q2 q3 q4=>?_⟩,fun b z w=>?_⟩
 ·cases q:Hi b with
  | some u=>exact R.ext.n b z (by rw[q];exact fun c=>by cases c)
  | none=>
   by_cases c:own b
   ·exact(lst b c).choose_spec.2.2
   ·exact absurd (hf3 b q c) w
 ·rw[Qt] at z
  cases e:ρ[j]? with
  | none=>rw[e] at z;cases z
  | some t=>
   rw[e] at z;cases z;have S:=R.slot j t e
   cases t with
   | un=>trivial
   | val d=>obtain⟨v,p,r⟩:=S;exact⟨v,p,r.mono hf1⟩
   | own ds=>
    obtain⟨a,xs,q,h1,h2,h3,h4⟩:=S;exact⟨.ref a,q,.lst (SqL.of (by rw[hf2 a h2 ⟨j,ds,e,q⟩];exact h1)) (h4.mono hf1)⟩
   | exc c=>
    obtain⟨a,C,q,h1,h2,h3,h4⟩:=S;refine⟨a,C,q,h1,?_,h3,h4⟩
    refine hf3 a h2 fun c=>?_
    obtain⟨xs,g,_⟩:=lst a c;rw[h1] at g;cases g
   | tab T=>obtain⟨a,q,h1⟩:=S;exact⟨a,q,hf1 _ _ h1⟩
 ·exfalso
  rw[Qt] at q1
  cases e:ρ[j]? with
  | none=>rw[e] at q1;cases q1
  | some t=>rw[e] at q1;cases t<;>cases q1
 ·by_cases c:own b
  ·obtain⟨xs,g,_⟩:=lst b c
   exact⟨xs,by rw[hf2 b z c];exact g⟩
  ·exact absurd (hf3 b z c) w
def Ext.thaw{Hf:Hp}(s:Same Hi Hf)(fl:∀ b,Hi b=none->Hf b≠none->∃ xs,Hf b=some (.lst xs))(hs:Same Hf H)(e:Ext Hf H Hi' H'):
  ∃ Ht,Ext Hi H Ht H'/\(∀ b xs,Rd Hi' b (.tup xs)->Rd Ht b (.tup xs))/\Same Ht Hi'/\∀ b,Ht b=none->Hi' b=none∨∃ xs,H b=some (.lst xs):=by
 have dec:∀ b,Decidable (Hi b=none/\Hf b≠none):=fun b=>Classical.propDecidable _
 let Ht:Hp:=fun b=>if Hi b=none/\Hf b≠none then none else Hi' b
 have t1:∀ b,¬ (Hi b=none/\Hf b≠none)->Ht b=Hi' b:=fun b z=>Jl z
 have t2:∀ b,(Hi b=none/\Hf b≠none)->Ht b=none:=fun b z=>Jk z
 have tt:Same Ht Hi':=fun b o z=>by
  by_cases w:Hi b=none/\Hf b≠none
  ·rw[t2 b w] at z;cases z
  ·rw[t1 b w] at z;exact z
 refine⟨Ht,⟨fun b o z=>?_,e.h,tt.trans e.s,fun b z w=>?_⟩,fun b xs r=>?_,tt,fun b z=>?_⟩
 ·rw[t1 b (fun w=>by rw[z] at w;cases w.1)];exact e.i _ _ (s _ _ z)
 ·by_cases c:Hi b=none/\Hf b≠none
  ·exact absurd (t2 b c) w
  ·rw[t1 b c] at w
   have:Hf b=none:=by
    cases q:Hf b with
    | none=>rfl
    | some u=>exact absurd ⟨z,by rw[q];exact fun c=>by cases c⟩ c
   exact e.n b this w
 ·have nl:¬ (Hi b=none/\Hf b≠none):=fun w=>by
   obtain⟨ys,g⟩:=fl b w.1 w.2;have g':=e.i _ _ g;rcases r with r | ⟨o,r⟩<;>(rw[g'] at r;cases r)
  rcases r with r | ⟨o,r⟩
  ·exact .inl (by rw[t1 b nl];exact r)
  ·exact .inr ⟨o,by rw[t1 b nl];exact r⟩
 ·by_cases c:Hi b=none/\Hf b≠none
  ·obtain⟨ys,g⟩:=fl b c.1 c.2
   exact .inr ⟨ys,hs _ _ g⟩
  ·exact .inl (by rw[t1 b c] at z;exact z)
end
structure Gx where
 B:Hp
 Bi:Hp
 E:Str->Hp->Prop
abbrev mO(X:Cx)(G:Gx)(Hi H:Hp)(r:St)(ρ:Rho):Prop:=Rel X.K X.mg G.B G.Bi Hi H r ρ
def Out(G:Gx)(Hi H:Hp){s:Type}(r:Res s)(k:s->Hp->Hp->Prop):Prop:=match r with
 | .ok a=>∀ Hi' H',Ext Hi H Hi' H'->k a Hi' H'
 | .err c=>∀ Hi' H',Ext Hi H Hi' H'->G.E c H'
 | .no=>False
def Out.bind{G:Gx}{Hi H:Hp}{s p:Type}{r:Res s}{f:s->Res p}{k:p->Hp->Hp->Prop}(h:Out G Hi H (r.bind f) k):
  Out G Hi H r fun a Hi' H'=>Out G Hi' H' (f a) k:=by
 cases r with
 | no=>exact h
 | err c=>exact h
 | ok a=>
  intro Hi1 H1 e;have h':Out G Hi H (f a) k:=h;show Out G Hi1 H1 (f a) k
  cases q:f a with
  | no=>rw[q] at h';exact h'
  | err c=>rw[q] at h';exact fun Hi2 H2 e2=>h' _ _ (e.trans e2)
  | ok b=>rw[q] at h';exact fun Hi2 H2 e2=>h' _ _ (e.trans e2)
def Out.imp{G:Gx}{Hi H:Hp}{s:Type}{r:Res s}{k k':s->Hp->Hp->Prop}(h:Out G Hi H r k)(f:∀ a Hi' H',Ext Hi H Hi' H'->k a Hi' H'->k' a Hi' H'):Out G Hi H r k':=by
 cases r with
 | no=>exact h
 | err c=>exact h
 | ok a=>exact fun Hi1 H1 e=>f a Hi1 H1 e (h Hi1 H1 e)
def Out.here{G:Gx}{Hi H:Hp}{r:Type}{a:r}{k:r->Hp->Hp->Prop}(h:Out G Hi H (.ok a) k)(s:Same Hi H):k a Hi H:=h Hi H (Ext.refl s)
def tD(X:Cx)(G:Gx)(f:Ev):TE:=fun r H Q=>∃ ρ Hi,mO X G Hi H r ρ/\Out G Hi H (f ρ) fun d Hi' H'=>∀ v,IsD X.K Hi' v d->Q v H'
def zLo(K:PySem.W.Frag)(H Hi' H':Hp)(a:Jc)(ds:List D):Prop:=H a=none/\Hi' a=none/\∃ xs,H' a=some (.lst xs)/\IsDs K Hi' xs ds
def tF(X:Cx)(G:Gx)(f:Fv):TE:=fun r H Q=>∃ ρ Hi,mO X G Hi H r ρ/\Out G Hi H (f ρ) fun ds Hi' H'=>∀ a,zLo X.K H Hi' H' a ds->Q (.ref a) H'
def tTb(X:Cx)(G:Gx)(f:Tv):TT:=fun r H Q=>∃ ρ Hi,mO X G Hi H r ρ/\Out G Hi H (f ρ) fun b _ H'=>Q b H'
def tAs(X:Cx)(G:Gx)(f:Fv):TA:=fun r H Q=>∃ ρ Hi,mO X G Hi H r ρ/\Out G Hi H (f ρ) fun ds Hi' H'=>∀ vs,IsDs X.K Hi' vs ds->Q vs H'
def Fin(X:Cx)(G:Gx)(Hi:Hp)(E:Ends)(r:Res Fl):Prop:=match r with
 | .ok (.nx r')=>∀ s' Hi' H',Same Hi Hi'->mO X G Hi' H' s' r'->E.nx s' H'
 | .ok (.brk r')=>∀ s' Hi' H',Same Hi Hi'->mO X G Hi' H' s' r'->E.bk s' H'
 | .ok (.ctn r')=>∀ s' Hi' H',Same Hi Hi'->mO X G Hi' H' s' r'->E.ct s' H'
 | .ok (.ret (.v d))=>∀ v Hi' H',Ext G.Bi G.B Hi' H'->IsD X.K Hi' v d->E.rt v H'
 | .ok (.ret (.f ds))=>∀ a Hi' H',Ext G.Bi G.B Hi' H'->zLo X.K G.B Hi' H' a ds->E.rt (.ref a) H'
 | .err c=>∀ Hi' H',Ext G.Bi G.B Hi' H'->G.E c H'
 | .no=>False
def Fin.mono{X:Cx}{G:Gx}{Hi Hi':Hp}{E:Ends}{r:Res Fl}(h:Fin X G Hi E r)(s:Same Hi Hi'):Fin X G Hi' E r:=by
 cases r with
 | no=>exact h
 | err c=>exact h
 | ok f=>
  cases f with
  | nx ρ=>exact fun r' Hi2 H2 s2=>h r' Hi2 H2 (s.trans s2)
  | brk ρ=>exact fun r' Hi2 H2 s2=>h r' Hi2 H2 (s.trans s2)
  | ctn ρ=>exact fun r' Hi2 H2 s2=>h r' Hi2 H2 (s.trans s2)
  | ret r=>cases r<;>exact h
def tS(X:Cx)(G:Gx)(f:Sv):TS:=fun E r H=>∃ ρ Hi,mO X G Hi H r ρ/\Fin X G Hi E (f ρ)
@[irreducible] def PEd (X:Cx) (G:Gx) (e:Expr) (f:Ev):Prop:=PE X e (tD X G f)
unseal PEd
@[irreducible] def PEf (X:Cx) (G:Gx) (e:Expr) (f:Fv):Prop:=PE X e (tF X G f)
unseal PEf
@[irreducible] def PTd (X:Cx) (G:Gx) (e:Expr) (f:Tv):Prop:=PT X e (tTb X G f)
unseal PTd
@[irreducible] def PWd (X:Cx) (G:Gx) (e:Expr) (f:Tv):Prop:=PW X e (tTb X G f)
unseal PWd
@[irreducible] def PAd (X:Cx) (G:Gx) (es:List Expr) (f:Fv):Prop:=PA X es (tAs X G f)
unseal PAd
@[irreducible] def PSd (X:Cx) (G:Gx) (s:Ji) (f:Sv):Prop:=PS X s (tS X G f)
unseal PSd
@[irreducible] def eH (X:Cx) (G:Gx) (s:List Ji) (f:Sv):Prop:=PSs X s (tS X G f)
unseal eH
def PE.wk{X:Cx}{e:Expr}{t t':TE}(h:PE X e t)(w:∀ r H Q,t' r H Q->t r H Q):PE X e t':=fun Mh s r H Q I q=>h Mh s r H Q I (w r H Q q)
def PT.wk{X:Cx}{e:Expr}{t t':TT}(h:PT X e t)(w:∀ r H Q,t' r H Q->t r H Q):PT X e t':=fun Mh s r H Q I q=>h Mh s r H Q I (w r H Q q)
def PW.wk{X:Cx}{e:Expr}{t t':TT}(h:PW X e t)(w:∀ r H Q,t' r H Q->t r H Q):PW X e t':=fun wh Mh s r H Q I q=>h wh Mh s r H Q I (w r H Q q)
def PA.wk{X:Cx}{es:List Expr}{t t':TA}(h:PA X es t)(w:∀ r H Q,t' r H Q->t r H Q):PA X es t':=fun pos Mh s r H Q I q=>h pos Mh s r H Q I (w r H Q q)
def PS.wk{X:Cx}{s:Ji}{t t':TS}(h:PS X s t)(w:∀ E r H,t' E r H->t E r H):PS X s t':=fun Mh s r H E I q=>h Mh s r H E I (w E r H q)
def PSs.wk{X:Cx}{s:List Ji}{t t':TS}(h:PSs X s t)(w:∀ E r H,t' E r H->t E r H):PSs X s t':=fun Mh s r H E I q=>h Mh s r H E I (w E r H q)
section
variable{X:Cx}{G:Gx}{a b e:Expr}{es:List Expr}{pos:Pos}{f g:Ev}
def zQN(i:Nat)(h:PE X e (zEC i)):PEd X G e (aE i):=PE.wk h fun j H Q q=>by
 obtain⟨ρ,Hi,R,o⟩:=q;unfold aE at o
 cases z:ρ[i]? with
 | none=>rw[z] at o;exact o.elim
 | some s=>
  rw[z] at o
  cases s with
  | val d=>
   obtain⟨v,p,r⟩:=R.slot i _ z;exact⟨v,p,o.here R.s v r⟩
  | un=>exact o.elim
  | own ds=>exact o.elim
  | exc c=>exact o.elim
  | tab T=>exact o.elim
def tN{v:V}{d:D}(h:PE X e (tC v))(r:∀ H,IsD X.K H v d):PEd X G e (eC d):=PE.wk h fun j H Q q=>by
 obtain⟨ρ,Hi,R,o⟩:=q;exact o.here R.s v (r Hi)
def zFQ{Hi H:Hp}{j:St}{ρ:Rho}{l:Type}{k:D->Res l}{k':l->Hp->Hp->Prop}{Q:VK}(R:mO X G Hi H j ρ)(o:Out G Hi H ((f ρ).bind k) k')
  (w:∀ v d Hi' H',Ext Hi H Hi' H'->mO X G Hi' H' j ρ->IsD X.K Hi' v d->Out G Hi' H' (k d) k'->Q v H'):tD X G f j H Q:=
 ⟨ρ,Hi,R,o.bind.imp fun d Hi' H' e q v r=>w v d Hi' H' e (R.grow e) r q⟩
def OpK(X:Cx)(r:R2)(o:Op2):Prop:=(∀ a b c,o a b≠.err c)/\∀(Hi H:Hp)(x y:V)(a b d:D)(Q:VK),Same Hi H->IsD X.K Hi x a->IsD X.K Hi y b->o a b=.ok d->
 (∀ v Hi' H',Ext Hi H Hi' H'->IsD X.K Hi' v d->Q v H')->r x y H Q
def op2{r:R2}{o:Op2}(k:OpK X r o):∀ j H Q,tD X G (eOp o f g) j H Q->tOp r (tD X G f) (tD X G g) j H Q:=fun j H Q q=>by
 obtain⟨ρ,Hi,R,ou⟩:=q;refine zFQ R ou fun v d Hi1 H1 e1 R1 r1 o1=>?_
 refine zFQ R1 o1 fun w d' Hi2 H2 e2 R2 r2 o2=>?_
 cases z:o d d' with
 | no=>rw[z] at o2;exact o2.elim
 | err c=>exact absurd z (k.1 d d' c)
 | ok u=>
  rw[z] at o2;exact k.2 Hi2 H2 v w d d' u Q R2.s (r1.mono e2.i) r2 z fun x Hi3 H3 e3 r3=>o2 Hi3 H3 e3 x r3
def aW{op:Operator}{r:R2}{o:Op2}(ho:OpR X (binaryOp op) r)(k:OpK X r o)(ha:PEd X G a f)(hb:PEd X G b g):PEd X G (.BinOp a op b pos) (eOp o f g):=PE.wk (zJK ho ha hb) (op2 k)
def zI{op:CmpOp}{r:R2}{o:Op2}(ho:OpR X (compareOp op) r)(k:OpK X r o)(ha:PEd X G a f)(hb:PEd X G b g)(hm:behindInMarks op b=false):PEd X G (.Compare a [op] [b] pos) (eOp o f g):=PE.wk (zOq ho ha hb hm) (op2 k)
def eU{r:R2}{o:Op2}(ho:IxR X r)(k:OpK X r o)(ha:PEd X G a f)(hb:PEd X G b g)(hs:zEI b):PEd X G (.Subscript a b pos) (eOp o f g):=PE.wk (zHu ho ha hb hs) (op2 k)
def tst{op:CmpOp}{r:R2}{o:Op2}(ho:OpR X (compareOp op) r)(k:OpK X r o)(ha:PEd X G a f)(hb:PEd X G b g)(hm:behindInMarks op b=false):PTd X G (.Compare a [op] [b] pos) (dM (eOp o f g)):=
 PT.wk (zIC ho ha hb hm) fun j H Q q=>by
  obtain⟨ρ,Hi,R,ou⟩:=q;refine op2 k j H _ ⟨ρ,Hi,R,ou.bind.imp fun d Hi' H' e o v r=>?_⟩
  cases d with
  | bl c=>rw[r.blI];exact⟨c,rfl,o.here e.s⟩
  | _=>exact o.elim
def zER(h:PEd X G a f)(he:∀ whole,isTrue a X.env whole=(do let v <-whole;standAt a.pos;holding [v] (truthy v)):=by intro _;rfl):PTd X G a (dM f):=PT.wk (zQa h he) fun j H Q q=>by
 obtain⟨ρ,Hi,R,ou⟩:=q;refine⟨ρ,Hi,R,ou.bind.imp fun d Hi' H' e o v r=>?_⟩
 cases d with
 | bl c=>rw[r.blI];exact⟨c,rfl,o.here e.s⟩
 | _=>exact o.elim
variable{t u:Tv}
def zSa{Hi H:Hp}{j:St}{ρ:Rho}{l:Type}{k:Bool->Res l}{k':l->Hp->Hp->Prop}{Q:Bool->Hp->Prop}(R:mO X G Hi H j ρ)(o:Out G Hi H ((t ρ).bind k) k')
  (w:∀ c Hi' H',Ext Hi H Hi' H'->mO X G Hi' H' j ρ->Out G Hi' H' (k c) k'->Q c H'):tTb X G t j H Q:=
 ⟨ρ,Hi,R,o.bind.imp fun d Hi' H' e q=>w d Hi' H' e (R.grow e) q⟩
def zTv(h:PTd X G a t):PTd X G (.UnaryOp .Not a pos) (zLT t):=PT.wk (zPJ h) fun j H Q q=>by
 obtain⟨ρ,Hi,R,ou⟩:=q;exact zSa R ou fun c Hi1 H1 e1 R1 o1=>o1.here R1.s
def zM(h:PTd X G a t):PWd X G (.BoolOp .And [a] pos) t:=zOB h
def zHG(h:PTd X G a t):PWd X G (.BoolOp .Or [a] pos) t:=zQP h
def zHe{rest:List Expr}(ha:PTd X G a t)(hb:PWd X G (.BoolOp .And (b::rest) pos) u):PWd X G (.BoolOp .And (a::b::rest) pos) (xN t u):=PW.wk (zRc ha hb) fun j H Q q=>by
 obtain⟨ρ,Hi,R,ou⟩:=q;refine zSa R ou fun c Hi1 H1 e1 R1 o1=>?_
 cases c with
 | true=>exact⟨ρ,Hi1,R1,o1⟩
 | false=>exact o1.here R1.s
def zQd{rest:List Expr}(ha:PTd X G a t)(hb:PWd X G (.BoolOp .Or (b::rest) pos) u):PWd X G (.BoolOp .Or (a::b::rest) pos) (zMH t u):=PW.wk (zSu ha hb) fun j H Q q=>by
 obtain⟨ρ,Hi,R,ou⟩:=q;refine zSa R ou fun c Hi1 H1 e1 R1 o1=>?_
 cases c with
 | true=>exact o1.here R1.s
 | false=>exact⟨ρ,Hi1,R1,o1⟩
def PWd.pt{e:Expr}(h:PWd X G e t):PTd X G e t:=PW.pt h
def zQo{op}(h:PEd X G a f):PEd X G (.BoolOp op [a] pos) f:=zQF h
def zSt{rest:List Expr}(ha:PEd X G a f)(hb:PEd X G (.BoolOp .Or (b::rest) pos) g):PEd X G (.BoolOp .Or (a::b::rest) pos) (eOr f g):=PE.wk (zSO ha hb) fun j H Q q=>by
 obtain⟨ρ,Hi,R,ou⟩:=q;refine zFQ R ou fun v d Hi1 H1 e1 R1 r1 o1=>?_
 cases d with
 | bl c=>
  refine⟨c,r1.blI,?_⟩
  cases c with
  | true=>exact o1.here R1.s _ (.bl true)
  | false=>exact⟨ρ,Hi1,R1,o1⟩
 | _=>exact o1.elim
def qO(ha:PEd X G a f):PEd X G (.UnaryOp .USub a pos) (eUn zCg f):=PE.wk (zSz zRp ha) fun j H Q q=>by
 obtain⟨ρ,Hi,R,ou⟩:=q;refine zFQ R ou fun v d Hi1 H1 e1 R1 r1 o1=>?_
 cases d with
 | int c=>exact⟨c,r1.intI,o1.here R1.s _ (.int _)⟩
 | _=>exact o1.elim
def zOv{c:Expr}(hc:PTd X G c t)(ha:PEd X G a f)(hb:PEd X G b g):PEd X G (.IfExp c a b pos) (eIf t f g):=PE.wk (zLJ hc ha hb) fun j H Q q=>by
 obtain⟨ρ,Hi,R,ou⟩:=q;refine zSa R ou fun c Hi1 H1 e1 R1 o1=>?_
 cases c with
 | true=>exact⟨ρ,Hi1,R1,o1⟩
 | false=>exact⟨ρ,Hi1,R1,o1⟩
variable{fs:Fv}
def aJ:PAd X G [] aNil:=PA.wk sS fun j H Q q=>by
 obtain⟨ρ,Hi,R,ou⟩:=q;exact ou.here R.s [] .nil
def aA(ha:PEd X G e f)(hr:PAd X G es fs)(hs:starEach (e::es) X.env=(false,eval e X.env)::starEach es X.env:=by rfl):PAd X G (e::es) (aB f fs):=PA.wk (lY ha hr hs) fun j H Q q=>by
 obtain⟨ρ,Hi,R,ou⟩:=q;refine zFQ R ou fun v d Hi1 H1 e1 R1 r1 o1=>?_
 refine⟨ρ,Hi1,R1,o1.bind.imp fun ds Hi2 H2 e2 o2 vs rs=>?_⟩
 exact o2.here e2.s _ (.cons (r1.mono e2.i) rs)
def zJI{Hi H:Hp}{j:St}{ρ:Rho}{l:Type}{k:List D->Res l}{k':l->Hp->Hp->Prop}{Q:List V->Hp->Prop}(R:mO X G Hi H j ρ)(o:Out G Hi H ((fs ρ).bind k) k')
  (w:∀ vs ds Hi' H',Ext Hi H Hi' H'->mO X G Hi' H' j ρ->IsDs X.K Hi' vs ds->Out G Hi' H' (k ds) k'->Q vs H'):tAs X G fs j H Q:=
 ⟨ρ,Hi,R,o.bind.imp fun d Hi' H' e q v r=>w v d Hi' H' e (R.grow e) r q⟩
def dS{x1}(h:PAd X G es fs):PEd X G (.Tuple es x1 pos) (tG fs):=PE.wk (zQj h) fun j H Q q=>by
 obtain⟨ρ,Hi,R,ou⟩:=q;refine zJI R ou fun vs ds Hi1 H1 e1 R1 r1 o1=>?_
 by_cases hz:ds.length<=16777216
 ·rw[Jk hz] at o1
  refine⟨by rw[r1.length];exact hz,fun p hp=>?_⟩
  exact o1 _ _ (Ext.new R1.s hp) (.ref p) (.tup (SqT.of aS) (r1.mono (bY (R1.s.none hp) _)))
 ·rw[Jl hz] at o1;exact o1.elim
def cK(h:PAd X G es fs):PEf X G (.List es pos) (mU fs):=PE.wk (zQm h) fun j H Q q=>by
 obtain⟨ρ,Hi,R,ou⟩:=q;refine zJI R ou fun vs ds Hi1 H1 e1 R1 r1 o1=>?_
 by_cases hz:ds.length<=16777216
 ·rw[Jk hz] at o1
  refine⟨by rw[r1.length];exact hz,fun p hp=>?_⟩
  exact o1 _ _ (Ext.newF R1.s hp) p ⟨e1.h.none hp,R1.s.none hp,vs,aS,r1⟩
 ·rw[Jl hz] at o1;exact o1.elim
def PEf.d(h:PEf X G e fs):PEd X G e (eF fs):=PE.wk h fun j H Q q=>by
 obtain⟨ρ,Hi,R,ou⟩:=q;refine⟨ρ,Hi,R,?_⟩
 cases z:fs ρ with
 | no=>unfold eF at ou;rw[z] at ou;exact ou
 | err c=>unfold eF at ou;rw[z] at ou;exact ou
 | ok ds=>
  unfold eF at ou;rw[z] at ou
  intro Hi1 H1 e1 a n;obtain⟨n1,n2,xs,n3,n4⟩:=n;have ou':∀ Hi' H',Ext Hi H Hi' H'->∀ v,IsD X.K Hi' v (.lst ds)->Q v H':=ou;exact ou' _ _ (e1.hold n1 n3 n2) (.ref a) (.lst (SqL.of aS) (n4.mono (bY n2 _)))
def PEd.frz(h:PEd X G e f):PEd X G e (zRX f):=PE.wk h fun j H Q q=>by
 obtain⟨ρ,Hi,R,ou⟩:=q;obtain⟨Hf,s1,R1,fl⟩:=R.frz;refine⟨ρ.map Sl.frz,Hf,R1,?_⟩
 unfold zRX at ou
 cases z:f (ρ.map Sl.frz) with
 | no=>rw[z] at ou;exact ou
 | err c=>
  rw[z] at ou;intro Hi1 H1 e1;have ou':∀ Hi' H',Ext Hi H Hi' H'->G.E c H':=ou;obtain⟨Ht,e2,k,s2,n⟩:=Ext.thaw s1 fl R1.s e1;exact ou' Ht H1 e2
 | ok d=>
  rw[z] at ou;by_cases hz:noL d=true
  ·have ou':Out G Hi H (if noL d=true then Res.ok d else .no) _:=ou
   rw[Jk hz] at ou';intro Hi1 H1 e1 v r;obtain⟨Ht,e2,k,s2,n⟩:=Ext.thaw s1 fl R1.s e1;exact ou' Ht H1 e2 v (r.noL k hz)
  ·have ou':Out G Hi H (if noL d=true then Res.ok d else .no) _:=ou
   rw[Jl hz] at ou';exact ou'.elim
end
end L3
namespace L3
open PySem PySem.Spec PyProof.Rows L2
unseal PEd PEf PTd PWd PAd PSd eH
local macro_rules | `(⋯)=>`(by omega)
section
variable{X:Cx}{G:Gx}{a b e:Expr}{es:List Expr}{pos:Pos}{f g:Ev}{fs:Fv}{t u:Tv}
def PEf.frz(h:PEf X G e fs):PEf X G e (zPB fs):=PE.wk h fun m H Q q=>by
 obtain⟨ρ,Hi,R,ou⟩:=q;obtain⟨Hf,s1,R1,fl⟩:=R.frz;refine⟨ρ.map Sl.frz,Hf,R1,?_⟩
 unfold zPB at ou
 cases z:fs (ρ.map Sl.frz) with
 | no=>rw[z] at ou;exact ou
 | err c=>
  rw[z] at ou;intro Hi1 H1 e1;have ou':∀ Hi' H',Ext Hi H Hi' H'->G.E c H':=ou;obtain⟨Ht,e2,k,s2,n⟩:=Ext.thaw s1 fl R1.s e1;exact ou' Ht H1 e2
 | ok ds=>
  rw[z] at ou;have ou':Out G Hi H (if noLs ds=true then Res.ok ds else .no) _:=ou;by_cases hz:noLs ds=true
  ·rw[Jk hz] at ou'
   intro Hi1 H1 e1 a n;obtain⟨n1,n2,xs,n3,n4⟩:=n;obtain⟨Ht,e2,k,s2,_⟩:=Ext.thaw s1 fl R1.s e1;exact ou' Ht H1 e2 a ⟨n1,s2.none n2,xs,n3,n4.noL k hz⟩
  ·rw[Jl hz] at ou';exact ou'.elim
def OpR.or{o:Ja->Ja->Sem Ja}{r r':R2}(h:OpR X o r)(h':OpR X o r'):OpR X o (fun x y H Q=>r x y H Q∨r' x y H Q):=by
 intro Mh s m H x y v u Q I rx ry q;rcases q with q | q
 ·exact h Mh s m H x y v u Q I rx ry q
 ·exact h' Mh s m H x y v u Q I rx ry q
def zPT{o:Op2}{h:Int->Int->Int}(hi:∀ i j,o (.int i) (.int j)=.ok (.int (h i j)))(hn:∀ a b d,o a b=.ok d->∃ i j,a=.int i/\b=.int j)(he:∀ a b c,o a b≠.err c):OpK X (rI0 fun i j=>.int (h i j)) o:=
 ⟨he,fun Hi H x y a b d Q s r1 r2 z q=>by
  obtain⟨i,j,rfl,rfl⟩:=hn a b d z;rw[hi] at z;cases z
  exact⟨i,j,r1.intI,r2.intI,q _ Hi H (Ext.refl s) (.int _)⟩⟩
def zNj{o:Op2}{h:Int->Int->Bool}(hi:∀ i j,o (.int i) (.int j)=.ok (.bl (h i j)))(hn:∀ a b d,o a b=.ok d->∃ i j,a=.int i/\b=.int j)(he:∀ a b c,o a b≠.err c):OpK X (rI0 fun i j=>.bl (h i j)) o:=
 ⟨he,fun Hi H x y a b d Q s r1 r2 z q=>by
  obtain⟨i,j,rfl,rfl⟩:=hn a b d z;rw[hi] at z;cases z
  exact⟨i,j,r1.intI,r2.intI,q _ Hi H (Ext.refl s) (.bl _)⟩⟩
def uM:OpK X (rI0 fun i j=>.int (i-j)) xQ:=zPT (fun _ _=>rfl) (fun a b d z=>by unfold xQ at z;split at z<;>first | exact⟨_,_,rfl,rfl⟩ | cases z) (fun a b c z=>by unfold xQ at z;split at z<;>cases z)
def zEW:OpK X (rI0 fun i j=>.bl (decide (i<j))) oLt:=zNj (fun _ _=>rfl) (fun a b d z=>by unfold oLt at z;split at z<;>first | exact⟨_,_,rfl,rfl⟩ | cases z) (fun a b c z=>by unfold oLt at z;split at z<;>cases z)
def zSb:OpK X (rI0 fun i j=>.bl (decide (j<i))) oGt:=zNj (fun _ _=>rfl) (fun a b d z=>by unfold oGt at z;split at z<;>first | exact⟨_,_,rfl,rfl⟩ | cases z) (fun a b c z=>by unfold oGt at z;split at z<;>cases z)
def zLV{o:Op2}{C:Int->Int->Prop}{h:Int->Int->Int}(hn:∀ a b d,o a b=.ok d->∃ i j,a=.int i/\b=.int j/\C i j/\d=.int (h i j))(he:∀ a b c,o a b≠.err c):OpK X (rI C fun i j=>.int (h i j)) o:=
 ⟨he,fun Hi H x y a b d Q s r1 r2 z q=>by
  obtain⟨i,j,rfl,rfl,hc,rfl⟩:=hn a b d z
  exact⟨i,j,r1.intI,r2.intI,hc,q _ Hi H (Ext.refl s) (.int _)⟩⟩
def zRn(i j:Int):Prop:=kL i j=true
def bT:OpR X (binaryOp .Mult) (rI zRn fun i j=>.int (i*j)):=opI fun i j _ _ _ _ _ hc q=>by
 have hc':kL i j=true:=hc;unfold kL at hc';simp only[X1,Vh,decide_eq_true_eq] at hc';rcases hc' with (⟨h1,h2⟩ | ⟨h1,h2⟩) | h
 ·exact mul_int q (zRR.ok (.inl ⟨h1,h2⟩))
 ·exact mul_int q (zRR.ok (.inr ⟨h1,h2⟩))
 ·exact mul_int q (PySem.IntMulOk.of_le (Wn.mpr (zPc i)) (Wn.mpr (zPc j)) h)
def zQU(_ j:Int):Prop:=mM j=true
def dO:OpR X (binaryOp .FloorDiv) (rI zQU fun i j=>.int (i.fdiv j)):=opI fun i j _ _ _ _ _ hc q=>by
 have hc':mM j=true:=hc;unfold mM at hc';simp only[Vh,decide_eq_true_eq] at hc';refine floordiv_int hc'.1 q (.inl (PyProof.noPylong_of_log2 ?_))
 have h2:=hc'.2;unfold nb at h2;omega
def zRb(i j:Int):Prop:=sI i j=true
def zAB:OpR X (binaryOp .Pow) (rI zRb fun i j=>.int (i^j.toNat)):=opI fun i j _ _ _ _ _ hc q=>by
 have hc':sI i j=true:=hc;unfold sI at hc';simp only[Vh,decide_eq_true_eq] at hc';refine pow_int hc'.1 (Vt (Qah ?_ hc'.1) hc'.2) q
 have:=Wn.mpr (zPc i)
 omega
def iD:OpK X (rI zRn fun i j=>.int (i*j)) pU:=zLV (fun a b d z=>by
 unfold pU at z;split at z
 case h_2=>cases z
 rename_i i j
 have z':(if kL i j=true then Res.ok (D.int (i*j)) else .no)=.ok d:=z;by_cases h:kL i j=true
 ·rw[Jk h] at z';cases z';exact⟨i,j,rfl,rfl,h,rfl⟩
 ·rw[Jl h] at z';cases z') (fun a b c z=>by
 unfold pU at z;split at z
 case h_2=>cases z
 rename_i i j
 have z':(if kL i j=true then Res.ok (D.int (i*j)) else .no)=.err c:=z;by_cases h:kL i j=true
 ·rw[Jk h] at z';cases z'
 ·rw[Jl h] at z';cases z')
def nN:OpK X (rI zQU fun i j=>.int (i.fdiv j)) vE:=zLV (fun a b d z=>by
 unfold vE at z;split at z
 case h_2=>cases z
 rename_i i j
 have z':(if mM j=true then Res.ok (D.int (i.fdiv j)) else .no)=.ok d:=z;by_cases h:mM j=true
 ·rw[Jk h] at z';cases z';exact⟨i,j,rfl,rfl,h,rfl⟩
 ·rw[Jl h] at z';cases z') (fun a b c z=>by
 unfold vE at z;split at z
 case h_2=>cases z
 rename_i i j
 have z':(if mM j=true then Res.ok (D.int (i.fdiv j)) else .no)=.err c:=z;by_cases h:mM j=true
 ·rw[Jk h] at z';cases z'
 ·rw[Jl h] at z';cases z')
def pT:OpK X (rI (fun _ j=>j≠0) fun i j=>.int (i.fmod j)) zAh:=zLV (fun a b d z=>by
 unfold zAh at z;split at z
 case h_2=>cases z
 rename_i i j
 have z':(if j≠0 then Res.ok (D.int (i.fmod j)) else .no)=.ok d:=z;by_cases h:j≠0
 ·rw[Jk h] at z';cases z';exact⟨i,j,rfl,rfl,h,rfl⟩
 ·rw[Jl h] at z';cases z') (fun a b c z=>by
 unfold zAh at z;split at z
 case h_2=>cases z
 rename_i i j
 have z':(if j≠0 then Res.ok (D.int (i.fmod j)) else .no)=.err c:=z;by_cases h:j≠0
 ·rw[Jk h] at z';cases z'
 ·rw[Jl h] at z';cases z')
def zLD:OpK X (rI zRb fun i j=>.int (i^j.toNat)) zMX:=zLV (fun a b d z=>by
 unfold zMX at z;split at z
 case h_2=>cases z
 rename_i i j
 have z':(if sI i j=true then Res.ok (D.int (i^j.toNat)) else .no)=.ok d:=z;by_cases h:sI i j=true
 ·rw[Jk h] at z';cases z';exact⟨i,j,rfl,rfl,h,rfl⟩
 ·rw[Jl h] at z';cases z') (fun a b c z=>by
 unfold zMX at z;split at z
 case h_2=>cases z
 rename_i i j
 have z':(if sI i j=true then Res.ok (D.int (i^j.toNat)) else .no)=.err c:=z;by_cases h:sI i j=true
 ·rw[Jk h] at z';cases z'
 ·rw[Jl h] at z';cases z')
def zRs(K:PySem.W.Frag):R2:=fun x y H Q=>∃ a b ys,x=.ref a/\y=.ref b/\SqT K H a []/\SqT K H b ys/\Q (.ref b) H
def zNG:OpR X (binaryOp .Add) (zRs X.K):=by
 intro Mh s m H x y v u Q I rx ry h;obtain⟨a,b,ys,rfl,rfl,ha,hb,q⟩:=h;cases rx;cases ry;obtain⟨its,r1,p1,_⟩:=I.tuple ha;obtain⟨its2,r2,p2,_⟩:=I.tuple hb;cases r1;obtain⟨⟨c1,d1,t1,s1⟩,ho1,hc1,n1,hd1⟩:=id p1;obtain⟨⟨c2,d2,t2,s2⟩,ho2,hc2,n2,hd2⟩:=id p2;simp only at hc1 hd1 hc2 hd2
 subst hc1 hd1 hc2 hd2;exact Jy ⟨_,ho1,rfl⟩ ⟨_,ho2,rfl⟩ Jz J0 U9 Wa (Wb _ _) (tuple_addW0 a b #[] its2.toArray n1 n2 d1 d2 s1 s2 rfl) ⟨ho1,ho2,⟨.ref b,H,I,rfl,q⟩⟩
def zRI(K:PySem.W.Frag):R2:=fun x y H Q=>rI0 (fun i j=>.int (i+j)) x y H Q∨(zRB K x y H Q∨zRs K x y H Q)
def gB:OpR X (binaryOp .Add) (zRI X.K):=OpR.or zRJ (OpR.or zNH zNG)
def qB:OpK X (zRI X.K) zQ:=⟨fun a b c z=>(by
  unfold zQ at z;split at z
  case h_1=>cases z
  case h_3=>cases z
  rename_i as bs
  have z':(if as.length+bs.length<=16777216 then Res.ok (D.tup (as++bs)) else .no)=.err c:=z
  split at z'<;>cases z'),fun Hi H x y a b d Q s r1 r2 z q=>by
  unfold zQ at z;split at z
  case h_3=>cases z
  ·cases z
   exact .inl ⟨_,_,r1.intI,r2.intI,q _ Hi H (Ext.refl s) (.int _)⟩
  ·rename_i as bs
   have z':(if as.length+bs.length<=16777216 then Res.ok (D.tup (as++bs)) else .no)=.ok d:=z;split at z'
   ·rename_i hz
    cases z'
    obtain⟨p,xs,rfl,h1,i1⟩:=r1.tupI;obtain⟨p',ys,rfl,h2,i2⟩:=r2.tupI;by_cases h0:as.length=0
    ·have e0:as=[]:=Wo h0
     subst e0;cases i1;exact .inr (.inr ⟨p,p',ys,rfl,rfl,bV s h1,bV s h2,q _ Hi H (Ext.refl s) (.tup h2 i2)⟩)
    refine .inr (.inl ⟨p,p',xs,ys,rfl,rfl,bV s h1,bV s h2,fun e=>h0 (by rw[<-i1.length,e];rfl),by rw[i1.length,i2.length];exact hz,fun e=>?_,fun _ l hl=>?_⟩)
    ·subst e
     cases i2;rw[Vm] at q;exact q _ Hi H (Ext.refl s) (.tup h1 i1)
    ·exact q _ _ _ (Ext.new s hl) (.tup (SqT.of aS) ((i1.append i2).mono (bY (s.none hl) _)))
   ·cases z'⟩
def zNr{A:Type}{xs:List A}{i:Int}{v:A}(h0:i<0)(h1:0<=(xs.length:Int)+i)(h:xs[((xs.length:Int)+i).toNat]?=some v):atI xs i=some v:=by
 have e:ixN xs.length i=some ((xs.length:Int)+i).toNat:=by
  unfold ixN;rw[Jl ⋯,Jk ⋯];congr 2
  omega
 unfold atI;rw[e];exact h
def zIF{K:Fg_}{H:Hp}{xs:List V}{ds:List D}{i:Int}{d:D}(h:IsDs K H xs ds)(e:atD ds i=some d):∃ v,atI xs i=some v/\IsD K H v d:=by
 unfold atD at e;by_cases h0:0<=i
 ·rw[Jk h0] at e
  obtain⟨v,hv,r⟩:=h.at e;refine⟨v,?_,r⟩
  have:=zDP hv
  rw[show((i.toNat:Nat):Int)=i by omega] at this;exact this
 ·rw[Jl h0] at e
  by_cases h1:0<=(ds.length:Int)+i
  ·rw[Jk h1] at e
   obtain⟨v,hv,r⟩:=h.at e;refine⟨v,?_,r⟩
   have hl:=h.length;have e2:((ds.length:Int)+i).toNat=((xs.length:Int)+i).toNat:=by rw[hl]
   rw[e2] at hv;exact zNr ⋯ ⋯ hv
  ·rw[Jl h1] at e;cases e
def oV:OpK X (fun x y H Q=>zRY X.K x y H Q∨zRQ X.K x y H Q) oIx:=⟨fun a b c z=>(by
  unfold oIx at z;split at z
  case h_3=>cases z
  ·rename_i ds i
   have z':ofO (atD ds i)=Res.err c:=z;cases q:atD ds i<;>rw[q] at z'<;>cases z'
  ·rename_i ds i
   have z':ofO (atD ds i)=Res.err c:=z
   cases q:atD ds i<;>rw[q] at z'<;>cases z'),fun Hi H x y a b d Q s r1 r2 z q=>by
  unfold oIx at z;split at z
  case h_3=>cases z
  ·rename_i ds i
   have z':ofO (atD ds i)=Res.ok d:=z
   cases w:atD ds i with
   | none=>rw[w] at z';cases z'
   | some d'=>
    rw[w] at z';cases z'
    obtain⟨p,xs,rfl,h1,i1⟩:=r1.tupI;obtain⟨v,hv,r⟩:=zIF i1 w;exact .inr ⟨p,xs,i,v,rfl,r2.intI,bV s h1,hv,q v Hi H (Ext.refl s) r⟩
  ·rename_i ds i
   have z':ofO (atD ds i)=Res.ok d:=z
   cases w:atD ds i with
   | none=>rw[w] at z';cases z'
   | some d'=>
    rw[w] at z';cases z'
    obtain⟨p,xs,rfl,h1,i1⟩:=r1.lstI;obtain⟨v,hv,r⟩:=zIF i1 w
    exact .inl ⟨p,xs,i,v,rfl,r2.intI,cJ s h1,hv,q v Hi H (Ext.refl s) r⟩⟩
def bE:IxR X (fun x y H Q=>zRY X.K x y H Q∨zRQ X.K x y H Q):=zOz.or zRl
end
section
variable{X:Cx}{Mh:List (Jc×Obj)}{r:St}{H:Hp}{s:Jb}
mutual
def IsD.inj(I:Inv X Mh r H s):∀ {v:V} {d e:D},IsD X.K H v d->IsD X.K H v e->d=e
 | _,_,_,.non,h=>by cases h;rfl
 | _,_,_,.bl b,h=>by cases h;rfl
 | _,_,_,.int i,h=>by cases h;rfl
 | _,_,_,.str x,h=>by cases h;rfl
 | _,_,_,.tup h hs,h2=>by
  cases h2 with
  | tup h' hs'=>
   have e:=I.tuple_inj h h';subst e;rw[IsDs.inj I hs hs']
  | lst h' hs'=>
   exfalso
   obtain⟨_,_,⟨o,e,c,_⟩,_⟩:=I.tuple h;obtain⟨_,_,⟨o',n',e',c',_⟩,_⟩:=I.list h';rw[e] at e';cases e';rw[c] at c';exact absurd c' (by decide)
 | _,_,_,.lst h hs,h2=>by
  cases h2 with
  | lst h' hs'=>
   have e:=I.list_inj h h';subst e;rw[IsDs.inj I hs hs']
  | tup h' hs'=>
   exfalso
   obtain⟨_,_,⟨o,e,c,_⟩,_⟩:=I.tuple h';obtain⟨_,_,⟨o',n',e',c',_⟩,_⟩:=I.list h;rw[e] at e';cases e';rw[c] at c';exact absurd c' (by decide)
def IsDs.inj(I:Inv X Mh r H s):∀ {vs:List V} {ds es:List D},IsDs X.K H vs ds->IsDs X.K H vs es->ds=es
 | _,_,_,.nil,h=>by cases h;rfl
 | _,_,_,.cons h hs,h2=>by
  cases h2 with
  | cons h' hs'=>rw[IsD.inj I h h',IsDs.inj I hs hs']
end
def zHH{r:Type}{l:List r}{j:Nat}{x d:r}(h:l[j]?=some x):l.getD j d=x:=by
 rw[Qv,h];rfl
def oG{A:Jh}{xs xs':List V}{ds ds':List D}{its its':List Ja}(hs:IsDs X.K H xs ds)(hs':IsDs X.K H xs' ds')(rv:dF xs its)(rv':dF xs' its')
  (rc:∀(d d':D)(v v':V)(u u':Ja),d∈ds->IsD X.K H v d->IsD X.K H v' d'->cX v u->cX v' u'->SeqAt.EqAt A s u u' (eqD d d'))
  (j:Nat) (g1:j<its.toArray.size) (g2:j<its'.toArray.size):SeqAt.EqAt A s its.toArray[j] its'.toArray[j] (eqD (ds.getD j .non) (ds'.getD j .non)):=by
 have g1':j<its.length:=by simpa using g1
 have g2':j<its'.length:=by simpa using g2
 have l1:its.length=ds.length:=by rw[<-rv.length,hs.length]
 have l2:its'.length=ds'.length:=by rw[<-rv'.length,hs'.length]
 obtain⟨d,hd⟩:∃ d,ds[j]?=some d:=⟨_,Qm ⋯⟩
 obtain⟨d',hd'⟩:∃ d,ds'[j]?=some d:=⟨_,Qm ⋯⟩
 obtain⟨v,hv,iv⟩:=hs.at hd;obtain⟨v',hv',iv'⟩:=hs'.at hd';obtain⟨w1,hw,rw1⟩:=rv.get hv;obtain⟨w2,hw',rw2⟩:=rv'.get hv'
 have e1:its.toArray[j]=w1:=by
  rw[Qm g1'] at hw;simpa using hw
 have e2:its'.toArray[j]=w2:=by
  rw[Qm g2'] at hw';simpa using hw'
 rw[e1,e2,zHH hd,zHH hd'];exact rc d d' v v' w1 w2 (Qi hd) iv iv' rw1 rw2
def jL{ds ds':List D}(h:ds.length=ds'.length):((List.range ds.length).all fun j=>eqD (ds.getD j .non) (ds'.getD j .non))=zHw ds ds':=by
 rw[oC,<-h,Yv];simp
def zBH{ds ds':List D}(h:ds.length≠ds'.length):zHw ds ds'=false:=by
 rw[oC];simp[h]
def zCD(I:Inv X Mh c H s){A:Jh}{v v':V}{d d':D}{u u':Ja}(h1:IsD X.K H v d)(h2:IsD X.K H v' d')(r1:cX v u)(r2:cX v' u')(hu:A.units<cLine)
  (rc:∀ ds,(d=.tup ds∨d=.lst ds)->∀(e e':D)(w w':V)(z z':Ja),e∈ds->IsD X.K H w e->IsD X.K H w' e'->cX w z->cX w' z'->SeqAt.EqAt A.in1 s z z' (eqD e e')):
  SeqAt.EqAt A s u u' (eqD d d'):=by
 cases h1 with
 | non=>
  cases (show u=Value.none from r1)
  cases h2 with
  | non=>cases (show u'=Value.none from r2);exact SeqAt.EqAt.same _
  | bl b=>cases (show u'=Value.bool _ from r2);exact SeqAt.EqAt.none_bool _
  | int i=>obtain⟨t,rfl⟩:=r2;exact SeqAt.EqAt.none_int _ _
  | str x=>obtain⟨t,rfl⟩:=r2;exact SeqAt.EqAt.none_str _ _
  | tup h hs=>cases (show u'=Value.ref _ from r2);obtain⟨its,rv,p,hz⟩:=I.tuple h;exact SeqAt.EqAt.none_tuple (show s.heap.IsTuple _ its.toArray from p) hu
  | lst h hs=>cases (show u'=Value.ref _ from r2);obtain⟨its,rv,p,hz⟩:=I.list h;exact SeqAt.EqAt.none_list p.isList hu
 | bl b=>
  cases (show u=Value.bool _ from r1)
  cases h2 with
  | non=>cases (show u'=Value.none from r2);exact SeqAt.EqAt.bool_none _
  | bl b=>cases (show u'=Value.bool _ from r2);exact SeqAt.EqAt.bool_bool _ _
  | int i=>obtain⟨t,rfl⟩:=r2;exact SeqAt.EqAt.bool_int _ _ _
  | str x=>obtain⟨t,rfl⟩:=r2;exact SeqAt.EqAt.bool_str _ _ _
  | tup h hs=>cases (show u'=Value.ref _ from r2);obtain⟨its,rv,p,hz⟩:=I.tuple h;exact SeqAt.EqAt.bool_tuple _ (show s.heap.IsTuple _ its.toArray from p) hu
  | lst h hs=>cases (show u'=Value.ref _ from r2);obtain⟨its,rv,p,hz⟩:=I.list h;exact SeqAt.EqAt.bool_list _ p.isList hu
 | int i=>
  obtain⟨t,rfl⟩:=r1
  cases h2 with
  | non=>cases (show u'=Value.none from r2);exact SeqAt.EqAt.int_none _ _
  | bl b=>cases (show u'=Value.bool _ from r2);exact SeqAt.EqAt.int_bool _ _ _
  | int i=>obtain⟨t,rfl⟩:=r2;exact SeqAt.EqAt.int_int _ _ _ _
  | str x=>obtain⟨t,rfl⟩:=r2;exact SeqAt.EqAt.int_str _ _ _ _
  | tup h hs=>cases (show u'=Value.ref _ from r2);obtain⟨its,rv,p,hz⟩:=I.tuple h;exact SeqAt.EqAt.int_tuple _ _ (show s.heap.IsTuple _ its.toArray from p) hu
  | lst h hs=>cases (show u'=Value.ref _ from r2);obtain⟨its,rv,p,hz⟩:=I.list h;exact SeqAt.EqAt.int_list _ _ p.isList hu
 | str x=>
  obtain⟨t,rfl⟩:=r1
  cases h2 with
  | non=>cases (show u'=Value.none from r2);exact SeqAt.EqAt.str_none _ _
  | bl b=>cases (show u'=Value.bool _ from r2);exact SeqAt.EqAt.str_bool _ _ _
  | int i=>obtain⟨t,rfl⟩:=r2;exact SeqAt.EqAt.str_int _ _ _ _
  | str x=>obtain⟨t,rfl⟩:=r2;exact SeqAt.EqAt.str_str _ _ _ _
  | tup h hs=>cases (show u'=Value.ref _ from r2);obtain⟨its,rv,p,hz⟩:=I.tuple h;exact SeqAt.EqAt.str_tuple _ _ (show s.heap.IsTuple _ its.toArray from p) hu
  | lst h hs=>cases (show u'=Value.ref _ from r2);obtain⟨its,rv,p,hz⟩:=I.list h;exact SeqAt.EqAt.str_list _ _ p.isList hu
 | @tup a xs ds h hs=>
  cases (show u=Value.ref a from r1)
  obtain⟨its,rv,p,hz⟩:=I.tuple h
  cases h2 with
  | non=>cases (show u'=Value.none from r2);exact SeqAt.EqAt.tuple_none (show s.heap.IsTuple _ its.toArray from p) hu
  | bl b=>cases (show u'=Value.bool _ from r2);exact SeqAt.EqAt.tuple_bool _ (show s.heap.IsTuple _ its.toArray from p) hu
  | int i=>obtain⟨t,rfl⟩:=r2;exact SeqAt.EqAt.tuple_int _ _ (show s.heap.IsTuple _ its.toArray from p) hu
  | str x=>obtain⟨t,rfl⟩:=r2;exact SeqAt.EqAt.tuple_str _ _ (show s.heap.IsTuple _ its.toArray from p) hu
  | @tup a' xs' ds' h' hs'=>
   cases (show u'=Value.ref a' from r2)
   by_cases e:a=a'
   ·subst e
    have e:=I.tuple_inj h h';subst e;have e:=IsDs.inj I hs hs';subst e;rw[uC];exact SeqAt.EqAt.same _
   ·obtain⟨its',rv',p',hz'⟩:=I.tuple h'
    have l1:its.toArray.size=ds.length:=by rw[Qj,<-rv.length,hs.length]
    have l2:its'.toArray.size=ds'.length:=by rw[Qj,<-rv'.length,hs'.length]
    have key:=SeqAt.RcAt.tuples (A:=A) (s:=s) (show s.heap.IsTuple a its.toArray from p) (show s.heap.IsTuple a' its'.toArray from p') hu
     (oG (A:=A.in1) (s:=s) hs hs' rv rv' fun d d' v v' u u' hm iv iv' r r'=>rc ds (.inl rfl) d d' v v' u u' hm iv iv' r r')
    rw[l1,l2,<-oC] at key;exact SeqAt.EqAt.of_refs e key
  | @lst a' xs' ds' h' hs'=>
   cases (show u'=Value.ref a' from r2)
   obtain⟨its',rv',p',hz'⟩:=I.list h';exact SeqAt.EqAt.tuple_list (show s.heap.IsTuple _ its.toArray from p) p'.isList hu
 | @lst a xs ds h hs=>
  cases (show u=Value.ref a from r1)
  obtain⟨its,rv,p,hz⟩:=I.list h
  cases h2 with
  | non=>cases (show u'=Value.none from r2);exact SeqAt.EqAt.list_none p.isList hu
  | bl b=>cases (show u'=Value.bool _ from r2);exact SeqAt.EqAt.list_bool _ p.isList hu
  | int i=>obtain⟨t,rfl⟩:=r2;exact SeqAt.EqAt.list_int _ _ p.isList hu
  | str x=>obtain⟨t,rfl⟩:=r2;exact SeqAt.EqAt.list_str _ _ p.isList hu
  | @tup a' xs' ds' h' hs'=>
   cases (show u'=Value.ref a' from r2)
   obtain⟨its',rv',p',hz'⟩:=I.tuple h';exact SeqAt.EqAt.list_tuple p.isList (show s.heap.IsTuple _ its'.toArray from p') hu
  | @lst a' xs' ds' h' hs'=>
   cases (show u'=Value.ref a' from r2)
   by_cases e:a=a'
   ·subst e
    have e:=I.list_inj h h';subst e;have e:=IsDs.inj I hs hs';subst e;rw[uC];exact SeqAt.EqAt.same _
   ·obtain⟨its',rv',p',hz'⟩:=I.list h'
    have l1:its.toArray.size=ds.length:=by rw[Qj,<-rv.length,hs.length]
    have l2:its'.toArray.size=ds'.length:=by rw[Qj,<-rv'.length,hs'.length]
    by_cases hl:ds.length=ds'.length
    ·have key:=SeqAt.RcAt.lists (A:=A) (s:=s) p.isList p'.isList (by rw[l1,l2,hl]) hu
      (oG (A:=A.in1) (s:=s) hs hs' rv rv' fun d d' v v' u u' hm iv iv' r r'=>rc ds (.inr rfl) d d' v v' u u' hm iv iv' r r')
     rw[l1,jL hl] at key;exact SeqAt.EqAt.of_refs e key
    ·have key:=SeqAt.RcAt.lists_lengths (A:=A) (s:=s) p.isList p'.isList (by rw[l1,l2];simp[hl]) hu
     rw[eqD,zBH hl];exact SeqAt.EqAt.of_refs e key
def zIi(I:Inv X Mh r H s)(n:Nat):∀ {v v':V} {d d':D},dep d<=n->IsD X.K H v d->IsD X.K H v' d'->
  ∀(A:Jh)(u u':Ja),A.units+n<cLine->cX v u->cX v' u'->SeqAt.EqAt A s u u' (eqD d d'):=by
 induction n with
 | zero=>
  intro v v' d d' hn h1 h2 A u u' hu r1 r2;refine zCD I h1 h2 r1 r2 ⋯ fun ds hd=>?_
  rcases hd with rfl | rfl<;>(rw[dep] at hn;omega)
 | succ n ih=>
  intro v v' d d' hn h1 h2 A u u' hu r1 r2;refine zCD I h1 h2 r1 r2 ⋯ fun ds hd e e' w w' z z' hm i1 i2 q1 q2=>?_
  refine ih ?_ i1 i2 A.in1 z z' (by show A.units+1+n<cLine;omega) q1 q2
  have:=xB hm
  rcases hd with rfl | rfl<;>(rw[dep] at hn;omega)
def zJJ(I:Inv X Mh c H s){A:Jh}{v v':V}{d d':D}{u u':Ja}(h1:IsD X.K H v d)(h2:IsD X.K H v' d')(r1:cX v u)(r2:cX v' u')(hu:A.units<cLine)
  (rc:∀ ds,(d=.tup ds∨d=.lst ds)->∀(e e':D)(w w':V)(z z':Ja),e∈ds->IsD X.K H w e->IsD X.K H w' e'->cX w z->cX w' z'->SeqAt.EqAt A.in1 s z z' (eqD e e')):
  SeqAt.RcAt A s u u' (eqD d d'):=by
 cases h1 with
 | non=>
  cases (show u=Value.none from r1)
  cases h2 with
  | non=>cases (show u'=Value.none from r2);exact SeqAt.RcAt.none_none
  | bl b=>cases (show u'=Value.bool _ from r2);exact SeqAt.RcAt.none_bool _
  | int i=>obtain⟨t,rfl⟩:=r2;exact SeqAt.RcAt.none_int _ _
  | str x=>obtain⟨t,rfl⟩:=r2;exact SeqAt.RcAt.none_str _ _
  | tup h hs=>cases (show u'=Value.ref _ from r2);obtain⟨its,rv,p,hz⟩:=I.tuple h;exact SeqAt.RcAt.none_tuple (show s.heap.IsTuple _ its.toArray from p) hu
  | lst h hs=>cases (show u'=Value.ref _ from r2);obtain⟨its,rv,p,hz⟩:=I.list h;exact SeqAt.RcAt.none_list p.isList hu
 | bl b=>
  cases (show u=Value.bool _ from r1)
  cases h2 with
  | non=>cases (show u'=Value.none from r2);exact SeqAt.RcAt.bool_none _
  | bl b=>cases (show u'=Value.bool _ from r2);exact SeqAt.RcAt.bool_bool _ _
  | int i=>obtain⟨t,rfl⟩:=r2;exact SeqAt.RcAt.bool_int _ _ _
  | str x=>obtain⟨t,rfl⟩:=r2;exact SeqAt.RcAt.bool_str _ _ _
  | tup h hs=>cases (show u'=Value.ref _ from r2);obtain⟨its,rv,p,hz⟩:=I.tuple h;exact SeqAt.RcAt.bool_tuple _ (show s.heap.IsTuple _ its.toArray from p) hu
  | lst h hs=>cases (show u'=Value.ref _ from r2);obtain⟨its,rv,p,hz⟩:=I.list h;exact SeqAt.RcAt.bool_list _ p.isList hu
 | int i=>
  obtain⟨t,rfl⟩:=r1
  cases h2 with
  | non=>cases (show u'=Value.none from r2);exact SeqAt.RcAt.int_none _ _
  | bl b=>cases (show u'=Value.bool _ from r2);exact SeqAt.RcAt.int_bool _ _ _
  | int i=>obtain⟨t,rfl⟩:=r2;exact SeqAt.RcAt.int_int _ _ _ _
  | str x=>obtain⟨t,rfl⟩:=r2;exact SeqAt.RcAt.int_str _ _ _ _
  | tup h hs=>cases (show u'=Value.ref _ from r2);obtain⟨its,rv,p,hz⟩:=I.tuple h;exact SeqAt.RcAt.int_tuple _ _ (show s.heap.IsTuple _ its.toArray from p) hu
  | lst h hs=>cases (show u'=Value.ref _ from r2);obtain⟨its,rv,p,hz⟩:=I.list h;exact SeqAt.RcAt.int_list _ _ p.isList hu
 | str x=>
  obtain⟨t,rfl⟩:=r1
  cases h2 with
  | non=>cases (show u'=Value.none from r2);exact SeqAt.RcAt.str_none _ _
  | bl b=>cases (show u'=Value.bool _ from r2);exact SeqAt.RcAt.str_bool _ _ _
  | int i=>obtain⟨t,rfl⟩:=r2;exact SeqAt.RcAt.str_int _ _ _ _
  | str x=>obtain⟨t,rfl⟩:=r2;exact SeqAt.RcAt.str_str _ _ _ _
  | tup h hs=>cases (show u'=Value.ref _ from r2);obtain⟨its,rv,p,hz⟩:=I.tuple h;exact SeqAt.RcAt.str_tuple _ _ (show s.heap.IsTuple _ its.toArray from p) hu
  | lst h hs=>cases (show u'=Value.ref _ from r2);obtain⟨its,rv,p,hz⟩:=I.list h;exact SeqAt.RcAt.str_list _ _ p.isList hu
 | @tup a xs ds h hs=>
  cases (show u=Value.ref a from r1)
  obtain⟨its,rv,p,hz⟩:=I.tuple h
  cases h2 with
  | non=>cases (show u'=Value.none from r2);exact SeqAt.RcAt.tuple_none (show s.heap.IsTuple _ its.toArray from p) hu
  | bl b=>cases (show u'=Value.bool _ from r2);exact SeqAt.RcAt.tuple_bool _ (show s.heap.IsTuple _ its.toArray from p) hu
  | int i=>obtain⟨t,rfl⟩:=r2;exact SeqAt.RcAt.tuple_int _ _ (show s.heap.IsTuple _ its.toArray from p) hu
  | str x=>obtain⟨t,rfl⟩:=r2;exact SeqAt.RcAt.tuple_str _ _ (show s.heap.IsTuple _ its.toArray from p) hu
  | @tup a' xs' ds' h' hs'=>
   cases (show u'=Value.ref a' from r2)
   ·obtain⟨its',rv',p',hz'⟩:=I.tuple h'
    have l1:its.toArray.size=ds.length:=by rw[Qj,<-rv.length,hs.length]
    have l2:its'.toArray.size=ds'.length:=by rw[Qj,<-rv'.length,hs'.length]
    have key:=SeqAt.RcAt.tuples (A:=A) (s:=s) (show s.heap.IsTuple a its.toArray from p) (show s.heap.IsTuple a' its'.toArray from p') hu
     (oG (A:=A.in1) (s:=s) hs hs' rv rv' fun d d' v v' u u' hm iv iv' r r'=>rc ds (.inl rfl) d d' v v' u u' hm iv iv' r r')
    rw[l1,l2,<-oC] at key;exact key
  | @lst a' xs' ds' h' hs'=>
   cases (show u'=Value.ref a' from r2)
   obtain⟨its',rv',p',hz'⟩:=I.list h';exact SeqAt.RcAt.tuple_list (show s.heap.IsTuple _ its.toArray from p) p'.isList hu
 | @lst a xs ds h hs=>
  cases (show u=Value.ref a from r1)
  obtain⟨its,rv,p,hz⟩:=I.list h
  cases h2 with
  | non=>cases (show u'=Value.none from r2);exact SeqAt.RcAt.list_none p.isList hu
  | bl b=>cases (show u'=Value.bool _ from r2);exact SeqAt.RcAt.list_bool _ p.isList hu
  | int i=>obtain⟨t,rfl⟩:=r2;exact SeqAt.RcAt.list_int _ _ p.isList hu
  | str x=>obtain⟨t,rfl⟩:=r2;exact SeqAt.RcAt.list_str _ _ p.isList hu
  | @tup a' xs' ds' h' hs'=>
   cases (show u'=Value.ref a' from r2)
   obtain⟨its',rv',p',hz'⟩:=I.tuple h';exact SeqAt.RcAt.list_tuple p.isList (show s.heap.IsTuple _ its'.toArray from p') hu
  | @lst a' xs' ds' h' hs'=>
   cases (show u'=Value.ref a' from r2)
   ·obtain⟨its',rv',p',hz'⟩:=I.list h'
    have l1:its.toArray.size=ds.length:=by rw[Qj,<-rv.length,hs.length]
    have l2:its'.toArray.size=ds'.length:=by rw[Qj,<-rv'.length,hs'.length]
    by_cases hl:ds.length=ds'.length
    ·have key:=SeqAt.RcAt.lists (A:=A) (s:=s) p.isList p'.isList (by rw[l1,l2,hl]) hu
      (oG (A:=A.in1) (s:=s) hs hs' rv rv' fun d d' v v' u u' hm iv iv' r r'=>rc ds (.inr rfl) d d' v v' u u' hm iv iv' r r')
     rw[l1,jL hl] at key;exact key
    ·have key:=SeqAt.RcAt.lists_lengths (A:=A) (s:=s) p.isList p'.isList (by rw[l1,l2];simp[hl]) hu
     rw[eqD,zBH hl];exact key
def zIT(I:Inv X Mh c H s){A:Jh}{v v':V}{d d':D}{u u':Ja}(h1:IsD X.K H v d)(h2:IsD X.K H v' d')(r1:cX v u)(r2:cX v' u')(hu:A.units<cLine)
  (rc:∀ ds,(d=.tup ds∨d=.lst ds)->∀(e e':D)(w w':V)(z z':Ja),e∈ds->IsD X.K H w e->IsD X.K H w' e'->cX w z->cX w' z'->SeqAt.EqAt A.in1 s z z' (eqD e e')):
  SeqAt.RcNeAt A s u u' (!eqD d d'):=by
 cases h1 with
 | non=>
  cases (show u=Value.none from r1)
  cases h2 with
  | non=>cases (show u'=Value.none from r2);exact SeqAt.RcNeAt.none_none
  | bl b=>cases (show u'=Value.bool _ from r2);exact SeqAt.RcNeAt.none_bool _
  | int i=>obtain⟨t,rfl⟩:=r2;exact SeqAt.RcNeAt.none_int _ _
  | str x=>obtain⟨t,rfl⟩:=r2;exact SeqAt.RcNeAt.none_str _ _
  | tup h hs=>cases (show u'=Value.ref _ from r2);obtain⟨its,rv,p,hz⟩:=I.tuple h;exact SeqAt.RcNeAt.none_tuple (show s.heap.IsTuple _ its.toArray from p) hu
  | lst h hs=>cases (show u'=Value.ref _ from r2);obtain⟨its,rv,p,hz⟩:=I.list h;exact SeqAt.RcNeAt.none_list p.isList hu
 | bl b=>
  cases (show u=Value.bool _ from r1)
  cases h2 with
  | non=>cases (show u'=Value.none from r2);exact SeqAt.RcNeAt.bool_none _
  | bl b=>cases (show u'=Value.bool _ from r2);exact SeqAt.RcNeAt.bool_bool _ _
  | int i=>obtain⟨t,rfl⟩:=r2;exact SeqAt.RcNeAt.bool_int _ _ _
  | str x=>obtain⟨t,rfl⟩:=r2;exact SeqAt.RcNeAt.bool_str _ _ _
  | tup h hs=>cases (show u'=Value.ref _ from r2);obtain⟨its,rv,p,hz⟩:=I.tuple h;exact SeqAt.RcNeAt.bool_tuple _ (show s.heap.IsTuple _ its.toArray from p) hu
  | lst h hs=>cases (show u'=Value.ref _ from r2);obtain⟨its,rv,p,hz⟩:=I.list h;exact SeqAt.RcNeAt.bool_list _ p.isList hu
 | int i=>
  obtain⟨t,rfl⟩:=r1
  cases h2 with
  | non=>cases (show u'=Value.none from r2);exact SeqAt.RcNeAt.int_none _ _
  | bl b=>cases (show u'=Value.bool _ from r2);exact SeqAt.RcNeAt.int_bool _ _ _
  | int i=>obtain⟨t,rfl⟩:=r2;exact SeqAt.RcNeAt.int_int _ _ _ _
  | str x=>obtain⟨t,rfl⟩:=r2;exact SeqAt.RcNeAt.int_str _ _ _ _
  | tup h hs=>cases (show u'=Value.ref _ from r2);obtain⟨its,rv,p,hz⟩:=I.tuple h;exact SeqAt.RcNeAt.int_tuple _ _ (show s.heap.IsTuple _ its.toArray from p) hu
  | lst h hs=>cases (show u'=Value.ref _ from r2);obtain⟨its,rv,p,hz⟩:=I.list h;exact SeqAt.RcNeAt.int_list _ _ p.isList hu
 | str x=>
  obtain⟨t,rfl⟩:=r1
  cases h2 with
  | non=>cases (show u'=Value.none from r2);exact SeqAt.RcNeAt.str_none _ _
  | bl b=>cases (show u'=Value.bool _ from r2);exact SeqAt.RcNeAt.str_bool _ _ _
  | int i=>obtain⟨t,rfl⟩:=r2;exact SeqAt.RcNeAt.str_int _ _ _ _
  | str x=>obtain⟨t,rfl⟩:=r2;exact SeqAt.RcNeAt.str_str _ _ _ _
  | tup h hs=>cases (show u'=Value.ref _ from r2);obtain⟨its,rv,p,hz⟩:=I.tuple h;exact SeqAt.RcNeAt.str_tuple _ _ (show s.heap.IsTuple _ its.toArray from p) hu
  | lst h hs=>cases (show u'=Value.ref _ from r2);obtain⟨its,rv,p,hz⟩:=I.list h;exact SeqAt.RcNeAt.str_list _ _ p.isList hu
 | @tup a xs ds h hs=>
  cases (show u=Value.ref a from r1)
  obtain⟨its,rv,p,hz⟩:=I.tuple h
  cases h2 with
  | non=>cases (show u'=Value.none from r2);exact SeqAt.RcNeAt.tuple_none (show s.heap.IsTuple _ its.toArray from p) hu
  | bl b=>cases (show u'=Value.bool _ from r2);exact SeqAt.RcNeAt.tuple_bool _ (show s.heap.IsTuple _ its.toArray from p) hu
  | int i=>obtain⟨t,rfl⟩:=r2;exact SeqAt.RcNeAt.tuple_int _ _ (show s.heap.IsTuple _ its.toArray from p) hu
  | str x=>obtain⟨t,rfl⟩:=r2;exact SeqAt.RcNeAt.tuple_str _ _ (show s.heap.IsTuple _ its.toArray from p) hu
  | @tup a' xs' ds' h' hs'=>
   cases (show u'=Value.ref a' from r2)
   ·obtain⟨its',rv',p',hz'⟩:=I.tuple h'
    have l1:its.toArray.size=ds.length:=by rw[Qj,<-rv.length,hs.length]
    have l2:its'.toArray.size=ds'.length:=by rw[Qj,<-rv'.length,hs'.length]
    have key:=SeqAt.RcNeAt.tuples (A:=A) (s:=s) (show s.heap.IsTuple a its.toArray from p) (show s.heap.IsTuple a' its'.toArray from p') hu
     (oG (A:=A.in1) (s:=s) hs hs' rv rv' fun d d' v v' u u' hm iv iv' r r'=>rc ds (.inl rfl) d d' v v' u u' hm iv iv' r r')
    rw[l1,l2,<-oC] at key;exact key
  | @lst a' xs' ds' h' hs'=>
   cases (show u'=Value.ref a' from r2)
   obtain⟨its',rv',p',hz'⟩:=I.list h';exact SeqAt.RcNeAt.tuple_list (show s.heap.IsTuple _ its.toArray from p) p'.isList hu
 | @lst a xs ds h hs=>
  cases (show u=Value.ref a from r1)
  obtain⟨its,rv,p,hz⟩:=I.list h
  cases h2 with
  | non=>cases (show u'=Value.none from r2);exact SeqAt.RcNeAt.list_none p.isList hu
  | bl b=>cases (show u'=Value.bool _ from r2);exact SeqAt.RcNeAt.list_bool _ p.isList hu
  | int i=>obtain⟨t,rfl⟩:=r2;exact SeqAt.RcNeAt.list_int _ _ p.isList hu
  | str x=>obtain⟨t,rfl⟩:=r2;exact SeqAt.RcNeAt.list_str _ _ p.isList hu
  | @tup a' xs' ds' h' hs'=>
   cases (show u'=Value.ref a' from r2)
   obtain⟨its',rv',p',hz'⟩:=I.tuple h';exact SeqAt.RcNeAt.list_tuple p.isList (show s.heap.IsTuple _ its'.toArray from p') hu
  | @lst a' xs' ds' h' hs'=>
   cases (show u'=Value.ref a' from r2)
   ·obtain⟨its',rv',p',hz'⟩:=I.list h'
    have l1:its.toArray.size=ds.length:=by rw[Qj,<-rv.length,hs.length]
    have l2:its'.toArray.size=ds'.length:=by rw[Qj,<-rv'.length,hs'.length]
    by_cases hl:ds.length=ds'.length
    ·have key:=SeqAt.RcNeAt.lists (A:=A) (s:=s) p.isList p'.isList (by rw[l1,l2,hl]) hu
      (oG (A:=A.in1) (s:=s) hs hs' rv rv' fun d d' v v' u u' hm iv iv' r r'=>rc ds (.inr rfl) d d' v v' u u' hm iv iv' r r')
     rw[l1,jL hl] at key;exact key
    ·have key:=SeqAt.RcNeAt.lists_lengths (A:=A) (s:=s) p.isList p'.isList (by rw[l1,l2];simp[hl]) hu
     rw[eqD,zBH hl];exact key
def eqA{X:Cx}(hu:X.A.units+64<cLine):OpR X (compareOp .Eq) (fun x y H Q=>∃ d d',IsD X.K H x d/\IsD X.K H y d'/\dep d<=50/\Q (.bl (eqD d d')) H):=by
 intro Mh s r H x y v u Q I rx ry h;obtain⟨d,d',h1,h2,hn,q⟩:=h;refine zJJ I h1 h2 rx ry ⋯ (fun ds hd e e' w w' z z' hm i1 i2 q1 q2=>?_) X.prog X.w X.xe _ ⟨.bl _,H,I,rfl,q⟩
 refine zIi I 50 ?_ i1 i2 X.A.in1 z z' (by show X.A.units+1+50<cLine;omega) q1 q2
 have:=xB hm
 rcases hd with rfl | rfl<;>(rw[dep] at hn;omega)
def neA{X:Cx}(hu:X.A.units+64<cLine):OpR X (compareOp .NotEq) (fun x y H Q=>∃ d d',IsD X.K H x d/\IsD X.K H y d'/\dep d<=50/\Q (.bl (!eqD d d')) H):=by
 intro Mh s r H x y v u Q I rx ry h;obtain⟨d,d',h1,h2,hn,q⟩:=h;refine zIT I h1 h2 rx ry ⋯ (fun ds hd e e' w w' z z' hm i1 i2 q1 q2=>?_) X.prog X.w X.xe _ ⟨.bl _,H,I,rfl,q⟩
 refine zIi I 50 ?_ i1 i2 X.A.in1 z z' (by show X.A.units+1+50<cLine;omega) q1 q2
 have:=xB hm
 rcases hd with rfl | rfl<;>(rw[dep] at hn;omega)
def uA{X:Cx}:OpK X (fun x y H Q=>∃ d d',IsD X.K H x d/\IsD X.K H y d'/\dep d<=50/\Q (.bl (eqD d d')) H) oEq:=⟨fun a b c z=>(by
  unfold oEq at z;split at z<;>cases z),fun Hi H x y a b d Q s r1 r2 z q=>by
  unfold oEq at z;split at z
  ·rename_i h;cases z;exact⟨a,b,r1.mono s,r2.mono s,h,q _ Hi H (Ext.refl s) (.bl _)⟩
  ·cases z⟩
def zLq{X:Cx}:OpK X (fun x y H Q=>∃ d d',IsD X.K H x d/\IsD X.K H y d'/\dep d<=50/\Q (.bl (!eqD d d')) H) oNe:=⟨fun a b c z=>(by
  unfold oNe at z;split at z<;>cases z),fun Hi H x y a b d Q s r1 r2 z q=>by
  unfold oNe at z;split at z
  ·rename_i h;cases z;exact⟨a,b,r1.mono s,r2.mono s,h,q _ Hi H (Ext.refl s) (.bl _)⟩
  ·cases z⟩
open Classical in
def zPy(K:PySem.W.Frag)(H:Hp)(dx:D)(u:Ja):Bool:=if ∃ w d,IsD K H w d/\cX w u/\eqD d dx=true then true else false
def zKi(I:Inv X Mh p H s){dx d:D}{w:V}{u:Ja}(h:IsD X.K H w d)(r:cX w u):zPy X.K H dx u=eqD d dx:=by
 unfold zPy;by_cases e:eqD d dx=true
 ·rw[Jk ⟨w,d,h,r,e⟩,e]
 ·rw[Jl]
  ·simpa using e
  ·rintro⟨w',d',h',r',e'⟩
   have:=r.inj r'
   subst this;have:=IsD.inj I h h'
   subst this;exact e e'
def zEj(I:Inv X Mh p H s){dx:D}:∀ {xs:List V} {ds:List D} {us:List Ja},IsDs X.K H xs ds->dF xs us->us.any (zPy X.K H dx)=ds.any fun d=>eqD d dx
 | _,_,_,.nil,.nil=>rfl
 | _,_,_,.cons h hs,.cons r t=>by rw[List.any_cons,List.any_cons,zKi I h r,zEj I hs t]
def zEk(I:Inv X Mh p H s){A:Jh}{dx:D}{x:V}{ux:Ja}(hx:IsD X.K H x dx)(rx:cX x ux)(hu:A.units+50<cLine):∀ {xs:List V} {ds:List D} {us:List Ja},IsDs X.K H xs ds->dF xs us->(∀ d∈ds,dep d<=50)->∀ u∈us,SeqAt.EqAt A s u ux (zPy X.K H dx u)
 | _,_,_,.nil,.nil,_=>fun u hu=>by cases hu
 | _,_,_,.cons h hs,.cons r t,f=>fun u hm=>by
  rcases Qd.mp hm with rfl | hm
  ·rw[zKi I h r];exact zIi I 50 (f _ Qb) h hx A _ ux hu r rx
  ·exact zEk I hx rx hu hs t (fun d hd=>f d (Qc _ hd)) u hm
def zTD(K:PySem.W.Frag)(neg:Bool):R2:=fun x y H Q=>∃ d ds,IsD K H x d/\(IsD K H y (.lst ds)∨IsD K H y (.tup ds))/\depS ds<=50/\Q (.bl (if neg=true then !(ds.any fun e=>eqD e d) else ds.any fun e=>eqD e d)) H
def inA{X:Cx}(hu:X.A.units+64<cLine):OpR X (compareOp .In) (zTD X.K false):=by
 intro Mh s r H x y v u Q I rx ry h;obtain⟨d,ds,h1,h2,hn,q⟩:=h;have hd:∀ e∈ds,dep e<=50:=fun e he=>Q4 (xB he) hn
 rcases h2 with h2 | h2
 ·obtain⟨a,xs,rfl,hl,hs⟩:=h2.lstI
  cases ry;obtain⟨its,rv,p,hz⟩:=I.list hl;refine SeqAt.in_listAt (zPy X.K H d) p.isList (fun y hy=>zEk I h1 rx (by show X.A.units+1+50<cLine;omega) hs rv hd y (by simpa using hy)) ?_
  exact⟨.bl _,H,I,by rw[List.any_toArray,zEj I hs rv];rfl,q⟩
 ·obtain⟨a,xs,rfl,hl,hs⟩:=h2.tupI
  cases ry;obtain⟨its,rv,p,hz⟩:=I.tuple hl;refine SeqAt.in_tupleAt (zPy X.K H d) (show s.heap.IsTuple _ its.toArray from p) (fun y hy=>zEk I h1 rx (by show X.A.units+1+50<cLine;omega) hs rv hd y (by simpa using hy)) ?_
  exact⟨.bl _,H,I,by rw[List.any_toArray,zEj I hs rv];rfl,q⟩
def zTd{X:Cx}:OpK X (zTD X.K false) oIn:=⟨fun a b c z=>(by
  cases b<;>first | cases z | (simp only[oIn] at z;split at z<;>cases z)),fun Hi H x y a b d Q s r1 r2 z q=>by
  cases b<;>first | cases z | skip
  ·rename_i ds
   simp only[oIn] at z;split at z
   ·rename_i h;cases z;exact⟨a,ds,r1.mono s,.inr (r2.mono s),h,q _ Hi H (Ext.refl s) (.bl _)⟩
   ·cases z
  ·rename_i ds
   simp only[oIn] at z;split at z
   ·rename_i h;cases z;exact⟨a,ds,r1.mono s,.inl (r2.mono s),h,q _ Hi H (Ext.refl s) (.bl _)⟩
   ·cases z⟩
end
end L3
namespace L3
open PySem PySem.Spec PyProof.Rows L2
unseal PEd PEf PTd PWd PAd PSd eH
section
variable{X:Cx}{G:Gx}{a b e:Expr}{es:List Expr}{pos p:Pos}{f g:Ev}{fs gs:Fv}{t u:Tv}{x:Str}{id T:String}
def zBa(X:Cx)(r:List V->Hp->VK->Prop)(o:List D->Res D):Prop:=(∀ a c,o a≠.err c)/\∀(Hi H:Hp)(vs:List V)(ds:List D)(d:D)(Q:VK),Same Hi H->IsDs X.K Hi vs ds->o ds=.ok d->
 (∀ v Hi' H',Ext Hi H Hi' H'->IsD X.K Hi' v d->Q v H')->r vs H Q
def zQR{r:List V->Hp->VK->Prop}{o:List D->Res D}(k:zBa X r o):∀ m H Q,tD X G (eB o fs) m H Q->tCB r (tAs X G fs) m H Q:=fun m H Q q=>by
 obtain⟨ρ,Hi,R,ou⟩:=q;refine zJI R ou fun vs ds Hi1 H1 e1 R1 r1 o1=>?_
 cases z:o ds with
 | no=>rw[z] at o1;exact o1.elim
 | err c=>exact absurd z (k.1 ds c)
 | ok d=>rw[z] at o1;exact k.2 Hi1 H1 vs ds d Q R1.s r1 z fun v Hi2 H2 e2 r2=>o1 Hi2 H2 e2 v r2
def aU{r:List V->Hp->VK->Prop}{o:List D->Res D}(hc:wC X (.builtin id) r)(k:zBa X r o)(hg:Gl X x)(hm:X.mg x=none)(hv:bootBuiltins x=some (.builtin id))(ha:PAd X G (e::es) fs)(hn:x ≠ "__name__" := by decide)(hdb:(x==("__debug__" : Str))=false:=by decide)
  (he:starEach (e::es) X.env=(false,eval e X.env)::starEach es X.env:=by rfl) (hpl:(backTo pos (starEach es X.env)).any (·.1)=false:=by rfl):PEd X G (.Call (.Name x p) (e::es) [] pos) (eB o fs):=
 PE.wk (zFM hc hg hm hv ha hn hdb he hpl) (zQR k)
def nK{r:List V->Hp->VK->Prop}{o:List D->Res D}(hc:wC X (.type T) r)(k:zBa X r o)(hg:Gl X x)(hm:X.mg x=none)(hv:bootBuiltins x=some (.type T))(ha:PAd X G (e::es) fs)(hn:x ≠ "__name__" := by decide)(hdb:(x==("__debug__" : Str))=false:=by decide)
  (he:starEach (e::es) X.env=(false,eval e X.env)::starEach es X.env:=by rfl) (hpl:(backTo pos (starEach es X.env)).any (·.1)=false:=by rfl):PEd X G (.Call (.Name x p) (e::es) [] pos) (eB o fs):=
 PE.wk (zCM hc hg hm hv ha hn hdb he hpl) (zQR k)
def IsDs.one{K:Fg_}{H:Hp}{vs:List V}{d:D}(h:IsDs K H vs [d]):∃ v,vs=[v]/\IsD K H v d:=by
 cases h with
 | cons h t=>cases t;exact⟨_,rfl,h⟩
def IsDs.two{K:Fg_}{H:Hp}{vs:List V}{d d':D}(h:IsDs K H vs [d,d']):∃ v w,vs=[v,w]/\IsD K H v d/\IsD K H w d':=by
 cases h with
 | cons h t=>obtain⟨w,rfl,hw⟩:=t.one;exact⟨_,w,rfl,h,hw⟩
def eP:zBa X (fun xs H Q=>∃ p ys,xs=[.ref p]/\(SqL X.K H p ys∨SqT X.K H p ys)/\Q (.int ys.length) H) nD:=⟨fun a c z=>(by
  unfold nD at z;split at z<;>cases z),fun Hi H vs ds d Q s r z q=>by
  unfold nD at z;split at z
  ·cases z
   obtain⟨v,rfl,h⟩:=r.one;obtain⟨a,xs,rfl,h1,h2⟩:=h.lstI;refine⟨a,xs,rfl,.inl (cJ s h1),?_⟩
   rw[h2.length];exact q _ Hi H (Ext.refl s) (.int _)
  ·cases z
   obtain⟨v,rfl,h⟩:=r.one;obtain⟨a,xs,rfl,h1,h2⟩:=h.tupI;refine⟨a,xs,rfl,.inr (bV s h1),?_⟩
   rw[h2.length];exact q _ Hi H (Ext.refl s) (.int _)
  ·cases z⟩
def zFZ:zBa X (fun xs H Q=>∃ i,xs=[.int i]/\Q (.int (if i<0 then -i else i)) H) zMF:=⟨fun a c z=>(by
  unfold zMF at z;split at z<;>cases z),fun Hi H vs ds d Q s r z q=>by
  unfold zMF at z;split at z
  ·cases z
   obtain⟨v,rfl,h⟩:=r.one;exact⟨_,by rw[h.intI],q _ Hi H (Ext.refl s) (.int _)⟩
  ·cases z⟩
def zHE:zBa X (fun xs H Q=>∃ p ys,xs=[.ref p]/\((SqL X.K H p ys/\∀ l,H l=none->Q (.ref l) (upd H l (.tup ys)))∨(SqT X.K H p ys/\Q (.ref p) H))) zNi:=⟨fun a c z=>(by
  unfold zNi at z;split at z<;>cases z),fun Hi H vs ds d Q s r z q=>by
  unfold zNi at z;split at z
  ·cases z
   obtain⟨v,rfl,h⟩:=r.one;obtain⟨a,xs,rfl,h1,h2⟩:=h.lstI;exact⟨a,xs,rfl,.inl ⟨cJ s h1,fun l hl=>q _ _ _ (Ext.new s hl) (.tup (SqT.of aS) (h2.mono (bY (s.none hl) _)))⟩⟩
  ·cases z
   obtain⟨v,rfl,h⟩:=r.one;obtain⟨a,xs,rfl,h1,h2⟩:=h.tupI;exact⟨a,xs,rfl,.inr ⟨bV s h1,q _ Hi H (Ext.refl s) (.tup h1 h2)⟩⟩
  ·cases z⟩
def zOM(hg:Gl X "list")(hm:X.mg "list" = none)(hv:bootBuiltins "list" = some (.type "list"))(ha:PAd X G (e::es) fs)
  (he:starEach (e::es) X.env=(false,eval e X.env)::starEach es X.env:=by rfl) (hpl:(backTo pos (starEach es X.env)).any (·.1)=false:=by rfl):PEf X G (.Call (.Name "list" p) (e::es) [] pos) (zOl fs):=
 PE.wk (zCM zCn hg hm hv ha (by decide) (by decide) he hpl) fun m H Q q=>by
 obtain⟨ρ,Hi,R,ou⟩:=q;refine zJI R ou fun vs ds Hi1 H1 e1 R1 r1 o1=>?_
 split at o1
 ·obtain⟨v,rfl,h⟩:=r1.one
  obtain⟨a,xs,rfl,h1,h2⟩:=h.lstI;exact⟨a,xs,rfl,.inl (cJ R1.s h1),fun l hl=>o1 _ _ (Ext.newF R1.s hl) l ⟨e1.h.none hl,R1.s.none hl,xs,aS,h2⟩⟩
 ·obtain⟨v,rfl,h⟩:=r1.one
  obtain⟨a,xs,rfl,h1,h2⟩:=h.tupI;exact⟨a,xs,rfl,.inr (bV R1.s h1),fun l hl=>o1 _ _ (Ext.newF R1.s hl) l ⟨e1.h.none hl,R1.s.none hl,xs,aS,h2⟩⟩
 ·exact o1.elim
variable{lo hi:Option Expr}{l h:Ov}{p2:Pos}
def tOv(X:Cx)(G:Gx)(f:Ov):TO:=fun m H Q=>∃ ρ Hi,mO X G Hi H m ρ/\Out G Hi H (f ρ) fun o _ H'=>Q o H'
@[irreducible] def POd (X:Cx) (G:Gx) (e:Option Expr) (f:Ov):Prop:=PO X e (tOv X G f)
unseal POd
def PO.wk{X:Cx}{e:Option Expr}{t t':TO}(h:PO X e t)(w:∀ m H Q,t' m H Q->t m H Q):PO X e t':=fun Mh s m H Q I q=>h Mh s m H Q I (w m H Q q)
def oW:POd X G none oN:=PO.wk zPe fun m H Q q=>by
 obtain⟨ρ,Hi,R,ou⟩:=q;exact ou.here R.s
def mD(he:PEd X G e f):POd X G (some e) (oS f):=PO.wk (zNu he) fun m H Q q=>by
 obtain⟨ρ,Hi,R,ou⟩:=q;refine zFQ R ou fun v d Hi1 H1 e1 R1 r1 o1=>?_
 cases d with
 | int i=>exact⟨i,r1.intI,o1.here R1.s⟩
 | _=>exact o1.elim
def zSc{f:Ov}{Hi H:Hp}{m:St}{ρ:Rho}{A:Type}{k:Option Int->Res A}{k':A->Hp->Hp->Prop}{Q:Option Int->Hp->Prop}(R:mO X G Hi H m ρ)(o:Out G Hi H ((f ρ).bind k) k')
  (w:∀ c Hi' H',Ext Hi H Hi' H'->mO X G Hi' H' m ρ->Out G Hi' H' (k c) k'->Q c H'):tOv X G f m H Q:=
 ⟨ρ,Hi,R,o.bind.imp fun d Hi' H' e q=>w d Hi' H' e (R.grow e) q⟩
def zIW(n d:Nat)(i:Option Int):cut n i d=HT.sIx n d i:=by
 cases i with
 | none=>rfl
 | some i=>
  simp only[cut,HT.sIx];split<;>split<;>omega
def IsDs.cut{K:Fg_}{H:Hp}{xs:List V}{ds:List D}(h:IsDs K H xs ds)(l r:Option Int):IsDs K H (zKM xs l r) (dX ds l r):=by
 unfold zKM dX;rw[zIW,zIW,h.length];exact(h.drop _).take _
def lE(he:PEd X G e f)(hl:POd X G lo l)(hu:POd X G hi h):PEf X G (.Subscript e (.Slice lo hi none p2) pos) (fSl f l h):=PE.wk (zGr zIo he hl hu) fun m H Q q=>by
 obtain⟨ρ,Hi,R,ou⟩:=q;refine zFQ R ou fun v d Hi1 H1 e1 R1 r1 o1=>?_
 refine zSc R1 o1 fun i Hi2 H2 e2 R2 o2=>?_
 refine zSc R2 o2 fun j Hi3 H3 e3 R3 o3=>?_
 cases d with
 | lst ds=>
  obtain⟨a,xs,rfl,h1,h2⟩:=r1.lstI;refine⟨a,xs,rfl,cJ (e2.i.trans (e3.i.trans R3.s)) h1,fun p hp=>?_⟩
  exact o3 _ _ (Ext.newF R3.s hp) p ⟨(e1.h.trans (e2.h.trans e3.h)).none hp,R3.s.none hp,_,aS,(h2.cut i j).mono (e2.i.trans e3.i)⟩
 | _=>exact o3.elim
def zST(K:PySem.W.Frag):R2:=fun x y H Q=>∃ l b xs zs,x=.ref l/\y=.ref b/\SqL K H l xs/\SqL K H b zs/\xs.length+zs.length<=sizeLine/\∀ p,H p=none->Q (.ref p) (upd H p (.lst (xs++zs)))
theorem zPv:OpR X (binaryOp .Add) (zST X.K):=by
 intro Mh s m H x y v u Q I rx ry h;obtain⟨l,b,xs,zs,rfl,rfl,hl,hb,hz,q⟩:=h;cases rx;cases ry;obtain⟨its,r,p,_⟩:=I.list hl;obtain⟨its2,r2,p2,_⟩:=I.list hb;obtain⟨⟨cls,dd,data,sl⟩,ho,hc,n,hd⟩:=id p.isList;obtain⟨⟨cls2,dd2,data2,sl2⟩,ho2,hc2,n2,hd2⟩:=id p2.isList;simp only at hc hd hc2 hd2
 subst hc hd hc2 hd2;have hsz:its.toArray.size+its2.toArray.size<=sizeLine:=by rw[Qj,Qj,<-r.length,<-r2.length];exact hz
 have e:its.toArray++its2.toArray=(its++its2).toArray:=by simp
 refine Jy ⟨_,ho,rfl⟩ ⟨_,ho2,rfl⟩ noFill_list_add seq_list_add PySem.F.slot_list_add PySem.F.entry_list_add (PySem.F.args_list_add_2 _ _) (list_addW l b its.toArray its2.toArray n n2 dd dd2 sl sl2 hsz) ⟨ho,ho2,?_⟩
 rw[e];exact⟨.ref _,_,I.lnew (t':=s.toks) (r.append r2) (by rw[Qo];exact hz),rfl,q _ I.fresh⟩
def zNe(ha:PEd X G a f)(hb:PEd X G b g):PEf X G (.BinOp a .Add b pos) (zPx f g):=PE.wk (zJK zPv ha hb) fun m H Q q=>by
 obtain⟨ρ,Hi,R,ou⟩:=q;refine zFQ R ou fun v d Hi1 H1 e1 R1 r1 o1=>?_
 refine zFQ R1 o1 fun w d' Hi2 H2 e2 R2 r2 o2=>?_
 cases d<;>first | exact o2.elim | skip
 cases d'<;>first | exact o2.elim | skip
 rename_i ds es
 obtain⟨a,xs,rfl,h1,h2⟩:=r1.lstI;obtain⟨b,ys,rfl,h3,h4⟩:=r2.lstI;have o2':Out G Hi2 H2 (if ds.length+es.length<=16777216 then Res.ok (ds++es) else .no) _:=o2;by_cases hz:ds.length+es.length<=16777216
 ·rw[Jk hz] at o2'
  refine⟨a,b,xs,ys,rfl,rfl,cJ (e2.i.trans e2.s) h1,cJ e2.s h3,by rw[h2.length,h4.length];exact hz,fun p hp=>?_⟩
  exact o2' _ _ (Ext.newF e2.s hp) p ⟨(e1.h.trans e2.h).none hp,e2.s.none hp,_,aS,(h2.mono e2.i).append h4⟩
 ·rw[Jl hz] at o2';exact o2'.elim
end
end L3
namespace L3
open PySem PySem.Spec PyProof.Rows L2
unseal PEd PEf PTd PWd PAd PSd eH POd
section
variable{X:Cx}{G:Gx}{a b e:Expr}{es:List Expr}{pos p:Pos}{f g:Ev}{fs gs:Fv}{t u:Tv}{x:Str}{st:Ji}{rest:List Ji}{sa sb:Sv}
def mK{Hi H:Hp}{l:St}{ρ:Rho}{E:Ends}{B:Type}{r:Res B}{k:B->Res Fl}(R:mO X G Hi H l ρ)(h:Fin X G Hi E (r.bind k)){Q:B->Hp->Hp->Prop}
  (w:∀ a Hi' H',r=.ok a->Ext Hi H Hi' H'->Fin X G Hi' E (k a)->Q a Hi' H'):Out G Hi H r Q:=by
 cases r with
 | no=>exact h
 | err c=>exact fun Hi' H' e=>h Hi' H' (R.ext.trans e)
 | ok a=>exact fun Hi' H' e=>w a Hi' H' rfl e (Fin.mono (show Fin X G Hi E (k a) from h) e.i)
def bK:eH X G [] sNext:=PSs.wk zOZ fun E l H q=>by
 obtain⟨ρ,Hi,R,h⟩:=q;exact h l Hi H (Same.refl _) R
def zRK{E:Ends}{Hi:Hp}{ρ:Rho}(h:Fin X G Hi E (aY sa sb ρ)):Fin X G Hi { E with nx:=tS X G sb E } (sa ρ):=by
 unfold aY at h
 cases z:sa ρ with
 | no=>rw[z] at h;exact h
 | err c=>rw[z] at h;exact h
 | ok fl=>
  rw[z] at h
  cases fl with
  | nx ρ'=>exact fun l' Hi' H' s R'=>⟨ρ',Hi',R',Fin.mono (show Fin X G Hi E (sb ρ') from h) s⟩
  | brk ρ'=>exact h
  | ctn ρ'=>exact h
  | ret r=>cases r<;>exact h
def zRi{E:Ends}{l:St}{H:Hp}(q:tS X G (aY sa sb) E l H):tS X G sa { E with nx:=tS X G sb E } l H:=by
 obtain⟨ρ,Hi,R,h⟩:=q;exact⟨ρ,Hi,R,zRK h⟩
def aD(h1:PSd X G st sa)(h2:eH X G rest sb):eH X G (st::rest) (aY sa sb):=PSs.wk (tW h1 h2) fun _ _ _ q=>zRi q
def aH(h1:PSd X G st sa):eH X G [st] sa:=zEw h1
def oT(he:PEd X G e f)(hs:swapsWith e none pos.line X.env=pure false:=by rfl):PSd X G (.Expr e pos) (tR f):=PS.wk (uP he hs) fun E l H q=>by
 obtain⟨ρ,Hi,R,h⟩:=q;exact⟨ρ,Hi,R,mK R h fun d Hi' H' _ e h' v r=>h' l Hi' H' (Same.refl _) (R.grow e)⟩
def cI(he:PEd X G e f):PSd X G (.Return (some e) pos) (iQ f):=PS.wk (zFR he) fun E l H q=>by
 obtain⟨ρ,Hi,R,h⟩:=q;obtain⟨Hf,s1,R1,fl⟩:=R.frz;refine⟨ρ.map Sl.frz,Hf,R1,mK R1 (Fin.mono h s1) fun d Hi' H' _ e h' v r=>?_⟩
 exact h' v Hi' H' (R1.ext.trans e) r
def dP(he:PEf X G e fs):PSd X G (.Return (some e) pos) (iC fs):=PS.wk (zFR he) fun E l H q=>by
 obtain⟨ρ,Hi,R,h⟩:=q;obtain⟨Hf,s1,R1,fl⟩:=R.frz;refine⟨ρ.map Sl.frz,Hf,R1,mK R1 (Fin.mono h s1) fun ds Hi' H' _ e h' a n=>?_⟩
 obtain⟨n1,n2,xs,n3,n4⟩:=n;exact h' a Hi' H' (R1.ext.trans e) ⟨R1.ext.h.none n1,n2,xs,n3,n4⟩
def fY(i:Nat)(he:PE X e (zEC i)):PSd X G (.Return (some e) pos) (fF i):=PS.wk (zFR he) fun E l H q=>by
 obtain⟨ρ,Hi,R,h⟩:=q;unfold fF at h
 cases z:ρ[i]? with
 | none=>rw[z] at h;exact h.elim
 | some s=>
  rw[z] at h
  cases s with
  | own ds=>
   obtain⟨a,xs,p,h1,h2,h3,h4⟩:=R.slot i _ z;exact⟨.ref a,p,h a Hi H R.ext ⟨h3,h2,xs,h1,h4⟩⟩
  | un=>exact h.elim
  | val d=>exact h.elim
  | exc c=>exact h.elim
  | tab T=>exact h.elim
def jS{c:Expr}{as bs:List Ji}(hc:PTd X G c t)(ha:eH X G as sa)(hb:eH X G bs sb):PSd X G (.If c as bs pos) (sIf t sa sb):=PS.wk (zSw hc ha hb) fun E l H q=>by
 obtain⟨ρ,Hi,R,h⟩:=q;refine⟨ρ,Hi,R,mK R h fun c Hi' H' _ e h'=>?_⟩
 cases c with
 | true=>exact⟨ρ,Hi',R.grow e,h'⟩
 | false=>exact⟨ρ,Hi',R.grow e,h'⟩
def zSN{i:Nat}{pos':Pos}(hN:X.N.Nodup)(hi:X.N[i]?=some x)(hx:Loc X.env.scope x)(he:PEd X G e f)(hs:swapsWith e (some (.Name x pos')) pos.line X.env=pure false:=by rfl)
  (hf:X.fn x=true∨X.env.scope.names.lookup x=some .local:=by first | exact .inl rfl | exact .inr rfl | assumption):PSd X G (.Assign [.Name x pos'] e pos) (cU i f):=PS.wk (zMu hN hi hx he hs hf) fun E l H q=>by
 obtain⟨ρ,Hi,R,h⟩:=q;exact⟨ρ,Hi,R,mK R h fun d Hi' H' _ e h' v r=>h' _ Hi' H' (Same.refl _) ((R.grow e).set r)⟩
def qS{i:Nat}{pos':Pos}(hN:X.N.Nodup)(hi:X.N[i]?=some x)(hx:Loc X.env.scope x)(he:PEf X G e fs)(hs:swapsWith e (some (.Name x pos')) pos.line X.env=pure false:=by rfl)
  (hf:X.fn x=true∨X.env.scope.names.lookup x=some .local:=by first | exact .inl rfl | exact .inr rfl | assumption):PSd X G (.Assign [.Name x pos'] e pos) (zBM i fs):=PS.wk (zMu hN hi hx he hs hf) fun E l H q=>by
 obtain⟨ρ,Hi,R,h⟩:=q;refine⟨ρ,Hi,R,mK R h fun ds Hi' H' _ e h' a n=>?_⟩
 obtain⟨n1,n2,xs,n3,n4⟩:=n;exact h' _ Hi' H' (Same.refl _) (R.setOwn e n1 n3 n2 n4)
def zCr{i:Nat}{o:Expr}{apos cpos:Pos}(ho:PE X o (zEC i))(he:PEd X G e f)
  (hbase:attributeBase o "append" X.env (eval o X.env)=eval o X.env:=by rfl)
  (hfew:((backTo cpos (starEach [e] X.env)).all (fun x=>!x.1) && (backToKw cpos (keywordEach [] X.env)).all (fun x=>x.1.isSome)
   && decide ([e].length+([]:List Keyword).length+(if ([]:List Keyword).isEmpty then 0 else 1)<30))=true:=by rfl)
  (hline:(apos.endLine==cpos.line)=true:=by rfl) (hs:starEach [e] X.env=(false,eval e X.env)::starEach [] X.env:=by rfl)
  (hsw:swapsWith (.Call (.Attribute o "append" apos) [e] [] cpos) none pos.line X.env=pure false:=by rfl):
  PSd X G (.Expr (.Call (.Attribute o "append" apos) [e] [] cpos) pos) (zHx i f):=
 PS.wk (uP (zOh Ut PySem.F.slot_list_append PySem.F.type_list_append wQ ho (lY he sS hs) hbase hfew hline hs) hsw) fun E l H q=>by
 obtain⟨ρ,Hi,R,h⟩:=q;unfold zHx at h
 cases z:ρ[i]? with
 | none=>rw[z] at h;exact h.elim
 | some s=>
  rw[z] at h
  cases s with
  | own ds=>
   obtain⟨a,xs,p,h1,h2,h3,h4⟩:=R.slot i _ z;refine⟨.ref a,p,.inl ⟨rfl,xs,SqL.of h1⟩,?_⟩
   refine⟨ρ,Hi,R,mK R h fun d Hi' H' _ e h' v r=>?_⟩
   have R':=R.grow e;obtain⟨g1,g2⟩:=e.out h1 h2;by_cases hz:ds.length<16777216
   ·rw[Jk hz] at h'
    refine⟨a,xs,v,rfl,rfl,g1,by rw[h4.length];exact hz,?_⟩
    exact h' l Hi' _ (Same.refl _) (R'.write z p ((h4.mono e.i).append (.cons r .nil)))
   ·rw[Jl hz] at h';exact h'.elim
  | un=>exact h.elim
  | val d=>exact h.elim
  | exc c=>exact h.elim
  | tab T=>exact h.elim
def zSZ{i:Nat}{o:Expr}{apos cpos:Pos}(ho:PE X o (zEC i))
  (hbase:attributeBase o "pop" X.env (eval o X.env)=eval o X.env:=by rfl) (hline:(apos.endLine==cpos.line)=true:=by rfl)
  (hsw:swapsWith (.Call (.Attribute o "pop" apos) [] [] cpos) none pos.line X.env=pure false:=by rfl):
  PSd X G (.Expr (.Call (.Attribute o "pop" apos) [] [] cpos) pos) (zQq i):=
 PS.wk (uP (zPL Ut PySem.F.slot_list_pop PySem.F.type_list_pop zQz ho hbase hline) hsw) fun E l H q=>by
 obtain⟨ρ,Hi,R,h⟩:=q;unfold zQq at h
 cases z:ρ[i]? with
 | none=>rw[z] at h;exact h.elim
 | some s=>
  rw[z] at h
  cases s with
  | own ds=>
   obtain⟨a,xs,p,h1,h2,h3,h4⟩:=R.slot i _ z;refine⟨.ref a,p,.inl ⟨rfl,xs,SqL.of h1⟩,?_⟩
   have h:Fin X G Hi E (if ds.length=0 then Res.no else Res.ok (Fl.nx (ρ.set i (.own ds.dropLast)))):=h;by_cases hz:ds.length=0
   ·rw[Jk hz] at h;exact h.elim
   ·rw[Jl hz] at h
    have hl:=h4.length;refine⟨a,xs,xs[xs.length-1]'(by omega),rfl,rfl,h1,Qm (by omega),?_⟩
    exact h l Hi _ (Same.refl _) (R.write z p h4.dropLast)
  | un=>exact h.elim
  | val d=>exact h.elim
  | exc c=>exact h.elim
  | tab T=>exact h.elim
def zIE{i:Nat}{o:Expr}{apos cpos:Pos}(ho:PE X o (zEC i))(he:PEf X G e fs)
  (hbase:attributeBase o "extend" X.env (eval o X.env)=eval o X.env:=by rfl)
  (hfew:((backTo cpos (starEach [e] X.env)).all (fun x=>!x.1) && (backToKw cpos (keywordEach [] X.env)).all (fun x=>x.1.isSome)
   && decide ([e].length+([]:List Keyword).length+(if ([]:List Keyword).isEmpty then 0 else 1)<30))=true:=by rfl)
  (hline:(apos.endLine==cpos.line)=true:=by rfl) (hs:starEach [e] X.env=(false,eval e X.env)::starEach [] X.env:=by rfl)
  (hsw:swapsWith (.Call (.Attribute o "extend" apos) [e] [] cpos) none pos.line X.env=pure false:=by rfl):
  PSd X G (.Expr (.Call (.Attribute o "extend" apos) [e] [] cpos) pos) (zLh i fs):=
 PS.wk (uP (zOh Ut PySem.F.slot_list_extend PySem.F.type_list_extend zIJ ho (lY he sS hs) hbase hfew hline hs) hsw) fun E l H q=>by
 obtain⟨ρ,Hi,R,h⟩:=q;unfold zLh at h
 cases z:ρ[i]? with
 | none=>rw[z] at h;exact h.elim
 | some s=>
  rw[z] at h
  cases s with
  | own ds=>
   obtain⟨a,xs,p,h1,h2,h3,h4⟩:=R.slot i _ z;refine⟨.ref a,p,.inl ⟨rfl,xs,SqL.of h1⟩,?_⟩
   refine⟨ρ,Hi,R,mK R h fun es Hi' H' _ e h' b n=>?_⟩
   obtain⟨n1,n2,ys,n3,n4⟩:=n;have R':=R.grow e;obtain⟨g1,g2⟩:=e.out h1 h2;by_cases hz:ds.length+es.length<=16777216
   ·rw[Jk hz] at h'
    refine⟨a,b,xs,ys,rfl,rfl,g1,n3,by rw[h4.length,n4.length];exact hz,?_⟩
    exact h' l Hi' _ (Same.refl _) (R'.write z p ((h4.mono e.i).append n4))
   ·rw[Jl hz] at h';exact h'.elim
  | un=>exact h.elim
  | val d=>exact h.elim
  | exc c=>exact h.elim
  | tab T=>exact h.elim
def zSe{i:Nat}{o k:Expr}{fk:Ev}{tpos:Pos}(ho:PE X o (zEC i))(hk:PEd X G k fk)(he:PEd X G e f)(hs:swapsWithSole [.Subscript o k tpos] e pos.line X.env=pure false:=by rfl)(hw:swappedStores [.Subscript o k tpos] e X.env=pure none:=by rfl)
  (h1:(assignEach [.Subscript o k tpos] X.env).map (·.2)=[assign (.Subscript o k tpos) X.env]:=by rfl)
  (ha:∀ v,assign (.Subscript o k tpos) X.env v=(do
   let ov <-holding [v] (eval o X.env)
   let iv <-holding [v,ov] (eval k X.env)
   standAt tpos
   holding [v,ov,iv] (setItem ov iv v)
   release [v,ov,iv] []):=by intro _;rfl):PSd X G (.Assign [.Subscript o k tpos] e pos) (zRU i fk f):=
 PS.wk (zQw he (zPO ho hk zMc ha) hs hw h1) fun E l H q=>by
 obtain⟨ρ,Hi,R,h⟩:=q;refine⟨ρ,Hi,R,mK R h fun d Hi1 H1 _ e1 h1 v r=>?_⟩
 have R1:=R.grow e1
 cases z:ρ[i]? with
 | none=>rw[z] at h1;exact h1.elim
 | some s=>
  rw[z] at h1
  cases s with
  | own ds=>
   obtain⟨a,xs,p,g1,g2,g3,g4⟩:=R1.slot i _ z;refine⟨.ref a,p,?_⟩
   refine⟨ρ,Hi1,R1,mK R1 h1 fun j Hi2 H2 _ e2 h2 w rw'=>?_⟩
   have R2:=R1.grow e2;obtain⟨k1,k2⟩:=e2.out g1 g2
   cases j with
   | int j=>
    have hl:=g4.length;have h2':Fin X G Hi2 E (if 0<=j/\j<ds.length then Res.ok (.nx (ρ.set i (.own (ds.set j.toNat d)))) else if -(ds.length:Int)<=j/\j<0 then .ok (.nx (ρ.set i (.own (ds.set (j+ds.length).toNat d)))) else .no):=h2;by_cases c1:0<=j/\j<ds.length
    ·rw[Jk c1] at h2'
     refine⟨a,xs,j,j.toNat,rfl,rw'.intI,k1,by unfold ixN;rw[Jk c1.1,Jk (by omega)],?_⟩
     exact h2' l Hi2 _ (Same.refl _) (R2.write z p ((g4.mono e2.i).set (r.mono e2.i) j.toNat))
    ·rw[Jl c1] at h2'
     by_cases c2:-(ds.length:Int)<=j/\j<0
     ·rw[Jk c2] at h2'
      refine⟨a,xs,j,(j+ds.length).toNat,rfl,rw'.intI,k1,by unfold ixN;rw[Jl (by omega),Jk (by omega),hl],?_⟩
      exact h2' l Hi2 _ (Same.refl _) (R2.write z p ((g4.mono e2.i).set (r.mono e2.i) (j+ds.length).toNat))
     ·rw[Jl c2] at h2';exact h2'.elim
   | _=>exact h2.elim
  | un=>exact h1.elim
  | val d=>exact h1.elim
  | exc c=>exact h1.elim
  | tab T=>exact h1.elim
def zGG{i:Nat}{op:Operator}{o:Op2}{r:Int->Int->Int}{pos':Pos}(hN:X.N.Nodup)(hi:X.N[i]?=some x)(hx:Loc X.env.scope x)(he:PEd X G e f)(ho:PIp X op (ipI r))(hr:∀ a b d,o a b=.ok d->∃ i j,a=.int i/\b=.int j/\d=.int (r i j))(hn:∀ a b c,o a b≠.err c)
  (hf:X.fn x=true∨X.env.scope.names.lookup x=some .local:=by first | exact .inl rfl | exact .inr rfl | assumption):PSd X G (.AugAssign (.Name x pos') op e pos) (zKI i o f):=PS.wk (zRA hN hi hx he ho hf) fun E l H q=>by
 obtain⟨ρ,Hi,R,h⟩:=q;unfold zKI at h
 cases z:ρ[i]? with
 | none=>rw[z] at h;exact h.elim
 | some s=>
  rw[z] at h
  cases s with
  | val d=>
   obtain⟨v,p,rv⟩:=R.slot i _ z;refine⟨v,p,ρ,Hi,R,mK R h fun d' Hi' H' _ e h' w rw'=>?_⟩
   cases q:o d d' with
   | no=>rw[q] at h';exact h'.elim
   | err c=>exact absurd q (hn _ _ _)
   | ok u=>
    rw[q] at h';obtain⟨i',j',rfl,rfl,rfl⟩:=hr _ _ _ q;exact⟨i',j',rv.intI,rw'.intI,h' _ Hi' H' (Same.refl _) ((R.grow e).set (.int _))⟩
  | un=>exact h.elim
  | own ds=>exact h.elim
  | exc c=>exact h.elim
  | tab T=>exact h.elim
def eH.frzAt(i:Nat){sts:List Ji}(h:eH X G sts sa):eH X G sts (sFrzAt i sa):=PSs.wk h fun E l H q=>by
 obtain⟨ρ,Hi,R,h⟩:=q;obtain⟨Hi',s,R'⟩:=R.frzAt (i:=i);exact⟨_,Hi',R',Fin.mono h s⟩
def tGv(X:Cx)(G:Gx)(g:Gv):TG:=fun v l H Q=>∃ d ρ Hi,IsD X.K Hi v d/\mO X G Hi H l ρ/\∃ ρ',g d ρ=.ok ρ'/\∀ l' Hi' H',Same Hi Hi'->mO X G Hi' H' l' ρ'->Q l' H'
@[irreducible] def PGd (X:Cx) (G:Gx) (e:Expr) (g:Gv):Prop:=PG X e (tGv X G g)
unseal PGd
def zQc{i:Nat}(hN:X.N.Nodup)(hi:X.N[i]?=some x)(hx:Loc X.env.scope x)(hf:X.fn x=true∨X.env.scope.names.lookup x=some .local:=by first | exact .inl rfl | exact .inr rfl | assumption):PGd X G (.Name x pos) (gName i):=
 fun Mh s l H v u Q I r q=>zET hN hi hx hf Mh s l H v u Q I r (by
  obtain⟨d,ρ,Hi,rd,R,ρ',e,k⟩:=q;cases e
  exact k _ Hi H (Same.refl _) (R.set rd))
def zUg(X:Cx)(G:Gx)(g:List D->Rho->Res Rho):TGs:=fun vs l H Q=>∃ ds ρ Hi,IsDs X.K Hi vs ds/\mO X G Hi H l ρ/\∃ ρ',g ds ρ=.ok ρ'/\∀ l' Hi' H',Same Hi Hi'->mO X G Hi' H' l' ρ'->Q l' H'
@[irreducible] def iO (X:Cx) (G:Gx) (es:List Expr) (g:List D->Rho->Res Rho):Prop:=PGs X es (zUg X G g)
unseal iO
def zKq:iO X G [] zGU:=fun Mh s l H vs us Q I r q=>zIg Mh s l H vs us Q I r (by
  obtain⟨ds,ρ,Hi,rd,R,ρ',e,k⟩:=q
  cases ds with
  | nil=>cases rd;cases e;exact⟨rfl,k _ Hi H (Same.refl _) R⟩
  | cons d ds=>cases e)
def pP{g:Gv}{r:List D->Rho->Res Rho}(h1:PGd X G e g)(h2:iO X G es r)(hs:(assignEach (e::es) X.env).map (·.2)=assign e X.env::(assignEach es X.env).map (·.2):=by rfl):iO X G (e::es) (jR g r):=
 fun Mh s l H vs us Q I rr q=>zAf h1 h2 hs Mh s l H vs us Q I rr (by
  obtain⟨ds,ρ,Hi,rd,R,ρ',e,k⟩:=q
  cases ds with
  | nil=>cases e
  | cons d ds=>
   cases rd with
   | cons rd rds=>
    refine⟨_,_,rfl,d,ρ,Hi,rd,R,?_⟩
    have e':(g d ρ).bind (fun ρ'=>r ds ρ')=.ok ρ':=e
    cases z:g d ρ with
    | no=>rw[z] at e';cases e'
    | err c=>rw[z] at e';cases e'
    | ok ρ1=>
     rw[z] at e'
     exact⟨ρ1,rfl,fun l1 Hi1 H1 s1 R1=>⟨ds,ρ1,Hi1,rds.mono s1,R1,ρ',e',fun l2 Hi2 H2 s2 R2=>k l2 Hi2 H2 (s1.trans s2) R2⟩⟩)
def zOt{k:Nat}{r:List D->Rho->Res Rho}{n:Nat}(hc:X.calm=true)(h:iO X G es r)(hr:∀ ds ρ ρ',r ds ρ=.ok ρ'->ds.length=n)(hn:(assignEach es X.env).length=n:=by rfl)(hst:(assignEach es X.env).findIdx? (·.1)=none:=by rfl):PGd X G (.Tuple es k pos) (zGN r):=
 fun Mh s l H v u Q I rr q=>zMJ hc h hn hst Mh s l H v u Q I rr (by
  obtain⟨d,ρ,Hi,rd,R,ρ',e,kk⟩:=q
  cases d with
  | tup ds=>
   obtain⟨a,xs,rfl,h1,h2⟩:=rd.tupI;exact⟨a,xs,rfl,bV R.s h1,by rw[h2.length];exact hr ds ρ ρ' e,ds,ρ,Hi,h2,R,ρ',e,kk⟩
  | _=>cases e)
def vM(K:PySem.W.Frag)(Hi:Hp)(J:It)(ds:List D):Prop:=∀(Hi1 H1:Hp),Same Hi Hi1->Same Hi1 H1->∀ i,
 (ds.length<=i->J.stop i H1)/\∀ d,ds[i]?=some d->J.go i H1/\∀ x H2,J.yld i H1 x H2->∃ Hi2,Ext Hi1 H1 Hi2 H2/\IsD K Hi2 x d
def tIv(X:Cx)(G:Gx)(f:Fv):TI:=fun l H R=>∃ ρ Hi,mO X G Hi H l ρ/\Out G Hi H (f ρ) fun ds Hi' H'=>∀ J,vM X.K Hi' J ds->R J H'
@[irreducible] def PId (X:Cx) (G:Gx) (tg e:Expr) (f:Fv):Prop:=PI X tg e (tIv X G f)
unseal PId
def PI.wk{tg:Expr}{t t':TI}(h:PI X tg e t)(w:∀ l H Q,t' l H Q->t l H Q):PI X tg e t':=fun Mh s l H Q I q=>h Mh s l H Q I (w l H Q q)
def zMK{g:Gv}{J:It}{ds:List D}{Hi1 H1:Hp}{l:St}{ρ:Rho}{E:Ends}(hge:∀ d ρ c,g d ρ≠.err c)(R1:mO X G Hi1 H1 l ρ)(h1:Fin X G Hi1 E (gE g sa ds ρ))(gv:vM X.K Hi1 J ds):zTn (fun _ _ R=>R J H1) (tGv X G g) (tS X G sa) E l H1:=by
 refine⟨fun i m l' H'=>m=ds.length-i/\∃ ρ' Hi',Same Hi1 Hi'/\mO X G Hi' H' l' ρ'/\Fin X G Hi' E (gE g sa (ds.drop i) ρ'),⟨_,rfl,ρ,Hi1,Same.refl _,R1,h1⟩,?_⟩
 rintro i m l' H' ⟨rfl,ρ',Hi',s',R',h'⟩
 obtain⟨w1,w2⟩:=gv Hi' H' s' R'.s i;by_cases hl:i<ds.length
 ·obtain⟨d,hd⟩:∃ d,ds[i]?=some d:=⟨_,Qm hl⟩
  obtain⟨go,yl⟩:=w2 d hd
  have e3:ds.drop i=d::ds.drop (i+1):=by
   rw[Qm hl] at hd;cases hd;exact Uu hl
  rw[e3] at h';refine .inr ⟨go,fun l2 H2=>∃ ρ2 Hi2,Same Hi1 Hi2/\mO X G Hi2 H2 l2 ρ2/\Fin X G Hi2 E (gE g sa (ds.drop (i+1)) ρ2),fun l2 H2 z=>⟨ds.length-(i+1),by omega,rfl,z⟩,fun x H2 y=>?_⟩
  obtain⟨Hi2,e2,r2⟩:=yl x H2 y;have R2:=R'.grow e2
  have h2:Fin X G Hi2 E ((g d ρ').bind fun ρ1=>(sa ρ1).bind fun f=>match f with
   | .nx ρ2=>gE g sa (ds.drop (i+1)) ρ2
   | .ctn ρ2=>gE g sa (ds.drop (i+1)) ρ2
   | .brk ρ2=>.ok (.nx ρ2)
   | .ret r=>.ok (.ret r)):=Fin.mono h' e2.i
  cases z:g d ρ' with
  | no=>rw[z] at h2;exact h2.elim
  | err c=>exact absurd z (hge _ _ _)
  | ok ρ1=>
   rw[z] at h2;refine⟨d,ρ',Hi2,r2,R2,ρ1,z,fun l3 Hi3 H3 s3 R3=>⟨ρ1,Hi3,R3,?_⟩⟩
   have h3:=Fin.mono h2 s3;have sm:Same Hi1 Hi3:=(s'.trans e2.i).trans s3;simp only[Res.bind] at h3
   cases zb:sa ρ1 with
   | no=>rw[zb] at h3;exact h3.elim
   | err c=>rw[zb] at h3;exact h3
   | ok fl=>
    rw[zb] at h3
    cases fl with
    | nx ρ2=>exact fun l4 Hi4 H4 s4 R4=>⟨ρ2,Hi4,sm.trans s4,R4,Fin.mono (show Fin X G Hi3 E (gE g sa (ds.drop (i+1)) ρ2) from h3) s4⟩
    | ctn ρ2=>exact fun l4 Hi4 H4 s4 R4=>⟨ρ2,Hi4,sm.trans s4,R4,Fin.mono (show Fin X G Hi3 E (gE g sa (ds.drop (i+1)) ρ2) from h3) s4⟩
    | brk ρ2=>exact h3
    | ret r=>cases r<;>exact h3
 ·rw[Y9 (by omega)] at h'
  exact .inl ⟨w1 (by omega),h' l' Hi' H' (Same.refl _) R'⟩
def kI{tg iter:Expr}{body:List Ji}{it:Fv}{g:Gv}(hp:PassesOwn (model X.prog X.w) X.A X.env X.xe)(hc:X.calm=true)(hi:PId X G tg iter it)(hg:PGd X G tg g)(hge:∀ d ρ c,g d ρ≠.err c)(hb:eH X G body sa)
  (hs:∀ x,foldedSetIterable iter X.env x=pure x:=by intro _;rfl):PSd X G (.For tg iter body [] pos) (vA it g sa):=PS.wk (zMS hp hc hi hg hb hs) fun E l H q=>by
 obtain⟨ρ,Hi,R,h⟩:=q;exact⟨ρ,Hi,R,mK R h fun ds Hi1 H1 _ e1 h1 J gv=>zMK hge (R.grow e1) h1 gv⟩
def vG{c:Expr}{body:List Ji}(hp:PassesOwn (model X.prog X.w) X.A X.env X.xe)(hc:PTd X G c t)(hb:eH X G body sa):PSd X G (.While c body [] pos) (eS t sa):=PS.wk (zLK hp hc hb) fun E l H q=>by
 obtain⟨ρ,Hi,R,h⟩:=q;have hn:eS t sa ρ≠.no:=fun z=>by rw[z] at h;exact h
 obtain⟨n,en⟩:=pD hn;rw[en] at h;refine⟨fun m l' H'=>∃ ρ' Hi',Same Hi Hi'/\mO X G Hi' H' l' ρ'/\Fin X G Hi' E (wh t sa m ρ'),⟨n,ρ,Hi,Same.refl _,R,h⟩,?_⟩
 rintro m l' H' ⟨ρ',Hi',s',R',h'⟩
 cases m with
 | zero=>exact h'.elim
 | succ m=>
  rw[wh] at h';refine⟨ρ',Hi',R',mK R' h' fun c Hi1 H1 _ e1 h1=>?_⟩
  have R1:=R'.grow e1
  cases c with
  | false=>exact h1 l' Hi1 H1 (Same.refl _) R1
  | true=>
   refine⟨fun l2 H2=>∃ ρ2 Hi2,Same Hi Hi2/\mO X G Hi2 H2 l2 ρ2/\Fin X G Hi2 E (wh t sa m ρ2),fun l2 H2 z=>⟨m,by omega,z⟩,ρ',Hi1,R1,?_⟩
   have sm:Same Hi Hi1:=s'.trans e1.i;simp only[if_true] at h1
   cases zb:sa ρ' with
   | no=>rw[zb] at h1;exact h1.elim
   | err c=>rw[zb] at h1;exact h1
   | ok fl=>
    rw[zb] at h1
    cases fl with
    | nx ρ2=>exact fun l4 Hi4 H4 s4 R4=>⟨ρ2,Hi4,sm.trans s4,R4,Fin.mono (show Fin X G Hi1 E (wh t sa m ρ2) from h1) s4⟩
    | ctn ρ2=>exact fun l4 Hi4 H4 s4 R4=>⟨ρ2,Hi4,sm.trans s4,R4,Fin.mono (show Fin X G Hi1 E (wh t sa m ρ2) from h1) s4⟩
    | brk ρ2=>exact h1
    | ret r=>cases r<;>exact h1
def zIA{K:Fg_}{Hi:Hp}{a:Jc}{xs:List V}{ds:List D}(h:SqT K Hi a xs)(hs:IsDs K Hi xs ds):vM K Hi (Itt K a) ds:=fun Hi1 H1 s1 s2 i=>by
 have h1:=bV (s1.trans s2) h;refine⟨fun hl=>⟨xs,h1,by rw[hs.length];exact hl⟩,fun d hd=>?_⟩
 obtain⟨v,hv,r⟩:=hs.at hd;refine⟨⟨xs,v,h1,hv⟩,fun x H2 y=>?_⟩
 obtain⟨e,y⟩:=y;subst e;have:=y xs h1
 rw[hv] at this;cases this;exact⟨Hi1,Ext.refl s2,r.mono s1⟩
def zNF{lo c:Int}{n i:Nat}{d:D}(h:(rng lo n c)[i]?=some d):i<n/\d=.int (lo+(i:Int)*c):=by
 unfold rng at h;rw[Qt] at h;by_cases hl:i<n
 ·rw[V8 hl] at h;cases h;exact⟨hl,rfl⟩
 ·rw[Q5 (by rw[Q3];omega)] at h;cases h
def zOp(lo c:Int)(n:Nat):(rng lo n c).length=n:=by unfold rng;rw[Qe,Q3]
def zCF{K:Fg_}{Hi:Hp}(lo:Int)(n:Nat):vM K Hi (Itr lo n) (rng lo n 1):=fun Hi1 H1 s1 s2 i=>by
 refine⟨fun hl=>by rw[zOp] at hl;exact hl,fun d hd=>?_⟩
 obtain⟨h1,rfl⟩:=zNF hd;refine⟨h1,fun x H2 y=>?_⟩
 obtain⟨e,y⟩:=y;subst e y;rw[Vl];exact⟨Hi1,Ext.refl s2,.int _⟩
def zIH{tg:Expr}(hg:Gl X "range")(hm:X.mg "range" = none)(ha:PAd X G [a] fs)(hs:starEach [a] X.env=[(false,eval a X.env)]:=by rfl):PId X G tg (.Call (.Name "range" p) [a] [] pos) (zDO fs):=PI.wk (zIc hg hm ha hs) fun l H Q q=>by
 obtain⟨ρ,Hi,R,ou⟩:=q;refine zJI R ou fun vs ds Hi1 H1 e1 R1 r1 o1=>?_
 split at o1
 ·rename_i j
  obtain⟨v,rfl,h⟩:=r1.one;by_cases hz:-(2^62)<=j/\j<2^62
  ·rw[Jk hz] at o1
   exact⟨j,by rw[h.intI],hz.1,hz.2,o1.here R1.s _ (zCF 0 j.toNat)⟩
  ·rw[Jl hz] at o1;exact o1.elim
 ·exact o1.elim
def zJY{tg:Expr}(hg:Gl X "range")(hm:X.mg "range" = none)(ha:PAd X G [a,b] fs)(hs:starEach [a,b] X.env=[(false,eval a X.env),(false,eval b X.env)]:=by rfl)(hs2:starEach [b] X.env=[(false,eval b X.env)]:=by rfl):PId X G tg (.Call (.Name "range" p) [a,b] [] pos) (zDH fs):=PI.wk (zHJ hg hm ha hs hs2) fun l H Q q=>by
 obtain⟨ρ,Hi,R,ou⟩:=q;refine zJI R ou fun vs ds Hi1 H1 e1 R1 r1 o1=>?_
 split at o1
 ·rename_i i j
  obtain⟨v,w,rfl,h,h'⟩:=r1.two;by_cases hz:-(2^62)<=i/\i<2^62/\-(2^62)<=j/\j<2^62
  ·rw[Jk hz] at o1
   exact⟨i,j,by rw[h.intI,h'.intI],hz,o1.here R1.s _ (zCF i (j-i).toNat)⟩
  ·rw[Jl hz] at o1;exact o1.elim
 ·exact o1.elim
end
end L3
namespace L3
open PySem PySem.Spec PyProof.Rows L2
unseal PEd PEf PTd PWd PAd PSd eH POd PGd iO PId
structure Fn (K:PySem.W.Frag) (mg:Str->Option Ja) (x:Str) (st:Ji) (ps:List Str) (f:Jc) (fd:FuncData):Prop where
 fn:Fun K x x st f fd
 bd:zDu K fd ps []
 kp:PySem.W.keepIn K (.ref f)=true
 mg:mg x=some (.ref f)
def XE(X:Cx)(G:Gx):XK:=fun cls _ H=>∃ c,X.mg c=some cls/\G.E c H
def qG(K:PySem.W.Frag)(mg:Str->Option Ja)(P:Jc):Prop:=∃ f oc od fd osl c,mg "ranked" = some (.ref f)/\K.lookup f=some ⟨oc,od,.func fd,osl⟩/\fd.code=.ref c/\∀ h,K.In h->PySem.W.CodeHd h c P
def TB(K:PySem.W.Frag)(mg:Str->Option Ja)(Hi H:Hp):Prop:=∀ P,qG K mg P->zDz P H/\Hi P=none
def TB.ext{K:Fg_}{mg:Str->Option Ja}{Hi H Hi' H':Hp}(t:TB K mg Hi H)(e:Ext Hi H Hi' H'):TB K mg Hi' H':=fun P h=>⟨e.h.t P (t P h).1,by
 cases z:Hi' P with
 | none=>rfl
 | some o=>
  obtain⟨⟨ps,q,_⟩,n⟩:=t P h;have:=e.n P n (by rw[z];exact fun w=>by cases w)
  rw[q] at this;cases this⟩
structure Good (X:Cx) (G:Gx) (k:Nat):Prop where
 calm:X.calm=true
 room:Room k X.A
 pass:zFN (CX1 X.prog X.w) X (XE X G)
 own:PassesOwn (model X.prog X.w) X.A X.env X.xe
 tb:TB X.K X.mg G.Bi G.B
def zGJ(X:Cx)(G:Gx):Prop:=∀(Mh:List (Jc×Obj))(r:St)(H:Hp)(s s':Jb)(ea:Jc)(cls:Ja)(vs:List Ja),Inv X Mh r H s->Heap.MadeExcOf s.heap s'.heap ea cls vs->s'.os=s.os->AllBare s'.gens->XE X G cls none H->X.xe (.ref ea) s'
def spM(K:PySem.W.Frag)(mg:Str->Option Ja)(p:Nat)(m:Mir):Sp:=fun vs H Q E=>vs.length=p/\∃ Bi ds,TB K mg Bi H/\Same Bi H/\IsDs K Bi vs ds/\match m ds with
 | .ok (.v d)=>∀ v Hi' H',Ext Bi H Hi' H'->IsD K Hi' v d->Q v H'
 | .ok (.f es)=>∀ a Hi' H',Ext Bi H Hi' H'->zLo K H Hi' H' a es->Q (.ref a) H'
 | .err c=>∀ C,mg c=some C->∀ Hi' H',Ext Bi H Hi' H'->E C none H'
 | .no=>False
structure CanM (P:Jf) (w:Jg) (K:PySem.W.Frag) (mg:Str->Option Ja) (base:Je) (k:Nat) (x:Str) (ps:List Str) (m:Mir):Prop where
 ex:∃ f fd,FnOk P w K mg base (CX1 P w) k f fd ps (spM K mg ps.length m)/\zDu K fd ps []/\PySem.W.keepIn K (.ref f)=true/\mg x=some (.ref f)
 ln:∀ ds,m ds≠.no->ds.length=ps.length
def Good.u{X:Cx}{G:Gx}{k:Nat}(W:Good X G k):X.A.units+64<cLine:=W.room.units
def CanM.mono{P:Jf}{w:Jg}{K:Fg_}{mg:Str->Option Ja}{base:Je}{j k:Nat}{x:Str}{ps:List Str}{m:Mir}(c:CanM P w K mg base j x ps m)(h:j<=k):CanM P w K mg base k x ps m:=by
 obtain⟨⟨f,fd,F,r⟩,l⟩:=c;exact⟨⟨f,fd,F.mono h,r⟩,l⟩
section
variable{X:Cx}{G:Gx}{a b e:Expr}{es:List Expr}{pos p:Pos}{f g:Ev}{fs gs:Fv}{t u:Tv}{x:Str}{st:Ji}{rest:List Ji}{sa sb:Sv}{k:Nat}{ps:List Str}{m:Mir}
def zQD{ps:List Str}(tb:TB X.K X.mg G.Bi G.B)(ln:∀ ds,m ds≠.no->ds.length=ps.length):∀ i H Q,tD X G (aL m fs) i H Q->zPs (spM X.K X.mg ps.length m) [] (XE X G) (tAs X G fs) i H Q:=fun i H Q q=>by
 obtain⟨ρ,Hi,R,ou⟩:=q;refine zJI R ou fun vs ds Hi1 H1 e1 R1 r1 o1=>?_
 rw[Vm];have hm:m ds≠.no:=fun z=>by rw[z] at o1;exact o1
 refine⟨by rw[r1.length];exact ln ds hm,Hi1,ds,tb.ext R1.ext,R1.s,r1,?_⟩
 cases z:m ds with
 | no=>exact absurd z hm
 | err c=>rw[z] at o1;exact fun C hC Hi2 H2 e2=>⟨c,hC,o1 Hi2 H2 e2⟩
 | ok r=>
  rw[z] at o1
  cases r with
  | v d=>exact fun v Hi2 H2 e2 r2=>o1 Hi2 H2 e2 v r2
  | f ds=>
   intro a Hi2 H2 e2 n;obtain⟨n1,n2,xs,n3,n4⟩:=n;exact o1 _ _ (e2.hold n1 n3 n2) (.ref a) (.lst (SqL.of aS) (n4.mono (bY n2 _)))
def aG(W:Good X G k)(c:CanM X.prog X.w X.K X.mg X.base k x ps m)(hg:Gl X x)(ha:PAd X G (e::es) fs)
  (hdb:(x==("__debug__" : Str))=false:=by decide) (he:starEach (e::es) X.env=(false,eval e X.env)::starEach es X.env:=by rfl) (hpl:(backTo pos (starEach es X.env)).any (·.1)=false:=by rfl):
  PEd X G (.Call (.Name x p) (e::es) [] pos) (aL m fs):=by
 obtain⟨⟨f,fd,F,b,kp,hm⟩,ln⟩:=c;exact PE.wk (zED F W.room hg hm kp b .nil W.pass ha hdb he hpl) (zQD W.tb ln)
def zPp{ps:List Str}(tb:TB X.K X.mg G.Bi G.B)(ln:∀ ds,m ds≠.no->ds.length=ps.length):∀ i H Q,tF X G (cQ m fs) i H Q->zPs (spM X.K X.mg ps.length m) [] (XE X G) (tAs X G fs) i H Q:=fun i H Q q=>by
 obtain⟨ρ,Hi,R,ou⟩:=q;refine zJI R ou fun vs ds Hi1 H1 e1 R1 r1 o1=>?_
 rw[Vm];have hm:m ds≠.no:=fun z=>by rw[z] at o1;exact o1
 refine⟨by rw[r1.length];exact ln ds hm,Hi1,ds,tb.ext R1.ext,R1.s,r1,?_⟩
 cases z:m ds with
 | no=>exact absurd z hm
 | err c=>rw[z] at o1;exact fun C hC Hi2 H2 e2=>⟨c,hC,o1 Hi2 H2 e2⟩
 | ok r=>
  rw[z] at o1
  cases r with
  | v d=>exact o1.elim
  | f ds=>exact fun a Hi2 H2 e2 n=>o1 Hi2 H2 e2 a ⟨e1.h.none n.1,n.2⟩
def aZ(W:Good X G k)(c:CanM X.prog X.w X.K X.mg X.base k x ps m)(hg:Gl X x)(ha:PAd X G (e::es) fs)
  (hdb:(x==("__debug__" : Str))=false:=by decide) (he:starEach (e::es) X.env=(false,eval e X.env)::starEach es X.env:=by rfl) (hpl:(backTo pos (starEach es X.env)).any (·.1)=false:=by rfl):
  PEf X G (.Call (.Name x p) (e::es) [] pos) (cQ m fs):=by
 obtain⟨⟨f,fd,F,b,kp,hm⟩,ln⟩:=c;exact PE.wk (zED F W.room hg hm kp b .nil W.pass ha hdb he hpl) (zPp W.tb ln)
def bM{d:D}(hg:Gl X x)(h:∃ v u',X.mg x=some u'/\cX v u'/\IsD X.K (fun _=>none) v d)(hdb:(x==("__debug__" : Str))=false:=by decide):PEd X G (.Name x pos) (eC d):=by
 obtain⟨v,u',hm,r,hd⟩:=h;exact tN (zHO hg hm r hdb) fun H=>hd.mono fun b o z=>by cases z
end
abbrev BX(P:Jf)(w:Jg)(K:PySem.W.Frag)(mg:Str->Option Ja)(base:Je)(N:List Str)(x:Str)(st:Ji)(f:Jc)(cdv:Ja)(A:Jh)(outer:List Env)(s:Jb)(H:Hp)(E:XK):Cx:=
 zHj (CX1 P w) P w K mg base N x (aF st) f cdv A outer s H E
def zDm{K:Fg_}{mg:Str->Option Ja}{Bi H:Hp}{N:List Str}{vs:List V}{ds:List D}(s:Same Bi H)(h:IsDs K Bi vs ds):Rel K mg H Bi Bi H (L2.start N vs) (L3.start N.length ds) where
 len:=by
  unfold L2.start L3.start;rw[Qo,Qo,Qe,Qe,Yd,Yd,h.length]
 ext:=Ext.refl s
 slot:=fun i sl e=>by
  unfold L3.start at e;by_cases hi:i<ds.length
  ·rw[Vg (by rw[Qe];exact hi),Qt] at e
   obtain⟨d,hd⟩:∃ d,ds[i]?=some d:=⟨_,Qm hi⟩;rw[hd] at e;cases e
   obtain⟨v,hv,r⟩:=h.at hd;refine⟨v,?_,r⟩
   unfold L2.start;rw[Vg (by rw[Qe,h.length];exact hi),Qt,hv];rfl
  ·rw[Vp (by rw[Qe];omega),Uk] at e
   split at e
   ·cases e;trivial
   ·cases e
 dist:=fun i j a es fs e _ _ _=>by
  exfalso
  unfold L3.start at e;by_cases hi:i<ds.length
  ·rw[Vg (by rw[Qe];exact hi),Qt] at e
   cases z:ds[i]? with
   | none=>rw[z] at e;cases e
   | some d=>rw[z] at e;cases e
  ·rw[Vp (by rw[Qe];omega),Uk] at e
   split at e<;>cases e
section
variable{P:Jf}{w:Jg}{K:Fg_}{mg:Str->Option Ja}{base:Je}{N ps:List Str}{x:Str}{st:Ji}{f:Jc}{fd:FuncData}{k:Nat}{b:Sv}
def zIP{cdv:Ja}{A:Jh}{outer:List Env}{s:Jb}{H Bi:Hp}{E:XK}(hr:Room k (A.deeper (envOfC x (aF st) s.heap.objs.size f cdv)))(tb:TB K mg Bi H):
  Good (BX P w K mg base N x st f cdv A outer s H E) ⟨H,Bi,fun c H'=>∀ C,mg c=some C->E C none H'⟩ k where
 calm:=rfl
 room:=hr
 pass:=zSn fun c H' q=>by
  obtain⟨c',h1,h2⟩:=q;exact h2 c h1
 own:=PassesOwn.leaving
 tb:=tb
def zGe{cdv:Ja}{A:Jh}{outer:List Env}{s:Jb}{H Bi:Hp}{E:XK}:
  zGJ (BX P w K mg base N x st f cdv A outer s H E) ⟨H,Bi,fun c H'=>∀ C,mg c=some C->E C none H'⟩:=fun Mh p H1 s1 s' ea cls vs I hx hos hg q=>by
 obtain⟨c',h1,h2⟩:=q;exact zEH I hx hos hg (h2 cls h1)
def zPG(F:Fn K mg x st ps f fd)(S:FnScope N ps (aF st))
  (h:∀(cdv:Ja)(A:Jh)(outer:List Env)(s:Jb)(H:Hp)(E:XK)(G:Gx),Good (BX P w K mg base N x st f cdv A outer s H E) G k->zGJ (BX P w K mg base N x st f cdv A outer s H E) G->eH (BX P w K mg base N x st f cdv A outer s H E) G (fG st) b):
  FnOk P w K mg base (CX1 P w) (k+1) f fd ps (spM K mg ps.length (fn ps.length N.length b)):=by
 obtain⟨oc,od,kV,doc,pm,an,cdv,ct,osl,rfl,lk,hcd⟩:=F.fn.ex;refine zPP lk hcd S (fun vs H Q E h=>h.1) fun A outer s H vs Q E hr hsp=>?_
 obtain⟨hl,Bi,ds,tb,sm,hd,hq⟩:=hsp;have hg:=zIP (P:=P) (w:=w) (K:=K) (mg:=mg) (base:=base) (N:=N) (outer:=outer) (H:=H) (Bi:=Bi) (E:=E) hr tb;refine⟨_,h cdv A outer s H E _ hg zGe,L3.start N.length ds,Bi,zDm sm hd,?_⟩
 have hlen:ds.length=ps.length:=by rw[<-hd.length];exact hl
 unfold fn at hq;rw[Jk hlen] at hq
 cases z:b (L3.start N.length ds) with
 | no=>rw[z] at hq;exact hq
 | err c=>rw[z] at hq;exact fun Hi' H' e C hC=>hq C hC Hi' H' e
 | ok fl=>
  rw[z] at hq
  cases fl with
  | nx r'=>exact fun p' Hi' H' s R=>hq .non Hi' H' R.ext .non
  | brk r'=>exact hq.elim
  | ctn r'=>exact hq.elim
  | ret r=>
   cases r with
   | v d=>exact hq
   | f es=>exact hq
def nI(F:Fn K mg x st ps f fd)(S:FnScope N ps (aF st))
  (h:∀(cdv:Ja)(A:Jh)(outer:List Env)(s:Jb)(H:Hp)(E:XK)(G:Gx),Good (BX P w K mg base N x st f cdv A outer s H E) G k->zGJ (BX P w K mg base N x st f cdv A outer s H E) G->eH (BX P w K mg base N x st f cdv A outer s H E) G (fG st) b):
  CanM P w K mg base (k+1) x ps (fn ps.length N.length b):=by
 refine⟨⟨f,fd,zPG F S h,F.bd,F.kp,F.mg⟩,fun ds hm=>?_⟩
 unfold fn at hm;split at hm
 ·assumption
 ·exact absurd rfl hm
end
section
variable{X:Cx}{G:Gx}{a b e:Expr}{es:List Expr}{pos p:Pos}{f g:Ev}{fs gs:Fv}{t u:Tv}{x:Str}{st:Ji}{rest:List Ji}{sa sb:Sv}{k:Nat}
def PTd.frz(h:PTd X G e t):PTd X G e (tFrzB t):=PT.wk h fun m H Q q=>by
 obtain⟨ρ,Hi,R,ou⟩:=q;obtain⟨Hf,s1,R1,fl⟩:=R.frz;refine⟨ρ.map Sl.frz,Hf,R1,?_⟩
 unfold tFrzB at ou
 cases z:t (ρ.map Sl.frz) with
 | no=>rw[z] at ou;exact ou
 | err c=>
  rw[z] at ou;intro Hi1 H1 e1;obtain⟨Ht,e2,k,s2,n⟩:=Ext.thaw s1 fl R1.s e1;exact ou Ht H1 e2
 | ok c=>
  rw[z] at ou;intro Hi1 H1 e1;obtain⟨Ht,e2,k,s2,n⟩:=Ext.thaw s1 fl R1.s e1;exact ou Ht H1 e2
def iSq(K:PySem.W.Frag)(tl:TE):TI:=fun m H R=>tl m H fun x H1=>∃ a,x=.ref a/\(((∃ xs,SqL K H1 a xs)/\R (Itl K a) H1)∨((∃ xs,SqT K H1 a xs)/\R (Itt K a) H1))
def zPS{tg l:Expr}{tl:TE}(hl:PE X l tl):PI X tg l (iSq X.K tl):=by
 intro Mh s m H R I h;refine thn (hl Mh s m H _ I h) fun v s1 ⟨x,H1,I1,r1,q1⟩=>?_
 obtain⟨a,e,q1⟩:=q1;subst e;cases r1;rcases q1 with⟨⟨xs,hq⟩,q⟩ | ⟨⟨xs,hq⟩,q⟩
 ·obtain⟨its,rv,p,hz⟩:=I1.list hq
  refine wpAny_pyIter_list p.isList ?_
  refine⟨s1.heap.objs.size,[s1.heap.objs.size],_,_,H1,rfl,I1.kept (t':=s1.toks) fun b o e=>Heap.get?_push_of_some _ e,zDj a _,⟨_,Heap.get?_push_size _ rfl,rfl,rfl⟩,fun b hb=>?_,q⟩
  have e:b=s1.heap.objs.size:=by simpa using hb
  subst e;exact I1.fpOk (Qf _) (I1.hok.fresh (Qf _))
 ·obtain⟨its,rv,p,hz⟩:=I1.tuple hq
  refine wpAny_pyIter_tuple (show s1.heap.IsTuple a its.toArray from p) ?_
  refine⟨s1.heap.objs.size,[s1.heap.objs.size],_,_,H1,rfl,I1.kept (t':=s1.toks) fun b o e=>Heap.get?_push_of_some _ e,zGw a _,⟨_,Heap.get?_push_size _ rfl,rfl,rfl⟩,fun b hb=>?_,q⟩
  have e:b=s1.heap.objs.size:=by simpa using hb
  subst e;exact I1.fpOk (Qf _) (I1.hok.fresh (Qf _))
def zDx{K:Fg_}{Hi:Hp}{a:Jc}{xs:List V}{ds:List D}(h1:SqL K Hi a xs)(h2:IsDs K Hi xs ds):vM K Hi (Itl K a) ds:=fun Hi1 H1 s1 s2 i=>by
 have h3:=cJ (s1.trans s2) h1;refine⟨fun hl=>⟨xs,h3,by rw[h2.length];exact hl⟩,fun d hd=>?_⟩
 obtain⟨v,hv,r⟩:=h2.at hd;refine⟨⟨xs,v,h3,hv⟩,fun x H2 y=>?_⟩
 obtain⟨e,y⟩:=y;subst e;have:=y xs h3
 rw[hv] at this;cases this;exact⟨Hi1,Ext.refl s2,r.mono s1⟩
def gP{tg:Expr}(h:PEd X G e f):PId X G tg e (oP f):=PI.wk (zPS h) fun m H Q q=>by
 obtain⟨ρ,Hi,R,ou⟩:=q;refine zFQ R ou fun v d Hi1 H1 e1 R1 r1 o1=>?_
 cases d with
 | lst ds=>
  obtain⟨a,xs,rfl,h1,h2⟩:=r1.lstI;exact⟨a,rfl,.inl ⟨⟨xs,cJ R1.s h1⟩,o1.here R1.s _ (zDx h1 h2)⟩⟩
 | tup ds=>
  obtain⟨a,xs,rfl,h1,h2⟩:=r1.tupI;exact⟨a,rfl,.inr ⟨⟨xs,bV R1.s h1⟩,o1.here R1.s _ (zIA h1 h2)⟩⟩
 | _=>exact o1.elim
def bG{i:Nat}:∀ d ρ c,gName i d ρ≠.err c:=fun d ρ c z=>by cases z
def zEG:∀ d ρ c,zGU d ρ≠.err c:=fun d ρ c z=>by cases d<;>cases z
def lI{g:Gv}{r:List D->Rho->Res Rho}(h1:∀ d ρ c,g d ρ≠.err c)(h2:∀ d ρ c,r d ρ≠.err c):∀ d ρ c,jR g r d ρ≠.err c:=fun d ρ c z=>by
 cases d with
 | nil=>cases z
 | cons d ds=>
  have z':(g d ρ).bind (fun ρ'=>r ds ρ')=.err c:=z
  cases q:g d ρ with
  | no=>rw[q] at z';cases z'
  | err c'=>exact h1 _ _ _ q
  | ok ρ'=>rw[q] at z';exact h2 _ _ _ z'
def zDE{r:List D->Rho->Res Rho}(h:∀ d ρ c,r d ρ≠.err c):∀ d ρ c,zGN r d ρ≠.err c:=fun d ρ c z=>by
 cases d<;>first | cases z | exact h _ _ _ z
def zIZ:∀(ds:List D)(ρ ρ':Rho),zGU ds ρ=.ok ρ'->ds.length=0:=fun ds ρ ρ' z=>by
 cases ds with
 | nil=>rfl
 | cons d ds=>cases z
def pK{g:Gv}{r:List D->Rho->Res Rho}{n:Nat}(h:∀ (ds:List D) (ρ ρ':Rho),r ds ρ=.ok ρ'->ds.length=n):∀(ds:List D)(ρ ρ':Rho),jR g r ds ρ=.ok ρ'->ds.length=n+1:=fun ds ρ ρ' z=>by
 cases ds with
 | nil=>cases z
 | cons d ds=>
  have z':(g d ρ).bind (fun ρ'=>r ds ρ')=.ok ρ':=z
  cases q:g d ρ with
  | no=>rw[q] at z';cases z'
  | err c'=>rw[q] at z';cases z'
  | ok ρ1=>rw[q] at z';rw[Qk,h ds ρ1 ρ' z']
def zBw:∀ a b d,zAT a b=.ok d->∃ i j,a=.int i/\b=.int j/\d=.int (i+j):=fun a b d z=>by
 unfold zAT at z;split at z
 ·cases z;exact⟨_,_,rfl,rfl,rfl⟩
 ·cases z
def uD:∀ a b c,zAT a b≠.err c:=fun a b c z=>by unfold zAT at z;split at z<;>cases z
def zIY:∀ a b d,xQ a b=.ok d->∃ i j,a=.int i/\b=.int j/\d=.int (i-j):=fun a b d z=>by
 unfold xQ at z;split at z
 ·cases z;exact⟨_,_,rfl,rfl,rfl⟩
 ·cases z
def zFB:∀ a b c,xQ a b≠.err c:=fun a b c z=>by unfold xQ at z;split at z<;>cases z
end
def zCT{K:Fg_}{H:Hp}:∀ ns:List Int,IsDs K H (ns.map V.int) (ns.map D.int)
 | []=>.nil
 | n::ns=>.cons (.int n) (zCT ns)
section
variable{X:Cx}{G:Gx}{e:Expr}{es:List Expr}{pos np cpos:Pos}{fs:Fv}{k:Nat}{c:Str}
def gQ(W:Good X G k)(WR:zGJ X G)(hR:∃ C,Err X.K X.mg c C)(hg:Gl X c)(ha:PAd X G (e::es) fs)
  (he:starEach (e::es) X.env=(false,eval e X.env)::starEach es X.env:=by rfl) (hplain:(backTo cpos (starEach es X.env)).any (·.1)=false:=by rfl) (hd:(c==("__debug__" : Str))=false:=by decide):
  PSd X G (.Raise (some (.Call (.Name c np) (e::es) [] cpos)) none pos) (jN c fs):=by
 intro Mh s p H E I q;obtain⟨ρ,Hi,R,h⟩:=q;obtain⟨C,Er⟩:=hR;obtain⟨bmB,newId,B,initId,O,FB⟩:=Er.own X.base I.mod.kin;obtain⟨tl,N,nm,q,bs,hdct,sn,sub,ab,col,dd,k0,k1,k2,k3,k5,mN,hC,hN,hni,T⟩:=O.obj
 have hA:=ha cpos Mh s p H (fun vs H1=>vs.length<=sizeLine/\XE X G (.ref C) none H1) I ⟨ρ,Hi,R,mK R h fun ds Hi' H' _ e1 h' vs r=>by
  have h':Fin X G Hi' E (if ds.length<=16777216 then (.err c:Res Fl) else .no):=h';by_cases hz:ds.length<=16777216
  ·rw[Jk hz] at h'
   exact⟨by rw[r.length];exact hz,c,O.bound,h' Hi' H' (R.ext.trans e1)⟩
  ·rw[Jl hz] at h';exact h'.elim⟩
 refine wpAny_Raise_call_subT (C:=C) (nm:=nm) (q:=q) (N:=N) (bs:=bs) (bm:=tl) (hdct:=hdct) (sn:=sn) (sub:=sub) (ab:=ab) (col:=col) (dd:=dd) (k0:=k0) (k1:=k1) (k2:=k2) (k3:=k3) (k5:=k5)
  FB (mN:=mN) (T.hasType FB.hasBase) (I.ok.hd W.calm) (by rw[he];show(false || (backTo cpos (starEach es X.env)).any (·.1))=false;rw[hplain];rfl) hni (zEg I hg O.bound ⟨rfl,?_⟩ hd)
 rw[he] at hA ⊢
 refine Calls.evalArgs_plain (wpAny_mono hA (fun us s₂ h₂=>?_) fun _ _ y=>y)
 obtain⟨vs,H2,I2,rv,hz,hx⟩:=h₂;exact⟨rfl,by show us.length<=sizeLine;rw[<-rv.length];exact hz,I2.bk _ _ hC,hN.keeps I2.bk,T.keeps I2.bk,fun h' ea hm=>WR Mh p H2 s₂ { s₂ with heap:=h' } ea (.ref C) us I2 hm rfl I2.bare hx⟩
end
end L3
namespace L3
open PySem PySem.Spec PyProof.Rows L2 PySem.W Builtin Builtin.ObjectAttr Builtin.Getset_descriptor
unseal PEd PEf PTd PWd PAd PSd eH POd PGd iO PId
section
variable{X:Cx}{Mh:List (Jc×Obj)}{r:St}{H H':Hp}{s s':Jb}{ea:Jc}{cls:Ja}
def _root_.L2.Inv.track(I:Inv X Mh r H s){a:Jc}{o:HO}(hn:H a=none)(h0:X.s₀.heap.get? a=none)(hl:a≠X.env.locals)(hc:∀ x c,X.env.cells.lookup x=some c->c≠a)(hp:∀ p∈X.pn++Mh,p.1≠a)
  (ho:mJ X.prog X.w (upd H a o) s.heap a o):Inv X Mh r (upd H a o) s where
 ok:=I.ok
 os:=I.os
 bare:=I.bare
 base:=⟨I.base.keep,I.base.slot,fun b ob e n hx=>by
   have:b≠a:=fun z=>by rw[z,h0] at e;cases e
   rw[aV this];exact I.base.free b ob e n hx,I.base.there,fun b xs e=>by
   have z:=I.base.tups b xs e
   rw[aV (aX z hn)];exact z,fun b ob u e=>by
   have z:=I.base.frzs b ob u e
   rw[aV (aX z hn)];exact z,fun b ps e=>by
   obtain⟨m,z⟩:=I.base.tbls b ps e
   exact⟨m,by rw[aV (aX z hn)];exact z⟩⟩
 loc:=I.loc
 cell:=I.cell
 free:=by rw[aV (Ne.symm hl)];exact I.free
 freeC:=fun x c e=>by rw[aV (hc x c e)];exact I.freeC x c e
 pin:=fun p hp'=>by
  obtain⟨e1,e2,e3,e4,e5⟩:=I.pin p hp';exact⟨e1,by rw[aV (hp p hp')];exact e2,e3,e4,e5⟩
 hok:=fun b u e=>by
  by_cases hb:b=a
  ·subst hb;rw[aS] at e;cases e;exact ho
  ·rw[aV hb] at e
   exact(I.hok b u e).stay (fun c v _ q=>q) (fun c q=>by rw[aV (aX q hn)];exact q) fun c xs q=>by rw[aV (aX q hn)];exact q
 len:=I.len
end
section
variable{X:Cx}{G:Gx}{a e:Expr}{es:List Expr}{pos p:Pos}{fs:Fv}{t:Tv}{x:Str}{k:Nat}{ps:List Str}{m:Mir}{st:Ji}{sts:List Ji}{sa sb:Sv}
def zTi(X:Cx)(Mh:List (Jc×Obj))(b:St)(Hi H:Hp)(c:Str)(ev:Ja)(s':Jb):Prop:=
 ∃(s1:Jb)(H1:Hp)(ea:Jc)(cls:Ja)(Hi' H':Hp),ev=.ref ea/\Inv X Mh b H1 s1/\X.mg c=some cls/\Fly X.prog X.w X.stack H1 H' s1 ea cls s'/\Ext Hi H Hi' H'/\Keep H H1
def zTe(X:Cx)(G:Gx)(Hi:Hp)(E:Ends)(r:Res Fl):Prop:=match r with
 | .err _=>True
 | r=>Fin X G Hi E r
@[irreducible] def PSx (X:Cx) (G:Gx) (st:Ji) (f:Sv):Prop:=∀(Mh:List (Jc×Obj))(s:Jb)(b:St)(H:Hp)(E:Ends)(ρ:Rho)(Hi:Hp)(Et:Ja->Jb->Prop),
 Inv X Mh b H s->mO X G Hi H b ρ->f ρ≠.no->zTe X G Hi E (f ρ)->(∀ c ev s',f ρ=.err c->zTi X Mh b Hi H c ev s'->Et ev s')->wpAny (model X.prog X.w) X.A (exec st X.env) (SP X Mh E) Et s
unseal PSx
@[irreducible] def mC (X:Cx) (G:Gx) (sts:List Ji) (f:Sv):Prop:=∀(Mh:List (Jc×Obj))(s:Jb)(b:St)(H:Hp)(E:Ends)(ρ:Rho)(Hi:Hp)(Et:Ja->Jb->Prop),
 Inv X Mh b H s->mO X G Hi H b ρ->f ρ≠.no->zTe X G Hi E (f ρ)->(∀ c ev s',f ρ=.err c->zTi X Mh b Hi H c ev s'->Et ev s')->wpAny (model X.prog X.w) X.A (execs sts X.env) (SP X Mh E) Et s
unseal mC
end
end L3
namespace L3
open PySem PySem.Spec PyProof.Rows L2 PySem.W
unseal PEd PEf PTd PWd PAd PSd eH POd PGd iO PId PSx mC
section
variable{K:Frag}{h:Je}{mg:Str->Option Ja}{x c ce:Str}{C CE:Jc}
def vW{newId:String}{bmB:List Ja}{B initId:String}(X:K.In h)(G:h.Ns mainGlobals mg)(e:nsIn K mainGlobals x=some (some (.ref C)))(q:excIn K C bmB newId=true)(F:ExcBaseFacts B newId initId bmB):∃ C,Err K mg x C:=by
 refine⟨C,⟨fun h' X'=>⟨bmB,newId,B,initId,⟨mg_of X G e,?_⟩,F⟩⟩⟩
 unfold excIn at q;split at q
 ·rename_i dd cd sl ho
  split at q
  ·rename_i C' bm k0 k1 k2 k3 n k5 hm hs
   simp only[Vh,beq_iff_eq,Bool.not_eq_true'] at q;obtain⟨⟨⟨⟨⟨rfl,rfl⟩,hdel⟩,ht⟩,hok⟩,hni⟩:=q;obtain⟨nm,bs,mro,ns,qn,hd,sn,sub,ab,col,del⟩:=cd;dsimp only at hm hdel hok hni
   subst hm hdel
   have hsl:sl=#[k0,k1,k2,k3,some (.builtin n),k5]:=by
    obtain⟨l⟩:=sl;simp only at hs
    rw[hs]
   subst hsl;exact⟨bm,ns,nm,qn,bs,hd,sn,sub,ab,col,dd,k0,k1,k2,k3,k5,_,X' _ _ ho,.of_isNs (isNs_of_in X' hok),nsMap_none_of_in X' hok hni,tail_of_in X' ht⟩
  ·cases q
 ·cases q
end
def zEU(env:Env):List (Str×NameKind)->List (Str×Jc)->List (Str×Jc)
 | [],cs=>cs
 | (n,k)::r,cs=>zEU env r (if k==.free then (n,(env.cells.lookup n).getD 0)::cs else cs)
def zMv{env:Env}:∀(l:List (Str×NameKind))(cs:List (Str×Jc)),(∀ p∈l,p.2=.free->∃ c,env.cells.lookup p.1=some c)->
  (forIn l cs (fun p (r:List (Str×Jc))=>if (p.2==NameKind.free)=true then (do let a <-cellOf env p.1;pure (ForInStep.yield ((p.1,a)::r))) else pure (ForInStep.yield r)):Sem (List (Str×Jc)))=pure (zEU env l cs)
 | [],cs,_=>by simp[zEU]
 | (n,k)::r,cs,h=>by
  rw[Wp,zEU];have ih:=fun cs=>zMv r cs fun p hp=>h p (Qc _ hp)
  by_cases e:(k==NameKind.free)=true
  ·obtain⟨c,hc⟩:=h (n,k) Qb (beq_iff_eq.mp e)
   simp only[e,if_true,cellOf,hc,pure_bind,Option.getD_some];exact ih _
  ·simp only[e,Yi,if_false,pure_bind]
   exact ih _
def zNk{env:Env}{scope:Scope}(h:∀ p∈scope.names,p.2=.free->∃ c,env.cells.lookup p.1=some c):closureFor scope env=pure (zEU env scope.names []):=by
 have:=zMv scope.names [] h
 unfold closureFor;rw[<-this];simp
def vU{env:Env}:∀(l:List (Str×NameKind))(cs:List (Str×Jc)),(∀ p∈l,p.2=.free->∃ c,env.cells.lookup p.1=some c)->(∀ y c,cs.lookup y=some c->env.cells.lookup y=some c)->
  ∀ y c,(zEU env l cs).lookup y=some c->env.cells.lookup y=some c
 | [],cs,_,h,y,c,e=>h y c e
 | (n,k)::r,cs,hl,h,y,c,e=>by
  rw[zEU] at e;refine vU r _ (fun p hp=>hl p (Qc _ hp)) (fun y c e=>?_) y c e
  by_cases z:(k==NameKind.free)=true
  ·obtain⟨c',hc⟩:=hl (n,k) Qb (beq_iff_eq.mp z)
   simp only[z,if_true,Xb,hc,Option.getD_some] at e
   cases w:y==n with
   | true=>rw[w] at e;cases e;rw[beq_iff_eq.mp w];exact hc
   | false=>rw[w] at e;exact h y c e
  ·simp only[z,Yi,if_false] at e
   exact h y c e
def zFf{env:Env}:∀(l:List (Str×NameKind))(cs:List (Str×Jc))(y:Str),(∃ c,cs.lookup y=some c)->∃ c,(zEU env l cs).lookup y=some c
 | [],cs,y,h=>h
 | (n,k)::r,cs,y,⟨c,h⟩=>by
  rw[zEU];refine zFf r _ y ?_
  split
  ·rw[Xb]
   cases y==n with
   | true=>exact⟨_,rfl⟩
   | false=>exact⟨c,h⟩
  ·exact⟨c,h⟩
def uL{env:Env}:∀(l:List (Str×NameKind))(cs:List (Str×Jc))(y:Str),(y,NameKind.free)∈l->∃ c,(zEU env l cs).lookup y=some c
 | (n,k)::r,cs,y,h=>by
  rw[zEU];rcases Qd.mp h with e | h
  ·cases e
   refine zFf r _ _ ⟨(env.cells.lookup n).getD 0,?_⟩
   simp only[beq_self_eq_true,if_true,Xb]
  ·exact uL r _ y h
def bR{s:Type}:∀ {l:List (Str×s)} {y:Str} {k:s},l.lookup y=some k->(y,k)∈l
 | (n,k')::r,y,k,h=>by
  rw[Xb] at h
  cases z:y==n with
  | true=>rw[z] at h;cases h;rw[beq_iff_eq.mp z];exact Qb
  | false=>rw[z] at h;exact Qc _ (bR h)
def cC{env:Env}:∀ {l:List (Str×NameKind)} {y:Str} {k:NameKind},
  (l.map fun(n,k)=>if (k==NameKind.free && env.scope.kind==.function && env.kindOf n==some .cell) then (n,NameKind.cell) else (n,k)).lookup y=some k->
  l.lookup y=some k∨(k=.cell/\l.lookup y=some .free)
 | (n,k')::r,y,k,h=>by
  rw[Qq] at h;rw[Xb];by_cases c:(k'==NameKind.free && env.scope.kind==.function && env.kindOf n==some .cell)=true
  ·simp only[c,if_true,Xb] at h
   cases z:y==n with
   | true=>
    rw[z] at h;cases h;refine .inr ⟨rfl,?_⟩
    simp only[Vh] at c;rw[beq_iff_eq.mp c.1.1]
   | false=>rw[z] at h;exact cC h
  ·simp only[c,Yi,if_false,Xb] at h
   cases z:y==n with
   | true=>rw[z] at h;exact .inl h
   | false=>rw[z] at h;exact cC h
def msk(x y:Str):Str:=if y=x then ("" : Str) else y
structure BlkOk (X:Cx) (x:Str) (scope:Scope):Prop where
 kind:scope.kind=.function
 cell:∀ y∈scope.names,y.2≠.cell
 loc:scope.names.lookup x=some .local
 names:∀ y∈scope.names,y.2=.local->scope.names.lookup y.1=some .local
 fre:∀ p∈scope.names,p.2=.free->X.env.kindOf p.1=some .cell∨X.env.kindOf p.1=some .free
 oth:∀ y∈X.N,y≠x->scope.names.lookup y≠some .local
 emp:scope.names.lookup ("" : Str)=none
def cxC(X:Cx)(x:Str)(scope:Scope)(C:Jc)(s₂:Jb)(H₂:Hp)(fp:List Jc):Cx:=
  { prog:=X.prog,w:=X.w,K:=X.K,mg:=X.mg,base:=X.base,A:=X.A,N:=X.N.map (msk x)++[x],s₀:=s₂,H₀:=H₂,env:=compEnvC scope (zEU X.env scope.names []) C X.env,outer:=X.stack,stack:=X.stack,
    ex:=fp,fn:=fun _=>false,calm:=X.calm,pn:=X.pn,xe:=fun _ _=>False }
section
variable{X:Cx}{Mh:List (Jc×Obj)}{r:St}{H:Hp}{s₂:Jb}{x:Str}{scope:Scope}{fp:List Jc}{D C:Jc}{h₁:Je}
def BlkOk.cl(B:BlkOk X x scope)(I:Inv X Mh r H s₂):∀ p∈scope.names,p.2=.free->∃ c,X.env.cells.lookup p.1=some c:=fun p hp e=>I.ok.has p.1 (B.fre p hp e)
def zSj(I:Inv X Mh r H s₂)(B:BlkOk X x scope)(hfp:∀ b∈fp,tT X Mh H b)(hfl:∀ b∈fp,b<s₂.heap.objs.size)(hD:s₂.heap.objs.size<=D)(hC:s₂.heap.objs.size<=C)(hDC:D≠C)
  (old:∀ b o,s₂.heap.get? b=some o->h₁.get? b=some o) {n:Nat} (hacc:h₁.get? D=some { cls:=.type "list", data:=.seq ([]:List Ja).toArray n }) {m:Str->Option Ja} (hns:h₁.Ns C m) (t:Nat):
  Inv (cxC X x scope C s₂ H fp) Mh (r++[none]) (upd H D (.lst [])) { s₂ with heap:=h₁,toks:=t }:=by
 have sub:=vU scope.names [] (B.cl I) (fun y c e=>nomatch e)
 have old_lt:∀ {b:Jc} {o:Obj},s₂.heap.get? b=some o->b≠D/\b≠C:=fun e=>⟨Qs (Qu (Heap.lt_size e) hD),Qs (Qu (Heap.lt_size e) hC)⟩
 have free:∀ {b:Jc},b≠D->H b=none->upd H D (.lst []) b=none:=fun n e=>by rw[aV n];exact e
 refine⟨⟨I.ok.mod,B.kind,I.ok.glob,I.ok.blt,hC,fun y z c e1 e2=>I.ok.inj y z c (sub y c e1) (sub z c e2),fun y hy=>?_,fun y c e=>(nomatch e),I.ok.hd,I.ok.frames,.inl rfl,fun b hb=>⟨Qs (Qu (hfl b hb) hC),fun y c e=>(hfp b hb).2.2.2.2.1 y c (sub y c e)⟩,
  I.bs,Q4 I.ok.bsz I.sz,fun b o e hb=>?_,fun b hb z=>?_,I.stack,I.stkFree⟩,rfl,I.bare,Un.laid old hD (I.hok.fresh hD),⟨m,hns,fun i y v e1 e2 e3=>?_⟩,fun y c e=>?_,free (Ne.symm hDC) (I.hok.fresh hC),fun y c e=>?_,fun p hp=>?_,I.hok.laid old hD ⟨Vi _,[],n,.nil,hacc⟩,?_⟩
 ·have:∃ k,(k=NameKind.cell∨k=NameKind.free)/\((relabel scope X.env).names).lookup y=some k:=hy.elim (fun h=>⟨_,.inl rfl,h⟩) fun h=>⟨_,.inr rfl,h⟩
  obtain⟨k,hk,e⟩:=this
  have e':(y,NameKind.free)∈scope.names:=by
   rcases cC e with z | ⟨_,z⟩
   ·rcases hk with rfl | rfl
    ·exact absurd rfl (B.cell _ (bR z))
    ·exact bR z
   ·exact bR z
  exact uL scope.names [] y e'
 ·rcases (hfp b hb).2.2.2.1 with z | z
  ·exact I.ok.noex b o e z
  ·exact absurd (Qu (Heap.lt_size e) (Q4 I.ok.bsz z)) (Xg _)
 ·rcases Qd.mp (I.stkSub b z) with w | w
  ·exact(hfp b hb).2.1 w
  ·exact(hfp b hb).2.2.1 w
 ·
  have hi:i<r.length:=by
   by_cases hi:i<r.length
   ·exact hi
   ·exfalso
    rw[Vp (by omega)] at e2
    cases q:i-r.length with
    | zero=>rw[q] at e2;cases e2
    | succ j=>rw[q] at e2;cases e2
  rw[Vg hi] at e2;have e1':(X.N.map (msk x)++[x])[i]?=some y:=e1;rw[Vg (by rw[Qe,<-I.len];exact hi),Qt] at e1'
  cases q:X.N[i]? with
  | none=>rw[q] at e1';cases e1'
  | some z=>
   rw[q] at e1';have e1'':msk x z=y:=Ve e1';have hz:z∈X.N:=Qi q;have vis:∃ k,((relabel scope X.env).names).lookup y=some k:=e3.elim (fun h=>⟨_,h⟩) fun h=>h.elim (fun h=>⟨_,h⟩) fun h=>⟨_,h⟩
   have hzx:z≠x:=fun w=>by
    obtain⟨k,hk⟩:=vis;have:y=("" : Str):=by rw[<-e1'',w];exact Jk rfl
    rw[this] at hk;rcases cC hk with h | ⟨_,h⟩<;>(rw[B.emp] at h;cases h)
   have hy:z=y:=by rw[<-e1''];exact(Jl hzx).symm
   subst hy
   have fr:(z,NameKind.free)∈scope.names:=by
    rcases e3 with h | h | h
    ·rcases cC h with h | ⟨h,_⟩
     ·exact absurd h (B.oth z hz hzx)
     ·cases h
    ·rcases cC h with h | ⟨_,h⟩
     ·exact absurd rfl (B.cell _ (bR h))
     ·exact bR h
    ·rcases cC h with h | ⟨h,_⟩
     ·exact bR h
     ·cases h
   have kd:=B.fre _ fr rfl;obtain⟨m0,hn0,hl⟩:=I.loc;obtain⟨u,ru,lk⟩:=hl i z v q e2 (kd.elim (fun h=>.inr (.inl h)) fun h=>.inr (.inr h))
   refine⟨u,ru,.inr ⟨?_,?_⟩⟩
   ·rcases e3 with h | h | h
    ·rcases cC h with h | ⟨h,_⟩
     ·exact absurd h (B.oth z hz hzx)
     ·cases h
    ·exact .inl h
    ·exact .inr h
   ·rcases lk with⟨k1,_⟩ | ⟨_,c,hc,hcell⟩
    ·rcases kd with kd | kd<;>(rw[kd] at k1;cases k1)
    ·obtain⟨c',hc'⟩:=uL (env:=X.env) scope.names [] z fr
     have:=sub z c' hc'
     rw[hc] at this;cases this;obtain⟨o,ho,hd⟩:=hcell;exact⟨c,hc',o,old _ _ ho,hd⟩
 ·obtain⟨v,o,ho,hd⟩:=I.cell y c (sub y c e)
  exact⟨v,o,old _ _ ho,hd⟩
 ·obtain⟨v,o,ho,hd⟩:=I.cell y c (sub y c e)
  exact free (old_lt ho).1 (I.freeC y c (sub y c e))
 ·obtain⟨e,n,ne,nf,d⟩:=I.pin p hp
  refine⟨old _ _ e,free (old_lt e).1 n,(old_lt e).2,fun z=>?_,d⟩
  rcases Qd.mp (I.stkSub _ z) with w | w
  ·exact ne w
  ·exact nf w
 ·show(r++[none]).length=(X.N.map (msk x)++[x]).length
  rw[Qo,Qo,Qe,I.len];rfl
end
section
variable{K:Fg_}{mg:Str->Option Ja}{B Bi Hi H Hi' H':Hp}{p:St}{ρ:Rho}
def Rel.snoc{v:V}{d:D}(R:Rel K mg B Bi Hi H p ρ)(h:IsD K Hi v d):Rel K mg B Bi Hi H (p++[some v]) (ρ++[.val d]) where
 len:=by rw[Qo,Qo,R.len];rfl
 ext:=R.ext
 slot:=fun j s q=>by
  by_cases hl:j<ρ.length
  ·rw[Vg hl] at q
   rw[Vg (by rw[R.len];exact hl)];exact R.slot j s q
  ·rw[Vp (by omega)] at q
   rw[Vp (by rw[R.len];omega),R.len]
   cases z:j-ρ.length with
   | zero=>rw[z] at q;cases q;exact⟨v,rfl,h⟩
   | succ n=>rw[z] at q;cases q
 dist:=fun j k a ds es q1 q2 q3 q4=>by
  have own:∀ {j:Nat} {ds:List D},(ρ++[Sl.val d])[j]?=some (.own ds)->j<ρ.length:=fun {j ds} q=>by
   by_cases hl:j<ρ.length
   ·exact hl
   ·rw[Vp (by omega)] at q
    cases z:j-ρ.length with
    | zero=>rw[z] at q;cases q
    | succ n=>rw[z] at q;cases q
  have h1:=own q1;have h2:=own q2;rw[Vg h1] at q1;rw[Vg h2] at q2;rw[Vg (by rw[R.len];exact h1)] at q3;rw[Vg (by rw[R.len];exact h2)] at q4;exact R.dist j k a ds es q1 q2 q3 q4
def Ext.rewrite{a:Jc}{o:HO}(e:Ext Hi H Hi' H')(hn:H a=none)(hi:Hi' a=none)(hl:∃ xs,H' a=some (.lst xs)):Ext Hi H Hi' (upd H' a o) where
 i:=e.i
 h:=⟨fun b u z=>by rw[aV (aX z hn)];exact e.h.k _ _ z,fun P z=>by
  obtain⟨xs,hl⟩:=hl
  exact(e.h.t P z).put (fun ps y=>by rw[hl] at y;cases y) (fun ob u y=>by rw[hl] at y;cases y)⟩
 s:=fun b u z=>by rw[aV (aX z hi)];exact e.s _ _ z
 n:=e.n
def IsDs.snoc{v:V}{d:D}(h:IsD K H v d):∀ {vs:List V} {ds:List D},IsDs K H vs ds->IsDs K H (vs++[v]) (ds++[d])
 | _,_,.nil=>.cons h .nil
 | _,_,.cons r t=>.cons r (IsDs.snoc h t)
end
def zAo{s:Type}{r:Res s}{a:s}(h:noErr r=.ok a):r=.ok a:=by
 cases r with
 | ok b=>exact h
 | err c=>cases h
 | no=>cases h
def zGv{t:Tv}{f:Ev}{ρ:Rho}{d:D}{ds es:List D}(h:iK t f ρ (d::ds)=.ok es):
  (t (ρ++[.val d])=.ok false/\iK t f ρ ds=.ok es)∨(t (ρ++[.val d])=.ok true/\∃ e es',f (ρ++[.val d])=.ok e/\iK t f ρ ds=.ok es'/\es=e::es'):=by
 rw[iK] at h
 cases ht:noErr (t (ρ++[.val d])) with
 | no=>rw[ht] at h;cases h
 | err c=>rw[ht] at h;cases h
 | ok c=>
  rw[ht] at h;have ht':=zAo ht
  cases c with
  | false=>exact .inl ⟨ht',h⟩
  | true=>
   refine .inr ⟨ht',?_⟩
   have h':((noErr (f (ρ++[.val d]))).bind fun e=>(iK t f ρ ds).bind fun es=>.ok (e::es))=.ok es:=h
   cases hf:noErr (f (ρ++[.val d])) with
   | no=>rw[hf] at h';cases h'
   | err c=>rw[hf] at h';cases h'
   | ok e=>
    rw[hf] at h';have h'':((iK t f ρ ds).bind fun es=>.ok (e::es))=.ok es:=h'
    cases hr:iK t f ρ ds with
    | no=>rw[hr] at h'';cases h''
    | err c=>rw[hr] at h'';cases h''
    | ok es'=>
     rw[hr] at h'';cases h''
     exact⟨e,es',zAo hf,rfl,rfl⟩
def zAL{t:Tv}{f:Ev}{ρ:Rho}{c:Str}:∀ {ds:List D},iK t f ρ ds≠.err c
 | []=>fun h=>by cases h
 | d::ds=>fun h=>by
  rw[iK] at h
  cases ht:noErr (t (ρ++[.val d])) with
  | no=>rw[ht] at h;cases h
  | err c=>cases q:t (ρ++[.val d])<;>(rw[q] at ht;cases ht)
  | ok b=>
   rw[ht] at h
   cases b with
   | false=>exact zAL h
   | true=>
    have h':((noErr (f (ρ++[.val d]))).bind fun e=>(iK t f ρ ds).bind fun es=>.ok (e::es))=.err c:=h
    cases hf:noErr (f (ρ++[.val d])) with
    | no=>rw[hf] at h';cases h'
    | err c=>cases q:f (ρ++[.val d])<;>(rw[q] at hf;cases hf)
    | ok e=>
     rw[hf] at h'
     cases hr:iK t f ρ ds with
     | no=>simp only[Res.bind,hr] at h';cases h'
     | err c'=>exact zAL hr
     | ok es=>simp only[Res.bind,hr] at h';cases h'
@[irreducible] def PTs (X:Cx) (G:Gx) (ifs:List Expr) (t:Tv):Prop:=
 ∀(Mh:List (Jc×Obj))(s:Jb)(p:St)(H:Hp)(Q:Bool->Hp->Prop),Inv X Mh p H s->tTb X G t p H Q->
  wpAny (model X.prog X.w) X.A (forIn ifs true fun c r=>if r=true then do let ok <-isTrue c X.env (eval c X.env);pure (ForInStep.yield ok) else pure (ForInStep.yield r)) (TP X Mh p Q) X.xe s
unseal PTs
def iP{X:Cx}{G:Gx}:PTs X G [] iM:=fun Mh s r H Q I ⟨ρ,Hi,R,o⟩=>wpAny_tests_nil ⟨H,I,Out.here (a:=true) o R.s⟩
end L3
namespace L3
open PySem PySem.Spec PyProof.Rows L2
unseal PEd PEf PTd PWd PAd PSd eH POd PGd iO PId PSx mC PTs
section
variable{X:Cx}{G:Gx}{elt iter:Expr}{x:Str}{px pos:Pos}{ifs:List Expr}{scope:Scope}{it:Fv}{t:Tv}{f:Ev}{k:Nat}
def zOj{M:Model}{A:Jh}{g:Type}{m:Sem g}{itv u:Ja}{s:Jb}{Q1:Unit->Jb->Prop}{R1:g->Jb->Prop}{E:Ja->Jb->Prop}(h:wpAny M A (letOwnedTupleGo (.Name x px) itv u) Q1 E s)
  (k:∀ s5,Q1 () s5->wpAny M A m R1 E s5):wpAny M A m R1 E s:=by
 have key:=Jr (f:=fun _:Unit=>m) (wpAny_mono h (fun _ s5 h5=>k s5 h5) fun _ _ z=>z)
 have e:(letOwnedTupleGo (.Name x px) itv u >>= fun _=>m)=m:=pure_bind () fun _=>m
 rw[e] at key;exact key
def zKn{N:List Str}(hN:N.Nodup)(h0:("" : Str)∉N)(hx:x≠("" : Str)):(N.map (msk x)++[x]).Nodup:=by
 rw[List.nodup_append];refine⟨?_,Yc.mpr ⟨by simp,List.nodup_nil⟩,fun a ha b hb e=>?_⟩
 ·induction N with
  | nil=>exact List.nodup_nil
  | cons y N ih=>
   rw[Qq,Yc];obtain⟨hy,hN⟩:=Yc.mp hN;refine⟨fun hm=>?_,ih hN fun z=>h0 (Qc _ z)⟩
   obtain⟨z,hz,e⟩:=Ql.mp hm;unfold msk at e;by_cases c1:z=x
   ·by_cases c2:y=x
    ·exact hy (by rw[c2,<-c1];exact hz)
    ·rw[Jk c1,Jl c2] at e;exact h0 (by rw[e];exact Qb)
   ·by_cases c2:y=x
    ·rw[Jl c1,Jk c2] at e;exact h0 (by rw[<-e];exact Qc _ hz)
    ·rw[Jl c1,Jl c2] at e;exact hy (by rw[<-e];exact hz)
 ·obtain⟨z,hz,e1⟩:=Ql.mp ha
  rw[Qw] at hb;subst hb;subst e;unfold msk at e1;split at e1
  ·exact hx e1.symm
  ·rename_i c;exact c e1
structure CW where
 i:Nat
 v:List (Option V)
 H:Hp
 Hi:Hp
 ys:List V
 done:List D
 rest:List D
structure CS (Y:Cx) (Mh:List (Jc×Obj)) (p:St) (tn:Nat->Je->Prop) (fp:List Jc) (Hi2 H2:Hp) (a:Jc) (m:Nat) (cp:Nat->Res (List D)) (es:List D) (c:CW) (s':Jb):Prop where
 inv:Inv Y Mh (p++c.v) c.H s'
 wid:c.v.length=m
 tn:tn c.i s'.heap
 fr:∀ b∈fp,c.H b=none
 ext:Ext Hi2 H2 c.Hi c.H
 acc:c.H a=some (.lst c.ys)
 hi:c.Hi a=none
 isd:IsDs Y.K c.Hi c.ys c.done
 len:c.done.length<=c.i
 cmp:cp c.i=.ok c.rest
 all:es=c.done++c.rest
def zTw(X:Cx)(Mh:List (Jc×Obj))(p:St)(use:Option (Ja->Sem Unit))(Q':Ja->Jb->Prop)(Qa:Jc->Hp->Prop):Prop:=
 ∀(C A:Jc)(m:Str->Option Ja)(s4:Jb)(H3:Hp),s4.heap.Ns C m->(∀ h',Heap.SameBut C s4.heap h'->Inv X Mh p H3 { s4 with heap:=h' })->tT X Mh H3 C->Qa A H3->
  compPost (model X.prog X.w) X.A X.xe use Q' (.ref A) C (.ok .next) s4
def zBW(hc:X.calm=true/\TB X.K X.mg G.Bi G.B)(hr:Room k X.A)(Bk:BlkOk X x scope)(hN:X.N.Nodup)(h0:("" : Str)∉X.N)(hx0:x≠("" : Str))(hi:PId X G (.Name x px) iter it)
  (hb:∀(C:Jc)(s₂:Jb)(H₂:Hp)(fp:List Jc)(G':Gx),Good (cxC X x scope C s₂ H₂ fp) G' k->PTs (cxC X x scope C s₂ H₂ fp) G' ifs t/\PEd (cxC X x scope C s₂ H₂ fp) G' elt f)
  (hs:∀ x,foldedSetIterable iter X.env x=pure x:=by intro _;rfl)
  {Mh:List (Jc×Obj)} {s:Jb} {p:St} {H Hi:Hp} {ρ:Rho} {use:Option (Ja->Sem Unit)} {Q':Ja->Jb->Prop} {Qa:Jc->Hp->Prop} {cpos:Pos} (I:Inv X Mh p H s) (R:mO X G Hi H p ρ)
  (ou:Out G Hi H ((iS it t f) ρ) fun ds Hi' H'=>∀ a,zLo X.K H Hi' H' a ds->Qa a H') (hend:zTw X Mh p use Q' Qa):
  wpAny (model X.prog X.w) X.A (comprehension (.ListComp elt [⟨.Name x px,iter,ifs,0⟩] scope pos) scope X.env cpos (newList []) false (eval iter X.env) use) Q' X.xe s:=by
 refine J8 (use:=use) rfl hs (zNk (Bk.cl I)) Bk.kind Bk.names ?_
 refine thn (hi Mh s p H (fun J H2=>∃ ds Hi2,Ext Hi H Hi2 H2/\vM X.K Hi2 J ds/\Out G Hi2 H2 (if ds.length<=16777215 then iK t f ρ ds else .no) fun ds Hi' H'=>∀ a,zLo X.K H Hi' H' a ds->Qa a H') I
  ⟨ρ,Hi,R,(Out.bind ou).imp fun ds Hi2 H2 e2 o2 J gv=>⟨ds,Hi2,e2,gv,o2⟩⟩) fun v s1 h1=>thn h1 fun itv s2 h2=>?_
 obtain⟨itA,fp,tn,J,H2,rfl,I2,T,st2,f2,ds,Hi2,e2,gv,ou2⟩:=h2
 have hlen:ds.length<=16777215:=by
  by_cases hlen:ds.length<=16777215
  ·exact hlen
  ·rw[Jl hlen] at ou2;exact ou2.elim
 rw[Jk hlen] at ou2
 cases hes:iK t f ρ ds with
 | no=>rw[hes] at ou2;exact ou2.elim
 | err c=>exact absurd hes zAL
 | ok es=>
  rw[hes] at ou2;have R2:mO X G Hi2 H2 p ρ:=R.grow e2;refine wpAny_newObj_type (wpAny_newFunctionEnv Bk.cell (by intro y hy;simp at hy) (fun h₁ hns₁ hsb₁=>?_) Bk.kind)
  dsimp only at hns₁ hsb₁ ⊢
  generalize hH2:s2.heap.push { cls:=.type "list", dict:=none,data:=.seq ([]:List Ja).toArray }=HP at hns₁ hsb₁ ⊢;have hC:HP.objs.size=s2.heap.objs.size+1:=by rw[<-hH2,Heap.size_push]
  have hDC:s2.heap.objs.size≠HP.objs.size:=by rw[hC];omega
  have ltC:∀ {b:Jc} {o:Obj},s2.heap.get? b=some o->b≠HP.objs.size:=fun e=>by rw[hC];exact Qs (Xv (Heap.lt_size e))
  have old:∀ b o,s2.heap.get? b=some o->h₁.get? b=some o:=fun b o e=>hsb₁.extBut b o (ltC e) (Heap.get?_push_of_some _ (hH2 ▸ Heap.get?_push_of_some _ e))
  have hacc:h₁.get? s2.heap.objs.size=some { cls:=.type "list", data:=.seq ([]:List Ja).toArray 0 }:=hsb₁.extBut _ _ hDC (Heap.get?_push_of_some _ (hH2 ▸ Heap.get?_push_size _ rfl));have hfl:∀ b∈fp,b<s2.heap.objs.size:=fun b hb=>by obtain⟨o,e,_⟩:=T.obj _ _ st2 b hb;exact Heap.lt_size e
  have IE:=zSj (t:=s2.toks+([]:List (Str×Ja)).length) I2 Bk f2 hfl (Qf _) (by rw[hC];omega) hDC old hacc hns₁
  have sub:=vU scope.names [] (Bk.cl I2) (fun y c e=>nomatch e)
  have H2D:H2 s2.heap.objs.size=none:=I2.hok.fresh (Qf _);have HD:H s2.heap.objs.size=none:=e2.h.none H2D;have Hi2D:Hi2 s2.heap.objs.size=none:=e2.s.none H2D;generalize hX:cxC X x scope HP.objs.size s2 H2 fp=Y at IE
  have GY:Good Y ⟨G.B,G.Bi,fun _ _=>False⟩ k:=by
   subst hX;exact⟨hc.1,hr,fun Mh p H s e s' _ h=>by obtain⟨_,_,_,_,_,c,_,z⟩:=h;exact z.elim,PassesOwn.never,hc.2⟩
  obtain⟨hts,hel⟩:=(hX ▸ hb HP.objs.size s2 H2 fp ⟨G.B,G.Bi,fun _ _=>False⟩ (hX.symm ▸ GY):PTs Y ⟨G.B,G.Bi,fun _ _=>False⟩ ifs t/\PEd Y ⟨G.B,G.Bi,fun _ _=>False⟩ elt f)
  have stat:∀ {H':Hp},(∀ b∈fp,H' b=none)->∀ b∈fp,tT Y Mh H' b:=fun hn b hb=>by
   subst hX;refine⟨hn b hb,?_,fun z=>?_,.inl hb,fun y c e=>(f2 b hb).2.2.2.2.1 y c (sub y c e),(f2 b hb).2.2.2.2.2⟩
   ·show b≠HP.objs.size
    rw[hC];exact Qs (Xv (hfl b hb))
   ·rcases Qd.mp (I2.stkSub b z) with w | w
    ·exact(f2 b hb).2.1 w
    ·exact(f2 b hb).2.2.1 w
  have YN:Y.N.Nodup:=by subst hX;exact zKn hN h0 hx0
  have Yx:Y.N[p.length]?=some x:=by
   subst hX;show(X.N.map (msk x)++[x])[p.length]?=some x
   rw[Vp (by rw[Qe,I2.len];omega),Qe,I2.len,Yw];rfl
  have Yl:Y.env.scope.names.lookup x=some .local:=by subst hX;exact J9 Bk.loc
  have Ye:Y.env=compEnvC scope (zEU X.env scope.names []) HP.objs.size X.env:=by subst hX;rfl
  have Yxe:∀ e s,¬ Y.xe e s:=by subst hX;exact fun _ _ h=>h
  have tn1:tn 0 h₁:=T.keep _ _ _ st2 fun b _ o e=>old b o e
  have gE:∀ s3:Jb,s3={ s2 with heap:=h₁,toks:=s2.toks+([]:List (Str×Ja)).length }->
    codeAny (model X.prog X.w) X.A (.compLoop (.ListComp elt [⟨.Name x px,iter,ifs,0⟩] scope pos) 0 (.ref itA) (.ref s2.heap.objs.size) Y.env) (compPost (model X.prog X.w) X.A X.xe use Q' (.ref s2.heap.objs.size) HP.objs.size) s3:=by
   rintro s3 rfl
   subst hX
   have fr0:∀ b∈fp,upd H2 s2.heap.objs.size (.lst []) b=none:=fun b hb=>by
    rw[aV (Qs (hfl b hb))];exact(f2 b hb).1
   refine codeAny_compLoop_tests (fun n s'=>∃ c:CW,n=ds.length-c.i/\CS (cxC X x scope HP.objs.size s2 H2 fp) Mh p tn fp Hi2 H2 s2.heap.objs.size 1 (fun i=>iK t f ρ (ds.drop i)) es c s') ?_ ds.length
    ⟨⟨0,[none],_,Hi2,[],[],es⟩,rfl,⟨IE,rfl,tn1,fr0,(Ext.refl e2.s).trans (Ext.newF e2.s H2D),aS,Hi2D,.nil,Qf _,hes,rfl⟩⟩
   ·rintro n s3 ⟨⟨i,vv,H3,Hi3,ys,done,rest⟩,rfl,I3,wd3,st3,fr3,e3,hD3,hiD3,rd3,hl3,hr3,hes3⟩
    dsimp only at I3 wd3 st3 fr3 e3 hD3 hiD3 rd3 hl3 hr3 hes3 ⊢
    obtain⟨v,rfl⟩:∃ v,vv=[v]:=by
     match vv,wd3 with
     | [v],_=>exact⟨v,rfl⟩
    obtain⟨w1,w2⟩:=gv Hi3 H3 e3.i e3.s i;have lift:∀ {g:Type} {m:Sem g} {Q':g->Jb->Prop} {E:Ja->Jb->Prop} {s':Jb},wpAny (model X.prog X.w) X.A m Q' (cxC X x scope HP.objs.size s2 H2 fp).xe s'->wpAny (model X.prog X.w) X.A m Q' E s':=fun h=>wpAny_mono h (fun _ _ z=>z) fun e s z=>(Yxe e s z).elim
    by_cases hlt:i<ds.length
    ·obtain⟨d,hd⟩:∃ d,ds[i]?=some d:=⟨_,Qm hlt⟩
     obtain⟨go,yl⟩:=w2 d hd
     have e4:ds.drop i=d::ds.drop (i+1):=by
      rw[Qm hlt] at hd;cases hd;exact Uu hlt
     rw[e4] at hr3;refine thn (T.item (cxC X x scope HP.objs.size s2 H2 fp) rfl rfl rfl hc.1 i Mh s3 _ H3 _ I3 (stat fr3) st3 go) fun r s4 ⟨u,hru,h4⟩=>?_
     subst hru;refine zOj h4 fun s5 h5=>?_
     obtain⟨xv,H5,I5,r5,y5,st5,fr5⟩:=h5;obtain⟨Hi5,e5,rd5⟩:=yl xv H5 y5;have I5':=I5.pinned (stat fr5) (T.obj _ _ st5);refine Jq (uI I5' YN Yx (.inl Yl) r5 (fun s6 I6=>?_) (.inr Yl))
     have es6:(p++[v]).set p.length (some xv)=p++[some xv]:=by rw[Wq _ _ (Qf _),Yw];rfl
     rw[es6] at I6;have E5:Ext Hi2 H2 Hi5 H5:=e3.trans e5;have R5:mO (cxC X x scope HP.objs.size s2 H2 fp) ⟨G.B,G.Bi,fun _ _=>False⟩ Hi5 H5 (p++[some xv]) (ρ++[.val d]):=Rel.snoc (R2.grow E5) rd5
     obtain⟨hD5,hiD5⟩:=e5.out hD3 hiD3;have rd5':=rd3.mono e5.i
     have again:∀ {H8 Hi8:Hp} {ys':List V} {done' rest':List D} {s8:Jb},Inv (cxC X x scope HP.objs.size s2 H2 fp) (Mh++vT fp s5.heap) (p++[some xv]) H8 s8->Ext Hi2 H2 Hi8 H8->H8 s2.heap.objs.size=some (.lst ys')->Hi8 s2.heap.objs.size=none->IsDs X.K Hi8 ys' done'->done'.length<=i+1->
       iK t f ρ (ds.drop (i+1))=.ok rest'->es=done'++rest'->∃ m,m<ds.length-i/\∃ c:CW,m=ds.length-c.i/\CS (cxC X x scope HP.objs.size s2 H2 fp) Mh p tn fp Hi2 H2 s2.heap.objs.size 1 (fun i=>iK t f ρ (ds.drop i)) es c s8:=fun {H8 Hi8 ys' done' rest' s8} I8 E8 a1 a2 a3 a4 a5 a6=>by
      refine⟨ds.length-(i+1),by omega,⟨i+1,[some xv],H8,Hi8,ys',done',rest'⟩,rfl,⟨I8.unpinned,rfl,T.keep _ _ _ st5 fun b hb o e=>(I8.pin (b,o) (Q2 _ (Q2 _ (fL hb e)))).1,fun b hb=>?_,E8,a1,a2,a3,a4,a5,a6⟩⟩
      obtain⟨o,e,_⟩:=T.obj _ _ st5 b hb;exact(I8.pin (b,o) (Q2 _ (Q2 _ (fL hb e)))).2.1
     rcases zGv hr3 with⟨ht,hr4⟩ | ⟨ht,e,es',hf,hr4,hee⟩
     ·refine lift (thn (hts _ s6 _ H5 (fun b H'=>b=false/\∃ Hi',Ext Hi5 H5 Hi' H') I6 ⟨_,Hi5,R5,by rw[ht];exact fun Hi' H' e=>⟨rfl,Hi',e⟩⟩) fun b s7 h7=>?_)
      obtain⟨H7,I7,rfl,Hi7,e7⟩:=h7;obtain⟨hD7,hiD7⟩:=e7.out hD5 hiD5;exact again I7 (E5.trans e7) hD7 hiD7 (rd5'.mono e7.i) (by omega) hr4 hes3
     ·refine lift (thn (hts _ s6 _ H5 (fun b H'=>b=true/\∃ Hi',Ext Hi5 H5 Hi' H') I6 ⟨_,Hi5,R5,by rw[ht];exact fun Hi' H' e=>⟨rfl,Hi',e⟩⟩) fun b s7 h7=>?_)
      obtain⟨H7,I7,rfl,Hi7,e7⟩:=h7;obtain⟨hD7,hiD7⟩:=e7.out hD5 hiD5;simp only[if_true];refine lift (thn (hel _ s7 _ H7 (fun w H'=>∃ Hi',Ext Hi7 H7 Hi' H'/\IsD X.K Hi' w e) I7 ⟨_,Hi7,R5.grow e7,by rw[hf];exact fun Hi' H' ee w hw=>⟨Hi',ee,hw⟩⟩) fun u8 s8 h8=>?_)
      obtain⟨w8,H8,I8,r8,Hi8,e8,rw8⟩:=h8;obtain⟨hD8,hiD8⟩:=e8.out hD7 hiD7;have rdy:IsDs X.K Hi8 ys done:=(rd5'.mono e7.i).mono e8.i;refine lift (thn (wQ (X:=(cxC X x scope HP.objs.size s2 H2 fp)) _ s8 _ H8 (.ref s2.heap.objs.size) [w8] (.ref s2.heap.objs.size) [u8] (fun _ H'=>H'=upd H8 s2.heap.objs.size (.lst (ys++[w8]))) I8 rfl (.cons r8 .nil) ⟨_,ys,w8,rfl,rfl,hD8,?_,rfl⟩) fun _ s9 h9=>?_)
      ·rw[rdy.length]
       exact Xq hl3 (Qu hlt (Q4 hlen (by decide)))
      ·obtain⟨_,H9,I9,_,rfl⟩:=h9
       refine again I9 (Ext.rewrite ((E5.trans e7).trans e8) H2D hiD8 ⟨_,hD8⟩) aS hiD8 (rdy.snoc rw8) (by rw[Qo];exact Wi hl3) hr4 ?_
       rw[hes3,hee,Vr];rfl
    ·rw[Y9 (by omega),iK] at hr3
     cases hr3;refine thn (T.done (cxC X x scope HP.objs.size s2 H2 fp) rfl rfl rfl hc.1 i Mh s3 _ H3 _ I3 (stat fr3) st3 (w1 (by omega))) fun r s4 ⟨hrn,I4⟩=>?_
     subst hrn;obtain⟨m4,hn4,_⟩:=I4.loc;have fC:H3 HP.objs.size=none:=I4.free;have nC:∀ b u,H3 b=some u->b≠HP.objs.size:=fun b u e z=>by rw[z,fC] at e;cases e
     have U4:=I4.base;refine hend HP.objs.size s2.heap.objs.size m4 s4 H3 hn4 (fun h' hs'=>?_) (I2.fpOk (by rw[hC];omega) fC) ?_
     ·have kp:∀ b o,b≠HP.objs.size->s4.heap.get? b=some o->h'.get? b=some o:=fun b o hb e=>hs'.extBut b o hb e
      refine Inv.call' I2 (ch:=fp) I4.os ⟨fun b o e n hb hx=>kp b o (ltC e) (U4.keep b o e n hb hx),fun b o e n hb hx=>?_,U4.free,fun b o e hx=>?_,U4.tups,U4.frzs,U4.tbls⟩ (fun b u e=>?_) I4.bare (fun b hb=>⟨(f2 b hb).2.2.2.1,(f2 b hb).2.1,(f2 b hb).2.2.2.2.1,(f2 b hb).2.2.2.2.2⟩)
      ·obtain⟨sl,q⟩:=U4.slot b o e n hb hx
       exact⟨sl,kp b _ (ltC e) q⟩
      ·obtain⟨o',q⟩:=U4.there b o e hx
       exact⟨o',kp b _ (ltC e) q⟩
      ·refine(I4.hok b u e).stay (fun c v hc q=>kp c v ?_ q) (fun _ q=>q) fun _ _ q=>q
       rcases hc with z | z
       ·rw[z];exact nC b u e
       ·exact nC c _ z
     ·refine ou2 Hi3 H3 e3 _ ⟨HD,hiD3,ys,hD3,?_⟩
      rw[hes3,Vm];exact rd3
  rw[Ye] at gE;exact Ma (gE _ rfl) (T.self _ 0 _ _ _ tn1 (gE _ rfl))
def zNU(hc:X.calm=true/\TB X.K X.mg G.Bi G.B)(hr:Room k X.A)(Bk:BlkOk X x scope)(hN:X.N.Nodup)(h0:("" : Str)∉X.N)(hx0:x≠("" : Str))(hi:PId X G (.Name x px) iter it)
  (hb:∀(C:Jc)(s₂:Jb)(H₂:Hp)(fp:List Jc)(G':Gx),Good (cxC X x scope C s₂ H₂ fp) G' k->PTs (cxC X x scope C s₂ H₂ fp) G' ifs t/\PEd (cxC X x scope C s₂ H₂ fp) G' elt f)
  (hs:∀ x,foldedSetIterable iter X.env x=pure x:=by intro _;rfl):PEf X G (.ListComp elt [⟨.Name x px,iter,ifs,0⟩] scope pos) (iS it t f):=by
 intro Mh s p H Q I w;obtain⟨ρ,Hi,R,ou⟩:=w;rw[eval_ListComp];refine zBW hc hr Bk hN h0 hx0 hi hb hs (use:=none) (Qa:=fun a H'=>Q (.ref a) H') I R ou fun C A m s4 H3 hn hI _ q=>?_
 exact⟨m,hn,fun h' hs'=>⟨.ref A,H3,hI h' hs',rfl,q⟩⟩
def PC(X:Cx)(e:Expr)(t:TE):Prop:=∀(Mh:List (Jc×Obj))(s:Jb)(p:St)(H:Hp)(Q:VK),Inv X Mh p H s->t p H Q->∀(u:Ja->Sem Unit)(Q':Unit->Jb->Prop),
 (∀(C:Jc)(m:Str->Option Ja)(s4:Jb)(v:V)(w:Ja)(H3:Hp),s4.heap.Ns C m->(∀ h',Heap.SameBut C s4.heap h'->Inv X Mh p H3 { s4 with heap:=h' })->tT X Mh H3 C->cX v w->Q v H3->
  wpAny (model X.prog X.w) X.A (u w) (fun _ s''=>∃ m,s''.heap.Ns C m/\∀ h',Heap.SameBut C s''.heap h'->Q' () { s'' with heap:=h' }) X.xe s4)->wpAny (model X.prog X.w) X.A (evalThenUse e X.env u) Q' X.xe s
def PC.wk{X:Cx}{e:Expr}{t t':TE}(h:PC X e t)(w:∀ p H Q,t' p H Q->t p H Q):PC X e t':=fun Mh s p H Q I q=>h Mh s p H Q I (w p H Q q)
@[irreducible] def PCd (X:Cx) (G:Gx) (e:Expr) (f:Ev):Prop:=PC X e (tD X G f)
unseal PCd
@[irreducible] def PCf (X:Cx) (G:Gx) (e:Expr) (f:Fv):Prop:=PC X e (tF X G f)
unseal PCf
def zNs(hc:X.calm=true/\TB X.K X.mg G.Bi G.B)(hr:Room k X.A)(Bk:BlkOk X x scope)(hN:X.N.Nodup)(h0:("" : Str)∉X.N)(hx0:x≠("" : Str))(hi:PId X G (.Name x px) iter it)
  (hb:∀(C:Jc)(s₂:Jb)(H₂:Hp)(fp:List Jc)(G':Gx),Good (cxC X x scope C s₂ H₂ fp) G' k->PTs (cxC X x scope C s₂ H₂ fp) G' ifs t/\PEd (cxC X x scope C s₂ H₂ fp) G' elt f)
  (hs:∀ x,foldedSetIterable iter X.env x=pure x:=by intro _;rfl):PCf X G (.ListComp elt [⟨.Name x px,iter,ifs,0⟩] scope pos) (iS it t f):=by
 intro Mh s p H Q I w u Q' hend;obtain⟨ρ,Hi,R,ou⟩:=w;rw[arm_evalThenUse_ListComp];refine Jr (zBW hc hr Bk hN h0 hx0 hi hb hs (use:=some u) (Q':=fun _ s=>wpAny (model X.prog X.w) X.A (pure ()) Q' X.xe s) (Qa:=fun a H'=>Q (.ref a) H') I R ou fun C A m s4 H3 hn hI fo q=>?_)
 refine thn (hend C m s4 (.ref A) (.ref A) H3 hn hI fo rfl q) fun _ s5 h5=>?_
 obtain⟨m5,hn5,h5⟩:=h5;exact⟨m5,hn5,fun h' hs'=>Ju (h5 h' hs')⟩
def PCf.d(h:PCf X G e fs):PCd X G e (eF fs):=PC.wk h fun p H Q q=>by
 obtain⟨ρ,Hi,R,ou⟩:=q;refine⟨ρ,Hi,R,?_⟩
 cases z:fs ρ with
 | no=>unfold eF at ou;rw[z] at ou;exact ou
 | err c=>unfold eF at ou;rw[z] at ou;exact ou
 | ok ds=>
  unfold eF at ou;rw[z] at ou
  intro Hi1 H1 e1 a n;obtain⟨n1,n2,xs,n3,n4⟩:=n;have o2:∀ Hi' H',Ext Hi H Hi' H'->∀ v,IsD X.K Hi' v (.lst ds)->Q v H':=ou;exact o2 _ _ (e1.hold n1 n3 n2) (.ref a) (.lst (SqL.of aS) (n4.mono (bY n2 _)))
def zOb{i:Nat}{y:Str}{e:Expr}{te:TE}{pos' pos:Pos}(hN:X.N.Nodup)(hi:X.N[i]?=some y)(hx:Loc X.env.scope y)(he:PC X e te)(hs:swapsWith e (some (.Name y pos')) pos.line X.env=pure true)
  (hf:X.fn y=true∨X.env.scope.names.lookup y=some .local):PS X (.Assign [.Name y pos'] e pos) (zSI te (L2.gName i)):=by
 intro Mh s p H E I h;rw[exec_Assign_Name_used _ _ _ _ hs];refine Jr (wpAny_standAt (Jr ?_))
 refine he Mh s p H _ I h _ _ fun C m s4 v w H3 hn hI fo r q=>?_
 have I4:Inv X Mh p H3 s4:=hI s4.heap (Heap.SameBut.refl _ _);refine Jq (zCh I4 hN hi hx r (fun s5 I5 sb=>?_) hf)
 obtain⟨a,sb,ha⟩:=sb
 have aC:C≠a:=by
  rcases ha with rfl | ha
  ·exact fo.2.1
  ·exact fun z=>fo.2.2.2.2.1 y a ha z.symm
 refine⟨m,hn.sameBut sb aC,fun h' hs'=>Ju ?_⟩
 have fC:=fo.1;have nC:∀ b u,H3 b=some u->b≠C:=fun b u e z=>by rw[z,fC] at e;cases e
 have kp:∀ b o,b≠C->s5.heap.get? b=some o->h'.get? b=some o:=fun b o hb e=>hs'.extBut b o hb e
 refine⟨p.set i (some v),H3,?_,q⟩
 refine Inv.call' I5 (ch:=[C]) rfl ⟨fun b o e n hb hx=>kp b o (by simpa using hx) e,fun b o e n hb hx=>⟨o.slots,kp b _ (by simpa using hx) e⟩,fun b o e n hx=>n,fun b o e hx=>⟨o,kp b _ (by simpa using hx) e⟩,fun _ _ q=>q,fun _ _ _ q=>q,fun _ ps q=>⟨#[],by simpa using q⟩⟩ (fun b u e=>?_) I5.bare (fun b hb=>?_)
 ·refine(I5.hok b u e).stay (fun c v hc q=>kp c v ?_ q) (fun _ q=>q) fun _ _ q=>q
  rcases hc with z | z
  ·rw[z];exact nC b u e
  ·exact nC c _ z
 ·have e:b=C:=by simpa using hb
  subst e;exact⟨fo.2.2.2.1,fo.2.1,fo.2.2.2.2.1,fo.2.2.2.2.2⟩
def zIV{i:Nat}{y:Str}{e:Expr}{f:Ev}{pos' pos:Pos}(hN:X.N.Nodup)(hi:X.N[i]?=some y)(hx:Loc X.env.scope y)(he:PCd X G e f)(hs:swapsWith e (some (.Name y pos')) pos.line X.env=pure true)
  (hf:X.fn y=true∨X.env.scope.names.lookup y=some .local:=by first | exact .inl rfl | exact .inr rfl | assumption):PSd X G (.Assign [.Name y pos'] e pos) (cU i f):=PS.wk (zOb hN hi hx he hs hf) fun E p H q=>by
 obtain⟨ρ,Hi,R,h⟩:=q;exact⟨ρ,Hi,R,mK R h fun d Hi' H' _ e h' v r=>h' _ Hi' H' (Same.refl _) ((R.grow e).set r)⟩
end
end L3
namespace L3
open PySem PySem.Spec PyProof.Rows L2
unseal PEd PEf PTd PWd PAd PSd eH POd PGd iO PId PSx mC PTs PCd PCf
def zRV(sc:Scope)(N:List Str)(x:Str)(scope:Scope):Bool:=
 scope.names.all (fun y=>y.2 != .cell) && scope.names.lookup x==some .local && scope.names.all (fun y=>y.2 != .local || scope.names.lookup y.1==some .local)
  && scope.names.all (fun p=>p.2 != .free || (sc.names.lookup p.1==some .cell || sc.names.lookup p.1==some .free)) && N.all (fun y=>y==x || scope.names.lookup y != some .local) && (scope.names.lookup ("" : Str)).isNone && !N.contains ("" : Str) && x != ("" : Str)
section
variable{X:Cx}{G:Gx}{elt iter:Expr}{x:Str}{px pos:Pos}{ifs:List Expr}{scope sc:Scope}{it:Fv}{t:Tv}{f:Ev}{k:Nat}{N:List Str}
def zNa(hk:scope.kind=.function)(hsc:X.env.scope=sc)(hN:X.N=N)(h:zRV sc N x scope=true):BlkOk X x scope/\("" : Str)∉X.N/\x≠("" : Str):=by
 unfold zRV at h;simp only[Vh] at h;obtain⟨⟨⟨⟨⟨⟨⟨h1,h2⟩,h3⟩,h4⟩,h5⟩,h6⟩,h7⟩,h8⟩:=h;subst hN hsc;refine⟨⟨hk,fun y hy e=>?_,beq_iff_eq.mp h2,fun y hy e=>?_,fun p hp e=>?_,fun y hy hne e=>?_,?_⟩,fun z=>?_,fun z=>?_⟩
 ·have:=Xj.mp h1 y hy
  rw[e] at this;cases this
 ·have:=Xj.mp h3 y hy
  rw[e] at this;simpa using this
 ·have:=Xj.mp h4 p hp
  rw[e] at this;have q:X.env.scope.names.lookup p.1=some .cell∨X.env.scope.names.lookup p.1=some .free:=by simpa using this
  exact q
 ·have:=Xj.mp h5 y hy
  rw[e] at this;simp[hne] at this
 ·simpa using h6
 ·have:X.N.contains ("" : Str)=true:=by simpa using z
  rw[this] at h7;cases h7
 ·rw[z] at h8;simp at h8
def eI(W:Good X G k)(hnd:N.Nodup)(hk:scope.kind=.function)(hsc:X.env.scope=sc)(hN:X.N=N)(h:zRV sc N x scope=true)(hi:PId X G (.Name x px) iter it)
  (hb:∀(C:Jc)(s₂:Jb)(H₂:Hp)(fp:List Jc)(G':Gx),Good (cxC X x scope C s₂ H₂ fp) G' k->PTs (cxC X x scope C s₂ H₂ fp) G' ifs t/\PEd (cxC X x scope C s₂ H₂ fp) G' elt f)
  (hs:∀ x,foldedSetIterable iter X.env x=pure x:=by intro _;rfl):PEf X G (.ListComp elt [⟨.Name x px,iter,ifs,0⟩] scope pos) (iS it t f):=by
 obtain⟨b,h0,hx⟩:=zNa hk hsc hN h;exact zNU ⟨W.calm,W.tb⟩ W.room b (hN ▸ hnd) h0 hx hi hb hs
def zAj(W:Good X G k)(hnd:N.Nodup)(hk:scope.kind=.function)(hsc:X.env.scope=sc)(hN:X.N=N)(h:zRV sc N x scope=true)(hi:PId X G (.Name x px) iter it)
  (hb:∀(C:Jc)(s₂:Jb)(H₂:Hp)(fp:List Jc)(G':Gx),Good (cxC X x scope C s₂ H₂ fp) G' k->PTs (cxC X x scope C s₂ H₂ fp) G' ifs t/\PEd (cxC X x scope C s₂ H₂ fp) G' elt f)
  (hs:∀ x,foldedSetIterable iter X.env x=pure x:=by intro _;rfl):PCf X G (.ListComp elt [⟨.Name x px,iter,ifs,0⟩] scope pos) (iS it t f):=by
 obtain⟨b,h0,hx⟩:=zNa hk hsc hN h;exact zNs ⟨W.calm,W.tb⟩ W.room b (hN ▸ hnd) h0 hx hi hb hs
end
section
variable{X:Cx}{G:Gx}{a b:Expr}{pos:Pos}{f:Fv}{g:Ev}
def zMt:zBa X (fun xs H Q=>(∃ i,xs=[.int i]/\Q (.int i) H)∨∃ k,xs=[.bl k]/\Q (.int (if k then 1 else 0)) H) zPC:=⟨fun a c z=>(by
  unfold zPC at z;split at z<;>cases z),fun Hi H vs ds d Q s r z q=>by
  unfold zPC at z;split at z
  ·cases z
   obtain⟨v,rfl,h⟩:=r.one;exact .inl ⟨_,by rw[h.intI],q _ Hi H (Ext.refl s) (.int _)⟩
  ·cases z
   obtain⟨v,rfl,h⟩:=r.one;exact .inr ⟨_,by rw[h.blI],q _ Hi H (Ext.refl s) (.int _)⟩
  ·cases z⟩
def IsDs.rep{K:Fg_}{H:Hp}{xs:List V}{ds:List D}(h:IsDs K H xs ds):∀ n:Nat,IsDs K H (List.replicate n xs).flatten (List.replicate n ds).flatten
 | 0=>.nil
 | n+1=>by
  rw[X0,X0,Yf,Yf];exact h.append (IsDs.rep h n)
def zFO(ha:PEf X G a f)(hb:PEd X G b g):PEf X G (.BinOp a .Mult b pos) (zNI f g):=PE.wk (zJK zQB ha hb) fun e H Q q=>by
 obtain⟨ρ,Hi,R,ou⟩:=q;refine⟨ρ,Hi,R,(Out.bind ou).imp fun ds Hi1 H1 e1 o1 l nl=>?_⟩
 refine⟨ρ,Hi1,R.grow e1,(Out.bind o1).imp fun d Hi2 H2 e2 o2 v rv=>?_⟩
 cases d<;>first | exact o2.elim | skip
 rename_i k
 obtain⟨n1,n2,xs,n3,n4⟩:=nl;have o2':Out G Hi2 H2 (if 0<=k/\k<2^62/\ds.length*k.toNat<=16777216 then Res.ok (List.replicate k.toNat ds).flatten else .no) _:=o2;by_cases hz:0<=k/\k<2^62/\ds.length*k.toNat<=16777216
 ·rw[Jk hz] at o2'
  refine⟨l,k,xs,rfl,rv.intI,e2.h.at n3,by omega,by omega,by rw[n4.length];exact hz.2.2,fun p hp=>?_⟩
  exact o2' _ _ (Ext.newF e2.s hp) p ⟨(e1.h.trans e2.h).none hp,e2.s.none hp,_,aS,(n4.mono e2.i).rep _⟩
 ·rw[Jl hz] at o2';exact o2'.elim
end
section
variable{es r:List Expr}{a b f:Expr}{k:Nat}{p:Pos}{x:Str}{c:Const}{env:Env}
def iY:starEach (.Tuple es k p::r) env=(false,eval (.Tuple es k p) env)::starEach r env:=rfl
def zFv:starEach (.List es p::r) env=(false,eval (.List es p) env)::starEach r env:=rfl
def bJ{o:Operator}:starEach (.BinOp a o b p::r) env=(false,eval (.BinOp a o b p) env)::starEach r env:=rfl
def aP:starEach (.Subscript a b p::r) env=(false,eval (.Subscript a b p) env)::starEach r env:=rfl
def aI:starEach (.Name x p::r) env=(false,eval (.Name x p) env)::starEach r env:=rfl
def cH:starEach (.Constant c k p::r) env=(false,eval (.Constant c k p) env)::starEach r env:=rfl
def aK{ks:List Keyword}:starEach (.Call f es ks p::r) env=(false,eval (.Call f es ks p) env)::starEach r env:=rfl
end
end L3
set_option maxRecDepth 100000
namespace L3
open PySem PySem.Spec PyProof.Rows L2
def zLw:bootBuiltins "reversed" = some (.type "reversed"):=by first | rfl | decide +kernel
section
unseal PEd PEf PTd PWd PAd PSd eH POd PGd iO PId PSx mC PTs PCd PCf
variable{X:Cx}{G:Gx}{fs:Fv}{f:Ev}
end
end L3
namespace L3
open PySem PySem.Spec PyProof.Rows L2
unseal PEd PEf PTd PWd PAd PSd eH POd PGd iO PId PSx mC PTs PCd PCf
section
variable{X:Cx}{G:Gx}
def zTk(K:PySem.W.Frag):List V->Hp->VK->Prop:=fun xs H Q=>∃(a:Jc)(ns:List Int),xs=[.ref a]/\(SqL K H a (ns.map V.int)∨SqT K H a (ns.map V.int))/\Q (.int ns.sum) H
def vQ(ns:List Int):∀ j,preSum (fun i=>ns.getD i 0) j=(ns.take j).sum
 | 0=>by rw[Yj];rfl
 | j+1=>by
  rw[preSum,vQ ns j,Ys];rw[Qv]
  cases ns[j]? with
  | none=>simp
  | some x=>simp
def zAS{ns:List Int}{its:List Ja}(r:dF (ns.map V.int) its){i:Nat}{v:Ja}(h:its[i]?=some v):∃ t,v=.int (ns.getD i 0) t:=by
 have hl:=r.length;rw[Qe] at hl;have hi:=(Qy.mp h).1
 have hx:(ns.map V.int)[i]?=some (.int (ns.getD i 0)):=by
  rw[Qt,Qv,Qm (by omega)];rfl
 obtain⟨u,hu,ru⟩:=r.get hx;rw[h] at hu;cases hu;exact ru
def kG(hc:X.calm=true):wC X (.builtin "sum") (zTk X.K):=by
 intro Mh s f H xs us Q I r h;obtain⟨a,ns,rfl,hq,q⟩:=h;obtain⟨u,rfl,ru⟩:=r.one;cases ru;have hh:=I.ok.hd hc;rcases hq with hq | hq
 ·obtain⟨its,rv,p,hz⟩:=I.list hq
  have hlt:a<s.heap.objs.size:=by obtain⟨_,e,_⟩:=p.isList;exact Heap.lt_size e
  have hl:=rv.length;rw[Qe] at hl;refine call_sum_walkG (wpAny_pyIter_list p.isList ?_)
  refine⟨s.heap.objs.size,_,_,_,_,_,fun i=>ns.getD i 0,rfl,Walks.list (A:=X.A.in1) hh s.heap.objs.size a (Qs hlt) its.toArray,⟨⟨_,Heap.get?_push_size _ rfl,rfl,rfl⟩,p.isList.push _⟩,fun b hb=>?_,fun i v hv=>zAS rv (by simpa using hv),fun h' tk t' hk=>?_⟩
  ·show b<(s.heap.push _).objs.size
   rw[Heap.size_push];rcases Qd.mp hb with rfl | hb
   ·exact Vn _
   ·rcases Qd.mp hb with rfl | hb
    ·exact Xv hlt
    ·cases hb
  ·refine⟨.int ns.sum,H,I.kept (t':=tk) fun b o e=>hk b o (fun z=>?_) (Heap.get?_push_of_some _ e),⟨t',?_⟩,q⟩
   ·have z':b=s.heap.objs.size:=by simpa using z
    have l:=Heap.lt_size e;rw[z'] at l;exact Xg _ l
   ·rw[Qj,<-hl,vQ,Vu]
 ·obtain⟨its,rv,p,hz⟩:=I.tuple hq
  have p':s.heap.IsTuple a its.toArray:=p;have hlt:a<s.heap.objs.size:=by obtain⟨_,e,_⟩:=p';exact Heap.lt_size e
  have hl:=rv.length;rw[Qe] at hl;refine call_sum_walkG (wpAny_pyIter_tuple p' ?_)
  refine⟨s.heap.objs.size,_,_,_,_,_,fun i=>ns.getD i 0,rfl,Walks.tuple (A:=X.A.in1) hh s.heap.objs.size a (Qs hlt) its.toArray,⟨⟨_,Heap.get?_push_size _ rfl,rfl,rfl⟩,p'.push _⟩,fun b hb=>?_,fun i v hv=>zAS rv (by simpa using hv),fun h' tk t' hk=>?_⟩
  ·show b<(s.heap.push _).objs.size
   rw[Heap.size_push];rcases Qd.mp hb with rfl | hb
   ·exact Vn _
   ·rcases Qd.mp hb with rfl | hb
    ·exact Xv hlt
    ·cases hb
  ·refine⟨.int ns.sum,H,I.kept (t':=tk) fun b o e=>hk b o (fun z=>?_) (Heap.get?_push_of_some _ e),⟨t',?_⟩,q⟩
   ·have z':b=s.heap.objs.size:=by simpa using z
    have l:=Heap.lt_size e;rw[z'] at l;exact Xg _ l
   ·rw[Qj,<-hl,vQ,Vu]
def oA{K:Fg_}{H:Hp}:∀ {xs:List V} {ds:List D} {ns:List Int},IsDs K H xs ds->oO ds=some ns->xs=ns.map V.int
 | _,_,ns,.nil,h=>by cases h;rfl
 | _,_,ns,.cons (d:=d) (ds:=ds) r rs,h=>by
  cases d with
  | int i=>
   rw[oO] at h
   cases z:oO ds with
   | none=>rw[z] at h;cases h
   | some ms=>
    rw[z] at h;cases h;rw[r.intI,oA rs z];rfl
  | _=>cases h
def sR:zBa X (zTk X.K) zCU:=⟨fun a c z=>(by
  unfold zCU at z;split at z
  ·split at z<;>cases z
  ·split at z<;>cases z
  ·cases z),fun Hi H vs ds d Q s r z q=>by
  unfold zCU at z;split at z
  ·split at z
   ·rename_i ns hns
    cases z;obtain⟨v,rfl,h⟩:=r.one;obtain⟨a,xs,rfl,h1,h2⟩:=h.lstI;have e:=oA h2 hns;subst e;exact⟨a,ns,rfl,.inl (cJ s h1),q _ Hi H (Ext.refl s) (.int _)⟩
   ·cases z
  ·split at z
   ·rename_i ns hns
    cases z;obtain⟨v,rfl,h⟩:=r.one;obtain⟨a,xs,rfl,h1,h2⟩:=h.tupI;have e:=oA h2 hns;subst e;exact⟨a,ns,rfl,.inr (bV s h1),q _ Hi H (Ext.refl s) (.int _)⟩
   ·cases z
  ·cases z⟩
def iG:bootBuiltins "sum" = some (.builtin "sum"):=by first | rfl | decide +kernel
end
def ln0{r:Type}{us:List r}(h:us.length=0):us=[]:=Wo h
def ln1{s:Type}{us:List s}(h:us.length=1):∃ a0:s,us=[a0]:=by
 cases us with
 | nil=>cases h
 | cons a r=>
  cases ln0 (Uv h)
  exact⟨a,rfl⟩
def ln2{s:Type}{us:List s}(h:us.length=2):∃ a0 a1:s,us=[a0,a1]:=by
 cases us with
 | nil=>cases h
 | cons a r=>
  obtain⟨a1,rfl⟩:=ln1 (Uv h);exact⟨a,a1,rfl⟩
def ln3{s:Type}{us:List s}(h:us.length=3):∃ a0 a1 a2:s,us=[a0,a1,a2]:=by
 cases us with
 | nil=>cases h
 | cons a r=>
  obtain⟨a1,a2,rfl⟩:=ln2 (Uv h);exact⟨a,a1,a2,rfl⟩
def ln4{s:Type}{us:List s}(h:us.length=4):∃ a0 a1 a2 a3:s,us=[a0,a1,a2,a3]:=by
 cases us with
 | nil=>cases h
 | cons a r=>
  obtain⟨a1,a2,a3,rfl⟩:=ln3 (Uv h);exact⟨a,a1,a2,a3,rfl⟩
section
variable{X:Cx}{G:Gx}{a b c e:Expr}{pos p2 p:Pos}{f g h:Ev}{fs:Fv}{x:Str}
def zDM{bl:List Ji}:eH X G bl sNo:=fun Mh s i H E I q=>by
 obtain⟨ρ,Hi,R,ou⟩:=q;exact ou.elim
def zKP(T:List (Str×Str)):List (Str×KTD.Dat):=T.map fun q=>(q.1,.flat (.str q.2))
structure IsTab (K:PySem.W.Frag) (mg:Str->Option Ja) (x:Str) (T:List (Str×Str)) (a:Jc):Prop where
 mg:mg x=some (.ref a)
 tab:∀ h:Je,K.In h->KTD.TextTab h a (zKP T)
def zIr(k:Str):∀ T:List (Str×Str),KTD.datumAt k (zKP T)=(T.lookup k).map fun y=>.flat (.str y)
 | []=>rfl
 | (x,y)::r=>by
  show(if decide (k=x)=true then some (KTD.Dat.flat (.str y)) else KTD.datumAt k (zKP r))=_
  rw[Xb];by_cases hx:k=x
  ·rw[Jk (J5 hx),show(k==x)=true from beq_iff_eq.mpr hx];rfl
  ·rw[Jl (by simp[hx]),show(k==x)=false from beq_eq_false_iff_ne.mpr hx];exact zIr k r
def zKg(k:Str)(T:List (Str×Str)):KTD.inKeys k (zKP T)=(T.lookup k).isSome:=by
 rw[<-KTD.isSome_datumAt,zIr,Option.isSome_map]
def zMQ{T:List (Str×Str)}{ad:Jc}(t:IsTab X.K X.mg x T ad)(hg:Gl X x)(hd:(x==("__debug__" : Str))=false:=by decide):PE X (.Name x p) (tC (.ref ad)):=zHO hg t.mg rfl hd
def zKd{T:List (Str×Str)}{ad:Jc}(t:IsTab X.K X.mg x T ad):OpR X (compareOp .NotIn) (fun v y H Q=>∃ k,v=.str k/\y=.ref ad/\Q (.bl (!(T.lookup k).isSome)) H):=by
 intro Mh s i H v y u w Q I rx ry h;obtain⟨k,rfl,rfl,q⟩:=h;obtain⟨tk,rfl⟩:=rx;cases ry;refine KTD.notin_text ⟨t.tab s.heap I.kIn,fun _ _ e=>e⟩ ?_
 rw[zKg];exact⟨.bl _,H,I.tok _,rfl,q⟩
def zCd{h₀:Je}{k:Str}{P:Ja->Prop}:∀ {T:List (Str×Str)},(∀ z t,T.lookup k=some z->P (.str z t))->KTD.EachL h₀ k P (zKP T)
 | [],_=>trivial
 | [(x,y)],hP=>fun hk t=>hP y t (by rw[Xb,show(k==x)=true from beq_iff_eq.mpr hk])
 | (x,y)::q::r,hP=>by
  show if decide (k=x)=true then KTD.Opened h₀ P (.flat (.str y)) else KTD.EachL h₀ k P (zKP (q::r))
  by_cases hk:k=x
  ·rw[Jk (J5 hk)]
   exact fun t=>hP y t (by rw[Xb,show(k==x)=true from beq_iff_eq.mpr hk])
  ·rw[Jl (by simp[hk])]
   exact zCd fun z t hz=>hP z t (by rw[Xb,show(k==x)=false from beq_eq_false_iff_ne.mpr hk];exact hz)
def zHL(T:List (Str×Str)):((zKP T).all fun q=>KTD.plain q.2)=true:=by
 unfold zKP;rw[List.all_map];exact Xj.mpr fun _ _=>rfl
def zRz{T:List (Str×Str)}{ad:Jc}(t:IsTab X.K X.mg x T ad):IxR X (fun v y H Q=>∃ k z,v=.ref ad/\y=.str k/\T.lookup k=some z/\Q (.str z) H):=by
 intro value slice Mh s i H v y u w Q I rx ry h hs;obtain⟨k,z,rfl,rfl,hk,q⟩:=h;cases rx;obtain⟨tk,rfl⟩:=ry;refine KTD.item_textA ⟨t.tab s.heap I.kIn,fun _ _ e=>e⟩ (zHL T) (by rw[zKg,hk];rfl) ?_ hs
 refine zCd fun z' t' hz=>?_
 rw[hk] at hz;cases hz;exact⟨.str _,H,I.tok _,⟨_,rfl⟩,q⟩
def unT{o:D->Res D}{r:R2}{y:V}(hr:∀ (Hi H:Hp) (v:V) (d:D) (Q:VK),IsD X.K Hi v d->Same Hi H->(∃ d',o d=.ok d'/\(∀ w Hi' H',Ext Hi H Hi' H'->IsD X.K Hi' w d'->Q w H'))->r v y H Q)
  (he:∀ d c,o d≠.err c):∀ i H Q,tD X G (eUn o f) i H Q->tOp r (tD X G f) (tC y) i H Q:=fun i H Q q=>by
 obtain⟨ρ,Hi,R,ou⟩:=q;refine zFQ R ou fun v d Hi1 H1 e1 R1 r1 o1=>?_
 cases z:o d with
 | no=>rw[z] at o1;exact o1.elim
 | err c=>exact absurd z (he d c)
 | ok d'=>rw[z] at o1;exact hr Hi1 H1 v d Q r1 R1.s ⟨d',z,fun w Hi' H' e1 r1=>o1 Hi' H' e1 w r1⟩
def zRx{T:List (Str×Str)}{ad:Jc}:∀ i H Q,tD X G (eUn (rO T) f) i H Q->tOp (fun v y H Q=>∃ k,v=.str k/\y=.ref ad/\Q (.bl (!(T.lookup k).isSome)) H) (tD X G f) (tC (.ref ad)) i H Q:=
 unT (fun Hi H v d Q r s h=>by
  obtain⟨d',z,q⟩:=h;unfold rO at z;split at z
  ·cases z;exact⟨_,r.strI,rfl,q _ Hi H (Ext.refl s) (.bl _)⟩
  ·cases z) fun d c z=>by unfold rO at z;split at z<;>cases z
def zQW{op:CmpOp}{o:D->Res D}{r:R2}{y:V}(hp:PT X (.Compare a [op] [b] pos) (zPR (tOp r (tD X G f) (tC y))))(hu:∀ i H Q,tD X G (eUn o f) i H Q->tOp r (tD X G f) (tC y) i H Q):PTd X G (.Compare a [op] [b] pos) (dM (eUn o f)):=
 PT.wk hp fun i H Q q=>by
  obtain⟨ρ,Hi,R,ou⟩:=q;refine hu i H _ ⟨ρ,Hi,R,ou.bind.imp fun d Hi' H' e o v r=>?_⟩
  cases d with
  | bl c=>rw[r.blI];exact⟨c,rfl,o.here e.s⟩
  | _=>exact o.elim
def zMe{T:List (Str×Str)}{ad:Jc}(t:IsTab X.K X.mg x T ad)(hg:Gl X x)(ha:PEd X G a f)(hm:behindInMarks .NotIn (.Name x p)=false)(hd:(x==("__debug__" : Str))=false:=by decide):PTd X G (.Compare a [.NotIn] [.Name x p] pos) (dM (eUn (rO T) f)):=
 zQW (zIC (zKd t) ha (zMQ t hg hd) hm) zRx
def zNg{T:List (Str×Str)}{ad:Jc}(t:IsTab X.K X.mg x T ad)(hg:Gl X x)(hb:PEd X G b g)(hs:zEI b)(hd:(x==("__debug__" : Str))=false:=by decide):PEd X G (.Subscript (.Name x p) b pos) (eUn (wX T) g):=
 PE.wk (zHu (zRz t) (zMQ t hg hd) hb hs) fun i H Q q=>by
  obtain⟨ρ,Hi,R,ou⟩:=q;refine zFQ R ou fun v d Hi1 H1 e1 R1 r1 o1=>?_
  cases d with
  | str k=>
   have o2:Out G Hi1 H1 (zPA (T.lookup k)) _:=o1
   cases z:T.lookup k with
   | none=>rw[z] at o2;exact o2.elim
   | some y=>rw[z] at o2;exact⟨k,y,rfl,r1.strI,z,o2.here R1.s _ (.str _)⟩
  | _=>exact o1.elim
end
section
variable{X:Cx}{G:Gx}{a c:Expr}{pos p kp:Pos}{f g:Ev}
def zIG(num:Nat->Int):∀ k,num (argBest (fun i j=>decide (num i > num j)) k)=zAZ (num 0) ((List.range k).map fun i=>num (i+1))
 | 0=>rfl
 | k+1=>by
  rw[Wr,Q8]
  have app:∀(l:List Int)(a b:Int),zAZ a (l++[b])=if b > zAZ a l then b else zAZ a l:=by
   intro l
   induction l with
   | nil=>intro a b;rfl
   | cons x r ih=>intro a b;rw[Uc,zAZ,ih,zAZ]
  rw[List.map_singleton,app,<-zIG num k];show num (if decide (num (k+1) > num (argBest _ k))=true then k+1 else argBest _ k)=_
  by_cases h:num (k+1) > num (argBest (fun i j=>decide (num i > num j)) k)
  ·rw[Jk (J5 h),Jk h]
  ·rw[Jl (by simp[h]),Jl h]
def zDF(m:Int)(ns:List Int):(m::ns).getD (argBest (fun i j=>decide ((m::ns).getD i 0 > (m::ns).getD j 0)) ns.length) 0=zAZ m ns:=by
 rw[zIG (fun i=>(m::ns).getD i 0) ns.length];show zAZ m _=_
 congr 1
 refine Yy fun i=>?_
 rw[Qt];by_cases h:i<ns.length
 ·rw[V8 h,Qm h]
  show some ((m::ns).getD (i+1) 0)=_
  rw[List.getD_cons_succ,Qv,Qm h];rfl
 ·rw[Q5 (by rw[Q3];omega),Q5 (by omega)];rfl
def zPH(K:PySem.W.Frag):List V->Hp->VK->Prop:=fun xs H Q=>∃(a:Jc)(m:Int)(ns:List Int),xs=[.ref a]/\SqL K H a ((m::ns).map V.int)/\Q (.int (zAZ m ns)) H
def zDy(hc:X.calm=true):wC X (.builtin "max") (zPH X.K):=by
 intro Mh s n H xs us Q I r h;obtain⟨a,m,ns,rfl,hq,q⟩:=h;obtain⟨u,rfl,ru⟩:=zAb r;cases ru;have hh:=I.ok.hd hc;obtain⟨its,rv,p,hz⟩:=I.list hq;have hlt:a<s.heap.objs.size:=by obtain⟨_,e,_⟩:=p.isList;exact Heap.lt_size e
 have hl:=rv.length;rw[Qe,Qk] at hl;refine call_max_walk (wpAny_pyIter_list p.isList ?_)
 refine⟨s.heap.objs.size,_,_,_,_,_,fun i j=>decide ((m::ns).getD i 0 > (m::ns).getD j 0),rfl,Walks.list (A:=X.A.in1) hh s.heap.objs.size a (Qs hlt) its.toArray,⟨⟨_,Heap.get?_push_size _ rfl,rfl,rfl⟩,p.isList.push _⟩,fun b hb=>?_,by rw[Qj];omega,CmpOf.ints_gt _ fun i v hv=>zAS rv (by simpa using hv),fun v h' tk hv hk=>?_⟩
 ·show b<(s.heap.push _).objs.size
  rw[Heap.size_push];rcases Qd.mp hb with rfl | hb
  ·exact Vn _
  ·rcases Qd.mp hb with rfl | hb
   ·exact Xv hlt
   ·cases hb
 ·obtain⟨t,rfl⟩:=zAS rv (i:=argBest (fun i j=>decide ((m::ns).getD i 0 > (m::ns).getD j 0)) (its.toArray.size-1)) (by simpa using hv)
  refine⟨.int (zAZ m ns),H,I.kept (t':=tk) fun b o e=>hk b o (fun z=>?_) (Heap.get?_push_of_some _ e),⟨t,?_⟩,q⟩
  ·have z':b=s.heap.objs.size:=by simpa using z
   have l:=Heap.lt_size e;rw[z'] at l;exact Xg _ l
  ·rw[Qj,<-hl,Ws,zDF]
def zIX:zBa X (zPH X.K) zBP:=⟨fun a c z=>(by
  unfold zBP at z;split at z
  ·split at z<;>cases z
  ·cases z),fun Hi H vs ds d Q s r z q=>by
  unfold zBP at z;split at z
  ·split at z
   ·rename_i m ns hns
    cases z;obtain⟨v,rfl,h⟩:=r.one;obtain⟨a,xs,rfl,h1,h2⟩:=h.lstI;have e:=oA h2 hns;subst e;exact⟨a,m,ns,rfl,cJ s h1,q _ Hi H (Ext.refl s) (.int _)⟩
   ·cases z
  ·cases z⟩
end
end L3
namespace L2
open PySem PySem.Spec PyProof.Rows
abbrev KT(H:Hp):List (List Key×V)->List (List Key×Jc×Ja)->Prop:=Paired fun p q=>p.1=q.1/\H q.2.1=some (.tup (p.1.map kV))/\cX p.2 q.2.2
end L2
namespace L3
open PySem PySem.Spec PyProof.Rows L2
unseal PEd PEf PTd PWd PAd PSd eH POd PGd iO PId PSx mC PTs PCd PCf
end L3
namespace L3
open PySem PySem.Spec PyProof.Rows L2
def itN(k:Bool):String:=if k then "list_iterator" else "tuple_iterator"
def yW(k:Bool)(h:Je)(it l:Jc)(i:Nat):Prop:=if k then h.IsListIter it l i else h.IsTupleIter it l i
def mE(k:Bool)(h:Je)(l:Jc)(xs:Array Ja):Prop:=if k then h.IsList l xs else h.IsTuple l xs
def yW.get{k:Bool}{h:Je}{it l:Jc}{i:Nat}(x:yW k h it l i):∃ o,h.get? it=some o/\o.cls=.type (itN k)/\o.data=.fields #[.ref l,.int i 0]:=by
 cases k<;>(obtain⟨o,a,b,c⟩:=x;exact⟨o,a,b,c⟩)
def yW.mk{k:Bool}{h:Je}{it l:Jc}{i:Nat}{o:Obj}(a:h.get? it=some o)(b:o.cls=.type (itN k))(c:o.data=.fields #[.ref l,.int i 0]):yW k h it l i:=by
 cases k<;>exact⟨o,a,b,c⟩
def yW.go{k:Bool}{h h':Je}{it l:Jc}{i:Nat}(x:yW k h it l i)(g:∀ o,h.get? it=some o->h'.get? it=some o):yW k h' it l i:=by
 obtain⟨o,a,b,c⟩:=x.get;exact .mk (g o a) b c
def mE.go{k:Bool}{h h':Je}{l:Jc}{xs:Array Ja}(x:mE k h l xs)(g:∀ o,h.get? l=some o->h'.get? l=some o):mE k h' l xs:=by
 cases k<;>(obtain⟨o,a,b⟩:=x;exact⟨o,g o a,b⟩)
section
variable{prog:Jf}{w:Jg}{A:Jh}{E:Ja->Jb->Prop}{s:Jb}
def vD{k:Bool}{l:Jc}{xs:Array Ja}{Q:Ja->Jb->Prop}(hl:mE k s.heap l xs)(hQ:Q (.ref s.heap.objs.size) { s with heap:=s.heap.push { cls:=.type (itN k),data:=.fields #[.ref l,.int 0 0] } }):
  wpAny (model prog w) A (pyIter (.ref l)) Q E s:=by
 cases k
 ·exact wpAny_pyIter_tuple hl hQ
 ·exact wpAny_pyIter_list hl hQ
def nxT{it t:Jc}{i:Nat}{items:Array Ja}{Q:Ja->Jb->Prop}(hh:A.handled=none∨(items[i]?).isSome=true)(x:s.heap.IsTupleIter it t i)(y:s.heap.IsTuple t items)
  (go:∀ v,items[i]?=some v->∀ h2,h2.IsTupleIter it t (i+1)->Heap.SameBut it s.heap h2->Q v { s with heap:=h2 })
  (stop:items[i]?=none->∀ h2 e,Heap.ExtBut it s.heap h2->(∃ ob,h2.get? e=some ob/\ob.cls=.type "StopIteration")->E (.ref e) { s with heap:=h2 }):wpAny (model prog w) A (Builtin.SmallTypes.nextOf (.ref it)) Q E s:=by
 obtain⟨oi,ei,ci,di⟩:=id x;obtain⟨ot,et,_,nt,dt⟩:=y;have nn:¬ ((Value.ref t==Value.none)=true):=X8;unfold Builtin.SmallTypes.nextOf;refine Jr (wpAny_callSpecial?_slot (name:=Str.ofString "__next__") x.typeIs F.slot_tuple_iterator_next (wpAny_call_entry F.slot_tuple_iterator_next x.typeIs F.entry_tuple_iterator_next (show wpAny _ _ (field _ 0 >>= _) _ _ s from Jr (wpAny_field ei di (x:=.ref t) rfl ?_)) (F.args_tuple_iterator_next_1 _)))
 show wpAny _ _ (ite ((Value.ref t==Value.none)=true) _ _) _ _ s
 rw[Jl nn];refine show wpAny _ _ (field _ 1 >>= _) _ _ s from Jr (wpAny_field ei di (x:=.int i 0) rfl (show wpAny _ _ (seqItems? _ >>= _) _ _ s from Jr (wpAny_seqItems et dt ?_)))
 have fr:∀ g:Array Ja->Array Ja,Heap.get? (s.heap.update it (Obj.mapFields g)) it=some (Obj.mapFields g oi):=fun g=>Heap.get?_update_self _ ei (Obj.isFreed_of_fields (Obj.data_mapFields di g))
 cases q:items[i]? with
 | some v=>
  simp only[Vd,q];refine Jr (wpAny_setField ei di (by simp) (Ju ⟨v,rfl,Ju (go v q _ ⟨_,fr _,(Obj.cls_mapFields ..).trans ci,?_⟩ (Heap.SameBut.update ..))⟩))
  rw[Obj.data_mapFields di];simp[rawInt]
 | none=>
  have hh:A.handled=none:=hh.elim id fun z=>by rw[q] at z;cases z
  simp only[Vd,q];refine Jr (wpAny_rule (Jr (wpAny_setField ei di (by simp) (show wpAny _ _ (newExc _ [] >>= _) _ _ _ from Jr ?_))))
  simp only[newExc,newTuple];refine Jr (wpAny_newObj_type (Jr (m:=firstArgMember _ _) (wpAny_of_eq (a:=Value.none) (by first | rfl | (simp only[firstArgMember];rfl)) (wpAny_newObj_type ?_ (by size_fits)))) (by size_fits))
  simp only[raiseNew];refine Jr (wpAny_handled ?_)
  rw[show A.in1.handled=none from hh];exact Jr (Ju (wpAny_throw (stop q _ _ (((Heap.SameBut.update ..).extBut.push _).push _) ⟨_,Heap.get?_push_size _ rfl,rfl⟩)))
def vH{k:Bool}{it t:Jc}{i:Nat}{items:Array Ja}{x:Ja}{Q:Ja->Jb->Prop}(hit:yW k s.heap it t i)(ht:mE k s.heap t items)(hx:items[i]?=some x)
  (hQ:∀ h',yW k h' it t (i+1)->Heap.SameBut it s.heap h'->Q x { s with heap:=h' }):wpAny (model prog w) A (Builtin.SmallTypes.nextOf (.ref it)) Q E s:=by
 cases k
 ·exact nxT (.inr (by rw[hx];rfl)) hit ht (fun v q h2 g1 g2=>by rw[hx] at q;cases q;exact hQ h2 g1 g2) fun q=>by rw[hx] at q;cases q
 ·exact wpAny_nextOf_list_item hit ht hx hQ
def zCi{k:Bool}{it t:Jc}{i:Nat}{items:Array Ja}{Q:Ja->Jb->Prop}(hh:A.handled=none)(hit:yW k s.heap it t i)(ht:mE k s.heap t items)(hx:items[i]?=none)
  (hE:∀ h' e,Heap.ExtBut it s.heap h'->(∃ o,h'.get? e=some o/\o.cls=.type "StopIteration")->E (.ref e) { s with heap:=h' }):wpAny (model prog w) A (Builtin.SmallTypes.nextOf (.ref it)) Q E s:=by
 cases k
 ·exact nxT (.inl hh) hit ht (fun v q=>by rw[hx] at q;cases q) fun _=>hE
 ·exact wpAny_nextOf_list_end hh hit ht hx hE
def zN(f0:Ja)(k1 k2:Bool)(l1 l2 n:Jc)(j1 j2:Nat)(h:Je):Prop:=
 IsZip h (n+4) (n+2) (n+3) f0/\IsPair h (n+2) (.ref n) (.ref (n+1))/\(∃ a b,IsPair h (n+3) a b)/\yW k1 h n l1 j1/\yW k2 h (n+1) l2 j2
def oY(n:Jc)(h h2:Je):Prop:=∀ c o,c≠n+4->c≠n+3->c≠n->c≠n+1->h.get? c=some o->h2.get? c=some o
def oY.then{n:Jc}{h h1 h2:Je}(a:oY n h h1)(b:oY n h1 h2):oY n h h2:=fun c o c1 c2 c3 c4 e=>b c o c1 c2 c3 c4 (a c o c1 c2 c3 c4 e)
def oY.eb{n a:Jc}{h h2:Je}(k:Heap.ExtBut a h h2)(m:a=n+4∨a=n+3∨a=n∨a=n+1):oY n h h2:=fun c o c1 c2 c3 c4 e=>k c o (fun z=>by subst z;rcases m with m | m | m | m<;>contradiction) e
def oY.sq{k:Bool}{n l:Jc}{h h2:Je}{xs:Array Ja}(a:oY n h h2)(hl:l<n)(x:mE k h l xs):mE k h2 l xs:=
 x.go fun o e=>a l o (Qs (Ud 4 hl)) (Qs (Ud 3 hl)) (Qs hl) (Qs (Xv hl)) e
def zKN(n:Jc):n+3≠n+4/\n+2≠n+4/\n≠n+4/\n+1≠n+4/\n+2≠n+3/\n≠n+3/\n+1≠n+3/\n+2≠n/\n+1≠n/\n+2≠n+1:=by
 refine⟨?_,?_,?_,?_,?_,?_,?_,?_,?_,?_⟩<;>(intro z;have z':(_:Nat)=_:=z;omega)
def zN.fld{f0:Ja}{k1 k2:Bool}{l1 l2 n:Jc}{j1 j2:Nat}{h h2:Je}(g:zN f0 k1 k2 l1 l2 n j1 j2 h){f1:Ja}(z:IsZip h2 (n+4) (n+2) (n+3) f1)(s:Heap.ExtBut (n+4) h h2):zN f1 k1 k2 l1 l2 n j1 j2 h2:=by
 obtain⟨_,g2,⟨a,b,g3⟩,g4,g5⟩:=g;obtain⟨e1,e2,e3,e4,_⟩:=zKN n;exact⟨z,s _ _ e2 g2,⟨a,b,s _ _ e1 g3⟩,g4.go fun o e=>s _ o e3 e,g5.go fun o e=>s _ o e4 e⟩
def zN.it1{f0:Ja}{k1 k2:Bool}{l1 l2 n:Jc}{j1 j2 m:Nat}{h h2:Je}(g:zN f0 k1 k2 l1 l2 n j1 j2 h)(z:yW k1 h2 n l1 m)(s:Heap.ExtBut n h h2):zN f0 k1 k2 l1 l2 n m j2 h2:=by
 obtain⟨g1,g2,⟨a,b,g3⟩,_,g5⟩:=g;obtain⟨e1,e2,e3,e4,e5,e6,e7,e8,e9,_⟩:=zKN n;exact⟨s _ _ e3.symm g1,s _ _ e8 g2,⟨a,b,s _ _ e6.symm g3⟩,z,g5.go fun o e=>s _ o e9 e⟩
def zN.it2{f0:Ja}{k1 k2:Bool}{l1 l2 n:Jc}{j1 j2 m:Nat}{h h2:Je}(g:zN f0 k1 k2 l1 l2 n j1 j2 h)(z:yW k2 h2 (n+1) l2 m)(s:Heap.ExtBut (n+1) h h2):zN f0 k1 k2 l1 l2 n j1 m h2:=by
 obtain⟨g1,g2,⟨a,b,g3⟩,g4,_⟩:=g;obtain⟨e1,e2,e3,e4,e5,e6,e7,e8,e9,e10⟩:=zKN n;exact⟨s _ _ e4.symm g1,s _ _ e10 g2,⟨a,b,s _ _ e7.symm g3⟩,g4.go fun o e=>s _ o e9.symm e,z⟩
def zN.out{f0 a b:Ja}{k1 k2:Bool}{l1 l2 n:Jc}{j1 j2:Nat}{h h2:Je}(g:zN f0 k1 k2 l1 l2 n j1 j2 h)(z:IsPair h2 (n+3) a b)(s:Heap.ExtBut (n+3) h h2):zN f0 k1 k2 l1 l2 n j1 j2 h2:=by
 obtain⟨g1,g2,_,g4,g5⟩:=g;obtain⟨e1,e2,e3,e4,e5,e6,e7,_⟩:=zKN n;exact⟨s _ _ e1.symm g1,s _ _ e5 g2,⟨a,b,z⟩,g4.go fun o e=>s _ o e6 e,g5.go fun o e=>s _ o e7 e⟩
def zTS{k1 k2:Bool}{n l1 l2:Jc}{j:Nat}{xs ys:Array Ja}{Q:PySem.Fin->Jb->Prop}(hh:A.handled=none)(b1:l1<n)(b2:l2<n)(g:zN .none k1 k2 l1 l2 n j j s.heap)(d1:mE k1 s.heap l1 xs)(d2:mE k2 s.heap l2 ys)
  (go:∀ x y,xs[j]?=some x->ys[j]?=some y->∀ h2,zN (rawInt s.heap.objs.size) k1 k2 l1 l2 n (j+1) (j+1) h2->IsPair h2 s.heap.objs.size x y->oY n s.heap h2->Q (.done (.ret (.ref s.heap.objs.size))) { s with heap:=h2 })
  (stop:xs[j]?=none∨ys[j]?=none->∀ h2 e,oY n s.heap h2->(∃ o,h2.get? e=some o/\o.cls=.type "StopIteration")->E (.ref e) { s with heap:=h2 }):
  wpAny (model prog w) A (Builtin.«zip.__next__» ⟨[.ref (n+4)],[]⟩) Q E s:=by
 have stopZ:∀ {h1:Je} {e:Jc} {v:Ja} {k:Nat} {R:Unit->Jb->Prop},(xs[j]?=none∨ys[j]?=none)->oY n s.heap h1->IsZip h1 (n+4) (n+2) (n+3) .ellipsis->(∃ o,h1.get? e=some o/\o.cls=.type "StopIteration")->k<5->
   (∀ h3,oY n s.heap h3->(∃ o,h3.get? e=some o/\o.cls=.type "StopIteration")->R () { s with heap:=h3 })->wpAny (model prog w) A (setField (.ref (n+4)) k v) R E { s with heap:=h1 }:=by
  intro h1 e v k R q kz z he hk fin;obtain⟨oe,e1,e2⟩:=he;have nz:e≠n+4:=fun y=>by subst y;rw[z] at e1;cases e1;simp at e2
  exact wpAny_setField_rec z (by simpa using hk) fun h3 _ s3=>fin h3 (kz.then (.eb s3.extBut (.inl rfl))) ⟨oe,s3.extBut _ _ nz e1,e2⟩
 obtain⟨z0,t0,⟨a,b,p0⟩,_⟩:=id g;refine show wpAny _ _ (field _ 2 >>= _) _ _ s from Jr (wpAny_field z0 rfl (x:=.bool false) rfl (show wpAny _ _ (field _ 3 >>= _) _ _ s from Jr (wpAny_field z0 rfl (x:=.ref (n+2)) rfl (Jr (wpAny_seqItems t0 rfl (Jr ?_))))))
 unfold Builtin.SmallTypes.ownedTupleIsFree;refine Jr (wpAny_field z0 rfl (x:=.none) rfl (Ju ?_))
 simp only[if_true];refine Jr (wpAny_rule (Jr (wpAny_field z0 rfl (x:=.ref (n+3)) rfl (Jr (wpAny_setField_rec z0 (by simp) fun h1 z1 s1=>Jr ?_)))))
 have g1:zN .ellipsis k1 k2 l1 l2 n j j h1:=g.fld z1 s1.extBut;have k1':oY n s.heap h1:=.eb s1.extBut (.inl rfl);simp only[List.zipIdx_cons,List.zipIdx_nil,Wp,List.forIn_nil];refine Jr (Jr (wpAny_onRaise (show wpAny _ _ (Builtin.SmallTypes.nextOf _ >>= _) _ _ _ from Jr ?_)))
 cases q1:xs[j]? with
 | none=>
  refine zCi (s:={ s with heap:=h1 }) hh g1.2.2.2.1 (k1'.sq b1 d1) q1 fun h2 e x2 he=>stopZ (.inl q1) (k1'.then (.eb x2 (.inr (.inr (.inl rfl))))) (x2 _ _ (zKN n).2.2.1.symm g1.1) he (by decide) fun h3=>stop (.inl q1) h3 e
 | some x=>
  refine vH (s:={ s with heap:=h1 }) g1.2.2.2.1 (k1'.sq b1 d1) q1 fun h2 i2 s2=>Ju ?_
  have g2:=g1.it1 i2 s2.extBut;have k2':=k1'.then (.eb s2.extBut (.inr (.inr (.inl rfl))));have p2:IsPair h2 (n+3) a b:=s2.extBut _ _ (zKN n).2.2.2.2.2.1.symm (s1.extBut _ _ (zKN n).1 p0);refine Jr (wpAny_seqItems (s:={ s with heap:=h2 }) p2 rfl (Jr (wpAny_updateSeq_pair p2 fun h3 p3 s3=>Jr (wpAny_letGo (Ju ?_)))))
  have g3:=g2.out p3 s3.extBut;have k3':=k2'.then (.eb s3.extBut (.inr (.inl rfl)));refine Jr (Jr (wpAny_onRaise (show wpAny _ _ (Builtin.SmallTypes.nextOf _ >>= _) _ _ _ from Jr ?_)))
  cases q2:ys[j]? with
  | none=>
   refine zCi (s:={ s with heap:=h3 }) hh g3.2.2.2.2 (k3'.sq b2 d2) q2 fun h4 e x4 he=>stopZ (.inr q2) (k3'.then (.eb x4 (.inr (.inr (.inr rfl))))) (x4 _ _ (zKN n).2.2.2.1.symm g3.1) he (by decide) fun h5=>stop (.inr q2) h5 e
  | some y=>
   refine vH (s:={ s with heap:=h3 }) g3.2.2.2.2 (k3'.sq b2 d2) q2 fun h4 i4 s4=>Ju ?_
   have g4:=g3.it2 i4 s4.extBut;have p4:IsPair h4 (n+3) x b:=s4.extBut _ _ (zKN n).2.2.2.2.2.2.1.symm p3;refine Jr (wpAny_seqItems (s:={ s with heap:=h4 }) p4 rfl (Jr (wpAny_updateSeq_pair p4 fun h5 p5 s5=>Jr (wpAny_letGo (Ju (Ju ?_))))))
   have p5:IsPair h5 (n+3) x y:=p5;have g5:=g4.out p5 s5.extBut;have k5':=(k3'.then (.eb s4.extBut (.inr (.inr (.inr rfl))))).then (.eb s5.extBut (.inr (.inl rfl)));have sz:h5.objs.size=s.heap.objs.size:=s5.1.trans (s4.1.trans (s3.1.trans (s2.1.trans s1.1)));refine Jr (wpAny_seqItems (s:={ s with heap:=h5 }) p5 rfl (Jr (wpAny_newTuple (show wpAny _ _ (Builtin.SmallTypes.ownedTupleHandOut _ (.ref h5.objs.size) >>= _) _ _ _ from Jr ?_))))
   unfold Builtin.SmallTypes.ownedTupleHandOut;refine Jr (wpAny_setField_rec (Heap.get?_push_of_some _ g5.1) (by simp) fun h7 z7 s7=>wpAny_setField_rec z7 (by simp) fun h8 z8 s8=>Ju ?_)
   have nz:h5.objs.size≠n+4:=Yp (Heap.lt_size g5.1);have x8:Heap.ExtBut (n+4) h5 h8:=fun c o c1 e=>s8.extBut _ _ c1 (s7.extBut _ _ c1 (Heap.get?_push_of_some _ e))
   have g8:zN (rawInt h5.objs.size) k1 k2 l1 l2 n (j+1) (j+1) h8:=g5.fld z8 x8;have t8:IsPair h8 h5.objs.size x y:=s8.extBut _ _ nz (s7.extBut _ _ nz (Heap.get?_push_size _ rfl));rw[sz] at g8 t8;show Q (.done (.ret (.ref h5.objs.size))) _
   rw[sz];exact go x y q1 q2 h8 g8 t8 (k5'.then (.eb x8 (.inl rfl)))
def zTb{k1 k2:Bool}{n l1 l2:Jc}{j:Nat}{xs ys:Array Ja}{Q:Option Ja->Jb->Prop}(hh:A.handled=none)(b1:l1<n)(b2:l2<n)(g:zN .none k1 k2 l1 l2 n j j s.heap)(d1:mE k1 s.heap l1 xs)(d2:mE k2 s.heap l2 ys)
  (go:∀ x y,xs[j]?=some x->ys[j]?=some y->∀ h2,zN (rawInt s.heap.objs.size) k1 k2 l1 l2 n (j+1) (j+1) h2->IsPair h2 s.heap.objs.size x y->oY n s.heap h2->Q (some (.ref s.heap.objs.size)) { s with heap:=h2 })
  (stop:xs[j]?=none∨ys[j]?=none->∀ h2,oY n s.heap h2->Q none { s with heap:=h2 }):wpAny (model prog w) A (pyNext (.ref (n+4))) Q E s:=by
 have ty:s.TypeIs (.ref (n+4)) "zip" := ⟨_,g.1,rfl⟩;unfold pyNext
 refine Jr (wpAny_attempt (wpAny_callSpecial?_slot (name:=Str.ofString "__next__") ty F.slot_zip_next (wpAny_call_entry F.slot_zip_next ty F.entry_zip_next
  (zTS hh b1 b2 g d1 d2 (fun x y q1 q2 h2 a1 a2 a3=>⟨_,rfl,Ju (go x y q1 q2 h2 a1 a2 a3)⟩) fun q h2 e k he=>?_) (F.args_zip_next_1 _))))
 obtain⟨o,eo,co⟩:=he;exact Jr (wpAny_isInstance (T := "StopIteration") (b:=true) ⟨o,eo,co⟩ isSubtype_stop (Ju (stop q h2 k)))
end
abbrev zO(k:Bool)(l:Jc):Obj:={ cls:=.type (itN k),data:=.fields #[.ref l,.int 0 0] }
abbrev zH2(k1 k2:Bool)(h:Je)(l1 l2:Jc):Je:=(h.push (zO k1 l1)).push (zO k2 l2)
abbrev zH3(k1 k2:Bool)(h:Je)(l1 l2:Jc):Je:=(zH2 k1 k2 h l1 l2).push { cls:=.type "tuple", data:=.seq #[.ref h.objs.size,.ref (h.push (zO k1 l1)).objs.size] }
abbrev zH4(k1 k2:Bool)(h:Je)(l1 l2:Jc):Je:=(zH3 k1 k2 h l1 l2).push { cls:=.type "tuple", data:=.seq #[.none,.none] }
abbrev zH5(k1 k2:Bool)(h:Je)(l1 l2:Jc):Je:=(zH4 k1 k2 h l1 l2).push { cls:=.type "zip", data:=.fields #[.none,.bool false,.bool false,.ref (zH2 k1 k2 h l1 l2).objs.size,.ref (zH3 k1 k2 h l1 l2).objs.size] }
def zLt(k1 k2:Bool)(l1 l2:Jc)(xs ys:Array Ja):Meets (Builtin.«zip.__new__» ⟨[.type "zip", .ref l1,.ref l2],[]⟩) (fun _ R s=>mE k1 s.heap l1 xs/\mE k2 s.heap l2 ys/\
  R (.ok (.ret (.ref (zH4 k1 k2 s.heap l1 l2).objs.size))) { s with heap:=zH5 k1 k2 s.heap l1 l2 }):=
 .of_wp fun prog w A R s h=>by
  obtain⟨hp,g,d,tk,os⟩:=s;obtain⟨hl1,hl2,h⟩:=h;have hsub:=sub_zip;have d1:mE k1 (Shared.heap ⟨hp,g,d,tk,os⟩) l1 xs:=hl1;have d2:mE k2 (Shared.heap ⟨hp.push { cls:=.type (itN k1),data:=.fields #[.ref l1,.int 0 0] },g,d,tk,os⟩) l2 ys:=hl2.go fun o e=>Heap.get?_push_of_some _ e
  wp_walk using vD d1,vD d2
  exact⟨_,rfl,h⟩
section
variable{prog:Jf}{w:Jg}{A:Jh}{E:Ja->Jb->Prop}{s:Jb}
def zLC{k1 k2:Bool}{l1 l2:Jc}{xs ys:Array Ja}{Q:Ja->Jb->Prop}(d1:mE k1 s.heap l1 xs)(d2:mE k2 s.heap l2 ys)
  (h:∀ h2,zN .none k1 k2 l1 l2 s.heap.objs.size 0 0 h2->(∀ c o,s.heap.get? c=some o->h2.get? c=some o)->Q (.ref (s.heap.objs.size+4)) { s with heap:=h2 }):wpAny (model prog w) A (call (.type "zip") [.ref l1,.ref l2]) Q E s:=by
 refine callType_new F.called_zip (by decide) (F.typeCall_zip_2 _ _) (F.newCall_zip_2 _ _) (fun obj=>F.args_object_init_3 obj _ _) F.entry_zip_new (zLt k1 k2 l1 l2 xs ys) ⟨d1,d2,?_⟩
 have up:∀ {h:Je} {a:Jc} {o ob:Obj},h.get? a=some o->(h.push ob).get? a=some o:=fun e=>Heap.get?_push_of_some _ e
 have m1:(s.heap.push (zO k1 l1)).objs.size=s.heap.objs.size+1:=Heap.size_push ..;have m2:(zH2 k1 k2 s.heap l1 l2).objs.size=s.heap.objs.size+2:=(Heap.size_push ..).trans (congrArg (·+1) m1);have m3:(zH3 k1 k2 s.heap l1 l2).objs.size=s.heap.objs.size+3:=(Heap.size_push ..).trans (congrArg (·+1) m2);have m4:(zH4 k1 k2 s.heap l1 l2).objs.size=s.heap.objs.size+4:=(Heap.size_push ..).trans (congrArg (·+1) m3);have r0:(zH5 k1 k2 s.heap l1 l2).get? s.heap.objs.size=some (zO k1 l1):=up (up (up (up (Heap.get?_push_size _ rfl))));have r1:(zH5 k1 k2 s.heap l1 l2).get? (s.heap.push (zO k1 l1)).objs.size=some (zO k2 l2):=up (up (up (Heap.get?_push_size _ rfl)));have r2:(zH5 k1 k2 s.heap l1 l2).get? (zH2 k1 k2 s.heap l1 l2).objs.size=some _:=up (up (Heap.get?_push_size _ rfl));have r3:(zH5 k1 k2 s.heap l1 l2).get? (zH3 k1 k2 s.heap l1 l2).objs.size=some _:=up (Heap.get?_push_size _ rfl);have r4:(zH5 k1 k2 s.heap l1 l2).get? (zH4 k1 k2 s.heap l1 l2).objs.size=some _:=Heap.get?_push_size _ rfl;rw[m1] at r1;rw[m1,m2] at r2;rw[m3] at r3;rw[m2,m3,m4] at r4;show _/\_
 rw[m4];exact⟨⟨_,r4,rfl⟩,h _ ⟨r4,r2,⟨_,_,r3⟩,.mk r0 rfl rfl,.mk r1 rfl rfl⟩ fun c o x=>up (up (up (up (up x))))⟩
end
section
variable{X:Cx}{Mh:List (Jc×Obj)}{a:St}{H:Hp}{s:Jb}{h':Je}{fp:List Jc}
def zIn{t':Nat}{p:Jc}{xs:List V}{us:List Ja}(I:Inv X Mh a H s)(hf:∀ b∈fp,tT X Mh H b)(k:∀ b o,b∉fp->s.heap.get? b=some o->h'.get? b=some o)
  (hp:s.heap.objs.size<=p) (ht:IsTup h' p us.toArray) (hv:dF xs us) (hz:xs.length<=sizeLine):Inv X Mh a (upd H p (.tup xs)) { s with heap:=h',toks:=t' }:=by
 have hn:H p=none:=I.hok.fresh hp;have nf:∀ b u,H b=some u->b∉fp:=fun b u e z=>by rw[(hf b z).1] at e;cases e
 have np:∀ b u,H b=some u->upd H p (.tup xs) b=some u:=fun b u e=>by rw[aV (aX e hn)];exact e
 refine I.step (g':=s.gens) (d':=s.drawn) (ch:=fp) (fun b hb=>⟨(hf b hb).2.2.2.1,(hf b hb).2.1,(hf b hb).2.2.2.2.1,(hf b hb).2.2.2.2.2⟩) (fun b o _ _ hc e _=>k b o hc e) (fun b o _ _ hc e _=>⟨o.slots,k b o hc e⟩) (fun b o _ e n=>?_)
  (fun b o hc e=>⟨o,k b o hc e⟩) (fun b xs e=>np _ _ e) (fun b o u e=>np _ _ e) (fun b ps e=>⟨#[],by rw[np _ _ e];simp⟩) (fun m hm=>?_) (fun b u e=>?_) I.bare
 ·rw[aV (Qs (Qu (Heap.lt_size e) hp))];exact n
 ·obtain⟨o,es,ep,ho,r⟩:=hm
  exact⟨o,es,ep,k _ o (fun z=>(hf _ z).2.1 rfl) ho,r⟩
 ·by_cases hb:b=p
  ·subst hb
   rw[aS] at e;cases e
   exact⟨hz,us,hv,ht⟩
  ·rw[aV hb] at e
   refine(I.hok b u e).stay (fun c v hc q=>k c v ?_ q) (fun _ q=>np _ _ q) fun _ _ q=>np _ _ q
   rcases hc with z | z
   ·rw[z];exact nf b u e
   ·exact nf c _ z
def zIj{t':Nat}(I:Inv X Mh a H s)(hf:∀ b∈fp,tT X Mh H b)(k:∀ b o,b∉fp->s.heap.get? b=some o->h'.get? b=some o):Inv X Mh a H { s with heap:=h',toks:=t' }:=by
 have nf:∀ b u,H b=some u->b∉fp:=fun b u e z=>by rw[(hf b z).1] at e;cases e
 refine I.step (g':=s.gens) (d':=s.drawn) (ch:=fp) (fun b hb=>⟨(hf b hb).2.2.2.1,(hf b hb).2.1,(hf b hb).2.2.2.2.1,(hf b hb).2.2.2.2.2⟩) (fun b o _ _ hc e _=>k b o hc e) (fun b o _ _ hc e _=>⟨o.slots,k b o hc e⟩) (fun b o _ e n=>n)
  (fun b o hc e=>⟨o,k b o hc e⟩) (fun b xs e=>e) (fun b o u e=>e) (fun b ps e=>⟨#[],by rw[e];simp⟩) (fun m hm=>?_) (fun b u e=>?_) I.bare
 ·obtain⟨o,es,ep,ho,r⟩:=hm
  exact⟨o,es,ep,k _ o (fun z=>(hf _ z).2.1 rfl) ho,r⟩
 ·refine(I.hok b u e).stay (fun c v hc q=>k c v ?_ q) (fun _ q=>q) fun _ _ q=>q
  rcases hc with z | z
  ·rw[z];exact nf b u e
  ·exact nf c _ z
end
def SqK(k:Bool)(K:PySem.W.Frag)(H:Hp)(a:Jc)(xs:List V):Prop:=if k then SqL K H a xs else SqT K H a xs
def gZ{k:Bool}{K:Fg_}{H H':Hp}(e:Same H H'){a:Jc}{xs:List V}(h:SqK k K H a xs):SqK k K H' a xs:=by
 cases k
 ·exact bV e h
 ·exact cJ e h
section
variable{X:Cx}{Mh:List (Jc×Obj)}{r:St}{H:Hp}{s:Jb}{k:Bool}{a:Jc}{xs ys:List V}
def sqI(I:Inv X Mh r H s)(h:SqK k X.K H a xs):∃ its:List Ja,dF xs its/\mE k s.heap a its.toArray/\xs.length<=sizeLine:=by
 cases k
 ·obtain⟨its,rv,p,hz⟩:=I.tuple h
  exact⟨its,rv,p,hz⟩
 ·obtain⟨its,rv,p,hz⟩:=I.list h
  exact⟨its,rv,p.isList,hz⟩
def vB(I:Inv X Mh r H s)(h:SqK k X.K H a xs)(h':SqK k X.K H a ys):xs=ys:=by
 cases k
 ·exact I.tuple_inj h h'
 ·exact I.list_inj h h'
def mE.lt{h:Je}{l:Jc}{xs:Array Ja}(x:mE k h l xs):l<h.objs.size:=by
 cases k<;>(obtain⟨o,e,_⟩:=x;exact Heap.lt_size e)
end
def Itz(K:PySem.W.Frag)(k1 k2:Bool)(a1 a2:Jc):It:=
  ⟨fun i H=>∃ xs ys x y,SqK k1 K H a1 xs/\SqK k2 K H a2 ys/\xs[i]?=some x/\ys[i]?=some y,
   fun i H v H'=>∃ p x y,v=.ref p/\H p=none/\H'=upd H p (.tup [x,y])/\(∀ xs,SqK k1 K H a1 xs->xs[i]?=some x)/\∀ ys,SqK k2 K H a2 ys->ys[i]?=some y,
   fun i H=>∃ xs ys,SqK k1 K H a1 xs/\SqK k2 K H a2 ys/\(xs.length<=i∨ys.length<=i)⟩
def zUj(k1 k2:Bool)(a1 a2 n:Jc)(i:Nat)(h:Je):Prop:=zN .none k1 k2 a1 a2 n i i h
def jM{h:Je}{b:Jc}{o:Obj}{d:Data}(e:h.get? b=some o)(hd:o.data=d)(nd:∀ v,d≠.cell v):∃ o,h.get? b=some o/\∀ v,o.data≠.cell v:=⟨o,e,fun v z=>nd v (hd.symm.trans z)⟩
def zLL{P:Jf}{w:Jg}{K:Fg_}{elts:List Expr}{x1:Nat}{tp:Pos}(k1 k2:Bool)(a1 a2 n:Jc)(l1:a1<n)(l2:a2<n):
  Turn P w K (.Tuple elts x1 tp) (Itz K k1 k2 a1 a2) [n+4,n+2,n+3,n,n+1] (n+4) (zUj k1 k2 a1 a2 n) where
 mem:=by simp
 obj:=fun i h st b hb=>by
  obtain⟨t1,t2,⟨a,b',t3⟩,t4,t5⟩:=st;obtain⟨o4,e4,_,d4⟩:=t4.get;obtain⟨o5,e5,_,d5⟩:=t5.get;simp only[Qd,Xc,or_false] at hb;rcases hb with rfl | rfl | rfl | rfl | rfl
  ·exact jM t1 rfl fun v z=>by cases z
  ·exact jM t2 rfl fun v z=>by cases z
  ·exact jM t3 rfl fun v z=>by cases z
  ·exact jM e4 d4 fun v z=>by cases z
  ·exact jM e5 d5 fun v z=>by cases z
 keep:=fun i h h' st k=>by
  obtain⟨t1,t2,⟨a,b',t3⟩,t4,t5⟩:=st;exact⟨k _ (by simp) _ t1,k _ (by simp) _ t2,⟨a,b',k _ (by simp) _ t3⟩,t4.go fun o e=>k _ (by simp) o e,t5.go fun o e=>k _ (by simp) o e⟩
 item:=by
  intro X hP hw hK hc i Mh s r H E I hf st hg;subst hP hw hK;obtain⟨xs,ys,x,y,q1,q2,hx,hy⟩:=hg;obtain⟨us,r1,s1,z1⟩:=sqI I q1;obtain⟨ws,r2,s2,z2⟩:=sqI I q2;obtain⟨u,hu,ru⟩:=r1.get hx;obtain⟨v,hv,rv⟩:=r2.get hy;have hu':us.toArray[i]?=some u:=by simpa using hu
  have hv':ws.toArray[i]?=some v:=by simpa using hv
  have st':=st;obtain⟨t1,t2,⟨a,b,t3⟩,t4,t5⟩:=st;refine zTb (I.ok.hd hc) l1 l2 st' s1 s2 (fun x' y' f1 f2 h' g' p' kz=>?_) (fun q=>?_)
  rotate_left
  ·rw[hu',hv'] at q;rcases q with q | q<;>cases q
  rw[hu'] at f1;cases f1
  rw[hv'] at f2;cases f2
  refine⟨_,rfl,wpAny_letOwnedTupleGo_zip (s:={ s with heap:=h' }) g'.1 fun h'' c1 c2=>?_⟩
  have zl:s.heap.objs.size≠n+4:=Yp (Heap.lt_size t1);have np:H s.heap.objs.size=none:=I.hok.fresh (Qf _)
  have I1:Inv X Mh r (upd H s.heap.objs.size (.tup [x,y])) { s with heap:=h'',toks:=s.toks }:=zIn (us:=[u,v]) I hf (fun b o hb e=>by
    simp only[Qd,Xc,or_false,not_or] at hb
    exact c2.extBut b o hb.1 (kz b o hb.1 hb.2.2.1 hb.2.2.2.1 hb.2.2.2.2 e)) (Qf _) ⟨_,c2.extBut _ _ zl p',rfl,_,rfl⟩ (.cons ru (.cons rv .nil)) (show 2<=sizeLine by decide)
  refine⟨.ref s.heap.objs.size,_,I1,rfl,⟨_,x,y,rfl,np,rfl,fun zs hz=>by rw[vB I hz q1];exact hx,fun zs hz=>by rw[vB I hz q2];exact hy⟩,g'.fld c1 c2.extBut,fun b hb=>?_⟩
  ·obtain⟨o,e,_⟩:∃ o,s.heap.get? b=some o/\True:=by
    obtain⟨o4,e4,_⟩:=t4.get;obtain⟨o5,e5,_⟩:=t5.get;simp only[Qd,Xc,or_false] at hb;rcases hb with rfl | rfl | rfl | rfl | rfl
    ·exact⟨_,t1,trivial⟩
    ·exact⟨_,t2,trivial⟩
    ·exact⟨_,t3,trivial⟩
    ·exact⟨_,e4,trivial⟩
    ·exact⟨_,e5,trivial⟩
   rw[aV (Qs (Heap.lt_size e))];exact(hf b hb).1
 done:=by
  intro X hP hw hK hc i Mh s r H E I hf st hg;subst hP hw hK;obtain⟨xs,ys,q1,q2,hl⟩:=hg;obtain⟨us,r1,s1,z1⟩:=sqI I q1;obtain⟨ws,r2,s2,z2⟩:=sqI I q2;have st':=st;obtain⟨t1,t2,⟨a,b,t3⟩,t4,t5⟩:=st;have e1:=r1.length;have e2:=r2.length;refine zTb (I.ok.hd hc) l1 l2 st' s1 s2 (fun x y f1 f2=>?_) fun _ h' b7=>⟨rfl,zIj (t':=s.toks) I hf fun b o hb e=>?_⟩
  ·have m1:=(Ue.mp f1).1
   have m2:=(Ue.mp f2).1;rw[Qj] at m1 m2;omega
  ·simp only[Qd,Xc,or_false,not_or] at hb
   exact b7 b o hb.1 hb.2.2.1 hb.2.2.2.1 hb.2.2.2.2 e
 self:=fun _ _ _ _ _ st h=>Mb st.1 h
section
unseal PEd PEf PTd PWd PAd PSd eH POd PGd iO PId PSx mC PTs PCd PCf
variable{X:Cx}{G:Gx}{fs:Fv}{f:Ev}
def iZp(K:PySem.W.Frag)(ta:TA):TI:=fun c H R=>ta c H fun vs H1=>∃ k1 k2 a1 a2 xs ys,vs=[.ref a1,.ref a2]/\SqK k1 K H1 a1 xs/\SqK k2 K H1 a2 ys/\R (Itz K k1 k2 a1 a2) H1
def zQK{a b:Expr}{ta:TA}{p pos:Pos}{elts:List Expr}{x1:Nat}{tp:Pos}(hg:Gl X "zip")(hm:X.mg "zip" = none)(ha:PA X [a,b] ta)
  (hs:starEach [a,b] X.env=[(false,eval a X.env),(false,eval b X.env)]:=by rfl) (hs2:starEach [b] X.env=[(false,eval b X.env)]:=by rfl):PI X (.Tuple elts x1 tp) (.Call (.Name "zip" p) [a,b] [] pos) (iZp X.K ta):=by
 intro Mh s c H R I h;refine Call_ (qJ I hg hm boot_zip (X9 (thn (ha pos Mh s c H _ I h) fun us s1 ⟨vs,H1,I1,r1,q1⟩=>?_) (by rw[hs,hs2]) (by rw[hs2];rfl)))
 obtain⟨k1,k2,a1,a2,xs,ys,rfl,h1,h2,q⟩:=q1
 cases r1 with
 | cons r rr=>
  cases rr with
  | cons r' rr=>
   cases rr;cases r;cases r'
   obtain⟨us,rv,p1,z1⟩:=sqI I1 h1;obtain⟨ws,rw_,p2,z2⟩:=sqI I1 h2;refine zLC p1 p2 fun h' b1 b6=>Mb (s:={ s1 with heap:=h' }) b1.1 ?_
   refine⟨s1.heap.objs.size+4,_,_,_,H1,rfl,I1.kept (t':=s1.toks) b6,zLL k1 k2 a1 a2 s1.heap.objs.size p1.lt p2.lt,b1,fun b hb=>?_,q⟩
   have hb':s1.heap.objs.size<=b:=by
    simp only[Qd,Xc,or_false] at hb;rcases hb with rfl | rfl | rfl | rfl | rfl<;>omega
   exact I1.fpOk hb' (I1.hok.fresh hb')
def zCm:∀(xs ys:List D)(i:Nat)(d:D),(kU xs ys)[i]?=some d->∃ a b,xs[i]?=some a/\ys[i]?=some b/\d=.tup [a,b]
 | a::r,b::q,0,d,h=>by cases h;exact⟨a,b,rfl,rfl,rfl⟩
 | a::r,b::q,i+1,d,h=>zCm r q i d h
 | [],_,i,d,h=>by cases i<;>cases h
 | a::r,[],i,d,h=>by cases i<;>cases h
def zCO:∀(xs ys:List D),(kU xs ys).length=min xs.length ys.length
 | a::r,b::q=>by
  have:=zCO r q
  simp only[kU,Qk,this];omega
 | [],_=>by simp[kU]
 | a::r,[]=>by simp[kU]
def zJk{K:Fg_}{Hi:Hp}{k1 k2:Bool}{a1 a2:Jc}{xs ys:List V}{ds es:List D}(h1:SqK k1 K Hi a1 xs)(h2:IsDs K Hi xs ds)(h3:SqK k2 K Hi a2 ys)(h4:IsDs K Hi ys es):
  vM K Hi (Itz K k1 k2 a1 a2) (kU ds es):=fun Hi1 H1 s1 s2 i=>by
 have g1:=gZ (s1.trans s2) h1;have g3:=gZ (s1.trans s2) h3;refine⟨fun hl=>⟨xs,ys,g1,g3,?_⟩,fun d hd=>?_⟩
 ·rw[zCO] at hl
  have e1:=h2.length;have e2:=h4.length;omega
 ·obtain⟨a,b,ha,hb,rfl⟩:=zCm ds es i d hd
  obtain⟨v,hv,rv⟩:=h2.at ha;obtain⟨w,hw,rw_⟩:=h4.at hb;refine⟨⟨xs,ys,v,w,g1,g3,hv,hw⟩,fun x H2 y=>?_⟩
  obtain⟨p,x',y',rfl,hp,rfl,y1,y2⟩:=y;have e1:=y1 xs g1;have e2:=y2 ys g3;rw[hv] at e1;cases e1
  rw[hw] at e2;cases e2
  have hi:=s2.none hp;have sm:=bY hi (.tup [v,w]);exact⟨upd Hi1 p (.tup [v,w]),Ext.new s2 hp,.tup (.inl (.inl aS)) (.cons ((rv.mono s1).mono sm) (.cons ((rw_.mono s1).mono sm) .nil))⟩
def zPF{K:Fg_}{H:Hp}{v:V}{d:D}{ds:List D}(h:IsD K H v d)(e:xG d=some ds):∃ k a xs,v=.ref a/\SqK k K H a xs/\IsDs K H xs ds:=by
 cases d with
 | lst es=>cases e;obtain⟨a,xs,rfl,h1,h2⟩:=h.lstI;exact⟨true,a,xs,rfl,h1,h2⟩
 | tup es=>cases e;obtain⟨a,xs,rfl,h1,h2⟩:=h.tupI;exact⟨false,a,xs,rfl,h1,h2⟩
 | _=>cases e
def zIL{a b:Expr}{p pos:Pos}{elts:List Expr}{x1:Nat}{tp:Pos}(hg:Gl X "zip")(hm:X.mg "zip" = none)(ha:PAd X G [a,b] fs)
  (hs:starEach [a,b] X.env=[(false,eval a X.env),(false,eval b X.env)]:=by rfl) (hs2:starEach [b] X.env=[(false,eval b X.env)]:=by rfl):
  PId X G (.Tuple elts x1 tp) (.Call (.Name "zip" p) [a,b] [] pos) (zMM fs):=PI.wk (zQK hg hm ha hs hs2) fun c H Q q=>by
 obtain⟨ρ,Hi,R,ou⟩:=q;refine zJI R ou fun vs ds Hi1 H1 e1 R1 r1 o1=>?_
 split at o1
 ·rename_i x y
  obtain⟨v,w,rfl,h,h'⟩:=r1.two;split at o1
  ·rename_i ds es q1 q2
   obtain⟨k1,a1,xs,rfl,g1,g2⟩:=zPF h q1;obtain⟨k2,a2,ys,rfl,g3,g4⟩:=zPF h' q2;exact⟨k1,k2,a1,a2,xs,ys,rfl,gZ R1.s g1,gZ R1.s g3,o1.here R1.s _ (zJk g1 g2 g3 g4)⟩
  ·exact o1.elim
 ·exact o1.elim
end
end L3
namespace L3
open PySem PySem.Spec PyProof.Rows L2
unseal PEd PEf PTd PWd PAd PSd eH POd PGd iO PId PSx mC PTs PCd PCf
structure BlkOk2 (X:Cx) (xs:List Str) (scope:Scope):Prop where
 kind:scope.kind=.function
 cell:∀ y∈scope.names,y.2≠.cell
 loc:∀ x∈xs,scope.names.lookup x=some .local
 names:∀ y∈scope.names,y.2=.local->scope.names.lookup y.1=some .local
 fre:∀ p∈scope.names,p.2=.free->X.env.kindOf p.1=some .cell∨X.env.kindOf p.1=some .free
 oth:∀ y∈X.N,scope.names.lookup y≠some .local
def zDD(X:Cx)(xs:List Str)(scope:Scope)(C:Jc)(s₂:Jb)(H₂:Hp)(fp:List Jc):Cx:=
  { prog:=X.prog,w:=X.w,K:=X.K,mg:=X.mg,base:=X.base,A:=X.A,N:=X.N++xs,s₀:=s₂,H₀:=H₂,env:=compEnvC scope (zEU X.env scope.names []) C X.env,outer:=X.stack,stack:=X.stack,
    ex:=fp,fn:=fun _=>false,calm:=X.calm,pn:=X.pn,xe:=fun _ _=>False }
section
variable{X:Cx}{Mh:List (Jc×Obj)}{r:St}{H:Hp}{s₂:Jb}{xs:List Str}{scope:Scope}{fp:List Jc}{D C:Jc}{h₁:Je}
def BlkOk2.cl(B:BlkOk2 X xs scope)(I:Inv X Mh r H s₂):∀ p∈scope.names,p.2=.free->∃ c,X.env.cells.lookup p.1=some c:=fun p hp e=>I.ok.has p.1 (B.fre p hp e)
def zRC(I:Inv X Mh r H s₂)(B:BlkOk2 X xs scope)(hfp:∀ b∈fp,tT X Mh H b)(hfl:∀ b∈fp,b<s₂.heap.objs.size)(hD:s₂.heap.objs.size<=D)(hC:s₂.heap.objs.size<=C)(hDC:D≠C)
  (old:∀ b o,s₂.heap.get? b=some o->h₁.get? b=some o) {n:Nat} (hacc:h₁.get? D=some { cls:=.type "list", data:=.seq ([]:List Ja).toArray n }) {m:Str->Option Ja} (hns:h₁.Ns C m) (t:Nat):
  Inv (zDD X xs scope C s₂ H fp) Mh (r++xs.map fun _=>none) (upd H D (.lst [])) { s₂ with heap:=h₁,toks:=t }:=by
 have sub:=vU scope.names [] (B.cl I) (fun y c e=>nomatch e)
 have old_lt:∀ {b:Jc} {o:Obj},s₂.heap.get? b=some o->b≠D/\b≠C:=fun e=>⟨Qs (Qu (Heap.lt_size e) hD),Qs (Qu (Heap.lt_size e) hC)⟩
 have free:∀ {b:Jc},b≠D->H b=none->upd H D (.lst []) b=none:=fun n e=>by rw[aV n];exact e
 refine⟨⟨I.ok.mod,B.kind,I.ok.glob,I.ok.blt,hC,fun y z c e1 e2=>I.ok.inj y z c (sub y c e1) (sub z c e2),fun y hy=>?_,fun y c e=>(nomatch e),I.ok.hd,I.ok.frames,.inl rfl,fun b hb=>⟨Qs (Qu (hfl b hb) hC),fun y c e=>(hfp b hb).2.2.2.2.1 y c (sub y c e)⟩,
  I.bs,Q4 I.ok.bsz I.sz,fun b o e hb=>?_,fun b hb z=>?_,I.stack,I.stkFree⟩,rfl,I.bare,Un.laid old hD (I.hok.fresh hD),⟨m,hns,fun i y v e1 e2 e3=>?_⟩,fun y c e=>?_,free (Ne.symm hDC) (I.hok.fresh hC),fun y c e=>?_,fun p hp=>?_,I.hok.laid old hD ⟨Vi _,[],n,.nil,hacc⟩,?_⟩
 ·have:∃ k,(k=NameKind.cell∨k=NameKind.free)/\((relabel scope X.env).names).lookup y=some k:=hy.elim (fun h=>⟨_,.inl rfl,h⟩) fun h=>⟨_,.inr rfl,h⟩
  obtain⟨k,hk,e⟩:=this
  have e':(y,NameKind.free)∈scope.names:=by
   rcases cC e with z | ⟨_,z⟩
   ·rcases hk with rfl | rfl
    ·exact absurd rfl (B.cell _ (bR z))
    ·exact bR z
   ·exact bR z
  exact uL scope.names [] y e'
 ·rcases (hfp b hb).2.2.2.1 with z | z
  ·exact I.ok.noex b o e z
  ·exact absurd (Qu (Heap.lt_size e) (Q4 I.ok.bsz z)) (Xg _)
 ·rcases Qd.mp (I.stkSub b z) with w | w
  ·exact(hfp b hb).2.1 w
  ·exact(hfp b hb).2.2.1 w
 ·
  have hi:i<r.length:=by
   by_cases hi:i<r.length
   ·exact hi
   ·exfalso
    rw[Vp (by omega),Qt] at e2
    cases q:xs[i-r.length]? with
    | none=>rw[q] at e2;cases e2
    | some z=>rw[q] at e2;cases e2
  rw[Vg hi] at e2;have e1':(X.N++xs)[i]?=some y:=e1;rw[Vg (by rw[<-I.len];exact hi)] at e1'
  cases q:X.N[i]? with
  | none=>rw[q] at e1';cases e1'
  | some z=>
   rw[q] at e1';have hy:z=y:=Ve e1';have hz:z∈X.N:=Qi q;subst hy
   have fr:(z,NameKind.free)∈scope.names:=by
    rcases e3 with h | h | h
    ·rcases cC h with h | ⟨h,_⟩
     ·exact absurd h (B.oth z hz)
     ·cases h
    ·rcases cC h with h | ⟨_,h⟩
     ·exact absurd rfl (B.cell _ (bR h))
     ·exact bR h
    ·rcases cC h with h | ⟨h,_⟩
     ·exact bR h
     ·cases h
   have kd:=B.fre _ fr rfl;obtain⟨m0,hn0,hl⟩:=I.loc;obtain⟨u,ru,lk⟩:=hl i z v q e2 (kd.elim (fun h=>.inr (.inl h)) fun h=>.inr (.inr h))
   refine⟨u,ru,.inr ⟨?_,?_⟩⟩
   ·rcases e3 with h | h | h
    ·rcases cC h with h | ⟨h,_⟩
     ·exact absurd h (B.oth z hz)
     ·cases h
    ·exact .inl h
    ·exact .inr h
   ·rcases lk with⟨k1,_⟩ | ⟨_,c,hc,hcell⟩
    ·rcases kd with kd | kd<;>(rw[kd] at k1;cases k1)
    ·obtain⟨c',hc'⟩:=uL (env:=X.env) scope.names [] z fr
     have:=sub z c' hc'
     rw[hc] at this;cases this;obtain⟨o,ho,hd⟩:=hcell;exact⟨c,hc',o,old _ _ ho,hd⟩
 ·obtain⟨v,o,ho,hd⟩:=I.cell y c (sub y c e)
  exact⟨v,o,old _ _ ho,hd⟩
 ·obtain⟨v,o,ho,hd⟩:=I.cell y c (sub y c e)
  exact free (old_lt ho).1 (I.freeC y c (sub y c e))
 ·obtain⟨e,n,ne,nf,d⟩:=I.pin p hp
  refine⟨old _ _ e,free (old_lt e).1 n,(old_lt e).2,fun z=>?_,d⟩
  rcases Qd.mp (I.stkSub _ z) with w | w
  ·exact ne w
  ·exact nf w
 ·show(r++xs.map fun _=>none).length=(X.N++xs).length
  rw[Qo,Qo,Qe,I.len]
end
def zEu{f:Ev}{ρ:Rho}{d:D}{ds es:List D}(h:gF f ρ (d::ds)=.ok es):
  ∃ a b e es',d=.tup [a,b]/\f (ρ++[.val a,.val b])=.ok e/\gF f ρ ds=.ok es'/\es=e::es':=by
 unfold gF at h;split at h
 ·cases ‹_=[]›
 ·rename_i a b ds' q
  cases q
  cases hf:noErr (f (ρ++[.val a,.val b])) with
  | no=>rw[hf] at h;cases h
  | err c=>rw[hf] at h;cases h
  | ok e=>
   rw[hf] at h
   cases hr:gF f ρ ds with
   | no=>simp only[Res.bind,hr] at h;cases h
   | err c=>simp only[Res.bind,hr] at h;cases h
   | ok es'=>
    simp only[Res.bind,hr] at h;cases h;exact⟨a,b,e,es',rfl,zAo hf,rfl,rfl⟩
 ·cases h
def zDw{f:Ev}{ρ:Rho}{c:Str}:∀ {ds:List D},gF f ρ ds≠.err c
 | []=>fun h=>by cases h
 | d::ds=>fun h=>by
  unfold gF at h;split at h
  ·cases ‹_=[]›
  ·rename_i a b ds' q
   cases q
   cases hf:noErr (f (ρ++[.val a,.val b])) with
   | no=>rw[hf] at h;cases h
   | err c=>cases q:f (ρ++[.val a,.val b])<;>(rw[q] at hf;cases hf)
   | ok e=>
    rw[hf] at h
    cases hr:gF f ρ ds with
    | no=>simp only[Res.bind,hr] at h;cases h
    | err c'=>exact zDw hr
    | ok es'=>simp only[Res.bind,hr] at h;cases h
  ·cases h
section
variable{X:Cx}{G:Gx}{elt iter:Expr}{xa xb:Str}{pa pb tp pos:Pos}{x1:Nat}{scope:Scope}{it:Fv}{f:Ev}{k:Nat}
def zHi(hc:X.calm=true/\TB X.K X.mg G.Bi G.B)(hr:Room k X.A)(Bk:BlkOk2 X [xa,xb] scope)(hN:(X.N++[xa,xb]).Nodup)(hi:PId X G (.Tuple [.Name xa pa,.Name xb pb] x1 tp) iter it)
  (hb:∀(C:Jc)(s₂:Jb)(H₂:Hp)(fp:List Jc)(G':Gx),Good (zDD X [xa,xb] scope C s₂ H₂ fp) G' k->PEd (zDD X [xa,xb] scope C s₂ H₂ fp) G' elt f)
  (hs:∀ x,foldedSetIterable iter X.env x=pure x:=by intro _;rfl)
  {Mh:List (Jc×Obj)} {s:Jb} {g:St} {H Hi:Hp} {ρ:Rho} {use:Option (Ja->Sem Unit)} {Q':Ja->Jb->Prop} {Qa:Jc->Hp->Prop} {cpos:Pos} (I:Inv X Mh g H s) (R:mO X G Hi H g ρ)
  (ou:Out G Hi H ((wM it f) ρ) fun ds Hi' H'=>∀ a,zLo X.K H Hi' H' a ds->Qa a H') (hend:zTw X Mh g use Q' Qa):
  wpAny (model X.prog X.w) X.A (comprehension (.ListComp elt [⟨.Tuple [.Name xa pa,.Name xb pb] x1 tp,iter,[],0⟩] scope pos) scope X.env cpos (newList []) false (eval iter X.env) use) Q' X.xe s:=by
 refine J8 (use:=use) rfl hs (zNk (Bk.cl I)) Bk.kind Bk.names ?_
 refine thn (hi Mh s g H (fun J H2=>∃ ds Hi2,Ext Hi H Hi2 H2/\vM X.K Hi2 J ds/\Out G Hi2 H2 (if ds.length<=16777215 then gF f ρ ds else .no) fun ds Hi' H'=>∀ a,zLo X.K H Hi' H' a ds->Qa a H') I
  ⟨ρ,Hi,R,(Out.bind ou).imp fun ds Hi2 H2 e2 o2 J gv=>⟨ds,Hi2,e2,gv,o2⟩⟩) fun v s1 h1=>thn h1 fun itv s2 h2=>?_
 obtain⟨itA,fp,tn,J,H2,rfl,I2,T,st2,f2,ds,Hi2,e2,gv,ou2⟩:=h2
 have hlen:ds.length<=16777215:=by
  by_cases hlen:ds.length<=16777215
  ·exact hlen
  ·rw[Jl hlen] at ou2;exact ou2.elim
 rw[Jk hlen] at ou2
 cases hes:gF f ρ ds with
 | no=>rw[hes] at ou2;exact ou2.elim
 | err c=>exact absurd hes zDw
 | ok es=>
  rw[hes] at ou2;have R2:mO X G Hi2 H2 g ρ:=R.grow e2;refine wpAny_newObj_type (wpAny_newFunctionEnv Bk.cell (by intro y hy;simp at hy) (fun h₁ hns₁ hsb₁=>?_) Bk.kind)
  dsimp only at hns₁ hsb₁ ⊢
  generalize hH2:s2.heap.push { cls:=.type "list", dict:=none,data:=.seq ([]:List Ja).toArray }=HP at hns₁ hsb₁ ⊢;have hC:HP.objs.size=s2.heap.objs.size+1:=by rw[<-hH2,Heap.size_push]
  have hDC:s2.heap.objs.size≠HP.objs.size:=by rw[hC];omega
  have ltC:∀ {b:Jc} {o:Obj},s2.heap.get? b=some o->b≠HP.objs.size:=fun e=>by rw[hC];exact Qs (Xv (Heap.lt_size e))
  have old:∀ b o,s2.heap.get? b=some o->h₁.get? b=some o:=fun b o e=>hsb₁.extBut b o (ltC e) (Heap.get?_push_of_some _ (hH2 ▸ Heap.get?_push_of_some _ e))
  have hacc:h₁.get? s2.heap.objs.size=some { cls:=.type "list", data:=.seq ([]:List Ja).toArray 0 }:=hsb₁.extBut _ _ hDC (Heap.get?_push_of_some _ (hH2 ▸ Heap.get?_push_size _ rfl));have hfl:∀ b∈fp,b<s2.heap.objs.size:=fun b hb=>by obtain⟨o,e,_⟩:=T.obj _ _ st2 b hb;exact Heap.lt_size e
  have IE:=zRC (t:=s2.toks+([]:List (Str×Ja)).length) I2 Bk f2 hfl (Qf _) (by rw[hC];omega) hDC old hacc hns₁
  have sub:=vU scope.names [] (Bk.cl I2) (fun y c e=>nomatch e)
  have H2D:H2 s2.heap.objs.size=none:=I2.hok.fresh (Qf _);have HD:H s2.heap.objs.size=none:=e2.h.none H2D;have Hi2D:Hi2 s2.heap.objs.size=none:=e2.s.none H2D;generalize hX:zDD X [xa,xb] scope HP.objs.size s2 H2 fp=Y at IE
  have GY:Good Y ⟨G.B,G.Bi,fun _ _=>False⟩ k:=by
   subst hX;exact⟨hc.1,hr,fun Mh g H s e s' _ h=>by obtain⟨_,_,_,_,_,c,_,z⟩:=h;exact z.elim,PassesOwn.never,hc.2⟩
  have hel:=(hX ▸ hb HP.objs.size s2 H2 fp ⟨G.B,G.Bi,fun _ _=>False⟩ (hX.symm ▸ GY):PEd Y ⟨G.B,G.Bi,fun _ _=>False⟩ elt f)
  have stat:∀ {H':Hp},(∀ b∈fp,H' b=none)->∀ b∈fp,tT Y Mh H' b:=fun hn b hb=>by
   subst hX;refine⟨hn b hb,?_,fun z=>?_,.inl hb,fun y c e=>(f2 b hb).2.2.2.2.1 y c (sub y c e),(f2 b hb).2.2.2.2.2⟩
   ·show b≠HP.objs.size
    rw[hC];exact Qs (Xv (hfl b hb))
   ·rcases Qd.mp (I2.stkSub b z) with w | w
    ·exact(f2 b hb).2.1 w
    ·exact(f2 b hb).2.2.1 w
  have YN:Y.N.Nodup:=by subst hX;exact hN
  have Ya:Y.N[g.length]?=some xa:=by
   subst hX;show(X.N++[xa,xb])[g.length]?=some xa
   rw[Vp (by rw[I2.len];omega),I2.len,Yw];rfl
  have Yb:Y.N[g.length+1]?=some xb:=by
   subst hX;show(X.N++[xa,xb])[g.length+1]?=some xb
   rw[Vp (by rw[I2.len];omega),I2.len,Nat.add_sub_cancel_left];rfl
  have Yla:Y.env.scope.names.lookup xa=some .local:=by subst hX;exact J9 (Bk.loc xa (by simp))
  have Ylb:Y.env.scope.names.lookup xb=some .local:=by subst hX;exact J9 (Bk.loc xb (by simp))
  have asg:PG Y (.Tuple [.Name xa pa,.Name xb pb] x1 tp) (L2.zGN Y.K 2 (L2.jR (L2.gName g.length) (L2.jR (L2.gName (g.length+1)) L2.zGU))):=
   zMJ (by subst hX;exact hc.1) (zAf (zET YN Ya (.inl Yla) (.inr Yla)) (zAf (zET YN Yb (.inl Ylb) (.inr Ylb)) zIg))
  have Ye:Y.env=compEnvC scope (zEU X.env scope.names []) HP.objs.size X.env:=by subst hX;rfl
  have Yxe:∀ e s,¬ Y.xe e s:=by subst hX;exact fun _ _ h=>h
  have tn1:tn 0 h₁:=T.keep _ _ _ st2 fun b _ o e=>old b o e
  have gE:∀ s3:Jb,s3={ s2 with heap:=h₁,toks:=s2.toks+([]:List (Str×Ja)).length }->
    codeAny (model X.prog X.w) X.A (.compLoop (.ListComp elt [⟨.Tuple [.Name xa pa,.Name xb pb] x1 tp,iter,[],0⟩] scope pos) 0 (.ref itA) (.ref s2.heap.objs.size) Y.env) (compPost (model X.prog X.w) X.A X.xe use Q' (.ref s2.heap.objs.size) HP.objs.size) s3:=by
   rintro s3 rfl
   subst hX
   have fr0:∀ b∈fp,upd H2 s2.heap.objs.size (.lst []) b=none:=fun b hb=>by
    rw[aV (Qs (hfl b hb))];exact(f2 b hb).1
   refine PyProof.Rows.LCp.codeAny_compLoop_pair (fun n s'=>∃ c:CW,n=ds.length-c.i/\CS (zDD X [xa,xb] scope HP.objs.size s2 H2 fp) Mh g tn fp Hi2 H2 s2.heap.objs.size 2 (fun i=>gF f ρ (ds.drop i)) es c s') ?_ ds.length
    ⟨⟨0,[none,none],_,Hi2,[],[],es⟩,rfl,⟨IE,rfl,tn1,fr0,(Ext.refl e2.s).trans (Ext.newF e2.s H2D),aS,Hi2D,.nil,Qf _,hes,rfl⟩⟩
   ·rintro n s3 ⟨⟨i,vv,H3,Hi3,ys,done,rest⟩,rfl,I3,wd3,st3,fr3,e3,hD3,hiD3,rd3,hl3,hr3,hes3⟩
    dsimp only at I3 wd3 st3 fr3 e3 hD3 hiD3 rd3 hl3 hr3 hes3 ⊢
    obtain⟨v,v',rfl⟩:∃ v v',vv=[v,v']:=by
     match vv,wd3 with
     | [v,v'],_=>exact⟨v,v',rfl⟩
    obtain⟨w1,w2⟩:=gv Hi3 H3 e3.i e3.s i;have lift:∀ {j:Type} {m:Sem j} {Q':j->Jb->Prop} {E:Ja->Jb->Prop} {s':Jb},wpAny (model X.prog X.w) X.A m Q' (zDD X [xa,xb] scope HP.objs.size s2 H2 fp).xe s'->wpAny (model X.prog X.w) X.A m Q' E s':=fun h=>wpAny_mono h (fun _ _ z=>z) fun e s z=>(Yxe e s z).elim
    by_cases hlt:i<ds.length
    ·obtain⟨d,hd⟩:∃ d,ds[i]?=some d:=⟨_,Qm hlt⟩
     obtain⟨go,yl⟩:=w2 d hd
     have e4:ds.drop i=d::ds.drop (i+1):=by
      rw[Qm hlt] at hd;cases hd;exact Uu hlt
     rw[e4] at hr3;refine thn (T.item (zDD X [xa,xb] scope HP.objs.size s2 H2 fp) rfl rfl rfl hc.1 i Mh s3 _ H3 _ I3 (stat fr3) st3 go) fun r s4 ⟨u,hru,h4⟩=>?_
     subst hru;refine thn h4 fun _ s5 h5=>?_
     obtain⟨xv,H5,I5,r5,y5,st5,fr5⟩:=h5;obtain⟨Hi5,e5,rd5⟩:=yl xv H5 y5;have I5':=I5.pinned (stat fr5) (T.obj _ _ st5);obtain⟨a,b,e,es',rfl,hf,hr4,hee⟩:=zEu hr3;obtain⟨pa',ps,rfl,hq,hps⟩:=rd5.tupI;obtain⟨va,vb,rfl,ra,rb⟩:=hps.two;refine lift (thn (asg _ s5 _ H5 _ u (fun g' H'=>g'=g++[some va,some vb]/\H'=H5) I5' r5 ⟨pa',_,rfl,bV (e3.trans e5).s hq,rfl,va,_,rfl,vb,_,rfl,rfl,?_,rfl⟩) fun _ s6 h6=>?_)
     ·rw[Wq _ _ (Qf _),Yw,Wq _ _ (Nat.le_succ _),Nat.succ_sub (Qf _),Yw];rfl
     obtain⟨g6,H6,I6,rfl,rfl⟩:=h6;have E5:Ext Hi2 H2 Hi5 H6:=e3.trans e5
     have R5:mO (zDD X [xa,xb] scope HP.objs.size s2 H2 fp) ⟨G.B,G.Bi,fun _ _=>False⟩ Hi5 H6 (g++[some va,some vb]) (ρ++[.val a,.val b]):=by
      have:=Rel.snoc (Rel.snoc (R2.grow E5) ra) rb
      rw[Vr,Vr] at this;exact this
     obtain⟨hD5,hiD5⟩:=e5.out hD3 hiD3;have rd5':=rd3.mono e5.i
     have again:∀ {H8 Hi8:Hp} {ys':List V} {done' rest':List D} {s8:Jb},Inv (zDD X [xa,xb] scope HP.objs.size s2 H2 fp) (Mh++vT fp s5.heap) (g++[some va,some vb]) H8 s8->Ext Hi2 H2 Hi8 H8->H8 s2.heap.objs.size=some (.lst ys')->Hi8 s2.heap.objs.size=none->IsDs X.K Hi8 ys' done'->done'.length<=i+1->
       gF f ρ (ds.drop (i+1))=.ok rest'->es=done'++rest'->∃ m,m<ds.length-i/\∃ c:CW,m=ds.length-c.i/\CS (zDD X [xa,xb] scope HP.objs.size s2 H2 fp) Mh g tn fp Hi2 H2 s2.heap.objs.size 2 (fun i=>gF f ρ (ds.drop i)) es c s8:=fun {H8 Hi8 ys' done' rest' s8} I8 E8 a1 a2 a3 a4 a5 a6=>by
      refine⟨ds.length-(i+1),by omega,⟨i+1,[some va,some vb],H8,Hi8,ys',done',rest'⟩,rfl,⟨I8.unpinned,rfl,T.keep _ _ _ st5 fun b hb o e=>(I8.pin (b,o) (Q2 _ (Q2 _ (fL hb e)))).1,fun b hb=>?_,E8,a1,a2,a3,a4,a5,a6⟩⟩
      obtain⟨o,e,_⟩:=T.obj _ _ st5 b hb;exact(I8.pin (b,o) (Q2 _ (Q2 _ (fL hb e)))).2.1
     refine lift (thn (hel _ s6 _ H6 (fun w H'=>∃ Hi',Ext Hi5 H6 Hi' H'/\IsD X.K Hi' w e) I6 ⟨_,Hi5,R5,by rw[hf];exact fun Hi' H' ee w hw=>⟨Hi',ee,hw⟩⟩) fun u8 s8 h8=>?_)
     obtain⟨w8,H8,I8,r8,Hi8,e8,rw8⟩:=h8;obtain⟨hD8,hiD8⟩:=e8.out hD5 hiD5;have rdy:IsDs X.K Hi8 ys done:=rd5'.mono e8.i;refine lift (thn (wQ (X:=(zDD X [xa,xb] scope HP.objs.size s2 H2 fp)) _ s8 _ H8 (.ref s2.heap.objs.size) [w8] (.ref s2.heap.objs.size) [u8] (fun _ H'=>H'=upd H8 s2.heap.objs.size (.lst (ys++[w8]))) I8 rfl (.cons r8 .nil) ⟨_,ys,w8,rfl,rfl,hD8,?_,rfl⟩) fun _ s9 h9=>?_)
     ·rw[rdy.length]
      exact Xq hl3 (Qu hlt (Q4 hlen (by decide)))
     ·obtain⟨_,H9,I9,_,rfl⟩:=h9
      refine again I9 (Ext.rewrite (E5.trans e8) H2D hiD8 ⟨_,hD8⟩) aS hiD8 (rdy.snoc rw8) (by rw[Qo];exact Wi hl3) hr4 ?_
      rw[hes3,hee,Vr];rfl
    ·rw[Y9 (by omega),gF] at hr3
     cases hr3;refine thn (T.done (zDD X [xa,xb] scope HP.objs.size s2 H2 fp) rfl rfl rfl hc.1 i Mh s3 _ H3 _ I3 (stat fr3) st3 (w1 (by omega))) fun r s4 ⟨hrn,I4⟩=>?_
     subst hrn;obtain⟨m4,hn4,_⟩:=I4.loc;have fC:H3 HP.objs.size=none:=I4.free;have nC:∀ b u,H3 b=some u->b≠HP.objs.size:=fun b u e z=>by rw[z,fC] at e;cases e
     have U4:=I4.base;refine hend HP.objs.size s2.heap.objs.size m4 s4 H3 hn4 (fun h' hs'=>?_) (I2.fpOk (by rw[hC];omega) fC) ?_
     ·have kp:∀ b o,b≠HP.objs.size->s4.heap.get? b=some o->h'.get? b=some o:=fun b o hb e=>hs'.extBut b o hb e
      refine Inv.call' I2 (ch:=fp) I4.os ⟨fun b o e n hb hx=>kp b o (ltC e) (U4.keep b o e n hb hx),fun b o e n hb hx=>?_,U4.free,fun b o e hx=>?_,U4.tups,U4.frzs,U4.tbls⟩ (fun b u e=>?_) I4.bare (fun b hb=>⟨(f2 b hb).2.2.2.1,(f2 b hb).2.1,(f2 b hb).2.2.2.2.1,(f2 b hb).2.2.2.2.2⟩)
      ·obtain⟨sl,q⟩:=U4.slot b o e n hb hx
       exact⟨sl,kp b _ (ltC e) q⟩
      ·obtain⟨o',q⟩:=U4.there b o e hx
       exact⟨o',kp b _ (ltC e) q⟩
      ·refine(I4.hok b u e).stay (fun c v hc q=>kp c v ?_ q) (fun _ q=>q) fun _ _ q=>q
       rcases hc with z | z
       ·rw[z];exact nC b u e
       ·exact nC c _ z
     ·refine ou2 Hi3 H3 e3 _ ⟨HD,hiD3,ys,hD3,?_⟩
      rw[hes3,Vm];exact rd3
  rw[Ye] at gE;exact Ma (gE _ rfl) (T.self _ 0 _ _ _ tn1 (gE _ rfl))
def zLm(hc:X.calm=true/\TB X.K X.mg G.Bi G.B)(hr:Room k X.A)(Bk:BlkOk2 X [xa,xb] scope)(hN:(X.N++[xa,xb]).Nodup)(hi:PId X G (.Tuple [.Name xa pa,.Name xb pb] x1 tp) iter it)
  (hb:∀(C:Jc)(s₂:Jb)(H₂:Hp)(fp:List Jc)(G':Gx),Good (zDD X [xa,xb] scope C s₂ H₂ fp) G' k->PEd (zDD X [xa,xb] scope C s₂ H₂ fp) G' elt f)
  (hs:∀ x,foldedSetIterable iter X.env x=pure x:=by intro _;rfl):PEf X G (.ListComp elt [⟨.Tuple [.Name xa pa,.Name xb pb] x1 tp,iter,[],0⟩] scope pos) (wM it f):=by
 intro Mh s g H Q I w;obtain⟨ρ,Hi,R,ou⟩:=w;rw[eval_ListComp];refine zHi hc hr Bk hN hi hb hs (use:=none) (Qa:=fun a H'=>Q (.ref a) H') I R ou fun C A m s4 H3 hn hI _ q=>?_
 exact⟨m,hn,fun h' hs'=>⟨.ref A,H3,hI h' hs',rfl,q⟩⟩
def zOX(sc:Scope)(N:List Str)(xs:List Str)(scope:Scope):Bool:=
 scope.names.all (fun y=>y.2 != .cell) && xs.all (fun x=>scope.names.lookup x==some .local) && scope.names.all (fun y=>y.2 != .local || scope.names.lookup y.1==some .local)
  && scope.names.all (fun p=>p.2 != .free || (sc.names.lookup p.1==some .cell || sc.names.lookup p.1==some .free)) && N.all (fun y=>scope.names.lookup y != some .local)
def zOQ{sc:Scope}{N xs:List Str}(hk:scope.kind=.function)(hsc:X.env.scope=sc)(hN:X.N=N)(h:zOX sc N xs scope=true):BlkOk2 X xs scope:=by
 unfold zOX at h;simp only[Vh] at h;obtain⟨⟨⟨⟨h1,h2⟩,h3⟩,h4⟩,h5⟩:=h;subst hN hsc;refine⟨hk,fun y hy e=>?_,fun x hx=>?_,fun y hy e=>?_,fun p hp e=>?_,fun y hy e=>?_⟩
 ·have:=Xj.mp h1 y hy
  rw[e] at this;cases this
 ·exact beq_iff_eq.mp (Xj.mp h2 x hx)
 ·have:=Xj.mp h3 y hy
  rw[e] at this;simpa using this
 ·have:=Xj.mp h4 p hp
  rw[e] at this;have q:X.env.scope.names.lookup p.1=some .cell∨X.env.scope.names.lookup p.1=some .free:=by simpa using this
  exact q
 ·have:=Xj.mp h5 y hy
  rw[e] at this;cases this
def xA{sc:Scope}{N:List Str}(W:Good X G k)(hnd:(N++[xa,xb]).Nodup)(hk:scope.kind=.function)(hsc:X.env.scope=sc)(hN:X.N=N)(h:zOX sc N [xa,xb] scope=true)(hi:PId X G (.Tuple [.Name xa pa,.Name xb pb] x1 tp) iter it)
  (hb:∀(C:Jc)(s₂:Jb)(H₂:Hp)(fp:List Jc)(G':Gx),Good (zDD X [xa,xb] scope C s₂ H₂ fp) G' k->PEd (zDD X [xa,xb] scope C s₂ H₂ fp) G' elt f)
  (hs:∀ x,foldedSetIterable iter X.env x=pure x:=by intro _;rfl):PEf X G (.ListComp elt [⟨.Tuple [.Name xa pa,.Name xb pb] x1 tp,iter,[],0⟩] scope pos) (wM it f):=
 zLm ⟨W.calm,W.tb⟩ W.room (zOQ hk hsc hN h) (hN ▸ hnd) hi hb hs
end
end L3
namespace L3
open PySem PySem.Spec PyProof.Rows L2
section
variable{prog:Jf}{w:Jg}{A:Jh}{E:Ja->Jb->Prop}{s:Jb}
def zHQ{t sl:Jc}{its:Array Ja}{vl vu:Ja}{lo hi:Option Int}{Q:Ja->Jb->Prop}(a:IsTup s.heap t its)(b:s.heap.IsSliceOf sl vl vu .none)(pl:IsPart vl lo)(pu:IsPart vu hi)
  (c:HT.sIx its.size 0 lo=0/\HT.sIx its.size its.size hi=its.size) (q:Q (.ref t) s):wpAny (model prog w) A (getItem (.ref t) (.ref sl)) Q E s:=by
 obtain⟨os,e1,e2,_⟩:=id b;have ty:s.TypeIs (.ref sl) "slice" := ⟨os,e1,e2⟩;unfold getItem;try with_reducible refine wpAny_holding ?_
 first | refine Jr (Ju ?_) | skip
 refine Jr (wpAny_sequenceKey a.typeIs (by decide) (Jr (wpAny_callSpecial?_slot (name:=Str.ofString "__getitem__") a.typeIs Ul (wpAny_call_entry Ul a.typeIs J1 ?_ (args_tuple_getitem _ _)))))
 refine show wpAny _ _ (Builtin.Tuple.tupleItemsOf (.ref t) >>= _) _ _ s from Jr (tupleItemsOf_ a (Jr (wpAny_typeOf ty ?_)))
 rw[Jk (by decide)];refine Jr (HT.sliceApplied_gen b pl pu ?_)
 show wpAny _ _ (if (((HT.sIx its.size 0 lo:Nat):Int)==0 && (1:Int)==1 && (HT.sIx its.size its.size hi-HT.sIx its.size 0 lo)==its.size)=true then _ else _) _ _ s
 rw[c.1,c.2,Jk (by simp)];refine Jr ?_
 unfold Builtin.Tuple.tupleIsExact
 first
  | refine Jr (wpAny_typeOf a.typeIs (Ju ?_))
  | refine Jr (wpAny_load a.choose_spec.1 (Ju ?_))
 rw[Jk (by first | decide | rfl)];exact Jr (wpAny_rule (Ju ⟨_,rfl,Ju q⟩))
end
section
variable{X:Cx}{G:Gx}{fs:Fv}{f:Ev}
def zTY(K:PySem.W.Frag):V->Option Int->Option Int->Hp->VK->Prop:=fun x lo hi H Q=>∃ a xs,x=.ref a/\SqT K H a xs/\(HT.sIx xs.length 0 lo=0/\HT.sIx xs.length xs.length hi=xs.length)/\Q (.ref a) H
def zLS:SlR X (zTY X.K):=by
 intro Mh s b H x v vl vu lo hi sl Q I rx hs pl pu h;obtain⟨a,xs,rfl,hx,hw,q⟩:=h;cases rx;obtain⟨its,r,ht,hz⟩:=I.tuple hx;have hlen:its.toArray.size=xs.length:=by rw[Qj];exact r.length.symm
 exact⟨"tuple", _,PyProof.Rows.slot_tuple_getitem.lookup,ht.typeIs,zHQ ht hs pl pu (by rw[hlen];exact hw) ⟨.ref a,H,I,rfl,q⟩⟩
unseal PEd PEf PTd PWd PAd PSd eH POd PGd iO PId PSx mC PTs PCd PCf
def zIa{e:Expr}{pos:Pos}{lo hi:Option Expr}{l h:Ov}{p2:Pos}(he:PEd X G e f)(hl:POd X G lo l)(hu:POd X G hi h):PEd X G (.Subscript e (.Slice lo hi none p2) pos) (zSD f l h):=
 PE.wk (zGr (SlR.or zIo (SlR.or zQr zLS)) he hl hu) fun b H Q q=>by
 obtain⟨ρ,Hi,R,ou⟩:=q;refine zFQ R ou fun v d Hi1 H1 e1 R1 r1 o1=>?_
 refine zSc R1 o1 fun i Hi2 H2 e2 R2 o2=>?_
 refine zSc R2 o2 fun j Hi3 H3 e3 R3 o3=>?_
 have eh:=e1.h.trans (e2.h.trans e3.h);have ei:=e2.i.trans e3.i
 cases d with
 | lst ds=>
  obtain⟨a,xs,rfl,h1,h2⟩:=r1.lstI;refine .inl ⟨a,xs,rfl,cJ (ei.trans R3.s) h1,fun p hp=>?_⟩
  exact o3 _ _ (Ext.new R3.s hp) (.ref p) (.lst (SqL.of aS) (((h2.cut i j).mono ei).mono (bY (R3.s.none hp) _)))
 | tup ds=>
  obtain⟨a,xs,rfl,h1,h2⟩:=r1.tupI;by_cases z:HT.sIx xs.length 0 i=0/\HT.sIx xs.length xs.length j=xs.length
  ·refine .inr (.inr ⟨a,xs,rfl,bV (ei.trans R3.s) h1,z,?_⟩)
   have hc:=h2.cut i j
   have ew:zKM xs i j=xs:=by
    unfold zKM;rw[z.1,z.2,X2,Y8,Vu]
   rw[ew] at hc;exact o3.here R3.s (.ref a) (.tup (bV ei h1) (hc.mono ei))
  ·refine .inr (.inl ⟨a,xs,rfl,bV (ei.trans R3.s) h1,z,fun p hp=>?_⟩)
   exact o3 _ _ (Ext.new R3.s hp) (.ref p) (.tup (SqT.of aS) (((h2.cut i j).mono ei).mono (bY (R3.s.none hp) _)))
 | _=>exact o3.elim
end
end L3
namespace L3
open PySem PySem.Spec PyProof.Rows L2
unseal PEd PEf PTd PWd PAd PSd eH POd PGd iO PId PSx mC PTs PCd PCf
section
variable{X:Cx}{G:Gx}{f:Ev}{pos:Pos}
def IsDs.three{K:Fg_}{H:Hp}{xs:List V}{d1 d2 d3:D}(h:IsDs K H xs [d1,d2,d3]):∃ v1 v2 v3,xs=[v1,v2,v3]/\IsD K H v1 d1/\IsD K H v2 d2/\IsD K H v3 d3:=by
 cases h with
 | cons u1 t=>cases t with
  | cons u2 t=>cases t with
   | cons u3 t=>cases t;exact⟨_,_,_,rfl,u1,u2,u3⟩
end
end L3
namespace L3
open PySem PySem.Spec PyProof.Rows L2
local macro_rules | `(⋯)=>`(by omega)
def Iv(xs:Array Keyed)(i:Nat):Int:=match xs[i]? with
 | some p=>numOf p.2
 | none=>0
def zHI{xs ys:Array Keyed}{i j:Nat}(h:xs[i]?=ys[j]?):Iv xs i=Iv ys j:=by unfold Iv;rw[h]
def zQn{xs:Array Keyed}{a d:Nat}(ha:a<xs.size)(hd:d<=a)(k:Nat):Iv (bubble xs a d) k=if k=a-d then Iv xs a else if a-d<k/\k<=a then Iv xs (k-1) else Iv xs k:=by
 have e:=getElem?_bubble ha d hd k;by_cases c1:k=a-d
 ·rw[Jk c1] at e ⊢;exact zHI e
 ·rw[Jl c1] at e ⊢
  by_cases c2:a-d<k/\k<=a
  ·rw[Jk c2] at e ⊢;exact zHI e
  ·rw[Jl c2] at e ⊢;exact zHI e
def wP{xs:Array Keyed}{a b:Nat}(hb:b<=xs.size)(k:Nat):Iv (mirror xs a b ((b-a) / 2)) k=if a<=k/\k<b then Iv xs (a+b-1-k) else Iv xs k:=by
 have e:=getElem?_mirror_all (i:=a) hb k;by_cases c:a<=k/\k<b
 ·rw[Jk c] at e ⊢;exact zHI e
 ·rw[Jl c] at e ⊢;exact zHI e
structure Up (N:Nat) (xs:Array Keyed) (m:Nat):Prop where
 so:∀ i j,i<j->j<m->K xs i<K xs j∨K xs i=K xs j/\Iv xs i<Iv xs j
 lo:∀ i,i<m->Iv xs i<m
 hi:∀ i,m<=i->i<N->Iv xs i=i
def Up.le{N m:Nat}{xs:Array Keyed}(u:Up N xs m){i j:Nat}(h:i<=j)(hj:j<m):K xs i<=K xs j:=by
 by_cases c:i=j
 ·subst c;exact Yz _
 ·rcases u.so i j ⋯ hj with z | z
  ·exact V6 z
  ·exact Int.le_of_eq z.1
def Up.on{N m n:Nat}{xs:Array Keyed}(u:Up N xs m)(hn:n<=N)(hm:m<=n)(s:SortedTo xs n):Up N xs n where
 so i j l hj:=by
  by_cases c:j<m
  ·exact u.so i j l c
  ·have e:=u.hi j ⋯ ⋯
   have z:=s i j ⋯ hj
   have t:Iv xs i<Iv xs j:=by
    by_cases c2:i<m
    ·have:=u.lo i c2;omega
    ·have:=u.hi i ⋯ ⋯;omega
   rcases Int.lt_or_eq_of_le z with z | z
   ·exact .inl z
   ·exact .inr ⟨z,t⟩
 lo i hi:=by
  by_cases c:i<m
  ·have:=u.lo i c;omega
  ·have:=u.hi i ⋯ ⋯;omega
 hi i h1 h2:=u.hi i ⋯ h2
structure Dw (N:Nat) (xs:Array Keyed) (b:Nat):Prop where
 so:∀ i j,i<j->j<b->K xs j<K xs i∨K xs j=K xs i/\Iv xs j<Iv xs i
 lo:∀ i,i<b->Iv xs i<b
 hi:∀ i,b<=i->i<N->Iv xs i=i
structure Dq (N:Nat) (xs:Array Keyed) (b x:Nat):Prop extends Dw N xs b where
 bx:b<x
 eq:∀ i,b<=i->i<x->K xs i=K xs (x-1)
 gt:∀ i,i<b->K xs (x-1)<K xs i
def Dq.turn{N:Nat}{xs ys:Array Keyed}{b x:Nat}(d:Dq N xs b x)(hx:x<=N)(hk:∀ i,K ys i=K xs i)(hv:∀ i,Iv ys i=if b<=i/\i<x then Iv xs (b+x-1-i) else Iv xs i):Dw N ys x where
 so i j l hj:=by
  rw[hk,hk,hv,hv];by_cases c:j<b
  ·rw[Jl ⋯,Jl ⋯];exact d.so i j l c
  ·rw[d.eq j ⋯ hj,Jk ⋯,d.hi _ ⋯ ⋯]
   by_cases c2:i<b
   ·exact .inl (d.gt i c2)
   ·rw[d.eq i ⋯ ⋯,Jk ⋯,d.hi _ ⋯ ⋯]
    exact .inr ⟨rfl,by omega⟩
 lo i hi:=by
  rw[hv];split
  ·rw[d.hi _ ⋯ ⋯];omega
  ·have:=d.lo i ⋯;have:=d.bx;omega
 hi i h1 h2:=by rw[hv,Jl ⋯];exact d.hi i (by have:=d.bx;omega) h2
def Dw.next{N:Nat}{xs:Array Keyed}{x:Nat}(d:Dw N xs x)(hx:x<N)(h1:0<x)(h:∀ i,i<x->K xs x<K xs i):Dq N xs x (x+1) where
 toDw:=d
 bx:=by omega
 eq i a b:=by rw[show i=x+1-1 by omega]
 gt i hi:=by rw[show x+1-1=x by omega];exact h i hi
section
variable{prog:Jf}{w:Jg}{A:Jh}{E:Ja->Jb->Prop}{s:Jb}{a₀:Array Keyed}
def zJf{st:SortSt}{n r:Nat}{Q:Option Nat->SortSt->Prop}(ik:IntKeys a₀)(hr:r<=a₀.size)(h1:1<=n)(hn:n<=r)(sb:SBase a₀ st)(d:Dw a₀.size (arrOf st) n)
  (h:∀ m st',SBase a₀ st'->1<=m->m<=r->Up a₀.size (arrOf st') m->Q (some m) st'):wpS (model prog w) A E s (tail3 n r) Q st:=by
 unfold tail3;have sz:n<=(arrOf st).size:=by rw[sb.size];omega
 refine Mc (wpS_reverse ?_)
 have sb2:SBase a₀ (setArr st (mirror (arrOf st) 0 n ((n-0) / 2))):=sb.setArr (mirror_perm ..)
 have up:Up a₀.size (mirror (arrOf st) 0 n ((n-0) / 2)) n:=by
  refine⟨fun i j l hj=>?_,fun i hi=>?_,fun i p q=>?_⟩
  ·rw[K_mirror sz,K_mirror sz,wP sz,wP sz,Jk ⋯,Jk ⋯,Jk ⋯,Jk ⋯]
   exact d.so _ _ ⋯ ⋯
  ·rw[wP sz,Jk ⋯];exact d.lo _ ⋯
  ·rw[wP sz,Jl ⋯];exact d.hi i p q
 exact Mc (wpS_ascLoop ik hr h1 hn sb2 (fun i j l hj=>up.le l hj) fun m m1 m2 sm _=>wpS_pure (h m _ sb2 ⋯ m2 (up.on ⋯ m1 sm)))
def zNE{st:SortSt}{b n r:Nat}{Q:DescSt->SortSt->Prop}(ik:IntKeys a₀)(hr:r<=a₀.size)(hn:n<=r)(hb:b+1=n)(sb:SBase a₀ st)(d:Dq a₀.size (arrOf st) b n)
  (h:∀ m q st',SBase a₀ st'->m<=r->q<m->Dq a₀.size (arrOf st') (m-(q+1)) m->Q (none,m,q) st'):wpS (model prog w) A E s (descLoop n r) Q st:=by
 unfold descLoop;refine wpS_forRange (I:=fun x c st'=>∃ q,c=(none,x,q)/\SBase a₀ st'/\q<x/\Dq a₀.size (arrOf st') (x-(q+1)) x) ?step ?fin ⟨0,rfl,sb,by omega,by rw[show n-(0+1)=b by omega];exact d⟩
 case fin=>
  rintro c st' ⟨q,rfl,sb',hq,d'⟩
  rw[show max n r=r by omega] at hq d' ⊢
  exact h r q st' sb' (Qf _) hq d'
 case step=>
  rintro x c st' nx xr ⟨q,rfl,sb',hq,d'⟩
  dsimp only
  have sz:x<=(arrOf st').size:=by rw[sb'.size];omega
  refine Mc (wpS_ltK sb' ik (show x<_ by omega) (show x-1<_ by omega) ?_)
  by_cases c1:K (arrOf st') x<K (arrOf st') (x-1)
  ·have all:∀ i,i<x->K (arrOf st') x<K (arrOf st') i:=fun i hi=>by
    by_cases c2:i<x-(q+1)
    ·exact Int.lt_trans c1 (d'.gt i c2)
    ·rw[d'.eq i ⋯ hi];exact c1
   rw[J5 c1];dsimp only
   rw[Jk rfl];by_cases c3:q > 0
   ·rw[Jk c3]
    have kk:=K_mirror_equal (i:=x-(q+1)) sz (fun k p1 p2=>d'.eq k p1 p2)
    refine Mc (wpS_reverse (wpS_pure ⟨0,rfl,sb'.setArr (mirror_perm ..),by omega,?_⟩))
    have dw:Dw a₀.size (mirror (arrOf st') (x-(q+1)) x ((x-(x-(q+1))) / 2)) x:=d'.turn ⋯ kk (wP sz)
    exact dw.next ⋯ ⋯ fun i hi=>by rw[kk,kk];exact all i hi
   ·rw[Jl c3]
    have q0:q=0:=by omega
    subst q0
    have dw:Dw a₀.size (arrOf st') x:=d'.turn ⋯ (fun _=>rfl) fun i=>by
     split
     ·rw[show x-(0+1)+x-1-i=i by omega]
     ·rfl
    exact wpS_pure ⟨0,rfl,sb',by omega,dw.next ⋯ ⋯ all⟩
  ·rw[Jj c1]
   dsimp only
   rw[Jl (by decide)];refine Mc (wpS_ltK sb' ik (show x-1<_ by omega) (show x<_ by omega) ?_)
   by_cases c4:K (arrOf st') (x-1)<K (arrOf st') x
   ·rw[J5 c4]
    dsimp only
    rw[Jk rfl];exact wpS_pure (h x q st' sb' ⋯ hq d')
   ·rw[Jj c4]
    dsimp only
    rw[Jl (by decide)];have ee:K (arrOf st') x=K (arrOf st') (x-1):=by omega
    refine wpS_pure ⟨q+1,rfl,sb',by omega,?_⟩
    rw[show x+1-(q+1+1)=x-(q+1) by omega];refine⟨d'.toDw,by omega,fun i p1 p2=>?_,fun i p1=>?_⟩
    ·rw[show x+1-1=x by omega]
     by_cases c5:i=x
     ·rw[c5]
     ·rw[ee];exact d'.eq i p1 ⋯
    ·rw[show x+1-1=x by omega,ee];exact d'.gt i p1
def zKo{st:SortSt}{n r:Nat}{Q:Option Nat->SortSt->Prop}(ik:IntKeys a₀)(hr:r<=a₀.size)(hn:n+1<=r)(sb:SBase a₀ st)(d:Dq a₀.size (arrOf st) n (n+1))
  (h:∀ m st',SBase a₀ st'->1<=m->m<=r->Up a₀.size (arrOf st') m->Q (some m) st'):wpS (model prog w) A E s (descPart n r) Q st:=by
 unfold descPart;refine Mc (wpS_lift (wpAny_rule ⟨rfl,?_⟩))
 refine Mc (zNE ik hr hn rfl sb d fun m q st' sb' mr hq d'=>?_)
 dsimp only
 have sz:m<=(arrOf st').size:=by rw[sb'.size];omega
 by_cases c:q > 0
 ·rw[Jk c]
  exact Mc (wpS_reverse (zJf ik hr ⋯ mr (sb'.setArr (mirror_perm ..)) (d'.turn ⋯ (K_mirror_equal sz fun k p1 p2=>d'.eq k p1 p2) (wP sz)) h))
 ·rw[Jl c]
  have q0:q=0:=by omega
  subst q0;refine zJf ik hr ⋯ mr sb' (d'.turn ⋯ (fun _=>rfl) fun i=>?_) h
  split
  ·rw[show m-(0+1)+m-1-i=i by omega]
  ·rfl
def zRo{st:SortSt}{r:Nat}{Q:Option Nat->SortSt->Prop}(ik:IntKeys a₀)(hr:r<=a₀.size)(h1:1<=r)(sb:SBase a₀ st)(h0:∀ i,i<a₀.size->Iv (arrOf st) i=i)
  (h:∀ m st',SBase a₀ st'->1<=m->m<=r->Up a₀.size (arrOf st') m->Q (some m) st'):wpS (model prog w) A E s (countRun' 0 r) Q st:=by
 have u1:Up a₀.size (arrOf st) 1:=⟨fun i j l hj=>by omega,fun i hi=>by have:=h0 i ⋯;omega,fun i _ z=>h0 i z⟩
 rw[countRun0_eq];refine Mc (wpS_ascLoop ik hr (Qf 1) h1 sb (fun i j l hj=>u1.le l hj) fun n n1 n2 sn no=>?_)
 have un:=u1.on (show n<=_ by omega) n1 sn
 dsimp only
 by_cases c:n=r
 ·rw[Jk (by simpa using c)]
  exact wpS_pure (h n st sb n1 n2 un)
 ·rw[Jl (by simpa using c)]
  have fl:K (arrOf st) n<K (arrOf st) (n-1):=no.resolve_left c;by_cases c2:n > 1
  ·rw[Jk c2]
   refine Mc (wpS_ltK sb ik (show 0<_ by omega) (show n-1<_ by omega) ?_)
   by_cases c3:K (arrOf st) 0<K (arrOf st) (n-1)
   ·rw[J5 c3]
    dsimp only
    rw[Jk rfl];exact wpS_pure (h n st sb n1 n2 un)
   ·rw[Jj c3]
    dsimp only
    rw[Jl (by decide)];have sz:n<=(arrOf st).size:=by rw[sb.size];omega
    have al:∀ k,0<=k->k<n->K (arrOf st) k=K (arrOf st) (n-1):=fun k _ hk=>by
     have p1:=sn 0 k ⋯ hk
     have p2:=sn k (n-1) ⋯ ⋯
     omega
    have kk:=K_mirror_equal (i:=0) sz al;have dq:Dq a₀.size (arrOf st) 0 n:=⟨⟨fun i j l hj=>by omega,fun i hi=>by omega,fun i _ z=>h0 i z⟩,by omega,fun i p1 p2=>al i p1 p2,fun i hi=>by omega⟩
    have dw:Dw a₀.size (mirror (arrOf st) 0 n ((n-0) / 2)) n:=dq.turn ⋯ kk (wP sz)
    refine Mc (wpS_reverse (zKo ik hr ⋯ (sb.setArr (mirror_perm ..)) (dw.next ⋯ ⋯ fun i hi=>?_) h))
    rw[kk,kk,al i ⋯ hi];exact fl
  ·rw[Jl c2]
   have n0:n=1:=by omega
   subst n0;have dw:Dw a₀.size (arrOf st) 1:=⟨fun i j l hj=>by omega,fun i hi=>by have:=h0 i ⋯;omega,fun i _ z=>h0 i z⟩
   refine zKo ik hr ⋯ sb (dw.next ⋯ ⋯ fun i hi=>?_) h
   rw[show i=1-1 by omega];exact fl
def zPE{st:SortSt}{n m:Nat}{Q:Bool->SortSt->Prop}(ik:IntKeys a₀)(hn:n<=a₀.size)(h1:1<=m)(hm:m<=n)(sb:SBase a₀ st)(u:Up a₀.size (arrOf st) m)
  (h:∀ st',SBase a₀ st'->Up a₀.size (arrOf st') n->Q true st'):wpS (model prog w) A E s (binarySort' 0 n m) Q st:=by
 rw[binarySort'_eq];simp only[Vq];refine Mc (wpS_mono (wpS_forRange (I:=fun k c st'=>c=(none,())/\SBase a₀ st'/\Up a₀.size (arrOf st') (min k n)) (Q:=fun c st'=>c=(none,())/\SBase a₀ st'/\Up a₀.size (arrOf st') n) ?step ?fin ⟨rfl,sb,by rw[show min (max m 1) n=m by omega];exact u⟩) ?post)
 case post=>
  rintro c st' ⟨rfl,sb',u'⟩
  exact wpS_pure (h st' sb' u')
 case fin=>
  rintro c st' ⟨hc,sb',u'⟩
  rw[show min (max (max m 1) n) n=n by omega] at u';exact⟨hc,sb',u'⟩
 case step=>
  rintro k c st' mk kn ⟨rfl,sb',u'⟩
  rw[show min k n=k by omega] at u';have ka:k<a₀.size:=by omega
  refine Mc (wpS_mono (wpS_forRange
   (I:=fun x c st2=>st2=st'/\∃ l r,c=(none,l,r)/\l<=r/\r<=k/\r-l<=k-x/\(∀ i,i<l->K (arrOf st') i<=K (arrOf st') k)/\∀ i,r<=i->i<k->K (arrOf st') k<K (arrOf st') i)
   (Q:=fun c st2=>st2=st'/\∃ l r,c=(none,l,r)/\l<=k/\(∀ i,i<l->K (arrOf st') i<=K (arrOf st') k)/\∀ i,l<=i->i<k->K (arrOf st') k<K (arrOf st') i) ?js ?jf ?ji) ?jp)
  case ji=>exact⟨rfl,0,k,rfl,by omega,by omega,by omega,fun i z=>by omega,fun i y z=>by omega⟩
  case jf=>
   rintro c st2 ⟨rfl,l,r,rfl,lr,rk,lx,f1,f2⟩
   have:l=r:=by omega
   subst this;exact⟨rfl,l,l,rfl,rk,f1,f2⟩
  case js=>
   rintro x c st2 _ xk ⟨rfl,l,r,rfl,lr,rk,lx,f1,f2⟩
   dsimp only
   by_cases c1:l ≥ r
   ·rw[Jk c1]
    have:l=r:=by omega
    subst this;exact wpS_pure ⟨rfl,l,l,rfl,rk,f1,f2⟩
   ·rw[Jl c1]
    refine Mc (wpS_ltK sb' ik ka (show(l+r) / 2<_ by omega) ?_)
    by_cases c2:K (arrOf st2) k<K (arrOf st2) ((l+r) / 2)
    ·rw[J5 c2]
     dsimp only
     rw[Jk rfl];exact wpS_pure ⟨rfl,l,(l+r) / 2,rfl,by omega,by omega,by omega,f1,fun i y z=>Int.lt_of_lt_of_le c2 (u'.le y z)⟩
    ·rw[Jj c2]
     dsimp only
     rw[Jl (by decide)];exact wpS_pure ⟨rfl,(l+r) / 2+1,r,rfl,by omega,by omega,by omega,fun i y=>Vt (u'.le (show i<=(l+r) / 2 by omega) ⋯) (Int.not_lt.mp c2),f2⟩
  case jp=>
   rintro c st2 ⟨rfl,l,r,rfl,lk,f1,f2⟩
   show wpS _ _ _ _ (do moveDown' k l;pure (ForInStep.yield (none,()))) _ _
   rw[moveDown'_eq];refine Mc (wpS_modify (wpS_pure ⟨rfl,sb'.setArr (bubble_perm ..),?_⟩))
   rw[show min (k+1) n=k+1 by omega];have sz:k<(arrOf st2).size:=by rw[sb'.size];exact ka
   have ik2:=u'.hi k (Qf _) ka;show Up a₀.size (bubble (arrOf st2) k (k-l)) (k+1)
   have kb:=fun i=>K_bubble sz (show k-l<=k by omega) i
   have vb:=fun i=>zQn sz (show k-l<=k by omega) i
   rw[show k-(k-l)=l by omega] at kb vb;refine⟨fun i j ij jk=>?_,fun i z=>?_,fun i y z=>?_⟩
   ·rw[kb,kb,vb,vb]
    by_cases e1:i=l
    ·rw[Jk e1,Jl (show j≠l by omega),Jk (show l<j/\j<=k by omega),Jk e1]
     exact .inl (f2 _ ⋯ ⋯)
    ·by_cases e2:j=l
     ·rw[Jl e1,Jl (show ¬ (l<i/\i<=k) by omega),Jk e2,Jl e1,Jl (show ¬ (l<i/\i<=k) by omega),Jk e2]
      have t:=u'.lo i ⋯
      rcases Int.lt_or_eq_of_le (f1 i ⋯) with z | z
      ·exact .inl z
      ·exact .inr ⟨z,by omega⟩
     ·rw[Jl e1,Jl e2,Jl e1,Jl e2]
      by_cases g1:l<i/\i<=k
      ·rw[Jk g1,Jk g1,Jk (show l<j/\j<=k by omega),Jk (show l<j/\j<=k by omega)]
       exact u'.so _ _ ⋯ ⋯
      ·rw[Jl g1,Jl g1]
       by_cases g2:l<j/\j<=k
       ·rw[Jk g2,Jk g2];exact u'.so _ _ ⋯ ⋯
       ·rw[Jl g2,Jl g2];exact u'.so _ _ ij ⋯
   ·rw[vb]
    split
    ·omega
    ·split
     ·have:=u'.lo (i-1) ⋯;omega
     ·have:=u'.lo i ⋯;omega
   ·rw[vb,Jl ⋯,Jl ⋯];exact u'.hi i ⋯ z
def zPb{st:SortSt}{Q:Unit->SortSt->Prop}(ik:IntKeys a₀)(sb:SBase a₀ st)(h2:2<=a₀.size)(h64:a₀.size<64)(h0:∀ i,i<a₀.size->Iv (arrOf st) i=i)
  (h:∀ st',(arrOf st').Perm a₀->failedOf st'=none->Up a₀.size (arrOf st') a₀.size->Q () st'):wpS (model prog w) A E s sortRuns' Q st:=by
 rw[sortRuns'_eq];refine Mc (wpS_get ?_)
 dsimp only
 have mr:minRun' a₀.size a₀.size 0=a₀.size:=by
  obtain⟨f,hf⟩:∃ f,a₀.size=f+1:=⟨a₀.size-1,by omega⟩
  have z:minRun' (f+1) a₀.size 0=a₀.size:=by rw[minRun'_succ,Jk h64,Uw]
  rw[<-hf] at z;exact z
 have fin:∀ st':SortSt,SBase a₀ st'->Up a₀.size (arrOf st') a₀.size->(fun st=>(arrOf st).Perm a₀/\failedOf st=none/\pendingOf st=#[(0,a₀.size,0)]/\Up a₀.size (arrOf st) a₀.size) (setPending st' ((pendingOf st').push (0,a₀.size,0))):=fun st' b u=>
  ⟨b.perm,b.failed,by show(pendingOf st').push _=_;rw[b.pend];rfl,u⟩
 simp only[sb.size,mr]
 refine Mc (wpS_mono (wpS_forRange
  (I:=fun x c st'=>(x=0/\c=(none,0)/\st'=st)∨(1<=x/\c=(none,a₀.size)/\(arrOf st').Perm a₀/\failedOf st'=none/\pendingOf st'=#[(0,a₀.size,0)]/\Up a₀.size (arrOf st') a₀.size))
  (Q:=fun c st'=>c=(none,a₀.size)/\(arrOf st').Perm a₀/\failedOf st'=none/\pendingOf st'=#[(0,a₀.size,0)]/\Up a₀.size (arrOf st') a₀.size) ?step ?fin (.inl ⟨rfl,rfl,rfl⟩)) ?post)
 case fin=>
  rintro c st' (⟨z,_,_⟩ | ⟨_,r⟩)
  ·omega
  ·exact r
 case step=>
  rintro x c st' _ hx (⟨rfl,rfl,rfl⟩ | ⟨_,rfl,r⟩)
  ·dsimp only
   rw[Jl ⋯];simp only[Y8,Yv,Vq];refine Mc (zRo ik (Qf _) ⋯ sb h0 fun m st2 sb2 m1 m2 u2=>?_)
   dsimp only
   by_cases c:m<a₀.size
   ·rw[Jk c]
    refine Mc (wpS_lift (wpAny_rule ⟨rfl,?_⟩))
    refine Mc (zPE ik (Qf _) m1 m2 sb2 u2 fun st3 sb3 u3=>?_)
    rw[Bool.not_true,Jl X8];refine Mc (wpS_get ?_)
    rw[show(pendingOf st3).back?=none by rw[sb3.pend];rfl];dsimp only
    exact Mc (wpS_modify (wpS_pure (.inr ⟨by omega,rfl,fin st3 sb3 u3⟩)))
   ·rw[Jl c]
    have mm:m=a₀.size:=by omega
    subst mm;refine Mc (wpS_get ?_)
    rw[show(pendingOf st2).back?=none by rw[sb2.pend];rfl];dsimp only
    exact Mc (wpS_modify (wpS_pure (.inr ⟨by omega,rfl,fin st2 sb2 u2⟩)))
  ·dsimp only
   rw[Jk (Qf _)];exact wpS_pure ⟨rfl,r⟩
 case post=>
  rintro c st' ⟨rfl,p1,p2,p3,p4⟩
  dsimp only
  refine Mc (wpS_mono (wpS_forRange (I:=fun _ c st2=>st2=st'/\c=(none,())) (Q:=fun c st2=>st2=st'/\c=(none,())) ?_ (fun _ _ z=>z) ⟨rfl,rfl⟩) ?_)
  ·rintro x c st2 _ _ ⟨rfl,rfl⟩
   refine Mc (wpS_get ?_)
   rw[Jk (by rw[p3];exact Qf 1)];exact wpS_pure ⟨rfl,rfl⟩
  ·rintro c st2 ⟨rfl,rfl⟩
   exact wpS_pure (h _ p1 p2 p4)
end
end L3
namespace L3
open PySem PySem.Spec PyProof.Rows L2
unseal PEd PEf PTd PWd PAd PSd eH POd PGd iO PId PSx mC PTs PCd PCf
local macro_rules | `(⋯)=>`(by omega)
section
variable{prog:Jf}{w:Jg}{A:Jh}{E:Ja->Jb->Prop}{s:Jb}
def zAC{r:Jc}{a b c:Int}{t u v:Tok}{n:Nat}{R:List Ja->Jb->Prop}(hh:A.handled=none)(hr:IsRange s.heap r a b c t u v)(hsmall:Builtin.Range.small a b c=true)(hn:Builtin.Range.rangeSize a b c=n)(hlen:n<=2^24)
  (h:∀ h' tk acc,(∀ b o,s.heap.get? b=some o->h'.get? b=some o)->s.heap.objs.size<=h'.objs.size->ItemsOf (fun i v=>∃ t,v=.int (a+i*c) t) acc n->R acc.toList { s with heap:=h',toks:=tk }):
  wpAny (model prog w) A (collect (.ref r)) R E s:=by
 unfold collect;refine Jr (wpAny_runValue (codeAny_builtin entry_proto_collect' ?_))
 rw[Around.under_plainId PySem.F.plain_proto_collect _];show wpAny _ A.in1 (newList [] >>= fun l=>again (.builtin "list.__iadd__" ⟨[l,.ref r],[]⟩)) _ _ s
 refine Jr (wpAny_newObj_type ?_)
 refine Ju ⟨plainId_quiet Qam _,codeAny_builtin entry_list_iadd' ?_⟩
 rw[Around.under_plainId Qam _];have hS₁:(s.heap.push { cls:=.type "list", data:=.seq ([]:List Ja).toArray }).get? s.heap.objs.size=some { cls:=.type "list", data:=.seq #[] }:=Heap.get?_push_size _ rfl;show wpAny _ A.in1 (Builtin.List.listExtendWith (.ref s.heap.objs.size) (.ref r) (.ref s.heap.objs.size)) _ _ _
 have key:=wpAny_extend_range (prog:=prog) (w:=w) (A:=A) (s:={ s with heap:=s.heap.push { cls:=.type "list", data:=.seq ([]:List Ja).toArray } })
  (R:=fun(q:Result) (s':Jb)=>∃(h':Je)(tk:Nat)(acc':Array Ja)(c':Nat),q=.ok (.ret (.ref s.heap.objs.size))/\s'={ s with heap:=h',toks:=tk }/\
   (∀ b o,s.heap.get? b=some o->h'.get? b=some o)/\h'.get? s.heap.objs.size=some { cls:=.type "list", dict:=none,data:=.seq acc' c',slots:=#[] }/\ItemsOf (fun i v=>∃ t,v=.int (a+i*c) t) acc' n)
  hh (Heap.get?_push_of_some _ hr) hsmall hn hlen s.heap.objs.size (.ref s.heap.objs.size) 0 hS₁
  (fun h' tk acc' c' hk hS' hacc=>⟨h',tk,acc',c',rfl,rfl,fun b o e=>hk b o (Qs (Heap.lt_size e)) (Heap.get?_push_of_some _ e),hS',hacc⟩)
 refine wpAny_mono key (fun fin s' x=>?_) fun e s' x=>?_
 ·cases fin with
  | done f=>
   obtain⟨h',tk,acc',c',e,rfl,hk,hS',hacc⟩:=x;cases e;show wpAny _ A (load s.heap.objs.size >>= _) _ _ _
   refine Jr (wpAny_load hS' ?_)
   exact Ju (h h' tk acc' hk (Xn (Heap.lt_size hS')) hacc)
  | again c₁=>
   refine⟨x.1,codeAny_mono x.2 fun q s₂ y=>?_⟩
   obtain⟨h',tk,acc',c',rfl,rfl,hk,hS',hacc⟩:=y;show wpAny _ A (load s.heap.objs.size >>= _) _ _ _
   refine Jr (wpAny_load hS' ?_)
   exact Ju (h h' tk acc' hk (Xn (Heap.lt_size hS')) hacc)
 ·obtain⟨_,_,_,_,e',_⟩:=x
  cases e'
end
section
variable{X:Cx}{Mh:List (Jc×Obj)}{σ:St}{H:Hp}{s:Jb}{A:Jh}{E:Ja->Jb->Prop}{a kS:Jc}{vs:List Ja}{kz:List Int}{keys:Array Ja}{e e1:Nat}{P:PySem.Fin->Jb->Prop}
def qW{h':Je}{tk:Nat}(f:tT X Mh H a)(I:Inv X Mh σ H s)(sb:Heap.SameBut a s.heap h'):Inv X Mh σ H { s with heap:=h',toks:=tk }:=by
 obtain⟨f0,f1,f2,f3,f4,f5⟩:=f;exact I.turned (fun b o hb e=>(sb.2 b hb).trans e) f0 f1 f3 f4 f5
def KsS(kz:List Int)(vs out:List Ja):Prop:=∃ ps:List (Int×Ja),ps.Perm (kz.zip vs)/\out=ps.map Prod.snd/\ps.Pairwise fun p q=>p.1<q.1∨p.1=q.1/\numOf p.2<numOf q.2
def zNv{xs:Array Keyed}{n:Nat}(hk:IntsAre keys.toList kz)(hp:xs.Perm (keys.zip vs.toArray))(up:Up n xs xs.size):KsS kz vs (xs.map (·.2)).toList:=by
 have hl:xs.toList.Perm (keys.toList.zip vs):=by
  have z:=Array.perm_iff_toList_perm.mp hp;rwa [Array.toList_zip,Wu] at z
 refine⟨xs.toList.map fun p=>(numOf p.1,p.2),?_,?_,?_⟩
 ·have z:=hl.map (fun p=>(numOf p.1,p.2))
  rw[<-hk.nums,List.zip_map_left];exact z
 ·rw[Array.toList_map,Qx];rfl
 ·rw[Xa,Yt]
  intro i j hi hj hij;rw[Xy] at hi hj;have z:=up.so i j hij hj;rw[K_eq hi,K_eq hj] at z;have iv:∀ k (h:k<xs.size),Iv xs k=numOf xs[k].2:=fun k h=>by unfold Iv;rw[getElem?_pos xs k h]
  rw[iv i hi,iv j hj] at z;exact z
def zNc(hsz:keys.size=vs.length)(hv:∀ (j:Nat) (v:Ja),vs[j]?=some v->∃ t,v=.int j t)(i:Nat)(hi:i<(keys.zip vs.toArray).size):Iv (keys.zip vs.toArray) i=i:=by
 have h2:i<vs.length:=by rw[Wv,hsz,Qj,Yv] at hi;exact hi
 obtain⟨t,ht⟩:=hv i _ (Qm h2);unfold Iv;rw[getElem?_pos _ i hi];show numOf ((keys.zip vs.toArray)[i]).2=_
 rw[Array.getElem_zip];show numOf (vs.toArray[i])=_
 rw[List.getElem_toArray,ht];rfl
def zIS{st:SortSt}(I:Inv X Mh σ H s)(fa:tT X Mh H a)(fk:tT X Mh H kS)(hka:kS≠a)(nk:s.heap.get? kS=some (seqObj "list" keys e))(na:s.heap.get? a=some (seqObj "list" #[] e1))
  (hk:IntsAre keys.toList kz) (hlen:kz.length=vs.length) (h64:vs.length<64) (hp:(arrOf st).Perm (keys.zip vs.toArray)) {n:Nat} (hs:Up n (arrOf st) (arrOf st).size) (hfl:failedOf st=none)
  (h:∀ s' out c,Inv X Mh σ H s'->s'.heap.get? a=some (seqObj "list" out c)->KsS kz vs out.toList->P (.done (.ret .none)) s'):
  wpAny (model X.prog X.w) A (ksk_tail a false e1 (.ref kS) st) P E s:=by
 have hsz:keys.size=vs.length:=by
  have h1:=hk.length;rw[Xy] at h1;omega
 have hsz2:(arrOf st).size=vs.length:=by rw[hp.size_eq,Wv,hsz,Qj,Yv]
 have hout:((arrOf st).map (·.2)).size=vs.length:=by rw[Array.size_map];exact hsz2
 have s1:=Heap.SameBut.update s.heap kS (Obj.mapSeq fun _=>(#[]:Array Ja))
 have na1:(s.heap.update kS (Obj.mapSeq fun _=>(#[]:Array Ja))).get? a=some (seqObj "list" #[] e1):=(s1.2 a hka.symm).trans na
 have s2:=Heap.SameBut.update (s.heap.update kS (Obj.mapSeq fun _=>(#[]:Array Ja))) a (Obj.mapSeq fun _=>(arrOf st).map (·.2))
 obtain⟨c2,hc2⟩:∃ c2,((s.heap.update kS (Obj.mapSeq fun _=>(#[]:Array Ja))).update a (Obj.mapSeq fun _=>(arrOf st).map (·.2))).get? a=some (seqObj "list" ((arrOf st).map (·.2)) c2):=
  ⟨_,get?_update_seq na1 fun _=>(arrOf st).map (·.2)⟩
 unfold ksk_tail;try dsimp only
 refine Jr (listUpdate_at nk rfl ?_ (by rw[hsz,Jw];omega) (Vi _))
 refine Jr (wpAny_letGo ?_)
 refine Jr (seqEpoch_at na1 rfl ?_)
 refine Jr (listUpdate_at na1 rfl ?_ (Vi _) (by simp only[Yi,if_false];exact Q4 (Ww hout) (by rw[Jw];omega)))
 rw[hfl];simp only[bne_self_eq_false,Yi,if_false];have I1:Inv X Mh σ H { s with heap:=s.heap.update kS (Obj.mapSeq fun _=>(#[]:Array Ja)) }:=qW fk (tk:=s.toks) I s1
 have I2:Inv X Mh σ H { s with heap:=(s.heap.update kS (Obj.mapSeq fun _=>(#[]:Array Ja))).update a (Obj.mapSeq fun _=>(arrOf st).map (·.2)) }:=(by have z:=qW (tk:=s.toks) fa I1 s2;exact z)
 exact Ju (h _ _ c2 I2 hc2 (zNv hk hp hs))
def zQv(I:Inv X Mh σ H s)(fa:tT X Mh H a)(fk:tT X Mh H kS)(hka:kS≠a)(nk:s.heap.get? kS=some (seqObj "list" keys e))(na:s.heap.get? a=some (seqObj "list" #[] e1))
  (hk:IntsAre keys.toList kz) (hlen:kz.length=vs.length) (h64:vs.length<64)
  (hv:∀(j:Nat)(v:Ja),vs[j]?=some v->∃ t,v=.int j t)
  (h:∀ s' out c,Inv X Mh σ H s'->s'.heap.get? a=some (seqObj "list" out c)->KsS kz vs out.toList->P (.done (.ret .none)) s'):
  wpAny (model X.prog X.w) A (ksk_end a false vs.toArray e1 (.ref kS) keys) P E s:=by
 have hsz:keys.size=vs.length:=by
  have h1:=hk.length;rw[Xy] at h1;omega
 have hzs:(keys.zip vs.toArray).size=vs.length:=by rw[Wv,hsz,Qj,Yv]
 unfold ksk_end;try dsimp only
 simp only[Yi,if_false];by_cases h2:vs.toArray.size<2
 ·rw[Jk h2,Jk h2]
  refine Jr (Ju ?_)
  rw[StateT.run_pure];refine Jr (Ju ?_)
  try dsimp only
  rw[Qj] at h2;refine zIS (st:=SortSt.mk' general' (keys.zip vs.toArray) #[] 7 none) (n:=0) I fa fk hka nk na hk hlen h64 (Array.Perm.refl _) ⟨fun i j l hj=>?_,fun i hi=>?_,fun i _ z=>by omega⟩ rfl h
  ·have hj2:j<(keys.zip vs.toArray).size:=hj
   rw[hzs] at hj2;omega
  ·have z:=zNc hsz hv i hi
   show Iv (keys.zip vs.toArray) i<_
   rw[z];exact_mod_cast hi
 ·rw[Jl h2,Jl h2]
  rw[Qj] at h2;rw[ksk_kind hk (by rw[hsz];omega)];refine Jr (Ju ?_)
  refine Jr (wpAny_mono (zPb (a₀:=keys.zip vs.toArray) (st:=SortSt.mk' oneType' (keys.zip vs.toArray) #[] 7 none)
   (Q:=fun _ st'=>(arrOf st').Perm (keys.zip vs.toArray)/\failedOf st'=none/\Up (keys.zip vs.toArray).size (arrOf st') (keys.zip vs.toArray).size)
   (ksk_intKeys hk) ⟨Array.Perm.refl _,rfl,rfl,rfl⟩ (by rw[hzs];omega) (by rw[hzs];exact h64) (zNc hsz hv) fun st' a1 a2 a3=>⟨a1,a2,a3⟩) ?_ fun _ _ e=>e)
  rintro⟨⟨⟩,st'⟩ s' ⟨rfl,hp,hf,hs⟩
  try dsimp only
  exact zIS (n:=(keys.zip vs.toArray).size) I fa fk hka nk na hk hlen h64 hp (by rw[hp.size_eq];exact hs) hf h
def zNB{f:Ja}{e0:Nat}(I:Inv X Mh σ H s)(fa:tT X Mh H a)(fk:tT X Mh H kS)(hka:kS≠a)(nk:s.heap.get? kS=some (seqObj "list" #[] e0))(na:s.heap.get? a=some (seqObj "list" #[] e1))
  (hlen:kz.length=vs.length) (h64:vs.length<64)
  (hv:∀(j:Nat)(v:Ja),vs[j]?=some v->∃ t,v=.int j t)
  (turn:∀(i:Nat)(v:Ja)(k:Int),vs[i]?=some v->kz[i]?=some k->∀(s':Jb)(pl:List (Jc×Obj)),Inv X (Mh++pl) σ H s'->
   wpAny (model X.prog X.w) A (call f [v]) (fun u s''=>(∃ t,u=.int k t)/\Inv X (Mh++pl) σ H s'') (fun _ _=>False) s')
  (h:∀ s' out c,Inv X Mh σ H s'->s'.heap.get? a=some (seqObj "list" out c)->KsS kz vs out.toList->P (.done (.ret .none)) s'):
  wpAny (model X.prog X.w) A (ksk_rest a f false vs.toArray e1 (.ref kS)) P E s:=by
 unfold ksk_rest;refine Jr (wpAny_rule ?_)
 first
  | rw[List.forIn_toArray]
  | (rw[<-Array.forIn_toList];simp only[Wu])
  | rw[<-Array.forIn_toList]
 refine Jr (ksk_fold (fun i s'=>∃ kA e,Inv X Mh σ H s'/\s'.heap.get? kS=some (seqObj "list" kA e)/\s'.heap.get? a=some (seqObj "list" #[] e1)/\IntsAre kA.toList (kz.take i)) vs 0 s
  ⟨#[],e0,I,nk,na,by simpa using IntsAre.nil⟩ ?step ?done)
 case step=>
  rintro j x s' hx ⟨kA,e,I',nk',na',hk⟩
  simp only[Vq] at hk ⊢
  have hj:j<vs.length:=(Qy.mp hx).1;obtain⟨k,hkj⟩:∃ k,kz[j]?=some k:=⟨_,Qm ⋯⟩
  have hz:kA.size<=vs.length:=by
   have h1:=hk.length;rw[Xy,Xo] at h1;omega
  have pin:∀ b∈[kS,a],∃ o,s'.heap.get? b=some o/\∀ v,o.data≠.cell v:=fun b hb=>by
   rcases Qd.mp hb with rfl | hb
   ·exact⟨_,nk',fun v z=>by have z':Data.seq _ _=Data.cell v:=z;cases z'⟩
   ·rw[Qw.mp hb];exact⟨_,na',fun v z=>by have z':Data.seq _ _=Data.cell v:=z;cases z'⟩
  have Ip:Inv X (Mh++vT [kS,a] s'.heap) σ H s':=I'.pinned (fun b hb=>by
   rcases Qd.mp hb with rfl | hb
   ·exact fk
   ·rw[Qw.mp hb];exact fa) pin
  refine Jr (wpAny_attempt (wpAny_mono (turn j x k hx hkj s' _ Ip) (fun v s'' he=>?_) fun _ _ hF=>hF.elim))
  obtain⟨⟨t2,rfl⟩,I2p⟩:=he;try dsimp only
  have nk2:s''.heap.get? kS=some (seqObj "list" kA e):=(I2p.pin _ (Q2 _ (Q2 _ (fL (b:=kS) (by simp) nk')))).1
  have na2:s''.heap.get? a=some (seqObj "list" #[] e1):=(I2p.pin _ (Q2 _ (Q2 _ (fL (b:=a) (by simp) na')))).1
  have I2:Inv X Mh σ H s'':=I2p.unpinned;have s1:=Heap.SameBut.update s''.heap kS (Obj.mapSeq (·.push (.int k t2)));obtain⟨c2,hc2⟩:∃ c2,(s''.heap.update kS (Obj.mapSeq (·.push (.int k t2)))).get? kS=some (seqObj "list" (kA.push (.int k t2)) c2):=⟨_,get?_update_seq nk2 (·.push (.int k t2))⟩;have ek:kz.take (j+1)=kz.take j++[k]:=by rw[List.take_add_one,hkj];simp
  have ea:(kA.push (Value.int k t2)).toList=kA.toList++[Value.int k t2]:=by simp
  refine Jr (listUpdate_at nk2 rfl ?_ (by rw[Jw];omega) (Q4 (Ww (Array.size_push ..)) (by rw[Jw];omega)))
  exact Ju ⟨rfl,kA.push (.int k t2),c2,qW fk (tk:=s''.toks) I2 s1,hc2,(s1.2 a hka.symm).trans na2,by rw[ea,ek];exact ksk_snoc hk⟩
 case done=>
  rintro s' ⟨kA,e,I',nk',na',hk⟩
  have hk':IntsAre kA.toList kz:=by
   have e3:kz.take (0+vs.length)=kz:=Xr ⋯
   rw[e3] at hk;exact hk
  try dsimp only
  refine Jr (listItems_at nk' rfl ?_)
  exact zQv I' fa fk hka nk' na' hk' hlen h64 hv h
def pC(v:Ja):Nat:=(numOf v).toNat
def zPi{out:List Ja}(hlen:kz.length=vs.length)(hv:∀ (j:Nat) (v:Ja),vs[j]?=some v->∃ t,v=.int j t)(h:KsS kz vs out):gG kz (out.map pC)/\dF ((out.map pC).map fun i:Nat=>V.int (i:Int)) out:=by
 obtain⟨ps,hp,ho,hs⟩:=h
 have at':∀ p,p∈kz.zip vs->∃(j:Nat)(t:Tok),p.2=.int j t/\kz[j]?=some p.1:=fun p hm=>by
  obtain⟨j,hj,e⟩:=Qan.mp hm;rw[Wx] at hj;rw[List.getElem_zip] at e;obtain⟨t,ht⟩:=hv j (vs[j]'⋯) (Qm _)
  refine⟨j,t,by rw[<-e];exact ht,by rw[<-e];exact Qm _⟩
 have n1:∀(j:Nat)(t:Tok),pC (.int j t)=j:=fun j t=>by unfold pC;show(Int.toNat (j:Int))=j;rfl
 have hvs:vs.map pC=List.range kz.length:=by
  refine Yy fun j=>?_
  rw[Qt];by_cases hj:j<vs.length
  ·obtain⟨t,ht⟩:=hv j _ (Qm hj)
   rw[Qm hj,ht,V8 ⋯];show some (pC _)=_
   rw[n1]
  ·rw[Q5 ⋯,Q5 (by rw[Q3];omega)];rfl
 subst ho;refine⟨⟨?_,?_,?_⟩,?_⟩
 ·have h1:((ps.map Prod.snd).map pC).Perm (((kz.zip vs).map Prod.snd).map pC):=(hp.map _).map _
  rw[List.map_snd_zip ⋯,hvs] at h1;exact h1
 ·rw[Qx,Xa]
  refine X5 (fun {p q} hm hq hr=>?_) hs
  have hr':p.1<=q.1:=by rcases hr with z | z<;>omega
  obtain⟨i,t,e1,e2⟩:=at' p (hp.mem_iff.mp hm);obtain⟨j,u,e3,e4⟩:=at' q (hp.mem_iff.mp hq);show kz.getD (pC p.2) 0<=kz.getD (pC q.2) 0
  rw[e1,e3,n1,n1,Qv,Qv,e2,e4];exact hr'
 ·rw[Qx,Xa]
  refine X5 (fun {p q} hm hq hr=>?_) hs
  obtain⟨i,t,e1,e2⟩:=at' p (hp.mem_iff.mp hm);obtain⟨j,u,e3,e4⟩:=at' q (hp.mem_iff.mp hq);show kz.getD (pC p.2) 0=kz.getD (pC q.2) 0->pC p.2<pC q.2
  rw[e1,e3] at hr ⊢
  rw[n1,n1,Qv,Qv,e2,e4];intro z;have z':p.1=q.1:=z;rcases hr with y | y
  ·omega
  ·have:((i:Nat):Int)<(j:Nat):=y.2
   omega
 ·have go:∀ l:List Ja,(∀ v∈l,∃(j:Nat)(t:Tok),v=.int j t)->dF ((l.map pC).map fun i:Nat=>V.int (i:Int)) l:=by
   intro l
   induction l with
   | nil=>intro _;exact .nil
   | cons v r ih=>
    intro hl;obtain⟨j,t,rfl⟩:=hl v (.head _);exact .cons ⟨t,by rw[n1]⟩ (ih fun u hu=>hl u (.tail _ hu))
  refine go _ fun v hv'=>?_
  obtain⟨p,hm,rfl⟩:=Ql.mp hv';obtain⟨j,t,e1,_⟩:=at' p (hp.mem_iff.mp hm);exact⟨j,t,e1⟩
def zIb{r q:Jc}{n:Nat}{t u v:Tok}{Q:Ja->Jb->Prop}(hc:X.calm=true)(I:Inv X Mh σ H s)(hr:IsRange s.heap r 0 n 1 t u v)(h64:n<64)(hkz:kz.length=n)
  (turn:∀(j:Nat)(tk:Tok)(k:Int),kz[j]?=some k->∀(s':Jb)(pl:List (Jc×Obj)),Inv X (Mh++pl) σ H s'->
   wpAny (model X.prog X.w) X.A.in1.in1 (call (.ref q) [.int j tk]) (fun u s''=>(∃ t,u=.int k t)/\Inv X (Mh++pl) σ H s'') (fun _ _=>False) s')
  (h:∀ D s' out c π,Inv X Mh σ H s'->tT X Mh H D->s.heap.objs.size<=D->s'.heap.get? D=some (seqObj "list" out c)->gG kz π->dF (π.map fun i:Nat=>V.int (i:Int)) out.toList->Q (.ref D) s'):
  wpAny (model X.prog X.w) X.A (call (.builtin "sorted") [.ref r] [(Str.ofString "key", .ref q)]) Q E s:=by
 refine call_function_entry_kw kind_sorted plain_sorted entry_sorted (ksk_s1 _ _) ?_
 unfold Builtin.«sorted»
 refine Jr (m:=checkCount "sorted" 1 1 _) (Ju ?_)
 refine Jr (zAC (n:=n) (A:=X.A.in1) (I.ok.hd hc) hr (small_one ⋯ ⋯ ⋯ ⋯) (by rw[rangeSize_one];split<;>omega) ⋯ fun h1 tk acc hk hsz hacc=>?_)
 have hl:acc.toList.length=n:=by rw[Xy];exact hacc.1
 refine Jr (wpAny_newList ?_ (by rw[hl,Jw];omega))
 have I1:Inv X Mh σ H { s with heap:=h1,toks:=tk }:=I.kept hk;have fa:tT X Mh H h1.objs.size:=I1.fpOk (Qf _) (I1.hok.fresh (Qf _));have I2:Inv X Mh σ H { s with heap:=h1.push (seqObj "list" acc.toList.toArray 0),toks:=tk }:=I1.kept (t':=tk) fun b o e=>Heap.get?_push_of_some _ e
 have hoL:(h1.push (seqObj "list" acc.toList.toArray 0)).get? h1.objs.size=some (seqObj "list" acc.toList.toArray 0):=Heap.get?_push_size _ rfl;show wpAny _ _ _ _ _ { s with heap:=h1.push (seqObj "list" acc.toList.toArray 0),toks:=tk }
 refine Jr (wpAny_holding (wpAny_call_entry_kw slot_list_sort ⟨_,hoL,rfl⟩ entry_list_sort ?body (ksk_l1 _ _)))
 case body=>
  show wpAny (model X.prog X.w) X.A.in1.in1 (Builtin.«list.sort» ⟨[.ref h1.objs.size],[(Str.ofString "key", .ref q)]⟩) _ _ _
  rw[ksk_t1];have s3:=Heap.SameBut.update (h1.push (seqObj "list" acc.toList.toArray 0)) h1.objs.size (Obj.mapSeq fun _=>(#[]:Array Ja))
  obtain⟨e1,ho1⟩:∃ e1,((h1.push (seqObj "list" acc.toList.toArray 0)).update h1.objs.size (Obj.mapSeq fun _=>(#[]:Array Ja))).get? h1.objs.size=some (seqObj "list" #[] e1):=⟨_,get?_update_seq hoL fun _=>#[]⟩
  have I3:Inv X Mh σ H { s with heap:=(h1.push (seqObj "list" acc.toList.toArray 0)).update h1.objs.size (Obj.mapSeq fun _=>(#[]:Array Ja)),toks:=tk }:=(by have z:=qW (tk:=tk) fa I2 s3;exact z)
  generalize hg3:(h1.push (seqObj "list" acc.toList.toArray 0)).update h1.objs.size (Obj.mapSeq fun _=>(#[]:Array Ja))=h3 at s3 ho1 I3
  unfold ksk_tree;refine Jr (listItems_at hoL rfl ?_)
  refine Jr (listUpdate_at hoL rfl ?_ (by rw[Qj,Jw];omega) (Vi _))
  show wpAny _ _ _ _ _ { s with heap:=(h1.push (seqObj "list" acc.toList.toArray 0)).update h1.objs.size (Obj.mapSeq fun _=>(#[]:Array Ja)),toks:=tk }
  rw[hg3];refine Jr (seqEpoch_at ho1 rfl ?_)
  refine Jr (wpAny_newTuple ?_ (by show acc.toList.toArray.toList.length<=_;rw[Jw,Wu];omega))
  refine Jr (wpAny_newList ?_ (Vi _))
  refine wpAny_holding ?_
  have I4:Inv X Mh σ H { s with heap:=h3.push (seqObj "tuple" acc.toList.toArray 0),toks:=tk }:=I3.kept (t':=tk) fun b o e=>Heap.get?_push_of_some _ e
  have fk:tT X Mh H (h3.push (seqObj "tuple" acc.toList.toArray 0)).objs.size:=I4.fpOk (Qf _) (I4.hok.fresh (Qf _));have I5:Inv X Mh σ H { s with heap:=(h3.push (seqObj "tuple" acc.toList.toArray 0)).push (seqObj "list" #[] 0),toks:=tk }:=I4.kept (t':=tk) fun b o e=>Heap.get?_push_of_some _ e
  have ho4:(h3.push (seqObj "tuple" acc.toList.toArray 0)).get? h1.objs.size=some (seqObj "list" #[] e1):=Heap.get?_push_of_some _ ho1
  have hvv:∀(j:Nat)(v:Ja),acc.toList[j]?=some v->∃ t,v=.int j t:=fun j v' hj=>by
   obtain⟨tk',rfl⟩:=hacc.2 j v' (by rw[<-We];exact hj)
   exact⟨tk',by congr 1;omega⟩
  refine zNB (vs:=acc.toList) (kz:=kz) (e0:=0) I5 fa fk (Yp (Heap.lt_size ho4)) (Heap.get?_push_size _ rfl) (Heap.get?_push_of_some _ ho4) (by rw[hkz,hl]) (by rw[hl];exact h64) hvv (fun i v' k hi hk' s' pl Ip=>?_) fun s' out c I' ho' ko=>?_
  ·obtain⟨tk',rfl⟩:=hacc.2 i v' (by rw[<-We];exact hi)
   have e3:(0:Int)+(i:Int)*1=(i:Int):=by omega
   rw[e3];exact turn i tk' k hk' s' pl Ip
  ·obtain⟨hπ,hV⟩:=zPi (by rw[hkz,hl]) hvv ko
   exact⟨_,rfl,Ju ⟨_,rfl,h _ s' out c _ I' fa hsz ho' hπ hV⟩⟩
end
end L3
namespace L3
open PySem PySem.Spec PyProof.Rows L2 PySem.W
unseal PEd PEf PTd PWd PAd PSd eH POd PGd iO PId PSx mC PTs PCd PCf
local macro_rules | `(∅)=>`(by decide)
def zTH:CXT:=fun _ _ _ _ _ _=>False
def cxL(P:Jf)(w:Jg)(K:PySem.W.Frag)(mg:Str->Option Ja)(base:Je)(N:List Str)(qual:Str)(scope:Scope)(f:Jc)(cd:Ja)(cl:List (Str×Jc))(A:Jh)(outer:List Env)(s:Jb)(H:Hp):Cx where
 prog:=P
 w:=w
 K:=K
 mg:=mg
 base:=base
 A:=A.deeper (envX qual scope s.heap.objs.size f cd cl)
 N:=N
 s₀:=s
 H₀:=H
 env:=envX qual scope s.heap.objs.size f cd cl
 outer:=outer
 stack:=envX qual scope s.heap.objs.size f cd cl::outer
 ex:=[]
 fn:=fun _=>false
 calm:=true
 pn:=[]
 xe:=fun _ _=>False
def zOn{P:Jf}{w:Jg}{K:Fg_}{mg:Str->Option Ja}{base:Je}{N:List Str}{qual name:Str}{scope:Scope}{f c':Jc}{cl:List (Str×Jc)}{A:Jh}{outer:List Env}{s:Jb}{H:Hp}{params:Arguments}{body:Expr}{pm ctv u:Ja}{p:Str}{σ:St}{Q:VK}{E:XK}{t:TE}
  (hd:A.handled=none) (hdp:A.depth<recursionLimit) (e0:Env0 P w K mg base A outer s H) (ho:s.heap.get? f=some (kla_obj name qual params body scope cl pm c' ctv)) (hcd:s.heap.CodeRec (.ref c') qual)
  (hbind:bindArgs (kla_fn name qual params body scope cl pm (.ref c') ctv) ⟨[u],[]⟩=pure [(p,u)]) (hloc:scope.names.lookup p=some .local)
  (hco:scope.isCoroutine=false) (hgen:scope.isGenerator=false) (hk:scope.kind=.function) (hcell:∀ x∈scope.names,x.2≠.cell)
  (hfree:∀ x,scope.names.lookup x=some .free->∃ c,cl.lookup x=some c) (hinj:∀ x y c,cl.lookup x=some c->cl.lookup y=some c->x=y)
  (hcl:∀ x c,cl.lookup x=some c->(∃ v,s.heap.IsCell c v)/\H c=none) (hlen:σ.length=N.length)
  (hσ:∀(i:Nat)(x:Str)(v:V),N[i]?=some x->σ[i]?=some (some v)->(x=p/\cX v u)∨(scope.names.lookup x=some .free/\∃ c u',cl.lookup x=some c/\s.heap.IsCell c (some u')/\cX v u'))
  (hb:PE (cxL P w K mg base N qual scope f (.ref c') cl A outer s H) body t) (hq:t σ H Q):
  codeAny (model P w) A (.call (.ref f) ⟨[u],[]⟩) (CR zTH outer P w H s Q E) s:=by
 have lim:s.heap.NoLimit:=e0.mod.nolimit.keeps fun b o e=>(e0.bs b o e).1
 refine kla_callFunE hdp ho rfl hco hgen rfl hcd ?_
 rw[hbind];refine Ju (wpAny_newFunctionEnv hcell (fun y hy=>by rw[Qw.mp hy];exact hloc) (fun h₁ hns hsb=>⟨lim.fresh _ hsb,?_⟩) hk)
 have hk₁:∀ b o,s.heap.get? b=some o->h₁.get? b=some o:=fun b o e=>hsb.extBut b o (Qs (Heap.lt_size e)) (Heap.get?_push_of_some _ e)
 have noA:∀ b:Jc,b∉(cxL P w K mg base N qual scope f (.ref c') cl A outer s H).ex:=fun b z=>absurd (show b∈([]:List Jc) from z) (by simp)
 have I:Inv (cxL P w K mg base N qual scope f (.ref c') cl A outer s H) [] σ H { s with heap:=h₁,toks:=s.toks+1 }:=by
  refine⟨⟨e0.mod,hk,rfl,rfl,Qf _,hinj,fun y hy=>?_,fun y c z _=>?_,fun _=>hd,Around.frames_deeper e0.frames,.inr ⟨rfl,rfl⟩,fun b z=>absurd z (noA b),e0.bs,e0.bsz,fun b _ _=>noA b,fun b z=>absurd z (noA b),e0.funs,e0.frf⟩,
   rfl,e0.bare,Un.kept hk₁,⟨_,hns,fun i y v h1 h2 h3=>?_⟩,fun y c h=>?_,e0.hok.fresh (Qf _),fun y c h=>(hcl y c h).2,fun p hp=>absurd (show p∈([]:List (Jc×Obj)) from hp) (by simp),e0.hok.kept hk₁,hlen⟩
  ·have hy:scope.names.lookup y=some .cell∨scope.names.lookup y=some .free:=hy
   rcases hy with hy | hy
   ·exact absurd rfl (hcell _ (Xz hy))
   ·exact hfree y hy
  ·cases z
  ·rcases hσ i y v h1 h2 with⟨rfl,r⟩ | ⟨hf,c,u',h4,⟨o,h5,h6⟩,r⟩
   ·exact⟨u,r,.inl ⟨hloc,by simp[List.lookup]⟩⟩
   ·exact⟨u',r,.inr ⟨.inr hf,c,h4,o,hk₁ _ _ h5,h6⟩⟩
  ·obtain⟨⟨v,o,h5,h6⟩,_⟩:=hcl y c h
   exact⟨v,o,hk₁ _ _ h5,h6⟩
 refine kla_codeExpr (wpAny_mono (hb [] _ σ H Q I hq) (fun v s' z=>?_) fun e s' z=>False.elim z)
 obtain⟨x,H',J,r,q⟩:=z;exact⟨x,H',J.os,J.bare,J.base,J.hok,r,q⟩
def zKT{l:List Ja}{a b:Int}{c:Ja}(h:TriplesOk l):TriplesOk (l++[rawInt a,rawInt b,c]):=TriplesOk_snoc a b c l h
def zGy{pos q:Pos}{c x:Ja}(l:List Ja)(h:TriplesOk l)(e:codeAmong q (l++[rawInt pos.line,rawInt pos.col,c])=some x):codeAmong q l=some x∨x=c:=by
 fun_induction TriplesOk l with
 | case1=>
  simp only[Xp,codeAmong,rawInt] at e;split at e
  ·exact .inr (Ve e).symm
  ·cases e
 | case2 a t b u y rest ih=>
  simp only[Uc,codeAmong] at e ⊢
  split at e
  ·rename_i hc;rw[Jk hc];exact .inl e
  ·rename_i hc;rw[Jl hc];exact ih h e
 | case3 l h1 h2=>exact h.elim
def BMn(base:Je)(mg:Str->Option Ja):Prop:=∃ bm ob,mg "__builtins__" = some (.ref bm)/\bm≠builtinsNs/\base.get? bm=some ob/\ob.cls=.type "module" /\ ob.dict=some builtinsNs/\ob.data=.plain
section
variable{X:Cx}{Mh:List (Jc×Obj)}{r:St}{H:Hp}{s:Jb}{P c c':Jc}
def zLd{ps more:Array Ja}{h':Je}{tk:Nat}{oc:Obj}(I:Inv X Mh r H s)(hP:H P=some (.tbl ps))(hx:Heap.ExtBut P s.heap h')(hge:s.heap.objs.size<=c')(hc:h'.get? c'=some oc)(hP':h'.get? P=some { cls:=.none,data:=.fields (ps++more) }):
  Inv X Mh r (upd (upd H P (.tbl (ps++more))) c' (.frz oc (.own 0))) { s with heap:=h',toks:=tk }:=by
 have nP:∀ {b:Jc},H b=none->b≠P:=fun e z=>by rw[z,hP] at e;cases e
 have cF:H c'=none:=I.hok.fresh hge;have nc:∀ {b:Jc} {o:Obj},s.heap.get? b=some o->b≠c':=fun e=>Qs (Qu (Heap.lt_size e) hge)
 have hPc:P≠c':=aX hP cF;have up:∀ {b:Jc},b≠P->b≠c'->upd (upd H P (.tbl (ps++more))) c' (.frz oc (.own 0)) b=H b:=fun h1 h2=>by rw[aV h2,aV h1]
 have upP:upd (upd H P (.tbl (ps++more))) c' (.frz oc (.own 0)) P=some (.tbl (ps++more)):=by rw[aV hPc,aS]
 have kd:∀ {b:Jc} {o:HO},H b=some o->(∀ qs,o≠.tbl qs)->upd (upd H P (.tbl (ps++more))) c' (.frz oc (.own 0)) b=some o:=fun {b o} e hn=>by
  rw[up (fun z=>by rw[z,hP] at e;exact hn ps (Ve e).symm) (aX e cF)];exact e
 refine I.un ⟨fun b o e n _ _=>hx b o (nP n) e,fun b o e n _ _=>⟨o.slots,hx b o (nP n) e⟩,fun b o e n _=>by rw[up (nP n) (nc e)];exact n,fun b o e _=>?_,fun b xs e=>kd e fun qs z=>(by cases z),fun b o u e=>kd e fun qs z=>(by cases z),fun b qs e=>?_⟩ fun b u e=>?_
 ·by_cases hb:b=P
  ·subst hb;exact⟨_,hP'⟩
  ·exact⟨o,hx b o hb e⟩
 ·by_cases hb:b=P
  ·subst hb
   rw[hP] at e;cases e
   exact⟨more,upP⟩
  ·exact⟨#[],by rw[up hb (aX e cF),e];simp⟩
 ·by_cases h2:b=c'
  ·subst h2
   rw[aS] at e;cases e
   exact⟨hc,oc,hc⟩
  ·by_cases h1:b=P
   ·subst h1
    rw[upP] at e;cases e
    exact hP'
   ·rw[up h1 h2] at e
    refine(I.hok b u e).stay (fun d v hd q=>hx d v (fun z=>?_) q) (fun d q=>kd q fun qs z=>(by cases z)) fun d xs q=>kd q fun qs z=>(by cases z)
    rcases hd with rfl | hd
    ·exact h1 z
    ·rw[z,hP] at hd;cases hd
def zJR{ps:Array Ja}{oc:Obj}{pos:Pos}{vs:Array Ja}{t:Tok}(hP:H P=some (.tbl ps))(cF:H c'=none)(hd:oc.data=.fields vs)(hv:vs[1]?=some (.str tU t)):
  Keep H (upd (upd H P (.tbl (ps++#[rawInt pos.line,rawInt pos.col,.ref c']))) c' (.frz oc (.own 0))):=by
 have hPc:P≠c':=aX hP cF;have upP:upd (upd H P (.tbl (ps++#[rawInt pos.line,rawInt pos.col,.ref c']))) c' (.frz oc (.own 0)) P=some (.tbl (ps++#[rawInt pos.line,rawInt pos.col,.ref c'])):=by rw[aV hPc,aS]
 have kd:∀ {b:Jc} {o:HO},H b=some o->b≠P->upd (upd H P (.tbl (ps++#[rawInt pos.line,rawInt pos.col,.ref c']))) c' (.frz oc (.own 0)) b=some o:=fun {b o} e hn=>by
  rw[aV (aX e cF),aV hn];exact e
 refine⟨fun b o e=>?_,fun Q T=>?_⟩
 ·by_cases hb:b=P
  ·subst hb
   rw[hP] at e;cases e
   exact .inr ⟨_,_,rfl,upP⟩
  ·exact .inl (kd e hb)
 ·obtain⟨qs,e,ht,k⟩:=T
  have old:∀(q:Pos)(cv:Ja),codeAmong q qs.toList=some cv->∃ c oc' vs t u,cv=.ref c/\upd (upd H P (.tbl (ps++#[rawInt pos.line,rawInt pos.col,.ref c']))) c' (.frz oc (.own 0)) c=some (.frz oc' u)/\oc'.data=.fields vs/\vs[1]?=some (.str tU t):=fun q cv z=>by
   obtain⟨c,oc',vs',t',u,r1,r2,r3⟩:=k q cv z;exact⟨c,oc',vs',t',u,r1,kd r2 (fun w=>by rw[w,hP] at r2;cases r2),r3⟩
  by_cases hb:Q=P
  ·subst hb
   rw[hP] at e;cases e
   have el:(ps++#[rawInt pos.line,rawInt pos.col,.ref c']).toList=ps.toList++[rawInt pos.line,rawInt pos.col,.ref c']:=by simp
   refine⟨_,upP,by rw[el];exact zKT ht,fun q cv z=>?_⟩
   rw[el] at z;rcases zGy _ ht z with z | z
   ·exact old q cv z
   ·exact⟨c',oc,vs,t,_,z,aS,hd,hv⟩
  ·exact⟨qs,kd e hb,ht,old⟩
def zMh{params:Arguments}{body:Expr}{scope:Scope}{pos:Pos}{clos:List (Str×Jc)}{M:Model}{A:Jh}{E:Ja->Jb->Prop}{Q:Ja->Jb->Prop}(I:Inv X Mh r H s)(tb:zDz P H)(hC:∀ h,X.K.In h->CodeHd h c P)(hcode:X.env.code=.ref c)(hq:X.env.qual ++ "<lambda>" = tU)(hB:BMn X.base X.mg)
  (hcl:closureFor scope X.env=pure clos) (hdef:defaultsOf params X.env=([],[]))
  (h:∀ f c' ctv oc vs t u H' s',Inv X Mh r H' s'->Keep H H'->(∀ b o,H b=some o->b≠P->H' b=some o)->tT X Mh H' f->s.heap.objs.size<=f->s'.heap.get? f=some (kla_obj "<lambda>" tU params body scope clos ((X.mg "__name__").getD .none) c' ctv)->
   H' c'=some (.frz oc u)->oc.data=.fields vs->vs[1]?=some (.str tU t)->Q (.ref f) s'):
  wpAny M A (eval (.Lambda params body scope pos) X.env) Q E s:=by
 obtain⟨ps,hP,ht,hk⟩:=id tb;have hPo:s.heap.get? P=some (tabObj ps):=I.hok P _ hP;have hg:s.heap.Ns mainGlobals X.mg:=I.mod.glob.keeps I.bk
 have hgP:mainGlobals≠P:=fun z=>by
  obtain⟨o,es,ep,e,_⟩:=I.mod.glob;have:=(I.bs _ _ e).2
  rw[z,hP] at this;cases this
 have hb:s.heap.BuiltinsAt X.mg P:=by
  obtain⟨bm,ob,b1,b2,b3,b4,b5,b6⟩:=hB;refine⟨bm,ob,b1,b2,fun z=>?_,fun z=>?_,(I.bs _ _ b3).1,b4,b5,b6⟩
  ·obtain⟨o,es,ep,e,d,_⟩:=I.mod.glob
   rw[z,e] at b3;cases b3;rw[d] at b6;cases b6
  ·have:=(I.bs _ _ b3).2
   rw[z,hP] at this;cases this
 refine kla_eval hdef ?_
 rw[hq]
 cases hf:codeAmong pos ps.toList with
 | some cv=>
  obtain⟨c',oc,vs,t,u,rfl,r1,r2,r3⟩:=hk pos cv hf;refine kla_makeFunctionHit hcl I.ok.glob hg hcode (hC _ I.kIn) hPo ht hf hb fun ctv h' tk hkk hsz=>?_
  have I1:Inv X Mh r H { s with heap:=h',toks:=tk }:=I.kept hkk;have I2:Inv X Mh r H { s with heap:=h'.push (kla_obj "<lambda>" tU params body scope clos ((X.mg "__name__").getD .none) c' ctv),toks:=tk }:=I1.kept (t':=tk) fun b o e=>Heap.get?_push_of_some _ e
  exact h _ c' ctv oc vs t u H _ I2 (Keep.refl _) (fun b o e _=>e) (I1.fpOk (Qf _) (I1.hok.fresh (Qf _))) hsz (Heap.get?_push_size _ rfl) r1 r2 r3
 | none=>
  refine kla_makeFunction hcl I.ok.glob hg hcode (hC _ I.kIn) hPo ht hf hgP hb fun c' ctv h' tk hx hge hlt hrec htb=>?_
  obtain⟨c₂,oc,vs,t,e2,hoc,hd,hv⟩:=hrec;cases e2;have I1:=zLd (tk:=tk) I hP hx hge hoc htb;have I2:=I1.kept (t':=tk) (h':=h'.push (kla_obj "<lambda>" tU params body scope clos ((X.mg "__name__").getD .none) c' ctv)) fun b o e=>Heap.get?_push_of_some _ e
  have cF:H c'=none:=I.hok.fresh hge;exact h _ c' ctv oc vs t _ _ _ I2 (zJR hP cF hd hv) (fun b o e hb=>by rw[aV (aX e cF),aV hb];exact e) (I1.fpOk (Qf _) (I1.hok.fresh (Qf _))) (Xn (Xq hge hlt)) (Heap.get?_push_size _ rfl) aS hd hv
end
def zCX{K:Fg_}{H:Hp}:∀ π:List Nat,IsDs K H (π.map fun i:Nat=>V.int (i:Int)) (kQ π)
 | []=>.nil
 | n::ns=>.cons (.int n) (zCX ns)
def zEB(p:Pos):Arguments:={ posonlyargs:=[],args:=[{ arg := "spot", annotation:=none,pos:=p }],vararg:=none,kwonlyargs:=[],kw_defaults:=[],kwarg:=none,defaults:=[] }
def lT:Scope:={ kind:=.function,names:=[(PySem.Str.ofString "spot", .local),(PySem.Str.ofString "bottom", .free),(PySem.Str.ofString "some", .free)],isGenerator:=false,isCoroutine:=false,more:=[] }
section
variable{X:Cx}{p1 p2 p3 p4 p5 p6 p7 p8 p9 pa pb pc pd pe pf pg ph pi pj:Pos}
def zLc{b k:Int}{a:Jc}{xs:List V}{rows:List D}{d:D}{j:Nat}{Hi H:Hp}{Q:VK}{σ:St}(hN:X.N=(["spot","some","bottom"]:List Str))(hsc:X.env.scope=lT){pz:Pos}
  (hσ:σ=[some (.int j),some (.ref a),some (.int b)]) (hq:SqL X.K Hi a xs∨SqT X.K Hi a xs) (hs:IsDs X.K Hi xs rows) (sm:Same Hi H) (hd:rows[j]?=some d) (hk:zKJ b d=.ok k) (q:Q (.int k) H):
  ∃ t,PE X (.BinOp (.Subscript (.Subscript (.Name "some" p1) (.Name "spot" p2) p3) (.Constant (.int 0) 0 p4) p5) .Mult
   (.BinOp (.Name "bottom" p6) .FloorDiv (.Subscript (.Subscript (.Name "some" p7) (.Name "spot" p8) p9) (.Constant (.int 1) 0 pa) pb) pc) pz) t/\t σ H Q:=by
 have v0:PE X (.Name "spot" p2) (zEC 0):=uN (by rw[hN];rfl) (by rw[hsc];exact .inl (by decide +kernel))
 have v0':PE X (.Name "spot" p8) (zEC 0):=uN (by rw[hN];rfl) (by rw[hsc];exact .inl (by decide +kernel))
 have v1:PE X (.Name "some" p1) (zEC 1):=uN (by rw[hN];rfl) (by rw[hsc];exact .inr (.inr (by decide +kernel)))
 have v1':PE X (.Name "some" p7) (zEC 1):=uN (by rw[hN];rfl) (by rw[hsc];exact .inr (.inr (by decide +kernel)))
 have v2:PE X (.Name "bottom" p6) (zEC 2):=uN (by rw[hN];rfl) (by rw[hsc];exact .inr (.inr (by decide +kernel)))
 refine⟨_,zJK bT (zHu bE (zHu bE v1 v0 (fun _ _=>rfl)) zKh (fun _ _=>rfl)) (zJK dO v2 (zHu bE (zHu bE v1' v0' (fun _ _=>rfl)) zKh (fun _ _=>rfl))),?_⟩
 obtain⟨t,c,rfl,h1,h2,rfl⟩:=zNy hk;obtain⟨v,hv,r⟩:=hs.at hd;obtain⟨ra,ys,rfl,h3,h4⟩:=r.tupI;obtain⟨u1,u2,rfl,r1,r2⟩:=h4.two;have e1:=r1.intI;have e2:=r2.intI;subst e1 e2;have S3:=bV sm h3;subst hσ
 have row:∀ Q':VK,Q' (.ref ra) H->(zRY X.K (.ref a) (.int j) H Q'∨zRQ X.K (.ref a) (.int j) H Q'):=fun Q' q'=>by
  rcases hq with hq | hq
  ·exact .inl ⟨a,xs,j,.ref ra,rfl,rfl,cJ sm hq,zDP hv,q'⟩
  ·exact .inr ⟨a,xs,j,.ref ra,rfl,rfl,bV sm hq,zDP hv,q'⟩
 refine⟨.ref a,rfl,.int j,rfl,row _ (.inr ⟨ra,_,0,.int t,rfl,rfl,S3,rfl,?_⟩)⟩
 refine⟨.int b,rfl,.ref a,rfl,.int j,rfl,row _ (.inr ⟨ra,_,1,.int c,rfl,rfl,S3,rfl,?_⟩)⟩
 exact⟨b,c,rfl,rfl,h1,t,b.fdiv c,rfl,rfl,h2,q⟩
def zRe{a:Expr}{ta:TA}{p pos:Pos}(hg:Gl X "range")(hm:X.mg "range" = none)(ha:PA X [a] ta)(hs:starEach [a] X.env=[(false,eval a X.env)]:=by rfl):
  PE X (.Call (.Name "range" p) [a] [] pos) (fun σ H Q=>ta σ H fun vs H1=>∃ n:Nat,vs=[.int n]/\∀ r,H1 r=none->Q (.ref r) (upd H1 r (.rng 0 n))):=by
 intro Mh s σ H Q I h;refine Jx (qJ I hg hm Jv (X9 (thn (ha pos Mh s σ H _ I h) fun us s1 ⟨vs,H1,I1,r1,q1⟩=>?_) hs rfl))
 obtain⟨n,e,q⟩:=q1;subst e;obtain⟨u,rfl,t,rfl⟩:=zAb r1;refine call_range_1 ⟨.ref s1.heap.objs.size,_,I1.laid (fun b o e=>Heap.get?_push_of_some _ e) (Qf _) ?_,rfl,q _ I1.fresh⟩
 exact⟨_,_,_,Heap.get?_push_size _ rfl⟩
structure RankCx (X:Cx) (P c:Jc):Prop where
 calm:X.calm=true
 dp:X.A.depth<recursionLimit
 n0:X.N[0]?=some ("some" : Str)
 n1:X.N[1]?=some ("bottom" : Str)
 k0:X.env.kindOf "some" = some .cell
 k1:X.env.kindOf "bottom" = some .cell
 code:X.env.code=.ref c
 hd:∀ h,X.K.In h->CodeHd h c P
 qual:X.env.qual ++ "<lambda>" = tU
 bm:BMn X.base X.mg
 clo:∃ cs cb,closureFor lT X.env=pure [(("some" : Str),cs),(("bottom" : Str),cb)]/\X.env.cells.lookup ("some" : Str)=some cs/\X.env.cells.lookup ("bottom" : Str)=some cb
 gS:Gl X "sorted"
 mS:X.mg "sorted" = none
 gR:Gl X "range"
 mR:X.mg "range" = none
 gL:Gl X "len"
 mL:X.mg "len" = none
def zQY(X:Cx)(P:Jc):TE:=fun σ H Q=>∃ Hi a xs rows b kz,σ[0]?=some (some (.ref a))/\σ[1]?=some (some (.int b))/\(SqL X.K Hi a xs∨SqT X.K Hi a xs)/\IsDs X.K Hi xs rows/\Same Hi H/\pE b rows=.ok kz/\kz.length<64/\zDz P H/\Hi P=none/\
 ∀ π r Hi' H',gG kz π->Ext Hi H Hi' H'->zLo X.K H Hi' H' r (kQ π)->Q (.ref r) H'
def zGn{Mh:List (Jc×Obj)}{σ:St}{H:Hp}{s:Jb}{i:Nat}{x:Str}{v:V}{c:Jc}(I:Inv X Mh σ H s)(hi:X.N[i]?=some x)(hv:σ[i]?=some (some v))(hk:X.env.kindOf x=some .cell)(hc:X.env.cells.lookup x=some c):∃ u,cX v u/\s.heap.IsCell c (some u):=by
 obtain⟨m,hn,hl⟩:=I.loc;obtain⟨u,r,l⟩:=hl i x v hi hv (.inr (.inl hk));refine⟨u,r,?_⟩
 rcases l with⟨z,_⟩ | ⟨_,c',z,q⟩
 ·rw[hk] at z;cases z
 ·rw[hc] at z;cases z;exact q
def zOc{P c:Jc}(R:RankCx X P c){pk pl pm pn:Pos}(hs1:starEach [.Name "some" p3] X.env=(false,eval (.Name "some" p3) X.env)::starEach [] X.env:=by rfl)
  (hs2:starEach [.Call (.Name "len" p2) [.Name "some" p3] [] p4] X.env=[(false,eval (.Call (.Name "len" p2) [.Name "some" p3] [] p4) X.env)]:=by rfl)
  (hs3:starEach [.Call (.Name "range" p1) [.Call (.Name "len" p2) [.Name "some" p3] [] p4] [] p5] X.env=(false,eval (.Call (.Name "range" p1) [.Call (.Name "len" p2) [.Name "some" p3] [] p4] [] p5) X.env)::starEach [] X.env:=by rfl):
  PE X (.Call (.Name "sorted" pk) [.Call (.Name "range" p1) [.Call (.Name "len" p2) [.Name "some" p3] [] p4] [] p5] [⟨some "key", .Lambda (zEB p6) (.BinOp (.Subscript (.Subscript (.Name "some" p7) (.Name "spot" p8) p9) (.Constant (.int 0) 0 pa) pb) .Mult
   (.BinOp (.Name "bottom" pc) .FloorDiv (.Subscript (.Subscript (.Name "some" pd) (.Name "spot" pe) pf) (.Constant (.int 1) 0 pg) ph) pi) pj) lT pl,pm⟩] pn) (zQY X P):=by
 intro Mh s σ H Q I h;obtain⟨Hi,a,xs,rows,b,kz,e0,e1,hq,hds,sm,hkz,h64,tb,hiP,q⟩:=h;obtain⟨hl1,hl2⟩:=zBk hkz;have hlen:xs.length=kz.length:=by rw[hds.length,hl1]
 refine Jx (qJ I R.gS R.mS boot_sorted ?_ ∅ ∅)
 have vS:PE X (.Name "some" p3) (zEC 0):=uN R.n0 (.inr (.inl R.k0));have pR:=zRe (p:=p1) (pos:=p5) R.gR R.mR (lY (zFM (p:=p2) (pos:=p4) aQ R.gL R.mL boot_len (lY vS sS hs1) ∅ ∅ hs1) sS (by rw[hs2];rfl)) hs2
 refine callWith_kw (thn ((lY pR sS hs3) pn Mh s σ H (fun vs H1=>∃ r,vs=[.ref r]/\H r=none/\H1=upd H r (.rng 0 kz.length)) I ?reads) fun us s1 ⟨vs,H1,I1,r1,q1⟩=>?_) (by rw[hs3];rfl) (by rw[hs3];rfl)
 case reads=>
  refine⟨.ref a,e0,a,xs,rfl,hq.imp (cJ sm) (bV sm),xs.length,rfl,fun r hr=>⟨r,rfl,hr,by rw[hlen]⟩⟩
 obtain⟨r,rfl,hr,rfl⟩:=q1;obtain⟨u,rfl,ru⟩:=zAb r1;cases ru;obtain⟨cs,cb,hcl,hcs,hcb⟩:=R.clo;have x1:Ext Hi H Hi (upd H r (.rng 0 kz.length)):=Ext.newF sm hr;refine kws_cons (zMh I1 (x1.h.t P tb) R.hd R.code R.qual R.bm hcl rfl fun f c' ctv oc vs t u H3 s3 I3 hkeep hsame hf hfs hfo hc1 hc2 hc3=>kws_nil ?_)
 have x2:Ext Hi H Hi H3:=x1.trans ⟨Same.refl _,hkeep,fun b o e=>hsame b o (x1.s _ _ e) (fun z=>by rw[z,hiP] at e;cases e),fun b e z=>absurd e z⟩
 have hr3:H3 r=some (.rng 0 kz.length):=hkeep.at aS;obtain⟨t1,t2,t3,hrg⟩:=I3.hok r _ hr3
 have I3p:Inv X (Mh++[(f,kla_obj "<lambda>" tU (zEB p6) _ lT [("some", cs),("bottom", cb)] ((X.mg "__name__").getD .none) c' ctv)]) σ H3 s3:=I3.pins_of fun p hp=>by
  rcases Q7.mp hp with hp | hp
  ·exact I3.pin p (Q2 _ hp)
  ·rw[Qw.mp hp]
   exact⟨hfo,hf.1,hf.2.1,hf.2.2.1,fun v z=>by have z':Data.func _=Data.cell v:=z;cases z'⟩
 refine zIb (kz:=kz) R.calm I3p hrg h64 rfl (fun j tk k hj s' pl Ip=>?_) fun D s' out c2 π I' fD hDs hD hπ hV=>?_
 ·obtain⟨d,hd,hk⟩:=hl2 j k hj
  have hfo':=(Ip.pin _ (Q2 _ (Xx _ (Q2 _ (Qw.mpr rfl))))).1;obtain⟨u0,r0,ce0⟩:=zGn Ip R.n0 e0 R.k0 hcs;obtain⟨u1,r1,ce1⟩:=zGn Ip R.n1 e1 R.k1 hcb
  have look:∀ {x:Str} {c:Jc},List.lookup x [(("some" : Str),cs),(("bottom" : Str),cb)]=some c->(x = "some" /\ c=cs)∨(x = "bottom" /\ c=cb):=fun {x c} z=>by
   have z':=Xz z;rcases Qd.mp z' with z' | z'
   ·cases z';exact .inl ⟨rfl,rfl⟩
   ·cases Qw.mp z';exact .inr ⟨rfl,rfl⟩
  have hne:cs≠cb:=fun z=>by
   have:=Ip.ok.inj _ _ _ hcs (z ▸ hcb)
   exact absurd this ∅
  have lam:∃ t,PE (cxL X.prog X.w X.K X.mg X.base ["spot","some","bottom"] tU lT f (.ref c') [("some", cs),("bottom", cb)] X.A.in1.in1 X.stack s' H3) _ t/\t [some (.int j),some (.ref a),some (.int b)] H3 (fun v H'=>v=.int k/\H'=H3):=
   zLc (p1:=p7) (p2:=p8) (p3:=p9) (p4:=pa) (p5:=pb) (p6:=pc) (p7:=pd) (p8:=pe) (p9:=pf) (pa:=pg) (pb:=ph) (pc:=pi) (pz:=pj) rfl rfl rfl hq hds x2.s hd hk ⟨rfl,rfl⟩
  obtain⟨tt,hb,hqq⟩:=lam;refine wpAny_call (codeAny_mono (zOn (E:=fun _ _ _=>False) (p := "spot") (Ip.ok.hd R.calm) R.dp Ip.env0.in1.in1 hfo' ⟨c',oc,vs,t,rfl,(Ip.hok c' _ hc1).1,hc2,hc3⟩ rfl (by decide +kernel) rfl rfl rfl (by decide +kernel) (fun x hx=>?_) (fun x y c z1 z2=>?_) (fun x c z=>?_) rfl (fun i x v z1 z2=>?_) hb hqq) fun res s'' hres=>?_)
  ·have hx':=Xz hx
   rcases Qd.mp hx' with z | hx'
   ·cases z
   ·rcases Qd.mp hx' with z | hx'
    ·cases z;exact⟨cb,rfl⟩
    ·cases Qw.mp hx';exact⟨cs,rfl⟩
  ·rcases look z1 with⟨rfl,rfl⟩ | ⟨rfl,rfl⟩<;>rcases look z2 with⟨rfl,w⟩ | ⟨rfl,w⟩
   ·rfl
   ·exact absurd w hne
   ·exact absurd w.symm hne
   ·rfl
  ·rcases look z with⟨rfl,rfl⟩ | ⟨rfl,rfl⟩
   ·exact⟨⟨_,ce0⟩,Ip.freeC _ _ hcs⟩
   ·exact⟨⟨_,ce1⟩,Ip.freeC _ _ hcb⟩
  ·match i,z1,z2 with
   | 0,z1,z2=>cases z1;cases z2;exact .inl ⟨rfl,tk,rfl⟩
   | 1,z1,z2=>cases z1;cases z2;exact .inr ⟨by decide +kernel,cs,u0,rfl,ce0,r0⟩
   | 2,z1,z2=>cases z1;cases z2;exact .inr ⟨by decide +kernel,cb,u1,rfl,ce1,r1⟩
   | i+3,z1,z2=>simp at z2
  ·cases res with
   | error ev=>exact False.elim hres
   | ok fl=>
    cases fl with
    | ret u=>
     obtain⟨v,H',J,rv,rfl,rfl⟩:=Ip.after hres;obtain⟨t',rfl⟩:=rv;exact⟨⟨t',rfl⟩,J⟩
    | next=>exact False.elim hres
    | brk=>exact False.elim hres
    | cont=>exact False.elim hres
 ·have I'':Inv X Mh σ H3 s':=I'.unpinned
  obtain⟨f0,f1,f2,f3,f4,f5⟩:=fD;have h0:X.s₀.heap.get? D=none:=Heap.get?_none_of_le (Q4 I3.sz hDs);have hl:=hV.length
  have okL:mJ X.prog X.w (upd H3 D (.lst (π.map fun i:Nat=>V.int (i:Int)))) s'.heap D (.lst (π.map fun i:Nat=>V.int (i:Int))):=by
   refine⟨?_,out.toList,c2,hV,by rw[Array.toArray_toList];exact hD⟩
   rw[Qe,hπ.1.length_eq,Q3,Jw];omega
  have I4:=I''.track f0 h0 f1 f4 (fun p hp=>f5 p (by
   rcases Q7.mp hp with hp | hp
   ·exact Xx _ hp
   ·exact Q2 _ (Xx _ hp))) okL
  refine⟨.ref D,_,I4,rfl,q π D Hi _ hπ (x2.trans (Ext.newF x2.s f0)) ⟨x2.h.none f0,x2.s.none f0,_,aS,zCX π⟩⟩
end
def spR(K:PySem.W.Frag)(mg:Str->Option Ja)(kf:List D->Res (List Int)):Sp:=fun vs H Q _=>vs.length=1/\∃ Bi ds,TB K mg Bi H/\Same Bi H/\IsDs K Bi vs ds/\match kf ds with
 | .ok kz=>∀ π a Hi' H',gG kz π->Ext Bi H Hi' H'->zLo K H Hi' H' a (kQ π)->Q (.ref a) H'
 | _=>False
structure CanR (P:Jf) (w:Jg) (K:PySem.W.Frag) (mg:Str->Option Ja) (base:Je) (k:Nat) (kf:List D->Res (List Int)):Prop where
 ex:∃ f fd,FnOk P w K mg base (CX1 P w) k f fd ["some"] (spR K mg kf)/\zDu K fd ["some"] []/\PySem.W.keepIn K (.ref f)=true/\mg "ranked" = some (.ref f)
def CanR.mono{P:Jf}{w:Jg}{K:Fg_}{mg:Str->Option Ja}{base:Je}{j k:Nat}{kf:List D->Res (List Int)}(c:CanR P w K mg base j kf)(h:j<=k):CanR P w K mg base k kf:=by
 obtain⟨f,fd,F,r⟩:=c.ex;exact⟨⟨f,fd,F.mono h,r⟩⟩
structure RankDef (st:Ji):Prop where
 k0:(aF st).names.lookup ("some" : Str)=some .cell
 k1:(aF st).names.lookup ("bottom" : Str)=some .cell
 gS:(aF st).names.lookup ("sorted" : Str)=some .globalImplicit
 gR:(aF st).names.lookup ("range" : Str)=some .globalImplicit
 gL:(aF st).names.lookup ("len" : Str)=some .globalImplicit
 clo:∀ L f cdv,∃ cs cb,closureFor lT (envOfC "ranked" (aF st) L f cdv)=pure [(("some" : Str),cs),(("bottom" : Str),cb)]/\(envOfC "ranked" (aF st) L f cdv).cells.lookup ("some" : Str)=some cs/\(envOfC "ranked" (aF st) L f cdv).cells.lookup ("bottom" : Str)=some cb
section
variable{P:Jf}{w:Jg}{K:Fg_}{mg:Str->Option Ja}{base:Je}{st s1 s2:Ji}{f:Jc}{fd:FuncData}{k:Nat}{sa sb:Sv}{p1 p2 p3 p4 p5 p6 p7 p8 p9 pa pb pc pd pe pf pg ph pi pj pk pl pm pn po:Pos}
def zPf{T:Jc}(F:Fn K mg "ranked" st ["some"] f fd)(S:FnScope ["some","bottom","each"] ["some"] (aF st))(D:RankDef st)(hT:qG K mg T)(hB:BMn base mg)(mS:mg "sorted" = none)(mR:mg "range" = none)(mL:mg "len" = none)
  (hbody:fG st=[s1,s2,.Return (some (.Call (.Name "sorted" pk) [.Call (.Name "range" p1) [.Call (.Name "len" p2) [.Name "some" p3] [] p4] [] p5] [⟨some "key", .Lambda (zEB p6) (.BinOp (.Subscript (.Subscript (.Name "some" p7) (.Name "spot" p8) p9) (.Constant (.int 0) 0 pa) pb) .Mult
   (.BinOp (.Name "bottom" pc) .FloorDiv (.Subscript (.Subscript (.Name "some" pd) (.Name "spot" pe) pf) (.Constant (.int 1) 0 pg) ph) pi) pj) lT pl,pm⟩] pn)) po])
  (h:∀(cdv:Ja)(A:Jh)(outer:List Env)(s:Jb)(H:Hp)(E:XK)(G:Gx),Good (BX P w K mg base ["some","bottom","each"] "ranked" st f cdv A outer s H E) G k->zGJ (BX P w K mg base ["some","bottom","each"] "ranked" st f cdv A outer s H E) G->
   PSd (BX P w K mg base ["some","bottom","each"] "ranked" st f cdv A outer s H E) G s1 sa/\PSd (BX P w K mg base ["some","bottom","each"] "ranked" st f cdv A outer s H E) G s2 sb):
  CanR P w K mg base (k+1) (zBG sa sb):=by
 refine⟨f,fd,?_,F.bd,F.kp,F.mg⟩
 obtain⟨f',oc',od',fd',osl',c,t1,t2,t3,t4⟩:=id hT;have ef:f'=f:=by have:=t1.symm.trans F.mg;exact Value.ref.inj (Ve this)
 subst ef;obtain⟨oc,od,kV,doc,pm',an,cdv,ct,osl,rfl,lk,hcd⟩:=F.fn.ex
 have efd:cdv=.ref c:=by
  rw[lk] at t2;cases t2;exact t3
 subst efd;refine zPP lk hcd S (fun vs H Q E h=>h.1) fun A outer s H vs Q E hr hsp=>?_
 obtain⟨hl,Bi,ds,tb,sm,hd,hq⟩:=hsp;have hg:=zIP (P:=P) (w:=w) (K:=K) (mg:=mg) (base:=base) (N:=["some","bottom","each"]) (outer:=outer) (H:=H) (Bi:=Bi) (E:=E) hr tb;obtain⟨h1,h2⟩:=h (.ref c) A outer s H E _ hg zGe
 have RC:RankCx (BX P w K mg base ["some","bottom","each"] "ranked" st f' (.ref c) A outer s H E) T c:=
  ⟨rfl,hr.depth,rfl,rfl,D.k0,D.k1,rfl,t4,by show(("ranked" : Str) ++ ".<locals>.") ++ "<lambda>" = tU;decide +kernel,hB,D.clo _ _ _,D.gS,mS,D.gR,mR,D.gL,mL⟩
 have body:∀ G,PSs (BX P w K mg base ["some","bottom","each"] "ranked" st f' (.ref c) A outer s H E) [s1] (tS (BX P w K mg base ["some","bottom","each"] "ranked" st f' (.ref c) A outer s H E) G sa)->PS (BX P w K mg base ["some","bottom","each"] "ranked" st f' (.ref c) A outer s H E) s1 (tS (BX P w K mg base ["some","bottom","each"] "ranked" st f' (.ref c) A outer s H E) G sa)->PS (BX P w K mg base ["some","bottom","each"] "ranked" st f' (.ref c) A outer s H E) s2 (tS (BX P w K mg base ["some","bottom","each"] "ranked" st f' (.ref c) A outer s H E) G sb)->
   PSs (BX P w K mg base ["some","bottom","each"] "ranked" st f' (.ref c) A outer s H E) (fG st) (zTa (tS (BX P w K mg base ["some","bottom","each"] "ranked" st f' (.ref c) A outer s H E) G sa) (zTa (tS (BX P w K mg base ["some","bottom","each"] "ranked" st f' (.ref c) A outer s H E) G sb) (zTq (zQY (BX P w K mg base ["some","bottom","each"] "ranked" st f' (.ref c) A outer s H E) T)))):=fun G _ h1 h2=>by
  rw[hbody];exact tW h1 (tW h2 (zEw (zFR (zOc RC))))
 refine⟨_,body _ (zEw h1) h1 h2,?_⟩
 cases ek:zBG sa sb ds with
 | no=>rw[ek] at hq;exact hq.elim
 | err c=>rw[ek] at hq;exact hq.elim
 | ok kz=>
  rw[ek] at hq;unfold zBG at ek;split at ek
  case isFalse=>cases ek
  split at ek
  case h_2=>cases ek
  rename_i ρ1 e1
  split at ek
  case h_2=>cases ek
  rename_i ρ2 e2
  refine⟨L3.start 3 ds,Bi,zDm (N:=["some","bottom","each"]) sm hd,?_⟩
  rw[e1];intro a1 Hi1 H1 sm1 R1;refine⟨ρ1,Hi1,R1,?_⟩
  rw[e2];intro a2 Hi2 H2 sm2 R2;unfold zGa at ek;split at ek
  case h_2=>cases ek
  rename_i rows b z0 z1
  split at ek
  case isFalse=>cases ek
  rename_i h64
  obtain⟨v,q0,r0⟩:=R2.slot 0 _ z0;obtain⟨v1,q1,r1⟩:=R2.slot 1 _ z1;obtain⟨a,xs,rfl,g1,g2⟩:=r0.lstI;have r1':=r1.intI;subst r1';obtain⟨tb2,n2⟩:=hg.tb.ext R2.ext T hT;exact⟨Hi2,a,xs,rows,b,kz,q0,q1,.inl g1,g2,R2.s,ek,by rw[(zBk ek).1];exact h64,tb2,n2,fun π r Hi' H' hπ x nl=>hq π r Hi' H' hπ (R2.ext.trans x) ⟨R2.ext.h.none nl.1,nl.2⟩⟩
end
section
variable{X:Cx}{G:Gx}{e:Expr}{es:List Expr}{pos p:Pos}{fs:Fv}{k:Nat}{kf:List D->Res (List Int)}{tg:Expr}{body rest:List Ji}{g:Gv}{sa sb:Sv}
def tIr(X:Cx)(G:Gx)(fs:Fv)(kf:List D->Res (List Int)):TI:=fun r H R=>∃ ρ Hi,mO X G Hi H r ρ/\Out G Hi H ((fs ρ).bind kf) fun kz Hi' H'=>∀ π J,gG kz π->vM X.K Hi' J (kQ π)->R J H'
def zPr(W:Good X G k)(c:CanR X.prog X.w X.K X.mg X.base k kf)(hkf:∀ ds c,kf ds≠.err c)(hk1:∀ ds,kf ds≠.no->ds.length=1)(hg:Gl X "ranked")(ha:PAd X G [e] fs)(he:starEach [e] X.env=(false,eval e X.env)::starEach [] X.env:=by rfl):
  PI X tg (.Call (.Name "ranked" p) [e] [] pos) (tIr X G fs kf):=by
 obtain⟨f,fd,F,b,kp,hm⟩:=c.ex;refine PI.wk (zPq (zED F W.room hg hm kp b .nil W.pass ha ∅ he rfl)) fun r H R q=>?_
 obtain⟨ρ,Hi,Rl,ou⟩:=q;refine zJI Rl ou fun vs ds Hi1 H1 e1 R1 r1 o1=>?_
 rw[Vm];have hno:kf ds≠.no:=fun z=>by rw[z] at o1;exact o1
 refine⟨by rw[r1.length];exact hk1 ds hno,Hi1,ds,W.tb.ext R1.ext,R1.s,r1,?_⟩
 cases z:kf ds with
 | no=>exact absurd z hno
 | err c=>exact absurd z (hkf ds c)
 | ok kz=>
  rw[z] at o1;intro π a Hi2 H2 hπ e2 n;obtain⟨n1,n2,xs,n3,n4⟩:=n;have x3:=e2.hold n1 n3 n2;refine⟨a,rfl,⟨xs,SqL.of n3⟩,o1 _ _ x3 π _ hπ (zDx (SqL.of aS) (n4.mono (bY n2 _)))⟩
def zJt(W:Good X G k)(c:CanR X.prog X.w X.K X.mg X.base k kf)(hkf:∀ ds c,kf ds≠.err c)(hk1:∀ ds,kf ds≠.no->ds.length=1)(hg:Gl X "ranked")(ha:PAd X G [e] fs)(hgt:PGd X G tg g)(hge:∀ d ρ c,g d ρ≠.err c)(hb:eH X G body sa)(hr:eH X G rest sb)
  (he:starEach [e] X.env=(false,eval e X.env)::starEach [] X.env:=by rfl) {pf:Pos} (hs:∀ x,foldedSetIterable (.Call (.Name "ranked" p) [e] [] pos) X.env x=pure x:=by intro _;rfl):
  eH X G (.For tg (.Call (.Name "ranked" p) [e] [] pos) body [] pf::rest) (zJU fs kf g sa sb):=by
 refine PSs.wk (tW (zMS W.own W.calm (zPr W c hkf hk1 hg ha he) hgt hb hs) hr) fun E r H q=>?_
 obtain⟨ρ,Hi,R,h⟩:=q;refine⟨ρ,Hi,R,mK R h fun kz Hi1 H1 _ e1 h1 π J hπ gv=>?_⟩
 have hn:pI kz (fun π=>aY (fun ρ=>gE g sa (kQ π) ρ) sb ρ)≠.no:=fun z=>by rw[z] at h1;exact h1
 rw[<-zGE hn hπ] at h1;exact zMK hge (R.grow e1) (zRK (sa:=fun ρ=>gE g sa (kQ π) ρ) h1) gv
end
def zRW(K:PySem.W.Frag)(mg:Str->Option Ja):Sp:=fun vs H Q _=>∃(a:Jc)(ns:List Int)(Bi:Hp),vs=[.ref a]/\TB K mg Bi H/\Same Bi H/\SqL K Bi a (ns.map V.int)/\ns.length<=63/\(∃ m,m<=1048576/\∀ n∈ns,n.natAbs<2^m)/\∀ H',Q (.bl true) H'
def zOf{P:Jf}{w:Jg}{K:Fg_}{mg:Str->Option Ja}{base:Je}{k:Nat}{m:Mir}{f:Jc}{fd:FuncData}(F:FnOk P w K mg base (CX1 P w) k f fd ["script"] (spM K mg 1 m))
  (h:∀ ns:List Int,ns.length<=63->(∃ m,m<=1048576/\∀ n∈ns,n.natAbs<2^m)->m [.lst (ns.map D.int)]=.ok (.v (.bl true))):FnOk P w K mg base (CX1 P w) k f fd ["script"] (zRW K mg):=by
 refine F.imp fun vs H Q E q=>?_
 obtain⟨a,ns,Bi,rfl,tb,sm,hS,hl,hbg,q⟩:=q;refine⟨rfl,Bi,[.lst (ns.map D.int)],tb,sm,.cons (.lst hS (zCT ns)) .nil,?_⟩
 rw[h ns hl hbg];intro v Hi' H' e r;rw[r.blI];exact q H'
def zLu{K:Fg_}{mg:Str->Option Ja}{h:Je}{T T':Jc}(X:K.In h)(a:qG K mg T)(b:qG K mg T'):T'=T:=by
 obtain⟨f,oc,od,fd,osl,c,a1,a2,a3,a4⟩:=a;obtain⟨f',oc',od',fd',osl',c',b1,b2,b3,b4⟩:=b;rw[a1] at b1;cases b1
 rw[a2] at b2;cases b2
 rw[a3] at b3;cases b3
 obtain⟨o,vs,_,_,_,_,_,_,_,e1,_,e3,e4,_⟩:=a4 h X;obtain⟨o',vs',_,_,_,_,_,_,_,f1,_,f3,f4,_⟩:=b4 h X;rw[e1] at f1;cases f1
 rw[e3] at f3;cases f3
 rw[e4] at f4;cases f4
 rfl
def zJC{P:Jf}{w:Jg}{K:Fg_}{mg mb:Str->Option Ja}{CX:CXT}{k:Nat}{fa a T:Jc}{fd:FuncData}{x:Str}{s₁:Jb}{vs:List Ja}{ns:List Int}
  (KX:K.In s₁.heap) (hns:s₁.heap.Ns mainGlobals mg) (hb:s₁.heap.Ns builtinsNs mb) (hbb:∀ x:Str,x ≠ "__name__" -> mb x=bootBuiltins x) (hlim:s₁.heap.NoLimit) (hg:s₁.gens=#[]) (hbm:BMn s₁.heap mg) (hT:s₁.heap.get? T=some (tabObj #[])) (hKT:K.lookup T=none) (hP:qG K mg T)
  (ha:s₁.heap.get? a=some { cls:=.type "list", data:=.seq vs.toArray }) (hi:IntsAre vs ns) (hl:ns.length<=63) (hbg:∃ m,m<=1048576/\∀ n∈ns,n.natAbs<2^m) (hr:Room k callerA)
  (F:∀ base:Je,K.In base->base.Ns mainGlobals mg->BMn base mg->FnOk P w K mg base CX k fa fd [x] (zRW K mg)) (hbind:∀(s:Jb)(u:Ja),BindsTo s fd ⟨[u],[]⟩ [(x,u)])
  (hCX:∀ H e s',CX [] H s₁ (fun _ _ _=>False) e s'->False):
  codeAny (model P w) callerA (.call (.ref fa) ⟨[.ref a],[]⟩) (fun r s'=>r=.ok (.ret (.bool true))/\OldK s₁.heap s'.heap/\s'.os=s₁.os/\AllBare s'.gens) s₁:=by
 have rv:=zBV hi;have lenV:=hi.length;have haT:a≠T:=fun z=>by rw[z,hT] at ha;cases ha
 have core:∀ Bi:Hp,zTM Bi->SqL K Bi a (ns.map V.int)->HOk P w Bi s₁.heap->(∀ b,Bi b≠none->b=a)->(Bi a≠none->K.lookup a=none)->
   codeAny (model P w) callerA (.call (.ref fa) ⟨[.ref a],[]⟩) (fun r s'=>r=.ok (.ret (.bool true))/\OldK s₁.heap s'.heap/\s'.os=s₁.os/\AllBare s'.gens) s₁:=by
  intro Bi hO hS hokB hA hK
  have hBT:Bi T=none:=by
   cases q:Bi T with
   | none=>rfl
   | some u=>exact absurd (hA T (by rw[q];simp)).symm haT
  generalize hHdef:upd Bi T (.tbl #[])=H;have HT:H T=some (.tbl #[]):=by rw[<-hHdef,aS]
  have Hne:∀ {b},b≠T->H b=Bi b:=fun z=>by rw[<-hHdef,aV z]
  have sm:Same Bi H:=fun b o e=>by rw[Hne (aX e hBT)];exact e
  have hok:HOk P w H s₁.heap:=fun b u e=>by
   by_cases hb:b=T
   ·subst hb;rw[HT] at e;cases e;exact hT
   ·rw[Hne hb] at e
    exact(hokB b u e).stay (fun c v _ q=>q) (fun c q=>sm _ _ q) fun c xs q=>sm _ _ q
  have only:∀ {b:Jc} {o:Obj},s₁.heap.get? b=some o->(∀ xs n,o.data≠.seq xs n)->(∀ vs,o.data≠.fields vs)->H b=none:=fun {b o} e d1 d2=>by
   by_cases hb:b=T
   ·subst hb;rw[hT] at e;cases e;exact absurd rfl (d2 #[])
   ·rw[Hne hb]
    cases q:Bi b with
    | none=>rfl
    | some u=>
     have e':b=a:=hA b (by rw[q];simp)
     subst e';rw[ha] at e;cases e
     exact absurd rfl (d1 _ _)
  have base_of:∀ {b:Jc} {o:Obj},s₁.heap.get? b=some o->H b=none->(zKK s₁.heap H).get? b=some o:=fun e n=>zKV e n
  have nsK:∀ {b:Jc} {m:Str->Option Ja},s₁.heap.Ns b m->(zKK s₁.heap H).Ns b m:=fun {b m} ⟨o,es,ep,e,d,r⟩=>⟨o,es,ep,base_of e (only e (fun xs n z=>by rw[d] at z;cases z) (fun vs z=>by rw[d] at z;cases z)),d,r⟩
  have hKb:K.In (zKK s₁.heap H):=fun b o e=>base_of (KX b o e) (by
   by_cases hb:b=T
   ·subst hb;rw[hKT] at e;cases e
   ·rw[Hne hb]
    cases q:Bi b with
    | none=>rfl
    | some u=>
     have e':b=a:=hA b (by rw[q];simp)
     subst e'
     rw[hK (by rw[q];simp)] at e;cases e)
  have hBb:BMn (zKK s₁.heap H) mg:=by
   obtain⟨bm,ob,b1,b2,b3,b4,b5,b6⟩:=hbm;exact⟨bm,ob,b1,b2,base_of b3 (only b3 (fun xs n z=>by rw[b6] at z;cases z) (fun vs z=>by rw[b6] at z;cases z)),b4,b5,b6⟩
  have hM:Mod K mg (zKK s₁.heap H):=⟨hKb,nsK hns,⟨mb,nsK hb,hbb⟩,let ⟨mc,h1,h2⟩:=hlim;⟨mc,nsK h1,h2⟩⟩;have e0:Env0 P w K mg (zKK s₁.heap H) callerA [] s₁ H:=⟨rfl,hM,fun b o e=>zOA e,Ww (zJm _ _),trivial,fun b hb=>absurd (show b∈([]:List Jc) from hb) (by simp),hok,.of_eq hg⟩
  have htb:TB K mg Bi H:=fun T' h'=>by
   have e':=zLu KX hP h';subst e';exact⟨⟨#[],HT,trivial,fun pos cv z=>by cases z⟩,hBT⟩
  refine codeAny_mono ((F _ hKb (nsK hns) hBb).run callerA [] s₁ H ⟨[.ref a],[]⟩ [.ref a] [.ref a] (fun v _=>v=.bl true) (fun _ _ _=>False) hr e0 (hbind s₁ (.ref a)) (.cons rfl .nil) ⟨a,ns,Bi,rfl,htb,sm,hS,hl,hbg,fun _=>rfl⟩) fun r s' h=>?_
  cases r with
  | error e=>exact(hCX H e s' h).elim
  | ok fl=>
   cases fl with
   | next=>exact False.elim h
   | brk=>exact False.elim h
   | cont=>exact False.elim h
   | ret u=>
    obtain⟨v,H',os,bare,un,hok',r',q⟩:=h;have q':v=.bl true:=q;subst q';obtain rfl:u=Value.bool true:=r';refine⟨rfl,⟨fun b o e=>?_,fun b o e=>un.there b o e (by simp)⟩,os,bare⟩
    by_cases hbT:b=T
    ·subst hbT
     obtain⟨more,z⟩:=un.tbls b _ HT;have z2:s'.heap.get? b=some { cls:=.none,data:=.fields (#[]++more) }:=hok' b _ z;rw[hT] at e;cases e
     obtain⟨f,oc,od,fd',osl,c,a1,a2,a3,a4⟩:=hP;obtain⟨o,vs,_,_,_,_,_,_,_,e1,e2,e3,e4,_⟩:=a4 _ KX;exact .inr (.inl ⟨⟨c,o,vs,e1,e2,e3,e4⟩,rfl,#[],more,rfl,z2⟩)
    ·refine .inl ?_
     cases q:H b with
     | none=>exact un.keep b o e q (by intro z;exact absurd (show b∈([]:List Jc) from z) (by simp)) (by simp)
     | some u=>
      rw[Hne hbT] at q;rcases hO b with z | ⟨ob,xs,z⟩
      ·rw[q] at z;cases z
      ·have z2:=un.frzs b ob _ (by rw[Hne hbT];exact z)
       obtain⟨e1,_⟩:=hokB b _ z;obtain⟨e2,_⟩:=hok' b _ z2;rw[e] at e1;cases e1
       exact e2
 cases hk:K.lookup a with
 | some o=>
  have e:=KX a o hk;rw[ha] at e;cases e;refine core (fun _=>none) (fun _=>.inl rfl) (.inr ⟨_,vs.toArray,_,hk,rfl,rfl,rfl,by rw[Qj,lenV,Jw];omega,by simpa using rv⟩) (fun b u z=>by have z':(none:Option HO)=some u:=z;cases z') (fun b z=>absurd rfl z) fun z=>absurd rfl z
 | none=>
  refine core (fun b=>if b=a then some (.frz { cls:=.type "list", data:=.seq vs.toArray } (.lst (ns.map V.int))) else none) (fun b=>?_) (.inl (.inr ⟨{ cls:=.type "list", data:=.seq vs.toArray },Jk rfl⟩)) (fun b u z=>?_) (fun b z=>?_) fun _=>hk
  ·by_cases hb:b=a
   ·exact .inr ⟨_,_,Jk hb⟩
   ·exact .inl (Jl hb)
  ·by_cases hb:b=a
   ·have z':=(Jk hb).symm.trans z
    cases z'
    subst hb;exact⟨ha,by rw[Qe,Jw];omega,vs,_,rv,ha⟩
   ·have z':=(Jl hb).symm.trans z
    cases z'
  ·by_cases hb:b=a
   ·exact hb
   ·exact absurd (Jl hb) z
def zMm:∀ {ns:List Int} {n:Int},n∈ns->(WData.int n).weight<=WData.weightAll (ns.map WData.int)
 | a::r,n,h=>by
  rw[Qq,WData.weightAll];rcases Qd.mp h with rfl | h
  ·omega
  ·have:=zMm h
   omega
def zOJ{ns:List Int}(h:WData.layableAll [WData.list (ns.map WData.int)]=true):(∃ m,m<=1048576/\∀ n∈ns,n.natAbs<2^m):=by
 refine⟨1048576,Qf _,fun n hn=>?_⟩
 have w:WData.weightAll (ns.map WData.int)<=2^20:=by
  unfold WData.layableAll WData.layable at h;simp only[List.all_cons,List.all_nil,Bool.and_true,Vh,decide_eq_true_eq] at h;have:=h.2
  rw[WData.weight] at this;exact this
 have a:=zMm hn;rw[WData.weight] at a;by_cases z:n=0
 ·subst z
  exact Nat.two_pow_pos _
 ·rw[Jl (by simpa using z)] at a
  exact Qu Nat.lt_log2_self (Vs ∅ (by omega))
open PySem.Calls in
def zCs{l:OpenLaw}{n:Nat}{q:Jf}{loose:List Str}{XP:(Str->Option Ja)->Je->Prop}{YP:Jg->Je->Prop}{d:DefRec}
  (hn:l.most=some n) (hdf:d.params.defaults=[])
  (call:∀(w:Jg)(s₀ s₁:Jb)(mg mb:Str->Option Ja)(fa:Jc)(o:Obj)(pm cd doc:Ja)(a:Jc)(vs:List Ja)(ns:List Int),(∃ m,m<=1048576/\∀ n∈ns,n.natAbs<2^m)->
   Ground q loose [] XP w s₀ mg mb s₁.heap->YP w s₁.heap->
   s₁.heap.get? fa=some o->o.data=.func (docDef d.name d.params d.body d.scope pm cd doc)->s₁.heap.CodeRec cd d.name->mg d.name=some (.ref fa)->
   s₁.heap.get? a=some { cls:=.type "list", data:=.seq vs.toArray }->IntsAre vs ns->ns.length<=n->s₁.gens=#[]->
   codeAny (model l.prog w) callerA (.call (.ref fa) ⟨[.ref a],[]⟩) (fun r s'=>r=.ok (.ret (.bool true))/\OldK s₁.heap s'.heap/\s'.os=s₁.os/\AllBare s'.gens) s₁):
  WalkO q loose XP YP l.row.toRowW d [] (fun f vs=>PySem.call f vs):=by
 intro w s₀ s₁ mg mb G Y fa o pm cd doc dV kV ho hd hcd hD hmg hg args vals as hpre hlay hrd hwl hlo;obtain rfl:dV=.none:=Dflts.none hD hdf;obtain rfl:kV=.none:=Dflts.noKw hD;obtain⟨a,vs,ns,rfl,rfl,hobj,hints,hlen⟩:=Att.script_of hn hpre hwl;refine enter_call (codeAny_mono (call w s₀ s₁ mg mb fa o pm cd doc a vs ns (zOJ hlay) G Y ho (fd_plain hd) hcd hmg hobj hints hlen hg) fun r s' hq=>?_)
 obtain⟨rfl,h2,h3,h4⟩:=hq;exact⟨.inl ⟨.bool true,.bool true,[],rfl,fun _=>rfl,.bool true,Att.post_true l _,fun _=>⟨List.Pairwise.nil,fun _ hm=>(nomatch hm)⟩⟩,h2,h3,h4⟩
def zSK{l:PySem.W.OpenLaw}{k:Nat}{q:Jf}{loose:List Str}{XP:(Str->Option Ja)->Je->Prop}{YP:Jg->Je->Prop}{d:DefRec}{K:Params->PySem.W.Frag}{T:Jc}(hn:l.most=some 63)(hdf:d.params.defaults=[])(hr:Room k callerA)
  (hY:∀(w:Jg)(h:Je),YP w h->(K w.params).In h) (hT:∀(w:Jg)(h:Je),YP w h->h.get? T=some (tabObj #[]))
  (F:∀(w:Jg)(mg:Str->Option Ja)(fa:Jc)(h:Je),(K w.params).In h->h.Ns mainGlobals mg->mg d.name=some (.ref fa)->
   (K w.params).lookup T=none/\qG (K w.params) mg T/\∃ fd:FuncData,(∀(s:Jb)(u:Ja),BindsTo s fd ⟨[u],[]⟩ [("script", u)])/\∀ base:Je,(K w.params).In base->base.Ns mainGlobals mg->BMn base mg->FnOk l.prog w (K w.params) mg base (CX1 l.prog w) k fa fd ["script"] (zRW (K w.params) mg)):
  PySem.W.WalkO q loose XP YP l.row.toRowW d [] (fun f vs=>PySem.call f vs):=by
 refine zCs hn hdf fun w s₀ s₁ mg mb fa o pm cd doc a vs ns hbg G Y ho hd hcd hmg hobj hints hlen hg=>?_
 have KX:=hY w _ Y;obtain⟨h1,h2,fd,hb,hF⟩:=F w mg fa _ KX G.T.g hmg
 exact zJC KX G.T.g G.T.b G.T.builtins G.T.nolimit hg G.T.bmain (hT w _ Y) h1 h2 hobj hints hlen hbg hr hF hb fun _ _ _ z=>by
  obtain⟨_,_,_,_,_,z⟩:=z;exact z
section
variable{X:Cx}{G:Gx}{e a:Expr}{f g:Ev}{pos:Pos}
def zOH:V->List V->Hp->VK->Prop:=fun x vs H Q=>∃ l xs k y,x=.ref l/\vs=[.int ((k:Nat):Int),y]/\H l=some (.lst xs)/\k<=xs.length/\xs.length<100000/\Q .non (upd H l (.lst (xs.take k++y::xs.drop k)))
def zKY{P:Jf}{w:Jg}{A:Jh}{E:Ja->Jb->Prop}{s:Jb}{l:Jc}{its:Array Ja}{n:Nat}{x:Int}{t:Tok}{u:Ja}{Q:Ja->Jb->Prop}(e:s.heap.get? l=some { cls:=.type "list", data:=.seq its n })(h0:0<=x)(h1:x<100000)(hz:its.size<=sizeLine)
  (h:Q .none { s with heap:=s.heap.update l (Obj.mapSeq fun xs=>(xs.extract 0 (min x.toNat xs.size)).push u++xs.extract (min x.toNat xs.size)) }):wpAny (model P w) A (call (.builtin "list.insert") [.ref l,.int x t,u]) Q E s:=by
 have fits:(!Builtin.List.listFitsIndex x)=false:=by
  have:Builtin.List.listFitsIndex x=true:=by
   unfold Builtin.List.listFitsIndex;simp only[Vh,decide_eq_true_eq];omega
  rw[this];rfl
 have M:=PySem.AutoSeq1.list_insert_list_int_val_1 l its n x t u (by rw[fits];exact X8) hz
 refine call_meets F.slot_list_insert ⟨_,e,rfl⟩ F.entry_list_insert (F.args_list_insert_3 _ _ _) M ⟨e,?_⟩
 have e1:¬ (x<0):=by omega
 simp only[Jl e1];exact h
def zPk(its:List Ja)(k:Nat)(u:Ja)(hk:k<=its.length):(its.toArray.extract 0 k).push u++its.toArray.extract k=(its.take k++u::its.drop k).toArray:=by
 rw[Qao,Qao];simp only[List.push_toArray,List.append_toArray];congr 1
 rw[Qap,Qap];simp only[X2,Y8,Vr,List.singleton_append];congr 2
 rw[Xr (by rw[Q9,Qj];omega)]
def zHX:MtM X "list.insert" zOH:=by
 intro Mh s m H x vs v us Q I rx rv h;obtain⟨l,xs,k,y,rfl,rfl,hH,hk,hz,q⟩:=h;cases rx;obtain⟨u0,u,rfl,r0,ru⟩:=rv.two;obtain⟨t0,rfl⟩:=r0;obtain⟨z,its,n,r,hl,e⟩:=I.lstM hH;have hk':k<=its.length:=by rw[<-hl];exact hk
 refine zKY e (Vw k) (by omega) (by rw[Qj,<-hl];exact z) ⟨.non,_,I.lset (t':=s.toks) (its':=its.take k++u::its.drop k) hH e ?_ ((r.take k).append (.cons ru (r.drop k))) ?_,rfl,q⟩
 ·rw[Qj,Vd,X3 hk']
  exact zPk its k u hk'
 ·have:(xs.take k++y::xs.drop k).length=xs.length+1:=by rw[Qo,Qk,Xo,Q9,X3 hk];omega
  rw[this,Jw];omega
def zSh{i:Nat}{o:Expr}{apos cpos:Pos}(ho:PE X o (zEC i))(hk:PEd X G a g)(he:PEd X G e f)
  (hbase:attributeBase o "insert" X.env (eval o X.env)=eval o X.env:=by rfl)
  (hfew:((backTo cpos (starEach [a,e] X.env)).all (fun x=>!x.1) && (backToKw cpos (keywordEach [] X.env)).all (fun x=>x.1.isSome)
   && decide ([a,e].length+([]:List Keyword).length+(if ([]:List Keyword).isEmpty then 0 else 1)<30))=true:=by rfl)
  (hline:(apos.endLine==cpos.line)=true:=by rfl) (hs:starEach [a,e] X.env=(false,eval a X.env)::starEach [e] X.env:=by rfl) (hs2:starEach [e] X.env=(false,eval e X.env)::starEach [] X.env:=by rfl)
  (hsw:swapsWith (.Call (.Attribute o "insert" apos) [a,e] [] cpos) none pos.line X.env=pure false:=by rfl):
  PSd X G (.Expr (.Call (.Attribute o "insert" apos) [a,e] [] cpos) pos) (zRS i g f):=
 PS.wk (uP (zOh Ut PySem.F.slot_list_insert PySem.F.type_list_insert zHX ho (lY hk (lY he sS hs2) hs) hbase hfew hline hs (hplain:=by rw[hs2];rfl)) hsw) fun E m H q=>by
 obtain⟨ρ,Hi,R,h⟩:=q;unfold zRS at h
 cases z:ρ[i]? with
 | none=>rw[z] at h;exact h.elim
 | some s=>
  rw[z] at h
  cases s with
  | own ds=>
   obtain⟨b,xs,p,h1,h2,h3,h4⟩:=R.slot i _ z;refine⟨.ref b,p,.inl ⟨rfl,xs,SqL.of h1⟩,?_⟩
   refine⟨ρ,Hi,R,mK R h fun d Hi' H' _ e h' v r=>?_⟩
   have R':=R.grow e;refine⟨ρ,Hi',R',mK R' h' fun d2 Hi2 H2 _ e2 h2' v2 r2=>?_⟩
   have R2:=R'.grow e2;obtain⟨g1,g2⟩:=(e.trans e2).out h1 h2
   cases d with
   | int j=>
    by_cases hz:0<=j/\j<=ds.length/\ds.length<100000
    ·have h3':Fin X G Hi2 E (if 0<=j/\j<=ds.length/\ds.length<100000 then .ok (.nx (ρ.set i (.own (ds.take j.toNat++d2::ds.drop j.toNat)))) else .no):=h2'
     rw[Jk hz] at h3';have hv:=r.intI;refine⟨b,xs,j.toNat,v2,rfl,by rw[hv,Int.toNat_of_nonneg hz.1],g1,by rw[h4.length];omega,by rw[h4.length];exact hz.2.2,?_⟩
     have h5:=h4.mono (e.trans e2).i;exact h3' m Hi2 _ (Same.refl _) (R2.write z p ((h5.take _).append (.cons r2 (h5.drop _))))
    ·have h3':Fin X G Hi2 E (if 0<=j/\j<=ds.length/\ds.length<100000 then .ok (.nx (ρ.set i (.own (ds.take j.toNat++d2::ds.drop j.toNat)))) else .no):=h2'
     rw[Jl hz] at h3';exact h3'.elim
   | _=>exact h2'.elim
  | un=>exact h.elim
  | val d=>exact h.elim
  | exc c=>exact h.elim
  | tab T=>exact h.elim
end
def Itq(K:PySem.W.Frag)(a:Jc)(n:Nat):It:=
 ⟨fun i H=>∃ xs x,SqL K H a xs/\xs.length=n/\xs.reverse[i]?=some x,fun i H x H'=>H'=H/\∀ xs,SqL K H a xs->xs.reverse[i]?=some x,fun i H=>∃ xs,SqL K H a xs/\n<=i⟩
def rix(n i:Nat):Int:=(n:Int)-1-((min i n:Nat):Int)
def zJD{P:Jf}{w:Jg}{K:Fg_}{tg:Expr}(a it:Jc)(n:Nat):Turn P w K tg (Itq K a n) [it] it (fun i h=>h.IsRevIter it a (rix n i)) where
 mem:=by simp
 obj:=fun i h st b hb=>by
  have e:b=it:=by simpa using hb
  subst e;obtain⟨o,e,c,d⟩:=st;exact⟨o,e,fun v z=>by rw[d] at z;cases z⟩
 keep:=fun i h h' st k=>st.at fun o e=>k it (by simp) o e
 item:=by
  intro X hP hw hK hc i Mh s r H E I hf st hg;subst hP hw hK;obtain⟨xs,x,hq,hn',hx⟩:=hg;obtain⟨its,rv,p,hz⟩:=I.list hq
  have hi:i<xs.length:=by
   have:=(Qy.mp hx).1
   rwa [Vx] at this
  have hx':xs[n-1-i]?=some x:=by
   rw[Wz hi,hn'] at hx;exact hx
  obtain⟨u,hu,ru⟩:=rv.get hx';obtain⟨f0,f1,f2,f3,f4,f5⟩:=hf it (by simp)
  have st0:s.heap.IsRevIter it a ((n-1-i:Nat):Int):=by
   have e:rix n i=((n-1-i:Nat):Int):=by unfold rix;rw[X3 (by omega)];omega
   rw[<-e];exact st
  refine wpAny_pyNext_rev_item (items:=its.toArray) st0 p.isList (x:=u) (by simpa using hu) fun h' st' sb=>?_
  have I1:Inv X Mh r H { s with heap:=h' }:=I.turned (t':=s.toks) (fun b o hb e=>(sb.2 b hb).trans e) f0 f1 f3 f4 f5
  obtain⟨o,e,c,d⟩:=id st'
  have st2:h'.IsRevIter it a (rix n (i+1)):=by
   have e:rix n (i+1)=((n-1-i:Nat):Int)-1:=by unfold rix;rw[X3 (by omega)];omega
   rw[e];exact st'
  exact⟨u,rfl,zKU (s:={ s with heap:=h' }) e c d ∅ ⟨x,H,I1,ru,⟨rfl,fun ys hy=>by rw[I.list_inj hy hq];exact hx⟩,st2,fun b hb=>(hf b hb).1⟩⟩
 done:=by
  intro X hP hw hK hc i Mh s r H E I hf st hg;subst hP hw hK;obtain⟨xs,hq,hx⟩:=hg;obtain⟨f0,f1,f2,f3,f4,f5⟩:=hf it (by simp)
  have st0:s.heap.IsRevIter it a (-1):=by
   have e:rix n i=-1:=by unfold rix;rw[Uq hx];omega
   rw[<-e];exact st
  exact wpAny_pyNext_rev_end (I.ok.hd hc) st0 fun h' eb=>⟨rfl,I.turned (t':=s.toks) (fun b o hb e=>eb b o hb e) f0 f1 f3 f4 f5⟩
 self:=fun _ _ _ _ _ st h=>Md st h
section
variable{X:Cx}{G:Gx}{fs:Fv}{f:Ev}
def iRw(K:PySem.W.Frag)(ta:TA):TI:=fun c H R=>ta c H fun vs H1=>∃ a xs,vs=[.ref a]/\SqL K H1 a xs/\R (Itq K a xs.length) H1
def zND{tg a:Expr}{ta:TA}{p pos:Pos}(hg:Gl X "reversed")(hm:X.mg "reversed" = none)(ha:PA X [a] ta)(hs:starEach [a] X.env=[(false,eval a X.env)]:=by rfl):PI X tg (.Call (.Name "reversed" p) [a] [] pos) (iRw X.K ta):=by
 intro Mh s c H R I h;refine Call_ (qJ I hg hm zLw (X9 (thn (ha pos Mh s c H _ I h) fun us s1 ⟨vs,H1,I1,r1,q1⟩=>?_) hs rfl))
 obtain⟨t,xs,rfl,hq,q⟩:=q1
 cases r1 with
 | cons r rr=>
  cases rr;cases r;obtain⟨its,rv,pt,hz⟩:=I1.list hq;have hl:=rv.length;refine call_reversed_list (items:=its.toArray) pt.isList ?_
  have hR:(s1.heap.push (revObj t ((its.toArray.size:Int)-1))).IsRevIter s1.heap.objs.size t (rix xs.length 0):=
   ⟨_,Heap.get?_push_size _ rfl,rfl,by unfold rix;rw[hl,Qj];simp[revObj]⟩
  refine Md (s:={ s1 with heap:=_ }) hR ?_
  refine⟨s1.heap.objs.size,[s1.heap.objs.size],_,_,H1,rfl,I1.kept (t':=s1.toks) fun b o e=>Heap.get?_push_of_some _ e,zJD t _ xs.length,hR,fun b hb=>?_,q⟩
  have e:b=s1.heap.objs.size:=by simpa using hb
  subst e;exact I1.fpOk (Qf _) (I1.hok.fresh (Qf _))
def zGP{K:Fg_}{Hi:Hp}{a:Jc}{xs:List V}{ds:List D}(h1:SqL K Hi a xs)(h2:IsDs K Hi xs ds):vM K Hi (Itq K a xs.length) ds.reverse:=fun Hi1 H1 s1 s2 i=>by
 have h3:=cJ (s1.trans s2) h1;have hl:=h2.length;refine⟨fun hl'=>⟨xs,h3,by rw[Vx] at hl';omega⟩,fun d hd=>?_⟩
 have hi:i<ds.length:=by
  have:=(Qy.mp hd).1
  rwa [Vx] at this
 rw[Wz hi] at hd;obtain⟨v,hv,r⟩:=h2.at hd;have hv':xs.reverse[i]?=some v:=by rw[Wz (by omega),hl];exact hv
 refine⟨⟨xs,v,h3,rfl,hv'⟩,fun x H2 y=>?_⟩
 obtain⟨e,y⟩:=y;subst e;have:=y xs h3
 rw[hv'] at this;cases this;exact⟨Hi1,Ext.refl s2,r.mono s1⟩
def zRg{tg a:Expr}{p pos:Pos}(hg:Gl X "reversed")(hm:X.mg "reversed" = none)(ha:PEd X G a f)(hst:starEach [a] X.env=[(false,eval a X.env)]:=by rfl):PId X G tg (.Call (.Name "reversed" p) [a] [] pos) (zKS f):=PI.wk (zND hg hm (lY ha sS (by rw[hst];rfl)) hst) fun c H Q q=>by
 obtain⟨ρ,Hi,R,ou⟩:=q;refine zFQ R ou fun v d Hi1 H1 e1 R1 r1 o1=>?_
 cases d with
 | lst ds=>
  obtain⟨a,xs,rfl,h1,h2⟩:=r1.lstI;exact⟨a,xs,rfl,cJ R1.s h1,o1.here R1.s _ (zGP h1 h2)⟩
 | _=>exact o1.elim
end
section
variable{X:Cx}{G:Gx}
def bQ{i:Int}{j pos}:PEd X G (.Constant (.int i) j pos) (eC (.int i)):=tN zKh fun _=>.int _
def aM(i:Nat){x:Str}{pos:Pos}(hN:X.N[i]?=some x:=by rfl)(hv:Vis X.env.scope x:=by first | exact Or.inl rfl | exact Or.inr (Or.inl rfl) | exact Or.inr (Or.inr rfl))(hd:(x==("__debug__" : Str))=false:=by decide)
  (hcd:(x==("__classdict__" : Str))=false:=by decide):PEd X G (.Name x pos) (aE i):=zQN i (pv i hN hv hd hcd)
def fR(n:Nat){x:Str}{pos p2:Pos}{i:Int}{j p1}(hN:X.N[n]?=some x:=by rfl)(hv:Vis X.env.scope x:=by first | exact Or.inl rfl | exact Or.inr (Or.inl rfl) | exact Or.inr (Or.inr rfl))(hd:(x==("__debug__" : Str))=false:=by decide)
  (hcd:(x==("__classdict__" : Str))=false:=by decide):PEd X G (.Subscript (.Name x pos) (.Constant (.int i) j p1) p2) (eOp oIx (aE n) (eC (.int i))):=eU bE oV (aM n hN hv hd hcd) bQ (fun _ _=>rfl)
end
section
variable{X:Cx}{G:Gx}{a:Expr}{f:Ev}
def zRT{i:Int}{j p1 p2}(h:PEd X G a f):PEd X G (.Subscript a (.Constant (.int i) j p1) p2) (eOp oIx f (eC (.int i))):=eU bE oV h bQ (fun _ _=>rfl)
def oM(h:PEd X G a f)(n:Nat){x:Str}{pos p2:Pos}(hN:X.N[n]?=some x:=by rfl)(hv:Vis X.env.scope x:=by first | exact Or.inl rfl | exact Or.inr (Or.inl rfl) | exact Or.inr (Or.inr rfl))(hd:(x==("__debug__" : Str))=false:=by decide)
  (hcd:(x==("__classdict__" : Str))=false:=by decide):PEd X G (.Subscript a (.Name x pos) p2) (eOp oIx f (aE n)):=eU bE oV h (aM n hN hv hd hcd) (fun _ _=>rfl)
def bD(n:Nat){x:Str}{pos:Pos}(hN:X.N[n]?=some x:=by rfl)(hv:Vis X.env.scope x:=by first | exact Or.inl rfl | exact Or.inr (Or.inl rfl) | exact Or.inr (Or.inr rfl))(hd:(x==("__debug__" : Str))=false:=by decide)
  (hcd:(x==("__classdict__" : Str))=false:=by decide):PAd X G [.Name x pos] (aB (aE n) aNil):=aA (aM n hN hv hd hcd) aJ aI
def s_z(i:Nat){x:Str}{pos pos':Pos}(hN:X.N.Nodup)(he:PEd X G a f)(hi:X.N[i]?=some x:=by rfl)(hx:Loc X.env.scope x:=by first | exact Or.inl rfl | exact Or.inr rfl)(hs:swapsWith a (some (.Name x pos')) pos.line X.env=pure false:=by rfl)
  (hf:X.fn x=true∨X.env.scope.names.lookup x=some .local:=by first | exact .inl rfl | exact .inr rfl | assumption):PSd X G (.Assign [.Name x pos'] a pos) (cU i f):=zSN hN hi hx he hs hf
def g_z(i:Nat){x:Str}{pos:Pos}(hN:X.N.Nodup)(hi:X.N[i]?=some x:=by rfl)(hx:Loc X.env.scope x:=by first | exact Or.inl rfl | exact Or.inr rfl)(hf:X.fn x=true∨X.env.scope.names.lookup x=some .local:=by first | exact .inl rfl | exact .inr rfl | assumption):PGd X G (.Name x pos) (gName i):=zQc hN hi hx hf
def zEo{s j p}:PAd X G [.Constant (.str s) j p] (aB (eC (.str s)) aNil):=aA (tN gC fun _=>.str _) aJ cH
end
section
variable{P:Jf}{w:Jg}{K:Fg_}{mg:Str->Option Ja}{base:Je}{k:Nat}{x:Str}{st:Ji}{ps N:List Str}{f:Jc}{fd:FuncData}{b:Sv}
def eV(F:Fn K mg x st ps f fd)(S:FnScope N ps (aF st))
  (h:∀ {cdv:Ja} {A:Jh} {outer:List Env} {s:Jb} {H:Hp} {E:XK} {G:Gx},Good (BX P w K mg base N x st f cdv A outer s H E) G k->zGJ (BX P w K mg base N x st f cdv A outer s H E) G->eH (BX P w K mg base N x st f cdv A outer s H E) G (fG st) b):
  CanM P w K mg base (k+1) x ps (fn ps.length N.length b):=nI F S fun _ _ _ _ _ _ _ W R=>h W R
end
end L3
namespace L3
open PySem PySem.Spec PyProof.Rows L2
local macro_rules | `(∅)=>`(by decide)
def yS(a b c:Ja):checkTypeCall "zip" ⟨[a,b,c],[]⟩=pure ():=by kernel_rfl
def zAY(a b c:Ja):checkBuiltinCall "zip.__new__" ⟨[.type "zip", a,b,c],[]⟩=pure ():=by kernel_rfl
def pZ(a b c d:Ja):argsOk "object.__init__" ⟨[a,b,c,d],[]⟩:=by
 unfold argsOk;rw[signature?_of (id := "object.__init__") (n:=['_', '_', 't', 'i', 'n', 'i', '_', '_']) (o:=['t', 'c', 'e', 'j', 'b', 'o']) (by kernel_rfl) F.owner_object];kernel_rfl
abbrev lA(h:Je)(T:Jc)(a b c:Ja):Prop:=h.get? T=some { cls:=.type "tuple", data:=.seq #[a,b,c] }
def vI(f0:Ja)(k1 k2 k3:Bool)(l1 l2 l3 n:Jc)(j1 j2 j3:Nat)(h:Je):Prop:=
 IsZip h (n+5) (n+3) (n+4) f0/\lA h (n+3) (.ref n) (.ref (n+1)) (.ref (n+2))/\(∃ a b c,lA h (n+4) a b c)/\yW k1 h n l1 j1/\yW k2 h (n+1) l2 j2/\yW k3 h (n+2) l3 j3
def oX(n:Jc)(h h2:Je):Prop:=∀ c o,c≠n+5->c≠n+4->c≠n->c≠n+1->c≠n+2->h.get? c=some o->h2.get? c=some o
def oX.then{n:Jc}{h h1 h2:Je}(a:oX n h h1)(b:oX n h1 h2):oX n h h2:=fun c o c1 c2 c3 c4 c5 e=>b c o c1 c2 c3 c4 c5 (a c o c1 c2 c3 c4 c5 e)
def oX.eb{n a:Jc}{h h2:Je}(k:Heap.ExtBut a h h2)(m:a=n+5∨a=n+4∨a=n∨a=n+1∨a=n+2):oX n h h2:=fun c o c1 c2 c3 c4 c5 e=>k c o (fun z=>by subst z;rcases m with m | m | m | m | m<;>contradiction) e
def oX.sq{k:Bool}{n l:Jc}{h h2:Je}{xs:Array Ja}(a:oX n h h2)(hl:l<n)(x:mE k h l xs):mE k h2 l xs:=
 x.go fun o e=>a l o (Qs (Ud 5 hl)) (Qs (Ud 4 hl)) (Qs hl) (Qs (Xv hl)) (Qs (Ud 2 hl)) e
def nzA{a b:Nat}(n:Jc)(h:a≠b):n+a≠n+b:=fun z=>h (by have z':(_:Nat)=_:=z;omega)
def nzZ{b:Nat}(n:Jc)(h:0≠b):n≠n+b:=fun z=>h (by have z':(_:Nat)=_:=z;omega)
def vI.fld{f0:Ja}{k1 k2 k3:Bool}{l1 l2 l3 n:Jc}{j1 j2 j3:Nat}{h h2:Je}(g:vI f0 k1 k2 k3 l1 l2 l3 n j1 j2 j3 h){f1:Ja}(z:IsZip h2 (n+5) (n+3) (n+4) f1)(s:Heap.ExtBut (n+5) h h2):vI f1 k1 k2 k3 l1 l2 l3 n j1 j2 j3 h2:=by
 obtain⟨_,g2,⟨a,b,c,g3⟩,g4,g5,g6⟩:=g;exact⟨z,s _ _ (nzA n ∅) g2,⟨a,b,c,s _ _ (nzA n ∅) g3⟩,g4.go fun o e=>s _ o (nzZ n ∅) e,g5.go fun o e=>s _ o (nzA n ∅) e,g6.go fun o e=>s _ o (nzA n ∅) e⟩
def vI.it1{f0:Ja}{k1 k2 k3:Bool}{l1 l2 l3 n:Jc}{j1 j2 j3 m:Nat}{h h2:Je}(g:vI f0 k1 k2 k3 l1 l2 l3 n j1 j2 j3 h)(z:yW k1 h2 n l1 m)(s:Heap.ExtBut n h h2):vI f0 k1 k2 k3 l1 l2 l3 n m j2 j3 h2:=by
 obtain⟨g1,g2,⟨a,b,c,g3⟩,_,g5,g6⟩:=g;exact⟨s _ _ (nzZ n ∅).symm g1,s _ _ (nzZ n ∅).symm g2,⟨a,b,c,s _ _ (nzZ n ∅).symm g3⟩,z,g5.go fun o e=>s _ o (nzZ n ∅).symm e,g6.go fun o e=>s _ o (nzZ n ∅).symm e⟩
def vI.it2{f0:Ja}{k1 k2 k3:Bool}{l1 l2 l3 n:Jc}{j1 j2 j3 m:Nat}{h h2:Je}(g:vI f0 k1 k2 k3 l1 l2 l3 n j1 j2 j3 h)(z:yW k2 h2 (n+1) l2 m)(s:Heap.ExtBut (n+1) h h2):vI f0 k1 k2 k3 l1 l2 l3 n j1 m j3 h2:=by
 obtain⟨g1,g2,⟨a,b,c,g3⟩,g4,_,g6⟩:=g;exact⟨s _ _ (nzA n ∅) g1,s _ _ (nzA n ∅) g2,⟨a,b,c,s _ _ (nzA n ∅) g3⟩,g4.go fun o e=>s _ o (nzZ n ∅) e,z,g6.go fun o e=>s _ o (nzA n ∅) e⟩
def vI.it3{f0:Ja}{k1 k2 k3:Bool}{l1 l2 l3 n:Jc}{j1 j2 j3 m:Nat}{h h2:Je}(g:vI f0 k1 k2 k3 l1 l2 l3 n j1 j2 j3 h)(z:yW k3 h2 (n+2) l3 m)(s:Heap.ExtBut (n+2) h h2):vI f0 k1 k2 k3 l1 l2 l3 n j1 j2 m h2:=by
 obtain⟨g1,g2,⟨a,b,c,g3⟩,g4,g5,_⟩:=g;exact⟨s _ _ (nzA n ∅) g1,s _ _ (nzA n ∅) g2,⟨a,b,c,s _ _ (nzA n ∅) g3⟩,g4.go fun o e=>s _ o (nzZ n ∅) e,g5.go fun o e=>s _ o (nzA n ∅) e,z⟩
def vI.out{f0 a b c:Ja}{k1 k2 k3:Bool}{l1 l2 l3 n:Jc}{j1 j2 j3:Nat}{h h2:Je}(g:vI f0 k1 k2 k3 l1 l2 l3 n j1 j2 j3 h)(z:lA h2 (n+4) a b c)(s:Heap.ExtBut (n+4) h h2):vI f0 k1 k2 k3 l1 l2 l3 n j1 j2 j3 h2:=by
 obtain⟨g1,g2,_,g4,g5,g6⟩:=g;exact⟨s _ _ (nzA n ∅) g1,s _ _ (nzA n ∅) g2,⟨a,b,c,z⟩,g4.go fun o e=>s _ o (nzZ n ∅) e,g5.go fun o e=>s _ o (nzA n ∅) e,g6.go fun o e=>s _ o (nzA n ∅) e⟩
section
variable{prog:Jf}{w:Jg}{A:Jh}{E:Ja->Jb->Prop}{s:Jb}
def zDZ{T:Jc}{a b c x:Ja}{k:Nat}{Q:Unit->Jb->Prop}(hT:lA s.heap T a b c)
  (h:∀ h',h'.get? T=some { cls:=.type "tuple", data:=.seq ((#[a,b,c]:Array Ja).setIfInBounds k x) }->Heap.SameBut T s.heap h'->Q () { s with heap:=h' }):
  wpAny (model prog w) A (updateSeq T (·.setIfInBounds k x)) Q E s:=by
 refine wpAny_updateSeq hT rfl (h _ ?_ (Heap.SameBut.update ..))
 rw[Heap.get?_update_self _ hT rfl];simp[Obj.mapSeq]
def zSi{k1 k2 k3:Bool}{n l1 l2 l3:Jc}{j:Nat}{xs ys zs:Array Ja}{Q:PySem.Fin->Jb->Prop}(hh:A.handled=none)(b1:l1<n)(b2:l2<n)(b3:l3<n)(g:vI .none k1 k2 k3 l1 l2 l3 n j j j s.heap)(d1:mE k1 s.heap l1 xs)(d2:mE k2 s.heap l2 ys)(d3:mE k3 s.heap l3 zs)
  (go:∀ x y z,xs[j]?=some x->ys[j]?=some y->zs[j]?=some z->∀ h2,vI (rawInt s.heap.objs.size) k1 k2 k3 l1 l2 l3 n (j+1) (j+1) (j+1) h2->lA h2 s.heap.objs.size x y z->oX n s.heap h2->Q (.done (.ret (.ref s.heap.objs.size))) { s with heap:=h2 })
  (stop:xs[j]?=none∨ys[j]?=none∨zs[j]?=none->∀ h2 e,oX n s.heap h2->(∃ o,h2.get? e=some o/\o.cls=.type "StopIteration")->E (.ref e) { s with heap:=h2 }):
  wpAny (model prog w) A (Builtin.«zip.__next__» ⟨[.ref (n+5)],[]⟩) Q E s:=by
 have stopZ:∀ {h1:Je} {e:Jc} {v:Ja} {k:Nat} {R:Unit->Jb->Prop},oX n s.heap h1->IsZip h1 (n+5) (n+3) (n+4) .ellipsis->(∃ o,h1.get? e=some o/\o.cls=.type "StopIteration")->k<5->
   (∀ h3,oX n s.heap h3->(∃ o,h3.get? e=some o/\o.cls=.type "StopIteration")->R () { s with heap:=h3 })->wpAny (model prog w) A (setField (.ref (n+5)) k v) R E { s with heap:=h1 }:=by
  intro h1 e v k R kz z he hk fin;obtain⟨oe,e1,e2⟩:=he;have nz:e≠n+5:=fun y=>by subst y;rw[z] at e1;cases e1;simp at e2
  exact wpAny_setField_rec z (by simpa using hk) fun h3 _ s3=>fin h3 (kz.then (.eb s3.extBut (.inl rfl))) ⟨oe,s3.extBut _ _ nz e1,e2⟩
 obtain⟨z0,t0,⟨a,b,c,p0⟩,_⟩:=id g;refine show wpAny _ _ (field _ 2 >>= _) _ _ s from Jr (wpAny_field z0 rfl (x:=.bool false) rfl (show wpAny _ _ (field _ 3 >>= _) _ _ s from Jr (wpAny_field z0 rfl (x:=.ref (n+3)) rfl (Jr (wpAny_seqItems t0 rfl (Jr ?_))))))
 unfold Builtin.SmallTypes.ownedTupleIsFree;refine Jr (wpAny_field z0 rfl (x:=.none) rfl (Ju ?_))
 simp only[if_true];refine Jr (wpAny_rule (Jr (wpAny_field z0 rfl (x:=.ref (n+4)) rfl (Jr (wpAny_setField_rec z0 (by simp) fun h1 z1 s1=>Jr ?_)))))
 have g1:vI .ellipsis k1 k2 k3 l1 l2 l3 n j j j h1:=g.fld z1 s1.extBut;have k1':oX n s.heap h1:=.eb s1.extBut (.inl rfl);simp only[List.zipIdx_cons,List.zipIdx_nil,Wp,List.forIn_nil];refine Jr (Jr (wpAny_onRaise (show wpAny _ _ (Builtin.SmallTypes.nextOf _ >>= _) _ _ _ from Jr ?_)))
 cases q1:xs[j]? with
 | none=>
  refine zCi (s:={ s with heap:=h1 }) hh g1.2.2.2.1 (k1'.sq b1 d1) q1 fun h2 e x2 he=>stopZ (k1'.then (.eb x2 (.inr (.inr (.inl rfl))))) (x2 _ _ (nzZ n ∅).symm g1.1) he ∅ fun h3=>stop (.inl q1) h3 e
 | some x=>
  refine vH (s:={ s with heap:=h1 }) g1.2.2.2.1 (k1'.sq b1 d1) q1 fun h2 i2 s2=>Ju ?_
  have g2:=g1.it1 i2 s2.extBut;have k2':=k1'.then (.eb s2.extBut (.inr (.inr (.inl rfl))));have p2:lA h2 (n+4) a b c:=s2.extBut _ _ (nzZ n ∅).symm (s1.extBut _ _ (nzA n ∅) p0)
  refine Jr (wpAny_seqItems (s:={ s with heap:=h2 }) p2 rfl (Jr (zDZ p2 fun h3 p3 s3=>Jr (wpAny_letGo (Ju ?_)))))
  have p3:lA h3 (n+4) x b c:=p3;have g3:=g2.out p3 s3.extBut;have k3':=k2'.then (.eb s3.extBut (.inr (.inl rfl)));refine Jr (Jr (wpAny_onRaise (show wpAny _ _ (Builtin.SmallTypes.nextOf _ >>= _) _ _ _ from Jr ?_)))
  cases q2:ys[j]? with
  | none=>
   refine zCi (s:={ s with heap:=h3 }) hh g3.2.2.2.2.1 (k3'.sq b2 d2) q2 fun h4 e x4 he=>stopZ (k3'.then (.eb x4 (.inr (.inr (.inr (.inl rfl)))))) (x4 _ _ (nzA n ∅) g3.1) he ∅ fun h5=>stop (.inr (.inl q2)) h5 e
  | some y=>
   refine vH (s:={ s with heap:=h3 }) g3.2.2.2.2.1 (k3'.sq b2 d2) q2 fun h4 i4 s4=>Ju ?_
   have g4:=g3.it2 i4 s4.extBut;have k4':=k3'.then (.eb s4.extBut (.inr (.inr (.inr (.inl rfl)))));have p4:lA h4 (n+4) x b c:=s4.extBut _ _ (nzA n ∅) p3
   refine Jr (wpAny_seqItems (s:={ s with heap:=h4 }) p4 rfl (Jr (zDZ p4 fun h5 p5 s5=>Jr (wpAny_letGo (Ju ?_)))))
   have p5:lA h5 (n+4) x y c:=p5;have g5:=g4.out p5 s5.extBut;have k5':=k4'.then (.eb s5.extBut (.inr (.inl rfl)));refine Jr (Jr (wpAny_onRaise (show wpAny _ _ (Builtin.SmallTypes.nextOf _ >>= _) _ _ _ from Jr ?_)))
   cases q3:zs[j]? with
   | none=>
    refine zCi (s:={ s with heap:=h5 }) hh g5.2.2.2.2.2 (k5'.sq b3 d3) q3 fun h6 e x6 he=>stopZ (k5'.then (.eb x6 (.inr (.inr (.inr (.inr rfl)))))) (x6 _ _ (nzA n ∅) g5.1) he ∅ fun h7=>stop (.inr (.inr q3)) h7 e
   | some z=>
    refine vH (s:={ s with heap:=h5 }) g5.2.2.2.2.2 (k5'.sq b3 d3) q3 fun h6 i6 s6=>Ju ?_
    have g6:=g5.it3 i6 s6.extBut;have k6':=k5'.then (.eb s6.extBut (.inr (.inr (.inr (.inr rfl)))));have p6:lA h6 (n+4) x y c:=s6.extBut _ _ (nzA n ∅) p5
    refine Jr (wpAny_seqItems (s:={ s with heap:=h6 }) p6 rfl (Jr (zDZ p6 fun h7 p7 s7=>Jr (wpAny_letGo (Ju (Ju ?_))))))
    have p7:lA h7 (n+4) x y z:=p7;have g7:=g6.out p7 s7.extBut;have k7':=k6'.then (.eb s7.extBut (.inr (.inl rfl)));have sz:h7.objs.size=s.heap.objs.size:=s7.1.trans (s6.1.trans (s5.1.trans (s4.1.trans (s3.1.trans (s2.1.trans s1.1)))));refine Jr (wpAny_seqItems (s:={ s with heap:=h7 }) p7 rfl (Jr (wpAny_newTuple (show wpAny _ _ (Builtin.SmallTypes.ownedTupleHandOut _ (.ref h7.objs.size) >>= _) _ _ _ from Jr ?_))))
    unfold Builtin.SmallTypes.ownedTupleHandOut;refine Jr (wpAny_setField_rec (Heap.get?_push_of_some _ g7.1) (by simp) fun h8 z8 s8=>wpAny_setField_rec z8 (by simp) fun h9 z9 s9=>Ju ?_)
    have nz:h7.objs.size≠n+5:=Yp (Heap.lt_size g7.1);have x9:Heap.ExtBut (n+5) h7 h9:=fun c o c1 e=>s9.extBut _ _ c1 (s8.extBut _ _ c1 (Heap.get?_push_of_some _ e))
    have g9:vI (rawInt h7.objs.size) k1 k2 k3 l1 l2 l3 n (j+1) (j+1) (j+1) h9:=g7.fld z9 x9;have t9:lA h9 h7.objs.size x y z:=s9.extBut _ _ nz (s8.extBut _ _ nz (Heap.get?_push_size _ rfl));rw[sz] at g9 t9;show Q (.done (.ret (.ref h7.objs.size))) _
    rw[sz];exact go x y z q1 q2 q3 h9 g9 t9 (k7'.then (.eb x9 (.inl rfl)))
def zPK{k1 k2 k3:Bool}{n l1 l2 l3:Jc}{j:Nat}{xs ys zs:Array Ja}{Q:Option Ja->Jb->Prop}(hh:A.handled=none)(b1:l1<n)(b2:l2<n)(b3:l3<n)(g:vI .none k1 k2 k3 l1 l2 l3 n j j j s.heap)(d1:mE k1 s.heap l1 xs)(d2:mE k2 s.heap l2 ys)(d3:mE k3 s.heap l3 zs)
  (go:∀ x y z,xs[j]?=some x->ys[j]?=some y->zs[j]?=some z->∀ h2,vI (rawInt s.heap.objs.size) k1 k2 k3 l1 l2 l3 n (j+1) (j+1) (j+1) h2->lA h2 s.heap.objs.size x y z->oX n s.heap h2->Q (some (.ref s.heap.objs.size)) { s with heap:=h2 })
  (stop:xs[j]?=none∨ys[j]?=none∨zs[j]?=none->∀ h2,oX n s.heap h2->Q none { s with heap:=h2 }):wpAny (model prog w) A (pyNext (.ref (n+5))) Q E s:=by
 have ty:s.TypeIs (.ref (n+5)) "zip" := ⟨_,g.1,rfl⟩;unfold pyNext
 refine Jr (wpAny_attempt (wpAny_callSpecial?_slot (name:=Str.ofString "__next__") ty F.slot_zip_next (wpAny_call_entry F.slot_zip_next ty F.entry_zip_next
  (zSi hh b1 b2 b3 g d1 d2 d3 (fun x y z q1 q2 q3 h2 a1 a2 a3=>⟨_,rfl,Ju (go x y z q1 q2 q3 h2 a1 a2 a3)⟩) fun q h2 e k he=>?_) (F.args_zip_next_1 _))))
 obtain⟨o,eo,co⟩:=he;exact Jr (wpAny_isInstance (T := "StopIteration") (b:=true) ⟨o,eo,co⟩ isSubtype_stop (Ju (stop q h2 k)))
end
abbrev yH2(k1 k2:Bool)(h:Je)(l1 l2:Jc):Je:=(h.push (zO k1 l1)).push (zO k2 l2)
abbrev yH3(k1 k2 k3:Bool)(h:Je)(l1 l2 l3:Jc):Je:=(yH2 k1 k2 h l1 l2).push (zO k3 l3)
abbrev yH4(k1 k2 k3:Bool)(h:Je)(l1 l2 l3:Jc):Je:=(yH3 k1 k2 k3 h l1 l2 l3).push { cls:=.type "tuple", data:=.seq #[.ref h.objs.size,.ref (h.push (zO k1 l1)).objs.size,.ref (yH2 k1 k2 h l1 l2).objs.size] }
abbrev yH5(k1 k2 k3:Bool)(h:Je)(l1 l2 l3:Jc):Je:=(yH4 k1 k2 k3 h l1 l2 l3).push { cls:=.type "tuple", data:=.seq #[.none,.none,.none] }
abbrev yH6(k1 k2 k3:Bool)(h:Je)(l1 l2 l3:Jc):Je:=(yH5 k1 k2 k3 h l1 l2 l3).push { cls:=.type "zip", data:=.fields #[.none,.bool false,.bool false,.ref (yH3 k1 k2 k3 h l1 l2 l3).objs.size,.ref (yH4 k1 k2 k3 h l1 l2 l3).objs.size] }
def zHT(k1 k2 k3:Bool)(l1 l2 l3:Jc)(xs ys zs:Array Ja):Meets (Builtin.«zip.__new__» ⟨[.type "zip", .ref l1,.ref l2,.ref l3],[]⟩) (fun _ R s=>mE k1 s.heap l1 xs/\mE k2 s.heap l2 ys/\mE k3 s.heap l3 zs/\
  R (.ok (.ret (.ref (yH5 k1 k2 k3 s.heap l1 l2 l3).objs.size))) { s with heap:=yH6 k1 k2 k3 s.heap l1 l2 l3 }):=
 .of_wp fun prog w A R s h=>by
  obtain⟨hp,g,d,tk,os⟩:=s;obtain⟨hl1,hl2,hl3,h⟩:=h;have hsub:=sub_zip;have d1:mE k1 (Shared.heap ⟨hp,g,d,tk,os⟩) l1 xs:=hl1;have d2:mE k2 (Shared.heap ⟨hp.push { cls:=.type (itN k1),data:=.fields #[.ref l1,.int 0 0] },g,d,tk,os⟩) l2 ys:=hl2.go fun o e=>Heap.get?_push_of_some _ e
  have d3:mE k3 (Shared.heap ⟨(hp.push { cls:=.type (itN k1),data:=.fields #[.ref l1,.int 0 0] }).push { cls:=.type (itN k2),data:=.fields #[.ref l2,.int 0 0] },g,d,tk,os⟩) l3 zs:=hl3.go fun o e=>Heap.get?_push_of_some _ (Heap.get?_push_of_some _ e)
  wp_walk using vD d1,vD d2,vD d3
  exact⟨_,rfl,h⟩
section
variable{prog:Jf}{w:Jg}{A:Jh}{E:Ja->Jb->Prop}{s:Jb}
def zIv{k1 k2 k3:Bool}{l1 l2 l3:Jc}{xs ys zs:Array Ja}{Q:Ja->Jb->Prop}(d1:mE k1 s.heap l1 xs)(d2:mE k2 s.heap l2 ys)(d3:mE k3 s.heap l3 zs)
  (h:∀ h2,vI .none k1 k2 k3 l1 l2 l3 s.heap.objs.size 0 0 0 h2->(∀ c o,s.heap.get? c=some o->h2.get? c=some o)->Q (.ref (s.heap.objs.size+5)) { s with heap:=h2 }):wpAny (model prog w) A (call (.type "zip") [.ref l1,.ref l2,.ref l3]) Q E s:=by
 refine callType_new F.called_zip ∅ (yS _ _ _) (zAY _ _ _) (fun obj=>pZ obj _ _ _) F.entry_zip_new (zHT k1 k2 k3 l1 l2 l3 xs ys zs) ⟨d1,d2,d3,?_⟩
 have up:∀ {h:Je} {a:Jc} {o ob:Obj},h.get? a=some o->(h.push ob).get? a=some o:=fun e=>Heap.get?_push_of_some _ e
 have m1:(s.heap.push (zO k1 l1)).objs.size=s.heap.objs.size+1:=Heap.size_push ..;have m2:(yH2 k1 k2 s.heap l1 l2).objs.size=s.heap.objs.size+2:=(Heap.size_push ..).trans (congrArg (·+1) m1);have m3:(yH3 k1 k2 k3 s.heap l1 l2 l3).objs.size=s.heap.objs.size+3:=(Heap.size_push ..).trans (congrArg (·+1) m2);have m4:(yH4 k1 k2 k3 s.heap l1 l2 l3).objs.size=s.heap.objs.size+4:=(Heap.size_push ..).trans (congrArg (·+1) m3);have m5:(yH5 k1 k2 k3 s.heap l1 l2 l3).objs.size=s.heap.objs.size+5:=(Heap.size_push ..).trans (congrArg (·+1) m4);have r0:(yH6 k1 k2 k3 s.heap l1 l2 l3).get? s.heap.objs.size=some (zO k1 l1):=up (up (up (up (up (Heap.get?_push_size _ rfl)))));have r1:(yH6 k1 k2 k3 s.heap l1 l2 l3).get? (s.heap.push (zO k1 l1)).objs.size=some (zO k2 l2):=up (up (up (up (Heap.get?_push_size _ rfl))));have r1':(yH6 k1 k2 k3 s.heap l1 l2 l3).get? (yH2 k1 k2 s.heap l1 l2).objs.size=some (zO k3 l3):=up (up (up (Heap.get?_push_size _ rfl)));have r2:(yH6 k1 k2 k3 s.heap l1 l2 l3).get? (yH3 k1 k2 k3 s.heap l1 l2 l3).objs.size=some _:=up (up (Heap.get?_push_size _ rfl));have r3:(yH6 k1 k2 k3 s.heap l1 l2 l3).get? (yH4 k1 k2 k3 s.heap l1 l2 l3).objs.size=some _:=up (Heap.get?_push_size _ rfl);have r4:(yH6 k1 k2 k3 s.heap l1 l2 l3).get? (yH5 k1 k2 k3 s.heap l1 l2 l3).objs.size=some _:=Heap.get?_push_size _ rfl;rw[m1] at r1;rw[m2] at r1';rw[m1,m2,m3] at r2;rw[m4] at r3;rw[m3,m4,m5] at r4;show _/\_
 rw[m5];exact⟨⟨_,r4,rfl⟩,h _ ⟨r4,r2,⟨_,_,_,r3⟩,.mk r0 rfl rfl,.mk r1 rfl rfl,.mk r1' rfl rfl⟩ fun c o x=>up (up (up (up (up (up x)))))⟩
end
def Ity(K:PySem.W.Frag)(k1 k2 k3:Bool)(a1 a2 a3:Jc):It:=
  ⟨fun i H=>∃ xs ys zs x y z,SqK k1 K H a1 xs/\SqK k2 K H a2 ys/\SqK k3 K H a3 zs/\xs[i]?=some x/\ys[i]?=some y/\zs[i]?=some z,
   fun i H v H'=>∃ p x y z,v=.ref p/\H p=none/\H'=upd H p (.tup [x,y,z])/\(∀ xs,SqK k1 K H a1 xs->xs[i]?=some x)/\(∀ ys,SqK k2 K H a2 ys->ys[i]?=some y)/\∀ zs,SqK k3 K H a3 zs->zs[i]?=some z,
   fun i H=>∃ xs ys zs,SqK k1 K H a1 xs/\SqK k2 K H a2 ys/\SqK k3 K H a3 zs/\(xs.length<=i∨ys.length<=i∨zs.length<=i)⟩
def zTG(k1 k2 k3:Bool)(a1 a2 a3 n:Jc)(i:Nat)(h:Je):Prop:=vI .none k1 k2 k3 a1 a2 a3 n i i i h
def zJh{P:Jf}{w:Jg}{K:Fg_}{elts:List Expr}{x1:Nat}{tp:Pos}(k1 k2 k3:Bool)(a1 a2 a3 n:Jc)(l1:a1<n)(l2:a2<n)(l3:a3<n):
  Turn P w K (.Tuple elts x1 tp) (Ity K k1 k2 k3 a1 a2 a3) [n+5,n+3,n+4,n,n+1,n+2] (n+5) (zTG k1 k2 k3 a1 a2 a3 n) where
 mem:=by simp
 obj:=fun i h st b hb=>by
  obtain⟨t1,t2,⟨a,b',c',t3⟩,t4,t5,t6⟩:=st;obtain⟨o4,e4,_,d4⟩:=t4.get;obtain⟨o5,e5,_,d5⟩:=t5.get;obtain⟨o6,e6,_,d6⟩:=t6.get;simp only[Qd,Xc,or_false] at hb;rcases hb with rfl | rfl | rfl | rfl | rfl | rfl
  ·exact jM t1 rfl fun v z=>by cases z
  ·exact jM t2 rfl fun v z=>by cases z
  ·exact jM t3 rfl fun v z=>by cases z
  ·exact jM e4 d4 fun v z=>by cases z
  ·exact jM e5 d5 fun v z=>by cases z
  ·exact jM e6 d6 fun v z=>by cases z
 keep:=fun i h h' st k=>by
  obtain⟨t1,t2,⟨a,b',c',t3⟩,t4,t5,t6⟩:=st;exact⟨k _ (by simp) _ t1,k _ (by simp) _ t2,⟨a,b',c',k _ (by simp) _ t3⟩,t4.go fun o e=>k _ (by simp) o e,t5.go fun o e=>k _ (by simp) o e,t6.go fun o e=>k _ (by simp) o e⟩
 item:=by
  intro X hP hw hK hc i Mh s r H E I hf st hg;subst hP hw hK;obtain⟨xs,ys,zs,x,y,z,q1,q2,q3,hx,hy,hz⟩:=hg;obtain⟨us,r1,s1,z1⟩:=sqI I q1;obtain⟨ws,r2,s2,z2⟩:=sqI I q2;obtain⟨vs,r3,s3,z3⟩:=sqI I q3;obtain⟨u,hu,ru⟩:=r1.get hx;obtain⟨v,hv,rv⟩:=r2.get hy;obtain⟨t,ht,rt⟩:=r3.get hz;have hu':us.toArray[i]?=some u:=by simpa using hu
  have hv':ws.toArray[i]?=some v:=by simpa using hv
  have ht':vs.toArray[i]?=some t:=by simpa using ht
  have st':=st;obtain⟨t1,t2,⟨a,b,c,t3⟩,t4,t5,t6⟩:=st;refine zPK (I.ok.hd hc) l1 l2 l3 st' s1 s2 s3 (fun x' y' z' f1 f2 f3 h' g' p' kz=>?_) (fun q=>?_)
  rotate_left
  ·rw[hu',hv',ht'] at q;rcases q with q | q | q<;>cases q
  rw[hu'] at f1;cases f1
  rw[hv'] at f2;cases f2
  rw[ht'] at f3;cases f3
  refine⟨_,rfl,wpAny_letOwnedTupleGo_zip (s:={ s with heap:=h' }) g'.1 fun h'' c1 c2=>?_⟩
  have zl:s.heap.objs.size≠n+5:=Yp (Heap.lt_size t1);have np:H s.heap.objs.size=none:=I.hok.fresh (Qf _)
  have I1:Inv X Mh r (upd H s.heap.objs.size (.tup [x,y,z])) { s with heap:=h'',toks:=s.toks }:=zIn (us:=[u,v,t]) I hf (fun b o hb e=>by
    simp only[Qd,Xc,or_false,not_or] at hb
    exact c2.extBut b o hb.1 (kz b o hb.1 hb.2.2.1 hb.2.2.2.1 hb.2.2.2.2.1 hb.2.2.2.2.2 e)) (Qf _) ⟨_,c2.extBut _ _ zl p',rfl,_,rfl⟩ (.cons ru (.cons rv (.cons rt .nil))) (show 3<=sizeLine by decide)
  refine⟨.ref s.heap.objs.size,_,I1,rfl,⟨_,x,y,z,rfl,np,rfl,fun zs hz=>by rw[vB I hz q1];exact hx,fun zs hz=>by rw[vB I hz q2];exact hy,fun zs' hz'=>by rw[vB I hz' q3];exact hz⟩,g'.fld c1 c2.extBut,fun b hb=>?_⟩
  ·obtain⟨o,e,_⟩:∃ o,s.heap.get? b=some o/\True:=by
    obtain⟨o4,e4,_⟩:=t4.get;obtain⟨o5,e5,_⟩:=t5.get;obtain⟨o6,e6,_⟩:=t6.get;simp only[Qd,Xc,or_false] at hb;rcases hb with rfl | rfl | rfl | rfl | rfl | rfl
    ·exact⟨_,t1,trivial⟩
    ·exact⟨_,t2,trivial⟩
    ·exact⟨_,t3,trivial⟩
    ·exact⟨_,e4,trivial⟩
    ·exact⟨_,e5,trivial⟩
    ·exact⟨_,e6,trivial⟩
   rw[aV (Qs (Heap.lt_size e))];exact(hf b hb).1
 done:=by
  intro X hP hw hK hc i Mh s r H E I hf st hg;subst hP hw hK;obtain⟨xs,ys,zs,q1,q2,q3,hl⟩:=hg;obtain⟨us,r1,s1,z1⟩:=sqI I q1;obtain⟨ws,r2,s2,z2⟩:=sqI I q2;obtain⟨vs,r3,s3,z3⟩:=sqI I q3;have st':=st;obtain⟨t1,t2,⟨a,b,c,t3⟩,t4,t5,t6⟩:=st;have e1:=r1.length;have e2:=r2.length;have e3:=r3.length;refine zPK (I.ok.hd hc) l1 l2 l3 st' s1 s2 s3 (fun x y z f1 f2 f3=>?_) fun _ h' b7=>⟨rfl,zIj (t':=s.toks) I hf fun b o hb e=>?_⟩
  ·have m1:=(Ue.mp f1).1
   have m2:=(Ue.mp f2).1;have m3:=(Ue.mp f3).1;rw[Qj] at m1 m2 m3;omega
  ·simp only[Qd,Xc,or_false,not_or] at hb
   exact b7 b o hb.1 hb.2.2.1 hb.2.2.2.1 hb.2.2.2.2.1 hb.2.2.2.2.2 e
 self:=fun _ _ _ _ _ st h=>Mb st.1 h
section
unseal PEd PEf PTd PWd PAd PSd eH POd PGd iO PId PSx mC PTs PCd PCf
variable{X:Cx}{G:Gx}{fs:Fv}{f:Ev}
def iZq(K:PySem.W.Frag)(ta:TA):TI:=fun e H R=>ta e H fun vs H1=>∃ k1 k2 k3 a1 a2 a3 xs ys zs,vs=[.ref a1,.ref a2,.ref a3]/\SqK k1 K H1 a1 xs/\SqK k2 K H1 a2 ys/\SqK k3 K H1 a3 zs/\R (Ity K k1 k2 k3 a1 a2 a3) H1
def zPd{a b c:Expr}{ta:TA}{p pos:Pos}{elts:List Expr}{x1:Nat}{tp:Pos}(hg:Gl X "zip")(hm:X.mg "zip" = none)(ha:PA X [a,b,c] ta)
  (hs:starEach [a,b,c] X.env=[(false,eval a X.env),(false,eval b X.env),(false,eval c X.env)]:=by rfl) (hs2:starEach [b,c] X.env=[(false,eval b X.env),(false,eval c X.env)]:=by rfl):PI X (.Tuple elts x1 tp) (.Call (.Name "zip" p) [a,b,c] [] pos) (iZq X.K ta):=by
 intro Mh s e H R I h;refine Call_ (qJ I hg hm boot_zip (X9 (thn (ha pos Mh s e H _ I h) fun us s1 ⟨vs,H1,I1,r1,q1⟩=>?_) (by rw[hs,hs2]) (by rw[hs2];rfl)))
 obtain⟨k1,k2,k3,a1,a2,a3,xs,ys,zs,rfl,h1,h2,h3,q⟩:=q1
 cases r1 with
 | cons r rr=>
  cases rr with
  | cons r' rr=>
   cases rr with
   | cons r'' rr=>
   cases rr;cases r;cases r'
   cases r''
   obtain⟨us,rv,p1,z1⟩:=sqI I1 h1;obtain⟨ws,rw_,p2,z2⟩:=sqI I1 h2;obtain⟨ts,rt_,p3,z3⟩:=sqI I1 h3;refine zIv p1 p2 p3 fun h' b1 b6=>Mb (s:={ s1 with heap:=h' }) b1.1 ?_
   refine⟨s1.heap.objs.size+5,_,_,_,H1,rfl,I1.kept (t':=s1.toks) b6,zJh k1 k2 k3 a1 a2 a3 s1.heap.objs.size p1.lt p2.lt p3.lt,b1,fun b hb=>?_,q⟩
   have hb':s1.heap.objs.size<=b:=by
    simp only[Qd,Xc,or_false] at hb;rcases hb with rfl | rfl | rfl | rfl | rfl | rfl<;>omega
   exact I1.fpOk hb' (I1.hok.fresh hb')
def zDk:∀(xs ys zs:List D),(sJ xs ys zs).length=min xs.length (min ys.length zs.length)
 | a::r,b::q,c::t=>by
  have:=zDk r q t
  simp only[sJ,Qk,this];omega
 | [],_,_=>by simp[sJ]
 | a::r,[],_=>by simp[sJ]
 | a::r,b::q,[]=>by simp[sJ]
def zGF{K:Fg_}{Hi:Hp}{k1 k2 k3:Bool}{a1 a2 a3:Jc}{xs ys zs:List V}{ds es fs:List D}(h1:SqK k1 K Hi a1 xs)(h2:IsDs K Hi xs ds)(h3:SqK k2 K Hi a2 ys)(h4:IsDs K Hi ys es)(h5:SqK k3 K Hi a3 zs)(h6:IsDs K Hi zs fs):
  vM K Hi (Ity K k1 k2 k3 a1 a2 a3) (sJ ds es fs):=fun Hi1 H1 s1 s2 i=>by
 have g1:=gZ (s1.trans s2) h1;have g3:=gZ (s1.trans s2) h3;have g5:=gZ (s1.trans s2) h5;refine⟨fun hl=>⟨xs,ys,zs,g1,g3,g5,?_⟩,fun d hd=>?_⟩
 ·rw[zDk] at hl
  have e1:=h2.length;have e2:=h4.length;have e3:=h6.length;omega
 ·obtain⟨a,b,c,ha,hb,hc,rfl⟩:=zAu ds es fs i d hd
  obtain⟨v,hv,rv⟩:=h2.at ha;obtain⟨w,hw,rw_⟩:=h4.at hb;obtain⟨u,hu,ru⟩:=h6.at hc;refine⟨⟨xs,ys,zs,v,w,u,g1,g3,g5,hv,hw,hu⟩,fun x H2 y=>?_⟩
  obtain⟨p,x',y',z',rfl,hp,rfl,y1,y2,y3⟩:=y;have e1:=y1 xs g1;have e2:=y2 ys g3;have e3:=y3 zs g5;rw[hv] at e1;cases e1
  rw[hw] at e2;cases e2
  rw[hu] at e3;cases e3
  have hi:=s2.none hp;have sm:=bY hi (.tup [v,w,u]);exact⟨upd Hi1 p (.tup [v,w,u]),Ext.new s2 hp,.tup (.inl (.inl aS)) (.cons ((rv.mono s1).mono sm) (.cons ((rw_.mono s1).mono sm) (.cons ((ru.mono s1).mono sm) .nil)))⟩
def zPN{a b c:Expr}{p pos:Pos}{elts:List Expr}{x1:Nat}{tp:Pos}(hg:Gl X "zip")(hm:X.mg "zip" = none)(ha:PAd X G [a,b,c] fs)
  (hs:starEach [a,b,c] X.env=[(false,eval a X.env),(false,eval b X.env),(false,eval c X.env)]:=by rfl) (hs2:starEach [b,c] X.env=[(false,eval b X.env),(false,eval c X.env)]:=by rfl):
  PId X G (.Tuple elts x1 tp) (.Call (.Name "zip" p) [a,b,c] [] pos) (zLe fs):=PI.wk (zPd hg hm ha hs hs2) fun e H Q q=>by
 obtain⟨ρ,Hi,R,ou⟩:=q;refine zJI R ou fun vs ds Hi1 H1 e1 R1 r1 o1=>?_
 split at o1
 ·rename_i x y z
  obtain⟨v,w,u,rfl,h,h',h''⟩:=r1.three;split at o1
  ·rename_i ds es fs q1 q2 q3
   obtain⟨k1,a1,xs,rfl,g1,g2⟩:=zPF h q1;obtain⟨k2,a2,ys,rfl,g3,g4⟩:=zPF h' q2;obtain⟨k3,a3,zs,rfl,g5,g6⟩:=zPF h'' q3;exact⟨k1,k2,k3,a1,a2,a3,xs,ys,zs,rfl,gZ R1.s g1,gZ R1.s g3,gZ R1.s g5,o1.here R1.s _ (zGF g1 g2 g3 g4 g5 g6)⟩
  ·exact o1.elim
 ·exact o1.elim
end
end L3
namespace L3
open PySem PySem.Spec PyProof.Rows L2 PySem.W
unseal PEd PEf PTd PWd PAd PSd eH POd PGd iO PId PSx mC
end L3
namespace PySem.W.Fast
def tw2908480713277274016:=0
def tw714671908759645881:=0
def tw506977491830411299:=0
def tw11485553501418861585:=0
def tw7275909643578910020:=0
def tw10406265028749454196:=0
def tw4724058042857154408:=0
def tw607203124488272394:=0
def tw11366802237772972195:=0
def tw13720615256432094706:=0
def tw4197551026352090496:=0
def tw4173721927583163746:=0
def tw14024733916714855039:=0
def tw9633987244249450122:=0
def tw7166642160859393072:=0
def tw5108273010794417564:=0
def tw18155676704990763936:=0
def tw8353005640389399865:=0
def tw13118101881834321724:=0
def tw770954486225287253:=0
def tw8777998369877130774:=0
def tw16422475859716029767:=0
def tw1287245853517147503:=0
def tw18206908128795550323:=0
def tw4212951990291067923:=0
def tw3691528406412576543:=0
def tw5001903414348509732:=0
def tw12921673999470488797:=0
def tw8015811813138992928:=0
def tw15304397593001017821:=0
def tw17555668305232461924:=0
def tw17758921053797732463:=0
def tw1160830059930703751:=0
def tw10362270121246085609:=0
def tw6079387013475040554:=0
def tw1678360016193668993:=0
def tw13483902772717684533:=0
def tw3690584488194866577:=0
def tw7582370544198772443:=0
def tw545861848370584486:=0
def tw4210564179304883685:=0
def tw4684125348263721480:=0
def tw6295136470061811177:=0
def tw8007378361576908594:=0
def tw15196224147057303042:=0
def tw12411984101029524674:=0
def tw1519006436468136043:=0
def tw7416355076226148723:=0
def tw12401645839025840935:=0
def tw16998599894841109677:=0
def tw1807126709061143791:=0
def tw16882646084037223659:=0
def tw15979532072704528587:=0
def tw11810420412058652405:=0
def tw1588857046900775675:=0
def tw2073763265097927057:=0
def tw13177523237905885813:=0
def tw2096050512996984010:=0
def tw11101794996659602117:=0
def tw4498429005751256700:=0
def tw5702438131084198338:=0
def tw1824528911855075600:=0
def tw3594195420698594337:=0
def tw17647853631483966746:=0
def tw14885428823407620447:=0
def tw4264024225566216031:=0
def tw8472712573515328761:=0
def tw6537557258523406677:=0
def tw7915776780456289666:=0
def tw14235012238514668645:=0
def tw15640197651080395708:=0
def tw8497127341132993695:=0
def tw4446837013367121515:=0
def tw9296506531838054486:=0
def tw17888543637130669508:=0
def tw7926653924141167385:=0
def tw12296354362322351191:=0
def tw11082691379284151676:=0
def tw3816792929286607536:=0
def tw9563287444262521604:=0
def tw17059310407823370132:=0
def tw8522340649827801254:=0
def tw3970956839919453855:=0
def tw12098755567953956684:=0
def tw17624002359109650889:=0
def tw13130225050202009104:=0
def tw4019356473577580623:=0
def tw6343963970336568908:=0
def tw7586390359000694044:=0
def tw294617825628811808:=0
def tw5531992141231991786:=0
def tw13388962451325607982:=0
def tw11141683882337942675:=0
def tw5347067733450282668:=0
def tw17077960868165827395:=0
def tw13866223833592024284:=0
def tw7070053434664977060:=0
def tw4519224460506455029:=0
def tw5290560715789191594:=0
def tw16898333709077960880:=0
def tw5046015517926452342:=0
def tw17944340875570660970:=0
def tw10963310145720164471:=0
def tw7963625994164377029:=0
def tw11664978100596761979:=0
def tw7945407759124666540:=0
def tw18043215180625287321:=0
def tw9154959153131474098:=0
def tw9912055052356144021:=0
def tw8035491830130361939:=0
def tw6520862813401820419:=0
def tw13306913594395908578:=0
def tw8365222437953869545:=0
def tw2348242528202056640:=0
def tw11162874193327993777:=0
def tw2212991307769899848:=0
def tw5932324844271028584:=0
def tw15964243370607584292:=0
def tw13682299336327875992:=0
def tw876461126039327068:=0
def tw9441306891952104895:=0
def tw5871359119983459207:=0
def tw14357366370733752323:=0
def tw10606939930644837009:=0
def tw3674008933892713718:=0
def tw10687189889591450589:=0
def tw17839624989077645428:=0
def tw8954591145544824948:=0
def tw12007126864746481854:=0
def tw2070513547308569217:=0
def tw4062292138416890221:=0
def tw7638901974319319014:=0
def tw4607058986615920848:=0
def tw1057618795486893014:=0
def tw7305009700247874710:=0
def tw17041826494697156967:=0
def tw13354306793999526150:=0
def tw12960073045137735881:=0
def tw12106108955223290398:=0
def tw5165920859745266385:=0
def tw16327975655776411184:=0
def tw17274999903767160068:=0
def tw7623274263374820110:=0
def tw461601659546882072:=0
def tw13308420735598611735:=0
def tw4963693029700854462:=0
def tw15964356437038534811:=0
def tw5238518077200073064:=0
def tw3372281220115094374:=0
def tw3919539372933494418:=0
def tw5385839811892828212:=0
def tw11519222954834271577:=0
def tw13912135414319090671:=0
def tw15945433787510811514:=0
def tw9954633344515962381:=0
def tw9017540105168656438:=0
def tw10812250945414926732:=0
def tw7353597909902191965:=0
def tw1558908423123788166:=0
def tw4350668056213992165:=0
def tw9901554910382193447:=0
def tw13569727631981700316:=0
def tw15237806130992340559:=0
def tw4751840889200097569:=0
def tw13430883570938809269:=0
def tw18092072918865842616:=0
def tw4442430386868506697:=0
def tw16448709990043041998:=0
def tw7410095698138914197:=0
def tw423377766750224144:=0
def tw6299803917017344935:=0
def tw12190625867830132746:=0
def tw11330525285105198408:=0
def tw7923377757546757305:=0
def tw6974129514721111555:=0
def tw7813632468428338179:=0
def tw3265724105528057497:=0
def tw7789318166090974515:=0
def tw11374552388369820813:=0
def tw15498449928746541833:=0
def tw957690393516647658:=0
def tw5923441458089868237:=0
def tw10516880497091666730:=0
def tw6424318488115269380:=0
def tw5564224086248284238:=0
def tw6938455768413496092:=0
def tw3910118731080530942:=0
def tw18086577703427436288:=0
def tw8355390716676002282:=0
def tw10678394902975868410:=0
def tw704985343258943919:=0
def tw4702369844151682296:=0
def tw18140876595399102324:=0
def tw18308404772948402816:=0
def tw15516073419783813224:=0
def tw16407007889716851702:=0
def tw9960975928055299028:=0
def tw8505385436506267085:=0
def tw5740763890768970217:=0
def tw7863440264272593978:=0
def tw9661269490767970612:=0
def tw11190548052770786756:=0
def tw4342195554008188420:=0
def tw745742694171197567:=0
def tw14007621943387336850:=0
def tw7860975317298807147:=0
def tw12555970477536896938:=0
def tw7469259061901441764:=0
def tw12744309919283939108:=0
def tw3668527476503137744:=0
def tw2270462976119686134:=0
def tw15970047835587503302:=0
def tw7622192819655267109:=0
def tw4405520582396883876:=0
def tw6723043631301907867:=0
def tw5229627800260749979:=0
def tw4555538931931495019:=0
def tw2060255559205081113:=0
def tw3550706035219013386:=0
def tw316239489107684373:=0
def tw1961104301316568517:=0
def tw15803331771201672572:=0
def tw8550568965470890989:=0
def tw15181750738452835566:=0
def tw8944140446961876624:=0
def tw8311164645156402221:=0
def tw7916335085639841320:=0
def tw11803874485945112690:=0
def tw3201631440444088312:=0
def tw11163212431816424155:=0
def tw7618348736461925524:=0
def tw7649439377497604108:=0
def tw2334569707899287716:=0
def tw10211642242762258937:=0
def tw5073742334506311330:=0
def tw9558389504205199051:=0
def tw11403946791469958766:=0
def tw17940873650735317657:=0
def tw16377859032622438885:=0
def tw3797568577694652652:=0
def tw13637923102997460622:=0
def tw118366154722569296:=0
def tw1351234036470078442:=0
def tw12222342873643103233:=0
def tw4700413161814921435:=0
def tw17234049334970866602:=0
def tw5401507128940284419:=0
def tw17370192649668012801:=0
def tw18056607064561827784:=0
def tw6667976247823549474:=0
def tw8659128052537433886:=0
def tw13318162863827323009:=0
def tw7738888846832320910:=0
def tw10172481756495715827:=0
def tw8194698653122351576:=0
def tw13092050155029335578:=0
def tw10204268370111346857:=0
def tw4505298822259187834:=0
def tw9797231255004763520:=0
def tw10153428654173546486:=0
def tw7432318515976408800:=0
def tw5462324777160645979:=0
def tw18147122869710559422:=0
def tw17919560366779956875:=0
def tw4277122707509276627:=0
def tw10411755548031687802:=0
def tw13484254123821699342:=0
def tw2850439079440500007:=0
def tw838874769432182994:=0
def tw2354004356651233439:=0
def tw5078770324863838404:=0
def tw13141099885342670343:=0
def tw7898897754694781864:=0
def tw11812036192238612270:=0
def tw3212535256116940019:=0
def tw5531137513321997328:=0
def tw2459520755252711473:=0
def tw14805377925750043284:=0
def tw9998497396211738896:=0
def tw7515167255093173371:=0
def tw11057485373831982746:=0
def tw1657563258369393069:=0
def tw8000063637494735958:=0
def tw1910360913796609295:=0
def tw13549265709499980017:=0
def tw15396756235330843590:=0
def tw5042783474022658678:=0
def tw16733184685871888326:=0
def tw887835119546698132:=0
def tw8168871638313654684:=0
def tw17949585356130352429:=0
def tw9983036547069078585:=0
def tw2723729705855084954:=0
def tw8687851960587319447:=0
def tw7853443106783748183:=0
def tw10226068915275365993:=0
def tw1487822778119087428:=0
def tw815814240759403037:=0
def tw4758932952043024496:=0
def tw5333393159234465162:=0
def tw14791102952446205631:=0
def tw4943069286586715020:=0
def tw15959295353408101884:=0
def tw4239392696838269282:=0
def tw597570501867222460:=0
def tw17204908329899514344:=0
def tw13432347426315104713:=0
def tw3356899263447365431:=0
def tw5012194786555347171:=0
def tw15477457330990276945:=0
def tw16811087555351347050:=0
def tw13879066271738615499:=0
def tw1964643120974983613:=0
def tw7011960865875442698:=0
def tw9953914535485018529:=0
def tw338435902947396434:=0
def tw2298633661096295228:=0
def tw6915460158818941796:=0
def tw13469895805332420095:=0
def tw10333467633830264119:=0
def tw483851298005661066:=0
def tw8862434911124748160:=0
def tw8758237316518013061:=0
def tw10562444083867709561:=0
def tw14507710623145457629:=0
def tw14689755494979863152:=0
def tw17904047700878120679:=0
def tw2635724944512898394:=0
def tw15605055494994266566:=0
def tw944201758717758101:=0
def tw6348194634934689584:=0
def tw11149722937784062032:=0
def tw8217631366466312851:=0
def tw11382046213713838062:=0
def tw8010846058407020002:=0
def tw2106140262422624999:=0
def tw2083531867912406409:=0
def tw6746674790676838051:=0
def tw1785508975284131093:=0
def tw7384566264099523398:=0
def tw6011367535432993847:=0
def tw24614372409059513:=0
def tw4154278705458654019:=0
def tw8664380142359746197:=0
def tw16465548731520526243:=0
def tw5116580907130112961:=0
def tw5025751466236352845:=0
def tw2628330199548107613:=0
def tw17372518510952115635:=0
def tw8754142987685767627:=0
def tw3021250404723674203:=0
def tw5633408292150136589:=0
def tw13544726878880111139:=0
def tw1582349120832371671:=0
def tw13143937497041789541:=0
def tw13162644443357143199:=0
def tw5414713573318785215:=0
def tw5714065754603691333:=0
def tw3586460128151068011:=0
def tw7963876485855752631:=0
def tw15137673885201285460:=0
def tw4664777539446981726:=0
def tw16850951978872635788:=0
def tw2568643951812875603:=0
def tw8646002747647396409:=0
def tw363851783636214596:=0
def tw14053665162342204968:=0
def tw114150594702452315:=0
def tw13212143811634339546:=0
def tw8402989145314201157:=0
def tw6260609807805993985:=0
def tw5741341130023416612:=0
def tw7564912403737568038:=0
def tw10415451100572374540:=0
def tw16459535134786482373:=0
def tw12417530180737973345:=0
def tw9904949396482417596:=0
def tw12750383314919779738:=0
def tw7866735135375179384:=0
def tw6962287246707495522:=0
def tw17803167334969756143:=0
def tw12773945404311942559:=0
def tw15267468627175024235:=0
def tw13510360582746548689:=0
def tw11597230946187086301:=0
def tw4512198045985776866:=0
def tw9644130723832341724:=0
def tw7715473044347679951:=0
def tw17657433639850900869:=0
def tw18184936256461241967:=0
def tw16640763460233012781:=0
def tw11718305088625984995:=0
def tw2245783787714468207:=0
def tw10058071691766581831:=0
def tw5056764193617999418:=0
def tw1880042556031768914:=0
def tw5201565127133082429:=0
def tw805523824637965148:=0
def tw7335600509721940560:=0
def tw7522178649509106629:=0
end PySem.W.Fast
namespace Lw
open L3 PySem
def tbT:List Str:=[]
def zUn:List (Str×List Str):=[]
def eZ:D:=(.tup [(.int 0),(.int 1)])
def aT:List (Str×Str):=[("row","back"),("back","row"),("even","lack"),("lack","even"),("part","part"),("half","half")]
def d_WEIGHTED:D:=(.tup [(.str "even"),(.str "lack")])
def d_HALF:D:=(.tup [(.int 1),(.int 2)])
def d_BOAT:D:=(.str "boat")
def d_ACROSS:D:=(.int 0)
def d_UP:D:=(.int 1)
abbrev rF:Sv:=(cU 1 (aE 2))
abbrev rD:Sv:=(aY (cU 0 (aE 1)) rF)
abbrev qM:Sv:=(aY (cU 2 (eOp zAh (aE 0) (aE 1))) rD)
abbrev qZ:Sv:=(iQ (aE 0))
abbrev qF:Sv:=(aY (eS (dM (eOp oNe (aE 1) (eC (.int 0)))) qM) qZ)
abbrev qL:Sv:=(aY (cU 1 (eB zMF (aB (aE 1) aNil))) qF)
def dG:Mir:=fn 2 3 (aY (cU 0 (eB zMF (aB (aE 0) aNil))) qL)
def bH:Mir:=fn 1 1 (iQ (tG (aB (aE 0) (aB (eC (.int 1)) aNil))))
def fQ:Mir:=fn 2 2 (iQ (eOp oLt (eOp pU (eOp oIx (aE 0) (eC (.int 0))) (eOp oIx (aE 1) (eC (.int 1)))) (eOp pU (eOp oIx (aE 1) (eC (.int 0))) (eOp oIx (aE 0) (eC (.int 1))))))
abbrev zU:Sv:=(cU 1 (eOp pU (aE 1) (eOp oIx (aE 2) (eC (.int 1)))))
abbrev zDs:Sv:=(cU 1 (eC (.int 1)))
abbrev wB:Sv:=(vA (oP (aE 0)) (gName 2) zU)
def kD:List D->Res (List Int):=zBG zDs wB
def eG:Mir:=fn 1 1 (sIf (dM (eUn (rO aT) (aE 0))) (jN "BadWay" (aB (eC (.str "no such way")) aNil)) sNext)
abbrev rL:Sv:=(sIf (dM (eOp oLt (aE 1) (eC (.int 0)))) (jN "BadClaim" (aB (eC (.str "a claim is below nought")) aNil)) sNext)
abbrev sG:Sv:=(vA (oP (aE 0)) (gName 1) rL)
def dZ:Mir:=fn 1 2 (aY (sIf (dM (eOp oEq (eB nD (aB (aE 0) aNil)) (eC (.int 0)))) (jN "BadClaim" (aB (eC (.str "there is no claim")) aNil)) sNext) sG)
abbrev qI:Sv:=(sIf (zMH (dM (eOp oLt (aE 4) (eC (.int 1)))) (dM (eOp oGt (aE 4) (eOp zMX (eC (.int 10)) (eC (.int 6)))))) (jN "BadWeights" (aB (eC (.str "a weight is not from 1 to 10 ** 6")) aNil)) sNext)
abbrev qC:Sv:=(vA (oP (aE 1)) (gName 4) qI)
abbrev pY:Sv:=(aY (sIf (dM (eOp oNe (eB nD (aB (aE 1) aNil)) (aE 3))) (jN "BadWeights" (aB (eC (.str "more or fewer weights than are due")) aNil)) sNext) qC)
def bO:Mir:=fn 3 5 (aY (cU 3 (eIf (dM (eOp oIn (aE 0) (eC d_WEIGHTED))) (aE 2) (eC (.int 0)))) pY)
def bZ:Mir:=fn 1 1 (iQ (eOp oEq (eOp oIx (aE 0) (eC (.int 0))) (eC d_BOAT)))
def iR:Mir:=fn 1 1 (iQ (eOp oIx (aE 0) (eC (.int 0))))
def cP:Mir:=fn 1 1 (iQ (eOp oIx (aE 0) (eC (.int 1))))
def hG:Mir:=fn 1 1 (iQ (eOp oIx (eOp oIx (aE 0) (eUn zCg (eC (.int 1)))) (eC d_ACROSS)))
def rE:Mir:=fn 1 1 (iQ (eOp oIx (eOp oIx (aE 0) (eUn zCg (eC (.int 1)))) (eC d_UP)))
def iU:Mir:=fn 1 1 (iC (iS (oP (aE 0)) iM (eOp oIx (aE 1) (eC d_ACROSS))))
abbrev uR:Sv:=(iQ (eC (.int 0)))
def gD:Mir:=fn 2 2 (aY (sIf (dM (eOp oLt (aE 1) (eB nD (aB (aE 0) aNil)))) (iQ (eOp oIx (aE 0) (aE 1))) sNext) uR)
abbrev zDg:Sv:=(cU 3 (aE 4))
abbrev zCB:Sv:=(aY (cU 2 (aE 3)) zDg)
abbrev zDh:Sv:=(aY (cU 4 (eOp zAh (aE 2) (aE 3))) zCB)
abbrev zCl:Sv:=(iQ (tG (aB (eOp vE (aE 0) (aE 2)) (aB (eOp vE (aE 1) (aE 2)) aNil))))
abbrev sU:Sv:=(aY (sIf (dM (eOp oLt (aE 1) (eC (.int 0)))) (cU 2 (eOp xQ (eC (.int 0)) (aE 2))) sNext) zCl)
abbrev zDn:Sv:=(aY (eS (dM (eOp oGt (aE 3) (eC (.int 0)))) zDh) sU)
abbrev zCc:Sv:=(aY (cU 3 (eB zMF (aB (aE 1) aNil))) zDn)
def eK:Mir:=fn 2 5 (aY (cU 2 (eB zMF (aB (aE 0) aNil))) zCc)
def fP:Mir:=fn 2 2 (iQ (eOp oLt (eOp pU (eOp oIx (aE 0) (eC (.int 0))) (eOp oIx (aE 1) (eC (.int 1)))) (eOp pU (eOp oIx (aE 1) (eC (.int 0))) (eOp oIx (aE 0) (eC (.int 1))))))
def nM:Mir:=fn 2 2 (iQ (eOp zAh (eOp zQ (eOp zQ (eOp pU (aE 0) (eC (.int 48271))) (eOp pU (eC (.int 7919)) (aE 1))) (eC (.int 23))) (eC (.int 2147483647))))
abbrev zCH:Sv:=(cU 4 (eB zNi (aB (eF (iS (zDO (aB (eB nD (aB (aE 0) aNil)) aNil)) iM (eOp zQ (eC (.int 1)) (eOp zAh (eOp vE (eOp zAh (eOp zMX (eOp zQ (eOp zQ (aE 1) (eOp pU (eC (.int 40692)) (aE 6))) (eC (.int 1))) (eC (.int 2))) (eC (.int 998244353))) (eC (.int 7))) (aE 5))))) aNil)))
abbrev zDv:Sv:=(iQ (tG (aB (aE 3) (aB (aE 4) (aB (eB zNi (aB (aE 0) aNil)) aNil)))))
abbrev zCq:Sv:=(aY (sIf (dM (eOp oIn (aE 3) (tG (aB (eC (.str "even")) (aB (eC (.str "lack")) aNil))))) (aY (cU 5 (eOp oIx (eF (mU (aB (eC (.int 5)) (aB (eOp zMX (eC (.int 10)) (eC (.int 6))) aNil)))) (eOp vE (eOp zAh (eOp vE (aE 2) (eC (.int 3))) (eC (.int 3))) (eC (.int 2))))) zCH) sNext) zDv)
abbrev zDe:Sv:=(aY (cU 4 (tG aNil)) zCq)
def eO:Mir:=fn 3 6 (aY (cU 3 (eOp oIx (eF (mU (aB (eC (.str "row")) (aB (eC (.str "back")) (aB (eC (.str "even")) (aB (eC (.str "lack")) (aB (eC (.str "part")) (aB (eC (.str "half")) aNil)))))))) (eOp zAh (eOp vE (aE 1) (eC (.int 7))) (eC (.int 6))))) zDe)
abbrev zLy:Sv:=(iQ (tG (aB (eOp vE (aE 0) (aE 2)) (aB (eOp vE (aE 1) (aE 2)) aNil))))
abbrev zLr:Sv:=(aY (sIf (dM (eOp oLt (aE 1) (eC (.int 0)))) (cU 2 (eUn zCg (aE 2))) sNext) zLy)
abbrev zKR:Sv:=(aY (cU 2 (aL dG (aB (aE 0) (aB (aE 1) aNil)))) zLr)
def jJ:Mir:=fn 2 3 (aY (sIf (dM (eOp oEq (aE 1) (eC (.int 0)))) (jN "NoFraction" (aB (eC (.str "the bottom is nought")) aNil)) sNext) zKR)
def lO:Mir:=fn 2 2 (iQ (eIf (dM (aL fQ (aB (aE 0) (aB (aE 1) aNil)))) (aE 0) (aE 1)))
def eE:Mir:=fn 2 2 (iQ (eOr (aL fQ (aB (aE 0) (aB (eC eZ) aNil))) (aL fQ (aB (aE 1) (aB (aE 0) aNil)))))
abbrev zGD:Sv:=(tR (aL bO (aB (aE 0) (aB (aE 1) (aB (eB nD (aB (aE 2) aNil)) aNil)))))
abbrev zGY:Sv:=(aY (tR (aL dZ (aB (aE 2) aNil))) zGD)
def lZ:Mir:=fn 3 3 (aY (tR (aL eG (aB (aE 0) aNil))) zGY)
abbrev tQ:Sv:=(iQ (eUn (wX aT) (aE 0)))
def dJ:Mir:=fn 1 1 (aY (tR (aL eG (aB (aE 0) aNil))) tQ)
def cT:Mir:=fn 1 1 (iQ (eIf (dM (aL bZ (aB (aE 0) aNil))) (tG aNil) (eOp oIx (aE 0) (eC (.int 2)))))
abbrev uY:Sv:=(sIf (dM (aL fQ (aB (eOp oIx (aE 3) (eC d_UP)) (aB (eOp oIx (aE 2) (eC d_UP)) aNil)))) (jN "BadLine" (aB (eC (.str "a y is less than the one ahead")) aNil)) sNext)
abbrev xY:Sv:=(aY (sIf (zLT (dM (aL fQ (aB (eOp oIx (aE 2) (eC d_ACROSS)) (aB (eOp oIx (aE 3) (eC d_ACROSS)) aNil))))) (jN "BadLine" (aB (eC (.str "an x is not greater than the one ahead")) aNil)) sNext) uY)
abbrev yG:Sv:=(aY (cU 3 (eOp oIx (aE 0) (aE 1))) xY)
abbrev xS:Sv:=(aY (cU 2 (eOp oIx (aE 0) (eOp xQ (aE 1) (eC (.int 1))))) yG)
abbrev xM:Sv:=(vA (zDH (aB (eC (.int 1)) (aB (eB nD (aB (aE 0) aNil)) aNil))) (gName 1) xS)
abbrev yQ:Sv:=(aY (sIf (dM (eOp oNe (eOp oIx (aE 0) (eC (.int 0))) (tG (aB (eC eZ) (aB (eC eZ) aNil))))) (jN "BadLine" (aB (eC (.str "the first point is not nought and nought")) aNil)) sNext) xM)
def iE:Mir:=fn 1 4 (aY (sIf (dM (eOp oEq (eB nD (aB (aE 0) aNil)) (eC (.int 0)))) (jN "BadLine" (aB (eC (.str "a line has a point")) aNil)) sNext) yQ)
abbrev qK:Sv:=(sIf (dM (aL fQ (aB (eOp oIx (eOp oIx (aE 0) (aE 5)) (aE 1)) (aB (aE 2) aNil)))) (cU 3 (eOp zQ (aE 5) (eC (.int 1)))) (cU 4 (aE 5)))
abbrev pX:Sv:=(aY (cU 5 (eOp vE (eOp zQ (aE 3) (aE 4)) (eC (.int 2)))) qK)
abbrev jU:Sv:=(iQ (aE 3))
abbrev qA:Sv:=(aY (eS (dM (eOp oLt (aE 3) (aE 4))) pX) jU)
abbrev rH:Sv:=(aY (cU 4 (eOp xQ (eB nD (aB (aE 0) aNil)) (eC (.int 1)))) qA)
def dE:Mir:=fn 3 6 (aY (cU 3 (eC (.int 0))) rH)
abbrev zGz:Sv:=(zKI 3 zAT (eC (.int 1)))
abbrev zHm:Sv:=(aY (zHx 2 (eOp oIx (aE 1) (aE 3))) zGz)
abbrev zHc:Sv:=(zHx 2 (aE 4))
abbrev rJ:Sv:=(aY (sIf (xN (dM (eOp oLt (aE 3) (eB nD (aB (aE 1) aNil)))) (dM (eOp oEq (eOp oIx (aE 1) (aE 3)) (aE 4)))) (zKI 3 zAT (eC (.int 1))) sNext) zHc)
abbrev zGK:Sv:=(aY (eS (xN (dM (eOp oLt (aE 3) (eB nD (aB (aE 1) aNil)))) (dM (aL fQ (aB (eOp oIx (aE 1) (aE 3)) (aB (aE 4) aNil))))) zHm) rJ)
abbrev zDU:Sv:=(fF 2)
abbrev zDQ:Sv:=(aY (zLh 2 (fSl (aE 1) (oS (aE 3)) oN)) zDU)
abbrev zHq:Sv:=(aY (vA (oP (aE 0)) (gName 4) zGK) zDQ)
abbrev zHh:Sv:=(aY (cU 3 (eC (.int 0))) zHq)
def lM:Mir:=fn 2 5 (aY (zBM 2 (mU aNil)) zHh)
abbrev yF:Sv:=(zHx 2 (aL bH (aB (aE 1) aNil)))
abbrev oR:Sv:=(aY (zKI 1 zAT (aE 3)) yF)
abbrev xP:Sv:=(fF 2)
abbrev yN:Sv:=(aY (vA (oP (aE 0)) (gName 3) oR) xP)
abbrev yH:Sv:=(aY (zBM 2 (mU (aB (eC eZ) aNil))) yN)
def fK:Mir:=fn 1 4 (aY (cU 1 (eC (.int 0))) yH)
abbrev jI:Sv:=(sIf (tFrzB (dM (aL fQ (aB (eOp oIx (aE 1) (eUn zCg (eC (.int 1)))) (aB (aE 2) aNil))))) (zHx 1 (aE 2)) sNext)
abbrev oZ:Sv:=(fF 1)
abbrev pO:Sv:=(aY (vA (oP (aE 0)) (gName 2) jI) oZ)
def cV:Mir:=fn 1 3 (aY (zBM 1 (fSl (aE 0) oN (oS (eC (.int 1))))) pO)
def jA:Mir:=fn 2 2 (iQ (aL eK (aB (eOp zQ (eOp pU (eOp oIx (aE 0) (eC (.int 0))) (eOp oIx (aE 1) (eC (.int 1)))) (eOp pU (eOp oIx (aE 1) (eC (.int 0))) (eOp oIx (aE 0) (eC (.int 1))))) (aB (eOp pU (eOp oIx (aE 0) (eC (.int 1))) (eOp oIx (aE 1) (eC (.int 1)))) aNil))))
def gJ:Mir:=fn 2 2 (iQ (aL eK (aB (eOp xQ (eOp pU (eOp oIx (aE 0) (eC (.int 0))) (eOp oIx (aE 1) (eC (.int 1)))) (eOp pU (eOp oIx (aE 1) (eC (.int 0))) (eOp oIx (aE 0) (eC (.int 1))))) (aB (eOp pU (eOp oIx (aE 0) (eC (.int 1))) (eOp oIx (aE 1) (eC (.int 1)))) aNil))))
def dW:Mir:=fn 2 2 (iQ (aL eK (aB (eOp pU (eOp oIx (aE 0) (eC (.int 0))) (eOp oIx (aE 1) (eC (.int 0)))) (aB (eOp pU (eOp oIx (aE 0) (eC (.int 1))) (eOp oIx (aE 1) (eC (.int 1)))) aNil))))
abbrev yT:Sv:=(cU 4 (eOp zQ (aE 4) (eC (.int 1))))
abbrev hJ:Sv:=(sIf (tFrzB (zMH (dM (eOp oEq (aE 4) (eB nD (aB (aE 1) aNil)))) (dM (eOp oNe (eOp oIx (aE 1) (aE 4)) (eOp oIx (aE 3) (eC (.int 0))))))) (zRS 1 (aE 4) (eOp oIx (aE 3) (eC (.int 0)))) sNext)
abbrev xR:Sv:=(aY (eS (tFrzB (xN (dM (eOp oLt (aE 4) (eB nD (aB (aE 1) aNil)))) (dM (aL fP (aB (eOp oIx (aE 1) (aE 4)) (aB (eOp oIx (aE 3) (eC (.int 0))) aNil)))))) yT) hJ)
abbrev kP:Sv:=(aY (cU 4 (eC (.int 0))) xR)
abbrev kO:Sv:=(vA (oP (aE 2)) (gName 3) kP)
abbrev yR:Sv:=(fF 1)
abbrev xJ:Sv:=(aY (vA (oP (aE 0)) (gName 2) kO) yR)
def iH:Mir:=fn 1 5 (aY (zBM 1 (mU aNil)) xJ)
def kF:Mir:=fn 2 2 (iQ (aL jJ (aB (eOp zQ (eOp pU (eOp oIx (aE 0) (eC (.int 0))) (eOp oIx (aE 1) (eC (.int 1)))) (eOp pU (eOp oIx (aE 1) (eC (.int 0))) (eOp oIx (aE 0) (eC (.int 1))))) (aB (eOp pU (eOp oIx (aE 0) (eC (.int 1))) (eOp oIx (aE 1) (eC (.int 1)))) aNil))))
def cM:Mir:=fn 2 2 (iQ (aL jJ (aB (eOp xQ (eOp pU (eOp oIx (aE 0) (eC (.int 0))) (eOp oIx (aE 1) (eC (.int 1)))) (eOp pU (eOp oIx (aE 1) (eC (.int 0))) (eOp oIx (aE 0) (eC (.int 1))))) (aB (eOp pU (eOp oIx (aE 0) (eC (.int 1))) (eOp oIx (aE 1) (eC (.int 1)))) aNil))))
def cZ:Mir:=fn 2 2 (iQ (aL jJ (aB (eOp pU (eOp oIx (aE 0) (eC (.int 0))) (eOp oIx (aE 1) (eC (.int 0)))) (aB (eOp pU (eOp oIx (aE 0) (eC (.int 1))) (eOp oIx (aE 1) (eC (.int 1)))) aNil))))
def qH:Mir:=fn 2 2 (iQ (aL jJ (aB (eOp pU (eOp oIx (aE 0) (eC (.int 0))) (eOp oIx (aE 1) (eC (.int 1)))) (aB (eOp pU (eOp oIx (aE 0) (eC (.int 1))) (eOp oIx (aE 1) (eC (.int 0)))) aNil))))
def bB:Mir:=fn 2 2 (sIf (dM (aL eE (aB (aE 0) (aB (aE 1) aNil)))) (jN "Outside" (aB (eC (.str "below nought, or more than there can be")) aNil)) sNext)
def eA:Mir:=fn 2 2 (iC (wM (zMM (aB (aE 1) (aB (aE 0) aNil))) (aL jJ (aB (aE 2) (aB (aE 3) aNil)))))
abbrev zAs:Sv:=(cU 2 (aL cM (aB (aE 2) (aB (aE 5) aNil))))
abbrev zAk:Sv:=(aY (zHx 3 (aE 5)) zAs)
abbrev rG:Sv:=(aY (cU 5 (aL lO (aB (aE 2) (aB (aL bH (aB (aE 4) aNil)) aNil)))) zAk)
abbrev zAD:Sv:=(fF 3)
abbrev zAM:Sv:=(aY (vA (oP (aE 0)) (gName 4) rG) zAD)
abbrev zBq:Sv:=(aY (zBM 3 (mU aNil)) zAM)
def gI:Mir:=fn 2 6 (aY (cU 2 (aE 1)) zBq)
abbrev xK:Sv:=(zKI 4 xQ (eOp oIx (aE 0) (aE 6)))
abbrev xL:Sv:=(aY (cU 3 (zRX (aL cM (aB (aE 3) (aB (eOp oIx (aE 5) (aE 6)) aNil))))) xK)
abbrev yL:Sv:=(aY (zRU 5 (aE 6) (aL lO (aB (aE 7) (aB (aL bH (aB (eOp oIx (aE 1) (aE 6)) aNil)) aNil)))) xL)
abbrev bU:Sv:=(aY (cU 7 (aL qH (aB (aL cZ (aB (aE 3) (aB (aL bH (aB (eOp oIx (aE 0) (aE 6)) aNil)) aNil))) (aB (aL bH (aB (aE 4) aNil)) aNil)))) yL)
abbrev kT:Sv:=(fF 5)
abbrev oQ:Sv:=(zJU (aB (eF (cQ eA (aB (aE 0) (aB (aE 1) aNil)))) aNil) kD (gName 6) bU kT)
abbrev xO:Sv:=(aY (zBM 5 (zNI (mU (aB (eC eZ) aNil)) (eB nD (aB (aE 1) aNil)))) oQ)
abbrev xX:Sv:=(aY (cU 4 (eB zCU (aB (aE 0) aNil))) xO)
def cY:Mir:=fn 3 8 (aY (cU 3 (aE 2)) xX)
abbrev xZ:Sv:=(iC (iS (oP (aE 0)) iM (aL cZ (aB (aE 3) (aB (aL bH (aB (aE 4) aNil)) aNil)))))
abbrev yD:Sv:=(aY (cU 3 (aL qH (aB (aE 1) (aB (aL bH (aB (aE 2) aNil)) aNil)))) xZ)
abbrev yJ:Sv:=(aY (sIf (dM (eOp oEq (aE 2) (eC (.int 0)))) (iC (zNI (mU (aB (eC eZ) aNil)) (eB nD (aB (aE 0) aNil)))) sNext) yD)
def fN:Mir:=fn 2 4 (aY (cU 2 (eB zCU (aB (aE 0) aNil))) yJ)
abbrev yK:Sv:=(iQ (eOp oEq (aL cZ (aB (aE 3) (aB (aE 6) aNil))) (aL cZ (aB (aE 4) (aB (aE 5) aNil)))))
abbrev yE:Sv:=(aY (cU 6 (aL cM (aB (eOp oIx (aE 2) (eC d_ACROSS)) (aB (eOp oIx (aE 1) (eC d_ACROSS)) aNil)))) yK)
abbrev xV:Sv:=(aY (cU 5 (aL cM (aB (eOp oIx (aE 1) (eC d_ACROSS)) (aB (eOp oIx (aE 0) (eC d_ACROSS)) aNil)))) yE)
abbrev xT:Sv:=(aY (cU 4 (aL cM (aB (eOp oIx (aE 2) (eC d_UP)) (aB (eOp oIx (aE 1) (eC d_UP)) aNil)))) xV)
def hZ:Mir:=fn 3 7 (aY (cU 3 (aL cM (aB (eOp oIx (aE 1) (eC d_UP)) (aB (eOp oIx (aE 0) (eC d_UP)) aNil)))) xT)
abbrev zOE:Sv:=(iQ (aL kF (aB (eOp oIx (aE 6) (aE 3)) (aB (aL cZ (aB (aE 7) (aB (aL cM (aB (eOp oIx (aE 5) (aE 3)) (aB (eOp oIx (aE 6) (aE 3)) aNil))) aNil))) aNil))))
abbrev zNQ:Sv:=(aY (cU 7 (aL qH (aB (aL cM (aB (aE 2) (aB (eOp oIx (aE 6) (aE 1)) aNil))) (aB (aL cM (aB (eOp oIx (aE 5) (aE 1)) (aB (eOp oIx (aE 6) (aE 1)) aNil))) aNil)))) zOE)
abbrev zOU:Sv:=(aY (cU 6 (eOp oIx (aE 0) (eOp xQ (aE 4) (eC (.int 1))))) zNQ)
abbrev zPn:Sv:=(aY (sIf (dM (eOp oEq (eOp oIx (aE 5) (aE 1)) (aE 2))) (iQ (eOp oIx (aE 5) (aE 3))) sNext) zOU)
abbrev zOg:Sv:=(aY (cU 5 (eOp oIx (aE 0) (aE 4))) zPn)
abbrev zPm:Sv:=(aY (cU 4 (aL dE (aB (aE 0) (aB (aE 1) (aB (aE 2) aNil))))) zOg)
def uX:Mir:=fn 3 8 (aY (cU 3 (eOp xQ (eC (.int 1)) (aE 1))) zPm)
abbrev wE:Sv:=(zKI 3 xQ (eOp oIx (aE 0) (aE 6)))
abbrev uJ:Sv:=(aY (zKI 2 zAT (eOp oIx (aE 1) (aE 6))) wE)
abbrev fW:Sv:=(aY (zHx 5 (aL kF (aB (aL bH (aB (aE 2) aNil)) (aB (aL cZ (aB (eOp oIx (aE 4) (aE 6)) (aB (aL bH (aB (aE 3) aNil)) aNil))) aNil)))) uJ)
abbrev nE:Sv:=(fF 5)
abbrev nQ:Sv:=(zJU (aB (aE 4) aNil) kD (gName 6) fW nE)
abbrev uU:Sv:=(aY (zBM 5 (mU (aB (eC eZ) aNil))) nQ)
abbrev vV:Sv:=(aY (cU 4 (eF (cQ eA (aB (aE 0) (aB (aE 1) aNil))))) uU)
abbrev wO:Sv:=(aY (cU 3 (eB zCU (aB (aE 0) aNil))) vV)
def dC:Mir:=fn 2 7 (aY (cU 2 (eC (.int 0))) wO)
def gX:Mir:=fn 2 2 (iC (iS (zKS (aE 0)) iM (aL cM (aB (aE 1) (aB (aE 2) aNil)))))
abbrev yM:Sv:=(iC (iS (oP (eF (cQ cY (aB (aE 2) (aB (aE 0) (aB (aL kF (aB (aE 1) (aB (aE 1) aNil))) aNil)))))) iM (aL cZ (aB (aE 3) (aB (eC d_HALF) aNil)))))
def fM:Mir:=fn 2 3 (aY (cU 2 (eF (zNI (mU (aB (eC (.int 1)) aNil)) (eB nD (aB (aE 0) aNil))))) yM)
abbrev wZ:Sv:=(zHx 1 (aE 2))
abbrev zEb:Sv:=(aY (sIf (tFrzB (xN (dM (eOp oGt (eB nD (aB (aE 1) aNil)) (eC (.int 1)))) (dM (aL hZ (aB (eOp oIx (aE 1) (eUn zCg (eC (.int 2)))) (aB (eOp oIx (aE 1) (eUn zCg (eC (.int 1)))) (aB (aE 2) aNil))))))) (zQq 1) sNext) wZ)
abbrev zEv:Sv:=(iQ (eB zNi (aB (aE 1) aNil)))
abbrev zEt:Sv:=(aY (vA (oP (aE 0)) (gName 2) zEb) zEv)
abbrev zEE:Sv:=(aY (zBM 1 (mU aNil)) zEt)
def cG:Mir:=fn 1 3 (aY (tR (aL iE (aB (aE 0) aNil))) zEE)
abbrev zIu:Sv:=(iQ (aL uX (aB (aE 0) (aB (eC d_ACROSS) (aB (aE 1) aNil)))))
def lF:Mir:=fn 2 2 (aY (tR (aL bB (aB (aE 1) (aB (aL hG (aB (aE 0) aNil)) aNil)))) zIu)
abbrev zGT:Sv:=(iQ (aL cG (aB (eF (iS (oP (aE 2)) iM (tG (aB (aE 3) (aB (aL kF (aB (aL lF (aB (aE 0) (aB (aE 3) aNil))) (aB (aL lF (aB (aE 1) (aB (aE 3) aNil))) aNil))) aNil))))) aNil)))
abbrev zGR:Sv:=(aY (cU 2 (eF (cQ lM (aB (eF (cQ iU (aB (aE 0) aNil))) (aB (eF (cQ iU (aB (aE 1) aNil))) aNil))))) zGT)
def oF:Mir:=fn 2 3 (aY (sIf (dM (eOp oNe (aL hG (aB (aE 0) aNil)) (aL hG (aB (aE 1) aNil)))) (jN "Unlike" (aB (eC (.str "the lines are not of one length")) aNil)) sNext) zGR)
abbrev zHk:Sv:=(iQ (aL cG (aB (eF (iS (oP (aE 3)) iM (tG (aB (aE 4) (aB (aL lF (aB (aE 0) (aB (aL lF (aB (aE 1) (aB (aE 4) aNil))) aNil))) aNil))))) aNil)))
abbrev zGH:Sv:=(aY (cU 3 (eF (cQ lM (aB (eF (cQ iU (aB (aE 1) aNil))) (aB (aE 2) aNil))))) zHk)
abbrev zGS:Sv:=(aY (cU 2 (eF (iS (oP (eF (cQ iU (aB (aE 0) aNil)))) iM (aL uX (aB (aE 1) (aB (eC d_UP) (aB (aE 4) aNil))))))) zGH)
def gY:Mir:=fn 2 4 (aY (sIf (dM (eOp oNe (aL hG (aB (aE 0) aNil)) (aL rE (aB (aE 1) aNil)))) (jN "Unlike" (aB (eC (.str "the first line's length is not the second one's height")) aNil)) sNext) zGS)
def nU:Mir:=fn 3 3 (iQ (aL cG (aB (eF (wM (zMM (aB (aE 0) (aB (aE 1) aNil))) (tG (aB (aE 3) (aB (eOp oIx (aE 4) (aE 2)) aNil))))) aNil)))
abbrev zCa:Sv:=(iQ (aL cG (aB (eF (mU (aB (aE 1) (aB (tG (aB (aL bH (aB (aE 0) aNil)) (aB (aL bH (aB (aE 0) aNil)) aNil))) aNil)))) aNil)))
abbrev zCj:Sv:=(aY (sIf (dM (eOp oEq (aE 0) (eC (.int 0)))) (iQ (aL cG (aB (eF (mU (aB (aE 1) aNil))) aNil))) sNext) zCa)
def gU:Mir:=fn 1 2 (aY (cU 1 (tG (aB (eC eZ) (aB (eC eZ) aNil)))) zCj)
abbrev yA(r:Mir):Sv:=(iC (zPx (aE 4) (eF (cQ gX (aB (aE 4) (aB (aE 3) aNil))))))
abbrev yC(r:Mir):Sv:=(iC (cQ gX (aB (eF (cQ r (aB (aL dJ (aB (aE 0) aNil)) (aB (aE 1) (aB (aE 2) aNil))))) (aB (aE 3) aNil))))
abbrev zAi(r:Mir):Sv:=(aY (sIf (dM (eOp oEq (aE 0) (eC (.str "half")))) (aY (cU 4 (eF (iS (oP (eF (cQ dC (aB (eF (zNI (mU (aB (eC (.int 1)) aNil)) (eB nD (aB (aE 2) aNil)))) (aB (aE 2) aNil))))) iM (aL cZ (aB (aE 5) (aB (eC d_HALF) aNil)))))) (yA r)) sNext) (yC r))
abbrev zAt(r:Mir):Sv:=(aY (sIf (dM (eOp oEq (aE 0) (eC (.str "part")))) (iC (mU (aB (eC eZ) (aB (aE 3) aNil)))) sNext) (zAi r))
abbrev zBb(r:Mir):Sv:=(aY (sIf (dM (eOp oEq (aE 0) (eC (.str "even")))) (iC (cQ dC (aB (aE 1) (aB (aE 2) aNil)))) sNext) (zAt r))
abbrev zAO(r:Mir):Sv:=(aY (sIf (dM (eOp oEq (aE 0) (eC (.str "row")))) (iC (cQ fK (aB (aE 2) aNil))) sNext) (zBb r))
def bW(r:Mir):Mir:=fn 3 5 (aY (cU 3 (aL bH (aB (eB zCU (aB (aE 2) aNil)) aNil))) (zAO r))
def bI:Nat->Mir
 | 0=>fn 3 5 sNo
 | n+1=>bW (bI n)
abbrev qR(r:Mir):Sv:=(iC (wM (zMM (aB (aE 2) (aB (aE 5) aNil))) (aL cM (aB (aL bH (aB (aE 6) aNil)) (aB (aE 7) aNil)))))
abbrev qP(r:Mir):Sv:=(aY (cU 5 (eF (cQ r (aB (eUn (wX aT) (aE 0)) (aB (aE 1) (aB (aE 2) (aB (aL cM (aB (aE 4) (aB (aE 3) aNil))) aNil))))))) (qR r))
abbrev rT(r:Mir):Sv:=(aY (sIf (xN (dM (eOp oEq (aE 0) (eC (.str "half")))) (zLT (dM (aL fQ (aB (aE 4) (aB (aL kF (aB (aE 3) (aB (aE 3) aNil))) aNil)))))) (iC (cQ fM (aB (aE 2) (aB (aE 3) aNil)))) sNext) (qP r))
abbrev sC(r:Mir):Sv:=(aY (sIf (dM (eOp oEq (aE 0) (eC (.str "part")))) (iC (cQ fN (aB (aE 2) (aB (aE 3) aNil)))) sNext) (rT r))
abbrev sP(r:Mir):Sv:=(aY (sIf (dM (eOp oEq (aE 0) (eC (.str "even")))) (iC (cQ cY (aB (aE 1) (aB (aE 2) (aB (aE 3) aNil))))) sNext) (sC r))
abbrev rK(r:Mir):Sv:=(aY (sIf (dM (eOp oEq (aE 0) (eC (.str "row")))) (iC (cQ gI (aB (aE 2) (aB (aE 3) aNil)))) sNext) (sP r))
def aR(r:Mir):Mir:=fn 4 6 (aY (cU 4 (aL bH (aB (eB zCU (aB (aE 2) aNil)) aNil))) (rK r))
def aN:Nat->Mir
 | 0=>fn 4 6 sNo
 | n+1=>aR (aN n)
abbrev zID:Sv:=(iC (cQ (aN 2) (aB (aE 0) (aB (aE 1) (aB (aE 2) (aB (aE 3) aNil))))))
abbrev zKb:Sv:=(aY (tR (aL bB (aB (aE 3) (aB (aL bH (aB (eB zCU (aB (aE 2) aNil)) aNil)) aNil)))) zID)
def rM:Mir:=fn 4 4 (aY (tR (aL lZ (aB (aE 0) (aB (aE 1) (aB (aE 2) aNil))))) zKb)
abbrev zBh:Sv:=(iC (iS (zDO (aB (eB nD (aB (aE 2) aNil)) aNil)) iM (aL nU (aB (aE 3) (aB (aE 4) (aB (aE 5) aNil))))))
abbrev zBs:Sv:=(aY (cU 4 (eF (iS (oP (aE 3)) iM (eF (cQ (aN 2) (aB (aE 0) (aB (aE 1) (aB (aE 2) (aB (aE 5) aNil))))))))) zBh)
abbrev zAE:Sv:=(aY (cU 3 (eF (cQ cV (aB (eF (cQ (bI 2) (aB (aE 0) (aB (aE 1) (aB (aE 2) aNil))))) aNil)))) zBs)
def gM:Mir:=fn 3 5 (aY (tR (aL lZ (aB (aE 0) (aB (aE 1) (aB (aE 2) aNil))))) zAE)
abbrev zCV(r:Mir):Sv:=(iQ (eOp zQ (eC (.int 1)) (eB zBP (aB (eF (iS (oP (eOp oIx (aE 0) (eC (.int 2)))) iM (aL r (aB (aE 1) aNil)))) aNil))))
def oK(r:Mir):Mir:=fn 1 1 (aY (sIf (dM (eOp oEq (eOp oIx (aE 0) (eC (.int 0))) (eC (.str "boat")))) (iQ (eC (.int 1))) sNext) (zCV r))
def dH:Nat->Mir
 | 0=>fn 1 1 sNo
 | n+1=>oK (dH n)
abbrev zAH(r:Mir):Sv:=(zLh 1 (cQ r (aB (aE 2) aNil)))
abbrev zBf(r:Mir):Sv:=(fF 1)
abbrev zAc(r:Mir):Sv:=(aY (vA (oP (eOp oIx (aE 0) (eC (.int 2)))) (gName 2) (zAH r)) (zBf r))
abbrev zAA(r:Mir):Sv:=(aY (zBM 1 (mU aNil)) (zAc r))
def lL(r:Mir):Mir:=fn 1 3 (aY (sIf (dM (eOp oEq (eOp oIx (aE 0) (eC (.int 0))) (eC (.str "boat")))) (iC (mU (aB (eOp oIx (aE 0) (eC (.int 1))) aNil))) sNext) (zAA r))
def gT:Nat->Mir
 | 0=>fn 1 3 sNo
 | n+1=>lL (gT n)
abbrev kJ:Sv:=(zHx 3 (tG (aB (eC (.str "boat")) (aB (eOp oIx (eF (mU (aB (eOp zAh (eOp vE (aE 6) (eC (.int 13))) (eC (.int 13))) (aB (eOp zAh (eOp vE (aE 6) (eC (.int 89))) (eC (.int 4))) (aB (eOp zAh (eOp vE (aE 6) (eC (.int 17))) (eOp zMX (eC (.int 10)) (eC (.int 9)))) aNil))))) (eOp zAh (aE 1) (eC (.int 3)))) aNil))))
abbrev yP:Sv:=(sIf (tFrzB (zMH (xN (dM (eOp oLt (eOp zAh (eOp vE (aE 6) (eC (.int 11))) (eC (.int 3))) (eC (.int 2)))) (dM (eOp oLt (aE 4) (aE 2)))) (dM (eOp oEq (aE 3) (eF (mU aNil)))))) (aY (cU 4 (eOp zQ (aE 4) (eC (.int 1)))) kJ) (sIf (tFrzB (dM (eOp oLt (eB zBP (aB (eF (iS (oP (eF (fSl (aE 3) (oS (eUn zCg (aE 7))) oN))) iM (aL (dH 10) (aB (aE 8) aNil)))) aNil)) (eC (.int 7))))) (zBM 3 (zPB (zPx (eF (fSl (aE 3) oN (oS (eUn zCg (aE 7))))) (eF (mU (aB (aL eO (aB (eF (fSl (aE 3) (oS (eUn zCg (aE 7))) oN)) (aB (eOp vE (aE 6) (eC (.int 31))) (aB (aE 1) aNil)))) aNil)))))) sNext))
abbrev xW:Sv:=(aY (cU 7 (eOp zQ (eC (.int 1)) (eOp zAh (eOp vE (aE 6) (eC (.int 5))) (eC (.int 4))))) yP)
abbrev oU:Sv:=(aY (cU 6 (aL nM (aB (eOp oIx (aE 0) (aE 5)) (aB (aE 5) aNil)))) xW)
abbrev wW:Sv:=(iQ (aL eO (aB (aE 3) (aB (eOp vE (aE 1) (eC (.int 9))) (aB (aE 1) aNil)))))
abbrev vC:Sv:=(aY (sIf (dM (eOp oEq (eB nD (aB (aE 3) aNil)) (eC (.int 1)))) (iQ (eOp oIx (aE 3) (eC (.int 0)))) sNext) wW)
abbrev vP:Sv:=(sFrzAt 3 (aY (sIf (dM (eOp oEq (aE 3) (eF (mU aNil)))) (iQ (tG (aB (eC (.str "boat")) (aB (eOp zAh (aE 1) (eC (.int 7))) aNil)))) sNext) vC))
abbrev yI:Sv:=(aY (vA (zDO (aB (eB nD (aB (aE 0) aNil)) aNil)) (gName 5) oU) vP)
abbrev xH:Sv:=(aY (cU 4 (eC (.int 0))) yI)
def hU:Mir:=fn 3 8 (aY (zBM 3 (mU aNil)) xH)
abbrev zBv(r:Mir):Sv:=(zLh 1 (cQ r (aB (aE 2) aNil)))
abbrev zBE(r:Mir):Sv:=(fF 1)
abbrev zAv(r:Mir):Sv:=(aY (vA (oP (aL cT (aB (aE 0) aNil))) (gName 2) (zBv r)) (zBE r))
abbrev zBD(r:Mir):Sv:=(aY (zBM 1 (mU aNil)) (zAv r))
def lP(r:Mir):Mir:=fn 1 3 (aY (sIf (dM (aL bZ (aB (aE 0) aNil))) (iC (mU (aB (eOp oIx (aE 0) (eC (.int 1))) aNil))) sNext) (zBD r))
def gW:Nat->Mir
 | 0=>fn 1 3 sNo
 | n+1=>lP (gW n)
def dL:Mir:=fn 1 1 (iQ (eB zCU (aB (eF (cQ (gW 10) (aB (aE 0) aNil))) aNil)))
def cN:Mir:=fn 1 1 (iC (iS (oP (aL cT (aB (aE 0) aNil))) iM (aL dL (aB (aE 1) aNil))))
abbrev sZ(r:Mir):Sv:=(zLh 3 (cQ r (aB (aE 4) (aB (aE 5) aNil))))
abbrev zBZ(r:Mir):Sv:=(fF 3)
abbrev zCz(r:Mir):Sv:=(aY (vA (zMM (aB (aL cT (aB (aE 0) aNil)) (aB (aE 2) aNil))) (zGN (jR (gName 4) (jR (gName 5) zGU))) (sZ r)) (zBZ r))
abbrev zDp(r:Mir):Sv:=(aY (zBM 3 (mU aNil)) (zCz r))
abbrev zCN(r:Mir):Sv:=(aY (cU 2 (eF (cQ rM (aB (aL iR (aB (aE 0) aNil)) (aB (aL cP (aB (aE 0) aNil)) (aB (eF (cQ cN (aB (aE 0) aNil))) (aB (aE 1) aNil))))))) (zDp r))
def jB(r:Mir):Mir:=fn 2 6 (aY (sIf (dM (aL bZ (aB (aE 0) aNil))) (iC (mU (aB (aE 1) aNil))) sNext) (zCN r))
def fT:Nat->Mir
 | 0=>fn 2 6 sNo
 | n+1=>jB (fT n)
abbrev sX(r:Mir):Sv:=(zLh 2 (iS (oP (eF (cQ r (aB (aE 3) aNil)))) iM (aL gY (aB (aE 5) (aB (aE 4) aNil)))))
abbrev zDA(r:Mir):Sv:=(fF 2)
abbrev zCu(r:Mir):Sv:=(aY (vA (zMM (aB (aL cT (aB (aE 0) aNil)) (aB (aE 1) aNil))) (zGN (jR (gName 3) (jR (gName 4) zGU))) (sX r)) (zDA r))
abbrev zDB(r:Mir):Sv:=(aY (zBM 2 (mU aNil)) (zCu r))
abbrev zCK(r:Mir):Sv:=(aY (cU 1 (eF (cQ gM (aB (aL iR (aB (aE 0) aNil)) (aB (aL cP (aB (aE 0) aNil)) (aB (eF (cQ cN (aB (aE 0) aNil))) aNil)))))) (zDB r))
def jC(r:Mir):Mir:=fn 1 5 (aY (sIf (dM (aL bZ (aB (aE 0) aNil))) (iC (mU (aB (aL gU (aB (aL dL (aB (aE 0) aNil)) aNil)) aNil))) sNext) (zCK r))
def fO:Nat->Mir
 | 0=>fn 1 5 sNo
 | n+1=>jC (fO n)
abbrev zHf:Sv:=(iC (cQ (fT 10) (aB (aE 0) (aB (aE 1) aNil))))
def lK:Mir:=fn 2 2 (aY (tR (aL bB (aB (aE 1) (aB (aL bH (aB (aL dL (aB (aE 0) aNil)) aNil)) aNil)))) zHf)
abbrev zOR:Sv:=(cU 6 (aL oF (aB (aE 6) (aB (aE 7) aNil))))
abbrev zLY:Sv:=(sIf (zMH (dM (eOp oLt (eOp oIx (aE 11) (eC (.int 0))) (eC (.int 0)))) (dM (aL fP (aB (aE 10) (aB (aE 11) aNil))))) (iQ (eC (.bl false))) sNext)
abbrev zLf:Sv:=(aY (cU 11 (aL gJ (aB (eOp oIx (eOp oIx (aE 7) (aE 9)) (eC (.int 1))) (aB (eOp oIx (eOp oIx (aE 7) (eOp xQ (aE 9) (eC (.int 1)))) (eC (.int 1))) aNil)))) zLY)
abbrev zGf:Sv:=(aY (cU 10 (aL gJ (aB (eOp oIx (eOp oIx (aE 7) (aE 9)) (eC (.int 0))) (aB (eOp oIx (eOp oIx (aE 7) (eOp xQ (aE 9) (eC (.int 1)))) (eC (.int 0))) aNil)))) zLf)
abbrev zFU:Sv:=(vA (zDH (aB (eC (.int 1)) (aB (eB nD (aB (aE 7) aNil)) aNil))) (gName 9) zGf)
abbrev zFJ:Sv:=(sIf (dM (eOp oNe (aL dW (aB (tG (aB (eC (.int 1)) (aB (eC (.int 2)) aNil))) (aB (aL jA (aB (aE 15) (aB (aE 16) aNil))) aNil))) (aE 17))) (iQ (eC (.bl false))) sNext)
abbrev zLM:Sv:=(vA (zLe (aB (eOp oIx (aE 13) (eOp xQ (aE 9) (eC (.int 1)))) (aB (eOp oIx (aE 13) (aE 9)) (aB (aE 14) aNil)))) (zGN (jR (gName 15) (jR (gName 16) (jR (gName 17) zGU)))) zFJ)
abbrev zGg:Sv:=(aY (cU 14 (eF (cQ lK (aB (aE 3) (aB (aL dW (aB (tG (aB (eC (.int 1)) (aB (eC (.int 2)) aNil))) (aB (aL jA (aB (eOp oIx (aE 12) (eOp xQ (aE 9) (eC (.int 1)))) (aB (eOp oIx (aE 12) (aE 9)) aNil))) aNil))) aNil))))) zLM)
abbrev zGk:Sv:=(iQ (eC (.bl true)))
abbrev zKX:Sv:=(aY (vA (zDH (aB (eC (.int 1)) (aB (eB nD (aB (aE 12) aNil)) aNil))) (gName 9) zGg) zGk)
abbrev zLF:Sv:=(aY (cU 13 (eF (iS (oP (aE 12)) iM (eF (cQ lK (aB (aE 3) (aB (aE 18) aNil))))))) zKX)
abbrev zAX:Sv:=(aY (cU 12 (eF (cQ iH (aB (aE 5) aNil)))) zLF)
abbrev zFL:Sv:=(aY (vA (oP (aE 5)) (gName 7) zFU) zAX)
abbrev zLb:Sv:=(aY (sIf (zMH (dM (eOp oNe (aE 6) (zSD (aE 8) oN (oS (eOp zQ (eC (.int 1)) (eB zPC (aB (eOp oGt (aE 4) (eC (.int 0))) aNil))))))) (dM (eOp oNe (aL cG (aB (eF (zOl (aB (aE 6) aNil))) aNil)) (aE 6)))) (iQ (eC (.bl false))) sNext) zFL)
abbrev zAg:Sv:=(aY (cU 8 (tG (aB (tG (aB (tG (aB (eC (.int 0)) (aB (eC (.int 1)) aNil))) (aB (tG (aB (eC (.int 0)) (aB (eC (.int 1)) aNil))) aNil))) (aB (tG (aB (tG (aB (aE 4) (aB (eC (.int 1)) aNil))) (aB (tG (aB (aE 4) (aB (eC (.int 1)) aNil))) aNil))) aNil)))) zLb)
abbrev zOF:Sv:=(aY (vA (oP (eF (fSl (aE 5) (oS (eC (.int 1))) oN))) (gName 7) zOR) zAg)
abbrev zOL:Sv:=(aY (cU 6 (eOp oIx (aE 5) (eC (.int 0)))) zOF)
abbrev zNw:Sv:=(aY (cU 5 (eF (cQ (fO 10) (aB (aE 3) aNil)))) zOL)
abbrev zPl:Sv:=(aY (cU 4 (eB zCU (aB (eF (cQ (gT 10) (aB (aE 3) aNil))) aNil))) zNw)
abbrev zOs:Sv:=(aY (cU 3 (aL hU (aB (eF (fSl (aE 0) (oS (eC (.int 1))) (oS (eOp oIx (eF (mU (aB (eC (.int 21)) (aB (eC (.int 31)) aNil)))) (aE 2))))) (aB (aE 1) (aB (eOp oIx (eF (mU (aB (eC (.int 8)) (aB (eC (.int 12)) aNil)))) (aE 2)) aNil))))) zPl)
abbrev zNN:Sv:=(aY (cU 2 (eB zPC (aB (eOp oEq (eOp zAh (eOp vE (aE 1) (eC (.int 7))) (eC (.int 4))) (eC (.int 3))) aNil))) zOs)
def zPh:Mir:=fn 1 18 (aY (cU 1 (aL gD (aB (aE 0) (aB (eC (.int 0)) aNil)))) zNN)
end Lw
namespace Lw
open L3 PySem Fr Fq Ln
local macro_rules | `(⋯)=>`(by omega)
local macro_rules | `(∅)=>`(by decide)
local macro_rules | `(tactic| erw[$r,*])=>do
 let t<-r.getElems.mapM fun x=>`(tactic| (symm;rw[$x:rwRule]))
 `(tactic| ($[$t]*))
def c_NOUGHT:eZ=dq 0:=rfl
local macro_rules | `(tactic| symm)=>do
 let ids:Array (Lean.TSyntax `term):=(("c_NOUGHT d_WEIGHTED d_HALF d_BOAT d_ACROSS d_UP fn_at eSlQ_at slQF slQE_at slQG_l slQG_t iZip_at iZip3_at fComp2_at chO_s oEq_s oNe_s oTabNot_s L3.start sSeq_at seqF_nx seqF_ret sSet_at setF sOwn_at ownF sRet_at retF sRetF_at retFF sRetOwn_at retS sRetN sIf_at ifF_t ifF_f sNext sNo sDrop_at dropF dropG eVar_at varS eC eOp_at opF eUn eCall_at callF rtF eB eTup_at tupF aCons_at consF consG aNil tVal_at blF tNotB_at notF tAndB_at tandF_t tandF_f tOrB_at torF_t torF_f eAnd_at andF_t andF_f eOr_at orF_t orF_f eIf_at eifF_t eifF_f eF_at efF fLst_at fLstF fCall_at fcallF rtFF fList_at fListF_l fListF_t fComp_at fRep_at repF fCat_at catF catG eFrz_at frzF fFrz_at fFrzF oN oS_at oSF fSl_at fSlF fSlG fSlH isNon sApp_at appS appF sExt_at extS extF sAug_at augS augF setG sUnp_at unpF nxF bSum_l bSum_t gTup_at gtF_t gCons_at gNil_at gName sFor_at forF iRevL_at revL_l iSeq_at seqD_l seqD_t iRng1_at iRng2_at sFrz sFrzAt frzAt tFrzB okb erb Rt.d fin oAdd_i oAddI_i oSub_i oMul_i oDiv_i oMod_i oPow_i oEq_i oNe_i oLt_i oLe_i oGt_i oGe_i oIx_tc sPop_at popS dp_mk ty_dp len_dp ix_dp0 ix_dp1 dep_dp noL_dp oEq_dp oNe_dp noLs_dps oNeg_i oNot_b bAbs_i bLen_t bLen_l bMin_i bTup_t bTup_l eIsT_at isTF isT ty_i ty_t ty_l ty_b ty_s ty_n ofO_some atD sRaise_at raiseF Sl.frz noErr dep depS noL noLs Qq Xh Uc Xp Vm List.replicate Qk Ub List.getElem?_cons_zero List.getElem?_cons_succ List.set_cons_zero List.set_cons_succ Nat.reduceAdd Nat.reduceSub Nat.reduceLeDiff Nat.reduceEqDiff Vq Yw Nat.max_self Vi if_true ite_true ite_false if_false Yi Bool.not_true Bool.not_false reduceIte ite_self Int.toNat_zero Int.reduceToNat Int.reduceLE Int.reduceLT Yz decide_true decide_false Bool.or_true Bool.or_false Bool.true_or Bool.false_or Bool.and_true Bool.true_and Bool.and_false Bool.false_and String.reduceBEq String.reduceEq beq_self_eq_true ix_dq0 ix_dq1 ty_dq dep_dq noL_dq len_dq eq_dq oEq_dq oNe_dq Qe okDiv_lit okMul_litr okMul_litl okp9 p10 fdiv_pos fmod_pos Int.reduceEq Int.reduceNeg p10ne p10ne2 p10pos2 Int.reduceMul Int.reduceAdd Int.reduceSub Int.reduceDiv Int.reduceMod eqD Nat.reduceLT Nat.reducePow ne_eq not_true_eq_false not_false_eq_true".splitOn " ").map fun s=>⟨Lean.mkIdent s.toName⟩).toArray
 `(tactic| simp only[$[$ids:term],*])
def tV(t b:Int):dG [.int t,.int b]=.ok (.v (.int (Int.gcd t b:Int))):=by
 unfold dG;symm
 refine zDc (fun ρ=>∃(x y:Int)(r:Sl),ρ=[.val (.int x),.val (.int y),r]/\0<=x/\0<=y/\Int.gcd x y=Int.gcd t b) (fun ρ=>(slI 1 ρ).toNat)
  (fun r=>(r.bind (zKs (iQ (aE 0)))).bind fin=.ok (.v (.int (Int.gcd t b:Int)))) ⟨_,_,_,rfl,⋯,⋯,by simp[Int.gcd]⟩ ?_
 rintro ρ ⟨x,y,r,rfl,hx,hy,hg⟩
 by_cases h:y=0
 ·subst h
  refine .inl ⟨rfl,?_⟩
  have e:x=(Int.gcd t b:Int):=by
   rw[Int.gcd_zero_right] at hg;omega
  rw[<-e];rfl
 ·refine .inr ⟨?_,[.val (.int y),.val (.int (x.fmod y)),.val (.int (x.fmod y))],?_,⟨y,x.fmod y,_,rfl,hy,?_,?_⟩,?_⟩
  ·symm
   rw[Jj h];rfl
  ·symm
   rw[oMod_i h];symm
  ·rw[zBr _ hy];exact Vy _ h
  ·rw[zBr _ hy];exact(Fq.zFo hx ⋯).trans hg
  ·have:=Vz x (show 0<y by omega)
   rw[zBr _ hy];show(x % y).toNat<y.toNat
   omega
def zRF{t b:Int}(hb:b≠0):(dv t b).natAbs<=b.natAbs:=Nat.le_of_dvd ⋯ (Int.natAbs_dvd_natAbs.mpr (zFK t b))
def zCy{t b:Int}{n:Nat}(hb:b≠0)(hn:b.natAbs<2^n)(h:n<=8999):jJ [.int t,.int b]=.ok (.v (dq (Rat.divInt t b))):=by
 have hd:mM (dv t b)=true:=uB (zRj hb) (Xq (zRF hb) hn) h;have e0:decide (b=0)=false:=Jj hb;unfold jJ;erw[e0,tV];symm;by_cases c:b<0
 ·have e:-(Int.gcd t b:Int)=dv t b:=by unfold dv;rw[Jk c]
  rw[J5 c];symm;rw[e,oDiv_i hd];erw[oDiv_i hd];symm;rw[zA hb,zP hb];rfl
 ·have e:(Int.gcd t b:Int)=dv t b:=by unfold dv;rw[Jl c]
  rw[Jj c];symm;rw[e,oDiv_i hd];erw[oDiv_i hd];symm;rw[zA hb,zP hb];rfl
def zSm(t:Int):jJ [.int t,.int 0]=.err "NoFraction" := by
 unfold jJ;symm
def yU{p q:Rat}{m n:Nat}(hp:Sz m p)(hq:Sz n q)(h:m+n<=8999):kF [dq p,dq q]=.ok (.v (dq (p+q))):=by
 unfold kF;erw[oMul_i (bN hp.1 hq.d ⋯),oMul_i (bN hq.1 hp.d ⋯),oMul_i (bN hp.d hq.d ⋯)];symm;rw[zCy (V7 (dU p) (dU q)) (eX hp.d hq.d) h,zJG];symm
def eT{p q:Rat}{m n:Nat}(hp:Sz m p)(hq:Sz n q)(h:m+n<=8999):cM [dq p,dq q]=.ok (.v (dq (p-q))):=by
 unfold cM;erw[oMul_i (bN hp.1 hq.d ⋯),oMul_i (bN hq.1 hp.d ⋯),oMul_i (bN hp.d hq.d ⋯)];symm;rw[zCy (V7 (dU p) (dU q)) (eX hp.d hq.d) h,zKu];symm
def nJ{p q:Rat}{m n:Nat}(hp:Sz m p)(hq:Sz n q)(h:m+n<=8999):cZ [dq p,dq q]=.ok (.v (dq (p*q))):=by
 unfold cZ;erw[oMul_i (bN hp.1 hq.1 ⋯),oMul_i (bN hp.d hq.d ⋯)];symm;rw[zCy (V7 (dU p) (dU q)) (eX hp.d hq.d) h,zJX];symm
def zHM{p q:Rat}{m n:Nat}(hp:Sz m p)(hq:Sz n q)(h0:q≠0)(h:m+n<=8999):qH [dq p,dq q]=.ok (.v (dq (p / q))):=by
 unfold qH;erw[oMul_i (bN hp.1 hq.d ⋯),oMul_i (bN hp.d hq.1 ⋯)];symm;rw[zCy (V7 (dU p) (zMY.mpr h0)) (eX hp.d hq.1) h,zII];symm
def kB{p q:Rat}{m n:Nat}(hp:Sz m p)(hq:Sz n q)(h:m+n<=99999):fQ [dq p,dq q]=.ok (.v (.bl (decide (p<q)))):=by
 unfold fQ;erw[oMul_i (bN hp.1 hq.d ⋯),oMul_i (bN hq.1 hp.d ⋯)];symm;simp only[lt_iff]
def mn(a b:Rat):Rat:=if a<b then a else b
def ps0(x:Rat):Rat:=if x<0 then 0 else x
def jK:List Int->Int->Rat->List Rat
 | [],_,_=>[]
 | c::r,a,q=>mn (ps0 (q-(a:Rat))) (c:Rat)::jK r (a+c) q
def zCe:∀(cs:List Int)(a:Int)(q:Rat),(jK cs a q).length=cs.length
 | [],_,_=>rfl
 | c::r,a,q=>by simp only[jK,Qk,zCe r]
def zOi{q:Rat}{a c:Int}(h:0<=c):ps0 (q-(a:Rat))-mn (ps0 (q-(a:Rat))) (c:Rat)=ps0 (q-((a+c:Int):Rat)):=by
 have h':(0:Rat)<=(c:Rat):=by exact_mod_cast h
 rw[Vo];unfold ps0 mn;grind
def cS{n:Nat}{k:Int}(h:k.natAbs<2^n)(h0:0<n):Sz n (k:Rat):=by
 refine⟨h,?_⟩
 show 1<2^n
 exact Nat.one_lt_two_pow ⋯
def zQp{n:Nat}{q:Rat}(h:Sz n q)(h0:0<n):Sz n (ps0 q):=by
 unfold ps0;split
 ·exact cS (k:=0) (Nat.two_pow_pos n) h0
 ·exact h
def zOT{n:Nat}{p q:Rat}(h:Sz n p)(h':Sz n q):Sz n (mn p q):=by
 unfold mn;split
 ·exact h
 ·exact h'
def bP(k:Int):bH [.int k]=.ok (.v (dq (k:Rat))):=by
 unfold bH;erw[zRh]
def zFl{p q:Rat}{m n:Nat}(hp:Sz m p)(hq:Sz n q)(h:m+n<=99999):lO [dq p,dq q]=.ok (.v (dq (mn p q))):=by
 unfold lO;erw[kB hp hq h];symm;unfold mn;by_cases c:p<q
 ·rw[J5 c,Jk c]
  symm
 ·rw[Jj c,Jl c]
  symm
structure Cl (cs:List Int):Prop where
 nn:∀ c∈cs,0<=c
 up:∀ c∈cs,c<10^30
 lo:1<=cs.length
 hi:cs.length<=12
def zMx:∀ {cs:List Int},(∀ c∈cs,0<=c)->(∀ c∈cs,c<10^30)->0<=cs.sum/\cs.sum<=cs.length*10^30
 | [],_,_=>∅
 | c::r,h,h'=>by
  have ih:=zMx (fun x hx=>h x (Qc _ hx)) fun x hx=>h' x (Qc _ hx)
  have a:=h c Qb;have b:=h' c Qb;rw[Qr,Qk];refine⟨⋯,?_⟩
  have:((r.length+1:Nat):Int)*10^30=(r.length:Int)*10^30+10^30:=by rw[Y0,Y1];rfl
  omega
def Cl.sum{cs:List Int}(h:Cl cs):0<=cs.sum/\cs.sum<2^104:=by
 have a:=zMx h.nn h.up;have b:=h.hi;refine⟨a.1,?_⟩
 omega
structure Haul (m:Nat) (q:Rat) (W:Int):Prop where
 nn:0<=q
 up:q<=(W:Rat)
 sz:Sz m q
def zFc{d:D}{q:Rat}{m:Nat}(hm:m<=3000)(hq:Sz m q):∀(cs:List Int)(a:Int)(acc:List D)(s t:Sl),(∀ c∈cs,0<=c)->(∀ c∈cs,c<10^30)->0<=a->a+cs.length*10^30<2^110->acc.length+cs.length<=100->
  ∃ l' s' t',gE (gName 4) rG (cs.map D.int) [.val d,.val (dq q),.val (dq (ps0 (q-(a:Rat)))),.own acc,s,t]=.ok (.nx [.val d,.val (dq q),l',.own (acc++(jK cs a q).map dq),s',t'])
 | [],a,acc,s,t,_,_,_,_,_=>⟨.val (dq (ps0 (q-(a:Rat)))),s,t,by rw[Xh,gE];simp[jK]⟩
 | c::r,a,acc,s,t,h1,h2,h3,h4,h5=>by
  have c0:=h1 c Qb;have c1:=h2 c Qb;rw[Qk] at h4 h5;have e4:((r.length+1:Nat):Int)*10^30=(r.length:Int)*10^30+10^30:=by rw[Y0,Y1];rfl
  have r0:0<=(r.length:Int)*10^30:=W3 ⋯ ∅
  have zl:Sz (m+111) (ps0 (q-(a:Rat))):=zQp (hq.sub (cS (n:=110) ⋯ ∅)) ⋯
  have zc:Sz (m+111) (c:Rat):=Sz.mono (m:=110) (cS ⋯ ∅) ⋯
  obtain⟨l',s',t',e⟩:=zFc hm hq r (a+c) (acc++[dq (mn (ps0 (q-(a:Rat))) (c:Rat))]) (.val (.int c)) (.val (dq (mn (ps0 (q-(a:Rat))) (c:Rat)))) (fun x hx=>h1 x (Qc _ hx)) (fun x hx=>h2 x (Qc _ hx)) ⋯ ⋯ (by rw[Qo,Wd];omega)
  refine⟨l',s',t',?_⟩
  rw[Qq,dD (ρ1:=[.val d,.val (dq q),.val (dq (ps0 (q-(a:Rat)))),.own acc,.val (.int c),t]) rfl,e]
  ·rw[jK,Qq,Vr];rfl
  ·symm
   rw[bP];erw[zFl zl zc ⋯,Jk ⋯,eT zl (zOT zl zc) ⋯,zOi c0]
def zDG{d:D}{cs:List Int}{q:Rat}(hd:d=.lst (cs.map D.int)∨d=.tup (cs.map D.int)){m:Nat}(hm:m<=3000)(hc:Cl cs)(hq:Sz m q)(h0:0<=q):gI [d,dq q]=.ok (.f ((jK cs 0 q).map dq)):=by
 have sq:zNd d=.ok (cs.map D.int):=by rcases hd with rfl | rfl<;>rfl
 have:=hc.hi
 obtain⟨l',s',t',e⟩:=zFc (d:=d) hm hq cs 0 [] .un .un hc.nn hc.up ∅ ⋯ (by rw[Ub];omega)
 have z:ps0 (q-((0:Int):Rat))=q:=by
  unfold ps0;rw[show((0:Int):Rat)=0 from rfl];grind
 rw[z] at e;unfold gI;erw[sq,e];rfl
def zBl(cs:List Int)(q:Rat):List Rat:=cs.map fun c=>Rat.divInt (c*q.num) (max 1 cs.sum*q.den)
def zIq{q:Rat}{c W:Int}(h:0<W):q / (W:Rat)*(c:Rat)=Rat.divInt (c*q.num) (W*q.den):=by
 have hW:(W:Rat)≠0:=by
  intro z;have:W=0:=by exact_mod_cast z
  omega
 rw[<-zII q (W:Rat)];show Rat.divInt (q.num*((1:Nat):Int)) (q.den*W)*(c:Rat)=_
 rw[show((1:Nat):Int)=1 from rfl,Vl,<-Xi (c:Rat),Wh];show Rat.divInt (q.num*c) (q.den*W*((1:Nat):Int))=_
 rw[show((1:Nat):Int)=1 from rfl,Vl,Uf q.num,Uf (q.den:Int)]
def qQ:∀ {cs:List Int},(∀ c∈cs,0<=c)->cs.sum=0->∀ c∈cs,c=0
 | [],_,_,c,h=>by cases h
 | d::r,h,e,c,hc=>by
  rw[Qr] at e;have h0:=h d Qb
  have hr:0<=r.sum:=by
   have:∀ l:List Int,(∀ c∈l,0<=c)->0<=l.sum:=by
    intro l
    induction l with
    | nil=>intro _;decide
    | cons a l ih=>intro hl;rw[Qr];have:=hl a Qb;have:=ih fun x hx=>hl x (Qc _ hx);omega
   exact this r fun x hx=>h x (Qc _ hx)
  rcases Qd.mp hc with rfl | hc
  ·omega
  ·exact qQ (fun x hx=>h x (Qc _ hx)) ⋯ c hc
def zDr{d:D}{cs:List Int}{q:Rat}(hd:d=.lst (cs.map D.int)∨d=.tup (cs.map D.int)){m:Nat}(hm:m<=3000)(hc:Cl cs)(hq:Sz m q):fN [d,dq q]=.ok (.f ((zBl cs q).map dq)):=by
 have sm:=hc.sum;have hi:=hc.hi;have sq:zNd d=.ok (cs.map D.int):=by rcases hd with rfl | rfl<;>rfl
 have su:zCU [d]=.ok (.int cs.sum):=by rcases hd with rfl | rfl;exact bSum_l;exact bSum_t
 have ln:nD [d]=.ok (.int cs.length):=by rcases hd with rfl | rfl<;>(symm)
 unfold fN;erw[su];symm;by_cases c0:cs.sum=0
 ·rw[J5 c0]
  erw[ln,zEZ ⋯];symm
  have e:(zBl cs q).map dq=List.replicate cs.length (dq 0):=by
   unfold zBl;rw[Qx,<-List.map_const'];refine V0 fun c h=>?_
   have c0:=qQ hc.nn c0 c h;subst c0;show dq (Rat.divInt (0*q.num) _)=dq 0
   rw[Int.zero_mul,Rat.zero_divInt]
  rw[e]
 ·rw[Jj c0]
  symm;have W0:0<cs.sum:=⋯
  have zW:Sz 110 (cs.sum:Rat):=cS ⋯ ∅
  have nW:(cs.sum:Rat)≠0:=by
   intro z;have:cs.sum=0:=by exact_mod_cast z
   omega
  rw[bP];erw[zHM hq zW nW ⋯,sq];symm
  rw[dQ (u:=D.int) (g:=fun c=>dq (Rat.divInt (c*q.num) (max 1 cs.sum*q.den))) ⋯ (fun c h=>by
   have c0:=hc.nn c h;have c1:=hc.up c h;erw[bP,nJ (hq.div zW nW) (cS (n:=110) (k:=c) ⋯ ∅) ⋯];symm
   rw[zIq W0,Int.max_eq_right ⋯])]
  symm;unfold zBl;rw[Qx];rfl
def iZ(f:Nat->Rat)(l:List Nat):Rat:=(l.map f).sum
def bC(f:Nat->Rat)(i:Nat)(l:List Nat):iZ f (i::l)=f i+iZ f l:=by unfold iZ;rw[Qq,Qr]
def iT(f:Nat->Rat):iZ f []=0:=rfl
def sL{f g:Nat->Rat}:∀ {l:List Nat},(∀ i∈l,f i<=g i)->iZ f l<=iZ g l
 | [],_=>Qh
 | i::l,h=>by
  rw[bC,bC];have a:=h i Qb;have b:=sL fun j hj=>h j (Qc _ hj)
  grind
def sD{f g:Nat->Rat}:∀ {l:List Nat},(∀ i∈l,f i<=g i)->iZ f l=iZ g l->∀ i∈l,f i=g i
 | [],_,_,i,hi=>by cases hi
 | j::l,h,e,i,hi=>by
  rw[bC,bC] at e;have a:=h j Qb;have hb:∀ i∈l,f i<=g i:=fun k hk=>h k (Qc _ hk)
  have b:=sL hb;rcases Qd.mp hi with rfl | hi
  ·grind
  ·exact sD hb (by grind) i hi
def uK{f:Nat->Rat}{l m:List Nat}(h:l.Perm m):iZ f l=iZ f m:=by
 induction h with
 | nil=>rfl
 | cons x _ ih=>rw[bC,bC,ih]
 | swap x y l=>rw[bC,bC,bC,bC];grind
 | trans _ _ h1 h2=>rw[h1,h2]
def dI{w:Nat->Rat}{t:Rat}:∀ {l:List Nat},iZ (fun i=>w i*t) l=t*iZ w l
 | []=>by rw[iT,iT];grind
 | i::l=>by rw[bC,bC,dI];grind
def eM{f g:Nat->Rat}{l:List Nat}(h:∀ i∈l,f i=g i):iZ f l=iZ g l:=by unfold iZ;rw[V0 h]
def zKZ{w:Nat->Rat}:∀ {l:List Nat},(∀ i∈l,0<w i)->0<=iZ w l
 | [],_=>Qh
 | i::l,h=>by
  rw[bC];have a:=h i Qb;have b:=zKZ fun j hj=>h j (Qc _ hj)
  grind
def dN(c w:Nat->Rat)(t:Rat)(i:Nat):Rat:=mn (w i*t) (c i)
def zSV{a b c d:Rat}(h:a<=c)(h':b<=d):mn a b<=mn c d:=by unfold mn;grind
def mP{c w:Nat->Rat}{t u:Rat}{i:Nat}(hw:0<w i)(h:t<=u):dN c w t i<=dN c w u i:=
 zSV (X6 h (Qg hw)) Qh
def zAy{c w:Nat->Rat}{t u:Rat}{l:List Nat}(hw:∀ i∈l,0<w i)(h:iZ (dN c w t) l=iZ (dN c w u) l):∀ i∈l,dN c w t i=dN c w u i:=by
 rcases Xk (a:=t) (b:=u) with g | g
 ·exact sD (fun i hi=>mP (hw i hi) g) h
 ·exact fun i hi=>(sD (fun i hi=>mP (hw i hi) g) h.symm i hi).symm
def zKv{L W w c:Rat}(hW:0<W)(h:L*w / W<c):mn (L*w / W) c=mn (w*(L / W)) c/\mn (w*(L / W)) c=w*(L / W):=by
 have e:L*w / W=w*(L / W):=by grind
 rw[e] at h ⊢
 exact⟨rfl,Jk h⟩
def zKH{r W w c:Rat}(hW:W≠0)(h:w*r<=c):mn (r*W*w / W) c=w*r:=by
 have e:r*W*w / W=w*r:=by grind
 rw[e];unfold mn;grind
def zKm{ci wi cj wj r:Rat}(h1:0<wi)(h2:0<wj)(h:ci*wj<=cj*wi)(hr:wi*r<=ci):wj*r<=cj:=by
 have a:wi*r*wj<=ci*wj:=Vv hr (Qg h2)
 have b:wj*r*wi<=cj*wi:=by
  have:wj*r*wi=wi*r*wj:=by grind
  rw[this];exact Qz a h
 exact Yk b h1
def zGW{L W w c b:Rat}(hw:0<w)(h:¬ L*w / W<c)(hW:0<W)(hb:b*W<=L):∃ b',b<=b'/\c<=w*b'/\b' * (W-w)<=L-c:=by
 have h1:c*W<=L*w:=by
  have h':=V3.mp h;have:=Vv h' (Qg hW)
  rwa [Xd (by grind)] at this
 have e1:w*(c / w)=c:=by grind
 have e2:c / w*(W-w)=c*W / w-c:=by grind
 have e3:c*W / w<=L:=by
  have a:c*W / w*w<=L*w:=by rw[Xd (by grind)];exact h1
  exact Yk a hw
 rcases Xk (a:=b) (b:=c / w) with g | g
 ·exact⟨c / w,g,by rw[e1];exact Qh,by rw[e2];grind⟩
 ·refine⟨b,Qh,?_,?_⟩
  ·have:=X6 g (Qg hw)
   rwa [e1] at this
  ·have:=X6 g (Qg hw)
   rw[e1] at this;grind
structure Wt (ws cs:List Int):Prop where
 len:ws.length=cs.length
 lo:∀ w∈ws,1<=w
 up:∀ w∈ws,w<=10^6
def cR(cs:List Int)(i:Nat):Rat:=((cs.getD i 0:Int):Rat)
def qX:List (Nat×Rat)->List D->List D
 | [],am=>am
 | p::r,am=>qX r (am.set p.1 (dq p.2))
def wS(ws:List Int)(π:List Nat):Int:=(π.map fun i=>ws.getD i 0).sum
def nL(ws:List Int)(i:Nat)(π:List Nat):wS ws (i::π)=ws.getD i 0+wS ws π:=by unfold wS;rw[Qq,Qr]
def bL{l:List Int}{i:Nat}(h:i<l.length):l[i]?=some (l.getD i 0):=by rw[Qv,Qm h];rfl
def zPD{l:List Int}{i:Nat}(h:i<l.length):oIx (.lst (l.map D.int)) (.int (i:Int))=.ok (.int (l.getD i 0)):=kE (Vw i) (show l[((i:Nat):Int).toNat]?=some (l.getD i 0) from bL h)
def zSG{i:Nat}{k e:Ev}{ρ:Rho}{ds:List D}{d:D}{j:Nat}(h1:e ρ=.ok d)(h2:ρ[i]?=some (.own ds))(h3:k ρ=.ok (.int (j:Int)))(h4:j<ds.length):zRU i k e ρ=.ok (.nx (ρ.set i (.own (ds.set j d)))):=by
 unfold zRU;rw[h1];show(match ρ[i]? with | some (.own ds)=>_ | _=>_)=_
 rw[h2];show(k ρ).bind _=_
 rw[h3];exact Jk ⟨Vw j,⋯⟩
def zQL{ds:List D}{d:D}{i:Nat}(h:i<ds.length):oIx (.lst (ds.set i d)) (.int (i:Int))=.ok d:=by
 have e:=kE (f:=id) (l:=ds.set i d) (i:=(i:Int)) (a:=d) (Vw i) (show(ds.set i d)[i]?=some d from Vk h)
 rwa [List.map_id] at e
def Wt.at{ws cs:List Int}(h:Wt ws cs){i:Nat}(hi:i<cs.length):1<=ws.getD i 0/\ws.getD i 0<=10^6:=by
 have:=bL (l:=ws) (i:=i) (by rw[h.len];exact hi)
 exact⟨h.lo _ (Qi this),h.up _ (Qi this)⟩
def Wt.sum{ws cs:List Int}(h:Wt ws cs):∀ {π:List Nat},(∀ i∈π,i<cs.length)->(π.length:Int)<=wS ws π/\wS ws π<=π.length*10^6
 | [],_=>⟨Yz _,Yz _⟩
 | i::π,hi=>by
  have a:=h.at (hi i Qb);have b:=h.sum fun j hj=>hi j (Qc _ hj)
  rw[nL,Qk];omega
def Sq(d:D)(l:List Int):Prop:=d=.lst (l.map D.int)∨d=.tup (l.map D.int)
def Sq.ix{d:D}{l:List Int}(h:Sq d l){i:Nat}(hi:i<l.length):oIx d (.int (i:Int))=.ok (.int (l.getD i 0)):=by
 rcases h with rfl | rfl
 ·exact kE (Vw i) (bL hi)
 ·exact pL (Vw i) (bL hi)
def Sq.sum{d:D}{l:List Int}(h:Sq d l):zCU [d]=.ok (.int l.sum):=by
 rcases h with rfl | rfl
 ·exact bSum_l
 ·exact bSum_t
def Sq.len{d:D}{l:List Int}(h:Sq d l):nD [d]=.ok (.int l.length):=by
 rcases h with rfl | rfl
 ·rw[bLen_l,Qe]
 ·rw[bLen_t,Qe]
def Sq.seq{d:D}{l:List Int}(h:Sq d l):zNd d=.ok (l.map D.int):=by
 rcases h with rfl | rfl<;>rfl
def Sq.seqo{d:D}{l:List Int}(h:Sq d l):xG d=some (l.map D.int):=by
 rcases h with rfl | rfl<;>rfl
def zHF{ws cs:List Int}{wd cd:D}(sw:Sq wd ws)(sc:Sq cd cs){qv s7:Sl}{L:Rat}{W:Int}{i:Nat}{am:List D}(hW:Wt ws cs)(hc:∀ c∈cs,0<=c/\c<10^30){m:Nat}(hm:m<=3000)(hL:Sz (m+250) L)(W0:0<W)(W1:W<=12*10^6)(hi:i<cs.length)(ha:am.length=cs.length){a:Rat}(ea:mn (L*cR ws i / (W:Rat)) (cR cs i)=a):
  bU [.val wd,.val cd,qv,.val (dq L),.val (.int W),.own am,.val (.int (i:Nat)),s7]=
   .ok (.nx [.val wd,.val cd,qv,.val (dq (L-a)),.val (.int (W-ws.getD i 0)),.own (am.set i (dq a)),.val (.int (i:Nat)),.val (dq (L*cR ws i / (W:Rat)))]):=by
 have hiw:i<ws.length:=by rw[hW.len];exact hi
 obtain⟨w1,w2⟩:=hW.at hi;obtain⟨c1,c2⟩:=hc _ (Qi (bL hi));have zW:Sz 24 (W:Rat):=cS ⋯ ∅
 have zw:Sz 20 (cR ws i):=cS ⋯ ∅
 have zc:Sz (m+294) (cR cs i):=Sz.mono (m:=100) (cS ⋯ ∅) ⋯
 have nW:(W:Rat)≠0:=by
  intro z;have:W=0:=by exact_mod_cast z
  omega
 have fw:bH [.int (ws.getD i 0)]=.ok (.v (dq (cR ws i))):=bP _;have fc:bH [.int (cs.getD i 0)]=.ok (.v (dq (cR cs i))):=bP _;have zx:Sz (m+294) (L*cR ws i / (W:Rat)):=((hL.mul zw).div zW nW).mono ⋯
 erw[sw.ix hiw,fw,nJ hL zw ⋯,bP,zHM (hL.mul zw) zW nW ⋯];symm
 rw[zSG (j:=i) (d:=dq a) (ds:=am) (by
  erw[sc.ix hi,fc];symm;rw[zFl zx zc ⋯,ea]
  symm) rfl rfl ⋯]
 erw[zQL ⋯,eT hL (ea ▸ zOT zx zc) ⋯,sw.ix hiw];symm
def nH(ws:List Int):∀ π:List Nat,iZ (cR ws) π=(wS ws π:Rat)
 | []=>rfl
 | i::π=>by rw[bC,nH ws π,nL,Vo];rfl
def zCf{ws cs:List Int}{wd cd:D}(sw:Sq wd ws)(sc:Sq cd cs){qv:Sl}{r:Rat}{m:Nat}(hm:m<=3000)(hW:Wt ws cs)(hc:∀ c∈cs,0<=c/\c<10^30)(hr:Sz (m+150) r):∀(π:List Nat)(am:List D)(s6 s7:Sl),(∀ i∈π,i<cs.length)->(∀ i∈π,cR ws i*r<=cR cs i)->π.length<=12->am.length=cs.length->
  ∃ l' W' s' t',gE (gName 6) bU (kQ π) [.val wd,.val cd,qv,.val (dq (r*(wS ws π:Rat))),.val (.int (wS ws π)),.own am,s6,s7]=
   .ok (.nx [.val wd,.val cd,qv,l',W',.own (qX (π.map fun i=>(i,cR ws i*r)) am),s',t'])
 | [],am,s6,s7,_,_,_,_=>⟨_,_,_,_,rfl⟩
 | i::π,am,s6,s7,h1,h2,h4,h5=>by
  have hi:=h1 i Qb;obtain⟨W1,W2⟩:=hW.sum h1;rw[Qk] at h4 W1 W2;have zW:Sz 24 (wS ws (i::π):Rat):=cS ⋯ ∅
  have nW:(wS ws (i::π):Rat)≠0:=by
   intro z;have:wS ws (i::π)=0:=by exact_mod_cast z
   omega
  have e1:wS ws (i::π)-ws.getD i 0=wS ws π:=by rw[nL];omega
  have e2:r*(wS ws (i::π):Rat)-cR ws i*r=r*(wS ws π:Rat):=by
   rw[nL,Vo];show r*(cR ws i+(wS ws π:Rat))-cR ws i*r=_
   grind
  have tn:=zHF sw sc (qv:=qv) (s7:=s7) (W:=wS ws (i::π)) (am:=am) hW hc hm ((hr.mul zW).mono ⋯) ⋯ ⋯ hi h5 (zKH nW (h2 i Qb))
  rw[e1,e2] at tn;obtain⟨l',W',s',t',e⟩:=zCf sw sc hm hW hc hr π (am.set i (dq (cR ws i*r))) _ _ (fun j hj=>h1 j (Qc _ hj)) (fun j hj=>h2 j (Qc _ hj)) ⋯ (by rw[Vc];exact h5)
  refine⟨l',W',s',t',?_⟩
  show gE _ _ (.int (i:Nat)::kQ π) _=_
  rw[dD rfl tn,e];rfl
def zBS{ws cs:List Int}{wd cd:D}(sw:Sq wd ws)(sc:Sq cd cs){qv:Sl}{q:Rat}{m:Nat}(hm:m<=3000)(hW:Wt ws cs)(hc:∀ c∈cs,0<=c/\c<10^30)(hq:Sz m q):∀(π:List Nat)(k:Int)(b:Rat)(am:List D)(s6 s7:Sl),(∀ i∈π,i<cs.length)->π.Pairwise (fun i j=>cR cs i*cR ws j<=cR cs j*cR ws i)->π.length<=12->am.length=cs.length->
  0<=k->k+π.length*10^30<2^110->0<=q-(k:Rat)->q-(k:Rat)<=iZ (cR cs) π->b*(wS ws π:Rat)<=q-(k:Rat)->
  ∃ t,b<=t/\iZ (dN (cR cs) (cR ws) t) π=q-(k:Rat)/\(∀ i∈π,Sz (m+155) (dN (cR cs) (cR ws) t i))/\∃ l' W' s' t',gE (gName 6) bU (kQ π) [.val wd,.val cd,qv,.val (dq (q-(k:Rat))),.val (.int (wS ws π)),.own am,s6,s7]=
   .ok (.nx [.val wd,.val cd,qv,l',W',.own (qX (π.map fun i=>(i,dN (cR cs) (cR ws) t i)) am),s',t'])
 | [],k,b,am,s6,s7,_,_,_,_,_,_,h6,h7,_=>⟨b,Qh,by rw[iT] at h7 ⊢;grind,fun i h=>by(cases h),_,_,_,_,rfl⟩
 | i::π,k,b,am,s6,s7,h1,h2,h3,h4,h5,h5',h6,h7,h8=>by
  have hi:=h1 i Qb;have h1':∀ j∈π,j<cs.length:=fun j hj=>h1 j (Qc _ hj)
  obtain⟨W1,W2⟩:=hW.sum h1;obtain⟨V1,V2⟩:=hW.sum h1';obtain⟨w1,w2⟩:=hW.at hi;obtain⟨c1,c2⟩:=hc _ (Qi (bL hi));obtain⟨p1,p2⟩:=Qp.mp h2;rw[Qk] at h3 h5' W1 W2;have ek:((π.length+1:Nat):Int)*10^30=(π.length:Int)*10^30+10^30:=by rw[Y0,Y1];rfl
  have k0:0<=(π.length:Int)*10^30:=W3 ⋯ ∅
  have zW:Sz 24 (wS ws (i::π):Rat):=cS ⋯ ∅
  have zk:Sz 110 (k:Rat):=cS ⋯ ∅
  have zL:Sz (m+111) (q-(k:Rat)):=(hq.sub zk).mono ⋯
  have pW:(0:Rat)<(wS ws (i::π):Rat):=by exact_mod_cast (show 0<wS ws (i::π) by omega)
  have nW:(wS ws (i::π):Rat)≠0:=fun z=>by rw[z] at pW;exact absurd pW ∅
  have pw:∀ j,j<cs.length->0<cR ws j:=fun j hj=>by
   have:=(hW.at hj).1
   unfold cR;exact_mod_cast (show 0<ws.getD j 0 by omega)
  have e1:wS ws (i::π)-ws.getD i 0=wS ws π:=by rw[nL];omega
  have eW:(wS ws (i::π):Rat)=cR ws i+(wS ws π:Rat):=by rw[nL,Vo];rfl
  have pV:(0:Rat)<=(wS ws π:Rat):=by exact_mod_cast (show 0<=wS ws π by omega)
  generalize hL:q-(k:Rat)=L at h6 h7 h8 zL ⊢
  have loop1:∀ {a:Rat} {l' W' s' t':Sl} {am':List D},mn (L*cR ws i / (wS ws (i::π):Rat)) (cR cs i)=a->gE (gName 6) bU (kQ π) [.val wd,.val cd,qv,.val (dq (L-a)),.val (.int (wS ws π)),.own (am.set i (dq a)),.val (.int (i:Nat)),.val (dq (L*cR ws i / (wS ws (i::π):Rat)))]=.ok (.nx [.val wd,.val cd,qv,l',W',.own am',s',t'])->
    gE (gName 6) bU (kQ (i::π)) [.val wd,.val cd,qv,.val (dq L),.val (.int (wS ws (i::π))),.own am,s6,s7]=.ok (.nx [.val wd,.val cd,qv,l',W',.own am',s',t']):=fun {a l' W' s' t' am'} ea e=>by
   have tn:=zHF sw sc (qv:=qv) (s7:=s7) (W:=wS ws (i::π)) (am:=am) hW hc hm (zL.mono ⋯) ⋯ ⋯ hi h4 ea
   rw[e1] at tn;show gE _ _ (.int (i:Nat)::kQ π) _=_
   rw[dD rfl tn];exact e
  by_cases hx:L*cR ws i / (wS ws (i::π):Rat)<cR cs i
  ·obtain⟨x1,x2⟩:=zKv pW hx
   generalize hr:L / (wS ws (i::π):Rat)=r at x1 x2;have zr:Sz (m+135) r:=hr ▸ (zL.div zW nW).mono ⋯
   have eL:L=r*(wS ws (i::π):Rat):=by rw[<-hr,Xd nW]
   have wr:cR ws i*r<=cR cs i:=by
    have e:L*cR ws i / (wS ws (i::π):Rat)=cR ws i*r:=by rw[<-hr];grind
    rw[e] at hx;exact Qg hx
   have later:∀ j∈π,cR ws j*r<=cR cs j:=fun j hj=>zKm (pw i hi) (pw j (h1' j hj)) (p1 j hj) wr
   have gj:∀ j∈i::π,dN (cR cs) (cR ws) r j=cR ws j*r:=fun j hj=>by
    have:cR ws j*r<=cR cs j:=by
     rcases Qd.mp hj with rfl | hj
     ·exact wr
     ·exact later j hj
    unfold dN mn;grind
   have e2:L-cR ws i*r=r*(wS ws π:Rat):=by rw[eL,eW];grind
   obtain⟨l',W',s',t',e⟩:=zCf sw sc (qv:=qv) hm hW hc (zr.mono ⋯) π (am.set i (dq (cR ws i*r))) (.val (.int (i:Nat))) (.val (dq (L*cR ws i / (wS ws (i::π):Rat)))) h1' later ⋯ (by rw[Vc];exact h4)
   refine⟨r,Yk (by rw[<-eL];exact h8) pW,?_,fun j hj=>?_,l',W',s',t',loop1 (a:=cR ws i*r) (x1.trans x2) ?_⟩
   ·rw[eM gj,dI,nH,<-eL]
   ·rw[gj j hj]
    have v:=hW.at (h1 j hj);exact(Sz.mul (m:=20) (n:=m+135) (cS ⋯ ∅) zr).mono ⋯
   ·rw[e2,e,Qq,qX,gj i Qb]
    rw[V0 (g:=fun j=>(j,dN (cR cs) (cR ws) r j)) fun j hj=>by rw[gj j (Qc _ hj)]]
  ·have ea:mn (L*cR ws i / (wS ws (i::π):Rat)) (cR cs i)=cR cs i:=Jl hx
   obtain⟨b',g1,g2,g3⟩:=zGW (pw i hi) hx pW h8;have ek2:q-((k+cs.getD i 0:Int):Rat)=L-cR cs i:=by rw[Vo,<-hL];show q-((k:Rat)+cR cs i)=_;grind
   have c0:0<=cR cs i:=by unfold cR;exact_mod_cast c1
   have cL:cR cs i<=L:=by
    have y:=Vv (V3.mp hx) (Qg pW);rw[Xd nW] at y;have y2:L*cR ws i<=L*(wS ws (i::π):Rat):=X6 (by rw[eW];grind) h6
    exact Yk (Qz y y2) pW
   rw[bC] at h7
   have g3':b' * (wS ws π:Rat)<=L-cR cs i:=by
    rw[eW] at g3;have:cR ws i+(wS ws π:Rat)-cR ws i=(wS ws π:Rat):=by grind
    rw[this] at g3;exact g3
   obtain⟨t,t1,t2,tz,l',W',s',t',e⟩:=zBS sw sc (qv:=qv) hm hW hc hq π (k+cs.getD i 0) b' (am.set i (dq (cR cs i))) (.val (.int (i:Nat))) (.val (dq (L*cR ws i / (wS ws (i::π):Rat)))) h1' p2 ⋯ (by rw[Vc];exact h4) ⋯ ⋯ (by rw[ek2];grind) (by rw[ek2];grind) (by rw[ek2];exact g3')
   have gi:dN (cR cs) (cR ws) t i=cR cs i:=by
    have:=X6 t1 (Qg (pw i hi))
    unfold dN mn;grind
   rw[ek2] at e t2;refine⟨t,Qz g1 t1,?_,fun j hj=>?_,l',W',s',t',loop1 ea ?_⟩
   ·rw[bC,gi,t2];grind
   ·rcases Qd.mp hj with rfl | hj
    ·rw[gi];exact Sz.mono (m:=100) (cS ⋯ ∅) ⋯
    ·exact tz j hj
   ·rw[e,Qq,qX,gi]
def yZ{g:Nat->Rat}:∀(π:List Nat)(am:List D)(j:Nat),(qX (π.map fun i=>(i,g i)) am)[j]?=if j∈π then (if j<am.length then some (dq (g j)) else none) else am[j]?
 | [],am,j=>by simp[qX]
 | i::π,am,j=>by
  rw[Qq,qX,yZ π,Vc];by_cases h1:j∈π
  ·rw[Jk h1,Jk (Qc _ h1)]
  ·rw[Jl h1]
   by_cases h2:j=i
   ·subst h2
    rw[Jk Qb];by_cases h3:j<am.length
    ·rw[Jk h3];exact Vk h3
    ·rw[Jl h3,Q5 (by rw[Vc];omega)]
   ·rw[Jl (by simp[h1,h2]),Vf (fun z=>h2 z.symm)]
def zGV{g:Nat->Rat}{π:List Nat}{n:Nat}(h:π.Perm (List.range n)):qX (π.map fun i=>(i,g i)) (List.replicate n (dq 0))=((List.range n).map g).map dq:=by
 refine Yy fun j=>?_
 rw[yZ,Qt,Qt,Yd];by_cases hj:j<n
 ·rw[Jk (h.mem_iff.mpr (Qn.mpr hj)),Jk hj,V8 hj];rfl
 ·rw[Jl (fun z=>hj (Qn.mp (h.mem_iff.mp z))),Q5 (by rw[Yd];omega),Q5 (by rw[Q3];omega)];rfl
def zDI(kz:List Int):∃ π,gG kz π:=⟨_,zJr kz⟩
def zKf{fs:Fv}{kf:List D->Res (List Int)}{g:Gv}{b r:Sv}{ρ:Rho}{kz:List Int}{x:Res Fl}(h1:(fs ρ).bind kf=.ok kz)(h:∀ π,gG kz π->aY (fun ρ=>gE g b (kQ π) ρ) r ρ=x):zJU fs kf g b r ρ=x:=by
 obtain⟨π,hπ⟩:=zDI kz;unfold zJU;rw[h1];exact zGO hπ h
def tY:List Rat->Int
 | []=>1
 | x::r=>x.den*tY r
def zKL(B:Int)(x:Rat):Int:=x.num*B.fdiv x.den
def zFE:∀ {l:List Rat} {x:Rat},x∈l->(x.den:Int) ∣ tY l
 | y::r,x,h=>by
  rcases Qd.mp h with rfl | h
  ·exact⟨tY r,rfl⟩
  ·exact Int.dvd_trans (zFE h) ⟨y.den,Uf _ _⟩
def zBA:∀ l:List Rat,0<tY l
 | []=>∅
 | x::r=>Xl (dB x) (zBA r)
def zMr{l:List Rat}{x:Rat}(h:x∈l):((zKL (tY l) x:Int):Rat)=x*(tY l:Rat):=by
 obtain⟨k,hk⟩:=zFE h;have d0:=dB x;unfold zKL;rw[fdiv_pos _ d0,hk,Int.mul_ediv_cancel_left _ ⋯,Vb,Vb]
 have e:x*((x.den:Int):Rat)=(x.num:Rat):=by
  have h1:=Xi x;rw[Y2] at h1
  have h2:((x.den:Int):Rat)≠0:=fun z=>by
   have:(x.den:Int)=0:=by exact_mod_cast z
   omega
  rw[<-Xd (a:=(x.num:Rat)) h2,h1]
 rw[<-e];grind
def zCb{a:Sl}:∀(l:List Rat)(B:Int)(s:Sl)(m:Nat),(∀ x∈l,(x.den:Int)<=10^6)->B.natAbs<2^m->m+20*l.length<=1000->
  ∃ s',gE (gName 2) zU (l.map dq) [a,.val (.int B),s]=.ok (.nx [a,.val (.int (B*tY l)),s'])/\(B*tY l).natAbs<2^(m+20*l.length)
 | [],B,s,m,_,h2,_=>⟨s,by rw[Xh,gE,tY,Vl],by rw[tY,Vl];exact h2⟩
 | x::r,B,s,m,h1,h2,h3=>by
  have d1:=h1 x Qb;have d0:=dB x;rw[Qk] at h3;have hx:((x.den:Int)).natAbs<2^20:=⋯
  obtain⟨s',e,hb⟩:=zCb r (B*x.den) (.val (dq x)) (m+20) (fun y hy=>h1 y (Qc _ hy)) (eX h2 hx) ⋯
  have ed:B*tY (x::r)=B*x.den*tY r:=by rw[tY,Ym]
  refine⟨s',?_,by rw[ed,Qk,show m+20*(r.length+1)=m+20+20*r.length by omega];exact hb⟩
  rw[ed,<-e,Qq];refine dD (ρ1:=[a,.val (.int B),.val (dq x)]) rfl ?_
  erw[oMul_i (bN (m:=m) (n:=20) h2 hx ⋯)];symm
def zFV{B:Int}(hB:B.natAbs<2^1000):∀ {l:List Rat},(∀ x∈l,(x.den:Int)<=10^6/\Sz 500 x)->pE B (l.map dq)=.ok (l.map (zKL B))
 | [],_=>rfl
 | x::r,h=>by
  obtain⟨d1,z⟩:=h x Qb;have d0:=dB x;have e1:mM (x.den:Int)=true:=uB (m:=20) ⋯ ⋯ ∅
  have e2:kL x.num (B.fdiv x.den)=true:=by
   rw[fdiv_pos _ d0];refine bN (m:=500) (n:=1000) z.1 (Xq ?_ hB) ∅
   exact Int.natAbs_ediv_le_natAbs _ _
  have k1:zKJ B (dq x)=.ok (zKL B x):=by
   show(if (mM (x.den:Int) && kL x.num (B.fdiv x.den))=true then Res.ok _ else .no)=_
   rw[e1,e2];rfl
  rw[Qq,pE,k1];show((pE B (r.map dq)).bind fun ks=>Res.ok (zKL B x::ks))=_
  rw[zFV hB fun y hy=>h y (Qc _ hy)];rfl
def zB{l:List Rat}(h:∀ x∈l,(x.den:Int)<=10^6/\Sz 500 x)(hl:l.length<=12):kD [.lst (l.map dq)]=.ok (l.map (zKL (tY l))):=by
 obtain⟨s',e,hb⟩:=zCb (a:=.val (.lst (l.map dq))) l 1 .un 1 (fun x hx=>(h x hx).1) ∅ ⋯
 rw[Int.one_mul] at e hb;have r1:zDs (start 3 [.lst (l.map dq)])=.ok (.nx [.val (.lst (l.map dq)),.val (.int 1),.un]):=rfl
 have r2:wB [.val (.lst (l.map dq)),.val (.int 1),.un]=.ok (.nx [.val (.lst (l.map dq)),.val (.int (tY l)),s']):=by
  symm;exact e
 unfold kD zBG;rw[Jk (show [D.lst (l.map dq)].length=1 from rfl),r1];show(match wB [.val (.lst (l.map dq)),.val (.int 1),.un] with | .ok (.nx r')=>zGa r' | _=>.no)=_
 rw[r2];show(if (l.map dq).length<64 then pE (tY l) (l.map dq) else .no)=_
 rw[Jk (by rw[Qe];omega)];exact zFV (Qu hb (Vs ∅ ⋯)) h
def lvs(ws cs:List Int):List Rat:=(cs.zip ws).map fun p=>Rat.divInt p.1 p.2
def zBz{ws cs:List Int}(h:ws.length=cs.length):(lvs ws cs).length=cs.length:=by unfold lvs;rw[Qe,Wx,h,Yv]
def zJw{ws cs:List Int}{i:Nat}(h:ws.length=cs.length)(hi:i<cs.length):(lvs ws cs)[i]?=some (cR cs i / cR ws i):=by
 unfold lvs;rw[Qt]
 have:(cs.zip ws)[i]?=some (cs.getD i 0,ws.getD i 0):=by
  rw[Qaq];exact⟨bL hi,bL ⋯⟩
 rw[this];show some (Rat.divInt _ _)=_
 rw[Y2];rfl
def zFe{t b:Int}(hb:0<b):((Rat.divInt t b).den:Int)<=b:=by
 have e:=zP (t:=t) (b:=b) ⋯
 have d0:0<=dv t b:=by unfold dv;rw[Jl ⋯];exact Vw _
 rw[<-e,zNR _ d0];exact Int.ediv_le_self _ ⋯
def zMN{ws cs:List Int}(hW:Wt ws cs)(hc:∀ c∈cs,0<=c/\c<10^30):∀ x∈lvs ws cs,(x.den:Int)<=10^6/\Sz 500 x:=fun x hx=>by
 obtain⟨p,hp,rfl⟩:=Ql.mp hx;obtain⟨h1,h2⟩:=Yq hp;have c:=hc _ h1;have w1:=hW.lo _ h2;have w2:=hW.up _ h2;have d:=zFe (t:=p.1) (b:=p.2) ⋯
 exact⟨⋯,Sz.of ⋯ ⋯ ⋯⟩
def wI{ws cs:List Int}{wd cd:D}(sw:Sq wd ws)(sc:Sq cd cs)(hW:Wt ws cs)(hl:cs.length<=12):eA [wd,cd]=.ok (.f ((lvs ws cs).map dq)):=by
 have hw:=hW.len;unfold eA;erw[pQ sc.seqo sw.seqo];symm
 rw[mY (u:=D.int) (v:=D.int) (g:=fun c w=>dq (Rat.divInt c w)) ⋯ (fun p hp=>by
  have h2:=(Yq hp).2;have w1:=hW.lo _ h2;have w2:=hW.up _ h2;erw[zCy (n:=20) ⋯ ⋯ ∅]
  symm)]
 symm;unfold lvs;rw[Qx];rfl
def zBL(ws:List Int):∀ n,n<=ws.length->wS ws (List.range n)=(ws.take n).sum
 | 0,_=>rfl
 | n+1,h=>by
  have e:wS ws (List.range n++[n])=wS ws (List.range n)+ws.getD n 0:=by unfold wS;rw[Q8,Xm];simp
  rw[Wr,e,zBL ws n ⋯,Ys,Xm,bL (show n<ws.length by omega)];simp
def zBi{ws:List Int}{π:List Nat}(h:π.Perm (List.range ws.length)):wS ws π=ws.sum:=by
 have e:=nH ws π;rw[uK h,nH,zBL ws _ (Qf _),Vu] at e;have:=Rat.intCast_inj.mp e
 omega
def zMl{a b:Sv}{ρ ρ':Rho}(h:a ρ=.ok (.nx ρ')):aY a b ρ=b ρ':=by unfold aY;rw[h];rfl
def evs(ws cs:List Int)(t:Rat):List Rat:=(List.range cs.length).map (dN (cR cs) (cR ws) t)
def tK{ws cs:List Int}{wd cd:D}(sw:Sq wd ws)(sc:Sq cd cs){q:Rat}{m:Nat}(hmm:m<=3000)(hW:Wt ws cs)(hc:Cl cs)(hq:Sz m q)(h0:0<=q)(h1:q<=(cs.sum:Rat)):∃ t,0<=t/\cY [wd,cd,dq q]=.ok (.f ((evs ws cs t).map dq))/\(evs ws cs t).sum=q/\∀ i,i<cs.length->Sz (m+155) (dN (cR cs) (cR ws) t i):=by
 have hcc:∀ c∈cs,0<=c/\c<10^30:=fun c h=>⟨hc.nn c h,hc.up c h⟩
 have hi:=hc.hi;have hw:=hW.len;have hkr:=zB (zMN hW hcc) (by rw[zBz hw];exact hi)
 generalize hkz:(lvs ws cs).map (zKL (tY (lvs ws cs)))=kz at hkr;have lz:kz.length=cs.length:=by rw[<-hkz,Qe,zBz hw]
 have pw:∀ j,j<cs.length->0<cR ws j:=fun j hj=>by
  have:=(hW.at hj).1
  unfold cR;exact_mod_cast (show 0<ws.getD j 0 by omega)
 have one:∀ π,gG kz π->∃ t,0<=t/\iZ (dN (cR cs) (cR ws) t) (List.range cs.length)=q/\(∀ i,i<cs.length->Sz (m+155) (dN (cR cs) (cR ws) t i))/\aY (fun ρ=>gE (gName 6) bU (kQ π) ρ) kT [.val wd,.val cd,.val (dq q),.val (dq q),.val (.int ws.sum),.own (List.replicate cs.length (dq 0)),.un,.un]=.ok (.ret (.f ((evs ws cs t).map dq))):=by
  intro π hπ;obtain⟨hp,ho,_⟩:=hπ;rw[lz] at hp;have hm:∀ i∈π,i<cs.length:=fun i h=>Qn.mp (hp.mem_iff.mp h)
  have hl:π.length=cs.length:=by rw[hp.length_eq,Q3]
  have B0:=zBA (lvs ws cs);have B0':(0:Rat)<(tY (lvs ws cs):Rat):=by exact_mod_cast B0
  have kat:∀ i,i<cs.length->((kz.getD i 0:Int):Rat)=cR cs i / cR ws i*(tY (lvs ws cs):Rat):=fun i h=>by
   have e:=zJw hw h;have e2:kz.getD i 0=zKL (tY (lvs ws cs)) (cR cs i / cR ws i):=by rw[<-hkz,Qv,Qt,e];rfl
   rw[e2];exact zMr (Qi e)
  have ord:π.Pairwise (fun i j=>cR cs i*cR ws j<=cR cs j*cR ws i):=by
   refine X5 (fun {i j} h1 h2 h3=>?_) ho
   have h4:((kz.getD i 0:Int):Rat)<=((kz.getD j 0:Int):Rat):=X7.mpr h3;rw[kat i (hm i h1),kat j (hm j h2)] at h4;have h5:=Yk h4 B0';have wi:=pw i (hm i h1);have wj:=pw j (hm j h2);have h6:=Vv h5 (Qg (Rat.mul_pos wi wj));have e1:cR cs i / cR ws i*(cR ws i*cR ws j)=cR cs i*cR ws j:=by grind
   have e2:cR cs j / cR ws j*(cR ws i*cR ws j)=cR cs j*cR ws i:=by grind
   rwa [e1,e2] at h6
  have hW':wS ws π=ws.sum:=zBi (by rw[hw];exact hp)
  have hC':iZ (cR cs) π=(cs.sum:Rat):=by rw[nH,zBi hp]
  have z0:q-((0:Int):Rat)=q:=by rw[show((0:Int):Rat)=0 from rfl];grind
  obtain⟨t,t1,t2,tz,l',W',s',t',e⟩:=zBS sw sc (qv:=.val (dq q)) hmm hW hcc hq π 0 0 (List.replicate cs.length (dq 0)) .un .un hm ord ⋯ (by rw[Yd]) ∅ (by rw[hl];omega) (by rw[z0];exact h0) (by rw[z0,hC'];exact h1) (by rw[z0];grind)
  rw[z0,hW'] at e;rw[z0] at t2;refine⟨t,t1,by rw[<-uK hp];exact t2,fun i h=>tz i (hp.mem_iff.mpr (Qn.mpr h)),?_⟩
  refine(zMl (a:=fun ρ=>gE (gName 6) bU (kQ π) ρ) e).trans ?_
  rw[zGV hp];rfl
 obtain⟨π0,hπ0⟩:=zDI kz;obtain⟨t,t1,t2,tz,e0⟩:=one π0 hπ0;have pw':∀ i∈List.range cs.length,0<cR ws i:=fun i h=>pw i (Qn.mp h)
 refine⟨t,t1,?_,t2,tz⟩
 unfold cY;erw[sw.sum,sc.len,zEZ ⋯];symm
 have hfs:Res.bind ((aB (eF (cQ eA (aB (aE 0) (aB (aE 1) aNil)))) aNil) [.val wd,.val cd,.val (dq q),.val (dq q),.val (.int ws.sum),.own (List.replicate cs.length (dq 0)),.un,.un]) kD=.ok kz:=by
  erw[wI sw sc hW hi];symm;exact hkr
 have hall:∀ π,gG kz π->aY (fun ρ=>gE (gName 6) bU (kQ π) ρ) kT [.val wd,.val cd,.val (dq q),.val (dq q),.val (.int ws.sum),.own (List.replicate cs.length (dq 0)),.un,.un]=.ok (.ret (.f ((evs ws cs t).map dq))):=fun π hπ=>by
  obtain⟨u,_,u2,_,eu⟩:=one π hπ;rw[eu];unfold evs;rw[V0 (zAy pw' (u2.trans t2.symm))]
 unfold oQ;rw[zKf hfs hall];rfl
def ones(cs:List Int):List Int:=List.replicate cs.length 1
def fH(cs:List Int):Wt (ones cs) cs:=⟨Yd,fun w h=>by rw[(List.mem_replicate.mp h).2];decide,fun w h=>by rw[(List.mem_replicate.mp h).2];decide⟩
def hf:Rat:=Rat.divInt 1 2
def jG:hf=1 / 2:=by unfold hf;rw[Y2];rfl
def zQx:d_HALF=dq hf:=zRL (b:=2) ∅
def zJu:Sz 2 hf:=Sz.of ∅ ∅ ∅
def dbl(q:Rat):q+q=q*((2:Int):Rat):=by rw[show((2:Int):Rat)=2 from rfl];grind
def zIk{q:Rat}{n:Nat}(h:Sz n q):Sz (n+2) (q+q):=by rw[dbl];exact h.mul (cS ∅ ∅)
def hvs(cs:List Int)(t:Rat):List Rat:=(List.range cs.length).map fun i=>dN (cR cs) (cR (ones cs)) t i*hf
structure Lvl (M:Nat) (ws cs:List Int) (q t:Rat):Prop where
 nn:0<=t
 sum:(evs ws cs t).sum=q
 sz:∀ i,i<cs.length->Sz M (dN (cR cs) (cR ws) t i)
def zDd{cs:List Int}{cd:D}(sc:Sq cd cs){q:Rat}{m:Nat}(hm:m<=2990)(hc:Cl cs)(hq:Sz m q)(h0:0<=q)(h1:q+q<=(cs.sum:Rat)):∃ t,Lvl (m+157) (ones cs) cs (q+q) t/\fM [cd,dq q]=.ok (.f ((hvs cs t).map dq)):=by
 have hi:=hc.hi;obtain⟨t,t1,e,t2,tz⟩:=tK (wd:=.lst ((ones cs).map D.int)) (.inl rfl) sc (m:=m+2) ⋯ (fH cs) hc (zIk hq) (by grind) h1
 refine⟨t,⟨t1,t2,fun i h=>(tz i h).mono ⋯⟩,?_⟩
 have eo:(ones cs).map D.int=List.replicate cs.length (.int 1):=by unfold ones;rw[List.map_replicate]
 rw[eo] at e;have hh:=zQx;unfold d_HALF at hh;unfold fM;erw[sc.len,zEZ ⋯,yU hq hq ⋯,e,show(evs (ones cs) cs t).map dq=(List.range cs.length).map (fun i=>dq (dN (cR cs) (cR (ones cs)) t i)) by unfold evs;rw[Qx];rfl]
 rw[dQ (u:=fun i=>dq (dN (cR cs) (cR (ones cs)) t i)) (g:=fun i=>dq (dN (cR cs) (cR (ones cs)) t i*hf)) (by rw[Q3];omega) (fun i h=>by
  have hil:=Qn.mp h;symm;rw[hh,nJ (tz i hil) zJu ⋯]
  symm)]
 symm;unfold hvs;rw[Qx];rfl
def Lvl.mono{M M':Nat}{ws cs:List Int}{q t:Rat}(h:Lvl M ws cs q t)(l:M<=M'):Lvl M' ws cs q t:=⟨h.nn,h.sum,fun i hi=>(h.sz i hi).mono l⟩
def uS{w v:Str}(h:aT.lookup w=some v):eG [.str w]=.ok (.v .non):=by
 unfold eG;erw[h];rfl
def xE{cs:List Int}{cd:D}(sc:Sq cd cs)(hc:Cl cs):dZ [cd]=.ok (.v .non):=by
 have lo:=hc.lo;unfold dZ;erw[sc.len,Jj ⋯,sc.seq];symm;refine zJp (Q:=fun r=>r=(.ok (.v .non):Res Rt)) (fun ρ=>∃ a,ρ=[.val cd,a]) ⟨_,rfl⟩ ?_ ?_
 ·rintro e ρ he ⟨a,rfl⟩
  obtain⟨c,h,rfl⟩:=Ql.mp he;have:=hc.nn c h
  refine⟨_,?_,.val (.int c),rfl⟩
  erw[Jj ⋯];symm
 ·rintro ρ ⟨a,rfl⟩
  rfl
def mF{q:Rat}{W:Int}{m:Nat}(hm:m<=3000)(h:Haul m q W)(hW:W.natAbs<2^110):bB [dq q,dq (W:Rat)]=.ok (.v .non):=by
 have z0:Sz 1 (0:Rat):=⟨∅,∅⟩
 have zW:Sz 110 (W:Rat):=cS hW ∅
 have n1:¬ q<0:=V3.mpr h.nn;have n2:¬ (W:Rat)<q:=V3.mpr h.up
 have io:eE [dq q,dq (W:Rat)]=.ok (.v (.bl false)):=by
  unfold eE;symm;rw[kB h.sz z0 ⋯,Jj n1];symm;rw[kB zW h.sz ⋯,Jj n2];symm
 unfold bB;erw[io];symm
def mQ{r s:Type}(l:List r)(f:Nat->s)(d:r):l.zip ((List.range l.length).map f)=(List.range l.length).map fun i=>(l.getD i d,f i):=by
 refine Yy fun i=>?_
 rw[Qt];by_cases h:i<l.length
 ·rw[V8 h]
  refine Qaq.mpr ⟨?_,by rw[Qt,V8 h];rfl⟩
  show l[i]?=some (l.getD i d)
  rw[Qv,Qm h];rfl
 ·rw[Q5 (by rw[Wx];omega),Q5 (by rw[Q3];omega)];rfl
def jY{w:Str}{d:D}{n:Int}(hd:d=.lst []∨d=.tup [])(hw:oIn (.str w) d_WEIGHTED=.ok (.bl false)):bO [.str w,d,.int n]=.ok (.v .non):=by
 have sq:zNd d=.ok []:=by rcases hd with rfl | rfl<;>rfl
 have ln:nD [d]=.ok (.int 0):=by rcases hd with rfl | rfl<;>rfl
 unfold d_WEIGHTED at hw;unfold bO;erw[hw,ln,sq];rfl
def zTQ:sI 10 6=true:=∅
def qV{w:Str}{ws cs:List Int}{wd:D}(sw:Sq wd ws)(hW:Wt ws cs)(hw:oIn (.str w) d_WEIGHTED=.ok (.bl true)):bO [.str w,wd,.int cs.length]=.ok (.v .non):=by
 have hl:=hW.len;unfold d_WEIGHTED at hw;unfold bO;erw[hw,sw.len];symm;rw[hl,J5 rfl];erw[sw.seq];symm;refine zJp (Q:=fun r=>r=(.ok (.v .non):Res Rt)) (fun ρ=>∃ a,ρ=[.val (.str w),.val wd,.val (.int cs.length),.val (.int cs.length),a]) ⟨_,rfl⟩ ?_ ?_
 ·rintro e ρ he ⟨a,rfl⟩
  obtain⟨c,h,rfl⟩:=Ql.mp he;have h1:=hW.lo c h;have h2:=hW.up c h;refine⟨_,?_,.val (.int c),rfl⟩
  erw[Jj ⋯,oPow_i zTQ,Jj ⋯];symm
 ·rintro ρ ⟨a,rfl⟩
  rfl
def zTj:(Str.ofString "even" == Str.ofString "row")=false:=∅
def zTB:(Str.ofString "lack" == Str.ofString "row")=false:=∅
def zTz:(Str.ofString "lack" == Str.ofString "even")=false:=∅
def zTu:(Str.ofString "lack" == Str.ofString "part")=false:=∅
def zTx:(Str.ofString "lack" == Str.ofString "half")=false:=∅
def zFy:(aT.lookup (Str.ofString "even"))=some (Str.ofString "lack"):=∅
def zAW:(aT.lookup (Str.ofString "lack"))=some (Str.ofString "even"):=∅
def zMO{n:Nat}{ws cs:List Int}{wd cd:D}(sw:Sq wd ws)(sc:Sq cd cs){q:Rat}{m:Nat}(hm:m<=3000)(hW:Wt ws cs)(hc:Cl cs)(hq:Sz m q)(h0:0<=q)(h1:q<=(cs.sum:Rat)):∃ t,Lvl (m+155) ws cs q t/\aN (n+1) [.str (Str.ofString "even"),wd,cd,dq q]=.ok (.f ((evs ws cs t).map dq)):=by
 obtain⟨t,t1,e,t2,tz⟩:=tK sw sc hm hW hc hq h0 h1;refine⟨t,⟨t1,t2,tz⟩,?_⟩
 show aR (aN n) _=_
 unfold aR;erw[sc.sum,bP,zTj,e];symm
def lks(ws cs:List Int)(t:Rat):List Rat:=(cs.zip (evs ws cs t)).map fun p=>(p.1:Rat)-p.2
def zQu(ws cs:List Int)(t:Rat):lks ws cs t=(List.range cs.length).map fun i=>cR cs i-dN (cR cs) (cR ws) t i:=by
 unfold lks evs;rw[mQ cs _ 0,Qx];rfl
def zPV{n:Nat}{ws cs:List Int}{wd cd:D}(sw:Sq wd ws)(sc:Sq cd cs){q:Rat}{m:Nat}(hm:m<=2890)(hW:Wt ws cs)(hc:Cl cs)(hq:Haul m q cs.sum):∃ t,Lvl (m+261) ws cs ((cs.sum:Rat)-q) t/\aN (n+2) [.str (Str.ofString "lack"),wd,cd,dq q]=.ok (.f ((lks ws cs t).map dq)):=by
 have sm:=hc.sum;have hi:=hc.hi;have zW:Sz 105 (cs.sum:Rat):=cS ⋯ ∅
 have zT:Sz (m+106) ((cs.sum:Rat)-q):=(zW.sub hq.sz).mono ⋯
 have u:=hq.up;have u':=hq.nn;obtain⟨t,tl,e⟩:=zMO sw sc (n:=n) (m:=m+106) ⋯ hW hc zT (by grind) (by grind)
 refine⟨t,tl,?_⟩
 show aR (aN (n+1)) _=_
 unfold aR;erw[sc.sum,bP,zTB,zTz,zTu,zTx,show wX aT (.str (Str.ofString "lack"))=.ok (.str (Str.ofString "even")) by show zPA (aT.lookup (Str.ofString "lack"))=_;rw[zAW];rfl,eT zW hq.sz ⋯,e,pQ sc.seqo rfl];symm
 rw[mY (u:=D.int) (v:=dq) (g:=fun c l=>dq ((c:Rat)-l)) ⋯ (fun p hp=>by
  have hp':=hp;unfold evs at hp';rw[mQ cs _ 0] at hp';obtain⟨i,hir,rfl⟩:=Ql.mp hp';have hil:=Qn.mp hir;have c1:=hc.nn _ (Qi (bL hil));have c2:=hc.up _ (Qi (bL hil));erw[bP,eT (m:=100) (n:=m+261) (cS ⋯ ∅) (tl.sz i hil) ⋯]
  symm)]
 symm;unfold lks;rw[Qx];rfl
def zSL:(Str.ofString "half" == Str.ofString "row")=false:=∅
def zSQ:(Str.ofString "half" == Str.ofString "even")=false:=∅
def zSW:(Str.ofString "half" == Str.ofString "part")=false:=∅
def zBo:(aT.lookup (Str.ofString "half"))=some (Str.ofString "half"):=∅
def zKj{n:Nat}{e:D}{cs:List Int}{cd:D}(sc:Sq cd cs){q:Rat}{m:Nat}(hm:m<=2990)(hc:Cl cs)(hq:Sz m q)(h0:0<=q)(h1:q+q<=(cs.sum:Rat)):∃ t,Lvl (m+157) (ones cs) cs (q+q) t/\aN (n+1) [.str (Str.ofString "half"),e,cd,dq q]=.ok (.f ((hvs cs t).map dq)):=by
 have sm:=hc.sum;have zW:Sz 105 (cs.sum:Rat):=cS ⋯ ∅
 obtain⟨t,tl,ee⟩:=zDd sc hm hc hq h0 h1;refine⟨t,tl,?_⟩
 show aR (aN n) _=_
 unfold aR;erw[sc.sum,bP,zSL,zSQ,zSW,yU hq hq ⋯];symm;rw[kB zW (zIk hq) ⋯,Jj (V3.mpr h1)];erw[ee];symm
def lhs(cs:List Int)(t:Rat):List Rat:=(List.range cs.length).map fun i=>cR cs i-dN (cR cs) (cR (ones cs)) t i*hf
def zOI{n:Nat}{e:D}{cs:List Int}{cd:D}(sc:Sq cd cs){q:Rat}{m:Nat}(hm:m<=2880)(hc:Cl cs)(hq:Haul m q cs.sum)(h1:(cs.sum:Rat)<q+q):∃ t,Lvl (m+263) (ones cs) cs (((cs.sum:Rat)-q)+((cs.sum:Rat)-q)) t/\aN (n+2) [.str (Str.ofString "half"),e,cd,dq q]=.ok (.f ((lhs cs t).map dq)):=by
 have sm:=hc.sum;have hi:=hc.hi;have zW:Sz 105 (cs.sum:Rat):=cS ⋯ ∅
 have zT:Sz (m+106) ((cs.sum:Rat)-q):=(zW.sub hq.sz).mono ⋯
 have u:=hq.up;obtain⟨t,tl,ee⟩:=zKj sc (n:=n) (e:=e) (m:=m+106) ⋯ hc zT (by grind) (by grind)
 refine⟨t,tl,?_⟩
 show aR (aN (n+1)) _=_
 unfold aR;erw[sc.sum,bP,zSL,zSQ,zSW,yU hq.sz hq.sz ⋯];symm;rw[kB zW (zIk hq.sz) ⋯,J5 h1];erw[show wX aT (.str (Str.ofString "half"))=.ok (.str (Str.ofString "half")) by show zPA (aT.lookup (Str.ofString "half"))=_;rw[zBo];rfl,eT zW hq.sz ⋯,ee,pQ sc.seqo rfl];symm
 rw[mY (u:=D.int) (v:=dq) (g:=fun c l=>dq ((c:Rat)-l)) ⋯ (fun p hp=>by
  have hp':=hp;unfold hvs at hp';rw[mQ cs _ 0] at hp';obtain⟨i,hir,rfl⟩:=Ql.mp hp';have hil:=Qn.mp hir;have c1:=hc.nn _ (Qi (bL hil));have c2:=hc.up _ (Qi (bL hil));erw[bP,eT (m:=100) (n:=m+263+2) (cS ⋯ ∅) ((tl.sz i hil).mul zJu) ⋯]
  symm)]
 symm;unfold hvs lhs;rw[mQ cs _ 0,Qx,Qx];rfl
def zTl:(Str.ofString "back" == Str.ofString "row")=false:=∅
def zTs:(Str.ofString "back" == Str.ofString "even")=false:=∅
def zTE:(Str.ofString "back" == Str.ofString "part")=false:=∅
def zTm:(Str.ofString "back" == Str.ofString "half")=false:=∅
def zTt:(Str.ofString "part" == Str.ofString "row")=false:=∅
def zTo:(Str.ofString "part" == Str.ofString "even")=false:=∅
def zHD:(aT.lookup (Str.ofString "row"))=some (Str.ofString "back"):=∅
def zAl:(aT.lookup (Str.ofString "back"))=some (Str.ofString "row"):=∅
def zGm:(aT.lookup (Str.ofString "part"))=some (Str.ofString "part"):=∅
def zQh{n:Nat}{d e:D}{cs:List Int}{q:Rat}(hd:d=.lst (cs.map D.int)∨d=.tup (cs.map D.int)){m:Nat}(hm:m<=3000)(hc:Cl cs)(hq:Sz m q)(h0:0<=q):aN (n+1) [.str (Str.ofString "row"),e,d,dq q]=.ok (.f ((jK cs 0 q).map dq)):=by
 have su:zCU [d]=.ok (.int cs.sum):=by rcases hd with rfl | rfl;exact bSum_l;exact bSum_t
 show aR (aN n) _=_
 unfold aR;erw[su,bP,zDG hd hm hc hq h0];symm
def zQy{n:Nat}{d e:D}{cs:List Int}{q:Rat}(hd:d=.lst (cs.map D.int)∨d=.tup (cs.map D.int)){m:Nat}(hm:m<=3000)(hc:Cl cs)(hq:Sz m q):aN (n+1) [.str (Str.ofString "part"),e,d,dq q]=.ok (.f ((zBl cs q).map dq)):=by
 have su:zCU [d]=.ok (.int cs.sum):=by rcases hd with rfl | rfl;exact bSum_l;exact bSum_t
 show aR (aN n) _=_
 unfold aR;erw[su,bP,zTt,zTo,zDr hd hm hc hq];symm
def zNm(f g:Nat->Rat):∀ n:Nat,((List.range n).map fun i=>f i-g i).sum=((List.range n).map f).sum-((List.range n).map g).sum
 | 0=>by simp only[List.range_zero,Xh,Xe];grind
 | n+1=>by
  rw[Wr,Q8,Q8,Q8,Xm,Xm,Xm,zNm f g n];simp only[Qq,Xh,Qr,Xe];grind
def sW(cs:List Int):((List.range cs.length).map (cR cs)).sum=(cs.sum:Rat):=by
 have e:=nH cs (List.range cs.length);rw[zBL cs _ (Qf _),Vu] at e;exact e
def pN{ws cs:List Int}{t:Rat}(hW:Wt ws cs)(hc:Cl cs)(h0:0<=t){i:Nat}(hi:i<cs.length):0<=dN (cR cs) (cR ws) t i/\dN (cR cs) (cR ws) t i<=cR cs i:=by
 have w:=(hW.at hi).1;have c:=hc.nn _ (Qi (bL hi));have w':(0:Rat)<=cR ws i:=by unfold cR;exact_mod_cast (show 0<=ws.getD i 0 by omega)
 have c':(0:Rat)<=cR cs i:=by unfold cR;exact_mod_cast c
 have:=Ux w' h0
 unfold dN mn;grind
def zNo(x:Rat):(x.num:Rat)=x*((x.den:Int):Rat):=by
 have d0:=dB x
 have nd:((x.den:Int):Rat)≠0:=fun z=>by
  have:(x.den:Int)=0:=by exact_mod_cast z
  omega
 have h1:=Xi x;rw[Y2] at h1;rw[<-Xd (a:=(x.num:Rat)) nd,h1]
def zJL{l:List Rat}{n:Nat}(h:l.length=n):l=(List.range n).map fun i=>l.getD i 0:=by
 refine Yy fun i=>?_
 rw[Qt];by_cases hi:i<n
 ·rw[V8 hi,Qm ⋯]
  show _=some (l.getD i 0)
  rw[Qv,Qm ⋯];rfl
 ·rw[Q5 ⋯,Q5 (by rw[Q3];omega)];rfl
def zFG(cs:List Int)(q:Rat)(i:Nat):Rat:=(jK cs 0 q).getD i 0
def zJj:∀(cs:List Int)(a:Int)(q:Rat)(i:Nat),(∀ c∈cs,0<=c)->i<cs.length->0<=(jK cs a q).getD i 0/\(jK cs a q).getD i 0<=cR cs i
 | c::r,a,q,0,h,_=>by
  have c0:(0:Rat)<=(c:Rat):=by exact_mod_cast h c Qb
  show 0<=mn (ps0 (q-(a:Rat))) (c:Rat)/\mn (ps0 (q-(a:Rat))) (c:Rat)<=(c:Rat)
  unfold mn ps0;grind
 | c::r,a,q,i+1,h,hi=>zJj r (a+c) q i (fun x hx=>h x (Qc _ hx)) (by rw[Qk] at hi;omega)
def vX:∀(cs:List Int)(a:Int){q q':Rat}(i:Nat),q<=q'->(jK cs a q).getD i 0<=(jK cs a q').getD i 0
 | [],_,_,_,_,_=>Qh
 | c::r,a,q,q',0,h=>by
  show mn (ps0 (q-(a:Rat))) (c:Rat)<=mn (ps0 (q' - (a:Rat))) (c:Rat)
  unfold mn ps0;grind
 | c::r,a,q,q',i+1,h=>vX r (a+c) i h
def zGh:∀(cs:List Int)(a:Int)(q:Rat),(∀ c∈cs,0<=c)->0<=cs.sum/\(jK cs a q).sum=mn (ps0 (q-(a:Rat))) (cs.sum:Rat)
 | [],a,q,_=>⟨Yz _,by show(0:Rat)=mn (ps0 _) ((0:Int):Rat);rw[show((0:Int):Rat)=0 from rfl];unfold mn ps0;grind⟩
 | c::r,a,q,h=>by
  have c0:=h c Qb;obtain⟨s0,e⟩:=zGh r (a+c) q fun x hx=>h x (Qc _ hx)
  have c0':(0:Rat)<=(c:Rat):=by exact_mod_cast c0
  have s0':(0:Rat)<=(r.sum:Rat):=by exact_mod_cast s0
  rw[Qr];refine⟨⋯,?_⟩
  rw[jK,Qr,e,Vo,Vo];unfold mn ps0;grind
def zKC{q:Rat}{m:Nat}(hq:Sz m q):∀(cs:List Int)(a:Int),(∀ c∈cs,0<=c)->(∀ c∈cs,c<10^30)->0<=a->a+cs.length*10^30<2^110->∀ x∈jK cs a q,Sz (m+111) x
 | [],_,_,_,_,_,x,hx=>by cases hx
 | c::r,a,h1,h2,h3,h4,x,hx=>by
  have c0:=h1 c Qb;have c1:=h2 c Qb;rw[Qk] at h4;have e4:((r.length+1:Nat):Int)*10^30=(r.length:Int)*10^30+10^30:=by rw[Y0,Y1];rfl
  have r0:0<=(r.length:Int)*10^30:=W3 ⋯ ∅
  rw[jK] at hx;rcases Qd.mp hx with rfl | hx
  ·exact zOT (zQp (hq.sub (cS (n:=110) ⋯ ∅)) ⋯) (Sz.mono (m:=100) (cS ⋯ ∅) ⋯)
  ·exact zKC hq r (a+c) (fun x hx=>h1 x (Qc _ hx)) (fun x hx=>h2 x (Qc _ hx)) ⋯ ⋯ x hx
def zEf{cs:List Int}{q:Rat}{m:Nat}(hc:Cl cs)(hq:Sz m q)(h0:0<=q)(h1:q<=(cs.sum:Rat)):(jK cs 0 q=(List.range cs.length).map (zFG cs q))/\(jK cs 0 q).sum=q/\∀ x∈jK cs 0 q,Sz (m+111) x:=by
 have hi:=hc.hi;refine⟨zJL (zCe _ _ _),?_,zKC hq cs 0 hc.nn hc.up ∅ ⋯⟩
 rw[(zGh cs 0 q hc.nn).2,show((0:Int):Rat)=0 from rfl];unfold mn ps0;grind
def zQf{n:Nat}{e:D}{cs:List Int}{cd:D}(sc:Sq cd cs){q:Rat}{m:Nat}(hm:m<=2890)(hc:Cl cs)(hq:Haul m q cs.sum):aN (n+2) [.str (Str.ofString "back"),e,cd,dq q]=.ok (.f (((List.range cs.length).map fun i=>cR cs i-zFG cs ((cs.sum:Rat)-q) i).map dq)):=by
 have sm:=hc.sum;have hi:=hc.hi;have zW:Sz 105 (cs.sum:Rat):=cS ⋯ ∅
 have zT:Sz (m+106) ((cs.sum:Rat)-q):=(zW.sub hq.sz).mono ⋯
 have u:=hq.up;have u':=hq.nn;obtain⟨r1,r2,r3⟩:=zEf hc zT (by grind) (by grind)
 have ee:=zQh (n:=n) (e:=e) sc (m:=m+106) ⋯ hc zT (by grind)
 show aR (aN (n+1)) _=_
 unfold aR;erw[sc.sum,bP,zTl,zTs,zTE,zTm,show wX aT (.str (Str.ofString "back"))=.ok (.str (Str.ofString "row")) by show zPA (aT.lookup (Str.ofString "back"))=_;rw[zAl];rfl,eT zW hq.sz ⋯,ee,pQ sc.seqo rfl];symm
 rw[mY (u:=D.int) (v:=dq) (g:=fun c l=>dq ((c:Rat)-l)) ⋯ (fun p hp=>by
  obtain⟨p1,p2⟩:=Yq hp;have c1:=hc.nn _ p1;have c2:=hc.up _ p1;erw[bP,eT (m:=100) (n:=m+106+111) (cS ⋯ ∅) (r3 _ p2) ⋯]
  symm)]
 symm;rw[r1,mQ cs _ 0,Qx,Qx];rfl
def kN(cs:List Int)(q:Rat)(i:Nat):Rat:=(zBl cs q).getD i 0
def zFD{cs:List Int}{q:Rat}{i:Nat}(hi:i<cs.length):kN cs q i=Rat.divInt (cs.getD i 0*q.num) (max 1 cs.sum*q.den):=by
 unfold kN zBl;rw[Qv,Qt,bL hi];rfl
def jH{cs:List Int}{q:Rat}(hc:Cl cs){i:Nat}(hi:i<cs.length):kN cs q i*(cs.sum:Rat)=q*cR cs i/\(cs.sum=0->kN cs q i=0):=by
 have sm:=hc.sum;have e:=zFD (q:=q) hi;by_cases z:cs.sum=0
 ·have c0:=qQ hc.nn z _ (Qi (bL hi))
  have p0:kN cs q i=0:=by rw[e,c0,Int.zero_mul,Rat.zero_divInt]
  refine⟨?_,fun _=>p0⟩
  rw[p0];unfold cR;rw[c0,show((0:Int):Rat)=0 from rfl];grind
 ·have W0:0<cs.sum:=⋯
  have nW:(cs.sum:Rat)≠0:=fun y=>by
   have:cs.sum=0:=by exact_mod_cast y
   omega
  refine⟨?_,fun y=>absurd y z⟩
  rw[e,Int.max_eq_right ⋯,<-zIq W0];show q / (cs.sum:Rat)*cR cs i*(cs.sum:Rat)=_
  grind
def zJM{cs:List Int}{q:Rat}{m:Nat}(hc:Cl cs)(hq:Sz m q){i:Nat}(hi:i<cs.length):Sz (m+370) (kN cs q i):=by
 have sm:=hc.sum;have c1:=hc.nn _ (Qi (bL hi));have c2:=hc.up _ (Qi (bL hi));rw[zFD hi];have d0:=dB q;have p:=Xl (show 0<max 1 cs.sum by omega) d0
 exact Sz.of ⋯ (Qu (eX (m:=100) (n:=m) ⋯ hq.1) (Vs ∅ ⋯)) (Qu (eX (m:=110) (n:=m) ⋯ hq.d) (Vs ∅ ⋯))
inductive Wy where
 | row | back | even | lack | part | half
def Wy.s:Wy->Str
 | .row=>Str.ofString "row"
 | .back=>Str.ofString "back"
 | .even=>Str.ofString "even"
 | .lack=>Str.ofString "lack"
 | .part=>Str.ofString "part"
 | .half=>Str.ofString "half"
def Wy.due(w:Wy)(ws cs:List Int):Prop:=match w with
 | .even=>Wt ws cs
 | .lack=>Wt ws cs
 | _=>ws=[]
def Al(M:Nat)(ws cs:List Int)(q:Rat)(f:Nat->Rat):Wy->Prop
 | .row=>∀ i,i<cs.length->f i=zFG cs q i
 | .back=>∀ i,i<cs.length->f i=cR cs i-zFG cs ((cs.sum:Rat)-q) i
 | .even=>∃ t,Lvl M ws cs q t/\∀ i,i<cs.length->f i=dN (cR cs) (cR ws) t i
 | .lack=>∃ t,Lvl M ws cs ((cs.sum:Rat)-q) t/\∀ i,i<cs.length->f i=cR cs i-dN (cR cs) (cR ws) t i
 | .part=>∀ i,i<cs.length->f i=kN cs q i
 | .half=>∃ t,(q+q<=(cs.sum:Rat)/\Lvl M (ones cs) cs (q+q) t/\∀ i,i<cs.length->f i=dN (cR cs) (cR (ones cs)) t i*hf)∨((cs.sum:Rat)<q+q/\Lvl M (ones cs) cs (((cs.sum:Rat)-q)+((cs.sum:Rat)-q)) t/\∀ i,i<cs.length->f i=cR cs i-dN (cR cs) (cR (ones cs)) t i*hf)
def zBT{w:Wy}{ws cs:List Int}{wd cd:D}(sw:Sq wd ws)(sc:Sq cd cs){q:Rat}{m:Nat}(hm:m<=2880)(hw:w.due ws cs)(hc:Cl cs)(hq:Haul m q cs.sum):∃ f,aN 2 [.str w.s,wd,cd,dq q]=.ok (.f (((List.range cs.length).map f).map dq))/\Al (m+263) ws cs q f w:=by
 have z:=hq.sz
 cases w with
 | row=>exact⟨zFG cs q,by rw[<-(zEf hc z hq.nn hq.up).1];exact zQh sc ⋯ hc z hq.nn,fun i _=>rfl⟩
 | back=>exact⟨_,zQf sc ⋯ hc hq,fun i _=>rfl⟩
 | even=>
  obtain⟨t,tl,e⟩:=zMO sw sc (n:=1) ⋯ hw hc z hq.nn hq.up
  exact⟨_,e,t,tl.mono ⋯,fun i _=>rfl⟩
 | lack=>
  obtain⟨t,tl,e⟩:=zPV sw sc (n:=0) ⋯ hw hc hq
  rw[zQu] at e;exact⟨_,e,t,tl.mono ⋯,fun i _=>rfl⟩
 | part=>
  refine⟨kN cs q,?_,fun i _=>rfl⟩
  have e:zBl cs q=(List.range cs.length).map (kN cs q):=zJL (by unfold zBl;rw[Qe])
  rw[<-e];exact zQy sc ⋯ hc z
 | half=>
  by_cases h:(cs.sum:Rat)<q+q
  ·obtain⟨t,tl,e⟩:=zOI sc (n:=0) (e:=wd) ⋯ hc hq h
   exact⟨_,e,t,.inr ⟨h,tl,fun i _=>rfl⟩⟩
  ·obtain⟨t,tl,e⟩:=zKj sc (n:=1) (e:=wd) ⋯ hc z hq.nn (V3.mp h)
   exact⟨_,e,t,.inl ⟨V3.mp h,tl.mono ⋯,fun i _=>rfl⟩⟩
def zOo(w:Wy):∃ v,aT.lookup w.s=some v:=by
 cases w
 ·exact⟨_,zHD⟩
 ·exact⟨_,zAl⟩
 ·exact⟨_,zFy⟩
 ·exact⟨_,zAW⟩
 ·exact⟨_,zGm⟩
 ·exact⟨_,zBo⟩
def zFk{w:Wy}{ws cs:List Int}{wd cd:D}(sw:Sq wd ws)(sc:Sq cd cs)(hw:w.due ws cs)(hc:Cl cs):lZ [.str w.s,wd,cd]=.ok (.v .non):=by
 have rw':bO [.str w.s,wd,.int cs.length]=.ok (.v .non):=by
  cases w with
  | even=>exact qV sw hw rfl
  | lack=>exact qV sw hw rfl
  | row=>have e:ws=[]:=hw;rw[e] at sw;exact jY sw rfl
  | back=>have e:ws=[]:=hw;rw[e] at sw;exact jY sw rfl
  | part=>have e:ws=[]:=hw;rw[e] at sw;exact jY sw rfl
  | half=>have e:ws=[]:=hw;rw[e] at sw;exact jY sw rfl
 obtain⟨v,hv⟩:=zOo w;unfold lZ;erw[uS hv,xE sc hc,sc.len,rw'];symm
def zPo{w:Wy}{ws cs:List Int}{wd cd:D}(sw:Sq wd ws)(sc:Sq cd cs){q:Rat}{m:Nat}(hm:m<=2880)(hw:w.due ws cs)(hc:Cl cs)(hq:Haul m q cs.sum):∃ f,rM [.str w.s,wd,cd,dq q]=.ok (.f (((List.range cs.length).map f).map dq))/\Al (m+263) ws cs q f w:=by
 obtain⟨f,rd,al⟩:=zBT sw sc hm hw hc hq;have sm:=hc.sum;refine⟨f,?_,al⟩
 unfold rM;erw[zFk sw sc hw hc,sc.sum,bP,mF ⋯ hq ⋯,rd];symm
structure Dl (M:Nat) (cs:List Int) (q:Rat) (f:Nat->Rat):Prop where
 bd:∀ i,i<cs.length->0<=f i/\f i<=cR cs i/\Sz M (f i)
 sum:((List.range cs.length).map f).sum=q
def zDi{f g:Nat->Rat}{n:Nat}(h:∀ i,i<n->f i=g i):((List.range n).map f).sum=((List.range n).map g).sum:=by rw[V0 fun i hi=>h i (Qn.mp hi)]
def Dl.congr{M:Nat}{cs:List Int}{q:Rat}{f g:Nat->Rat}(d:Dl M cs q g)(h:∀ i,i<cs.length->f i=g i):Dl M cs q f:=⟨fun i hi=>by rw[h i hi];exact d.bd i hi,by rw[zDi h];exact d.sum⟩
def Dl.mono{M M':Nat}{cs:List Int}{q:Rat}{f:Nat->Rat}(d:Dl M cs q f)(h:M<=M'):Dl M' cs q f:=⟨fun i hi=>⟨(d.bd i hi).1,(d.bd i hi).2.1,(d.bd i hi).2.2.mono h⟩,d.sum⟩
def zHB{cs:List Int}(hc:Cl cs){i:Nat}(hi:i<cs.length):0<=cR cs i/\Sz 100 (cR cs i):=by
 have c1:=hc.nn _ (Qi (bL hi));have c2:=hc.up _ (Qi (bL hi));exact⟨by unfold cR;exact_mod_cast c1,cS ⋯ ∅⟩
def Dl.dual{M:Nat}{cs:List Int}{q q':Rat}{g:Nat->Rat}(hc:Cl cs)(d:Dl M cs q' g)(h:q'=(cs.sum:Rat)-q):Dl (100+M+1) cs q (fun i=>cR cs i-g i):=by
 refine⟨fun i hi=>?_,?_⟩
 ·obtain⟨b1,b2,b3⟩:=d.bd i hi
  exact⟨by grind,by grind,(zHB hc hi).2.sub b3⟩
 ·rw[zNm,sW,d.sum]
  grind
def zMk{m:Nat}{cs:List Int}{q:Rat}(hc:Cl cs)(hq:Sz m q)(h0:0<=q)(h1:q<=(cs.sum:Rat)):Dl (m+111) cs q (zFG cs q):=by
 obtain⟨e,s,z⟩:=zEf hc hq h0 h1;refine⟨fun i hi=>?_,by rw[<-e];exact s⟩
 obtain⟨b1,b2⟩:=zJj cs 0 q i hc.nn hi;exact⟨b1,b2,z _ (by rw[e];exact Ql.mpr ⟨i,Qn.mpr hi,rfl⟩)⟩
def zNl{M:Nat}{ws cs:List Int}{q t:Rat}(hW:Wt ws cs)(hc:Cl cs)(tl:Lvl M ws cs q t):Dl M cs q (dN (cR cs) (cR ws) t):=
 ⟨fun i hi=>⟨(pN hW hc tl.nn hi).1,(pN hW hc tl.nn hi).2,tl.sz i hi⟩,tl.sum⟩
def zJN{M:Nat}{cs:List Int}{q t:Rat}(hc:Cl cs)(tl:Lvl M (ones cs) cs (q+q) t):Dl (M+2) cs q (fun i=>dN (cR cs) (cR (ones cs)) t i*hf):=by
 refine⟨fun i h=>?_,?_⟩
 ·obtain⟨b1,b2⟩:=pN (fH cs) hc tl.nn h
  exact⟨by rw[jG];grind,by rw[jG];grind,(tl.sz i h).mul zJu⟩
 ·have e:=tl.sum
  have e2:=dI (w:=dN (cR cs) (cR (ones cs)) t) (t:=hf) (l:=List.range cs.length);unfold evs at e;unfold iZ at e2;rw[e2,e,jG];grind
def zOO{a b s:Rat}(hs:s≠0)(h:a*s=b*s):a=b:=by
 have e1:a*s / s=a:=by grind
 have e2:b*s / s=b:=by grind
 rw[<-e1,<-e2,h]
def xD{a b s:Rat}(hs:0<s)(h:a*s<=b*s):a<=b:=Yk h hs
def zOx{m:Nat}{cs:List Int}{q:Rat}(hc:Cl cs)(hq:Sz m q)(h0:0<=q)(h1:q<=(cs.sum:Rat)):Dl (m+370) cs q (kN cs q):=by
 have sm:=hc.sum;have cn:∀ i,i<cs.length->0<=cR cs i:=fun i hi=>(zHB hc hi).1
 have sc:iZ (fun i=>kN cs q i*(cs.sum:Rat)) (List.range cs.length)=q*(cs.sum:Rat):=by
  rw[eM (g:=fun i=>cR cs i*q) fun i hi=>by rw[(jH hc (Qn.mp hi)).1];grind];rw[dI,show iZ (cR cs) (List.range cs.length)=(cs.sum:Rat) from sW cs]
 rw[dI] at sc;by_cases z:cs.sum=0
 ·have p0:∀ i,i<cs.length->kN cs q i=cR cs i:=fun i hi=>by
   have c0:=qQ hc.nn z _ (Qi (bL hi));rw[(jH hc hi).2 z];unfold cR;rw[c0];rfl
  refine⟨fun i hi=>⟨by rw[p0 i hi];exact cn i hi,by rw[p0 i hi];exact Qh,zJM hc hq hi⟩,?_⟩
  rw[zDi p0,sW];have:(cs.sum:Rat)=0:=by rw[z];rfl
  grind
 ·have W:(0:Rat)<(cs.sum:Rat):=by exact_mod_cast (show 0<cs.sum by omega)
  refine⟨fun i hi=>?_,?_⟩
  ·have e:=(jH (q:=q) hc hi).1
   have c0:=cn i hi;refine⟨xD W (by rw[e];have:=Ux h0 c0;grind),xD W ?_,zJM hc hq hi⟩
   rw[e];have:=Vv h1 c0
   grind
  ·exact zOO (s:=(cs.sum:Rat)) (by grind) (by rw[Rat.mul_comm];exact sc)
def zOK{m:Nat}{w:Wy}{ws cs:List Int}{q:Rat}{f:Nat->Rat}(hw:w.due ws cs)(hc:Cl cs)(hq:Haul m q cs.sum)(al:Al (m+263) ws cs q f w):Dl (m+370) cs q f:=by
 have sm:=hc.sum;have zW:Sz 105 (cs.sum:Rat):=cS ⋯ ∅
 have z:=hq.sz;have z':Sz (m+106) ((cs.sum:Rat)-q):=(zW.sub hq.sz).mono ⋯
 have n:=hq.nn;have u:=hq.up
 cases w with
 | row=>exact((zMk hc z n u).mono ⋯).congr al
 | back=>exact((Dl.dual hc (zMk hc z' (by grind) (by grind)) rfl).mono ⋯).congr al
 | even=>
  obtain⟨t,tl,e⟩:=al;exact((zNl hw hc tl).mono ⋯).congr e
 | lack=>
  obtain⟨t,tl,e⟩:=al;exact((Dl.dual hc (zNl hw hc tl) rfl).mono ⋯).congr e
 | part=>exact(zOx hc z n u).congr al
 | half=>
  obtain⟨t,⟨c,tl,e⟩ | ⟨c,tl,e⟩⟩:=al
  ·exact((zJN hc tl).mono ⋯).congr e
  ·exact((Dl.dual hc (zJN hc tl) rfl).mono ⋯).congr e
def zAq:∀(cs:List Int)(a:Int)(q:Rat)(i:Nat),i<cs.length->(jK cs a q).getD i 0=mn (ps0 (q-((a+(cs.take i).sum:Int):Rat))) (cR cs i)
 | c::r,a,q,0,_=>by simp[jK,cR]
 | c::r,a,q,i+1,h=>by
  have ih:=zAq r (a+c) q i (by simpa using h)
  rw[Y3,Qr,<-W4];show(jK r (a+c) q).getD i 0=_
  rw[ih];rfl
def Dn(B:Int)(x:Rat):Prop:=∃ k:Int,x*(B:Rat)=(k:Rat)
def Dn.add{B:Int}{x y:Rat}(hx:Dn B x)(hy:Dn B y):Dn B (x+y):=by
 obtain⟨a,ha⟩:=hx;obtain⟨b,hb⟩:=hy;exact⟨a+b,by rw[Vo,<-ha,<-hb];grind⟩
def Dn.sub{B:Int}{x y:Rat}(hx:Dn B x)(hy:Dn B y):Dn B (x-y):=by
 obtain⟨a,ha⟩:=hx;obtain⟨b,hb⟩:=hy;exact⟨a-b,by rw[Rat.intCast_sub,<-ha,<-hb];grind⟩
def Dn.int(B c:Int):Dn B (c:Rat):=⟨c*B,by rw[Vb]⟩
def Dn.zero(B:Int):Dn B 0:=Dn.int B 0
def Dn.mul{B:Int}{x:Rat}(h:Dn B x)(E:Int):Dn (B*E) x:=by
 obtain⟨a,ha⟩:=h;exact⟨a*E,by rw[Vb,Vb,<-ha];grind⟩
def Dn.mn{B:Int}{x y:Rat}(hx:Dn B x)(hy:Dn B y):Dn B (Lw.mn x y):=by
 unfold Lw.mn;split
 ·exact hx
 ·exact hy
def Dn.ps{B:Int}{x:Rat}(hx:Dn B x):Dn B (ps0 x):=by
 unfold ps0;split
 ·exact Dn.zero B
 ·exact hx
def Dn.den(x:Rat):Dn (x.den:Int) x:=⟨x.num,(zNo x).symm⟩
def Dn.le{B:Int}{x:Rat}(h:Dn B x)(hB:0<B):(x.den:Int)<=B:=by
 obtain⟨a,ha⟩:=h
 have nB:(B:Rat)≠0:=fun z=>by
  have:B=0:=by exact_mod_cast z
  omega
 have e:x=Rat.divInt a B:=by
  rw[Y2,<-ha];grind
 rw[e];exact zFe hB
def Dn.sz{B c:Int}{x:Rat}{a b:Nat}(h:Dn B x)(hB:0<B)(hb:B<2^b)(h0:0<=x)(h1:x<=(c:Rat))(hc:c<2^a):Sz (a+b) x:=by
 have le:=h.le hB;have d0:=dB x;have n0:0<=x.num:=Rat.num_nonneg.mpr h0
 have c0:0<=c:=by
  have:((0:Int):Rat)<=(c:Rat):=Qz (by rw[show((0:Int):Rat)=0 from rfl];exact h0) h1
  exact X7.mp this
 have n1:x.num<=c*x.den:=by
  have:((x.num:Int):Rat)<=((c*x.den:Int):Rat):=by
   rw[Vb,zNo];exact Vv h1 (by have z:(0:Int)<=x.den:=⋯;exact_mod_cast z)
  exact X7.mp this
 have hb':(x.den:Int).natAbs<2^b:=by
  have:((2:Nat)^b:Nat)=((2:Int)^b):=by rw[Int.natCast_pow];rfl
  omega
 have ha':c.natAbs<2^a:=by
  have:((2:Nat)^a:Nat)=((2:Int)^a):=by rw[Int.natCast_pow];rfl
  omega
 have m:=eX ha' hb';refine⟨⋯,?_⟩
 have:2^b<=2^(a+b):=Vs ∅ ⋯
 omega
def vR{c w:Nat->Rat}{ci wi:Nat->Int}{t:Rat}(hc:∀ i,c i=(ci i:Rat))(hw:∀ i,w i=(wi i:Rat)):∀ l:List Nat,(∀ i∈l,1<=wi i/\wi i<=10^6)->∃ F W:Int,iZ (dN c w t) l=(W:Rat)*t+(F:Rat)/\0<=W/\W<=l.length*10^6/\(W=0->∀ i∈l,dN c w t i=c i)
 | [],_=>⟨0,0,by rw[iT,show((0:Int):Rat)=0 from rfl];grind,∅,∅,fun _ i h=>by cases h⟩
 | i::l,h=>by
  obtain⟨F,W,e,w0,w1,f⟩:=vR (t:=t) hc hw l fun j hj=>h j (Qc _ hj)
  have hi:=h i Qb;have ek:((l.length+1:Nat):Int)*10^6=(l.length:Int)*10^6+10^6:=by rw[Y0,Y1];rfl
  rw[bC,Qk];by_cases z:w i*t<c i
  ·have g:dN c w t i=w i*t:=Jk z
   refine⟨F,W+wi i,?_,⋯,⋯,fun z=>⋯⟩
   rw[g,e,Vo,hw];grind
  ·have g:dN c w t i=c i:=Jl z
   refine⟨F+ci i,W,?_,w0,⋯,fun z j hj=>?_⟩
   ·rw[g,e,Vo,hc]
    grind
   ·rcases Qd.mp hj with rfl | hj
    ·exact g
    ·exact f z j hj
def zFA{M:Nat}{ws cs:List Int}{q t:Rat}{B:Int}(hW:Wt ws cs)(hl:cs.length<=12)(tl:Lvl M ws cs q t)(hq:Dn B q):∃ E:Int,0<E/\E<=12*10^6/\∀ i,i<cs.length->Dn (B*E) (dN (cR cs) (cR ws) t i):=by
 obtain⟨F,W,e,w0,w1,f⟩:=vR (c:=cR cs) (w:=cR ws) (ci:=fun i=>cs.getD i 0) (wi:=fun i=>ws.getD i 0) (t:=t) (fun _=>rfl) (fun _=>rfl) (List.range cs.length) fun i hi=>hW.at (Qn.mp hi)
 have s:iZ (dN (cR cs) (cR ws) t) (List.range cs.length)=q:=tl.sum;rw[Q3] at w1;by_cases z:W=0
 ·refine⟨1,∅,∅,fun i hi=>?_⟩
  rw[f z i (Qn.mpr hi)];exact Dn.int _ _
 ·refine⟨W,⋯,⋯,fun i hi=>?_⟩
  unfold dN;refine Dn.mn ?_ (Dn.int _ _)
  obtain⟨k,hk⟩:=hq.sub (Dn.int B F);refine⟨ws.getD i 0*k,?_⟩
  rw[Vb,Vb,<-hk,<-s,e];show cR ws i*t*_=cR ws i*_
  grind
def zGQ{B:Int}{x:Rat}(h:Dn B x):Dn (B*2) (x*hf):=by
 obtain⟨k,hk⟩:=h;refine⟨k,?_⟩
 rw[<-hk,Vb,jG,show((2:Int):Rat)=2 from rfl];grind
def zMI{cs:List Int}{q:Rat}{B:Int}(h:Dn B q){i:Nat}(hi:i<cs.length):Dn B (zFG cs q i):=by
 unfold zFG;rw[zAq cs 0 q i hi];exact Dn.mn (Dn.ps (h.sub (Dn.int _ _))) (Dn.int _ _)
def zLH{M:Nat}{w:Wy}{ws cs:List Int}{q:Rat}{f:Nat->Rat}{B:Int}(hw:w.due ws cs)(hc:Cl cs)(hS:cs.sum<2^34)(al:Al M ws cs q f w)(hq:Dn B q):∃ E:Int,0<E/\E<2^34/\∀ i,i<cs.length->Dn (B*E) (f i):=by
 have hi:=hc.hi;have sm:=hc.sum;have hq':Dn B ((cs.sum:Rat)-q):=(Dn.int B cs.sum).sub hq
 cases w with
 | row=>exact⟨1,∅,∅,fun i hi=>by rw[al i hi,Vl];exact zMI hq hi⟩
 | back=>exact⟨1,∅,∅,fun i hi=>by rw[al i hi,Vl];exact(Dn.int _ _).sub (zMI hq' hi)⟩
 | even=>
  obtain⟨t,tl,e⟩:=al;obtain⟨E,e0,e1,e2⟩:=zFA hw hi tl hq;exact⟨E,e0,⋯,fun i hi=>by rw[e i hi];exact e2 i hi⟩
 | lack=>
  obtain⟨t,tl,e⟩:=al;obtain⟨E,e0,e1,e2⟩:=zFA hw hi tl hq';exact⟨E,e0,⋯,fun i hi=>by rw[e i hi];exact(Dn.int _ _).sub (e2 i hi)⟩
 | part=>
  by_cases z:cs.sum=0
  ·exact⟨1,∅,∅,fun i hi=>by rw[al i hi,(jH hc hi).2 z];exact Dn.zero _⟩
  ·refine⟨cs.sum,⋯,hS,fun i hi=>?_⟩
   have p:=(jH (q:=q) hc hi).1;rw[<-al i hi] at p;obtain⟨k,hk⟩:=hq;refine⟨k*cs.getD i 0,?_⟩
   rw[Vb,Vb,<-hk];show f i*((B:Rat)*(cs.sum:Rat))=q*(B:Rat)*cR cs i
   generalize (cs.sum:Rat)=S at *;generalize cR cs i=x at *;generalize f i=y at *;grind
 | half=>
  obtain⟨t,⟨c,tl,e⟩ | ⟨c,tl,e⟩⟩:=al
  ·obtain⟨E,e0,e1,e2⟩:=zFA (fH cs) hi tl (hq.add hq)
   exact⟨E*2,⋯,⋯,fun i hi=>by rw[e i hi,<-Ym];exact zGQ (e2 i hi)⟩
  ·obtain⟨E,e0,e1,e2⟩:=zFA (fH cs) hi tl (hq'.add hq')
   exact⟨E*2,⋯,⋯,fun i hi=>by rw[e i hi,<-Ym];exact(Dn.int _ _).sub (zGQ (e2 i hi))⟩
def Al.mono{M M':Nat}{w:Wy}{ws cs:List Int}{q:Rat}{f:Nat->Rat}(h:Al M ws cs q f w)(l:M<=M'):Al M' ws cs q f w:=by
 cases w with
 | row=>exact h
 | back=>exact h
 | part=>exact h
 | even=>obtain⟨t,tl,e⟩:=h;exact⟨t,tl.mono l,e⟩
 | lack=>obtain⟨t,tl,e⟩:=h;exact⟨t,tl.mono l,e⟩
 | half=>
  obtain⟨t,⟨c,tl,e⟩ | ⟨c,tl,e⟩⟩:=h
  ·exact⟨t,.inl ⟨c,tl.mono l,e⟩⟩
  ·exact⟨t,.inr ⟨c,tl.mono l,e⟩⟩
def zRr(q:Rat):Sz (q.num.natAbs+q.den) q:=⟨Qu Qar (Vs ∅ ⋯),Qu Qar (Vs ∅ ⋯)⟩
def zKr{M:Nat}{w:Wy}{ws cs:List Int}{q:Rat}{f:Nat->Rat}(hw:w.due ws cs)(hc:Cl cs)(q0:0<=q)(q1:q<=(cs.sum:Rat))(al:Al M ws cs q f w):(∀ i,i<cs.length->0<=f i/\f i<=cR cs i)/\((List.range cs.length).map f).sum=q:=by
 have d:=zOK (m:=q.num.natAbs+q.den+M) hw hc ⟨q0,q1,(zRr q).mono ⋯⟩ (al.mono ⋯)
 exact⟨fun i hi=>⟨(d.bd i hi).1,(d.bd i hi).2.1⟩,d.sum⟩
def nG{M M':Nat}{ws cs:List Int}{q q' t t':Rat}(hW:Wt ws cs)(a:Lvl M ws cs q t)(b:Lvl M' ws cs q' t')(h:q=q'){i:Nat}(hi:i<cs.length):dN (cR cs) (cR ws) t i=dN (cR cs) (cR ws) t' i:=by
 have pw:∀ j∈List.range cs.length,0<cR ws j:=fun j hj=>by
  have:=(hW.at (Qn.mp hj)).1
  unfold cR;exact_mod_cast (show 0<ws.getD j 0 by omega)
 exact zAy (c:=cR cs) (w:=cR ws) pw (by show(evs ws cs t).sum=(evs ws cs t').sum;rw[a.sum,b.sum,h]) i (Qn.mpr hi)
def zRm{M M':Nat}{w:Wy}{ws cs:List Int}{q:Rat}{f g:Nat->Rat}(hw:w.due ws cs)(a:Al M ws cs q f w)(b:Al M' ws cs q g w){i:Nat}(hi:i<cs.length):f i=g i:=by
 cases w with
 | row=>rw[a i hi,b i hi]
 | back=>rw[a i hi,b i hi]
 | part=>rw[a i hi,b i hi]
 | even=>
  obtain⟨t,tl,e⟩:=a;obtain⟨t',tl',e'⟩:=b;rw[e i hi,e' i hi,nG hw tl tl' rfl hi]
 | lack=>
  obtain⟨t,tl,e⟩:=a;obtain⟨t',tl',e'⟩:=b;rw[e i hi,e' i hi,nG hw tl tl' rfl hi]
 | half=>
  have W:=fH cs;obtain⟨t,⟨c,tl,e⟩ | ⟨c,tl,e⟩⟩:=a
  ·obtain⟨t',⟨c',tl',e'⟩ | ⟨c',tl',e'⟩⟩:=b
   ·rw[e i hi,e' i hi,nG W tl tl' rfl hi]
   ·exact absurd c' (V3.mpr c)
  ·obtain⟨t',⟨c',tl',e'⟩ | ⟨c',tl',e'⟩⟩:=b
   ·exact absurd c (V3.mpr c')
   ·rw[e i hi,e' i hi,nG W tl tl' rfl hi]
def uF{M M':Nat}{ws cs:List Int}{q q' t t':Rat}(hW:Wt ws cs)(a:Lvl M ws cs q t)(b:Lvl M' ws cs q' t')(h:q<=q'){i:Nat}(hi:i<cs.length):dN (cR cs) (cR ws) t i<=dN (cR cs) (cR ws) t' i:=by
 have pw:∀ j∈List.range cs.length,0<cR ws j:=fun j hj=>by
  have:=(hW.at (Qn.mp hj)).1
  unfold cR;exact_mod_cast (show 0<ws.getD j 0 by omega)
 rcases Xk (a:=t) (b:=t') with g | g
 ·exact mP (pw i (Qn.mpr hi)) g
 ·have le:∀ j∈List.range cs.length,dN (cR cs) (cR ws) t' j<=dN (cR cs) (cR ws) t j:=fun j hj=>mP (pw j hj) g
  have s1:iZ (dN (cR cs) (cR ws) t') (List.range cs.length)=q':=b.sum;have s2:iZ (dN (cR cs) (cR ws) t) (List.range cs.length)=q:=a.sum;have s3:=sL le;rw[sD le (by rw[s1,s2];rw[s1,s2] at s3;grind) i (Qn.mpr hi)];exact Qh
def zJV{M M':Nat}{w:Wy}{ws cs:List Int}{q q':Rat}{f g:Nat->Rat}(hw:w.due ws cs)(hc:Cl cs)(a:Al M ws cs q f w)(b:Al M' ws cs q' g w)(h:q<=q'){i:Nat}(hi:i<cs.length):f i<=g i:=by
 have sm:=hc.sum
 cases w with
 | row=>rw[a i hi,b i hi];exact vX cs 0 i h
 | back=>
  rw[a i hi,b i hi];have:=vX cs 0 (q:=(cs.sum:Rat)-q') (q':=(cs.sum:Rat)-q) i (by grind)
  unfold zFG;grind
 | even=>
  obtain⟨t,tl,e⟩:=a;obtain⟨t',tl',e'⟩:=b;rw[e i hi,e' i hi];exact uF hw tl tl' h hi
 | lack=>
  obtain⟨t,tl,e⟩:=a;obtain⟨t',tl',e'⟩:=b;rw[e i hi,e' i hi];have:=uF hw tl' tl (by grind) hi
  grind
 | part=>
  rw[a i hi,b i hi];have c0:0<=cR cs i:=by unfold cR;exact_mod_cast hc.nn _ (Qi (bL hi))
  obtain⟨p1,p2⟩:=jH (q:=q) hc hi;obtain⟨r1,r2⟩:=jH (q:=q') hc hi;by_cases z:cs.sum=0
  ·rw[p2 z,r2 z];exact Qh
  ·have W:(0:Rat)<(cs.sum:Rat):=by exact_mod_cast (show 0<cs.sum by omega)
   exact xD W (by rw[p1,r1];exact Vv h c0)
 | half=>
  have ow:=fH cs;obtain⟨t,⟨c,tl,e⟩ | ⟨c,tl,e⟩⟩:=a
  ·have b1:=(pN ow hc tl.nn hi).2
   obtain⟨t',⟨c',tl',e'⟩ | ⟨c',tl',e'⟩⟩:=b
   ·have:=uF ow tl tl' (by grind) hi
    rw[e i hi,e' i hi,jG];grind
   ·have b2:=(pN ow hc tl'.nn hi).2
    rw[e i hi,e' i hi,jG];grind
  ·obtain⟨t',⟨c',tl',e'⟩ | ⟨c',tl',e'⟩⟩:=b
   ·exfalso;grind
   ·have:=uF ow tl' tl (by grind) hi
    rw[e i hi,e' i hi,jG];grind
def Wy.con:Wy->Wy
 | .row=>.back
 | .back=>.row
 | .even=>.lack
 | .lack=>.even
 | .part=>.part
 | .half=>.half
def zFq{M:Nat}{ws cs:List Int}{q t:Rat}(hW:Wt ws cs)(hc:Cl cs)(a:Lvl M ws cs q t)(h:q=(cs.sum:Rat)){i:Nat}(hi:i<cs.length):dN (cR cs) (cR ws) t i=cR cs i:=by
 have s:iZ (dN (cR cs) (cR ws) t) (List.range cs.length)=q:=a.sum;exact sD (fun j hj=>(pN hW hc a.nn (Qn.mp hj)).2) (by rw[s,h];exact(sW cs).symm) i (Qn.mpr hi)
def zQt{M M':Nat}{w:Wy}{ws cs:List Int}{q:Rat}{f g:Nat->Rat}(hw:w.due ws cs)(hc:Cl cs)(hn:0<=q)(hu:q<=(cs.sum:Rat))(a:Al M ws cs q f w)(b:Al M' ws cs ((cs.sum:Rat)-q) g w.con){i:Nat}(hi:i<cs.length):g i=cR cs i-f i:=by
 have sm:=hc.sum;have e0:(cs.sum:Rat)-((cs.sum:Rat)-q)=q:=by grind
 cases w with
 | row=>
  have b':g i=cR cs i-zFG cs ((cs.sum:Rat)-((cs.sum:Rat)-q)) i:=b i hi;rw[b',e0,a i hi]
 | back=>
  have b':g i=zFG cs ((cs.sum:Rat)-q) i:=b i hi;rw[b',a i hi];grind
 | even=>
  obtain⟨t,tl,e⟩:=a;obtain⟨t',tl',e'⟩:=b;rw[e i hi,e' i hi,nG hw tl' tl e0 hi]
 | lack=>
  obtain⟨t,tl,e⟩:=a;obtain⟨t',tl',e'⟩:=b;rw[e i hi,e' i hi,nG hw tl' tl rfl hi];grind
 | part=>
  have b':g i=kN cs ((cs.sum:Rat)-q) i:=b i hi;have u:=hu;have n:=hn;obtain⟨p1,p2⟩:=jH (q:=q) hc hi;obtain⟨r1,r2⟩:=jH (q:=(cs.sum:Rat)-q) hc hi;rw[b',a i hi];by_cases z:cs.sum=0
  ·have c0:=qQ hc.nn z _ (Qi (bL hi))
   rw[p2 z,r2 z];unfold cR;rw[c0,show((0:Int):Rat)=0 from rfl];grind
  ·have W:(0:Rat)<(cs.sum:Rat):=by exact_mod_cast (show 0<cs.sum by omega)
   have e:kN cs ((cs.sum:Rat)-q) i*(cs.sum:Rat)=(cR cs i-kN cs q i)*(cs.sum:Rat):=by rw[r1];grind
   have l1:=xD W (show kN cs ((cs.sum:Rat)-q) i*(cs.sum:Rat)<=(cR cs i-kN cs q i)*(cs.sum:Rat) by rw[e];exact Qh)
   have l2:=xD W (show(cR cs i-kN cs q i)*(cs.sum:Rat)<=kN cs ((cs.sum:Rat)-q) i*(cs.sum:Rat) by rw[e];exact Qh)
   grind
 | half=>
  have ow:=fH cs;obtain⟨t,⟨c,tl,e⟩ | ⟨c,tl,e⟩⟩:=a
  ·obtain⟨t',⟨c',tl',e'⟩ | ⟨c',tl',e'⟩⟩:=b
   ·have f1:=zFq ow hc tl (by grind) hi
    have f2:=zFq ow hc tl' (by grind) hi
    rw[e i hi,e' i hi,f1,f2,jG];grind
   ·have f1:=nG ow tl' tl (by grind) hi
    rw[e i hi,e' i hi,f1]
  ·obtain⟨t',⟨c',tl',e'⟩ | ⟨c',tl',e'⟩⟩:=b
   ·have f1:=nG ow tl' tl rfl hi
    rw[e i hi,e' i hi,f1];grind
   ·exfalso;grind
def zNP{w:Wy}{ws cs:List Int}(h:w.due ws cs):w.con.due ws cs:=by cases w<;>exact h
def Lin(f:Rat->Rat)(a b:Rat):Prop:=∀ x,a<=x->x<=b->(f x-f a)*(b-a)=(x-a)*(f b-f a)
def Cn(R:Rat->Rat->Prop):List Rat->Prop
 | a::b::l=>R a b/\Cn R (b::l)
 | _=>True
def Cn.imp{R R':Rat->Rat->Prop}(h:∀ a b,R a b->R' a b):∀ {l:List Rat},Cn R l->Cn R' l
 | [],_=>trivial
 | [_],_=>trivial
 | a::b::l,k=>⟨h a b k.1,Cn.imp h k.2⟩
def vN{A:List Rat}:∀ {l:List Rat},l.Pairwise (·<=·)->(∀ x∈A,x∈l∨∀ y∈l,x<=y)->Cn (fun s t=>s<=t/\∀ x∈A,x<=s∨t<=x) l
 | [],_,_=>trivial
 | [_],_,_=>trivial
 | a::b::r,h,hA=>by
  obtain⟨h1,h2⟩:=Qp.mp h;obtain⟨h3,h4⟩:=Qp.mp h2;refine⟨⟨h1 b Qb,fun x hx=>?_⟩,vN h2 fun x hx=>?_⟩
  ·rcases hA x hx with h | h
   ·rcases Qd.mp h with rfl | h
    ·exact .inl Qh
    ·rcases Qd.mp h with rfl | h
     ·exact .inr Qh
     ·exact .inr (h3 x h)
   ·exact .inl (h a Qb)
  ·rcases hA x hx with h | h
   ·rcases Qd.mp h with rfl | h
    ·exact .inr h1
    ·exact .inl h
   ·exact .inr fun y hy=>h y (Qc _ hy)
def QQ(ws cs:List Int)(t:Rat):Rat:=iZ (dN (cR cs) (cR ws) t) (List.range cs.length)
def lv(ws cs:List Int)(i:Nat):Rat:=cR cs i / cR ws i
def Wt.pos{ws cs:List Int}(h:Wt ws cs){i:Nat}(hi:i<cs.length):0<cR ws i:=by
 have:=(h.at hi).1
 unfold cR;exact_mod_cast (show 0<ws.getD i 0 by omega)
def zD{ws cs:List Int}(h:Wt ws cs){i:Nat}(hi:i<cs.length):cR ws i*lv ws cs i=cR cs i:=by
 have:=h.pos hi
 unfold lv;grind
def zGx{ws cs:List Int}(h:Wt ws cs){i:Nat}(hi:i<cs.length){t:Rat}(l:lv ws cs i<=t):dN (cR cs) (cR ws) t i=cR cs i:=by
 have p:=h.pos hi;have e:=zD h hi;have:=X6 l (Qg p)
 unfold dN mn;grind
def zGM{ws cs:List Int}(h:Wt ws cs){i:Nat}(hi:i<cs.length){t:Rat}(l:t<=lv ws cs i):dN (cR cs) (cR ws) t i=cR ws i*t:=by
 have p:=h.pos hi;have e:=zD h hi;have:=X6 l (Qg p)
 unfold dN mn;grind
def zKl{ws cs:List Int}(h:Wt ws cs)(hc:Cl cs){i:Nat}(hi:i<cs.length):0<=lv ws cs i:=by
 have p:=h.pos hi;have c:=(zHB hc hi).1;have e:=zD h hi;rcases Xk (a:=0) (b:=lv ws cs i) with z | z
 ·exact z
 ·have:=X6 z (Qg p)
  have z2:cR cs i=0:=by grind
  unfold lv;rw[z2];grind
def sl(ws cs:List Int)(s:Rat)(i:Nat):Rat:=if lv ws cs i<=s then 0 else cR ws i
def zFX{f g:Nat->Rat}:∀ {l:List Nat},iZ (fun i=>f i-g i) l=iZ f l-iZ g l
 | []=>by rw[iT,iT,iT];grind
 | a::l=>by rw[bC,bC,bC,zFX];grind
def zPz(ws cs:List Int)(s t:Rat):Prop:=∀ i,i<cs.length->lv ws cs i<=s∨t<=lv ws cs i
def zAK{ws cs:List Int}(h:Wt ws cs){s t u:Rat}(n:zPz ws cs s t)(su:s<=u)(ut:u<=t){i:Nat}(hi:i<cs.length):dN (cR cs) (cR ws) u i-dN (cR cs) (cR ws) s i=sl ws cs s i*(u-s):=by
 unfold sl;by_cases z:lv ws cs i<=s
 ·rw[zGx h hi z,zGx h hi (Qz z su),Jk z];grind
 ·rcases n i hi with k | k
  ·exact absurd k z
  ·rw[zGM h hi (Qz ut k),zGM h hi (Qz su (Qz ut k)),Jl z];grind
def zCS{ws cs:List Int}(h:Wt ws cs){s t u:Rat}(n:zPz ws cs s t)(su:s<=u)(ut:u<=t):QQ ws cs u-QQ ws cs s=iZ (sl ws cs s) (List.range cs.length)*(u-s):=by
 unfold QQ;rw[<-zFX,eM (g:=fun i=>sl ws cs s i*(u-s)) fun i hi=>zAK h n su ut (Qn.mp hi)];rw[dI];grind
def lG{ws cs:List Int}(h:Wt ws cs){s t:Rat}(l:s<=t):QQ ws cs s<=QQ ws cs t:=sL fun i hi=>mP (h.pos (Qn.mp hi)) l
def zSB{ws cs:List Int}(h:Wt ws cs){s t:Rat}(e:QQ ws cs s=QQ ws cs t){i:Nat}(hi:i<cs.length):dN (cR cs) (cR ws) s i=dN (cR cs) (cR ws) t i:=zAy (fun i hi=>h.pos (Qn.mp hi)) e i (Qn.mpr hi)
def zQA{ws cs:List Int}(h:Wt ws cs){s t:Rat}(st:s<=t)(n:zPz ws cs s t){i:Nat}(hi:i<cs.length){f:Rat->Rat}(hf:∀ x,QQ ws cs s<=x->x<=QQ ws cs t->∃ u,QQ ws cs u=x/\f x=dN (cR cs) (cR ws) u i):Lin f (QQ ws cs s) (QQ ws cs t):=by
 have ab:=lG h st
 have at':∀ v,s<=v->v<=t->f (QQ ws cs v)=dN (cR cs) (cR ws) v i:=fun v h1 h2=>by
  obtain⟨u,e1,e2⟩:=hf _ (lG h h1) (lG h h2);rw[e2,zSB h e1 hi]
 have fa:=at' s Qh st;have fb:=at' t st Qh;intro x h1 h2;obtain⟨u,e1,e2⟩:=hf x h1 h2;rcases Xk (a:=u) (b:=s) with z | z
 ·have q:=lG h z
  have ex:x=QQ ws cs s:=by grind
  subst ex;grind
 rcases Xk (a:=t) (b:=u) with z' | z'
 ·have q:=lG h z'
  have ex:x=QQ ws cs t:=by grind
  subst ex;grind
 have d1:=zCS h n z z';have d2:=zCS h n st Qh;have g1:=zAK h n z z' hi;have g2:=zAK h n st Qh hi;rw[e1] at d1;rw[e2,fa,fb,g1,g2,d1,d2];grind
def zIy{ws cs:List Int}(h:Wt ws cs){q:Rat}:∀ {l:List Rat} {s:Rat},Cn (fun s t=>s<=t/\zPz ws cs s t) (s::l)->QQ ws cs s<=q->q<=QQ ws cs ((s::l).getLast (by simp))->∃ u,s<=u/\QQ ws cs u=q
 | [],s,_,h1,h2=>⟨s,Qh,by
  have h2':q<=QQ ws cs s:=h2
  grind⟩
 | t::l,s,hc,h1,h2=>by
  obtain⟨⟨st,n⟩,hc'⟩:=hc;rcases Xk (a:=QQ ws cs t) (b:=q) with z | z
  ·obtain⟨u,u1,u2⟩:=zIy h hc' z (by simpa using h2)
   exact⟨u,Qz st u1,u2⟩
  ·by_cases e:QQ ws cs s=QQ ws cs t
   ·exact⟨s,Qh,by grind⟩
   have d2:=zCS h n st Qh;generalize iZ (sl ws cs s) (List.range cs.length)=W at d2;have lt:QQ ws cs s<QQ ws cs t:=by have:=lG h st;grind
   have p:0<QQ ws cs t-QQ ws cs s:=by grind
   have nz:QQ ws cs t-QQ ws cs s≠0:=by grind
   have lam:0<=(q-QQ ws cs s) / (QQ ws cs t-QQ ws cs s)/\(q-QQ ws cs s) / (QQ ws cs t-QQ ws cs s)<=1:=by
    refine⟨xD p ?_,xD p ?_⟩
    ·rw[Xd nz];grind
    ·rw[Xd nz];grind
   have le:(q-QQ ws cs s) / (QQ ws cs t-QQ ws cs s)*(QQ ws cs t-QQ ws cs s)=q-QQ ws cs s:=Xd nz;generalize (q-QQ ws cs s) / (QQ ws cs t-QQ ws cs s)=k at lam le;have ts:0<=t-s:=by grind
   have m1:=Ux lam.1 ts;have m2:=Vv lam.2 ts;refine⟨s+k*(t-s),by grind,?_⟩
   have d1:=zCS h n (u:=s+k*(t-s)) (by grind) (by grind)
   have d2':=zCS h n st Qh;grind
def zIp:∀(n:Nat)(g:Nat->Rat),∃ M,∀ i,i<n->Sz M (g i)
 | 0,_=>⟨0,fun i h=>⋯⟩
 | n+1,g=>by
  obtain⟨M,h⟩:=zIp n g;refine⟨M+((g n).num.natAbs+(g n).den),fun i hi=>?_⟩
  by_cases z:i=n
  ·rw[z];exact(zRr (g n)).mono ⋯
  ·exact(h i ⋯).mono ⋯
def zSY{ws cs:List Int}(h:Wt ws cs)(hc:Cl cs){q:Rat}(q0:0<=q)(q1:q<=(cs.sum:Rat)):∃ u,0<=u/\QQ ws cs u=q:=by
 generalize hA:(List.range cs.length).map (lv ws cs)=A;have pm:(A.mergeSort fun a b=>decide (a<=b)).Perm A:=Qae A _
 have so:(A.mergeSort fun a b=>decide (a<=b)).Pairwise (·<=·):=by
  have:=Qad (le:=fun a b:Rat=>decide (a<=b)) (fun a b c h1 h2=>by
   have h1':=J7 h1;have h2':=J7 h2
   exact J5 (Qz h1' h2')) (fun a b=>by
   rcases Xk (a:=a) (b:=b) with z | z
   ·simp[z]
   ·simp[z]) A
  exact this.imp fun h=>J7 h
 generalize A.mergeSort (fun a b=>decide (a<=b))=L at pm so
 have nn:∀ x∈L,0<=x:=fun x hx=>by
  have hx':=pm.mem_iff.mp hx;rw[<-hA] at hx';obtain⟨i,hi,rfl⟩:=Ql.mp hx';exact zKl h hc (Qn.mp hi)
 have so':(0::L).Pairwise (·<=·):=Qp.mpr ⟨nn,so⟩;have cn:=vN (A:=A) so' fun x hx=>.inl (Qc _ (pm.mem_iff.mpr hx))
 have cn':Cn (fun s t=>s<=t/\zPz ws cs s t) (0::L):=cn.imp fun a b hab=>⟨hab.1,fun i hi=>hab.2 _ (by rw[<-hA];exact Ql.mpr ⟨i,Qn.mpr hi,rfl⟩)⟩
 have z0:QQ ws cs 0=0:=by
  unfold QQ;rw[eM (g:=fun i=>cR ws i*0) fun i hi=>zGM h (Qn.mp hi) (zKl h hc (Qn.mp hi)),dI];grind
 have zl:QQ ws cs ((0::L).getLast (by simp))=(cs.sum:Rat):=by
  unfold QQ;rw[eM (g:=cR cs) fun i hi=>zGx h (Qn.mp hi) ?_]
  ·exact sW cs
  ·have m:lv ws cs i∈L:=pm.mem_iff.mpr (by rw[<-hA];exact Ql.mpr ⟨i,hi,rfl⟩)
   have key:∀ {l:List Rat} (ne:l≠[]),l.Pairwise (·<=·)->∀ x∈l,x<=l.getLast ne:=by
    intro l
    induction l with
    | nil=>intro ne;exact absurd rfl ne
    | cons a r ih=>
     intro ne hp x hx;obtain⟨p1,p2⟩:=Qp.mp hp
     cases r with
     | nil=>rw[Qw.mp hx];exact Qh
     | cons b r=>
      rw[List.getLast_cons (by simp)];rcases Qd.mp hx with rfl | hx
      ·exact Qz (p1 b Qb) (ih (by simp) p2 b Qb)
      ·exact ih (by simp) p2 x hx
   exact key (by simp) so' _ (Qc _ m)
 exact zIy h cn' (by rw[z0];exact q0) (by rw[zl];exact q1)
def zFh{ws cs:List Int}(h:Wt ws cs)(hc:Cl cs){q:Rat}(q0:0<=q)(q1:q<=(cs.sum:Rat)):∃ M t,Lvl M ws cs q t:=by
 obtain⟨u,u0,e⟩:=zSY h hc q0 q1;obtain⟨M,hM⟩:=zIp cs.length (dN (cR cs) (cR ws) u);exact⟨M,u,u0,e,hM⟩
def zQE{w:Wy}{ws cs:List Int}(hw:w.due ws cs)(hc:Cl cs){q:Rat}(q0:0<=q)(q1:q<=(cs.sum:Rat)):∃ f M,Al M ws cs q f w:=by
 cases w with
 | row=>exact⟨_,0,fun i _=>rfl⟩
 | back=>exact⟨_,0,fun i _=>rfl⟩
 | part=>exact⟨_,0,fun i _=>rfl⟩
 | even=>
  obtain⟨M,t,tl⟩:=zFh hw hc q0 q1;exact⟨_,M,t,tl,fun i _=>rfl⟩
 | lack=>
  obtain⟨M,t,tl⟩:=zFh hw hc (q:=(cs.sum:Rat)-q) (by grind) (by grind)
  exact⟨_,M,t,tl,fun i _=>rfl⟩
 | half=>
  by_cases z:(cs.sum:Rat)<q+q
  ·obtain⟨M,t,tl⟩:=zFh (fH cs) hc (q:=((cs.sum:Rat)-q)+((cs.sum:Rat)-q)) (by grind) (by grind)
   exact⟨_,M,t,.inr ⟨z,tl,fun i _=>rfl⟩⟩
  ·have z':=V3.mp z
   obtain⟨M,t,tl⟩:=zFh (fH cs) hc (q:=q+q) (by grind) z'
   exact⟨_,M,t,.inl ⟨z',tl,fun i _=>rfl⟩⟩
open Classical in
def FF(w:Wy)(ws cs:List Int)(q:Rat):Nat->Rat:=if h:∃ f M,Al M ws cs q f w then Classical.choose h else fun _=>0
def xU{w:Wy}{ws cs:List Int}(hw:w.due ws cs)(hc:Cl cs){q:Rat}(q0:0<=q)(q1:q<=(cs.sum:Rat)):∃ M,Al M ws cs q (FF w ws cs q) w:=by
 unfold FF;rw[J6 (zQE hw hc q0 q1)];exact Uy (zQE hw hc q0 q1)
def zCx{M:Nat}{w:Wy}{ws cs:List Int}(hw:w.due ws cs)(hc:Cl cs){q:Rat}{f:Nat->Rat}(q0:0<=q)(q1:q<=(cs.sum:Rat))(a:Al M ws cs q f w){i:Nat}(hi:i<cs.length):f i=FF w ws cs q i:=by
 obtain⟨M',b⟩:=xU hw hc q0 q1;exact zRm hw a b hi
def zJy{w:Wy}{ws cs:List Int}(hw:w.due ws cs)(hc:Cl cs){q:Rat}(q0:0<=q)(q1:q<=(cs.sum:Rat)):(∀ i,i<cs.length->0<=FF w ws cs q i/\FF w ws cs q i<=cR cs i)/\((List.range cs.length).map (FF w ws cs q)).sum=q:=by
 obtain⟨M,b⟩:=xU hw hc q0 q1;exact zKr hw hc q0 q1 b
def zOw{w:Wy}{ws cs:List Int}(hw:w.due ws cs)(hc:Cl cs){q q':Rat}(q0:0<=q)(l:q<=q')(q1:q'<=(cs.sum:Rat)){i:Nat}(hi:i<cs.length):FF w ws cs q i<=FF w ws cs q' i:=by
 obtain⟨M,a⟩:=xU hw hc q0 (Qz l q1);obtain⟨M',b⟩:=xU hw hc (Qz q0 l) q1;exact zJV hw hc a b l hi
def zNb{w:Wy}{ws cs:List Int}(hw:w.due ws cs)(hc:Cl cs){q:Rat}(q0:0<=q)(q1:q<=(cs.sum:Rat)){i:Nat}(hi:i<cs.length):FF w.con ws cs ((cs.sum:Rat)-q) i=cR cs i-FF w ws cs q i:=by
 obtain⟨M,a⟩:=xU hw hc q0 q1;obtain⟨M',b⟩:=xU (zNP hw) hc (q:=(cs.sum:Rat)-q) (by grind) (by grind)
 exact zQt hw hc q0 q1 a b hi
def zCE{f:Nat->Rat}:∀ {l:List Nat},(∀ i∈l,0<=f i)->iZ f l=0->∀ i∈l,f i=0
 | [],_,_,i,h=>by cases h
 | a::l,hn,e,i,h=>by
  have p:0<=iZ f l:=by
   have:∀ {l:List Nat},(∀ i∈l,0<=f i)->0<=iZ f l:=by
    intro l
    induction l with
    | nil=>intro _;rw[iT];exact Qh
    | cons b l ih=>intro hl;rw[bC];have:=hl b Qb;have:=ih fun x hx=>hl x (Qc _ hx);grind
   exact this fun x hx=>hn x (Qc _ hx)
  have a0:=hn a Qb;rw[bC] at e;rcases Qd.mp h with rfl | h
  ·grind
  ·exact zCE (fun x hx=>hn x (Qc _ hx)) (by grind) i h
def zHU{w:Wy}{ws cs:List Int}(hw:w.due ws cs)(hc:Cl cs){i:Nat}(hi:i<cs.length):FF w ws cs 0 i=0:=by
 have s0:(0:Rat)<=(cs.sum:Rat):=by exact_mod_cast hc.sum.1
 obtain⟨b,s⟩:=zJy hw hc Qh s0;exact zCE (fun i hi=>(b i (Qn.mp hi)).1) s i (Qn.mpr hi)
def zEi{w:Wy}{ws cs:List Int}(hw:w.due ws cs)(hc:Cl cs){i:Nat}(hi:i<cs.length):FF w ws cs (cs.sum:Rat) i=cR cs i:=by
 have s0:(0:Rat)<=(cs.sum:Rat):=by exact_mod_cast hc.sum.1
 obtain⟨b,s⟩:=zJy hw hc s0 Qh
 have e:=sD (f:=FF w ws cs (cs.sum:Rat)) (g:=cR cs) (l:=List.range cs.length) (fun i hi=>(b i (Qn.mp hi)).2) (by
  show((List.range cs.length).map _).sum=_
  rw[s]
  exact(sW cs).symm)
 exact e i (Qn.mpr hi)
def zBt:∀ {cs:List Int} {i j:Nat},(∀ c∈cs,0<=c)->i<j->j<=cs.length->(cs.take i).sum+cs.getD i 0<=(cs.take j).sum/\0<=(cs.take i).sum
 | [],i,j,_,h,h'=>by simp at h';omega
 | c::r,i,0,_,h,_=>⋯
 | c::r,0,j+1,hn,_,_=>by
  have hr:∀ l:List Int,(∀ c∈l,0<=c)->0<=l.sum:=by
   intro l
   induction l with
   | nil=>intro _;decide
   | cons a l ih=>intro hl;rw[Qr];have:=hl a Qb;have:=ih fun x hx=>hl x (Qc _ hx);omega
  have:=hr (r.take j) fun x hx=>hn x (Qc _ (Y4 hx))
  rw[Y3,Qr];simp
  omega
 | c::r,i+1,j+1,hn,h,h'=>by
  have ih:=zBt (cs:=r) (i:=i) (j:=j) (fun x hx=>hn x (Qc _ hx)) ⋯ (by simpa using h')
  have:=hn c Qb
  rw[Y3,Qr,Y3,Qr];show c+_+r.getD i 0<=_/\_
  omega
def Jt(w:Wy)(ws cs:List Int)(a b:Rat):Prop:=0<=a/\a<=b/\b<=(cs.sum:Rat)/\∀ i,i<cs.length->Lin (fun x=>FF w ws cs x i) a b
def Lin.const{f:Rat->Rat}{a b k:Rat}(hab:a<=b)(h:∀ x,a<=x->x<=b->f x=k):Lin f a b:=fun x h1 h2=>by
 rw[h x h1 h2,h a Qh hab,h b hab Qh];grind
def Lin.line{f:Rat->Rat}{a b m k:Rat}(hab:a<=b)(h:∀ x,a<=x->x<=b->f x=m*x+k):Lin f a b:=fun x h1 h2=>by
 rw[h x h1 h2,h a Qh hab,h b hab Qh];grind
def rj:List Int->Int->List Rat
 | [],a=>[(a:Rat)]
 | c::r,a=>(a:Rat)::rj r (a+c)
def zDN(r:List Int)(a:Int):∃ t,rj r a=(a:Rat)::t:=by cases r<;>exact⟨_,rfl⟩
def zKF{cs:List Int}(hc:Cl cs):∀(post pre:List Int),cs=pre++post->Cn (Jt .row [] cs) (rj post pre.sum)
 | [],_,_=>trivial
 | c::r,pre,e=>by
  have ih:=zKF hc r (pre++[c]) (by rw[e];simp)
  rw[Xm,show([c]:List Int).sum=c by simp] at ih;obtain⟨t,et⟩:=zDN r (pre.sum+c);rw[rj,et];rw[et] at ih;refine⟨?_,ih⟩
  have hk:pre.length<cs.length:=by rw[e];simp
  have tk:cs.take pre.length=pre:=by rw[e];exact List.take_left
  have ck:cs.getD pre.length 0=c:=by rw[e,Qv,Vp (Qf _)];simp
  have c0:0<=c:=hc.nn c (by rw[e];simp)
  have p0:0<=pre.sum:=by
   have:∀ l:List Int,(∀ c∈l,0<=c)->0<=l.sum:=by
    intro l
    induction l with
    | nil=>intro _;decide
    | cons a l ih=>intro hl;rw[Qr];have:=hl a Qb;have:=ih fun x hx=>hl x (Qc _ hx);omega
   exact this pre fun x hx=>hc.nn x (by rw[e];exact Xx _ hx)
  have r0:0<=r.sum:=by
   have:∀ l:List Int,(∀ c∈l,0<=c)->0<=l.sum:=by
    intro l
    induction l with
    | nil=>intro _;decide
    | cons a l ih=>intro hl;rw[Qr];have:=hl a Qb;have:=ih fun x hx=>hl x (Qc _ hx);omega
   exact this r fun x hx=>hc.nn x (by rw[e];exact Q2 _ (Qc _ hx))
  have se:cs.sum=pre.sum+c+r.sum:=by rw[e,Xm,Qr];omega
  have ab:(pre.sum:Rat)<=((pre.sum+c:Int):Rat):=X7.mpr ⋯
  have bS:((pre.sum+c:Int):Rat)<=(cs.sum:Rat):=X7.mpr ⋯
  have a0:(0:Rat)<=(pre.sum:Rat):=by exact_mod_cast p0
  refine⟨a0,ab,bS,fun i hi=>?_⟩
  have fx:∀ x,(pre.sum:Rat)<=x->x<=((pre.sum+c:Int):Rat)->FF .row [] cs x i=mn (ps0 (x-((0+(cs.take i).sum:Int):Rat))) (cR cs i):=fun x h1 h2=>by
   rw[<-zCx (M:=0) (w:=.row) (ws:=[]) (f:=zFG cs x) rfl hc (Qz a0 h1) (Qz h2 bS) (fun i _=>rfl) hi];exact zAq cs 0 x i hi
  have ci:=(zHB hc hi).1;rcases Us i pre.length with z | z | z
  ·have tu:=(zBt hc.nn z (Xn hk)).1
   rw[tk] at tu;refine Lin.const ab (k:=cR cs i) fun x h1 h2=>?_
   rw[fx x h1 h2]
   have tu':((0+(cs.take i).sum:Int):Rat)+cR cs i<=(pre.sum:Rat):=by
    unfold cR;rw[<-Vo];exact X7.mpr ⋯
   unfold mn ps0;grind
  ·subst z
   refine Lin.line ab (m:=1) (k:=-(pre.sum:Rat)) fun x h1 h2=>?_
   rw[fx x h1 h2,tk,W5];have:cR cs pre.length=(c:Rat):=by unfold cR;rw[ck]
   rw[this];rw[Vo] at h2;unfold mn ps0;grind
  ·have tu:=(zBt hc.nn z (Xn hi)).1
   rw[tk,ck] at tu;refine Lin.const ab (k:=0) fun x h1 h2=>?_
   rw[fx x h1 h2];have tu':((pre.sum+c:Int):Rat)<=((0+(cs.take i).sum:Int):Rat):=X7.mpr ⋯
   unfold mn ps0;grind
def zPW{cs:List Int}(hc:Cl cs):Cn (Jt .row [] cs) (rj cs 0):=zKF hc cs [] rfl
def zOy{cs:List Int}(hc:Cl cs):Cn (Jt .part [] cs) [0,(cs.sum:Rat)]:=by
 have s0:(0:Rat)<=(cs.sum:Rat):=by exact_mod_cast hc.sum.1
 refine⟨⟨Qh,s0,Qh,fun i hi=>?_⟩,trivial⟩
 have fx:∀ x,0<=x->x<=(cs.sum:Rat)->FF .part [] cs x i*(cs.sum:Rat)=x*cR cs i:=fun x h1 h2=>by
  rw[<-zCx (M:=0) (w:=.part) (ws:=[]) (f:=kN cs x) rfl hc h1 h2 (fun i _=>rfl) hi];exact(jH hc hi).1
 intro x h1 h2;have e0:=zHU (w:=.part) (ws:=[]) rfl hc hi;have e1:=fx x h1 h2;have e2:=zEi (w:=.part) (ws:=[]) rfl hc hi;show(FF .part [] cs x i-FF .part [] cs 0 i)*_=_*(FF .part [] cs (cs.sum:Rat) i-FF .part [] cs 0 i)
 rw[e0,e2];generalize FF Wy.part [] cs x i=y at *;generalize (cs.sum:Rat)=S at *;generalize cR cs i=c at *;grind
def zIB{R R':Rat->Rat->Prop}{g:Rat->Rat}(h:∀ a b,R a b->R' (g a) (g b)):∀ {l:List Rat},Cn R l->Cn R' (l.map g)
 | [],_=>trivial
 | [_],_=>trivial
 | a::b::l,k=>⟨h a b k.1,zIB h k.2⟩
def zHZ{R:Rat->Rat->Prop}:∀ {l l':List Rat},Cn R l->Cn R l'->(∀ x y,l.getLast?=some x->l'.head?=some y->R x y)->Cn R (l++l')
 | [],_,_,h,_=>h
 | [a],[],_,_,_=>trivial
 | [a],b::l',_,h,k=>⟨k a b rfl rfl,h⟩
 | a::b::l,l',h,h',k=>⟨h.1,zHZ h.2 h' fun x y hx hy=>k x y (by simpa using hx) hy⟩
def zKc{R R':Rat->Rat->Prop}{g:Rat->Rat}(h:∀ a b,R a b->R' (g b) (g a)):∀ {l:List Rat},Cn R l->Cn R' (l.reverse.map g)
 | [],_=>trivial
 | [_],_=>trivial
 | a::b::l,k=>by
  have ih:=zKc (l:=b::l) h k.2;rw[List.reverse_cons,Q8];refine zHZ ih trivial fun x y hx hy=>?_
  rw[Xu,W6] at hx;cases hx;cases hy;exact h a b k.1
def Lin.mir{f g:Rat->Rat}{a b S c:Rat}(hab:a<=b)(h:Lin f a b)(hg:∀ x,a<=x->x<=b->g (S-x)=c-f x):Lin g (S-b) (S-a):=fun x h1 h2=>by
 have k:=h (S-x) (by grind) (by grind)
 have e:=hg (S-x) (by grind) (by grind)
 rw[show S-(S-x)=x by grind] at e;rw[e,hg a Qh hab,hg b hab Qh];grind
def zMn{w:Wy}{ws cs:List Int}(hw:w.due ws cs)(hc:Cl cs){a b:Rat}(h:Jt w ws cs a b):Jt w.con ws cs ((cs.sum:Rat)-b) ((cs.sum:Rat)-a):=by
 obtain⟨h1,h2,h3,h4⟩:=h;refine⟨by grind,by grind,by grind,fun i hi=>?_⟩
 exact Lin.mir h2 (h4 i hi) (c:=cR cs i) fun x x1 x2=>zNb hw hc (Qz h1 x1) (Qz x2 h3) hi
def zSA{ws cs:List Int}(h:Wt ws cs)(hc:Cl cs){s t:Rat}(s0:0<=s)(st:s<=t)(n:zPz ws cs s t):Jt .even ws cs (QQ ws cs s) (QQ ws cs t):=by
 have g0:∀ i,i<cs.length->∀ t,0<=t->0<=dN (cR cs) (cR ws) t i/\dN (cR cs) (cR ws) t i<=cR cs i:=fun i hi t t0=>pN h hc t0 hi
 have q0:0<=QQ ws cs s:=by
  have:iZ (fun i=>cR ws i*0) (List.range cs.length)<=QQ ws cs s:=sL fun i hi=>by
   have:=(g0 i (Qn.mp hi) s s0).1
   grind
  rw[dI] at this;grind
 have q1:QQ ws cs t<=(cs.sum:Rat):=by
  have:QQ ws cs t<=iZ (cR cs) (List.range cs.length):=sL fun i hi=>(g0 i (Qn.mp hi) t (Qz s0 st)).2
  have e:iZ (cR cs) (List.range cs.length)=(cs.sum:Rat):=sW cs;rw[e] at this;exact this
 refine⟨q0,lG h st,q1,fun i hi=>zQA h st n hi fun x x1 x2=>?_⟩
 obtain⟨M,u,tl,e⟩:=xU (w:=.even) h hc (Qz q0 x1) (Qz x2 q1);exact⟨u,tl.sum,e i hi⟩
def zNp{ws cs:List Int}(h:Wt ws cs)(hc:Cl cs){ls:List Rat}(so:ls.Pairwise (·<=·))(hm:∀ i,i<cs.length->lv ws cs i∈ls)(h0:∀ x∈ls,0<=x):Cn (Jt .even ws cs) ((0::ls).map (QQ ws cs)):=by
 have so':(0::ls).Pairwise (·<=·):=Qp.mpr ⟨h0,so⟩;have cn:=vN (A:=0::ls) so' fun x hx=>.inl hx
 have pos:∀ {l:List Rat},(∀ x∈l,0<=x)->Cn (fun s t=>s<=t/\∀ x∈0::ls,x<=s∨t<=x) l->Cn (fun s t=>0<=s/\s<=t/\∀ x∈0::ls,x<=s∨t<=x) l:=by
  intro l
  induction l with
  | nil=>intro _ _;trivial
  | cons a r ih=>
   intro hp k
   cases r with
   | nil=>trivial
   | cons b r=>exact⟨⟨hp a Qb,k.1⟩,ih (fun x hx=>hp x (Qc _ hx)) k.2⟩
 refine zIB (fun a b hab=>?_) (pos (fun x hx=>?_) cn)
 ·exact zSA h hc hab.1 hab.2.1 fun i hi=>hab.2.2 _ (Qc _ (hm i hi))
 ·rcases Qd.mp hx with rfl | hx
  ·exact Qh
  ·exact h0 x hx
def wT{cs:List Int}(hc:Cl cs){q:Rat}(q0:0<=q)(q1:q+q<=(cs.sum:Rat)){i:Nat}(hi:i<cs.length):FF .half [] cs q i=FF .even (ones cs) cs (q+q) i*hf:=by
 have s0:(0:Rat)<=(cs.sum:Rat):=by exact_mod_cast hc.sum.1
 obtain⟨M,t,tl,e⟩:=xU (w:=.even) (ws:=ones cs) (fH cs) hc (q:=q+q) (by grind) q1
 rw[<-zCx (M:=M) (w:=.half) (ws:=[]) (f:=fun i=>dN (cR cs) (cR (ones cs)) t i*hf) rfl hc q0 (by grind) ⟨t,.inl ⟨q1,tl,fun i _=>rfl⟩⟩ hi,e i hi]
def zNY{cs:List Int}(hc:Cl cs){a b:Rat}(h:Jt .even (ones cs) cs a b):Jt .half [] cs (a*hf) (b*hf):=by
 obtain⟨h1,h2,h3,h4⟩:=h;have tw:∀ x:Rat,x*hf+x*hf=x:=fun x=>by rw[jG];grind
 have ta:=tw a;have tb:=tw b;have p:(0:Rat)<hf:=by rw[jG];grind
 have l1:=Vv h1 (Qg p);have l2:=Vv h2 (Qg p);refine⟨by grind,l2,by grind,fun i hi x x1 x2=>?_⟩
 have fx:∀ y,a*hf<=y->y<=b*hf->FF .half [] cs y i=FF .even (ones cs) cs (y+y) i*hf:=fun y y1 y2=>wT hc (by grind) (by grind) hi
 show(FF .half [] cs x i-FF .half [] cs (a*hf) i)*_=_*(FF .half [] cs (b*hf) i-FF .half [] cs (a*hf) i)
 rw[fx x x1 x2,fx (a*hf) Qh l2,fx (b*hf) l2 Qh,ta,tb];have k:=h4 i hi (x+x) (by grind) (by grind)
 have k':(FF .even (ones cs) cs (x+x) i-FF .even (ones cs) cs a i)*(b-a)=(x+x-a)*(FF .even (ones cs) cs b i-FF .even (ones cs) cs a i):=k;rw[show b*hf-a*hf=(b-a)*hf by grind];have hh:hf*(1+1)=1:=by rw[jG];grind
 generalize FF Wy.even (ones cs) cs (x+x) i=u at *;generalize FF Wy.even (ones cs) cs a i=v at *;generalize FF Wy.even (ones cs) cs b i=z at *;generalize hf=H at *;grind
structure JL (w:Wy) (ws cs:List Int) (l:List Rat):Prop where
 cn:Cn (Jt w ws cs) l
 hd:l.head?=some 0
 la:l.getLast?=some (cs.sum:Rat)
def ddR:Rat->List Rat->List Rat
 | _,[]=>[]
 | k,x::l=>if k<x then x::ddR x l else ddR k l
def zOd{w:Wy}{ws cs:List Int}:∀ {l:List Rat} {k:Rat},Cn (Jt w ws cs) (k::l)->Cn (fun a b=>a<b/\Jt w ws cs a b) (k::ddR k l)/\(k::ddR k l).getLast?=(k::l).getLast?
 | [],k,_=>⟨trivial,rfl⟩
 | x::l,k,h=>by
  rw[ddR];by_cases z:k<x
  ·rw[Jk z]
   obtain⟨i1,i2⟩:=zOd h.2;refine⟨⟨⟨z,h.1⟩,i1⟩,?_⟩
   rw[Y5,Y5];exact i2
  ·rw[Jl z]
   have e:k=x:=by have:=h.1.2.1;grind
   subst e;obtain⟨i1,i2⟩:=zOd h.2;refine⟨i1,?_⟩
   rw[i2,Y5]
def zIQ:∀(l:List Rat)(k:Rat),(ddR k l).Sublist l
 | [],_=>List.Sublist.refl _
 | x::l,k=>by
  rw[ddR];split
  ·exact(zIQ l x).cons₂ x
  ·exact(zIQ l k).cons x
structure JS (w:Wy) (ws cs:List Int) (l:List Rat):Prop where
 cn:Cn (fun a b=>a<b/\Jt w ws cs a b) l
 hd:l.head?=some 0
 la:l.getLast?=some (cs.sum:Rat)
def JL.js{w:Wy}{ws cs:List Int}{l:List Rat}(h:JL w ws cs (0::l)):JS w ws cs (0::ddR 0 l):=by
 obtain⟨a,b⟩:=zOd h.cn;exact⟨a,rfl,by rw[b];exact h.la⟩
def zOr{R:Rat->Rat->Prop}:∀ {l:List Rat},Cn (fun a b=>a<b/\R a b) l->l.Pairwise (· < ·)
 | [],_=>.nil
 | [a],_=>Uz ..
 | a::b::l,h=>by
  have ih:=zOr h.2;refine Qp.mpr ⟨fun x hx=>?_,ih⟩
  rcases Qd.mp hx with rfl | hx
  ·exact h.1.1
  ·have z1:=h.1.1
   have z2:=(Qp.mp ih).1 x hx;grind
def zRd{R:Rat->Rat->Prop}:∀ {l:List Rat} {k:Nat} {a b:Rat},Cn R l->l[k]?=some a->l[k+1]?=some b->R a b
 | x::y::l,0,a,b,h,e1,e2=>by cases e1;cases e2;exact h.1
 | x::y::l,k+1,a,b,h,e1,e2=>zRd (k:=k) h.2 (by simpa using e1) (by simpa using e2)
 | [x],0,a,b,h,e1,e2=>by simp at e2
 | [x],k+1,a,b,h,e1,e2=>by simp at e2
 | [],k,a,b,h,e1,e2=>by simp at e1
def jpt(w:Wy)(ws cs:List Int)(l:List Rat)(i:Nat):List Pt:=l.map fun q=>(q,FF w ws cs q i)
def JS.bd{w:Wy}{ws cs:List Int}{l:List Rat}(h:JS w ws cs l):∀ x∈l,0<=x/\x<=(cs.sum:Rat):=by
 have p:=zOr h.cn;intro x hx;obtain⟨hd,la⟩:=(⟨h.hd,h.la⟩:_/\_)
 cases l with
 | nil=>cases hx
 | cons a r=>
  cases hd;refine⟨?_,?_⟩
  ·rcases Qd.mp hx with rfl | hx
   ·exact Qh
   ·exact Qg ((Qp.mp p).1 x hx)
  ·have key:∀ {l:List Rat} {e x:Rat},l.Pairwise (· < ·)->l.getLast?=some e->x∈l->x<=e:=by
    intro l
    induction l with
    | nil=>intro e x _ _ hx;cases hx
    | cons a r ih=>
     intro e x hp he hx;obtain⟨p1,p2⟩:=Qp.mp hp
     cases r with
     | nil=>rw[Qw.mp hx];cases he;exact Qh
     | cons b r=>
      rw[Y5] at he;rcases Qd.mp hx with rfl | hx
      ·exact Qz (Qg (p1 b Qb)) (ih p2 he Qb)
      ·exact ih p2 he hx
   exact key p la hx
def zFs{w:Wy}{ws cs:List Int}{l:List Rat}(hw:w.due ws cs)(hc:Cl cs)(h:JS w ws cs l){i:Nat}(hi:i<cs.length):Ok (jpt w ws cs l i)/\(jpt w ws cs l i).getLast?=some ((cs.sum:Rat),cR cs i):=by
 have b:=h.bd;refine⟨⟨?_,?_⟩,?_⟩
 ·unfold jpt
  rw[Yu,h.hd];show some ((0:Rat),FF w ws cs 0 i)=_
  rw[zHU hw hc hi]
 ·unfold jpt
  rw[Xa];refine X5 (fun {x y} hx hy hxy=>?_) (zOr h.cn)
  exact⟨hxy,zOw hw hc (b x hx).1 (Qg hxy) (b y hy).2 hi⟩
 ·unfold jpt
  rw[Xu,h.la];show some ((cs.sum:Rat),FF w ws cs (cs.sum:Rat) i)=_
  rw[zEi hw hc hi]
def zPa{w:Wy}{ws cs:List Int}{l:List Rat}(hw:w.due ws cs)(hc:Cl cs)(h:JS w ws cs l){i:Nat}(hi:i<cs.length){x:Rat}(x0:0<=x)(x1:x<=(cs.sum:Rat)):aO (jpt w ws cs l i) x=FF w ws cs x i:=by
 obtain⟨ok,la⟩:=zFs hw hc h hi
 have pt:∀ {k:Nat} {p:Pt},(jpt w ws cs l i)[k]?=some p->l[k]?=some p.1/\p.2=FF w ws cs p.1 i:=fun {k p} e=>by
  unfold jpt at e;rw[Qt] at e
  cases hk:l[k]? with
  | none=>rw[hk] at e;cases e
  | some a=>rw[hk] at e;cases e;exact⟨rfl,rfl⟩
 rcases tJ ok.2 la (fun p hp=>by rw[ok.1] at hp;cases hp;exact x0) x1 with⟨k,p,e1,e2⟩ | ⟨k,p,q,e1,e2,e3,e4⟩
 ·have v:=bF ok.2 e1
  rw[(pt e1).2,e2] at v;exact v
 ·rw[bX ok.2 e1 e2 (Qg e3) (Qg e4)]
  obtain⟨a1,a2⟩:=pt e1;obtain⟨b1,b2⟩:=pt e2;obtain⟨lt,j⟩:=zRd h.cn a1 b1;have k:=j.2.2.2 i hi x (Qg e3) (Qg e4);have k':(FF w ws cs x i-FF w ws cs p.1 i)*(q.1-p.1)=(x-p.1)*(FF w ws cs q.1 i-FF w ws cs p.1 i):=k;unfold itp;rw[a2,b2];generalize FF w ws cs x i=u at *;generalize FF w ws cs p.1 i=v at *;generalize FF w ws cs q.1 i=z at *;have nz:q.1-p.1≠0:=by grind
  refine jP nz ?_
  have e:(x-p.1) / (q.1-p.1)*(q.1-p.1)=x-p.1:=Xd nz;generalize (x-p.1) / (q.1-p.1)=r at *;grind
def wln(w:Wy)(ws cs:List Int)(l:List Rat)(i:Nat):List Pt:=jT (jpt w ws cs l i)
def zNh{w:Wy}{ws cs:List Int}{l:List Rat}(hw:w.due ws cs)(hc:Cl cs)(h:JS w ws cs l){i:Nat}(hi:i<cs.length):zLx (wln w ws cs l i)/\(wln w ws cs l i).getLast?=some ((cs.sum:Rat),cR cs i)/\(∀ p∈wln w ws cs l i,p.1∈l/\p.2=FF w ws cs p.1 i)/\∀ x,0<=x->x<=(cs.sum:Rat)->aO (wln w ws cs l i) x=FF w ws cs x i:=by
 obtain⟨ok,la⟩:=zFs hw hc h hi;unfold wln;refine⟨jE ok,by rw[pA ok.2];exact la,fun p hp=>?_,fun x x0 x1=>by rw[rQ ok.2];exact zPa hw hc h hi x0 x1⟩
 have m:=(jD ok.2).subset hp;unfold jpt at m;obtain⟨q,hq,rfl⟩:=Ql.mp m;exact⟨hq,rfl⟩
def uZ:∀ {l m:List Rat},l.Perm m->l.Pairwise (·<=·)->m.Pairwise (·<=·)->l=m
 | [],m,p,_,_=>(List.nil_perm.mp p).symm
 | a::l,[],p,_,_=>by cases (List.perm_nil.mp p)
 | a::l,b::m,p,h,k=>by
  obtain⟨h1,h2⟩:=Qp.mp h;obtain⟨k1,k2⟩:=Qp.mp k
  have e:a=b:=by
   have x:a<=b:=by
    rcases Qd.mp (p.mem_iff.mpr Qb) with e | e
    ·rw[e];exact Qh
    ·exact h1 b e
   have y:b<=a:=by
    rcases Qd.mp (p.mem_iff.mp Qb) with e | e
    ·rw[e];exact Qh
    ·exact k1 a e
   grind
  subst e;rw[uZ (List.perm_cons a |>.mp p) h2 k2]
def zCp{cs:List Int}{cd:D}(sc:Sq cd cs)(hc:Cl cs):fK [cd]=.ok (.f ((rj cs 0).map dq)):=by
 have hi:=hc.hi
 have lp:∀(r:List Int)(a:Int)(acc:List D)(s:Sl),acc.length+r.length<=1000->∃ a' s',gE (gName 3) oR (r.map D.int) [.val cd,.val (.int a),.own (acc++[dq (a:Rat)]),s]=.ok (.nx [.val cd,a',.own (acc++(rj r a).map dq),s']):=by
  intro r
  induction r with
  | nil=>intro a acc s _;exact⟨_,s,rfl⟩
  | cons c r ih=>
   intro a acc s hl;rw[Qk] at hl;obtain⟨a',s',e⟩:=ih (a+c) (acc++[dq (a:Rat)]) (.val (.int c)) (by rw[Qo];simp;omega)
   refine⟨a',s',?_⟩
   rw[Qq,dD (ρ1:=[.val cd,.val (.int a),.own (acc++[dq (a:Rat)]),.val (.int c)]) (ρ2:=[.val cd,.val (.int (a+c)),.own (acc++[dq (a:Rat)]++[dq ((a+c:Int):Rat)]),.val (.int c)]) rfl (by
    erw[bP];symm
    rw[Jk (by rw[Qo];simp;omega)]),e,rj,Qq,Vr]
   rfl
 obtain⟨a',s',e⟩:=lp cs 0 [] .un (by simp;omega)
 rw[Xp,Xp] at e;unfold fK;erw[sc.seq];symm;have e0:dq ((0:Int):Rat)=dq 0:=rfl;rw[e0] at e;rw[e];symm
def zIs{ws cs:List Int}(h:Wt ws cs){i:Nat}{pre post:List Nat}(hm:∀ j∈pre++i::post,j<cs.length)(so:(pre++i::post).Pairwise fun a b=>lv ws cs a<=lv ws cs b)(p:(pre++i::post).Perm (List.range cs.length)):QQ ws cs (lv ws cs i)=((wS cs pre:Int):Rat)+lv ws cs i*((wS ws (i::post):Int):Rat):=by
 unfold QQ;rw[<-uK p]
 have app:∀(f:Nat->Rat)(a b:List Nat),iZ f (a++b)=iZ f a+iZ f b:=by
  intro f a b
  induction a with
  | nil=>rw[Xp,iT,W7]
  | cons x a ih=>rw[Uc,bC,bC,ih];grind
 obtain⟨s1,s2,s3⟩:=Y6.mp so;rw[app,eM (g:=cR cs) (l:=pre) fun j hj=>zGx h (hm j (Xx _ hj)) (s3 j hj i Qb),nH]
 rw[eM (g:=fun j=>cR ws j*lv ws cs i) (l:=i::post) fun j hj=>zGM h (hm j (Q2 _ hj)) (by
  rcases Qd.mp hj with rfl | hj
  ·exact Qh
  ·exact(Qp.mp s2).1 j hj),dI,nH]
def zPI{ws cs:List Int}(h:Wt ws cs)(hc:Cl cs){i:Nat}(hi:i<cs.length):Sz 104 (lv ws cs i)/\Dn (ws.getD i 0) (lv ws cs i):=by
 have w:=h.at hi;have c1:=hc.nn _ (Qi (bL hi));have c2:=hc.up _ (Qi (bL hi));refine⟨?_,cs.getD i 0,?_⟩
 ·unfold lv cR
  rw[<-Y2];exact Sz.of ⋯ ⋯ ⋯
 ·have e:=zD h hi
  have e':((ws.getD i 0:Int):Rat)*lv ws cs i=((cs.getD i 0:Int):Rat):=e;rw[<-e'];grind
def zNX{cs:List Int}(hn:∀ c∈cs,0<=c):∀ {π:List Nat},(∀ i∈π,i<cs.length)->0<=wS cs π
 | [],_=>by show(0:Int)<=0;decide
 | i::π,h=>by
  rw[nL];have a:=hn _ (Qi (bL (h i Qb)));have b:=zNX hn fun j hj=>h j (Qc _ hj)
  omega
def zMG(cs:List Int)(a b:List Nat):wS cs (a++b)=wS cs a+wS cs b:=by unfold wS;rw[Q8,Xm]
def qT{ws cs:List Int}{wd cd:D}(sw:Sq wd ws)(sc:Sq cd cs)(h:Wt ws cs)(hc:Cl cs):∃ ls:List Rat,dC [wd,cd]=.ok (.f (((0::ls).map (QQ ws cs)).map dq))/\ls.Pairwise (·<=·)/\ls.Perm ((List.range cs.length).map (lv ws cs))/\QQ ws cs 0=0:=by
 have hcc:∀ c∈cs,0<=c/\c<10^30:=fun c h=>⟨hc.nn c h,hc.up c h⟩
 have hi:=hc.hi;have sm:=hc.sum;have hw:=h.len;have hkr:=zB (zMN h hcc) (by rw[zBz hw];exact hi)
 generalize hkz:(lvs ws cs).map (zKL (tY (lvs ws cs)))=kz at hkr;have lz:kz.length=cs.length:=by rw[<-hkz,Qe,zBz hw]
 have B0:(0:Rat)<(tY (lvs ws cs):Rat):=by exact_mod_cast zBA (lvs ws cs)
 have kat:∀ i,i<cs.length->((kz.getD i 0:Int):Rat)=lv ws cs i*(tY (lvs ws cs):Rat):=fun i h=>by
  have e:=zJw hw h;have e2:kz.getD i 0=zKL (tY (lvs ws cs)) (cR cs i / cR ws i):=by rw[<-hkz,Qv,Qt,e];rfl
  rw[e2];exact zMr (Qi e)
 have z0:QQ ws cs 0=0:=by
  unfold QQ;rw[eM (g:=fun i=>cR ws i*0) fun i hi=>zGM h (Qn.mp hi) (zKl h hc (Qn.mp hi)),dI];grind
 have ord:∀ π,gG kz π->π.Perm (List.range cs.length)/\(∀ i∈π,i<cs.length)/\π.Pairwise fun a b=>lv ws cs a<=lv ws cs b:=by
  intro π hπ;obtain⟨hp,ho,_⟩:=hπ;rw[lz] at hp;have hm:∀ i∈π,i<cs.length:=fun i h=>Qn.mp (hp.mem_iff.mp h)
  refine⟨hp,hm,X5 (fun {i j} h1 h2 h3=>?_) ho⟩
  have h4:((kz.getD i 0:Int):Rat)<=((kz.getD j 0:Int):Rat):=X7.mpr h3;rw[kat i (hm i h1),kat j (hm j h2)] at h4;exact Yk h4 B0
 obtain⟨π0,hπ0⟩:=zDI kz;obtain⟨p0,m0,s0⟩:=ord π0 hπ0
 have key:∀ π,gG kz π->π.map (lv ws cs)=π0.map (lv ws cs):=fun π hπ=>by
  obtain⟨p1,m1,s1⟩:=ord π hπ;exact uZ ((p1.trans p0.symm).map _) (Xa.mpr s1) (Xa.mpr s0)
 refine⟨π0.map (lv ws cs),?_,Xa.mpr s0,p0.map _,z0⟩
 have lp:∀(π:List Nat)(hπ:π.Perm (List.range cs.length))(so:π.Pairwise fun a b=>lv ws cs a<=lv ws cs b)(post pre:List Nat)(acc:List D)(s:Sl),π=pre++post->acc.length+post.length<=100->∃ a' b' s',gE (gName 6) fW (kQ post) [.val wd,.val cd,.val (.int (wS cs pre)),.val (.int (wS ws post)),.val (.lst ((lvs ws cs).map dq)),.own acc,s]=.ok (.nx [.val wd,.val cd,a',b',.val (.lst ((lvs ws cs).map dq)),.own (acc++post.map fun i=>dq (QQ ws cs (lv ws cs i))),s']):=by
  intro π hπ so post
  induction post with
  | nil=>intro pre acc s _ _;exact⟨_,_,s,by rw[Xh,Vm];rfl⟩
  | cons i post ih=>
   intro pre acc s e hl;have hm:∀ j∈pre++i::post,j<cs.length:=fun j hj=>Qn.mp (hπ.mem_iff.mp (by rw[e];exact hj))
   have hii:=hm i (by simp)
   have ss:=zIs h hm (by rw[<-e];exact so) (by rw[<-e];exact hπ)
   have W:=h.sum (π:=i::post) fun j hj=>hm j (Q2 _ hj)
   have ln:(pre++i::post).length=cs.length:=by rw[<-e,hπ.length_eq,Q3]
   rw[Qo,Qk] at ln;rw[Qk] at W hl;have F0:=zNX hc.nn (π:=pre) fun j hj=>hm j (Xx _ hj)
   have F1:wS cs pre<=cs.sum:=by
    have t:=zBi (ws:=cs) (π:=pre++i::post) (by rw[<-e];exact hπ)
    rw[zMG] at t;have:=zNX hc.nn (π:=i::post) fun j hj=>hm j (Q2 _ hj)
    omega
   obtain⟨a',b',s',e'⟩:=ih (pre++[i]) (acc++[dq (QQ ws cs (lv ws cs i))]) (.val (.int (i:Nat))) (by rw[e];simp) (by rw[Qo];simp;omega)
   refine⟨a',b',s',?_⟩
   have zl:=(zPI h hc hii).1;have zW:Sz 24 ((wS ws (i::post):Int):Rat):=cS ⋯ ∅
   have zF:Sz 105 ((wS cs pre:Int):Rat):=cS ⋯ ∅
   have ixl:oIx (.lst ((lvs ws cs).map dq)) (.int (i:Int))=.ok (dq (lv ws cs i)):=kE (Vw i) (zJw hw hii);show gE _ _ (.int (i:Nat)::kQ post) _=_
   rw[dD (ρ1:=[.val wd,.val cd,.val (.int (wS cs pre)),.val (.int (wS ws (i::post))),.val (.lst ((lvs ws cs).map dq)),.own acc,.val (.int (i:Nat))]) (ρ2:=[.val wd,.val cd,.val (.int (wS cs (pre++[i]))),.val (.int (wS ws post)),.val (.lst ((lvs ws cs).map dq)),.own (acc++[dq (QQ ws cs (lv ws cs i))]),.val (.int (i:Nat))]) rfl (by
    erw[bP,ixl,bP,nJ zl zW ∅];symm;rw[yU zF (zl.mul zW) ∅,<-ss];erw[Jk ⋯,sc.ix hii,sw.ix ⋯];symm
    rw[zMG,nL ws,show wS cs [i]=cs.getD i 0 by unfold wS;simp,show ws.getD i 0+wS ws post-ws.getD i 0=wS ws post by omega]),e',Vr]
   rfl
 have one:∀ π,gG kz π->aY (fun ρ=>gE (gName 6) fW (kQ π) ρ) nE [.val wd,.val cd,.val (.int 0),.val (.int ws.sum),.val (.lst ((lvs ws cs).map dq)),.own [dq 0],.un]=.ok (.ret (.f (((0::π0.map (lv ws cs)).map (QQ ws cs)).map dq))):=by
  intro π hπ;obtain⟨p1,m1,s1⟩:=ord π hπ;have lπ:π.length=cs.length:=by rw[p1.length_eq,Q3]
  obtain⟨a',b',s',e⟩:=lp π p1 s1 π [] [dq 0] .un rfl (by simp;omega)
  rw[show wS cs []=0 from rfl,zBi (ws:=ws) (π:=π) (by rw[hw];exact p1)] at e;refine(zMl (a:=fun ρ=>gE (gName 6) fW (kQ π) ρ) e).trans ?_
  rw[<-key π hπ,Qq,z0,Qq,Qx,Qx];rfl
 unfold dC;erw[sw.sum,wI sw sc h hi];symm;unfold nQ;rw[zKf (kz:=kz) (by symm; exact hkr) one];rfl
def rV{l:List Rat}{S:Int}(hl:l.length<=1000)(hz:∀ x∈l,Sz 300 x)(hS:S.natAbs<2^105):gX [.lst (l.map dq),dq (S:Rat)]=.ok (.f ((l.reverse.map fun x=>(S:Rat)-x).map dq)):=by
 have zS:Sz 105 (S:Rat):=cS hS ∅
 unfold gX;erw[show(l.map dq).reverse=l.reverse.map dq by rw[List.map_reverse]]
 rw[dQ (u:=dq) (g:=fun x=>dq ((S:Rat)-x)) (by rw[Vx];omega) (fun x hx=>by
  erw[eT zS (hz x (W8.mp hx)) ∅]
  symm)]
 erw[Qx];rfl
def rP{l:List Rat}(hl:l.length<=900)(hz:∀ x∈0::l,Sz 300 x):cV [.lst ((0::l).map dq)]=.ok (.f ((0::ddR 0 l).map dq)):=by
 have lp:∀(r:List Rat)(acc:List Rat)(k:Rat)(d:Sl)(s:Sl),(∀ x∈r,Sz 300 x)->Sz 300 k->acc.length+r.length<=1000->∃ s',gE (gName 2) jI (r.map dq) [d,.own ((acc++[k]).map dq),s]=.ok (.nx [d,.own ((acc++k::ddR k r).map dq),s']):=by
  intro r
  induction r with
  | nil=>intro acc k d s _ _ _;exact⟨s,rfl⟩
  | cons x r ih=>
   intro acc k d s hr hk hl;rw[Qk] at hl;have hx:=hr x Qb;have ixk:oIx (.lst ((acc++[k]).map dq)) (.int (-1))=.ok (dq k):=zDV (k:=1) rfl ∅ (by rw[Qo];simp) (by rw[Qo];simp)
   have hr':∀ y∈r,Sz 300 y:=fun y hy=>hr y (Qc _ hy)
   rw[Qq,ddR];by_cases z:k<x
   ·obtain⟨s',e⟩:=ih (acc++[k]) x d (.val (dq x)) hr' hx (by rw[Qo];simp;omega)
    refine⟨s',?_⟩
    rw[Jk z,dD (ρ1:=[d,.own ((acc++[k]).map dq),.val (dq x)]) (ρ2:=[d,.own ((acc++[k]++[x]).map dq),.val (dq x)]) rfl (by
     cases d<;>(
      erw[ixk];symm;rw[kB hk hx ∅,J5 z];symm;rw[Jk (by rw[Qo];simp;omega),Q8 (l₁:=acc++[k])]
      rfl)),e,Vr]
    rfl
   ·obtain⟨s',e⟩:=ih acc k d (.val (dq x)) hr' hk ⋯
    refine⟨s',?_⟩
    rw[Jl z,dD (ρ1:=[d,.own ((acc++[k]).map dq),.val (dq x)]) (ρ2:=[d,.own ((acc++[k]).map dq),.val (dq x)]) rfl (by
     cases d<;>(
      erw[ixk];symm;rw[kB hk hx ∅,Jj z]
      symm)),e]
 obtain⟨s',e⟩:=lp (0::l) [] 0 (.val (.lst ((0::l).map dq))) .un hz ⟨∅,∅⟩ (by simp;omega)
 rw[Xp,Xp,ddR,Jl ∅] at e;unfold cV;symm;rw[zAw ∅,show((1:Int).toNat)=1 from rfl,show List.take 1 (dq 0::l.map dq)=[0].map dq from rfl];rw[Qq] at e;rw[e];rfl
def zSd{B S:Int}{x:Rat}(h:Dn B x)(hB:0<B)(hB':B<2^30)(h0:0<=x)(h1:x<=(S:Rat))(hS:S<2^104):Sz 300 x:=(h.sz (a:=104) (b:=30) hB hB' h0 h1 hS).mono ∅
def Jd(cs:List Int)(l:List Rat):Prop:=l.length<=30/\∀ x∈l,∃ B:Int,0<B/\B<=2*10^6/\Dn B x
def zOW{w:Wy}{ws cs:List Int}:∀ {l:List Rat},Cn (Jt w ws cs) l->2<=l.length->∀ x∈l,0<=x/\x<=(cs.sum:Rat)
 | [],_,h,x,hx=>by cases hx
 | [a],_,h,x,hx=>by simp at h
 | [a,b],h,_,x,hx=>by
  obtain⟨h1,h2,h3,_⟩:=h.1;rcases Qd.mp hx with rfl | hx
  ·exact⟨h1,Qz h2 h3⟩
  ·rw[Qw.mp hx];exact⟨Qz h1 h2,h3⟩
 | a::b::c::l,h,_,x,hx=>by
  obtain⟨h1,h2,h3,_⟩:=h.1;rcases Qd.mp hx with rfl | hx
  ·exact⟨h1,Qz h2 h3⟩
  ·exact zOW h.2 (by simp) x hx
def zMV:∀(r:List Int)(a:Int),∀ x∈rj r a,∃ k:Int,x=(k:Rat)
 | [],a,x,h=>⟨a,Qw.mp h⟩
 | c::r,a,x,h=>by
  rcases Qd.mp h with rfl | h
  ·exact⟨a,rfl⟩
  ·exact zMV r (a+c) x h
def zMB:∀(r:List Int)(a:Int),(rj r a).length=r.length+1/\(rj r a).getLast?=some ((a+r.sum:Int):Rat)
 | [],a=>⟨rfl,by show some (a:Rat)=_;rw[Xe,Int.add_zero]⟩
 | c::r,a=>by
  obtain⟨h1,h2⟩:=zMB r (a+c);refine⟨by rw[rj,Qk,h1,Qk],?_⟩
  obtain⟨t,et⟩:=zDN r (a+c);rw[rj,et,Y5,<-et,h2,Qr,W4]
def zOG{ws cs:List Int}(h:Wt ws cs)(hc:Cl cs){ls:List Rat}(so:ls.Pairwise (·<=·))(pm:ls.Perm ((List.range cs.length).map (lv ws cs))):∀ x∈(0::ls).map (QQ ws cs),∃ B:Int,0<B/\B<=10^6/\Dn B x:=by
 have gd:∀(t:Rat)(B:Int),Dn B t->Dn B (QQ ws cs t):=fun t B hB=>by
  have all:∀ l:List Nat,Dn B (iZ (dN (cR cs) (cR ws) t) l):=by
   intro l
   induction l with
   | nil=>exact Dn.zero B
   | cons i l ih=>
    rw[bC];refine Dn.add (Dn.mn ?_ (Dn.int _ _)) ih
    obtain⟨k,hk⟩:=hB;refine⟨ws.getD i 0*k,?_⟩
    rw[Vb,<-hk];show cR ws i*t*_=cR ws i*_
    grind
  exact all _
 intro x hx;obtain⟨t,ht,rfl⟩:=Ql.mp hx;rcases Qd.mp ht with rfl | ht
 ·exact⟨1,∅,∅,gd 0 1 (Dn.zero 1)⟩
 ·obtain⟨i,hi,rfl⟩:=Ql.mp (pm.mem_iff.mp ht)
  have hi':=Qn.mp hi;have w:=h.at hi';exact⟨ws.getD i 0,⋯,w.2,gd _ _ (zPI h hc hi').2⟩
def zHC(w:Wy):aT.lookup w.s=some w.con.s:=by
 cases w
 ·exact zHD
 ·exact zAl
 ·exact zFy
 ·exact zAW
 ·exact zGm
 ·exact zBo
def zJd(w:Wy):dJ [.str w.s]=.ok (.v (.str w.con.s)):=by
 have e:wX aT (.str w.s)=.ok (.str w.con.s):=by show zPA (aT.lookup w.s)=_;rw[zHC];rfl
 unfold dJ;erw[uS (zHC w),e];symm
def zBF:∀ {l:List Rat} {e x:Rat},l.Pairwise (·<=·)->l.getLast?=some e->x∈l->x<=e
 | [],_,_,_,h,_=>by cases h
 | [a],e,x,_,h,hx=>by rw[Qw.mp hx];cases h;exact Qh
 | a::b::r,e,x,hp,h,hx=>by
  obtain⟨p1,p2⟩:=Qp.mp hp;rw[Y5] at h;rcases Qd.mp hx with rfl | hx
  ·exact Qz (p1 b Qb) (zBF p2 h Qb)
  ·exact zBF p2 h hx
def zNC{ws cs:List Int}(h:Wt ws cs)(hc:Cl cs){ls:List Rat}(so:ls.Pairwise (·<=·))(pm:ls.Perm ((List.range cs.length).map (lv ws cs)))(z0:QQ ws cs 0=0):JL .even ws cs ((0::ls).map (QQ ws cs)):=by
 have hm:∀ i,i<cs.length->lv ws cs i∈ls:=fun i hi=>pm.mem_iff.mpr (Ql.mpr ⟨i,Qn.mpr hi,rfl⟩)
 have h0:∀ x∈ls,0<=x:=fun x hx=>by
  obtain⟨i,hi,rfl⟩:=Ql.mp (pm.mem_iff.mp hx);exact zKl h hc (Qn.mp hi)
 refine⟨zNp h hc so hm h0,by rw[Qq,z0];rfl,?_⟩
 rw[Xu];obtain⟨e,he⟩:∃ e,(0::ls).getLast?=some e:=⟨_,List.getLast?_eq_some_getLast (by simp)⟩
 rw[he];have so':(0::ls).Pairwise (·<=·):=Qp.mpr ⟨h0,so⟩;refine congrArg some ?_
 unfold QQ;rw[eM (g:=cR cs) fun i hi=>zGx h (Qn.mp hi) (zBF so' he (Qc _ (hm i (Qn.mp hi))))];exact sW cs
def zMZ{w:Wy}{ws cs:List Int}(hw:w.due ws cs)(hc:Cl cs){l:List Rat}(h:JL w ws cs l):JL w.con ws cs (l.reverse.map fun x=>(cs.sum:Rat)-x):=by
 refine⟨zKc (fun a b k=>zMn hw hc k) h.cn,?_,?_⟩
 ·rw[Yu,List.head?_reverse,h.la]
  show some ((cs.sum:Rat)-(cs.sum:Rat))=some 0
  rw[show(cs.sum:Rat)-(cs.sum:Rat)=0 by grind]
 ·rw[Xu,W6,h.hd]
  show some ((cs.sum:Rat)-0)=_
  rw[show(cs.sum:Rat)-0=(cs.sum:Rat) by grind]
def zNM{cs:List Int}(hc:Cl cs){l:List Rat}(h:JL .even (ones cs) cs l):JL .half [] cs (l.map (· * hf)++(l.map (· * hf)).reverse.map fun x=>(cs.sum:Rat)-x):=by
 have c1:Cn (Jt .half [] cs) (l.map (· * hf)):=zIB (fun a b k=>zNY hc k) h.cn
 have c2:Cn (Jt .half [] cs) ((l.map (· * hf)).reverse.map fun x=>(cs.sum:Rat)-x):=zKc (fun a b k=>zMn (w:=.half) (ws:=[]) rfl hc k) c1
 have s0:(0:Rat)<=(cs.sum:Rat):=by exact_mod_cast hc.sum.1
 have hh:hf+hf=1:=by rw[jG];grind
 have h0:(0:Rat)<=hf:=by rw[jG];grind
 have m0:=Ux s0 h0;refine⟨zHZ c1 c2 fun x y hx hy=>?_,?_,?_⟩
 ·rw[Xu,h.la] at hx
  rw[Yu,List.head?_reverse,Xu,h.la] at hy;cases hx;cases hy
  have e:(cs.sum:Rat)-(cs.sum:Rat)*hf=(cs.sum:Rat)*hf:=by
   generalize (cs.sum:Rat)=S at *;generalize hf=H at *;grind
  show Jt .half [] cs ((cs.sum:Rat)*hf) ((cs.sum:Rat)-(cs.sum:Rat)*hf)
  rw[e];refine⟨m0,Qh,by grind,fun i hi x x1 x2=>?_⟩
  have:x=(cs.sum:Rat)*hf:=by grind
  subst this;grind
 ·cases l with
  | nil=>cases h.hd
  | cons a l=>
   cases h.hd
   show some ((0:Rat)*hf)=some 0
   rw[Wj]
 ·have ne:((l.map (· * hf)).reverse.map fun x=>(cs.sum:Rat)-x).getLast?=some (cs.sum:Rat):=by
   rw[Xu,W6,Yu,h.hd];show some ((cs.sum:Rat)-0*hf)=_
   rw[show(cs.sum:Rat)-0*hf=(cs.sum:Rat) by grind]
  rw[List.getLast?_append,ne];rfl
def zNt{w:Wy}{ws cs:List Int}(hc:Cl cs){l:List Rat}(h:JL w ws cs l)(h2:2<=l.length)(d:Jd cs l):∀ x∈l,Sz 300 x:=fun x hx=>by
 obtain⟨b0,b1⟩:=zOW h.cn h2 x hx;obtain⟨B,B0,B1,dn⟩:=d.2 x hx;exact zSd dn B0 ⋯ b0 b1 hc.sum.2
def zOm{w:Wy}{ws cs:List Int}{l:List Rat}(h:JL w ws cs l):∃ t,l=0::t:=by
 cases l with
 | nil=>cases h.hd
 | cons a t=>cases h.hd;exact⟨t,rfl⟩
section
variable{n:Nat}{ws cs:List Int}{wd cd e:D}
def zQM(sc:Sq cd cs)(hc:Cl cs):bI (n+1) [.str (Str.ofString "row"),e,cd]=.ok (.f ((rj cs 0).map dq)):=by
 show bW (bI n) _=_
 unfold bW;erw[sc.sum,bP,zCp sc hc];symm
def zML(sw:Sq wd ws)(sc:Sq cd cs)(h:Wt ws cs)(hc:Cl cs):∃ ls:List Rat,bI (n+1) [.str (Str.ofString "even"),wd,cd]=.ok (.f (((0::ls).map (QQ ws cs)).map dq))/\ls.Pairwise (·<=·)/\ls.Perm ((List.range cs.length).map (lv ws cs))/\QQ ws cs 0=0:=by
 obtain⟨ls,e1,e2,e3,e4⟩:=qT sw sc h hc;refine⟨ls,?_,e2,e3,e4⟩
 show bW (bI n) _=_
 unfold bW;erw[sc.sum,bP,zTj,e1];symm
def zQs(sc:Sq cd cs):bI (n+1) [.str (Str.ofString "part"),e,cd]=.ok (.f ([0,(cs.sum:Rat)].map dq)):=by
 show bW (bI n) _=_
 unfold bW;erw[sc.sum,bP,zTt,zTo];symm
def zQk(sc:Sq cd cs)(hc:Cl cs):∃ ls:List Rat,bI (n+1) [.str (Str.ofString "half"),e,cd]=.ok (.f ((((0::ls).map (QQ (ones cs) cs)).map (· * hf)++(((0::ls).map (QQ (ones cs) cs)).map (· * hf)).reverse.map fun x=>(cs.sum:Rat)-x).map dq))/\ls.Pairwise (·<=·)/\ls.Perm ((List.range cs.length).map (lv (ones cs) cs))/\QQ (ones cs) cs 0=0:=by
 obtain⟨ls,e1,e2,e3,e4⟩:=qT (wd:=.lst ((ones cs).map D.int)) (.inl rfl) sc (fH cs) hc;have hi:=hc.hi;have sm:=hc.sum;have W:=fH cs;have jl:=zNC W hc e2 e3 e4;have ll:((0::ls).map (QQ (ones cs) cs)).length=cs.length+1:=by rw[Qe,Qk,e3.length_eq,Qe,Q3]
 have bd:=zOW jl.cn (by rw[ll];have:=hc.lo;omega)
 have dn:=zOG W hc e2 e3;refine⟨ls,?_,e2,e3,e4⟩
 generalize (0::ls).map (QQ (ones cs) cs)=l at *
 have zl:∀ x∈l,Sz 134 x:=fun x hx=>by
  obtain⟨B,B0,B1,d⟩:=dn x hx;exact d.sz (a:=104) (b:=30) B0 ⋯ (bd x hx).1 (bd x hx).2 sm.2
 have eo:(ones cs).map D.int=List.replicate cs.length (.int 1):=by unfold ones;rw[List.map_replicate]
 rw[eo] at e1;have hh:=zQx;unfold d_HALF at hh;show bW (bI n) _=_
 unfold bW;erw[sc.sum,bP,zSL,zSQ,zSW,sc.len,zEZ ⋯,e1];symm
 rw[dQ (u:=dq) (g:=fun x=>dq (x*hf)) ⋯ (fun x hx=>by
  symm;rw[hh,nJ (zl x hx) zJu ∅]
  symm)]
 symm;have lm:l.map (fun x=>dq (x*hf))=(l.map (· * hf)).map dq:=by rw[Qx];rfl
 rw[lm,rV (S:=cs.sum) (by rw[Qe];omega) (fun x hx=>by
  obtain⟨y,hy,rfl⟩:=Ql.mp hx
  exact((zl y hy).mul zJu).mono ∅) ⋯]
 symm;rw[Jk (by simp only[Vx,Qe];omega),Q8];symm
end
def SzQ(a b:Nat)(p:Pt):Prop:=Sz a p.1/\Sz b p.2
def zDl{a b c:Pt}{n m:Nat}(ha:SzQ n m a)(hb:SzQ n m b)(hc:SzQ n m c)(h:2*n+2*m+2<=8999):hZ [dp a,dp b,dp c]=.ok (.v (.bl (btw a b c))):=by
 unfold hZ;erw[eT hb.2 ha.2 ⋯,eT hc.2 hb.2 ⋯,eT hb.1 ha.1 ⋯,eT hc.1 hb.1 ⋯,nJ (hb.2.sub ha.2) (hc.1.sub hb.1) ⋯,nJ (hc.2.sub hb.2) (hb.1.sub ha.1) ⋯];symm;rfl
def zDC{d:D}{ps:List Pt}{n m:Nat}(hd:d=.lst (ps.map dp)∨d=.tup (ps.map dp))(hl:ps.length<=100000)(hs:∀ p∈ps,SzQ n m p)(hn:2*n+2*m+2<=8999)(hk:Ok ps):iE [d]=.ok (.v .non):=by
 obtain⟨hh,hp⟩:=hk;have ln:nD [d]=.ok (.int (ps.length:Int)):=by rcases hd with rfl | rfl<;>simp[bLen_l,bLen_t]
 have ix:∀(i:Int)(k:Nat)(a:Pt),i=(k:Int)->ps[k]?=some a->oIx d (.int i)=.ok (dp a):=by
  intro i k a hi ha;subst hi;rcases hd with rfl | rfl
  ·exact kE ⋯ (by simpa using ha)
  ·exact pL ⋯ (by simpa using ha)
 clear hd
 have hpos:0<ps.length:=by cases ps with
  | nil=>cases hh
  | cons a r=>exact Ug _
 have h0:ps[0]?=some (0,0):=by rw[<-Xs];exact hh
 unfold iE;erw[ln,Jj ⋯,ix 0 0 _ rfl h0,ln,zEQ ⋯ ⋯ ⋯ ⋯];symm;refine kW (Q:=fun r=>r=Res.ok (Rt.v D.non)) (fun i ρ=>∃ a b c,ρ=[.val d,a,b,c]) ⟨_,_,_,rfl⟩ ?_ ?_
 ·rintro i e ρ hd ⟨a,b,c,rfl⟩
  obtain⟨hi,rfl⟩:=zFF hd;have h1:ps[i]?=some ps[i]:=Qm _;have h2:ps[i+1]?=some ps[i+1]:=Qm _;have z1:=hs _ (Qi h1);have z2:=hs _ (Qi h2);have za:=lB hp (Vn i) h1 h2;generalize ps[i]=u at h1 z1 za;generalize ps[i+1]=v at h2 z2 za;erw[ix _ i _ ⋯ h1,ix _ (i+1) _ ⋯ h2,kB z1.1 z2.1 ⋯,J5 za.1,kB z2.2 z1.2 ⋯,Jj (by rw[V3];exact za.2)];symm;exact⟨_,rfl,_,_,_,rfl⟩
 ·rintro ρ' ⟨a,b,c,rfl⟩
  rfl
def kY{d:D}{ps:List Pt}{n m:Nat}(hd:d=.lst (ps.map dp)∨d=.tup (ps.map dp))(hl:ps.length<=100000)(hs:∀ p∈ps,SzQ n m p)(hn:2*n+2*m+2<=8999)(hk:Ok ps):cG [d]=.ok (.v (.tup ((jT ps).map dp))):=by
 have sq:zNd d=.ok (ps.map dp):=by rcases hd with rfl | rfl<;>rfl
 unfold cG;erw[zDC hd hl hs hn hk,sq];symm;refine kW (Q:=fun r=>r.bind fin=.ok (.v (.tup ((jT ps).map dp)))) (fun i ρ=>∃ a,ρ=[.val d,.own (((ps.take i).foldl push []).reverse.map dp),a]/\(∀ p∈(ps.take i).foldl push [],SzQ n m p)/\((ps.take i).foldl push []).length<=i) ⟨_,rfl,fun p hp=>by(rw[Yj] at hp;cases hp),by rw[Yj];exact Qf _⟩ ?_ ?_
 ·rintro i e ρ hd ⟨a,rfl,hz,hlen⟩
  rw[Qt] at hd
  cases hq:ps[i]? with
  | none=>rw[hq] at hd;cases hd
  | some p=>
   rw[hq] at hd;cases hd;have hi:i<ps.length:=(Qy.mp hq).1;have zp:=hs _ (Qi hq);rw[nY hq,List.foldl_append,Wc,List.foldl_nil];generalize (ps.take i).foldl push []=s at hz hlen;generalize hK:(wZ:Sv)=K;symm;by_cases hc:1<s.length
   case neg=>
    rw[Vx,Jj ⋯];subst hK;symm;rw[Jk (by rw[Vx];omega),zHt hc];exact⟨_,rfl,.val (dp p),by simp,by intro q hq;rcases Qd.mp hq with rfl | hq;exact zp;exact hz q hq,by simp;omega⟩
   match s,hz,hlen,hc with
   | [],_,_,hc=>exact absurd hc ∅
   | [b],_,_,hc=>exact absurd hc (by simp)
   | b::a::s,hz,hlen,_=>
    have za:=hz a (Qc _ Qb);have zb:=hz b Qb;have zs:∀ q∈s,SzQ n m q:=fun q hq=>hz q (Qc _ (Qc _ hq))
    have e1:((b::a::s).reverse)[(b::a::s).reverse.length-1]?=some b:=by simp
    have e2:((b::a::s).reverse)[(b::a::s).reverse.length-2]?=some a:=by simp
    rw[Qk,Qk] at hlen;have hll:(b::a::s).reverse.length=s.length+2:=by simp
    rw[hll];rw[J5 ⋯];erw[zDV (i:=-2) (k:=2) rfl ∅ (by rw[hll];omega) e2,zDV (i:=-1) (k:=1) rfl ∅ (by rw[hll];omega) e1,zDl za zb zp hn];symm
    cases hb:btw a b p with
    | false=>
     subst hK;symm;rw[hll,Jk ⋯];refine⟨_,rfl,.val (dp p),?_,?_,?_⟩
     ·rw[push,hb]
      simp
     ·rw[push,hb]
      intro q hq;rcases Qd.mp hq with rfl | hq
      ·exact zp
      ·exact hz q hq
     ·rw[push,hb]
      simp;omega
    | true=>
     subst hK;symm;rw[hll,Jl ⋯];erw[Jk (by simp;omega)];refine⟨_,rfl,.val (dp p),?_,?_,?_⟩
     ·rw[push,hb]
      simp
     ·rw[push,hb]
      intro q hq;rcases Qd.mp hq with rfl | hq
      ·exact zp
      ·exact hz q (Qc _ hq)
     ·rw[push,hb]
      simp;omega
 ·rintro ρ' ⟨a,rfl,_,_⟩
  rw[Qe,Vu];symm;rfl
def zQJ{w:Wy}{ws cs:List Int}{wd cd:D}{l:List Rat}(hw:w=.back∨w=.lack)(sc:Sq cd cs)(hc:Cl cs)(hl:l.length<=30)(hz:∀ x∈l,Sz 300 x)(e:bI 1 [.str w.con.s,wd,cd]=.ok (.f (l.map dq))):bI 2 [.str w.s,wd,cd]=.ok (.f ((l.reverse.map fun x=>(cs.sum:Rat)-x).map dq)):=by
 have sm:=hc.sum;have c:=zJd w;show bW (bI 1) _=_
 unfold bW;erw[sc.sum,bP];symm;rcases hw with rfl | rfl
 ·rw[show Wy.back.s=Str.ofString "back" from rfl,zTl]
  erw[zTs,zTE,zTm];symm;rw[show Str.ofString "back" = Wy.back.s from rfl,c];erw[e,rV ⋯ hz ⋯];symm
 ·rw[show Wy.lack.s=Str.ofString "lack" from rfl,zTB]
  erw[zTz,zTu,zTx];symm;rw[show Str.ofString "lack" = Wy.lack.s from rfl,c];erw[e,rV ⋯ hz ⋯];symm
def zMy{cs:List Int}{l:List Rat}(h:Jd cs l):Jd cs (l.reverse.map fun x=>(cs.sum:Rat)-x):=by
 refine⟨by rw[Qe,Vx];exact h.1,fun x hx=>?_⟩
 obtain⟨y,hy,rfl⟩:=Ql.mp hx;obtain⟨B,b0,b1,d⟩:=h.2 y (W8.mp hy);exact⟨B,b0,b1,(Dn.int B cs.sum).sub d⟩
def zLz{w:Wy}{ws cs:List Int}{wd cd:D}(sw:Sq wd ws)(sc:Sq cd cs)(hw:w.due ws cs)(hc:Cl cs):∃ l:List Rat,bI 2 [.str w.s,wd,cd]=.ok (.f (l.map dq))/\JL w ws cs l/\Jd cs l/\2<=l.length:=by
 have hi:=hc.hi;have lo:=hc.lo
 have row:JL .row [] cs (rj cs 0)/\Jd cs (rj cs 0)/\2<=(rj cs 0).length:=by
  obtain⟨l1,l2⟩:=zMB cs 0;refine⟨⟨zPW hc,?_,by rw[l2,W5]⟩,⟨⋯,fun x hx=>?_⟩,⋯⟩
  ·obtain⟨t,et⟩:=zDN cs 0
   rw[et];rfl
  ·obtain⟨k,rfl⟩:=zMV cs 0 x hx
   exact⟨1,∅,∅,Dn.int 1 k⟩
 have evn:∀ ls:List Rat,Wt ws cs->ls.Pairwise (·<=·)->ls.Perm ((List.range cs.length).map (lv ws cs))->QQ ws cs 0=0->JL .even ws cs ((0::ls).map (QQ ws cs))/\Jd cs ((0::ls).map (QQ ws cs))/\2<=((0::ls).map (QQ ws cs)).length:=fun ls W e2 e3 e4=>by
  have ll:((0::ls).map (QQ ws cs)).length=cs.length+1:=by rw[Qe,Qk,e3.length_eq,Qe,Q3]
  refine⟨zNC W hc e2 e3 e4,⟨⋯,fun x hx=>?_⟩,⋯⟩
  obtain⟨B,b0,b1,d⟩:=zOG W hc e2 e3 x hx;exact⟨B,b0,⋯,d⟩
 cases w with
 | row=>
  have e:ws=[]:=hw;subst e;exact⟨_,zQM (n:=1) (e:=wd) sc hc,row⟩
 | part=>
  have e:ws=[]:=hw;subst e;refine⟨_,zQs (n:=1) (e:=wd) sc,⟨zOy hc,rfl,rfl⟩,⟨by show 2<=30;decide,fun x hx=>?_⟩,Qf 2⟩
  rcases Qd.mp hx with rfl | hx
  ·exact⟨1,∅,∅,Dn.zero 1⟩
  ·rw[Qw.mp hx];exact⟨1,∅,∅,Dn.int 1 _⟩
 | even=>
  obtain⟨ls,e1,e2,e3,e4⟩:=zML (n:=1) sw sc hw hc;exact⟨_,e1,evn ls hw e2 e3 e4⟩
 | back=>
  have e:ws=[]:=hw;subst e;have k:=zQJ (w:=.back) (ws:=[]) (.inl rfl) sc hc row.2.1.1 (zNt hc row.1 row.2.2 row.2.1) (zQM (n:=0) (e:=wd) sc hc);exact⟨_,k,zMZ (w:=.row) rfl hc row.1,zMy row.2.1,by rw[Qe,Vx];exact row.2.2⟩
 | lack=>
  obtain⟨ls,e1,e2,e3,e4⟩:=zML (n:=0) sw sc hw hc;obtain⟨r1,r2,r3⟩:=evn ls hw e2 e3 e4;have k:=zQJ (w:=.lack) (ws:=ws) (.inr rfl) sc hc r2.1 (zNt hc r1 r3 r2) e1;exact⟨_,k,zMZ (w:=.even) hw hc r1,zMy r2,by rw[Qe,Vx];exact r3⟩
 | half=>
  have e:ws=[]:=hw;subst e;obtain⟨ls,e1,e2,e3,e4⟩:=zQk (n:=1) (e:=wd) sc hc;have W:=fH cs;have ll:((0::ls).map (QQ (ones cs) cs)).length=cs.length+1:=by rw[Qe,Qk,e3.length_eq,Qe,Q3]
  have jl:=zNC W hc e2 e3 e4;have dn:=zOG W hc e2 e3;generalize (0::ls).map (QQ (ones cs) cs)=l at *;refine⟨_,e1,zNM hc jl,⟨?_,fun x hx=>?_⟩,?_⟩
  ·simp only[Qo,Qe,Vx];omega
  ·have early:∀ y∈l.map (· * hf),∃ B:Int,0<B/\B<=2*10^6/\Dn B y:=fun y hy=>by
    obtain⟨z,hz,rfl⟩:=Ql.mp hy;obtain⟨B,b0,b1,d⟩:=dn z hz;exact⟨B*2,⋯,⋯,zGQ d⟩
   rcases Q7.mp hx with hx | hx
   ·exact early x hx
   ·obtain⟨y,hy,rfl⟩:=Ql.mp hx
    obtain⟨B,b0,b1,d⟩:=early y (W8.mp hy);exact⟨B,b0,b1,(Dn.int B cs.sum).sub d⟩
  ·simp only[Qo,Qe,Vx];omega
def zFS{r:Type}:∀ l:List r,l.zip l=l.map fun x=>(x,x)
 | []=>rfl
 | a::l=>by rw[List.zip_cons_cons,zFS l,Qq]
def zEd{w:Wy}{ws cs:List Int}{wd cd:D}(sw:Sq wd ws)(sc:Sq cd cs)(hw:w.due ws cs)(hc:Cl cs):∃ J:List Rat,gM [.str w.s,wd,cd]=.ok (.f ((List.range cs.length).map fun i=>.tup ((wln w ws cs J i).map dp)))/\JS w ws cs J/\J.length<=30/\(∀ x∈J,Sz 300 x/\∀ i,i<cs.length->Sz 670 (FF w ws cs x i))/\Jd cs J:=by
 obtain⟨l,e1,jl,jd,l2⟩:=zLz sw sc hw hc;have zl:=zNt hc jl l2 jd;obtain⟨t,rfl⟩:=zOm jl;have js:=jl.js;have hi:=hc.hi;have lt:=jd.1;rw[Qk] at lt;have e2:=rP (l:=t) ⋯ zl
 have sub:=zIQ t 0;have ln:(0::ddR 0 t).length<=30:=by rw[Qk];have:=sub.length_le;omega
 have zj:∀ x∈0::ddR 0 t,Sz 300 x:=fun x hx=>zl x (by
  rcases Qd.mp hx with rfl | hx
  ·exact Qb
  ·exact Qc _ (sub.subset hx))
 have dj:Jd cs (0::ddR 0 t):=⟨ln,fun x hx=>jd.2 x (by
  rcases Qd.mp hx with rfl | hx
  ·exact Qb
  ·exact Qc _ (sub.subset hx))⟩
 generalize 0::ddR 0 t=J at *;have bd:=js.bd
 have rd:∀ q∈J,aN 2 [.str w.s,wd,cd,dq q]=.ok (.f (((List.range cs.length).map (FF w ws cs q)).map dq))/\∀ i,i<cs.length->Sz 670 (FF w ws cs q i):=fun q hq=>by
  have ha:Haul 300 q cs.sum:=⟨(bd q hq).1,(bd q hq).2,zj q hq⟩;obtain⟨f,ef,af⟩:=zBT sw sc ∅ hw hc ha
  have df:=zOK hw hc ha af;have eq:∀ i,i<cs.length->f i=FF w ws cs q i:=fun i hi=>zCx hw hc (bd q hq).1 (bd q hq).2 af hi
  refine⟨by rw[ef,V0 (g:=FF w ws cs q) fun i hi=>eq i (Qn.mp hi)],fun i hi=>by rw[<-eq i hi];exact(df.bd i hi).2.2⟩
 refine⟨J,?_,js,ln,fun x hx=>⟨zj x hx,(rd x hx).2⟩,dj⟩
 unfold gM;erw[zFk sw sc hw hc,e1];symm;rw[Qq] at e2;rw[e2];symm
 rw[dQ (u:=dq) (g:=fun q=>D.lst (((List.range cs.length).map (FF w ws cs q)).map dq)) ⋯ (fun q hq=>by
  erw[(rd q hq).1]
  symm)]
 erw[sc.len,zEV ⋯ ⋯,show rng 0 ((cs.length:Int)).toNat 1=(List.range cs.length).map fun j:Nat=>D.int (j:Int) by unfold rng;rw[Vd];exact V0 fun j _=>by rw[show(0:Int)+(j:Int)*1=(j:Int) by omega]]
 rw[dQ (u:=fun j:Nat=>D.int (j:Int)) (g:=fun i=>D.tup ((wln w ws cs J i).map dp)) (by rw[Q3];omega) (fun i hi=>by
  have hi':=Qn.mp hi
  have fl:nU [.lst (J.map dq),.lst (J.map fun q=>D.lst (((List.range cs.length).map (FF w ws cs q)).map dq)),.int (i:Int)]=.ok (.v (.tup ((wln w ws cs J i).map dp))):=by
   obtain⟨ok,la⟩:=zFs hw hc js hi';unfold nU;erw[pQ rfl rfl];symm
   rw[mY (u:=dq) (v:=fun q=>D.lst (((List.range cs.length).map (FF w ws cs q)).map dq)) (g:=fun x y=>dp (x,FF w ws cs y i)) ⋯ (fun p hp=>by
    have e:oIx (.lst (((List.range cs.length).map (FF w ws cs p.2)).map dq)) (.int (i:Int))=.ok (dq (FF w ws cs p.2 i)):=by
     rw[Qx];exact kE (Vw i) (show(List.range cs.length)[i]?=some i from V8 hi')
    erw[e]
    symm)]
   symm;rw[zFS,Qx,show(J.map ((fun p:Rat×Rat=>dp (p.1,FF w ws cs p.2 i)) ∘ fun x=>(x,x)))=(jpt w ws cs J i).map dp by unfold jpt;rw[Qx];rfl]
   rw[kY (n:=300) (m:=670) (.inl rfl) (by unfold jpt;rw[Qe];omega) (fun p hp=>by
    unfold jpt at hp;obtain⟨q,hq,rfl⟩:=Ql.mp hp
    exact⟨zj q hq,(rd q hq).2 i hi'⟩) ∅ ok]
   symm;rfl
  erw[fl]
  symm)]
 symm
def tZ{ps:List Pt}{p:Pt}(h:ps.getLast?=some p):hG [.tup (ps.map dp)]=.ok (.v (dq p.1)):=by
 have h0:0<ps.length:=by cases ps with
  | nil=>cases h
  | cons a r=>exact Ug _
 unfold hG;erw[zIf (i:=-1) (k:=1) rfl ∅ h0 (by rw[<-Vj];exact h)];symm
def zLX{ps:List Pt}{p:Pt}(h:ps.getLast?=some p):rE [.tup (ps.map dp)]=.ok (.v (dq p.2)):=by
 have h0:0<ps.length:=by cases ps with
  | nil=>cases h
  | cons a r=>exact Ug _
 unfold rE;erw[zIf (i:=-1) (k:=1) rfl ∅ h0 (by rw[<-Vj];exact h)];symm
def zJl(b:Bool)(p:Pt):oIx (dp p) (.int (axi b))=.ok (dq (ax b p)):=by cases b<;>rfl
def zFI(b:Bool)(p:Pt):oIx (dp p) (.int (1-axi b))=.ok (dq (ax (!b) p)):=by cases b<;>rfl
def zKp{x l:Rat}{m n:Nat}(hx:Sz m x)(hl:Sz n l)(h:m+n<=99990):eE [dq x,dq l]=.ok (.v (.bl (decide (x<0) || decide (l<x)))):=by
 unfold eE;erw[kB (n:=1) hx ⟨∅,∅⟩ ⋯];symm;by_cases c:x<0
 ·rw[J5 c]
  symm
 ·rw[Jj c]
  erw[kB hl hx ⋯];symm
def zHp{x l:Rat}{m n:Nat}(hx:Sz m x)(hl:Sz n l)(h:m+n<=99990)(h0:0<=x)(h1:x<=l):bB [dq x,dq l]=.ok (.v .non):=by
 unfold bB;symm;rw[zKp hx hl h,Jj (by grind),Jj (by grind)];symm
def tM{ps:List Pt}{n m:Nat}(b:Bool){y:Rat}(h0:0<ps.length)(hl:ps.length<=100000)(hs:∀ p∈ps,Sz n (ax b p))(hy:Sz m y)(hn:n+m<=99999)(hp:ps.Pairwise asc):
  ∃ k:Nat,dE [.tup (ps.map dp),.int (axi b),dq y]=.ok (.v (.int (k:Int)))/\k<ps.length/\(∀ j p,j<k->ps[j]?=some p->ax b p<y)/\(k+1=ps.length∨∃ p,ps[k]?=some p/\y<=ax b p):=by
 unfold dE;symm
 refine zDc (fun ρ=>∃(u v:Nat)(r:Sl),ρ=[.val (.tup (ps.map dp)),.val (.int (axi b)),.val (dq y),.val (.int (u:Int)),.val (.int (v:Int)),r]/\u<=v/\v<ps.length/\(∀ j p,j<u->ps[j]?=some p->ax b p<y)/\(v+1=ps.length∨∃ p,ps[v]?=some p/\y<=ax b p))
  (fun ρ=>(slI 4 ρ-slI 3 ρ).toNat)
  (fun r=>∃ k:Nat,(r.bind (zKs jU)).bind fin=.ok (.v (.int (k:Int)))/\k<ps.length/\(∀ j p,j<k->ps[j]?=some p->ax b p<y)/\(k+1=ps.length∨∃ p,ps[k]?=some p/\y<=ax b p))
  ⟨0,ps.length-1,_,by rw[show((ps.length-1:Nat):Int)=(ps.length:Int)-1 by omega];rfl,⋯,⋯,fun j p h=>absurd h ⋯,.inl ⋯⟩ ?_
 rintro ρ ⟨u,v,r,rfl,h1,h2,h3,h4⟩
 by_cases c:u<v
 ·refine .inr ⟨?_,?_⟩
  ·symm
   rw[J5 ⋯]
  ·obtain⟨mid,e,b1,b2⟩:∃ mid:Nat,((u:Int)+(v:Int)) / 2=(mid:Int)/\u<=mid/\mid<v:=⟨(u+v) / 2,⋯,⋯,⋯⟩
   have hm:mid<ps.length:=Nat.lt_trans b2 h2;have hq:ps[mid]?=some ps[mid]:=Qm hm;have hz:=hs _ (Qi hq);generalize ps[mid]=q at hq hz;symm;rw[e,pL (Vw _) (by rw[Vd];exact hq)];erw[zJl,kB hz hy hn];symm;by_cases d:ax b q<y
   ·rw[J5 d]
    symm;refine⟨_,rfl,⟨mid+1,v,_,rfl,b2,h2,?_,h4⟩,?_⟩
    ·intro j p hj hpj
     have:=kR hp b (Nat.le_of_lt_succ hj) hpj hq
     grind
    ·show((v:Int)-((mid:Int)+1)).toNat<((v:Int)-(u:Int)).toNat
     omega
   ·rw[Jj d]
    symm;refine⟨_,rfl,⟨u,mid,_,rfl,b1,hm,h3,.inr ⟨q,hq,by grind⟩⟩,?_⟩
    show((mid:Int)-(u:Int)).toNat<((v:Int)-(u:Int)).toNat
    omega
 ·have e:u=v:=⋯
  subst e;refine .inl ⟨?_,u,?_,h2,h3,h4⟩
  ·symm
   rw[Jj ⋯]
  ·symm
def zQX{ps:List Pt}{n l m:Nat}(b:Bool){y:Rat}(h0:0<ps.length)(hl:ps.length<=100000)(hs:∀ p∈ps,Sz n (ax b p)/\Sz l (ax (!b) p))(hy:Sz m y)(hn:m+3*n+3*l+4<=8999)(hp:ps.Pairwise asc)(hlo:∀ p,ps[0]?=some p->ax b p<=y)(hhi:∀ p,ps.getLast?=some p->y<=ax b p):
  ∃ r:Rat,uX [.tup (ps.map dp),.int (axi b),dq y]=.ok (.v (dq r))/\∃(k:Nat)(q:Pt),ps[k]?=some q/\(∀ j p,j<k->ps[j]?=some p->ax b p<y)/\
   ((ax b q=y/\r=ax (!b) q)∨(0<k/\y<ax b q/\∃ p,ps[k-1]?=some p/\ax b p<y/\r=ax (!b) p+(y-ax b p) / (ax b q-ax b p)*(ax (!b) q-ax (!b) p))):=by
 obtain⟨k,e,hk,h1,h2⟩:=tM b h0 hl (fun p h=>(hs p h).1) hy ⋯ hp
 have hq:ps[k]?=some ps[k]:=Qm hk;have zq:=hs _ (Qi hq);generalize ps[k]=q at hq zq
 have hyq:y<=ax b q:=by
  rcases h2 with h2 | ⟨p,hp,h2⟩
  ·refine hhi q ?_
   rw[Vj,show ps.length-1=k by omega];exact hq
  ·rw[hq] at hp
   cases hp;exact h2
 unfold uX;erw[e,pL ⋯ (by rw[Vd];exact hq),zJl];symm;by_cases c:ax b q=y
 ·rw[J5 c]
  erw[zFI];symm;exact⟨_,rfl,k,q,hq,h1,.inl ⟨c,rfl⟩⟩
 ·have c2:y<ax b q:=by grind
  have k0:0<k:=by
   rcases Wm k with z | z
   ·subst z
    have:=hlo q hq
    grind
   ·exact z
  have hp1:ps[k-1]?=some ps[k-1]:=Qm _;have zp:=hs _ (Qi hp1);generalize ps[k-1]=p at hp1 zp;have lp:=h1 _ p (show k-1<k by omega) hp1
  have nz:ax b q-ax b p≠0:=by grind
  rw[Jj c];erw[pL ⋯ (by rw[show((k:Int)-1).toNat=k-1 by omega];exact hp1),zJl,eT hy (zp.1) ⋯,zJl,zJl,eT (zq.1) (zp.1) ⋯];symm;have z1:=hy.sub (zp.1);have z2:=(zq.1).sub (zp.1);have z3:=z1.div z2 nz;have z4:=(zq.2).sub (zp.2);rw[zHM z1 z2 nz ⋯];erw[zFI,zFI,zFI,eT (zq.2) (zp.2) ⋯,nJ z3 z4 ⋯,yU (zp.2) (z3.mul z4) ⋯];symm;exact⟨_,rfl,k,q,hq,h1,.inr ⟨k0,c2,p,hp1,lp,rfl⟩⟩
def zBJ{ps:List Pt}{a b m:Nat}{x:Rat}{e:Pt}(hl:ps.length<=100000)(hs:∀ p∈ps,SzQ a b p)(hx:Sz m x)(hn:m+3*a+3*b+4<=8999)(hk:Ok ps)(he:ps.getLast?=some e)(h0:0<=x)(h1:x<=e.1):
  lF [.tup (ps.map dp),dq x]=.ok (.v (dq (aO ps x))):=by
 obtain⟨hh,hp⟩:=hk
 have hpos:0<ps.length:=by cases ps with
  | nil=>cases hh
  | cons a r=>exact Ug _
 have ze:SzQ a b e:=hs e (Wl he)
 obtain⟨r,e1,k,q,hq,hj,h⟩:=zQX false hpos hl (n:=a) (l:=b) hs hx hn hp (fun p hp=>by
  rw[<-Xs,hh] at hp;cases hp;exact h0) (fun p hp=>by rw[he] at hp;cases hp;exact h1)
 have er:r=aO ps x:=by
  rcases h with⟨c,rfl⟩ | ⟨k0,c,p,hp1,lp,rfl⟩
  ·have:q.1=x:=c
   rw[<-this];exact(bF hp hq).symm
  ·exact(bX hp hp1 (by rw[show k-1+1=k by omega];exact hq) (Qg lp) (Qg c)).symm
 subst er;unfold lF;erw[tZ he,zHp hx ze.1 ⋯ h0 h1];symm;rw[show(0:Int)=axi false from rfl,e1];symm
def uE{ps:List Pt}(hl:ps.length<=100000):iU [.tup (ps.map dp)]=.ok (.f ((ps.map Prod.fst).map dq)):=by
 unfold iU;erw[zDq (h:=fun d=>match d with | .tup [x,_]=>x | _=>.non) (by rw[Qe];omega) ?_]
 ·symm
  rw[Qx,Qx];rfl
 ·intro d hd
  obtain⟨p,_,rfl⟩:=Ql.mp hd;symm;rfl
structure Mg (A B:List Rat) (i s:Nat) (C:List Rat):Prop where
 asc:C.Pairwise (· < ·)
 mem:∀ y,y∈C ↔ y∈A.take i∨y∈B.take s
 below:∀(j:Nat)(b:Rat),s<=j->B[j]?=some b->∀ c∈C,c<b
 under:∀(j:Nat)(a:Rat),i<=j->A[j]?=some a->∀ c∈C,c<a
 le:s<=B.length
 len:C.length<=i+s
def zGq{C:List Rat}{x:Rat}(h:C.Pairwise (· < ·))(hx:∀ c∈C,c<x):(C++[x]).Pairwise (· < ·):=by
 refine Y6.mpr ⟨h,Uz _ _,fun a ha b hb=>?_⟩
 rcases Qd.mp hb with rfl | hb
 ·exact hx a ha
 ·cases hb
def mT{A:List Rat}(h:A.Pairwise (· < ·)){i j:Nat}{a b:Rat}(l:i<j)(ha:A[i]?=some a)(hb:A[j]?=some b):a<b:=by
 obtain⟨hi,rfl⟩:=Qy.mp ha;obtain⟨hj,rfl⟩:=Qy.mp hb;exact Yt.mp h i j hi hj l
def fZ{A:List Rat}{i:Nat}{a y:Rat}(h:A[i]?=some a):y∈A.take (i+1) ↔ y∈A.take i∨y=a:=by
 rw[nY h,Q7,Qw]
def zGd{A B:List Rat}{m:Nat}(ha:A.Pairwise (· < ·))(hb:B.Pairwise (· < ·))(la:A.length<=100000)(lb:B.length<=100000)(za:∀ x∈A,Sz m x)(zb:∀ x∈B,Sz m x)(hm:m<=40000):
  ∃ C:List Rat,lM [.lst (A.map dq),.lst (B.map dq)]=.ok (.f (C.map dq))/\C.Pairwise (· < ·)/\(∀ y,y∈C ↔ y∈A∨y∈B)/\C.length<=A.length+B.length:=by
 have ix:∀(k:Nat)(a:Rat),B[k]?=some a->oIx (.lst (B.map dq)) (.int (k:Int))=.ok (dq a):=by
  intro k a h;exact kE ⋯ (by simpa using h)
 unfold lM;symm
 refine kW (Q:=fun r=>∃ C:List Rat,r.bind fin=.ok (.f (C.map dq))/\C.Pairwise (· < ·)/\(∀ y,y∈C ↔ y∈A∨y∈B)/\C.length<=A.length+B.length)
  (fun i ρ=>∃(s:Nat)(C:List Rat)(a:Sl),ρ=[.val (.lst (A.map dq)),.val (.lst (B.map dq)),.own (C.map dq),.val (.int (s:Int)),a]/\Mg A B i s C)
  ⟨0,[],_,rfl,⟨List.Pairwise.nil,by simp,by simp,by simp,⋯,by simp⟩⟩ ?_ ?_
 ·rintro i d ρ hd ⟨s,C,a,rfl,g⟩
  rw[Qt] at hd
  cases hq:A[i]? with
  | none=>rw[hq] at hd;cases hd
  | some x=>
   rw[hq] at hd;cases hd;have hi:i<A.length:=(Qy.mp hq).1;have zx:=za x (Qi hq);symm
   refine zDc (fun ρ=>∃(s:Nat)(C:List Rat),ρ=[.val (.lst (A.map dq)),.val (.lst (B.map dq)),.own (C.map dq),.val (.int (s:Int)),.val (dq x)]/\Mg A B i s C)
    (fun ρ=>B.length-(slI 3 ρ).toNat)
    (fun r=>∃ ρ2,r.bind (zKs rJ)=.ok (.nx ρ2)/\∃(s:Nat)(C:List Rat)(a:Sl),ρ2=[.val (.lst (A.map dq)),.val (.lst (B.map dq)),.own (C.map dq),.val (.int (s:Int)),a]/\Mg A B (i+1) s C) ⟨s,C,rfl,g⟩ ?_
   rintro ρ ⟨s,C,rfl,g⟩
   have fin1:(s<B.length->∃ b,B[s]?=some b/\¬ b<x)->∃ ρ2,rJ [.val (.lst (A.map dq)),.val (.lst (B.map dq)),.own (C.map dq),.val (.int (s:Int)),.val (dq x)]=.ok (.nx ρ2)/\∃(s:Nat)(C:List Rat)(a:Sl),ρ2=[.val (.lst (A.map dq)),.val (.lst (B.map dq)),.own (C.map dq),.val (.int (s:Int)),a]/\Mg A B (i+1) s C:=by
    intro hs
    have base:∀ s':Nat,s'<=B.length->s'<=s+1->(∀ y,(y∈A.take i∨y∈B.take s)∨y=x ↔ y∈A.take (i+1)∨y∈B.take s')->(∀(j:Nat)(b:Rat),s'<=j->B[j]?=some b->x<b/\s<=j)->C.length+1<=i+1+s'->Mg A B (i+1) s' (C++[x]):=by
     intro s' h1 h1' h2 h3 h4;have cx:∀ c∈C,c<x:=g.under i x (Qf _) hq;refine⟨zGq g.asc cx,fun y=>?_,fun j b hj hb' c hc=>?_,fun j a hj ha' c hc=>?_,h1,by rw[Qo];exact h4⟩
     ·rw[Q7,Qw,g.mem y]
      exact h2 y
     ·have h5:=h3 j b hj hb'
      rcases Q7.mp hc with hc | hc
      ·exact g.below j b h5.2 hb' c hc
      ·rw[Qw.mp hc]
       exact h5.1
     ·have h5:=mT ha (show i<j by omega) hq ha'
      rcases Q7.mp hc with hc | hc
      ·have:=cx c hc
       grind
      ·rw[Qw.mp hc]
       exact h5
    have len:=g.len;have le:=g.le;symm;by_cases c1:s<B.length
    ·obtain⟨b,hb1,hb2⟩:=hs c1
     rw[J5 ⋯];erw[ix s b hb1];symm;by_cases c2:b=x
     ·rw[J5 c2]
      erw[Jk ⋯];refine⟨_,rfl,s+1,C++[x],_,by rw[Q8];rfl,base (s+1) ⋯ ⋯ (fun y=>?_) (fun j b' hj hb'=>?_) ⋯⟩
      ·rw[fZ hq,fZ hb1,c2]
       constructor
       ·rintro ((h | h) | h)
        ·exact .inl (.inl h)
        ·exact .inr (.inl h)
        ·exact .inl (.inr h)
       ·rintro ((h | h) | (h | h))
        ·exact .inl (.inl h)
        ·exact .inr h
        ·exact .inl (.inr h)
        ·exact .inr h
      ·have:=mT hb (show s<j by omega) hb1 hb'
       rw[c2] at this;exact⟨this,⋯⟩
     ·rw[Jj c2]
      erw[Jk ⋯];refine⟨_,rfl,s,C++[x],_,by rw[Q8];rfl,base s le ⋯ (fun y=>?_) (fun j b' hj hb'=>?_) ⋯⟩
      ·rw[fZ hq]
       grind
      ·rcases X4 hj with l | l
       ·have:=mT hb l hb1 hb'
        exact⟨by grind,hj⟩
       ·subst l
        rw[hb1] at hb';cases hb'
        exact⟨by grind,hj⟩
    ·rw[Jj ⋯]
     erw[Jk ⋯];refine⟨_,rfl,s,C++[x],_,by rw[Q8];rfl,base s le ⋯ (fun y=>?_) (fun j b' hj hb'=>?_) ⋯⟩
     ·rw[fZ hq]
      grind
     ·have:=(Qy.mp hb').1
      omega
   by_cases c1:s<B.length
   ·have hb1:B[s]?=some B[s]:=Qm c1
    have zb1:=zb _ (Qi hb1);generalize B[s]=b at hb1 zb1;by_cases c2:b<x
    ·refine .inr ⟨?_,?_⟩
     ·symm
      rw[J5 ⋯];erw[ix s b hb1];symm;rw[kB zb1 zx ⋯,J5 c2];symm
     ·have len:=g.len
      erw[ix s b hb1,Jk ⋯];symm;refine⟨_,rfl,⟨s+1,C++[b],by rw[Q8];rfl,⟨zGq g.asc (g.below s b (Qf _) hb1),fun y=>?_,fun j b' hj hb' c hc=>?_,fun j a' hj ha' c hc=>?_,c1,by rw[Qo,Wd];omega⟩⟩,?_⟩
      ·rw[Q7,Qw,g.mem y,fZ hb1]
       grind
      ·have:=mT hb (show s<j by omega) hb1 hb'
       rcases Q7.mp hc with hc | hc
       ·exact g.below j b' ⋯ hb' c hc
       ·rw[Qw.mp hc]
        exact this
      ·rcases Q7.mp hc with hc | hc
       ·exact g.under j a' hj ha' c hc
       ·rw[Qw.mp hc]
        rcases X4 hj with l | l
        ·have:=mT ha l hq ha'
         grind
        ·subst l
         rw[hq] at ha';cases ha'
         exact c2
      ·show B.length-(s+1)<B.length-s
       exact Nat.sub_lt_sub_left c1 (Vn s)
    ·refine .inl ⟨?_,?_⟩
     ·symm
      rw[J5 ⋯];erw[ix s b hb1];symm;rw[kB zb1 zx ⋯,Jj c2];symm
     ·exact fin1 fun _=>⟨b,hb1,c2⟩
   ·refine .inl ⟨?_,?_⟩
    ·symm
     rw[Jj ⋯];symm
    ·exact fin1 fun h=>absurd h c1
 ·rintro ρ' ⟨s,C,a,rfl,g⟩
  have len:=g.len;have le:=g.le;rw[Qe] at g len;symm;rw[yX ⋯,<-U0,Jk (by rw[Qe,Q9];omega)];symm;refine⟨C++B.drop s,by rw[Q8,Vd],?_,fun y=>?_,by rw[Qo,Q9];omega⟩
  ·refine Y6.mpr ⟨g.asc,hb.sublist (List.drop_sublist _ _),fun c hc b hb'=>?_⟩
   obtain⟨j,hj⟩:=Xt.mp hb';rw[U1] at hj;exact g.below (s+j) b ⋯ hj c hc
  ·rw[Q7,g.mem y,Vu]
   constructor
   ·rintro ((h | h) | h)
    ·exact .inl h
    ·exact .inr (Y4 h)
    ·exact .inr (Qas h)
   ·rintro (h | h)
    ·exact .inl (.inl h)
    ·rw[<-Y7 s B,Q7] at h
     rcases h with h | h
     ·exact .inl (.inr h)
     ·exact .inr h
def zKW{ps:List Pt}{a b m:Nat}{y:Rat}{e:Pt}(hl:ps.length<=100000)(hs:∀ p∈ps,SzQ a b p)(hy:Sz m y)(hn:m+3*a+3*b+4<=8999)(hk:Ok ps)(he:ps.getLast?=some e)(h0:0<=y)(h1:y<=e.2):
  ∃ r:Rat,uX [.tup (ps.map dp),.int 1,dq y]=.ok (.v (dq r))/\zGb ps y r:=by
 have hpos:0<ps.length:=by cases ps with
  | nil=>cases he
  | cons a r=>exact Ug _
 obtain⟨r,e1,k,q,hq,hj,h⟩:=zQX true hpos hl (n:=b) (l:=a) (fun p hp=>⟨(hs p hp).2,(hs p hp).1⟩) hy ⋯ hk.2 (fun p hp=>by rw[<-Xs,hk.1] at hp;cases hp;exact h0) (fun p hp=>by rw[he] at hp;cases hp;exact h1)
 exact⟨r,e1,k,q,hq,hj,h⟩
def zLs{ps qs:List Pt}{e f:Pt}(a b c d n m z:Nat)(hp:Ok ps)(hq:Ok qs)(he:ps.getLast?=some e)(hf:qs.getLast?=some f)(hL:e.1=f.2)(lp:ps.length<=40000)(lq:qs.length<=40000)
  (zp:∀ p∈ps,SzQ a b p) (zq:∀ p∈qs,SzQ c d p) (n1:a+3*c+3*d+4<=8999) (cm:c<=m) (n2:m+3*c+3*d+4<=8999) (n3:n+3*a+3*b+4<=8999) (n4:2*m+2*z+2<=8999)
  (hb:∀ p∈ps,∀ r,zGb qs p.1 r->Sz m r) (hv:∀ y,(∃ q∈qs,y=q.2)∨(∃ p∈ps,y=p.1)->Sz n y/\Sz z (aO ps y)):
  ∃ R:List Pt,gY [.tup (ps.map dp),.tup (qs.map dp)]=.ok (.v (.tup (R.map dp)))/\zLx R/\R.getLast?=some (f.1,e.2)/\R.length<=ps.length+qs.length/\(∀ x,0<=x->x<=f.1->aO R x=aO ps (aO qs x))/\(∀ r∈R,SzQ m z r/\((∃ q∈qs,r.1=q.1)∨∃ p∈ps,zGb qs p.1 r.1)):=by
 have bp:∀ p∈ps,0<=p.1/\p.1<=f.2:=fun p h=>by have:=cW hp he h;exact⟨this.1,by rw[<-hL];exact this.2.1⟩
 have up:∀ p∈ps,∃ r,uX [.tup (qs.map dp),.int 1,dq p.1]=.ok (.v (dq r))/\zGb qs p.1 r:=fun p h=>zKW ⋯ zq (zp p h).1 n1 hq hf (bp p h).1 (bp p h).2
 obtain⟨bf,hbf⟩:∃ bf:Pt->Rat,∀ p∈ps,uX [.tup (qs.map dp),.int 1,dq p.1]=.ok (.v (dq (bf p)))/\zGb qs p.1 (bf p):=
  ⟨fun p=>if h:p∈ps then Classical.choose (up p h) else 0,fun p h=>by simp only[J6 h];exact Uy (up p h)⟩
 have hval:∀ p∈ps,aO qs (bf p)=p.1/\0<=bf p/\bf p<=f.1:=fun p h=>(hbf p h).2.val hq hf
 have hasc:(ps.map bf).Pairwise (· < ·):=by
  refine Xa.mpr (X5 ?_ hp.2)
  intro a b ha hb' hab;have h1:=hval a ha;have h2:=hval b hb';rcases (Xk:bf b<=bf a∨bf a<=bf b) with l | l
  ·have:=eY hq hf h2.2.1 l h1.2.2
   have:=hab.1
   grind
  ·have:bf a≠bf b:=by
    intro z;have:=hab.1
    rw[<-h1.1,<-h2.1,z] at this;grind
   grind
 have zb:∀ x∈ps.map bf,Sz m x:=fun x hx=>by
  obtain⟨p,h,rfl⟩:=Ql.mp hx;exact hb p h _ (hbf p h).2
 have zx:∀ x∈qs.map Prod.fst,Sz m x:=fun x hx=>by
  obtain⟨p,h,rfl⟩:=Ql.mp hx;exact(zq p h).1.mono cm
 obtain⟨C,h1,h2,h3,h4⟩:=zGd (zDJ hq.2) hasc (by rw[Qe];omega) (by rw[Qe];omega) zx zb ⋯
 rw[Qe,Qe] at h4;have zC:∀ t∈C,Sz m t:=fun t ht=>((h3 t).mp ht).elim (zx t) (zb t)
 have from':∀ t∈C,(∃ q∈qs,t=q.1)∨∃ p∈ps,t=bf p:=by
  intro t ht;rcases (h3 t).mp ht with h | h
  ·obtain⟨q,h5,rfl⟩:=Ql.mp h
   exact .inl ⟨q,h5,rfl⟩
  ·obtain⟨q,h5,rfl⟩:=Ql.mp h
   exact .inr ⟨q,h5,rfl⟩
 have J:Joints ps qs f C:=by
  refine⟨h2,fun q h=>(h3 _).mpr (.inl (Ql.mpr ⟨q,h,rfl⟩)),fun p h=>⟨bf p,(h3 _).mpr (.inr (Ql.mpr ⟨p,h,rfl⟩)),(hval p h).1⟩,fun t ht=>?_⟩
  rcases from' t ht with⟨q,h,rfl⟩ | ⟨p,h,rfl⟩
  ·have:=cW hq hf h
   exact⟨this.1,this.2.1⟩
  ·exact(hval p h).2
 have v2:∀ t∈C,(∃ q∈qs,aO qs t=q.2)∨∃ p∈ps,aO qs t=p.1:=by
  intro t ht;rcases from' t ht with⟨q,h,rfl⟩ | ⟨p,h,rfl⟩
  ·obtain⟨i,hi⟩:=Xt.mp h
   exact .inl ⟨q,h,bF hq.2 hi⟩
  ·exact .inr ⟨p,h,(hval p h).1⟩
 have sz:∀ t∈C,Sz n (aO qs t)/\Sz z (aO ps (aO qs t)):=fun t ht=>hv _ (v2 t ht)
 obtain⟨ok,la⟩:=zFi hp hq he hf hL J;refine⟨jT (sE ps qs C),?_,jE ok,by rw[pA ok.2];exact la,Q4 (jD ok.2).length_le (by unfold sE;rw[Qe];omega),fun x h0 h1=>by rw[rQ ok.2,zJF hp hq he hf hL J h0 h1],fun r hr=>?_⟩
 rotate_left
 ·obtain⟨t,ht,rfl⟩:=Ql.mp ((jD ok.2).subset hr)
  exact⟨⟨zC t ht,(sz t ht).2⟩,(from' t ht).imp id fun ⟨p,h,e⟩=>⟨p,h,e ▸ (hbf p h).2⟩⟩
 unfold gY;erw[tZ he,zLX hf,hL,uE ⋯];symm
 rw[Qx,dQ (u:=dq ∘ Prod.fst) (g:=fun p=>dq (bf p)) ⋯ (fun p h=>by
  show aL uX _ [_,_,_,_,.val (dq p.1)]=_
  erw[(hbf p h).1]
  symm)]
 erw[uE ⋯];symm;rw[show(ps.map fun p=>dq (bf p))=(ps.map bf).map dq by rw[Qx];rfl,h1];symm
 rw[dQ (u:=dq) (g:=fun t=>dp (t,aO ps (aO qs t))) ⋯ (fun t ht=>by
  have b2:=wY hq hf (J.bd t ht).1 (J.bd t ht).2;erw[zBJ ⋯ zq (zC t ht) n2 hq hf (J.bd t ht).1 (J.bd t ht).2,zBJ ⋯ zp (sz t ht).1 n3 hp he b2.1 (by rw[hL];exact b2.2)]
  symm)]
 erw[show(C.map fun t=>dp (t,aO ps (aO qs t)))=(sE ps qs C).map dp by unfold sE;rw[Qx];rfl];rw[kY (n:=m) (m:=z) (.inl rfl) (by unfold sE;rw[Qe];omega) ?_ n4 ok]
 ·symm
 ·intro p hp1
  obtain⟨t,ht,rfl⟩:=Ql.mp hp1;exact⟨zC t ht,(sz t ht).2⟩
def zRN{G:List Pt}{la:Pt}(g:Rat->Rat)(ok:Ok G)(hl:G.getLast?=some la)(hat:∀ u∈G,u.2=g u.1)
  (hlin:∀(i:Nat)(u v:Pt)(x:Rat),G[i]?=some u->G[i+1]?=some v->u.1<x->x<v.1->(g x-g u.1)*(v.1-u.1)=(g v.1-g u.1)*(x-u.1)) {x:Rat} (h0:0<=x) (h1:x<=la.1):aO G x=g x:=by
 rcases tJ ok.2 hl (fun p hp=>by rw[ok.1] at hp;cases hp;exact h0) h1 with⟨i,u,iu,eu⟩ | ⟨i,u,v,iu,iv,lu,lv⟩
 ·rw[<-eu,bF ok.2 iu,hat u (Qi iu)]
 ·have l:=hlin i u v x iu iv lu lv
  rw[bX ok.2 iu iv (Qg lu) (Qg lv)];have n:v.1-u.1≠0:=by grind
  have i1:=V9 _ n;unfold itp;rw[hat u (Qi iu),hat v (Qi iv),Va];generalize (v.1-u.1)⁻¹=w at i1;refine jP n ?_
  grind
def zJP{ps qs:List Pt}{e f:Pt}{C:List Rat}(hp:Ok ps)(hq:Ok qs)(he:ps.getLast?=some e)(hf:qs.getLast?=some f)(hL:e.1=f.1)(hC:C.Pairwise (· < ·))(hm:∀ y,y∈C ↔ y∈ps.map Prod.fst∨y∈qs.map Prod.fst)
  {x:Rat} (h0:0<=x) (h1:x<=e.1):aO (zGZ ps qs C) x=aO ps x+aO qs x:=by
 obtain⟨ok,la,bd⟩:=zJe hp hq he hf hL hC hm
 have at':∀ {i:Nat} {u:Pt},(zGZ ps qs C)[i]?=some u->C[i]?=some u.1:=by
  intro i u hu;unfold zGZ at hu;rw[Qt] at hu
  cases hc:C[i]? with
  | none=>rw[hc] at hu;cases hu
  | some c=>rw[hc] at hu;cases hu;rfl
 refine zRN (fun x=>aO ps x+aO qs x) ok la (fun u hu=>by obtain⟨t,_,rfl⟩:=Ql.mp hu;rfl) ?_ h0 h1
 intro i u v x iu iv lu lv;have c1:=at' iu;have d1:=at' iv
 have out:∀ t∈C,u.1<t->v.1<=t:=by
  intro t ht l;obtain⟨j,hj⟩:=Xt.mp ht;rcases Us j i with m | m | m
  ·have:=mT hC m hj c1;grind
  ·subst m;rw[hj] at c1;cases c1;grind
  ·rcases X4 (show i+1<=j by omega) with m | m
   ·exact Qg (mT hC m d1 hj)
   ·subst m;rw[hj] at d1;cases d1;exact Qh
 have bu:=bd u.1 (Qi c1);have bv:=bd v.1 (Qi d1);have luv:u.1<v.1:=by grind
 have l1:=uV hp he bu.1 luv bv.2 (fun p h=>out p.1 ((hm _).mpr (.inl (Ql.mpr ⟨p,h,rfl⟩)))) (Qg lu) (Qg lv)
 have l2:=uV hq hf bu.1 luv (by rw[<-hL];exact bv.2) (fun p h=>out p.1 ((hm _).mpr (.inr (Ql.mpr ⟨p,h,rfl⟩)))) (Qg lu) (Qg lv)
 grind
def zLQ{ps qs:List Pt}{e f:Pt}(a b c y s:Nat)(hp:Ok ps)(hq:Ok qs)(he:ps.getLast?=some e)(hf:qs.getLast?=some f)(hL:e.1=f.1)(lp:ps.length<=40000)(lq:qs.length<=40000)
  (zp:∀ p∈ps,SzQ a b p) (zq:∀ p∈qs,SzQ a c p) (n1:4*a+3*b+4<=8999) (n2:4*a+3*c+4<=8999) (n3:2*y<=8999) (n4:2*a+2*s+2<=8999)
  (hv:∀ x,x∈ps.map Prod.fst∨x∈qs.map Prod.fst->Sz y (aO ps x)/\Sz y (aO qs x)/\Sz s (aO ps x+aO qs x)):
  ∃ R:List Pt,oF [.tup (ps.map dp),.tup (qs.map dp)]=.ok (.v (.tup (R.map dp)))/\zLx R/\R.getLast?=some (e.1,e.2+f.2)/\R.length<=ps.length+qs.length/\(∀ x,0<=x->x<=e.1->aO R x=aO ps x+aO qs x)/\(∀ r∈R,SzQ a s r/\((∃ p∈ps,r.1=p.1)∨∃ q∈qs,r.1=q.1)):=by
 have zx:∀ x,x∈ps.map Prod.fst∨x∈qs.map Prod.fst->Sz a x:=by
  rintro x (h | h)
  ·obtain⟨p,hp1,rfl⟩:=Ql.mp h
   exact(zp p hp1).1
  ·obtain⟨p,hp1,rfl⟩:=Ql.mp h
   exact(zq p hp1).1
 obtain⟨C,h1,h2,h3,h4⟩:=zGd (zDJ hp.2) (zDJ hq.2) (by rw[Qe];omega) (by rw[Qe];omega) (fun x hx=>zx x (.inl hx)) (fun x hx=>zx x (.inr hx)) ⋯
 rw[Qe,Qe] at h4;obtain⟨ok,la,bd⟩:=zJe hp hq he hf hL h2 h3;refine⟨jT (zGZ ps qs C),?_,jE ok,by rw[pA ok.2];exact la,Q4 (jD ok.2).length_le (by unfold zGZ;rw[Qe];omega),fun x h0 h1=>by rw[rQ ok.2,zJP hp hq he hf hL h2 h3 h0 h1],fun r hr=>?_⟩
 rotate_left
 ·obtain⟨x,hx,rfl⟩:=Ql.mp ((jD ok.2).subset hr)
  have hx':=(h3 x).mp hx;have v:=hv x hx';refine⟨⟨zx x hx',v.2.2⟩,?_⟩
  rcases hx' with h | h
  ·obtain⟨p,h5,e5⟩:=Ql.mp h
   exact .inl ⟨p,h5,e5.symm⟩
  ·obtain⟨p,h5,e5⟩:=Ql.mp h
   exact .inr ⟨p,h5,e5.symm⟩
 unfold oF;erw[tZ he,tZ hf,hL,uE ⋯,uE ⋯,h1,dQ (g:=fun x=>dp (x,aO ps x+aO qs x)) ⋯ ?_]
 ·symm
  rw[show(C.map fun x=>dp (x,aO ps x+aO qs x))=(zGZ ps qs C).map dp by unfold zGZ;rw[Qx];rfl];rw[kY (n:=a) (m:=s) (.inl rfl) (by unfold zGZ;rw[Qe];omega) ?_ n4 ok]
  ·symm
  ·intro p hp1
   obtain⟨x,hx,rfl⟩:=Ql.mp hp1;have v:=hv x ((h3 x).mp hx);exact⟨zx x ((h3 x).mp hx),v.2.2⟩
 ·intro x hx
  have v:=hv x ((h3 x).mp hx);erw[zBJ ⋯ zp (zx x ((h3 x).mp hx)) ⋯ hp he (bd x hx).1 (bd x hx).2,zBJ ⋯ zq (zx x ((h3 x).mp hx)) ⋯ hq hf (bd x hx).1 (by rw[<-hL];exact(bd x hx).2),yU v.1 v.2.1 ⋯];symm
def wys:List Str:=["row","back","even","lack","part","half"]
def wOK(w:Str)(ws:List Int)(m:Nat):Prop:=(w = "even" ∨ w = "lack")/\ws.length=m/\(∀ x∈ws,1<=x/\x<=10^6)∨¬ (w = "even" ∨ w = "lack")/\ws=[]
def IsC:Nat->D->Prop
 | 0,_=>False
 | n+1,d=>(∃ c:Int,d=.tup [.str "boat", .int c])∨∃(w:Str)(ws:List Int)(ks:List D),d=.tup [.str w,.tup (ws.map D.int),.tup ks]/\(w == "boat")=false/\0<ks.length/\ks.length<=100/\ws.length<=100/\(w∈wys/\wOK w ws ks.length)/\∀ k∈ks,IsC n k
def clm:Nat->D->List Int
 | 0,_=>[]
 | n+1,d=>match d with
  | .tup [_,.int c]=>[c]
  | .tup [_,_,.tup ks]=>ks.flatMap (clm n)
  | _=>[]
def dpt:Nat->D->Int
 | 0,_=>0
 | n+1,d=>match d with
  | .tup [_,_,.tup ks]=>1+mx0 (ks.map (dpt n))
  | _=>1
def rS{c:Int}:bZ [.tup [.str "boat", .int c]]=.ok (.v (.bl true)):=by
 unfold bZ;symm
def nZ{w:Str}{a b:D}(h:(w == "boat")=false):bZ [.tup [.str w,a,b]]=.ok (.v (.bl false)):=by
 unfold bZ;erw[h]
def oJ{w:Str}{a b:D}(h:(w == "boat")=false):cT [.tup [.str w,a,b]]=.ok (.v b):=by
 unfold cT;erw[nZ h];symm
def zJx{ks:List D}{n i:Nat}:((ks.take i).flatMap (clm n)).length<=(ks.flatMap (clm n)).length:=by
 conv=>rhs;rw[<-Y7 i ks,Xw,Qo]
 exact Nat.le_add_right _ _
def zJb{ks:List D}{n:Nat}{k:D}(h:k∈ks):(clm n k).length<=(ks.flatMap (clm n)).length:=by
 obtain⟨a,b,rfl⟩:=List.append_of_mem h;rw[Xw,V4,Qo,Qo];omega
def uQ:∀(n:Nat)(d:D),IsC n d->(clm n d).length<=1000->gW n [d]=.ok (.f ((clm n d).map D.int))
 | 0,d,h,_=>h.elim
 | n+1,d,h,hl=>by
  show lP (gW n) [d]=_
  unfold lP;symm;rcases h with⟨c,rfl⟩ | ⟨w,ws,ks,rfl,hw,k0,k1,w1,hy,hk⟩
  ·rw[rS]
   symm;rfl
  ·rw[nZ hw]
   erw[oJ hw];symm;refine kW (Q:=fun r=>r.bind fin=.ok (.f ((ks.flatMap (clm n)).map D.int))) (fun i ρ=>∃ a,ρ=[.val (.tup [.str w,.tup (ws.map D.int),.tup ks]),.own (((ks.take i).flatMap (clm n)).map D.int),a]) ⟨_,rfl⟩ ?_ ?_
   ·rintro i e ρ he ⟨a,rfl⟩
    have hm:=Qi he;have hl':(ks.flatMap (clm n)).length<=1000:=hl;have l1:=zJb (n:=n) hm;have l2:=zJx (ks:=ks) (n:=n) (i:=i);erw[uQ n e (hk e hm) ⋯,Jk ⋯];refine⟨_,rfl,.val e,?_⟩
    rw[nY he,Xw,Q8];simp[List.flatMap]
   ·rintro ρ' ⟨a,rfl⟩
    erw[Vu]
def zX:∀(n:Nat)(d:D),IsC n d->dH n [d]=.ok (.v (.int (dpt n d)))
 | 0,d,h=>h.elim
 | n+1,d,h=>by
  show oK (dH n) [d]=_
  unfold oK;symm;rcases h with⟨c,rfl⟩ | ⟨w,ws,ks,rfl,hw,k0,k1,w1,hy,hk⟩
  ·symm
   rfl
  ·symm
   rw[hw];symm
   have e:=dQ (u:=fun k=>k) (g:=fun k=>.int (dpt n k)) (l:=ks) (f:=aL (dH n) (aB (aE 1) aNil)) (ρ:=[.val (.tup [.str w,.tup (ws.map D.int),.tup ks])]) ⋯ (fun k hm=>by
    erw[zX n k (hk k hm)]
    symm)
   rw[List.map_id'] at e;rw[e];erw[zCw k0];symm;rfl
def dOK:Nat->D->Prop
 | 0,_=>False
 | n+1,d=>(∃ i,d=.int i)∨(∃ x,d=.str x)∨∃ ds,d=.tup ds/\ds.length<=1000/\∀ e∈ds,dOK n e
def zMb:∀ {n m:Nat} {d:D},dOK n d->n<=m->dOK m d
 | 0,_,_,h,_=>h.elim
 | n+1,0,_,_,l=>absurd l ⋯
 | n+1,m+1,d,h,l=>by
  rcases h with h | h | ⟨ds,rfl,hl,he⟩
  ·exact .inl h
  ·exact .inr (.inl h)
  ·exact .inr (.inr ⟨ds,rfl,hl,fun e h=>zMb (he e h) ⋯⟩)
def zHN:∀(n:Nat)(d:D),IsC n d->dOK (2*n+1) d
 | 0,d,h=>h.elim
 | n+1,d,h=>by
  rcases h with⟨c,rfl⟩ | ⟨w,ws,ks,rfl,hw,k0,k1,w1,hy,hk⟩
  ·refine .inr (.inr ⟨_,rfl,by simp,fun e he=>?_⟩)
   rcases Qd.mp he with rfl | he
   ·exact .inr (.inl ⟨_,rfl⟩)
   ·rw[Qw.mp he];exact .inl ⟨_,rfl⟩
  ·refine .inr (.inr ⟨_,rfl,by simp,fun e he=>?_⟩)
   rcases Qd.mp he with rfl | he
   ·exact .inr (.inl ⟨_,rfl⟩)
   ·rcases Qd.mp he with rfl | he
    ·refine .inr (.inr ⟨_,rfl,by rw[Qe];omega,fun x hx=>?_⟩)
     obtain⟨i,_,rfl⟩:=Ql.mp hx;exact .inl ⟨_,rfl⟩
    ·rw[Qw.mp he]
     exact .inr (.inr ⟨_,rfl,⋯,fun x hx=>zHN n x (hk x hx)⟩)
def zEK:∀(n:Nat)(d:D),dOK n d->noL d=true
 | 0,d,h=>h.elim
 | n+1,d,h=>by
  rcases h with⟨i,rfl⟩ | ⟨x,rfl⟩ | ⟨ds,rfl,hl,he⟩
  ·simp[noL]
  ·simp[noL]
  ·rw[noL]
   clear hl
   induction ds with
   | nil=>rfl
   | cons a r ih=>rw[noLs,zEK n a (he a Qb),ih fun e h=>he e (Qc _ h)];rfl
def rC:∀ {n m:Nat} {d:D},IsC n d->n<=m->IsC m d
 | 0,_,_,h,_=>h.elim
 | n+1,0,_,_,l=>absurd l ⋯
 | n+1,m+1,d,h,l=>by
  rcases h with h | ⟨w,ws,ks,rfl,hw,k0,k1,w1,hy,hk⟩
  ·exact .inl h
  ·exact .inr ⟨w,ws,ks,rfl,hw,k0,k1,w1,hy,fun k h=>rC (hk k h) ⋯⟩
def oB:∀ {n m:Nat} {d:D},IsC n d->n<=m->clm m d=clm n d
 | 0,_,_,h,_=>h.elim
 | n+1,0,_,_,l=>absurd l ⋯
 | n+1,m+1,d,h,l=>by
  rcases h with⟨c,rfl⟩ | ⟨w,ws,ks,rfl,hw,k0,k1,w1,hy,hk⟩
  ·rfl
  ·show ks.flatMap (clm m)=ks.flatMap (clm n)
   rw[U2,U2];congr 1
   exact V0 fun k h=>oB (hk k h) ⋯
def zFr:∀ {n m:Nat} {d:D},IsC n d->n<=m->dpt m d=dpt n d
 | 0,_,_,h,_=>h.elim
 | n+1,0,_,_,l=>absurd l ⋯
 | n+1,m+1,d,h,l=>by
  rcases h with⟨c,rfl⟩ | ⟨w,ws,ks,rfl,hw,k0,k1,w1,hy,hk⟩
  ·rfl
  ·show 1+mx0 (ks.map (dpt m))=1+mx0 (ks.map (dpt n))
   rw[V0 fun k h=>zFr (hk k h) ⋯]
def zRw:∀ {l:List Int} {b:Int},0<=b->(∀ x∈l,x<=b)->mx0 l<=b
 | [],b,h,_=>h
 | a::r,b,_,h=>by
  have key:∀(r:List Int)(a:Int),a<=b->(∀ x∈r,x<=b)->zAZ a r<=b:=by
   intro r
   induction r with
   | nil=>intro a ha _;exact ha
   | cons c r ih=>
    intro a ha hr;rw[zAZ];refine ih _ ?_ fun x hx=>hr x (Qc _ hx)
    split
    ·exact hr c Qb
    ·exact ha
  exact key r a (h a Qb) fun x hx=>h x (Qc _ hx)
def zIR:∀ {l:List Int} {x:Int},x∈l->x<=mx0 l
 | [],_,h=>by cases h
 | a::r,x,h=>by
  have key:∀(r:List Int)(a:Int),a<=zAZ a r/\∀ x∈r,x<=zAZ a r:=by
   intro r
   induction r with
   | nil=>intro a;exact⟨Yz _,fun x h=>by cases h⟩
   | cons c r ih=>
    intro a;rw[zAZ];have h1:=ih (if c > a then c else a);refine⟨Vt ?_ h1.1,fun x hx=>?_⟩
    ·split<;>omega
    ·rcases Qd.mp hx with rfl | hx
     ·refine Vt ?_ h1.1;split<;>omega
     ·exact h1.2 x hx
  rcases Qd.mp h with rfl | h
  ·exact(key r x).1
  ·exact(key r a).2 x h
def zHR:∀ {n:Nat} {d:D},IsC n d->1<=dpt n d/\dpt n d<=n
 | 0,_,h=>h.elim
 | n+1,d,h=>by
  rcases h with⟨c,rfl⟩ | ⟨w,ws,ks,rfl,hw,k0,k1,w1,hy,hk⟩
  ·exact⟨by show(1:Int)<=1;omega,by show(1:Int)<=_;omega⟩
  ·have h1:mx0 (ks.map (dpt n))<=n:=zRw ⋯ fun x hx=>by
    obtain⟨k,hk',rfl⟩:=Ql.mp hx;exact(zHR (hk k hk')).2
   have h2:0<=mx0 (ks.map (dpt n)):=by
    cases ks with
    | nil=>cases k0
    | cons k r=>exact Vt (by have:=(zHR (hk k Qb)).1;omega) (zIR (x:=dpt n k) (by simp))
   exact⟨by show 1<=1+mx0 (ks.map (dpt n));omega,by show 1+mx0 (ks.map (dpt n))<=((n+1:Nat):Int);omega⟩
def zNW{w:Str}(h:w∈wys):(aT.lookup w).isSome=true/\(w == "boat")=false:=by
 simp only[wys,Qd,Xc,or_false] at h;rcases h with rfl | rfl | rfl | rfl | rfl | rfl<;>decide
def zSs{w:Str}:oIn (.str w) (.tup [.str "even", .str "lack"])=.ok (.bl (decide (w = "even" ∨ w = "lack"))):=by
 show(if depS [D.str "even", D.str "lack"]<=50 then Res.ok (D.bl (((Str.ofString "even")==w) || (((Str.ofString "lack")==w) || false))) else .no)=_
 rw[Jk ∅,Bool.or_false];congr 2
 by_cases h1:w = "even"
 ·subst h1;decide
 ·by_cases h2:w = "lack"
  ·subst h2;decide
  ·rw[Jj (fun h=>h.elim h1 h2),beq_eq_false_iff_ne.mpr (Ne.symm h1),beq_eq_false_iff_ne.mpr (Ne.symm h2)];rfl
structure Pl (L:List (D×Int)) (boats:Int):Prop where
 each:∀ p∈L,1<=p.2/\p.2<=7/\IsC p.2.toNat p.1
 few:((L.flatMap fun p=>clm 7 p.1).length:Int)<=boats
 most:boats<=12
 rng:∀ c∈(L.flatMap fun p=>clm 7 p.1),0<=c/\c<=10^9
def zHz:∀ {l:List D},(∀ d∈l,noL d=true)->noLs l=true
 | [],_=>rfl
 | a::r,h=>by rw[noLs,h a Qb,zHz fun d hd=>h d (Qc _ hd)];rfl
def zMw:∀ {n:Nat} {d:D},dOK n d->dep d<=n
 | 0,_,h=>h.elim
 | n+1,d,h=>by
  rcases h with⟨i,rfl⟩ | ⟨x,rfl⟩ | ⟨ds,rfl,hl,he⟩
  ·simp[dep]
  ·simp[dep]
  ·rw[dep]
   clear hl
   have:depS ds<=n:=by
    induction ds with
    | nil=>simp[depS]
    | cons a r ih=>
     rw[depS];exact Uo.mpr ⟨zMw (he a Qb),ih fun e h=>he e (Qc _ h)⟩
   omega
def zId{n:Nat}:∀ {ds:List D},(∀ d∈ds,dOK n d)->depS ds<=n
 | [],_=>by simp[depS]
 | a::r,h=>by rw[depS];exact Uo.mpr ⟨zMw (h a Qb),zId fun e he=>h e (Qc _ he)⟩
def zMj{l:List D}(h:∀ d∈l,dOK 15 d):oEq (.lst l) (.lst [])=.ok (.bl (decide (l.length=0)))/\oNe (.lst l) (.lst [])=.ok (.bl (!decide (l.length=0))):=by
 have hd:dep (.lst l)<=50:=by rw[dep];have:=zId h;omega
 have e:eqD (.lst l) (.lst [])=decide (l.length=0):=by cases l<;>simp[eqD,zHw]
 unfold oEq oNe;rw[Jk hd,Jk hd,e];exact⟨rfl,rfl⟩
def zLi{w:Str}(h:w∈wys):∃ v:Wy,v.s=w:=by
 unfold wys at h;rcases Qd.mp h with rfl | h
 ·exact⟨.row,rfl⟩
 rcases Qd.mp h with rfl | h
 ·exact⟨.back,rfl⟩
 rcases Qd.mp h with rfl | h
 ·exact⟨.even,rfl⟩
 rcases Qd.mp h with rfl | h
 ·exact⟨.lack,rfl⟩
 rcases Qd.mp h with rfl | h
 ·exact⟨.part,rfl⟩
 ·rw[Qw.mp h];exact⟨.half,rfl⟩
def zJT{v:Wy}{ws cs:List Int}(h:wOK v.s ws cs.length):v.due ws cs:=by
 have k:¬ (v.s = "even" ∨ v.s = "lack")->ws=[]:=fun hn=>by
  rcases h with⟨a,_⟩ | ⟨_,b⟩
  ·exact absurd a hn
  ·exact b
 have k2:(v.s = "even" ∨ v.s = "lack")->Wt ws cs:=fun hy=>by
  rcases h with⟨_,b,c⟩ | ⟨a,_⟩
  ·exact⟨b,fun x hx=>(c x hx).1,fun x hx=>(c x hx).2⟩
  ·exact absurd hy a
 cases v with
 | even=>exact k2 (.inl rfl)
 | lack=>exact k2 (.inr rfl)
 | row=>exact k ∅
 | back=>exact k ∅
 | part=>exact k ∅
 | half=>exact k ∅
def Gc(n:Nat)(d:D):Prop:=IsC n d/\(clm n d).length<=12/\∀ c∈clm n d,0<=c/\c<=10^9
def zMi:∀ {l:List Int},(∀ c∈l,0<=c/\c<=10^9)->0<=l.sum/\l.sum<=l.length*10^9
 | [],_=>∅
 | c::r,h=>by
  have ih:=zMi fun x hx=>h x (Qc _ hx)
  have a:=h c Qb;rw[Qr,Qk];have:((r.length+1:Nat):Int)*10^9=(r.length:Int)*10^9+10^9:=by rw[Y0,Y1];rfl
  omega
def Gc.sum{n:Nat}{d:D}(h:Gc n d):0<=(clm n d).sum/\(clm n d).sum<=12*10^9:=by
 have:=zMi h.2.2
 have:=h.2.1
 omega
def tE{n:Nat}:∀ ks:List D,(ks.map fun k=>(clm n k).sum).sum=(ks.flatMap (clm n)).sum
 | []=>rfl
 | k::r=>by rw[Qq,Qr,tE r,V4,Xm]
def zBu:∀ {n:Nat} {d:D},IsC n d->1<=(clm n d).length
 | 0,_,h=>h.elim
 | n+1,d,h=>by
  rcases h with⟨c,rfl⟩ | ⟨w,ws,ks,rfl,hw,k0,k1,w1,hy,hk⟩
  ·exact Qf 1
  ·cases ks with
   | nil=>simp at k0
   | cons k r=>
    have:=zBu (hk k Qb)
    show 1<=((k::r).flatMap (clm n)).length
    rw[V4,Qo];omega
def zCZ{n:Nat}:∀ {ks:List D},(∀ k∈ks,IsC n k)->ks.length<=(ks.flatMap (clm n)).length
 | [],_=>Vi _
 | k::r,h=>by
  have a:=zBu (h k Qb);have b:=zCZ fun x hx=>h x (Qc _ hx)
  rw[Qk,V4,Qo];omega
def zPU{n:Nat}{ks:List D}{k:D}(hk:k∈ks){c:Int}(hc:c∈clm n k):c∈ks.flatMap (clm n):=List.mem_flatMap.mpr ⟨k,hk,hc⟩
def Gc.kid{n:Nat}{w:D}{a ks:List D}(h:Gc (n+1) (.tup [w,.tup a,.tup ks]))(hi:∀ k∈ks,IsC n k){k:D}(hk:k∈ks):Gc n k:=
 ⟨hi k hk,Q4 (zJb hk) h.2.1,fun c hc=>h.2.2 c (zPU hk hc)⟩
def kcl(n:Nat)(ks:List D):List Int:=ks.map fun k=>(clm n k).sum
def fI(n:Nat)(ks:List D):(kcl n ks).length=ks.length:=Qe ..
def Gc.cl{n:Nat}{w:D}{a ks:List D}(h:Gc (n+1) (.tup [w,.tup a,.tup ks]))(hi:∀ k∈ks,IsC n k)(h0:0<ks.length):Cl (kcl n ks):=by
 have b:∀ c∈kcl n ks,0<=c/\c<=12*10^9:=fun c hc=>by
  obtain⟨k,hk,rfl⟩:=Ql.mp hc;exact(h.kid hi hk).sum
 have l:(ks.flatMap (clm n)).length<=12:=h.2.1;have:=zCZ hi
 exact⟨fun c hc=>(b c hc).1,fun c hc=>by have:=(b c hc).2;omega,by rw[fI];omega,by rw[fI];omega⟩
def ShL(P:D->Rat->List Rat->Prop):List D->(Nat->Rat)->Nat->List Rat->Prop
 | [],_,_,xs=>xs=[]
 | k::ks,f,i,xs=>∃ a b,xs=a++b/\P k (f i) a/\ShL P ks f (i+1) b
def Sh:Nat->D->Rat->List Rat->Prop
 | 0,_,_,_=>False
 | n+1,d,q,xs=>(∃ c:Int,d=.tup [.str "boat", .int c]/\xs=[q])∨∃(v:Wy)(ws:List Int)(ks:List D)(f:Nat->Rat),d=.tup [.str v.s,.tup (ws.map D.int),.tup ks]/\v.due ws (kcl n ks)/\Al 3000 ws (kcl n ks) q f v/\ShL (Sh n) ks f 0 xs
def zIO{P:D->Rat->List Rat->Prop}{n:Nat}{f:Nat->Rat}:∀ {ks:List D} {i:Nat} {xs:List Rat},(∀ k∈ks,∀ q xs,P k q xs->xs.length=(clm n k).length)->ShL P ks f i xs->xs.length=(ks.flatMap (clm n)).length
 | [],i,xs,_,h=>by rw[show xs=[] from h];rfl
 | k::r,i,xs,hp,h=>by
  obtain⟨a,b,rfl,ha,hb⟩:=h;rw[Qo,hp k Qb _ _ ha,zIO (fun x hx=>hp x (Qc _ hx)) hb,V4,Qo]
def zMz:∀ {n:Nat} {d:D} {q:Rat} {xs:List Rat},Sh n d q xs->xs.length=(clm n d).length
 | 0,_,_,_,h=>h.elim
 | n+1,d,q,xs,h=>by
  rcases h with⟨c,rfl,rfl⟩ | ⟨v,ws,ks,f,rfl,hd,al,hs⟩
  ·rfl
  ·exact zIO (fun k _ q xs h=>zMz h) hs
def zFY{a:D}{l:List D}:iR [.tup (a::l)]=.ok (.v a):=by
 unfold iR;symm
def tH{a b:D}{l:List D}:cP [.tup (a::b::l)]=.ok (.v b):=by
 unfold cP;symm
def sK{n:Nat}{d:D}(h:IsC n d)(hn:n<=10)(hl:(clm n d).length<=1000):dL [d]=.ok (.v (.int (clm n d).sum)):=by
 have e:=oB h hn;unfold dL;erw[uQ 10 d (rC h hn) (by rw[e];exact hl),e]
def sY{n:Nat}{w:Str}{a:D}{ks:List D}(hw:(w == "boat")=false)(hi:∀ k∈ks,IsC n k)(hn:n<=10)(hl:(ks.flatMap (clm n)).length<=1000):cN [.tup [.str w,a,.tup ks]]=.ok (.f ((kcl n ks).map D.int)):=by
 unfold cN;erw[oJ hw];symm
 rw[zDq (h:=fun k=>D.int (clm n k).sum) (by have:=zCZ hi;omega) (fun k hk=>by
  erw[sK (hi k hk) hn (Q4 (zJb hk) hl)]
  symm)]
 symm;unfold kcl;rw[Qx];rfl
def zMU(cs:List Int):Sq (.lst (cs.map D.int)) cs:=.inl rfl
def zG:∀(n N m:Nat)(d:D)(q:Rat),Gc n d->n<=N->n<=9->0<=q->q<=((clm n d).sum:Rat)->(q.den:Int)<2^m->m+34*n<=2000->∃ xs,fT N [d,dq q]=.ok (.f (xs.map dq))/\Sh n d q xs
 | 0,_,_,_,_,h,_,_,_,_,_,_=>h.1.elim
 | n+1,0,_,_,_,_,hN,_,_,_,_,_=>⋯
 | n+1,N+1,m,d,q,g,hN,hn,q0,q1,qd,hm=>by
  rcases g.1 with⟨c,rfl⟩ | ⟨w,ws,ks,rfl,hw,k0,k1,w1,hy,hk⟩
  ·refine⟨[q],?_,.inl ⟨c,rfl,rfl⟩⟩
   show jB (fT N) _=_
   unfold jB;erw[rS];symm
  ·obtain⟨v,rfl⟩:=zLi hy.1
   have cl:=g.cl hk k0;have l12:(ks.flatMap (clm n)).length<=12:=g.2.1;have hs:(kcl n ks).sum=(clm (n+1) (.tup [.str v.s,.tup (ws.map D.int),.tup ks])).sum:=tE ks;have gs:=g.sum;have due:v.due ws (kcl n ks):=zJT (by rw[fI];exact hy.2)
   have sq:Sz (34+m) q:=(Dn.den q).sz (dB q) qd q0 q1 ⋯
   have hl:Haul (34+m) q (kcl n ks).sum:=⟨q0,by rw[hs];exact q1,sq⟩
   obtain⟨f,ef,af⟩:=zPo (wd:=.tup (ws.map D.int)) (.inr rfl) (zMU (kcl n ks)) ⋯ due cl hl
   have df:=zOK due cl hl af;have hS:(kcl n ks).sum<2^34:=by rw[hs];omega
   obtain⟨E,e0,e1,e2⟩:=zLH due cl hS af (Dn.den q)
   have dk:∀ i,i<ks.length->((f i).den:Int)<2^(m+34):=fun i hi=>by
    have a:=(e2 i (by rw[fI];exact hi)).le (Xl (dB q) e0)
    have b:(q.den:Int)*E<2^m*2^34:=Int.mul_lt_mul qd (V6 e1) e0 (V6 (Yg ∅))
    rw[U3];omega
   have loopOk:∀(js:List D)(i:Nat)(acc:List Rat)(s t:Sl),(∀ k∈js,k∈ks)->i+js.length=ks.length->ks.drop i=js->acc.length+(js.flatMap (clm n)).length<=12->∃ xs s' t',ShL (Sh n) js f i xs/\
     gE (zGN (jR (gName 4) (jR (gName 5) zGU))) (sZ (fT N)) (kU js ((List.range' i js.length).map fun j=>dq (f j))) [.val (.tup [.str v.s,.tup (ws.map D.int),.tup ks]),.val (dq q),.val (.lst (((List.range (kcl n ks).length).map f).map dq)),.own (acc.map dq),s,t]=
      .ok (.nx [.val (.tup [.str v.s,.tup (ws.map D.int),.tup ks]),.val (dq q),.val (.lst (((List.range (kcl n ks).length).map f).map dq)),.own ((acc++xs).map dq),s',t']):=by
    intro js
    induction js with
    | nil=>intro i acc s t _ _ _ _;exact⟨[],s,t,rfl,by rw[Vm];rfl⟩
    | cons k r ih=>
     intro i acc s t hm' hl' hd' ha;have hik:i<ks.length:=by rw[Qk] at hl';omega
     have ik:k∈ks:=hm' k Qb;have gk:=g.kid hk ik;have fk:=df.bd i (by rw[fI];exact hik)
     have ck:cR (kcl n ks) i=((clm n k).sum:Rat):=by
      unfold cR kcl
      have:ks[i]?=some k:=by
       have:=U1 (xs:=ks) (i:=i) (j:=0)
       rw[hd'] at this;simpa using this.symm
      rw[Qv,Qt,this];rfl
     obtain⟨xs,ex,sx⟩:=zG n N (m+34) k (f i) gk ⋯ ⋯ fk.1 (by rw[<-ck];exact fk.2.1) (dk i hik) ⋯
     have lx:=zMz sx;rw[V4,Qo] at ha;obtain⟨ys,s',t',sy,ey⟩:=ih (i+1) (acc++xs) (.val k) (.val (dq (f i))) (fun x hx=>hm' x (Qc _ hx)) (by rw[Qk] at hl';omega) (by rw[<-List.drop_drop,hd'];rfl) (by rw[Qo];omega)
     refine⟨xs++ys,s',t',⟨xs,ys,rfl,sx,sy⟩,?_⟩
     rw[Qk,U5,Qq,show kU (k::r) (dq (f i)::(List.range' (i+1) r.length).map fun j=>dq (f j))=.tup [k,dq (f i)]::kU r ((List.range' (i+1) r.length).map fun j=>dq (f j)) from rfl]
     rw[dD (ρ1:=[.val (.tup [.str v.s,.tup (ws.map D.int),.tup ks]),.val (dq q),.val (.lst (((List.range (kcl n ks).length).map f).map dq)),.own (acc.map dq),.val k,.val (dq (f i))]) (ρ2:=[.val (.tup [.str v.s,.tup (ws.map D.int),.tup ks]),.val (dq q),.val (.lst (((List.range (kcl n ks).length).map f).map dq)),.own ((acc++xs).map dq),.val k,.val (dq (f i))]) (by symm) (by
      erw[ex];symm
      rw[Jk ⋯,Q8]),ey,Vr]
   obtain⟨xs,s',t',sx,ex⟩:=loopOk ks 0 [] .un .un (fun k h=>h) ⋯ rfl (by rw[Ub];omega)
   refine⟨xs,?_,.inr ⟨v,ws,ks,f,rfl,due,af.mono ⋯,sx⟩⟩
   show jB (fT N) _=_
   unfold jB;erw[nZ hw,zFY,tH,sY hw hk ⋯ ⋯,ef,oJ hw];symm;rw[pQ rfl rfl,show((List.range (kcl n ks).length).map f).map dq=(List.range' 0 ks.length).map fun j=>dq (f j) by rw[Qx,fI,Uh];rfl];symm;rw[show((List.range (kcl n ks).length).map f).map dq=(List.range' 0 ks.length).map fun j=>dq (f j) by rw[Qx,fI,Uh];rfl] at ex;rw[Xh] at ex;rw[ex];rfl
def zLj{n m:Nat}{d:D}{q:Rat}(g:Gc n d)(hn:n<=9)(q0:0<=q)(q1:q<=((clm n d).sum:Rat))(qd:(q.den:Int)<2^m)(hm:m+34*n<=2000):∃ xs,lK [d,dq q]=.ok (.f (xs.map dq))/\Sh n d q xs:=by
 have gs:=g.sum;obtain⟨xs,ex,sx⟩:=zG n 10 m d q g ⋯ hn q0 q1 qd hm
 refine⟨xs,?_,sx⟩
 have sq:Sz (34+m) q:=(Dn.den q).sz (dB q) qd q0 q1 ⋯
 unfold lK;erw[sK g.1 ⋯ (by have:=g.2.1;omega),bP,mF ⋯ ⟨q0,q1,sq⟩ ⋯,ex];symm
def A2{r s:Type}(R:r->s->Prop):List r->List s->Prop
 | [],[]=>True
 | a::l,b::k=>R a b/\A2 R l k
 | _,_=>False
def A2.app{r s:Type}{R:r->s->Prop}:∀ {l l':List r} {k k':List s},A2 R l k->A2 R l' k'->A2 R (l++l') (k++k')
 | [],_,[],_,_,h=>h
 | _::l,_,_::k,_,h,h'=>⟨h.1,A2.app h.2 h'⟩
def A2.len{r s:Type}{R:r->s->Prop}:∀ {l:List r} {k:List s},A2 R l k->l.length=k.length
 | [],[],_=>rfl
 | _::l,_::k,h=>by rw[Qk,Qk,A2.len h.2]
def A2.at{r s:Type}{R:r->s->Prop}{a:r}{b:s}:∀ {l:List r} {k:List s} {i:Nat},A2 R l k->i<l.length->R (l.getD i a) (k.getD i b)
 | _::l,_::k,0,h,_=>h.1
 | _::l,_::k,i+1,h,hi=>A2.at (i:=i) h.2 (by simpa using hi)
def A2.mem{s p:Type}{R:s->p->Prop}:∀ {l:List s} {k:List p} {x:s},A2 R l k->x∈l->∃ y∈k,R x y
 | a::l,b::k,x,h,hx=>by
  rcases Qd.mp hx with rfl | hx
  ·exact⟨b,Qb,h.1⟩
  ·obtain⟨y,hy,r⟩:=A2.mem h.2 hx
   exact⟨y,Qc _ hy,r⟩
def Bc(x:Rat)(c:Int):Prop:=0<=x/\x<=(c:Rat)
def lW(l k:List Rat):(l++k).sum=l.sum+k.sum:=by
 induction l with
 | nil=>rw[Xp,Xe,W7]
 | cons a l ih=>rw[Uc,Qr,Qr,ih];grind
def zME{P:D->Rat->List Rat->Prop}{n:Nat}{f:Nat->Rat}:∀ {ks:List D} {i:Nat} {xs:List Rat},(∀ k∈ks,∀ q xs,P k q xs->0<=q->q<=((clm n k).sum:Rat)->A2 Bc xs (clm n k)/\xs.sum=q)->(∀ j k,ks[j]?=some k->0<=f (i+j)/\f (i+j)<=((clm n k).sum:Rat))->ShL P ks f i xs->A2 Bc xs (ks.flatMap (clm n))/\xs.sum=((List.range' i ks.length).map f).sum
 | [],i,xs,_,_,h=>by rw[show xs=[] from h];exact⟨trivial,rfl⟩
 | k::r,i,xs,hp,hf,h=>by
  obtain⟨a,b,rfl,ha,hb⟩:=h;have f0:=hf 0 k rfl;obtain⟨a1,a2⟩:=hp k Qb _ _ ha f0.1 f0.2
  obtain⟨b1,b2⟩:=zME (fun x hx=>hp x (Qc _ hx)) (fun j k' hj=>by
   have:=hf (j+1) k' (by simpa using hj)
   rw[show i+1+j=i+(j+1) by omega];exact this) hb
  refine⟨by rw[V4];exact a1.app b1,?_⟩
  rw[lW,a2,b2,Qk,U5,Qq,Qr]
def zEz{n:Nat}{ks:List D}{j:Nat}{k:D}(h:ks[j]?=some k):j<(kcl n ks).length/\cR (kcl n ks) j=((clm n k).sum:Rat):=by
 refine⟨by rw[fI];exact(Qy.mp h).1,?_⟩
 unfold cR kcl;rw[Qv,Qt,h];rfl
def zEp:∀ {n:Nat} {d:D} {q:Rat} {xs:List Rat},Gc n d->Sh n d q xs->0<=q->q<=((clm n d).sum:Rat)->A2 Bc xs (clm n d)/\xs.sum=q
 | 0,_,_,_,g,_,_,_=>g.1.elim
 | n+1,d,q,xs,g,h,q0,q1=>by
  rcases h with⟨c,rfl,rfl⟩ | ⟨v,ws,ks,f,rfl,hd,al,hs⟩
  ·refine⟨⟨⟨q0,?_⟩,trivial⟩,by rw[Qr,Xe,Ur]⟩
   have e:((clm (n+1) (.tup [.str "boat", .int c])).sum:Int)=c:=by show([c]:List Int).sum=c;simp
   rw[e] at q1;exact q1
  ·rcases g.1 with⟨c,e⟩ | ⟨w,ws',ks',e,hw,k0,k1,w1,hy,hk⟩
   ·simp at e
   ·simp only[D.tup.injEq,Yn,and_true] at e
    obtain⟨e1,e2,rfl⟩:=e;have cl:=g.cl hk k0;have e:(kcl n ks).sum=(clm (n+1) (.tup [.str v.s,.tup (ws.map D.int),.tup ks])).sum:=tE ks;obtain⟨b,s⟩:=zKr hd cl q0 (by rw[e];exact q1) al
    obtain⟨r1,r2⟩:=zME (P:=Sh n) (n:=n) (f:=f) (i:=0) (fun k hk' q xs h0 h1 h2=>zEp (g.kid hk hk') h0 h1 h2) (fun j k hj=>by
     obtain⟨j1,j2⟩:=zEz (n:=n) hj;rw[Vq,<-j2]
     exact b j j1) hs
    refine⟨r1,?_⟩
    rw[r2,<-Uh,<-fI n ks];exact s
def kn:Nat->D->Nat
 | 0,_=>0
 | n+1,d=>match d with
  | .tup [_,_,.tup ks]=>1+(ks.map (kn n)).sum
  | _=>0
def zQT{n:Nat}:∀ {ks:List D},(∀ k∈ks,kn n k<=(n-1)*(clm n k).length)->(ks.map (kn n)).sum<=(n-1)*(ks.flatMap (clm n)).length
 | [],_=>Vi _
 | k::r,h=>by
  have a:=h k Qb;have b:=zQT fun x hx=>h x (Qc _ hx)
  rw[Qq,Qr,V4,Qo,U6];omega
def zSM:∀ {n:Nat} {d:D},IsC n d->kn n d<=(n-1)*(clm n d).length
 | 0,_,h=>h.elim
 | n+1,d,h=>by
  rcases h with⟨c,rfl⟩ | ⟨w,ws,ks,rfl,hw,k0,k1,w1,hy,hk⟩
  ·exact Vi _
  ·have a:=zQT fun k h=>zSM (hk k h)
   have b:=zCZ hk;show 1+(ks.map (kn n)).sum<=(n+1-1)*(ks.flatMap (clm n)).length
   rw[Ws]
   cases n with
   | zero=>obtain⟨k,r,rfl⟩:=List.exists_cons_of_length_pos k0;exact(hk k Qb).elim
   | succ n=>
    rw[Ws] at a;rw[Nat.add_mul,Nat.one_mul];omega
def lD{a b:Int}{m n:Nat}(a0:0<a)(b0:0<b)(ha:a<=2^m)(hb:b<=2^n):a*b<=2^(m+n):=by
 rw[U3];exact Int.mul_le_mul ha hb ⋯ (V6 (Yg ∅))
def zMD{P:D->Rat->List Rat->Prop}{n:Nat}{f:Nat->Rat}{B:Int}:∀ {ks:List D} {i:Nat} {xs:List Rat},(∀ k∈ks,∀ q xs B,P k q xs->0<=q->q<=((clm n k).sum:Rat)->Dn B q->∃ E:Int,0<E/\E<=2^(34*kn n k)/\∀ x∈xs,Dn (B*E) x)->(∀ j k,ks[j]?=some k->Dn B (f (i+j))/\0<=f (i+j)/\f (i+j)<=((clm n k).sum:Rat))->ShL P ks f i xs->∃ E:Int,0<E/\E<=2^(34*(ks.map (kn n)).sum)/\∀ x∈xs,Dn (B*E) x
 | [],i,xs,_,_,h=>⟨1,∅,by show(1:Int)<=2^(34*0);decide,fun x hx=>by rw[show xs=[] from h] at hx;cases hx⟩
 | k::r,i,xs,hp,hf,h=>by
  obtain⟨a,b,rfl,ha,hb⟩:=h;have f0:=hf 0 k rfl;obtain⟨E,e0,e1,e2⟩:=hp k Qb _ _ B ha f0.2.1 f0.2.2 f0.1
  obtain⟨E',e0',e1',e2'⟩:=zMD (B:=B) (fun x hx=>hp x (Qc _ hx)) (fun j k' hj=>by
   have:=hf (j+1) k' (by simpa using hj)
   rw[show i+1+j=i+(j+1) by omega];exact this) hb
  refine⟨E*E',Xl e0 e0',?_,fun x hx=>?_⟩
  ·rw[Qq,Qr,U6]
   exact lD e0 e0' e1 e1'
  ·rcases Q7.mp hx with hx | hx
   ·rw[<-Ym];exact(e2 x hx).mul E'
   ·rw[Uf E,<-Ym];exact(e2' x hx).mul E
def zSR:∀ {n:Nat} {d:D} {q:Rat} {xs:List Rat} {B:Int},Gc n d->Sh n d q xs->0<=q->q<=((clm n d).sum:Rat)->Dn B q->∃ E:Int,0<E/\E<=2^(34*kn n d)/\∀ x∈xs,Dn (B*E) x
 | 0,_,_,_,_,g,_,_,_,_=>g.1.elim
 | n+1,d,q,xs,B,g,h,q0,q1,hB=>by
  rcases h with⟨c,rfl,rfl⟩ | ⟨v,ws,ks,f,rfl,hd,al,hs⟩
  ·exact⟨1,∅,by show(1:Int)<=2^(34*0);decide,fun x hx=>by rw[Qw.mp hx,Vl];exact hB⟩
  ·rcases g.1 with⟨c,e⟩ | ⟨w,ws',ks',e,hw,k0,k1,w1,hy,hk⟩
   ·simp at e
   ·simp only[D.tup.injEq,Yn,and_true] at e
    obtain⟨e1,e2,rfl⟩:=e;have cl:=g.cl hk k0;have gs:=g.sum;have e:(kcl n ks).sum=(clm (n+1) (.tup [.str v.s,.tup (ws.map D.int),.tup ks])).sum:=tE ks;obtain⟨b,s⟩:=zKr hd cl q0 (by rw[e];exact q1) al
    obtain⟨E,e0,e1,e2⟩:=zLH hd cl (by rw[e];omega) al hB
    obtain⟨E',e0',e1',e2'⟩:=zMD (P:=Sh n) (n:=n) (f:=f) (i:=0) (B:=B*E) (fun k hk' q xs B h0 h1 h2 h3=>zSR (g.kid hk hk') h0 h1 h2 h3) (fun j k hj=>by
     obtain⟨j1,j2⟩:=zEz (n:=n) hj;rw[Vq,<-j2]
     exact⟨e2 j j1,b j j1⟩) hs
    refine⟨E*E',Xl e0 e0',?_,fun x hx=>by rw[<-Ym];exact e2' x hx⟩
    show E*E'<=2^(34*(1+(ks.map (kn n)).sum))
    rw[U6];exact lD e0 e0' (V6 e1) e1'
def zFg:∀ {l k:List Int},l.map D.int=k.map D.int->l=k
 | [],[],_=>rfl
 | [],_::_,h=>by cases h
 | _::_,[],h=>by cases h
 | a::l,b::k,h=>by
  rw[Qq,Qq,Yn,D.int.injEq] at h;rw[h.1,zFg h.2]
def A2.refl{r:Type}{R:r->r->Prop}(h:∀ a,R a a):∀ l:List r,A2 R l l
 | []=>trivial
 | a::l=>⟨h a,A2.refl h l⟩
def zGo{P:D->Rat->List Rat->Prop}{f g:Nat->Rat}:∀ {ks:List D} {i:Nat} {xs ys:List Rat},(∀ k∈ks,∀ q q' xs ys,P k q xs->P k q' ys->q<=q'->A2 (·<=·) xs ys)->(∀ j,j<ks.length->f (i+j)<=g (i+j))->ShL P ks f i xs->ShL P ks g i ys->A2 (·<=·) xs ys
 | [],i,xs,ys,_,_,h,h'=>by rw[show xs=[] from h,show ys=[] from h'];trivial
 | k::r,i,xs,ys,hp,hf,h,h'=>by
  obtain⟨a,b,rfl,ha,hb⟩:=h;obtain⟨a',b',rfl,ha',hb'⟩:=h'
  exact(hp k Qb _ _ _ _ ha ha' (hf 0 (by simp))).app (zGo (fun x hx=>hp x (Qc _ hx)) (fun j hj=>by
   have:=hf (j+1) (by simpa using hj)
   rw[show i+1+j=i+(j+1) by omega];exact this) hb hb')
def zJB:∀ {n:Nat} {d:D} {q q':Rat} {xs ys:List Rat},Gc n d->Sh n d q xs->Sh n d q' ys->q<=q'->A2 (·<=·) xs ys
 | 0,_,_,_,_,_,g,_,_,_=>g.1.elim
 | n+1,d,q,q',xs,ys,g,h,h',le=>by
  rcases h with⟨c,rfl,rfl⟩ | ⟨v,ws,ks,f,rfl,hd,al,hs⟩
  ·rcases h' with⟨c',e',rfl⟩ | ⟨v',ws',ks',f',e',hd',al',hs'⟩
   ·exact⟨le,trivial⟩
   ·simp at e'
  ·rcases g.1 with⟨c,e⟩ | ⟨w,ws',ks',e,hw,k0,k1,w1,hy,hk⟩
   ·simp at e
   simp only[D.tup.injEq,Yn,and_true] at e;obtain⟨e1,e2,rfl⟩:=e;have cl:=g.cl hk k0;rcases h' with⟨c',e',rfl⟩ | ⟨v',ws2,ks',f',e',hd',al',hs'⟩
   ·simp at e'
   simp only[D.tup.injEq,Yn,and_true,D.str.injEq] at e';obtain⟨e3,e4,rfl⟩:=e';have ev:v=v':=by cases v<;>cases v'<;>first | rfl | exact absurd e3 ∅
   subst ev;have ew:ws=ws2:=zFg e4;subst ew;exact zGo (fun k hk' q q' xs ys h1 h2 h3=>zJB (g.kid hk hk') h1 h2 h3) (fun j hj=>by rw[Vq];exact zJV hd cl al al' le (by rw[fI];exact hj)) hs hs'
def rZ{t b:Int}{n:Nat}(hb0:b≠0)(hn:b.natAbs<2^n)(h:n<=8999):eK [.int t,.int b]=.ok (.v (dq (Rat.divInt t b))):=by
 have hd:mM (dv t b)=true:=uB (zRj hb0) (Xq (zRF hb0) hn) h;unfold eK;symm
 refine zDc (fun ρ=>∃(x y:Int)(r:Sl),ρ=[.val (.int t),.val (.int b),.val (.int x),.val (.int y),r]/\0<=x/\0<=y/\Int.gcd x y=Int.gcd t b) (fun ρ=>(slI 3 ρ).toNat)
  (fun r=>(r.bind (zKs sU)).bind fin=.ok (.v (dq (Rat.divInt t b)))) ⟨_,_,_,rfl,⋯,⋯,by simp[Int.gcd]⟩ ?_
 rintro ρ ⟨x,y,r,rfl,hx,hy,hg⟩
 by_cases c:y=0
 ·subst c
  have e2:x=(Int.gcd t b:Int):=by
   rw[Int.gcd_zero_right] at hg;omega
  subst e2;refine .inl ⟨rfl,?_⟩
  symm;by_cases c:b<0
  ·have e:0-(Int.gcd t b:Int)=dv t b:=by unfold dv;rw[Jk c];omega
   rw[J5 c];symm;rw[e,oDiv_i hd];erw[oDiv_i hd];symm;rw[zA hb0,zP hb0];rfl
  ·have e:(Int.gcd t b:Int)=dv t b:=by unfold dv;rw[Jl c]
   rw[Jj c];symm;rw[e,oDiv_i hd];erw[oDiv_i hd];symm;rw[zA hb0,zP hb0];rfl
 ·have hp:0<y:=⋯
  refine .inr ⟨?_,[.val (.int t),.val (.int b),.val (.int y),.val (.int (x % y)),.val (.int (x % y))],?_,⟨y,x % y,_,rfl,hy,Vy _ c,(zFo hx hp).trans hg⟩,?_⟩
  ·symm
   rw[J5 hp]
  ·symm
   rw[oMod_i c,fmod_pos _ hp];symm
  ·have:=Vz x hp
   show(x % y).toNat<y.toNat
   omega
def yY{p q:Rat}{m n:Nat}(hp:Sz m p)(hq:Sz n q)(h:m+n<=8999):jA [dq p,dq q]=.ok (.v (dq (p+q))):=by
 unfold jA;erw[oMul_i (bN hp.1 hq.d ⋯),oMul_i (bN hq.1 hp.d ⋯),oMul_i (bN hp.d hq.d ⋯)];symm;rw[rZ (V7 (dU p) (dU q)) (eX hp.d hq.d) h,zJG];symm
def vZ{p q:Rat}{m n:Nat}(hp:Sz m p)(hq:Sz n q)(h:m+n<=8999):gJ [dq p,dq q]=.ok (.v (dq (p-q))):=by
 unfold gJ;erw[oMul_i (bN hp.1 hq.d ⋯),oMul_i (bN hq.1 hp.d ⋯),oMul_i (bN hp.d hq.d ⋯)];symm;rw[rZ (V7 (dU p) (dU q)) (eX hp.d hq.d) h,zKu];symm
def wF{p q:Rat}{m n:Nat}(hp:Sz m p)(hq:Sz n q)(h:m+n<=8999):dW [dq p,dq q]=.ok (.v (dq (p*q))):=by
 unfold dW;erw[oMul_i (bN hp.1 hq.1 ⋯),oMul_i (bN hp.d hq.d ⋯)];symm;rw[rZ (V7 (dU p) (dU q)) (eX hp.d hq.d) h,zJX];symm
def rR{p q:Rat}{m n:Nat}(hp:Sz m p)(hq:Sz n q)(h:m+n<=99999):fP [dq p,dq q]=.ok (.v (.bl (decide (p<q)))):=by
 unfold fP;erw[oMul_i (bN hp.1 hq.d ⋯),oMul_i (bN hq.1 hp.d ⋯)];symm;simp only[lt_iff]
def zSE{v v':Wy}(h:v.s=v'.s):v=v':=by cases v<;>cases v'<;>first | rfl | exact absurd h ∅
open Classical in
def wyS(w:Str):Wy:=if h:∃ v:Wy,v.s=w then Classical.choose h else .row
def zSX(v:Wy):wyS v.s=v:=by
 have h:∃ u:Wy,u.s=v.s:=⟨v,rfl⟩;unfold wyS;rw[J6 h];exact zSE (Uy h)
def zRZ(l:List D):List Int:=l.map fun d=>match d with | .int i=>i | _=>0
def zLA(ws:List Int):zRZ (ws.map D.int)=ws:=by
 unfold zRZ;rw[Qx];exact List.map_id _
def SFL(g:D->Rat->List Rat)(f:Nat->Rat):List D->Nat->List Rat
 | [],_=>[]
 | k::ks,i=>g k (f i)++SFL g f ks (i+1)
def SF:Nat->D->Rat->List Rat
 | 0,_,_=>[]
 | n+1,d,q=>match d with
  | .tup [.str w,.tup a,.tup ks]=>SFL (SF n) (FF (wyS w) (zRZ a) (kcl n ks) q) ks 0
  | _=>[q]
def zBc(n:Nat)(v:Wy)(ws:List Int)(ks:List D)(q:Rat):SF (n+1) (.tup [.str v.s,.tup (ws.map D.int),.tup ks]) q=SFL (SF n) (FF v ws (kcl n ks) q) ks 0:=by
 show SFL (SF n) (FF (wyS v.s) (zRZ (ws.map D.int)) (kcl n ks) q) ks 0=_
 rw[zSX,zLA]
def zJv(g:D->Rat->List Rat)(f:Nat->Rat):∀(a b:List D)(i:Nat),SFL g f (a++b) i=SFL g f a i++SFL g f b (i+a.length)
 | [],b,i=>rfl
 | k::a,b,i=>by
  show g k (f i)++SFL g f (a++b) (i+1)=(g k (f i)++SFL g f a (i+1))++_
  rw[zJv g f a b (i+1),Vr,Qk,show i+1+a.length=i+(a.length+1) by omega]
def zEm{n:Nat}{f:Nat->Rat}:∀ {ks:List D} {i:Nat},(∀ k∈ks,∀ q,(SF n k q).length=(clm n k).length)->(SFL (SF n) f ks i).length=(ks.flatMap (clm n)).length
 | [],i,_=>rfl
 | k::r,i,h=>by
  show(SF n k (f i)++SFL (SF n) f r (i+1)).length=_
  rw[Qo,h k Qb,zEm fun x hx=>h x (Qc _ hx),V4,Qo]
def qE:∀ {n:Nat} {d:D},IsC n d->∀ q:Rat,(SF n d q).length=(clm n d).length
 | 0,_,h,_=>h.elim
 | n+1,d,h,q=>by
  rcases h with⟨c,rfl⟩ | ⟨w,ws,ks,rfl,hw,k0,k1,w1,hy,hk⟩
  ·rfl
  ·obtain⟨v,rfl⟩:=zLi hy.1
   rw[zBc];exact zEm fun k hm q=>qE (hk k hm) q
def zJs{n:Nat}{ks:List D}{j:Nat}{k:D}(h:ks[j]?=some k):j<(kcl n ks).length/\cR (kcl n ks) j=((clm n k).sum:Rat):=by
 have hj:=(Qy.mp h).1;refine⟨by rw[fI];exact hj,?_⟩
 unfold cR kcl;rw[Qv,Qt,h];rfl
def zMo{P:D->Rat->List Rat->Prop}{n:Nat}{f g:Nat->Rat}:∀ {ks:List D} {i:Nat} {xs:List Rat},(∀ k∈ks,∀ q xs,P k q xs->0<=q->q<=((clm n k).sum:Rat)->xs=SF n k q)->(∀ j k,ks[j]?=some k->f (i+j)=g (i+j)/\0<=f (i+j)/\f (i+j)<=((clm n k).sum:Rat))->ShL P ks f i xs->xs=SFL (SF n) g ks i
 | [],i,xs,_,_,h=>h
 | k::r,i,xs,hp,hf,h=>by
  obtain⟨a,b,rfl,ha,hb⟩:=h;have f0:=hf 0 k rfl;rw[Uw] at f0
  rw[hp k Qb _ _ ha f0.2.1 f0.2.2,zMo (fun x hx=>hp x (Qc _ hx)) (fun j k' hj=>by
   have:=hf (j+1) k' (by simpa using hj)
   rw[show i+1+j=i+(j+1) by omega];exact this) hb,f0.1]
  rfl
def zQI:∀ {n:Nat} {d:D} {q:Rat} {xs:List Rat},Gc n d->Sh n d q xs->0<=q->q<=((clm n d).sum:Rat)->xs=SF n d q
 | 0,_,_,_,g,_,_,_=>g.1.elim
 | n+1,d,q,xs,g,h,q0,q1=>by
  rcases h with⟨c,rfl,rfl⟩ | ⟨v,ws,ks,f,rfl,hd,al,hs⟩
  ·rfl
  ·rcases g.1 with⟨c,e⟩ | ⟨w,ws',ks',e,hw,k0,k1,w1,hy,hk⟩
   ·simp at e
   simp only[D.tup.injEq,Yn,and_true] at e;obtain⟨e1,e2,rfl⟩:=e;have cl:=g.cl hk k0;have se:(kcl n ks).sum=(clm (n+1) (.tup [.str v.s,.tup (ws.map D.int),.tup ks])).sum:=tE ks;have q1':q<=((kcl n ks).sum:Rat):=by rw[se];exact q1
   obtain⟨b1,b2⟩:=zKr hd cl q0 q1' al;rw[zBc];refine zMo (P:=Sh n) (fun k hm q xs h1 h2 h3=>zQI (g.kid hk hm) h1 h2 h3) (fun j k hj=>?_) hs
   obtain⟨j1,j2⟩:=zJs (n:=n) hj;rw[Vq,<-j2];exact⟨zCx hd cl q0 q1' al j1,b1 j j1⟩
def zQl{ws cs:List Int}(h:Wt ws cs){t y:Rat}{i:Nat}(hi:i<cs.length)(e:cR ws i*t=y){B:Int}(hB:Dn B y):Dn (B*ws.getD i 0) (QQ ws cs t):=by
 obtain⟨F,W,e1,w0,w1,w2⟩:=vR (c:=cR cs) (w:=cR ws) (ci:=fun i=>cs.getD i 0) (wi:=fun i=>ws.getD i 0) (t:=t) (fun _=>rfl) (fun _=>rfl) (List.range cs.length) (fun j hj=>h.at (Qn.mp hj))
 obtain⟨k,hk⟩:=hB;refine⟨W*k+F*(B*ws.getD i 0),?_⟩
 have q:QQ ws cs t=(W:Rat)*t+(F:Rat):=e1;rw[q,Vo,Vb,Vb,Vb,<-hk,<-e];unfold cR;grind
def zKE{cs:List Int}(hc:Cl cs){q y:Rat}(q0:0<=q)(q1:q<=(cs.sum:Rat)){i:Nat}(hi:i<cs.length)(e:FF .row [] cs q i=y)(y0:0<y)(y1:y<cR cs i){B:Int}(hB:Dn B y):Dn B q:=by
 rw[<-zCx (M:=0) (w:=.row) (ws:=[]) (f:=zFG cs q) rfl hc q0 q1 (fun i _=>rfl) hi] at e;have f:zFG cs q i=mn (ps0 (q-((0+(cs.take i).sum:Int):Rat))) (cR cs i):=zAq cs 0 q i hi;rw[f] at e
 have:q=y+((0+(cs.take i).sum:Int):Rat):=by
  unfold mn ps0 at e;grind
 rw[this];exact hB.add (Dn.int B _)
def zNx{ws cs:List Int}(h:Wt ws cs)(hc:Cl cs){t:Rat}(t0:0<=t)(q1:QQ ws cs t<=(cs.sum:Rat))(q0:0<=QQ ws cs t){i:Nat}(hi:i<cs.length):FF .even ws cs (QQ ws cs t) i=dN (cR cs) (cR ws) t i:=by
 obtain⟨M,hM⟩:=zIp cs.length (dN (cR cs) (cR ws) t);exact(zCx (M:=M) (w:=.even) h hc q0 q1 ⟨t,⟨t0,rfl,hM⟩,fun _ _=>rfl⟩ hi).symm
def zFn{ws cs:List Int}(h:Wt ws cs)(hc:Cl cs){q:Rat}(q0:0<=q)(q1:q<=(cs.sum:Rat)):∃ t,0<=t/\QQ ws cs t=q/\∀ i,i<cs.length->FF .even ws cs q i=dN (cR cs) (cR ws) t i:=by
 obtain⟨M,t,tl,e⟩:=xU (w:=.even) h hc q0 q1;exact⟨t,tl.nn,tl.sum,e⟩
def zBp{ws cs:List Int}(h:Wt ws cs)(hc:Cl cs){q y:Rat}(q0:0<=q)(q1:q<=(cs.sum:Rat)){i:Nat}(hi:i<cs.length)(e:FF .even ws cs q i=y)(y1:y<cR cs i){B:Int}(hB:Dn B y):Dn (B*ws.getD i 0) q:=by
 obtain⟨t,t0,tq,ef⟩:=zFn h hc q0 q1;rw[ef i hi] at e;rw[<-tq];refine zQl h hi ?_ hB
 unfold dN mn at e;grind
def pG(q:Rat):(q+q)*hf=q:=by rw[jG];grind
def zEc{cs:List Int}{i:Nat}(hi:i<cs.length):(ones cs).getD i 0=1:=by
 unfold ones;rw[Qv,Uk,Jk hi];rfl
def zJc{cs:List Int}(hc:Cl cs){q y:Rat}(q0:0<=q)(q1:q+q<=(cs.sum:Rat)){i:Nat}(hi:i<cs.length)(e:FF .half [] cs q i=y)(y1:y+y<cR cs i){B:Int}(hB:Dn B y):Dn (B*2) q:=by
 rw[wT hc q0 q1 hi] at e
 have e':FF .even (ones cs) cs (q+q) i=y+y:=by
  have:=pG (FF .even (ones cs) cs (q+q) i)
  rw[<-e];grind
 have d:=zBp (fH cs) hc (by grind) q1 hi e' y1 (hB.add hB)
 rw[zEc hi,Vl] at d;have:=zGQ d
 rw[pG] at this;exact this
def zMs{cs:List Int}(hc:Cl cs){i:Nat}(hi:i<cs.length):cs.getD i 0<=cs.sum:=by
 have t:=zBt hc.nn hi (Qf _);rw[Vu] at t
 have:0<=(cs.take i).sum:=by
  have:∀ l:List Int,(∀ c∈l,0<=c)->0<=l.sum:=by
   intro l
   induction l with
   | nil=>intro _;decide
   | cons a l ih=>intro hl;rw[Qr];have:=hl a Qb;have:=ih fun x hx=>hl x (Qc _ hx);omega
  exact this _ fun x hx=>hc.nn x (Y4 hx)
 have:=t.1
 omega
def zQC{w:Wy}{ws cs:List Int}(hw:w.due ws cs)(hc:Cl cs)(hS:cs.sum<2^34){q y:Rat}(q0:0<=q)(q1:q<=(cs.sum:Rat)){i:Nat}(hi:i<cs.length)(e:FF w ws cs q i=y)(y0:0<y)(y1:y<cR cs i)(least:∀ t,0<=t->t<q->FF w ws cs t i<y){B:Int}(hB:Dn B y):∃ E:Int,0<E/\E<=2^34/\Dn (B*E) q:=by
 have dc:Dn B (cR cs i-y):=(Dn.int B _).sub hB;have S0:(0:Rat)<=(cs.sum:Rat):=by exact_mod_cast hc.sum.1
 have back:∀ {E:Int},Dn (B*E) ((cs.sum:Rat)-q)->Dn (B*E) q:=fun {E} d=>by
  have:=(Dn.int (B*E) cs.sum).sub d
  rw[show(cs.sum:Rat)-((cs.sum:Rat)-q)=q by grind] at this;exact this
 have con:=zNb hw hc q0 q1 hi;rw[e] at con
 cases w with
 | row=>
  have z:ws=[]:=hw;subst z;exact⟨1,∅,∅,by rw[Vl];exact zKE hc q0 q1 hi e y0 y1 hB⟩
 | back=>
  have z:ws=[]:=hw;subst z;refine⟨1,∅,∅,back ?_⟩
  rw[Vl];exact zKE hc (by grind) (by grind) hi con (by grind) (by grind) dc
 | even=>
  have wi:=Wt.at hw hi;exact⟨ws.getD i 0,⋯,⋯,zBp hw hc q0 q1 hi e y1 hB⟩
 | lack=>
  have wi:=Wt.at hw hi;exact⟨ws.getD i 0,⋯,⋯,back (zBp (ws:=ws) hw hc (by grind) (by grind) hi con (by grind) dc)⟩
 | part=>
  have z:ws=[]:=hw;subst z;rw[<-zCx (M:=0) (w:=.part) (ws:=[]) (f:=kN cs q) rfl hc q0 q1 (fun i _=>rfl) hi] at e;have p:=(jH (q:=q) hc hi).1;rw[e] at p
  have c0:0<cs.getD i 0:=by
   have:(0:Rat)<cR cs i:=by grind
   unfold cR at this;exact_mod_cast this
  have:=zMs hc hi
  obtain⟨k,hk⟩:=hB;refine⟨cs.getD i 0,c0,⋯,k*cs.sum,?_⟩
  unfold cR at p;rw[Vb,Vb,<-hk];grind
 | half=>
  have z:ws=[]:=hw;subst z;have W:=fH cs;refine⟨2,∅,∅,?_⟩
  by_cases h:q+q<=(cs.sum:Rat)
  ·by_cases l:y+y<cR cs i
   ·exact zJc hc q0 h hi e l hB
   ·have e0:=e
    rw[wT hc q0 h hi] at e;obtain⟨t,t0,tq,ef⟩:=zFn W hc (q:=q+q) (by grind) h
    have g1:=ef i hi
    have g2:FF .even (ones cs) cs (q+q) i=y+y:=by
     have:=pG (FF .even (ones cs) cs (q+q) i)
     rw[<-e];grind
    rw[g2] at g1
    have yc:y+y=cR cs i:=by
     unfold dN mn at g1;grind
    have lt:lv (ones cs) cs i<=t:=by
     rcases (Xk:t<=lv (ones cs) cs i∨lv (ones cs) cs i<=t) with u | u
     ·have:=zGM W hi u
      rw[<-g1,yc,<-zD W hi] at this;have o:cR (ones cs) i=1:=by unfold cR;rw[zEc hi];rfl
      rw[o] at this;grind
     ·exact u
    have m1:=lG W lt;rw[tq] at m1;have l0:=zKl W hc hi
    have Q0:0<=QQ (ones cs) cs (lv (ones cs) cs i):=by
     have:=lG (cs:=cs) W l0
     have z:QQ (ones cs) cs 0=0:=by
      have:∀ j∈List.range cs.length,dN (cR cs) (cR (ones cs)) 0 j=0:=fun j hj=>by
       have:=zHB hc (Qn.mp hj)
       unfold dN mn;grind
      unfold QQ iZ;rw[V0 (g:=fun _=>(0:Rat)) this]
      induction (List.range cs.length) with
      | nil=>rfl
      | cons a r ih=>rw[Qq,Qr,ih];grind
     grind
    have eq:QQ (ones cs) cs (lv (ones cs) cs i)=q+q:=by
     rcases Rat.le_iff_lt_or_eq.mp m1 with u | u
     ·exfalso
      have hh:QQ (ones cs) cs (lv (ones cs) cs i)*hf+QQ (ones cs) cs (lv (ones cs) cs i)*hf=QQ (ones cs) cs (lv (ones cs) cs i):=by rw[jG];grind
      have v:=least (QQ (ones cs) cs (lv (ones cs) cs i)*hf) (by rw[jG];grind) (by rw[jG];grind)
      rw[wT hc (by rw[jG];grind) (by rw[hh];grind) hi,hh,zNx W hc l0 (by grind) Q0 hi,zGx W hi Qh,<-yc,pG] at v;grind
     ·exact u
    have d:=zQl (cs:=cs) W hi (zD W hi) (Dn.int B (cs.getD i 0));rw[eq,zEc hi,Vl] at d;have:=zGQ d
    rw[pG] at this;exact this
  ·have h':((cs.sum:Rat)-q)+((cs.sum:Rat)-q)<=(cs.sum:Rat):=by grind
   have con':FF .half [] cs ((cs.sum:Rat)-q) i=cR cs i-y:=con;by_cases l:(cR cs i-y)+(cR cs i-y)<cR cs i
   ·exact back (zJc hc (by grind) h' hi con' l dc)
   ·exfalso
    have hh:(cs.sum:Rat)*hf+(cs.sum:Rat)*hf=(cs.sum:Rat):=by rw[jG];grind
    have v:=least ((cs.sum:Rat)*hf) (by rw[jG];grind) (by rw[jG];grind)
    rw[wT hc (by rw[jG];grind) (by rw[hh];exact Qh) hi,hh,zEi (w:=.even) W hc hi,jG] at v;grind
def zJS{x:Rat}{B E:Int}{m:Nat}(h:Dn (B*E) x)(b0:0<B)(e0:0<E)(hb:B<=2^m)(he:E<=2^34):(x.den:Int)<=2^(m+34):=by
 have a:=h.le (Xl b0 e0);have b:B*E<=2^m*2^34:=Int.mul_le_mul hb he (V6 e0) (V6 (Yg ∅))
 rw[U3];omega
def fU(m:Nat):(1:Int)<=2^m:=by
 have:(0:Int)<2^m:=Yg ∅
 omega
def wR{a b:Nat}(h:a<=b):(2:Int)^a<=2^b:=by
 have e:(2:Int)^b=2^a*2^(b-a):=by rw[<-U3,Nat.add_sub_cancel' h]
 have p:(0:Int)<2^a:=Yg ∅
 have:=Int.mul_le_mul_of_nonneg_left (fU (b-a)) (V6 p)
 rw[e];omega
def zOk{w:Wy}{ws cs:List Int}{J:List Rat}(hw:w.due ws cs)(hc:Cl cs)(hS:cs.sum<2^34)(js:JS w ws cs J)(jd:Jd cs J){i:Nat}(hi:i<cs.length){y r:Rat}(u:zGb (wln w ws cs J i) y r){m:Nat}(hy:(y.den:Int)<=2^m):(r.den:Int)<=2^(m+34):=by
 obtain⟨ln,la,pts,val⟩:=zNh hw hc js hi;obtain⟨u1,u2,u3⟩:=u.val ln.1 la;have le:=fun t (t0:0<=t) (l:t<r)=>u.least ln.1 la t0 l
 obtain⟨k,q,hq,hj,h⟩:=u;have hqm:=Qi hq;rcases h with⟨e,rfl⟩ | ⟨k0,hlt,p,hp,hp2,e⟩
 ·obtain⟨B,b0,b1,d⟩:=jd.2 _ (pts q hqm).1
  have:=d.le b0
  have:=wR (show 34<=m+34 by omega)
  omega
 ·have bp:=cW ln.1 la (Qi hp)
  have bq:=cW ln.1 la hqm;have y0:0<y:=by have:=bp.2.2.1;grind
  have y1:y<cR cs i:=by have:=bq.2.2.2;grind
  rw[val r u2 u3] at u1
  obtain⟨E,e0,e1,d⟩:=zQC hw hc hS u2 u3 hi u1 y0 y1 (fun t t0 l=>by
   have:=le t t0 l
   rw[val t t0 (by grind)] at this
   exact this) (Dn.den y)
  exact zJS d (dB y) e0 hy e1
def zPZ{w:Wy}{ws cs:List Int}(hw:w.due ws cs)(hc:Cl cs)(hS:cs.sum<2^34){q:Rat}(q0:0<=q)(q1:q<=(cs.sum:Rat)){i:Nat}(hi:i<cs.length){m:Nat}(hq:(q.den:Int)<=2^m):((FF w ws cs q i).den:Int)<=2^(m+34):=by
 obtain⟨M,al⟩:=xU hw hc q0 q1;obtain⟨E,e0,e1,e2⟩:=zLH hw hc hS al (Dn.den q);exact zJS (e2 i hi) (dB q) e0 hq (V6 e1)
def zLk{P:Nat->Prop}:∀ n,P n->∃ k,P k/\∀ j,j<k->¬ P j:=by
 intro n
 induction n using Nat.strongRecOn with
 | ind n ih=>
  intro h;by_cases c:∃ j,j<n/\P j
  ·obtain⟨j,l,hj⟩:=c
   exact ih j l hj
  ·exact⟨n,h,fun j l hj=>c ⟨j,l,hj⟩⟩
def zQO{ps:List Pt}{e:Pt}{y:Rat}(h:Ok ps)(he:ps.getLast?=some e)(y0:0<=y)(y1:y<=e.2):∃ r,zGb ps y r:=by
 obtain⟨k,⟨q,hq,hy⟩,hm⟩:=zLk (P:=fun k=>∃ q:Pt,ps[k]?=some q/\y<=q.2) (ps.length-1) ⟨e,by rw[<-Vj];exact he,y1⟩
 have lt:∀(j:Nat)(p:Pt),j<k->ps[j]?=some p->p.2<y:=fun j p l hp=>Rat.not_le.mp fun z=>hm j l ⟨p,hp,z⟩
 by_cases c:q.2=y
 ·exact⟨q.1,k,q,hq,lt,.inl ⟨c,rfl⟩⟩
 ·have k0:0<k:=by
   rcases Wm k with z | z
   ·subst z
    rw[<-Xs,h.1] at hq;cases hq
    have:(0:Rat)=y:=by
     have:y<=(0:Rat):=hy
     grind
    exact absurd this c
   ·exact z
  have kl:=(Qy.mp hq).1;have hp:ps[k-1]?=some (ps[k-1]'⋯):=Qm _
  exact⟨_,k,q,hq,lt,.inr ⟨k0,by grind,_,hp,lt _ _ ⋯ hp,rfl⟩⟩
structure CL (S c:Int) (g:Rat->Rat) (m k:Nat) (l:List Pt):Prop where
 ln:zLx l
 la:l.getLast?=some ((S:Rat),(c:Rat))
 val:∀ x,0<=x->x<=(S:Rat)->aO l x=g x
 len:l.length<=k
 den:∀ p∈l,(p.1.den:Int)<=2^m
 yd:∀(x:Rat)(e:Nat),0<=x->x<=(S:Rat)->(x.den:Int)<=2^e->((g x).den:Int)<=2^(e+m)
 inv:∀(y r:Rat)(e:Nat),0<=y->y<=(c:Rat)->(y.den:Int)<=2^e->zGb l y r->(r.den:Int)<=2^(e+m)
def mI{x:Rat}{S:Int}{m:Nat}(x0:0<=x)(x1:x<=(S:Rat))(hS:S<2^34)(h:(x.den:Int)<=2^m):Sz (35+m) x:=by
 have:=(Dn.den x).sz (a:=34) (b:=m+1) (dB x) (by rw[W9];have:=fU m;omega) x0 x1 hS
 exact this.mono ⋯
def CL.pt{S c:Int}{g:Rat->Rat}{m k:Nat}{l:List Pt}(h:CL S c g m k l){p:Pt}(hp:p∈l):p.2=g p.1/\0<=p.1/\p.1<=(S:Rat)/\0<=p.2/\p.2<=(c:Rat):=by
 have b:=cW h.ln.1 h.la hp;obtain⟨i,hi⟩:=Xt.mp hp;exact⟨by rw[<-h.val _ b.1 b.2.1];exact(bF h.ln.1.2 hi).symm,b⟩
def CL.sz{S c:Int}{g:Rat->Rat}{m k:Nat}{l:List Pt}(h:CL S c g m k l)(hS:S<2^34)(hc:c<2^34):∀ p∈l,SzQ (35+m) (35+2*m) p:=fun p hp=>by
 obtain⟨e,a,b,c0,d⟩:=h.pt hp;refine⟨mI a b hS (h.den p hp),?_⟩
 have:=h.yd _ m a b (h.den p hp)
 rw[<-e] at this;exact(mI c0 d hc this).mono ⋯
def lnD(l:List Pt):D:=.tup (l.map dp)
def zHP{w:Wy}{ws cs:List Int}{J:List Rat}(hw:w.due ws cs)(hc:Cl cs)(hS:cs.sum<2^34)(js:JS w ws cs J)(lJ:J.length<=30)(zJ:∀ x∈J,Sz 300 x/\∀ i,i<cs.length->Sz 670 (FF w ws cs x i))(jd:Jd cs J){i:Nat}(hi:i<cs.length){c:Int}{g:Rat->Rat}{m k:Nat}{l:List Pt}(hc2:c<2^34)(h:CL (cs.getD i 0) c g m k l)(hm:m<=272)(hk:k<=1000):
  ∃ R,gY [lnD l,lnD (wln w ws cs J i)]=.ok (.v (lnD R))/\CL cs.sum c (fun x=>g (FF w ws cs x i)) (m+34) (k+30) R:=by
 obtain⟨ln,la,pts,val⟩:=zNh hw hc js hi;have cs1:=zMs hc hi;have zl:=h.sz ⋯ hc2
 have bl:∀ p∈l,p.1<=cR cs i:=fun p hp=>(h.pt hp).2.2.1
 have wl:(wln w ws cs J i).length<=30:=by
  have:=(jD (zFs hw hc js hi).1.2).length_le
  unfold wln;unfold jpt at this ⊢
  rw[Qe] at this;omega
 have S0:(0:Rat)<=(cs.sum:Rat):=by exact_mod_cast hc.sum.1
 obtain⟨R,e,r1,r2,r3,r4,r5⟩:=zLs (ps:=l) (qs:=wln w ws cs J i) (35+m) (35+2*m) 300 670 670 400 1000 h.ln.1 ln.1 h.la la rfl (by have:=h.len;omega) ⋯ zl
  (fun p hp=>⟨(zJ _ (pts p hp).1).1,by rw[(pts p hp).2];exact(zJ _ (pts p hp).1).2 i hi⟩) ⋯ ∅ ⋯ ⋯ ⋯
  (fun p hp r u=>by
   have d:=zOk hw hc hS js jd hi u (h.den p hp);obtain⟨_,v2,v3⟩:=u.val ln.1 la
   exact(mI v2 v3 hS d).mono ⋯)
  (fun y hy=>by
   have key:0<=y/\y<=cR cs i/\Sz 670 y:=by
    rcases hy with⟨q,hq,rfl⟩ | ⟨p,hp,rfl⟩
    ·have b:=cW ln.1 la hq
     exact⟨b.2.2.1,b.2.2.2,by rw[(pts q hq).2];exact(zJ _ (pts q hq).1).2 i hi⟩
    ·exact⟨(h.pt hp).2.1,bl p hp,(zl p hp).1.mono ⋯⟩
   obtain⟨y0,y1,y2⟩:=key;refine⟨y2,?_⟩
   have v:=wY h.ln.1 h.la y0 y1;rw[h.val y y0 y1] at v ⊢
   have d:=h.yd y 670 y0 y1 (by have:=y2.2;omega)
   exact(mI v.1 v.2 hc2 d).mono ⋯)
 refine⟨R,e,r1,r2,fun x x0 x1=>?_,by have:=h.len;omega,fun p hp=>?_,fun x e x0 x1 xd=>?_,fun y r e y0 y1 yd u=>?_⟩
 ·have b:=zJy hw hc x0 x1
  rw[r4 x x0 x1,val x x0 x1,h.val _ (b.1 i hi).1 (b.1 i hi).2]
 ·rcases (r5 p hp).2 with⟨q,hq,e⟩ | ⟨q,hq,u⟩
  ·obtain⟨B,b0,b1,d⟩:=jd.2 _ (pts q hq).1
   rw[e];have:=d.le b0
   have:=wR (show 34<=m+34 by omega)
   omega
  ·exact zOk hw hc hS js jd hi u (h.den q hq)
 ·have b:=zJy hw hc x0 x1
  have:=h.yd _ (e+34) (b.1 i hi).1 (b.1 i hi).2 (zPZ hw hc hS x0 x1 hi xd)
  rw[show e+(m+34)=e+34+m by omega];exact this
 ·obtain⟨z,uz⟩:=zQO h.ln.1 h.la y0 y1
  have dz:=h.inv y z e y0 y1 yd uz;obtain⟨z1,z2,z3⟩:=uz.val h.ln.1 h.la;obtain⟨x,ux⟩:=zQO ln.1 la z2 z3;have dx:=zOk hw hc hS js jd hi ux dz;obtain⟨x1,x2,x3⟩:=ux.val ln.1 la
  have er:r=x:=u.uniq r1.1 r2 (by rw[r4 x x2 x3,x1,z1]) x2 fun t t0 l=>by
   have t1:t<=(cs.sum:Rat):=Qz (Qg l) x3;rw[r4 t t0 t1];exact uz.least h.ln.1 h.la (wY ln.1 la t0 t1).1 (ux.least ln.1 la t0 l)
  rw[er,show e+(m+34)=e+m+34 by omega];exact dx
def zAx(ns:List Int)(k:Int)(h:0<=k):gD [.lst (ns.map D.int),.int k]=.ok (.v (.int (ns.getD k.toNat 0))):=by
 unfold gD;symm;by_cases c:k<(ns.length:Int)
 ·rw[J5 c]
  symm;have hk:k.toNat<ns.length:=⋯
  rw[kE h (Qm hk),Qv,Qm hk];rfl
 ·rw[Jj c]
  symm;rw[Qv,Q5 ⋯];rfl
def zAa{c:Int}(c0:0<=c)(c1:c<2^34):∃ l,gU [.int c]=.ok (.v (lnD l))/\CL c c (fun x=>x) 34 32 l/\l=if c=0 then [(0,0)] else [(0,0),((c:Rat),(c:Rat))]:=by
 have yd:∀(x:Rat)(e:Nat),0<=x->x<=(c:Rat)->(x.den:Int)<=2^e->(x.den:Int)<=2^(e+34):=fun x e _ _ h=>Vt h (wR ⋯)
 have z0:SzQ 40 40 ((0:Rat),(0:Rat)):=by
  have:=(Dn.zero 1).sz (a:=34) (b:=1) (c:=0) ∅ ∅ Qh Qh ∅
  exact⟨this.mono ∅,this.mono ∅⟩
 by_cases h:c=0
 ·subst h
  have ok:Ok [((0:Rat),(0:Rat))]:=⟨rfl,Uz _ _⟩;have le:jT [((0:Rat),(0:Rat))]=[((0:Rat),(0:Rat))]:=rfl;refine⟨[(0,0)],?_,⟨le ▸ jE ok,rfl,fun x x0 x1=>?_,by show 1<=32;decide,fun p hp=>?_,yd,fun y r e y0 y1 yd u=>?_⟩,by rw[Jk rfl]⟩
  ·unfold gU
   symm;rw[show D.lst [dp (0,0)]=.lst ([((0:Rat),(0:Rat))].map dp) from rfl,kY (n:=40) (m:=40) (.inl rfl) (by show 1<=100000;decide) (fun p hp=>by rw[Qw.mp hp];exact z0) ∅ ok];symm;rfl
  ·have:x=0:=by rw[show((0:Int):Rat)=0 from rfl] at x1;grind
   subst this;exact bF ok.2 (i:=0) rfl
  ·rw[Qw.mp hp]
   exact fU 34
  ·obtain⟨_,r0,r1⟩:=u.val ok (e:=(0,0)) rfl
   have:r=0:=by
    have r1':r<=(0:Rat):=r1;grind
   rw[this];exact fU _
 ·have cp:(0:Rat)<(c:Rat):=by exact_mod_cast (show 0<c by omega)
  have ok:Ok [((0:Rat),(0:Rat)),((c:Rat),(c:Rat))]:=⟨rfl,Qp.mpr ⟨fun p hp=>by rw[Qw.mp hp];exact⟨cp,Qg cp⟩,Uz _ _⟩⟩
  have le:jT [((0:Rat),(0:Rat)),((c:Rat),(c:Rat))]=[((0:Rat),(0:Rat)),((c:Rat),(c:Rat))]:=rfl
  have zc:Sz 40 (c:Rat):=by
   have:=(Dn.int 1 c).sz (a:=34) (b:=1) ∅ ∅ (Qg cp) Qh c1
   exact this.mono ∅
  have val:∀ x:Rat,0<=x->x<=(c:Rat)->aO [((0:Rat),(0:Rat)),((c:Rat),(c:Rat))] x=x:=fun x x0 x1=>by
   rw[bX ok.2 (i:=0) rfl rfl x0 x1];unfold itp;show(0:Rat)+(x-0) / ((c:Rat)-0)*((c:Rat)-0)=x
   have:(x-0) / ((c:Rat)-0)*((c:Rat)-0)=x-0:=Xd (by grind)
   rw[this];grind
  refine⟨[(0,0),((c:Rat),(c:Rat))],?_,⟨le ▸ jE ok,rfl,fun x x0 x1=>?_,by show 2<=32;decide,fun p hp=>?_,yd,fun y r e y0 y1 yd u=>?_⟩,by rw[Jl h]⟩
  ·unfold gU
   erw[Jj h,bP,bP];symm
   rw[show D.lst [dp (0,0),dp ((c:Rat),(c:Rat))]=.lst ([((0:Rat),(0:Rat)),((c:Rat),(c:Rat))].map dp) from rfl,kY (n:=40) (m:=40) (.inl rfl) (by show 2<=100000;decide) (fun p hp=>by
    rcases Qd.mp hp with rfl | hp
    ·exact z0
    ·rw[Qw.mp hp];exact⟨zc,zc⟩) ∅ ok]
   symm;rfl
  ·exact val x x0 x1
  ·rcases Qd.mp hp with rfl | hp
   ·exact fU 34
   ·rw[Qw.mp hp];exact fU 34
  ·obtain⟨r2,r0,r1⟩:=u.val ok (e:=((c:Rat),(c:Rat))) rfl
   rw[val r r0 r1] at r2;rw[r2];exact Vt yd (wR ⋯)
def LLg(S:Int)(A:List Int)(f:Rat->List Rat)(m k:Nat)(ls:List (List Pt)):Prop:=ls.length=A.length/\∀ j,j<A.length->CL S (A.getD j 0) (fun x=>(f x).getD j 0) m k (ls.getD j [])
def zHY{r:Type}{a b:List r}{j:Nat}{z:r}(h:j<a.length):(a++b).getD j z=a.getD j z:=by
 rw[Qv,Qv,Vg h]
def zIx{r:Type}{a b:List r}{j:Nat}{z:r}(h:a.length<=j):(a++b).getD j z=b.getD (j-a.length) z:=by
 rw[Qv,Qv,Vp h]
def zPX{S:Int}{A B:List Int}{f g:Rat->List Rat}{m k:Nat}{la lb:List (List Pt)}(ha:LLg S A f m k la)(hb:LLg S B g m k lb)(fl:∀ x,(f x).length=A.length):LLg S (A++B) (fun x=>f x++g x) m k (la++lb):=by
 refine⟨by rw[Qo,Qo,ha.1,hb.1],fun j hj=>?_⟩
 by_cases h:j<A.length
 ·have e:(fun x=>(f x++g x).getD j 0)=fun x=>(f x).getD j 0:=funext fun x=>zHY (by rw[fl];exact h)
  rw[e,zHY h,zHY (by rw[ha.1];exact h)];exact ha.2 j h
 ·have e:(fun x=>(f x++g x).getD j 0)=fun x=>(g x).getD (j-A.length) 0:=funext fun x=>by rw[zIx (by rw[fl];omega),fl]
  rw[e,zIx ⋯,zIx (by rw[ha.1];omega),ha.1];rw[Qo] at hj;exact hb.2 _ ⋯
def zLa{r:Type}(l:List r)(a:r):l=(List.range l.length).map fun j=>l.getD j a:=by
 refine Yy fun j=>?_
 rw[Qt];by_cases h:j<l.length
 ·rw[V8 h,Option.map_some,Qv,Qm h]
  rfl
 ·rw[Q5 ⋯,Q5 (l:=List.range l.length) (by rw[Q3];omega)]
  rfl
def zHK{w:Wy}{ws cs:List Int}{J:List Rat}(hw:w.due ws cs)(hc:Cl cs)(hS:cs.sum<2^34)(js:JS w ws cs J)(lJ:J.length<=30)(zJ:∀ x∈J,Sz 300 x/\∀ i,i<cs.length->Sz 670 (FF w ws cs x i))(jd:Jd cs J){i:Nat}(hi:i<cs.length){A:List Int}{f:Rat->List Rat}{m k:Nat}{ls:List (List Pt)}(hA:∀ c∈A,c<2^34)(h:LLg (cs.getD i 0) A f m k ls)(hm:m<=272)(hk:k<=1000):
  ∃ bf:Nat->List Pt,(∀ j,j<A.length->gY [lnD (ls.getD j []),lnD (wln w ws cs J i)]=.ok (.v (lnD (bf j))))/\LLg cs.sum A (fun x=>f (FF w ws cs x i)) (m+34) (k+30) ((List.range A.length).map bf):=by
 have each:∀ j,j<A.length->∃ R,gY [lnD (ls.getD j []),lnD (wln w ws cs J i)]=.ok (.v (lnD R))/\CL cs.sum (A.getD j 0) (fun x=>(f (FF w ws cs x i)).getD j 0) (m+34) (k+30) R:=fun j hj=>
  zHP hw hc hS js lJ zJ jd hi (hA _ (Qi (bL hj))) (h.2 j hj) hm hk
 let bf:Nat->List Pt:=fun j=>if hj:j<A.length then Classical.choose (each j hj) else []
 have hb:∀ j (hj:j<A.length),gY [lnD (ls.getD j []),lnD (wln w ws cs J i)]=.ok (.v (lnD (bf j)))/\CL cs.sum (A.getD j 0) (fun x=>(f (FF w ws cs x i)).getD j 0) (m+34) (k+30) (bf j):=fun j hj=>by
  have e:bf j=Classical.choose (each j hj):=J6 hj;rw[e];exact Uy (each j hj)
 refine⟨bf,fun j hj=>(hb j hj).1,by rw[Qe,Q3],fun j hj=>?_⟩
 have e:((List.range A.length).map bf).getD j []=bf j:=by rw[Qv,Qt,V8 hj];rfl
 rw[e];exact(hb j hj).2
def zH:∀(n N:Nat)(d:D),Gc n d->n<=N->n<=9->∃ Ls:List (List Pt),fO N [d]=.ok (.f (Ls.map lnD))/\LLg (clm n d).sum (clm n d) (SF n d) (34*n) (2+30*n) Ls
 | 0,_,_,h,_,_=>h.1.elim
 | n+1,0,_,_,hN,_=>⋯
 | n+1,N+1,d,g,hN,hn=>by
  rcases g.1 with⟨c,rfl⟩ | ⟨w,ws,ks,rfl,hw,k0,k1,w1,hy,hk⟩
  ·have c01:0<=c/\c<=10^9:=g.2.2 c Qb
   obtain⟨l,el,cl,_⟩:=zAa c01.1 ⋯
   have se:(clm (n+1) (.tup [.str "boat", .int c])).sum=c:=by show([c]:List Int).sum=c;simp
   refine⟨[l],?_,rfl,fun j hj=>?_⟩
   ·show jC (fO N) _=_
    unfold jC;erw[rS];symm;rw[sK g.1 ⋯ (by show 1<=1000;decide),se];erw[el];symm
   ·have hj':j<1:=hj
    have j0:j=0:=⋯
    subst j0;rw[se];exact⟨cl.ln,cl.la,cl.val,Q4 cl.len ⋯,fun p hp=>Vt (cl.den p hp) (wR ⋯),fun x e x0 x1 xd=>Vt (cl.yd x e x0 x1 xd) (wR ⋯),fun y r e y0 y1 yd u=>Vt (cl.inv y r e y0 y1 yd u) (wR ⋯)⟩
  ·obtain⟨v,rfl⟩:=zLi hy.1
   have cl:=g.cl hk k0;have l12:(ks.flatMap (clm n)).length<=12:=g.2.1;have hs:(kcl n ks).sum=(clm (n+1) (.tup [.str v.s,.tup (ws.map D.int),.tup ks])).sum:=tE ks;have gs:=g.sum;have due:v.due ws (kcl n ks):=zJT (by rw[fI];exact hy.2)
   have hS:(kcl n ks).sum<2^34:=by rw[hs];omega
   obtain⟨J,eJ,js,lJ,zJ,jd⟩:=zEd (wd:=.tup (ws.map D.int)) (.inr rfl) (zMU (kcl n ks)) due cl;have ew:((List.range (kcl n ks).length).map fun i=>D.tup ((wln v ws (kcl n ks) J i).map dp))=(List.range' 0 ks.length).map fun i=>lnD (wln v ws (kcl n ks) J i):=by rw[fI,Uh];rfl
   rw[ew] at eJ
   have loopOk:∀(js':List D)(i:Nat)(acc:List (List Pt))(s t:Sl),(∀ k∈js',k∈ks)->i+js'.length=ks.length->ks.drop i=js'->LLg (kcl n ks).sum ((ks.take i).flatMap (clm n)) (fun x=>SFL (SF n) (FF v ws (kcl n ks) x) (ks.take i) 0) (34*n+34) (2+30*n+30) acc->∃ xs s' t',LLg (kcl n ks).sum (ks.flatMap (clm n)) (fun x=>SFL (SF n) (FF v ws (kcl n ks) x) ks 0) (34*n+34) (2+30*n+30) xs/\
     gE (zGN (jR (gName 3) (jR (gName 4) zGU))) (sX (fO N)) (kU js' ((List.range' i js'.length).map fun i=>lnD (wln v ws (kcl n ks) J i))) [.val (.tup [.str v.s,.tup (ws.map D.int),.tup ks]),.val (.lst ((List.range' 0 ks.length).map fun i=>lnD (wln v ws (kcl n ks) J i))),.own (acc.map lnD),s,t]=
      .ok (.nx [.val (.tup [.str v.s,.tup (ws.map D.int),.tup ks]),.val (.lst ((List.range' 0 ks.length).map fun i=>lnD (wln v ws (kcl n ks) J i))),.own (xs.map lnD),s',t']):=by
    intro js'
    induction js' with
    | nil=>
     intro i acc s t _ h1 _ h2;rw[Ub,Uw] at h1;rw[h1,Vu] at h2;exact⟨acc,s,t,h2,rfl⟩
    | cons k r ih=>
     intro i acc s t hm' hl' hd' ha;have hik:i<ks.length:=by rw[Qk] at hl';omega
     have ik:k∈ks:=hm' k Qb;have gk:=g.kid hk ik
     have ki:ks[i]?=some k:=by
      have:=U1 (xs:=ks) (i:=i) (j:=0)
      rw[hd'] at this;simpa using this.symm
     obtain⟨i1,i2⟩:=zJs (n:=n) ki
     have ci:(kcl n ks).getD i 0=(clm n k).sum:=by
      unfold kcl;rw[Qv,Qt,ki];rfl
     obtain⟨lk,ek,sk⟩:=zH n N k gk ⋯ ⋯
     rw[<-ci] at sk;obtain⟨bf,b1,b2⟩:=zHK due cl hS js lJ zJ jd i1 (fun c hc=>by have:=(gk.2.2 c hc).2;omega) sk ⋯ ⋯
     have tk:ks.take (i+1)=ks.take i++[k]:=by rw[List.take_add_one,ki];rfl
     have lt:(ks.take i).length=i:=by rw[Xo];omega
     have nx:LLg (kcl n ks).sum ((ks.take (i+1)).flatMap (clm n)) (fun x=>SFL (SF n) (FF v ws (kcl n ks) x) (ks.take (i+1)) 0) (34*n+34) (2+30*n+30) (acc++(List.range (clm n k).length).map bf):=by
      have q:=zPX ha b2 fun x=>zEm fun k' hk' q=>qE (hk k' (Y4 hk')) q
      rw[tk,Xw,V4,Qaa,Vm]
      have e:(fun x=>SFL (SF n) (FF v ws (kcl n ks) x) (ks.take i++[k]) 0)=fun x=>SFL (SF n) (FF v ws (kcl n ks) x) (ks.take i) 0++SF n k (FF v ws (kcl n ks) x i):=funext fun x=>by
       rw[zJv,lt,Vq];show _++(SF n k (FF v ws (kcl n ks) x i)++[])=_
       rw[Vm]
      rw[e];exact q
     obtain⟨xs,s',t',sy,ey⟩:=ih (i+1) (acc++(List.range (clm n k).length).map bf) (.val k) (.val (lnD (wln v ws (kcl n ks) J i))) (fun x hx=>hm' x (Qc _ hx)) (by rw[Qk] at hl';omega) (by rw[<-List.drop_drop,hd'];rfl) nx
     refine⟨xs,s',t',sy,?_⟩
     have la:=nx.1;have lf:((ks.take (i+1)).flatMap (clm n)).length<=(ks.flatMap (clm n)).length:=zJx;rw[Qo,Qe,Q3] at la;have lk':lk.length=(clm n k).length:=sk.1;rw[zLa lk [],lk',Qx] at ek;rw[Qk,U5,Qq,show kU (k::r) (lnD (wln v ws (kcl n ks) J i)::(List.range' (i+1) r.length).map fun i=>lnD (wln v ws (kcl n ks) J i))=.tup [k,lnD (wln v ws (kcl n ks) J i)]::kU r ((List.range' (i+1) r.length).map fun i=>lnD (wln v ws (kcl n ks) J i)) from rfl]
     rw[dD (ρ1:=[.val (.tup [.str v.s,.tup (ws.map D.int),.tup ks]),.val (.lst ((List.range' 0 ks.length).map fun i=>lnD (wln v ws (kcl n ks) J i))),.own (acc.map lnD),.val k,.val (lnD (wln v ws (kcl n ks) J i))]) (ρ2:=[.val (.tup [.str v.s,.tup (ws.map D.int),.tup ks]),.val (.lst ((List.range' 0 ks.length).map fun i=>lnD (wln v ws (kcl n ks) J i))),.own ((acc++(List.range (clm n k).length).map bf).map lnD),.val k,.val (lnD (wln v ws (kcl n ks) J i))]) (by symm) (by
      erw[ek];symm
      rw[dQ (u:=lnD ∘ fun j=>lk.getD j []) (g:=fun j=>lnD (bf j)) (by rw[Q3];omega) (fun j hj=>by
       symm;rw[show(lnD ∘ fun j=>lk.getD j []) j=lnD (lk.getD j []) from rfl,b1 j (Qn.mp hj)]
       symm)]
      symm;rw[Jk (by simp only[Qe,Q3];omega),Q8,Qx]
      rfl),ey]
   obtain⟨xs,s',t',sx,ex⟩:=loopOk ks 0 [] .un .un (fun k h=>h) ⋯ rfl ⟨rfl,fun j hj=>absurd hj (Nat.not_lt_zero j)⟩
   refine⟨xs,?_,?_⟩
   ·show jC (fO N) _=_
    unfold jC;erw[nZ hw,zFY,tH,sY hw hk ⋯ ⋯,eJ,oJ hw,pQ rfl rfl];symm;rw[Xh] at ex;rw[ex];rfl
   ·have e:(fun x=>SFL (SF n) (FF v ws (kcl n ks) x) ks 0)=SF (n+1) (.tup [.str v.s,.tup (ws.map D.int),.tup ks]):=funext fun x=>(zBc n v ws ks x).symm
    rw[e,hs] at sx;exact sx
def vJ{ds:List D}{a:Int}(h:a<0):dX ds (some a) none=ds.drop (ds.length-(-a).toNat):=by
 unfold dX cut;simp only[Jl (show ¬ 0<=a by omega)];rw[show((ds.length:Int)+a).toNat=ds.length-(-a).toNat by omega];exact Xr (by rw[Q9];omega)
def zJH{ds:List D}{a:Int}(h:a<0):dX ds none (some a)=ds.take (ds.length-(-a).toNat):=by
 unfold dX cut;simp only[Jl (show ¬ 0<=a by omega),X2,Y8];rw[show((ds.length:Int)+a).toNat=ds.length-(-a).toNat by omega]
def wD:∀(n:Nat)(d:D),IsC n d->(clm n d).length<=1000->gT n [d]=.ok (.f ((clm n d).map D.int))
 | 0,d,h,_=>h.elim
 | n+1,d,h,hl=>by
  show lL (gT n) [d]=_
  unfold lL;rcases h with⟨c,rfl⟩ | ⟨w,ws,ks,rfl,hw,k0,k1,w1,hy,hk⟩
  ·symm
   rfl
  ·symm
   rw[hw];symm;refine kW (Q:=fun r=>r.bind fin=.ok (.f ((ks.flatMap (clm n)).map D.int))) (fun i ρ=>∃ a,ρ=[.val (.tup [.str w,.tup (ws.map D.int),.tup ks]),.own (((ks.take i).flatMap (clm n)).map D.int),a]) ⟨_,rfl⟩ ?_ ?_
   ·rintro i e ρ he ⟨a,rfl⟩
    have hm:=Qi he;have hl':(ks.flatMap (clm n)).length<=1000:=hl;have h1:=wD n e (hk e hm) (Q4 (zJb hm) hl');have h2:((ks.take i).flatMap (clm n)).length<=(ks.flatMap (clm n)).length:=zJx;have h3:=zJb (n:=n) hm;erw[h1,Jk ⋯];refine⟨_,rfl,.val e,?_⟩
    rw[nY he,Xw,Q8,V4,Qaa,Vm]
   ·rintro ρ' ⟨a,rfl⟩
    rw[Vu];symm
def zHV:∀ {n m:Nat} {d:D},IsC n d->dpt n d<=(m:Int)->IsC m d
 | 0,_,_,h,_=>h.elim
 | n+1,0,d,h,l=>by have:=(zHR h).1;omega
 | n+1,m+1,d,h,l=>by
  rcases h with⟨c,rfl⟩ | ⟨w,ws,ks,rfl,hw,k0,k1,w1,hy,hk⟩
  ·exact .inl ⟨c,rfl⟩
  ·have l':1+mx0 (ks.map (dpt n))<=((m+1:Nat):Int):=l
   exact .inr ⟨w,ws,ks,rfl,hw,k0,k1,w1,hy,fun k hm=>zHV (hk k hm) (by
    have:=zIR (l:=ks.map (dpt n)) (Ql.mpr ⟨k,hm,rfl⟩)
    omega)⟩
def zJQ(c k:Int)(hk:0<=k)(hk2:k<=1000):∃ x:Int,nM [.int c,.int k]=.ok (.v (.int x))/\0<=x/\x<2147483647:=by
 refine⟨_,?_,Vy (c*48271+7919*k+23) (b:=2147483647) ∅,Vz _ ∅⟩
 unfold nM;symm
abbrev zTF:D:=.lst [.str "row", .str "back", .str "even", .str "lack", .str "part", .str "half"]
def zOS(k:Int)(h0:0<=k)(h1:k<6):∃ w∈wys,oIx zTF (.int k)=.ok (.str w):=by
 have hk:k=0∨k=1∨k=2∨k=3∨k=4∨k=5:=⋯
 rcases hk with rfl | rfl | rfl | rfl | rfl | rfl
 all_goals exact⟨_,by simp[wys],rfl⟩
def zLP{x:Int}{m:Nat}(h:x.natAbs<2^m){a:Int}(ha:a.natAbs<2^30):(x+a).natAbs<2^(m+31):=by
 have e:(2:Nat)^(m+31)=2^m*2^31:=Nat.pow_add ..;have p:1<=(2:Nat)^m:=Nat.one_le_two_pow;have:2^m*2^30+2^m*2^30=(2:Nat)^m*2^31:=by rw[<-U6]
 have q:2^m*1<=(2:Nat)^m*2^30:=Qat _ ∅
 have r:1*2^30<=(2:Nat)^m*2^30:=Nat.mul_le_mul_right _ p;rw[e];omega
def zY{ks:List D}{mix plan:Int}{m:Nat}(hm:mix.natAbs<2^m)(m20:m<=1048576)(k1:ks.length<=100):∃(w:Str)(ws:List Int),eO [.lst ks,.int mix,.int plan]=.ok (.v (.tup [.str w,.tup (ws.map D.int),.tup ks]))/\w∈wys/\wOK w ws ks.length/\ws.length<=100:=by
 have q6:0<=mix / 7 % 6/\mix / 7 % 6<6:=⟨Vy _ ∅,Vz _ ∅⟩
 obtain⟨w,hw,ew⟩:=zOS _ q6.1 q6.2
 have key:∀ r,eO [.lst ks,.int mix,.int plan]=r->∃(w:Str)(ws:List Int),r=.ok (.v (.tup [.str w,.tup (ws.map D.int),.tup ks]))/\w∈wys/\wOK w ws ks.length/\ws.length<=100:=by
  intro r hr;rw[<-hr];unfold eO;erw[ew,zSs];symm;by_cases c:w = "even" ∨ w = "lack"
  ·rw[J5 c]
   symm
   have g3:0<=plan / 3 % 3 / 2/\plan / 3 % 3 / 2<2:=by
    have a:=Vy (plan / 3) (b:=3) ∅
    have b:=Vz (plan / 3) (b:=3) ∅
    omega
   obtain⟨gr,hg,eg⟩:∃ g:Int,(1<=g/\g<=10^6)/\oIx (.lst [.int 5,.int (10^6)]) (.int (plan / 3 % 3 / 2))=.ok (.int g):=by
    generalize plan / 3 % 3 / 2=k at g3;have hk:k=0∨k=1:=⋯
    rcases hk with rfl | rfl
    ·exact⟨5,⋯,rfl⟩
    ·exact⟨10^6,⋯,rfl⟩
   rw[oPow_i ∅];erw[eg,zEV ⋯ ⋯,show rng 0 ((ks.length:Int)).toNat 1=(List.range ks.length).map fun j:Nat=>D.int (j:Int) by unfold rng;rw[Vd];exact V0 fun j _=>by rw[show(0:Int)+(j:Int)*1=(j:Int) by omega]]
   rw[dQ (u:=fun j:Nat=>D.int (j:Int)) (g:=fun j:Nat=>D.int (1+(mix+40692*(j:Int)+1)^2 % 998244353 / 7 % gr)) (by rw[Q3];omega) (fun j hj=>by
    have hj':=Qn.mp hj
    have ab:(mix+40692*(j:Int)+1).natAbs<2^(m+31):=by
     rw[W4];exact zLP hm ⋯
    erw[oPow_i (zLG ab ∅ ⋯)];symm;rw[oMod_i ⋯,zBr _ ⋯]
    symm)]
   symm;refine⟨w,(List.range ks.length).map fun j:Nat=>1+(mix+40692*(j:Int)+1)^2 % 998244353 / 7 % gr,?_,hw,.inl ⟨c,by rw[Qe,Q3],fun x hx=>?_⟩,by rw[Qe,Q3];exact k1⟩
   ·rw[Qx]
    rfl
   ·obtain⟨j,_,rfl⟩:=Ql.mp hx
    have a:=Vy ((mix+40692*(j:Int)+1)^2 % 998244353 / 7) (b:=gr) ⋯
    have b:=Vz ((mix+40692*(j:Int)+1)^2 % 998244353 / 7) (b:=gr) ⋯
    omega
  ·rw[Jj c]
   symm;exact⟨w,[],rfl,hw,.inr ⟨c,rfl⟩,∅⟩
 exact key _ rfl
structure Pq (L:List D) (many:Int):Prop where
 each:∀ p∈L,IsC 7 p
 few:((L.flatMap (clm 7)).length:Int)<=many
 most:many<=12
 rng:∀ c∈L.flatMap (clm 7),0<=c/\c<=10^9
 start:L=[]->many=0
def Pq.ok{L:List D}{b:Int}(h:Pq L b):∀ d∈L,dOK 15 d:=fun d hd=>zHN _ _ (h.each d hd)
def Pq.len{L:List D}{b:Int}(h:Pq L b):L.length<=12:=by
 have:=zCZ h.each
 have:=h.few
 have:=h.most
 omega
def Pq.knot{L:List D}{b:Int}(h:Pq L b){k:Nat}{w:Str}{ws:List Int}(hd:0<(L.drop k).length)(hw:w∈wys)(hs:wOK w ws (L.drop k).length)(hl:ws.length<=100){n:Nat}(hn:n<=7)(hk:∀ d∈L.drop k,IsC n d):IsC (n+1) (.tup [.str w,.tup (ws.map D.int),.tup (L.drop k)])/\clm (n+1) (.tup [.str w,.tup (ws.map D.int),.tup (L.drop k)])=(L.drop k).flatMap (clm 7):=by
 have:=h.len
 refine⟨.inr ⟨w,ws,_,rfl,(zNW hw).2,hd,by rw[Q9];omega,hl,⟨hw,hs⟩,hk⟩,?_⟩
 show(L.drop k).flatMap (clm n)=_
 rw[U2,U2];congr 1
 exact V0 fun d hd=>(oB (hk d hd) hn).symm
def PqS(cs:List Int)(plan most:Int)(i:Nat)(ρ:Rho):Prop:=∃(L:List D)(many:Int)(a5 a6 a7:Sl),ρ=[.val (.lst (cs.map D.int)),.val (.int plan),.val (.int most),.own L,.val (.int many),a5,a6,a7]/\Pq L many
def zRq{cs:List Int}{plan most:Int}{L:List D}{many:Int}{a6 a7:Sl}(pq:Pq L many)(hm:most<=12){i:Nat}(hi:i<cs.length)(hc:cs.length<=100):∃ ρ2,oU [.val (.lst (cs.map D.int)),.val (.int plan),.val (.int most),.own L,.val (.int many),.val (.int (i:Int)),a6,a7]=.ok (.nx ρ2)/\PqS cs plan most (i+1) ρ2:=by
 obtain⟨mix,em,x0,x1⟩:=zJQ (cs.getD i 0) (i:Int) ⋯ ⋯
 have len:=pq.len;erw[zPD hi,em];symm;have q0:=Vy (mix / 5) (b:=4) ∅
 have q1:=Vz (mix / 5) (b:=4) ∅
 generalize mix / 5 % 4=q at q0 q1
 have bt:many<12->∃ ρ2,(aY (cU 4 (eOp zQ (aE 4) (eC (.int 1)))) kJ) [.val (.lst (cs.map D.int)),.val (.int plan),.val (.int most),.own L,.val (.int many),.val (.int (i:Int)),.val (.int mix),.val (.int (1+q))]=.ok (.nx ρ2)/\PqS cs plan most (i+1) ρ2:=fun c=>by
  symm;have p1:(0:Int)<=mix / 13 % 13/\mix / 13 % 13<13:=⟨Vy _ ∅,Vz _ ∅⟩
  have p2:(0:Int)<=mix / 89 % 4/\mix / 89 % 4<4:=⟨Vy _ ∅,Vz _ ∅⟩
  have p3:(0:Int)<=mix / 17 % 10^9/\mix / 17 % 10^9<10^9:=⟨Vy _ ∅,Vz _ ∅⟩
  have p4:(0:Int)<=plan % 3/\plan % 3<3:=⟨Vy _ ∅,Vz _ ∅⟩
  obtain⟨u,hu,e⟩:∃ u:Int,(0<=u/\u<=10^9)/\oIx (.lst [.int (mix / 13 % 13),.int (mix / 89 % 4),.int (mix / 17 % 10^9)]) (.int (plan % 3))=.ok (.int u):=by
   generalize plan % 3=k at p4;have hk:k=0∨k=1∨k=2:=⋯
   rcases hk with rfl | rfl | rfl
   ·exact⟨_,⋯,rfl⟩
   ·exact⟨_,⋯,rfl⟩
   ·exact⟨_,⋯,rfl⟩
  rw[e];erw[Jk ⋯];refine⟨_,rfl,L++[.tup [.str "boat", .int u]],many+1,_,_,_,rfl,⟨fun p hp=>?_,?_,⋯,fun c hc=>?_,fun z=>by simp at z⟩⟩
  ·rcases Q7.mp hp with hp | hp
   ·exact pq.each p hp
   ·rw[Qw.mp hp];exact .inl ⟨u,rfl⟩
  ·have:=pq.few
   rw[Xw,Qo];show((_+1:Nat):Int)<=_
   omega
  ·rw[Xw] at hc
   rcases Q7.mp hc with hc | hc
   ·exact pq.rng c hc
   ·have hc':c∈[u]:=hc
    rw[Qw.mp hc'];exact hu
 have kt:0<L.length->∃ ρ2,(sIf (tFrzB (dM (eOp oLt (eB zBP (aB (eF (iS (oP (eF (fSl (aE 3) (oS (eUn zCg (aE 7))) oN))) iM (aL (dH 10) (aB (aE 8) aNil)))) aNil)) (eC (.int 7))))) (zBM 3 (zPB (zPx (eF (fSl (aE 3) oN (oS (eUn zCg (aE 7))))) (eF (mU (aB (aL eO (aB (eF (fSl (aE 3) (oS (eUn zCg (aE 7))) oN)) (aB (eOp vE (aE 6) (eC (.int 31))) (aB (aE 1) aNil)))) aNil)))))) sNext) [.val (.lst (cs.map D.int)),.val (.int plan),.val (.int most),.own L,.val (.int many),.val (.int (i:Int)),.val (.int mix),.val (.int (1+q))]=.ok (.nx ρ2)/\PqS cs plan most (i+1) ρ2:=fun l0=>by
  have sub:∀ k:Nat,∀ d∈L.drop k,d∈L:=fun k d hd=>Qas hd
  have lp:0<(L.drop (L.length-(- -(1+q)).toNat)).length:=by rw[Q9];omega
  erw[vJ ⋯];generalize hk:L.length-(- -(1+q)).toNat=k at lp
  have e:=dQ (u:=fun d:D=>d) (g:=fun d=>.int (dpt 7 d)) (l:=L.drop k) (f:=aL (dH 10) (aB (aE 8) aNil)) (ρ:=[.val (.lst (cs.map D.int)),.val (.int plan),.val (.int most),.val (.lst L),.val (.int many),.val (.int (i:Int)),.val (.int mix),.val (.int (1+q))]) (by rw[Q9];omega) (fun d hd=>by
   have c7:=pq.each d (sub k d hd);symm;rw[zX 10 d (rC c7 ∅),zFr c7 ∅]
   symm)
  rw[List.map_id'] at e;rw[e];erw[zCw lp];symm;by_cases c:mx0 ((L.drop k).map (dpt 7))<7
  ·rw[J5 c]
   obtain⟨w,ws,ew,hw,hs,hl⟩:=zY (ks:=L.drop k) (mix:=mix / 31) (plan:=plan) (m:=31) ⋯ ∅ (by rw[Q9];omega)
   have hn:∀ d∈L.drop k,IsC 6 d:=fun d hd=>zHV (pq.each d (sub k d hd)) (by
    have:=zIR (l:=(L.drop k).map (dpt 7)) (Ql.mpr ⟨d,hd,rfl⟩)
    omega)
   obtain⟨k1,k2⟩:=pq.knot lp hw hs hl ∅ hn
   have nl:noLs (L.take k++[.tup [.str w,.tup (ws.map D.int),.tup (L.drop k)]])=true:=zHz fun d hd=>by
    rcases Q7.mp hd with h | h
    ·exact zEK _ _ (pq.ok d (Y4 h))
    ·rw[Qw.mp h];exact zEK _ _ (zHN _ _ k1)
   symm;rw[zJH ⋯,vJ ⋯,hk];rw[ew];erw[Jk (by rw[Xo];omega),Jk nl]
   have fm:(L.take k++[D.tup [.str w,.tup (ws.map D.int),.tup (L.drop k)]]).flatMap (clm 7)=L.flatMap (clm 7):=by
    rw[Xw,V4,Qaa,Vm]
    conv=>rhs;rw[<-Y7 k L,Xw]
    rw[show clm 7 (D.tup [.str w,.tup (ws.map D.int),.tup (L.drop k)])=(L.drop k).flatMap (clm 7) from k2]
   refine⟨_,rfl,_,many,_,_,_,rfl,⟨fun p hp=>?_,by rw[fm];exact pq.few,pq.most,by rw[fm];exact pq.rng,fun z=>by simp at z⟩⟩
   rcases Q7.mp hp with h | h
   ·exact pq.each p (Y4 h)
   ·rw[Qw.mp h];exact k1
  ·rw[Jj c]
   symm;exact⟨_,rfl,L,many,_,_,_,rfl,pq⟩
 generalize hB:(aY (cU 4 (eOp zQ (aE 4) (eC (.int 1)))) kJ:Sv)=BB at bt;generalize hK:(sIf (tFrzB (dM (eOp oLt (eB zBP (aB (eF (iS (oP (eF (fSl (aE 3) (oS (eUn zCg (aE 7))) oN))) iM (aL (dH 10) (aB (aE 8) aNil)))) aNil)) (eC (.int 7))))) (zBM 3 (zPB (zPx (eF (fSl (aE 3) oN (oS (eUn zCg (aE 7))))) (eF (mU (aB (aL eO (aB (eF (fSl (aE 3) (oS (eUn zCg (aE 7))) oN)) (aB (eOp vE (aE 6) (eC (.int 31))) (aB (aE 1) aNil)))) aNil)))))) sNext:Sv)=KK at kt
 have rest:∀ b:Bool,(b=true->many<12)->∃ ρ2,(((Res.ok b:Res Bool).bind (zRP (dM (eOp oEq (aE 3) (eF (mU aNil)))) [.val (.lst (cs.map D.int)),.val (.int plan),.val (.int most),.val (.lst L),.val (.int many),.val (.int (i:Int)),.val (.int mix),.val (.int (1+q))])).bind (ifF BB KK [.val (.lst (cs.map D.int)),.val (.int plan),.val (.int most),.own L,.val (.int many),.val (.int (i:Int)),.val (.int mix),.val (.int (1+q))]))=.ok (.nx ρ2)/\PqS cs plan most (i+1) ρ2:=by
  intro b hb
  cases b with
  | true=>exact bt (hb rfl)
  | false=>
   erw[(zMj pq.ok).1];symm;by_cases c:L.length=0
   ·rw[J5 c]
    exact bt (by have:=pq.start (Wo c);omega)
   ·rw[Jj c]
    exact kt ⋯
 by_cases c1:mix / 11 % 3<2
 ·rw[J5 c1]
  symm;exact rest _ fun z=>by have:=J7 z;omega
 ·rw[Jj c1]
  exact rest false fun z=>by cases z
def zCW{cs:List Int}{plan most:Int}{m:Nat}(hc:cs.length<=100)(hm:plan.natAbs<2^m)(m20:m<=1048576)(h1:0<=most)(h2:most<=12):∃ d:D,hU [.lst (cs.map D.int),.int plan,.int most]=.ok (.v d)/\Gc 8 d:=by
 unfold hU;erw[zEV ⋯ ⋯];symm;refine kW (Q:=fun r=>∃ d:D,r.bind fin=.ok (.v d)/\Gc 8 d) (PqS cs plan most) ⟨[],0,_,_,_,rfl,⟨fun p h=>(by cases h),∅,∅,fun p h=>(by cases h),fun _=>rfl⟩⟩ ?_ ?_
 ·rintro i e ρ he ⟨L,many,a5,a6,a7,rfl,pq⟩
  obtain⟨hi,rfl⟩:=zFF he;rw[show(0:Int)+(i:Int)*1=(i:Int) by omega];exact zRq pq h2 ⋯ hc
 ·rintro ρ ⟨L,many,a5,a6,a7,rfl,pq⟩
  have len:=pq.len;erw[(zMj pq.ok).1];symm;by_cases c0:L.length=0
  ·rw[J5 c0]
   symm;have p7:(0:Int)<=plan % 7/\plan % 7<7:=⟨Vy _ ∅,Vz _ ∅⟩
   exact⟨_,rfl,.inl ⟨_,rfl⟩,by show 1<=12;decide,fun c hc=>by have hc':c∈[plan % 7]:=hc;rw[Qw.mp hc'];omega⟩
  ·rw[Jj c0]
   symm;by_cases c1:L.length=1
   ·rw[J5 ⋯]
    obtain⟨x,rfl⟩:∃ x,L=[x]:=by
     match L,c1 with
     | [x],_=>exact⟨x,rfl⟩
    have cx:=pq.each x Qb;have e7:clm 8 x=clm 7 x:=oB cx ∅
    have fm:([x]:List D).flatMap (clm 7)=clm 7 x:=by simp
    symm;refine⟨x,rfl,rC cx ∅,?_,?_⟩
    ·rw[e7,<-fm];have:=pq.few;have:=pq.most;omega
    ·rw[e7,<-fm];exact pq.rng
   ·rw[Jj ⋯]
    symm;obtain⟨w,ws,ew,hw,hs,hl⟩:=zY (ks:=L) (mix:=plan / 9) (plan:=plan) (m:=m) (Xq ⋯ hm) m20 ⋯
    rw[ew];symm;obtain⟨k1,k2⟩:=pq.knot (k:=0) (w:=w) (ws:=ws) (by rw[X2];omega) hw (by rw[X2];exact hs) hl ∅ (fun d hd=>pq.each d (by rw[X2] at hd;exact hd))
    rw[X2] at k1 k2;refine⟨_,rfl,k1,?_,?_⟩
    ·rw[k2];have:=pq.few;have:=pq.most;omega
    ·rw[k2];exact pq.rng
abbrev Big(ns:List Int):Prop:=∃ m,m<=1048576/\∀ n∈ns,n.natAbs<2^m
def Big.at{ns:List Int}(h:Big ns)(k:Nat):∃ m,m<=1048576/\(ns.getD k 0).natAbs<2^m:=by
 obtain⟨m,m1,m2⟩:=h;by_cases c:k<ns.length
 ·exact⟨m,m1,m2 _ (Qi (bL c))⟩
 ·refine⟨0,∅,?_⟩
  rw[Qv,Q5 ⋯];decide
def zEe{b:Bool}:zPC [.bl b]=.ok (.int (if b then 1 else 0)):=by cases b<;>rfl
def zFH{b:Bool}{x y:Int}:oIx (.lst [.int x,.int y]) (.int (if b then 1 else 0))=.ok (.int (if b then y else x)):=by cases b<;>rfl
def zHl(ns:List Int)(a b:Int)(ha:0<=a)(hb:0<=b):∃ cs:List Int,dX (ns.map D.int) (some a) (some b)=cs.map D.int/\cs.length<=ns.length:=by
 refine⟨(ns.drop a.toNat).take (b.toNat-a.toNat),by rw[zIw ha hb,List.map_take,U0],?_⟩
 rw[Xo,Q9];omega
def zNJ(ls:List (List Pt)):dep (.lst (ls.map lnD))<=50:=by
 rw[dep]
 have:depS (ls.map lnD)<=20:=by
  induction ls with
  | nil=>simp[depS]
  | cons a r ih=>
   rw[Qq,depS];refine Uo.mpr ⟨?_,ih⟩
   unfold lnD;rw[dep];have:=zFa a
   omega
 omega
def zRk{ls:List (List Pt)}{j:Nat}(h:j<ls.length):oIx (.lst (ls.map lnD)) (.int (j:Int))=.ok (lnD (ls.getD j [])):=kE (Vw j) (by rw[Vd,Qv,Qm h];rfl)
def zKA{g:Gv}{b:Sv}{ds:List D}{ρ:Rho}(P:Nat->Rho->Prop)(h0:P 0 ρ)(st:∀ i d ρ,ds[i]?=some d->P i ρ->∃ ρ2,(g d ρ).bind b=.ok (.nx ρ2)/\P (i+1) ρ2):∃ ρ',gE g b ds ρ=.ok (.nx ρ')/\P ds.length ρ':=by
 have e:∀ r:Res Fl,r.bind (fun f=>.ok f)=r:=fun r=>by cases r<;>rfl
 have:=kW (k:=fun f=>(.ok f:Res Fl)) (Q:=fun r=>∃ ρ',r=.ok (.nx ρ')/\P ds.length ρ') P h0 st fun ρ' h=>⟨ρ',rfl,h⟩
 rw[e] at this;exact this
def zIt{n:Nat}{f:Nat->Rat}:∀ {ks:List D} {i:Nat},(∀ j k,ks[j]?=some k->(SF n k (f (i+j))).sum=f (i+j))->(SFL (SF n) f ks i).sum=((List.range' i ks.length).map f).sum
 | [],i,_=>rfl
 | k::r,i,h=>by
  have h0:=h 0 k rfl;rw[Uw] at h0;show(SF n k (f i)++SFL (SF n) f r (i+1)).sum=_
  rw[lW,h0,zIt fun j k' hj=>by
   have:=h (j+1) k' (by simpa using hj)
   rw[show i+1+j=i+(j+1) by omega];exact this]
  rw[Qk,U5,Qq,Qr]
def zMq:∀ {n:Nat} {d:D} {q:Rat},Gc n d->0<=q->q<=((clm n d).sum:Rat)->(SF n d q).sum=q
 | 0,_,_,g,_,_=>g.1.elim
 | n+1,d,q,g,q0,q1=>by
  rcases g.1 with⟨c,rfl⟩ | ⟨w,ws,ks,rfl,hw,k0,k1,w1,hy,hk⟩
  ·show [q].sum=q
   rw[Qr,Xe];grind
  ·obtain⟨v,rfl⟩:=zLi hy.1
   have cl:=g.cl hk k0;have se:(kcl n ks).sum=(clm (n+1) (.tup [.str v.s,.tup (ws.map D.int),.tup ks])).sum:=tE ks;have due:v.due ws (kcl n ks):=zJT (by rw[fI];exact hy.2)
   rw[<-se] at q1;obtain⟨b1,b2⟩:=zJy due cl q0 q1
   rw[zBc,zIt fun j k hj=>by
    obtain⟨j1,j2⟩:=zJs (n:=n) hj;have b:=b1 j j1;rw[j2] at b;rw[Vq]
    exact zMq (g.kid hk (Qi hj)) b.1 b.2]
   rw[fI,Uh] at b2;exact b2
def zDt(a b:List Rat)(j:Nat):((a++b).take j).sum=(a.take j).sum+(b.take (j-a.length)).sum:=by
 rw[List.take_append,lW]
def zJn{P:D->Rat->List Rat->Prop}{n m:Nat}{f:Nat->Rat}{B:Int}:∀ {ks:List D} {i:Nat} {xs:List Rat},(∀ k∈ks,∀ q xs B,P k q xs->0<=q->q<=((clm n k).sum:Rat)->Dn B q->xs.sum=q/\∀ j,∃ E:Int,0<E/\E<=2^m/\Dn (B*E) (xs.take j).sum)->(∀ j k,ks[j]?=some k->Dn B (f (i+j))/\0<=f (i+j)/\f (i+j)<=((clm n k).sum:Rat))->ShL P ks f i xs->∀ j,∃ E:Int,0<E/\E<=2^m/\Dn (B*E) (xs.take j).sum
 | [],i,xs,_,_,h,j=>⟨1,∅,fU m,by rw[show xs=[] from h,Ua];exact Dn.zero _⟩
 | k::r,i,xs,hp,hf,h,j=>by
  obtain⟨a,b,rfl,ha,hb⟩:=h;have f0:=hf 0 k rfl;obtain⟨sa,ea⟩:=hp k Qb _ _ B ha f0.2.1 f0.2.2 f0.1;rw[zDt];rcases Yr j a.length with c | c
  ·obtain⟨E,e0,e1,e2⟩:=ea j
   refine⟨E,e0,e1,?_⟩
   rw[show j-a.length=0 by omega,Yj];exact e2.add (Dn.zero _)
  ·obtain⟨E,e0,e1,e2⟩:=zJn (B:=B) (fun x hx=>hp x (Qc _ hx)) (fun j k' hj=>by
    have:=hf (j+1) k' (by simpa using hj)
    rw[show i+1+j=i+(j+1) by omega];exact this) hb (j-a.length)
   refine⟨E,e0,e1,?_⟩
   rw[Xr c,sa];exact(f0.1.mul E).add e2
def zMp:∀ {n:Nat} {d:D} {q:Rat} {xs:List Rat} {B:Int},Gc n d->Sh n d q xs->0<=q->q<=((clm n d).sum:Rat)->Dn B q->∀ j,∃ E:Int,0<E/\E<=2^(34*n)/\Dn (B*E) (xs.take j).sum
 | 0,_,_,_,_,g,_,_,_,_,_=>g.1.elim
 | n+1,d,q,xs,B,g,h,q0,q1,hB,j=>by
  rcases h with⟨c,rfl,rfl⟩ | ⟨v,ws,ks,f,rfl,hd,al,hs⟩
  ·refine⟨1,∅,fU _,?_⟩
   rw[Vl]
   cases j with
   | zero=>exact Dn.zero _
   | succ j=>rw[Y3,Ua,Qr,Xe];exact hB.add (Dn.zero _)
  ·rcases g.1 with⟨c,e⟩ | ⟨w,ws',ks',e,hw,k0,k1,w1,hy,hk⟩
   ·simp at e
   ·simp only[D.tup.injEq,Yn,and_true] at e
    obtain⟨e1,e2,rfl⟩:=e;have cl:=g.cl hk k0;have gs:=g.sum;have e:(kcl n ks).sum=(clm (n+1) (.tup [.str v.s,.tup (ws.map D.int),.tup ks])).sum:=tE ks;obtain⟨b,s⟩:=zKr hd cl q0 (by rw[e];exact q1) al
    obtain⟨E,e0,e1,e2⟩:=zLH hd cl (by rw[e];omega) al hB
    obtain⟨E',e0',e1',e2'⟩:=zJn (P:=Sh n) (n:=n) (m:=34*n) (f:=f) (i:=0) (B:=B*E) (fun k hk' q xs B h0 h1 h2 h3=>⟨(zEp (g.kid hk hk') h0 h1 h2).2,zMp (g.kid hk hk') h0 h1 h2 h3⟩) (fun j k hj=>by
     obtain⟨j1,j2⟩:=zEz (n:=n) hj;rw[Vq,<-j2]
     exact⟨e2 j j1,b j j1⟩) hs j
    refine⟨E*E',Xl e0 e0',?_,by rw[<-Ym];exact e2'⟩
    rw[show 34*(n+1)=34+34*n by omega];exact lD e0 e0' (V6 e1) e1'
def zEr:∀ {xs:List Rat} {cs:List Int} (j:Nat),A2 Bc xs cs->0<=(xs.take j).sum/\(xs.take j).sum<=xs.sum
 | [],[],j,_=>by rw[Ua];exact⟨Qh,Qh⟩
 | x::xs,c::cs,0,h=>by
  have:=zEr 0 h.2
  have:=h.1.1
  rw[Yj] at *
  rw[Qr];have:([]:List Rat).sum=0:=rfl
  constructor<;>grind
 | x::xs,c::cs,j+1,h=>by
  have:=zEr j h.2
  have:=h.1.1
  rw[Y3,Qr,Qr];constructor<;>grind
def zDb{d:D}(g:Gc 8 d){x:Rat}(x0:0<=x)(x1:x<=((clm 8 d).sum:Rat)){e:Nat}(hx:(x.den:Int)<=2^e)(he:e<=1200):lK [d,dq x]=.ok (.f ((SF 8 d x).map dq))/\Sh 8 d x (SF 8 d x):=by
 have p:(0:Int)<2^e:=Yg ∅
 obtain⟨xs,ex,sx⟩:=zLj (m:=e+1) g ∅ x0 x1 (by rw[W9];omega) ⋯
 have:=zQI g sx x0 x1
 rw[this] at ex sx;exact⟨ex,sx⟩
def zEL{d:D}(g:Gc 8 d){x:Rat}(x0:0<=x)(x1:x<=((clm 8 d).sum:Rat)){e:Nat}(hx:(x.den:Int)<=2^e)(he:e<=1200)(j:Nat):
  ((((SF 8 d x).take j).sum).den:Int)<=2^(e+272)/\0<=((SF 8 d x).take j).sum/\((SF 8 d x).take j).sum<=((clm 8 d).sum:Rat):=by
 obtain⟨_,sh⟩:=zDb g x0 x1 hx he;obtain⟨bd,sm⟩:=zEp g sh x0 x1;obtain⟨E,e0,e1,e2⟩:=zMp g sh x0 x1 (Dn.den x) j;have n:=zEr j bd;rw[sm] at n;refine⟨?_,n.1,Qz n.2 x1⟩
 exact Vt (e2.le (Xl (dB x) e0)) (lD (dB x) e0 hx e1)
def uO{l:List Rat}{j:Nat}(h:j<l.length):(l.take (j+1)).sum=(l.take j).sum+l.getD j 0:=by
 rw[Ys,lW,Qv,Qm h];show _+([l[j]]).sum=_
 rw[Qr,Xe,Ur];rfl
def zK{l:List Int}{j:Nat}(h:j<l.length):(l.take (j+1)).sum=(l.take j).sum+l.getD j 0:=by
 rw[Ys,Xm,Qv,Qm h];show _+([l[j]]).sum=_
 rw[Qr,Xe,Int.add_zero];rfl
structure SumI (d:D) (j:Nat) (R:List Pt):Prop where
 ln:zLx R
 la:R.getLast?=some (((clm 8 d).sum:Rat),((((clm 8 d).take j).sum:Int):Rat))
 val:∀ x,0<=x->x<=((clm 8 d).sum:Rat)->aO R x=((SF 8 d x).take j).sum
 len:R.length<=242*j
 den:∀ p∈R,(p.1.den:Int)<=2^272
def SumI.sz{d:D}{j:Nat}{R:List Pt}(g:Gc 8 d)(h:SumI d j R):∀ p∈R,SzQ 307 579 p:=fun p hp=>by
 have gs:=g.sum;have b:=cW h.ln.1 h.la hp;obtain⟨i,hi⟩:=Xt.mp hp;have e:p.2=((SF 8 d p.1).take j).sum:=by rw[<-h.val _ b.1 b.2.1];exact(bF h.ln.1.2 hi).symm
 have q:=zEL g b.1 b.2.1 (h.den p hp) ∅ j
 refine⟨mI b.1 b.2.1 ⋯ (h.den p hp),?_⟩
 rw[e];exact mI q.2.1 q.2.2 ⋯ q.1
def zKQ{d:D}{j:Nat}{R:List Pt}{Ls:List (List Pt)}(g:Gc 8 d)(lg:LLg (clm 8 d).sum (clm 8 d) (SF 8 d) 272 242 Ls)(hj:j<(clm 8 d).length)(h:SumI d j R):
  ∃ R',oF [lnD R,lnD (Ls.getD j [])]=.ok (.v (lnD R'))/\SumI d (j+1) R':=by
 have gs:=g.sum;have c:=lg.2 j hj;have l12:=g.2.1;have cj:=g.2.2 _ (Qi (bL hj));have zc:=c.sz ⋯ ⋯
 have zr:=h.sz g
 have xb:∀ x,x∈R.map Prod.fst∨x∈(Ls.getD j []).map Prod.fst->0<=x/\x<=((clm 8 d).sum:Rat)/\(x.den:Int)<=2^272:=by
  rintro x (hx | hx)
  ·obtain⟨p,hp,rfl⟩:=Ql.mp hx
   have b:=cW h.ln.1 h.la hp;exact⟨b.1,b.2.1,h.den p hp⟩
  ·obtain⟨p,hp,rfl⟩:=Ql.mp hx
   obtain⟨_,b1,b2,_⟩:=c.pt hp;exact⟨b1,b2,c.den p hp⟩
 have lf:∀ x,j<(SF 8 d x).length:=fun x=>by rw[qE g.1];exact hj
 obtain⟨R',e,l',la',len',val',ps'⟩:=zLQ (ps:=R) (qs:=Ls.getD j []) 307 579 579 579 579 h.ln.1 c.ln.1 h.la c.la rfl (by have:=h.len;omega) (by have:=c.len;omega) zr zc ∅ ∅ ∅ ∅ (fun x hx=>by
  obtain⟨x0,x1,xd⟩:=xb x hx;have q:=zEL g x0 x1 xd ∅ j
  have q':=zEL g x0 x1 xd ∅ (j+1)
  rw[h.val x x0 x1,c.val x x0 x1];refine⟨mI q.2.1 q.2.2 ⋯ q.1,?_,?_⟩
  ·have y:=c.yd x 272 x0 x1 xd
   have sh:=(zDb g x0 x1 xd ∅).2
   obtain⟨b0,b1⟩:Bc ((SF 8 d x).getD j 0) ((clm 8 d).getD j 0):=(zEp g sh x0 x1).1.at (lf x);exact mI b0 b1 ⋯ y
  ·rw[<-uO (lf x)]
   exact mI q'.2.1 q'.2.2 ⋯ q'.1)
 refine⟨R',e,l',?_,fun x x0 x1=>?_,?_,fun p hp=>?_⟩
 ·rw[la',zK hj,Vo]
 ·rw[val' x x0 x1,h.val x x0 x1,c.val x x0 x1,uO (lf x)]
 ·have:=h.len;have:=c.len;omega
 ·rcases (ps' p hp).2 with⟨r,hr,er⟩ | ⟨r,hr,er⟩
  ·rw[er];exact h.den r hr
  ·rw[er];exact c.den r hr
def zNK{a0 a2 a4:Sl}{p:Pt}{rs:List Rat}{n m:Nat}(hz:∀ x∈rs,Sz n x)(hq:Sz m p.1)(hn:n+m<=99999)(hl:rs.length<50000)(ho:rs.Pairwise (· < ·)):
  ∃(rs':List Rat)(b':Sl),kP [a0,.own (rs.map dq),a2,.val (dp p),a4]=.ok (.nx [a0,.own (rs'.map dq),a2,.val (dp p),b'])/\(∀ y,y∈rs' ↔ y∈rs∨y=p.1)/\rs'.Pairwise (· < ·)/\rs'.length<=rs.length+1:=by
 symm;refine zDc (fun ρ=>∃ j:Nat,ρ=[a0,.own (rs.map dq),a2,.val (dp p),.val (.int (j:Int))]/\j<=rs.length/\∀ x∈rs.take j,x<p.1) (fun ρ=>rs.length-(slI 4 ρ).toNat) (fun r=>∃(rs':List Rat)(b':Sl),r.bind (zKs hJ)=.ok (.nx [a0,.own (rs'.map dq),a2,.val (dp p),b'])/\(∀ y,y∈rs' ↔ y∈rs∨y=p.1)/\rs'.Pairwise (· < ·)/\rs'.length<=rs.length+1) ⟨0,rfl,Vi _,fun x hx=>by cases hx⟩ ?_
 rintro ρ ⟨j,rfl,hj,hx⟩
 have ins:(∀ x∈rs.drop j,p.1<x)->zRS 1 (aE 4) (eOp oIx (aE 3) (eC (.int 0))) [a0,Sl.own (rs.map dq),a2,.val (dp p),.val (.int (j:Int))]=.ok (.nx [a0,Sl.own ((rs.take j++p.1::rs.drop j).map dq),a2,.val (dp p),.val (.int (j:Int))])/\(∀ y,y∈rs.take j++p.1::rs.drop j ↔ y∈rs∨y=p.1)/\(rs.take j++p.1::rs.drop j).Pairwise (· < ·)/\(rs.take j++p.1::rs.drop j).length<=rs.length+1:=fun hd=>by
  refine⟨?_,fun y=>?_,?_,?_⟩
  ·show(if 0<=(j:Int)/\(j:Int)<=(rs.map dq).length/\(rs.map dq).length<100000 then Res.ok (Fl.nx [a0,Sl.own ((rs.map dq).take (j:Int).toNat++dq p.1::(rs.map dq).drop (j:Int).toNat),a2,.val (dp p),.val (.int (j:Int))]) else .no)=_
   rw[Jk (by rw[Qe];omega),Vd,Q8,Qq,List.map_take,U0]
  ·have:=(List.perm_middle (a:=p.1) (l₁:=rs.take j) (l₂:=rs.drop j)).mem_iff (a:=y)
   rw[Y7] at this;rw[this,Qd];exact Or.comm
  ·have ho':=ho
   rw[<-Y7 j rs] at ho';obtain⟨p1,p2,p3⟩:=Y6.mp ho';refine Y6.mpr ⟨p1,Qp.mpr ⟨hd,p2⟩,fun x h y h'=>?_⟩
   rcases Qd.mp h' with rfl | h'
   ·exact hx x h
   ·exact p3 x h y h'
  ·rw[Qo,Qk,Xo,Q9];omega
 by_cases c1:j<rs.length
 ·have ej:rs[j]?=some rs[j]:=Qm c1
  have ix:oIx (.lst (rs.map dq)) (.int (j:Int))=.ok (dq rs[j]):=kE (Vw j) (show rs[((j:Nat):Int).toNat]?=some rs[j] from ej)
  have z:=hz _ (Ui c1);have i0:oIx (dp p) (.int 0)=.ok (dq p.1):=rfl;by_cases c2:rs[j]<p.1
  ·refine .inr ⟨?_,[a0,.own (rs.map dq),a2,.val (dp p),.val (.int ((j+1:Nat):Int))],?_,⟨j+1,rfl,c1,fun x h=>?_⟩,?_⟩
   ·symm
    rw[J5 (show(j:Int)<(rs.length:Int) by omega)];erw[ix,rR z hq hn,J5 c2]
   ·symm
    rfl
   ·rw[Ys,ej] at h
    rcases Q7.mp h with h | h
    ·exact hx x h
    ·have h':x∈[rs[j]]:=h
     rw[Qw.mp h'];exact c2
   ·show rs.length-(((j+1:Nat):Int)).toNat<rs.length-((j:Int)).toNat
    rw[Vd,Vd];omega
  ·have cond:(tFrzB (xN (dM (eOp oLt (aE 4) (eB nD (aB (aE 1) aNil)))) (dM (aL fP (aB (eOp oIx (aE 1) (aE 4)) (aB (eOp oIx (aE 3) (eC (.int 0))) aNil)))))) [a0,Sl.own (rs.map dq),a2,.val (dp p),.val (.int (j:Int))]=.ok false:=by
    erw[J5 (show(j:Int)<(rs.length:Int) by omega),ix,rR z hq hn,Jj c2]
   have sp:rs.drop j=rs[j]::rs.drop (j+1):=(Uu c1);have ho':=ho;rw[<-Y7 j rs,sp] at ho';obtain⟨_,p2,_⟩:=Y6.mp ho';have p2':=Qp.mp p2;refine .inl ⟨cond,?_⟩
   by_cases c3:rs[j]=p.1
   ·refine⟨rs,.val (.int (j:Int)),?_,fun y=>⟨.inl,fun h=>h.elim id fun h=>by rw[h,<-c3];exact Ui c1⟩,ho,⋯⟩
    erw[Jj (show ¬ (j:Int)=(rs.length:Int) by omega),ix];symm;rw[c3,J5 rfl];symm
   ·have lt:p.1<rs[j]:=by grind
    obtain⟨q1,q2⟩:=ins fun x h=>by
     rw[sp] at h;rcases Qd.mp h with rfl | h
     ·exact lt
     ·exact Std.lt_trans lt (p2'.1 x h)
    refine⟨_,.val (.int (j:Int)),?_,q2⟩
    rw[<-q1];show hJ _=_
    erw[Jj (show ¬ (j:Int)=(rs.length:Int) by omega),ix,Jj c3];symm
 ·have je:j=rs.length:=⋯
  obtain⟨q1,q2⟩:=ins fun x h=>by rw[List.drop_of_length_le ⋯] at h;cases h
  refine .inl ⟨?_,_,.val (.int (j:Int)),?_,q2⟩
  ·symm
   rw[Jj (show ¬ (j:Int)<(rs.length:Int) by omega)];symm
  ·rw[<-q1]
   show hJ _=_
   erw[J5 (show(j:Int)=(rs.length:Int) by omega)];symm
def zHy{a0 a2:Sl}{n:Nat}(hn:n<=40000):∀(l:List Pt)(rs:List Rat)(a3 a4:Sl),(∀ x∈rs,Sz n x)->(∀ p∈l,Sz n p.1)->rs.length+l.length<50000->rs.Pairwise (· < ·)->
  ∃(rs':List Rat)(b3 b4:Sl),gE (gName 3) kP (l.map dp) [a0,.own (rs.map dq),a2,a3,a4]=.ok (.nx [a0,.own (rs'.map dq),a2,b3,b4])/\(∀ y,y∈rs' ↔ y∈rs∨∃ p∈l,p.1=y)/\rs'.Pairwise (· < ·)/\rs'.length<=rs.length+l.length
 | [],rs,a3,a4,_,_,_,ho=>⟨rs,a3,a4,rfl,fun y=>⟨.inl,fun h=>h.elim id fun ⟨p,hp,_⟩=>by cases hp⟩,ho,Qf _⟩
 | p::l,rs,a3,a4,hz,hq,hl,ho=>by
  rw[Qk] at hl;obtain⟨r1,b1,e1,m1,o1,l1⟩:=zNK (a0:=a0) (a2:=a2) (a4:=a4) hz (hq p Qb) ⋯ ⋯ ho
  obtain⟨r2,b3,b4,e2,m2,o2,l2⟩:=zHy hn l r1 (.val (dp p)) b1 (fun x hx=>by
   rcases (m1 x).mp hx with h | rfl
   ·exact hz x h
   ·exact hq p Qb) (fun q hq'=>hq q (Qc _ hq')) ⋯ o1
  refine⟨r2,b3,b4,?_,fun y=>?_,o2,by rw[Qk];omega⟩
  ·rw[<-e2]
   exact dD (ρ1:=[a0,.own (rs.map dq),a2,.val (dp p),a4]) rfl e1
  ·rw[m2,m1]
   constructor
   ·rintro ((h | h) | ⟨q,hq',h⟩)
    ·exact .inl h
    ·exact .inr ⟨p,Qb,h.symm⟩
    ·exact .inr ⟨q,Qc _ hq',h⟩
   ·rintro (h | ⟨q,hq',h⟩)
    ·exact .inl (.inl h)
    ·rcases Qd.mp hq' with rfl | hq'
     ·exact .inl (.inr h.symm)
     ·exact .inr ⟨q,hq',h⟩
def zFj{a0:Sl}{n k:Nat}(hn:n<=40000):∀(Ls:List (List Pt))(rs:List Rat)(a2 a3 a4:Sl),(∀ x∈rs,Sz n x)->(∀ l∈Ls,l.length<=k/\∀ p∈l,Sz n p.1)->rs.length+k*Ls.length<50000->rs.Pairwise (· < ·)->
  ∃(rs':List Rat)(b2 b3 b4:Sl),gE (gName 2) kO (Ls.map lnD) [a0,.own (rs.map dq),a2,a3,a4]=.ok (.nx [a0,.own (rs'.map dq),b2,b3,b4])/\(∀ y,y∈rs' ↔ y∈rs∨∃ l∈Ls,∃ p∈l,p.1=y)/\rs'.Pairwise (· < ·)/\rs'.length<=rs.length+k*Ls.length
 | [],rs,a2,a3,a4,_,_,_,ho=>⟨rs,a2,a3,a4,rfl,fun y=>⟨.inl,fun h=>h.elim id fun ⟨p,hp,_⟩=>by cases hp⟩,ho,⋯⟩
 | l::Ls,rs,a2,a3,a4,hz,hq,hl,ho=>by
  rw[Qk,Nat.mul_succ] at hl;obtain⟨lk,lz⟩:=hq l Qb;obtain⟨r1,b3,b4,e1,m1,o1,l1⟩:=zHy (a0:=a0) (a2:=.val (lnD l)) hn l rs a3 a4 hz lz ⋯ ho
  obtain⟨r2,c2,c3,c4,e2,m2,o2,l2⟩:=zFj hn Ls r1 (.val (lnD l)) b3 b4 (fun x hx=>by
   rcases (m1 x).mp hx with h | ⟨p,hp,rfl⟩
   ·exact hz x h
   ·exact lz p hp) (fun q hq'=>hq q (Qc _ hq')) ⋯ o1
  refine⟨r2,c2,c3,c4,?_,fun y=>?_,o2,by rw[Qk,Nat.mul_succ];omega⟩
  ·rw[<-e2]
   refine dD (ρ1:=[a0,.own (rs.map dq),.val (lnD l),a3,a4]) rfl ?_
   unfold lnD;symm;exact e1
  ·rw[m2,m1]
   constructor
   ·rintro ((h | ⟨p,hp,h⟩) | ⟨q,hq',h⟩)
    ·exact .inl h
    ·exact .inr ⟨l,Qb,p,hp,h⟩
    ·exact .inr ⟨q,Qc _ hq',h⟩
   ·rintro (h | ⟨q,hq',h⟩)
    ·exact .inl (.inl h)
    ·rcases Qd.mp hq' with rfl | hq'
     ·exact .inl (.inr h)
     ·exact .inr ⟨q,hq',h⟩
def zHa{Ls:List (List Pt)}{n k:Nat}(hn:n<=40000)(hq:∀ l∈Ls,l.length<=k/\∀ p∈l,Sz n p.1)(hl:k*Ls.length<50000):
  ∃ J:List Rat,iH [.lst (Ls.map lnD)]=.ok (.f (J.map dq))/\(∀ y,y∈J ↔ ∃ l∈Ls,∃ p∈l,p.1=y)/\J.Pairwise (· < ·)/\J.length<=k*Ls.length:=by
 obtain⟨J,b2,b3,b4,e,m,o,l⟩:=zFj (a0:=.val (.lst (Ls.map lnD))) (k:=k) hn Ls [] .un .un .un (fun x hx=>by cases hx) hq (by simpa using hl) .nil
 refine⟨J,?_,fun y=>?_,o,by simpa using l⟩
 ·unfold iH
  erw[show gE (gName 2) kO (Ls.map lnD) [.val (.lst (Ls.map lnD)),.own [],.un,.un,.un]=_ from e];symm
 ·rw[m]
  exact⟨fun h=>h.elim (fun h=>by cases h) id,.inr⟩
def zPg{d:D}{Ls:List (List Pt)}{J:List Rat}(lg:LLg (clm 8 d).sum (clm 8 d) (SF 8 d) 272 242 Ls)(hm:∀ y,y∈J ↔ ∃ l∈Ls,∃ p∈l,p.1=y)(ho:J.Pairwise (· < ·)){k:Nat}{a b:Rat}(ha:J[k]?=some a)(hb:J[k+1]?=some b){j:Nat}(hj:j<(clm 8 d).length)(a0:0<=a)(b1:b<=((clm 8 d).sum:Rat)):
  hf*((SF 8 d a).getD j 0+(SF 8 d b).getD j 0)=(SF 8 d (hf*(a+b))).getD j 0:=by
 have c:=lg.2 j hj;have lab:a<b:=mT ho (Vn k) ha hb;have eh:hf+hf=1:=by have:=pG 1;grind
 have dbl:∀ t:Rat,hf*t+hf*t=t:=fun t=>by rw[<-Rat.add_mul,eh,Wk]
 have e2:=dbl (a+b);have e3:=dbl ((SF 8 d a).getD j 0+(SF 8 d b).getD j 0);generalize hf*(a+b)=M at *;have m0:a<=M:=by grind
 have m1:M<=b:=by grind
 have l:=uV c.ln.1 c.la a0 lab b1 (fun p hp lt=>by
  have hin:p.1∈J:=(hm _).mpr ⟨Ls.getD j [],by
   have:j<Ls.length:=by rw[lg.1];exact hj
   rw[Qv,Qm this];exact Ui this,p,hp,rfl⟩
  obtain⟨i,hi⟩:=Xt.mp hin;rcases Us i k with q | q | q
  ·have:=mT ho q hi ha;grind
  ·subst q;rw[hi] at ha;cases ha;grind
  ·rcases X4 (show k+1<=i by omega) with q | q
   ·exact Qg (mT ho q hb hi)
   ·subst q;rw[hi] at hb;cases hb;exact Qh) m0 m1
 rw[c.val a a0 (by grind),c.val b (by grind) b1,c.val M (by grind) (by grind)] at l;have n:b-a≠0:=by grind
 refine jP n ?_
 generalize (SF 8 d a).getD j 0=u at *;generalize (SF 8 d b).getD j 0=v at *;generalize (SF 8 d M).getD j 0=w at *;generalize hf*(u+v)=h at *;grind
def zMP:∀ {xs ys:List Rat},A2 (·<=·) xs ys->xs.sum<=ys.sum
 | [],[],_=>Qh
 | x::xs,y::ys,h=>by
  have:=zMP h.2
  have:=h.1
  rw[Qr,Qr];grind
def zMW:∀ {xs ys:List Rat} {j:Nat},A2 (·<=·) xs ys->j<xs.length->ys.getD j 0-xs.getD j 0<=ys.sum-xs.sum
 | x::xs,y::ys,0,h,_=>by
  have:=zMP h.2
  rw[Qr,Qr];show y-x<=_
  grind
 | x::xs,y::ys,j+1,h,hj=>by
  have:=zMW (j:=j) h.2 (by simpa using hj)
  have:=h.1
  rw[Qr,Qr];show ys.getD j 0-xs.getD j 0<=_
  grind
def zSH{d:D}(g:Gc 8 d){x y:Rat}(x0:0<=x)(xy:x<=y)(y1:y<=((clm 8 d).sum:Rat))(hx:(x.den:Int)<=2^272)(hy:(y.den:Int)<=2^272){j:Nat}(hj:j<(clm 8 d).length):(SF 8 d y).getD j 0-(SF 8 d x).getD j 0<=y-x:=by
 have x1:=Qz xy y1;have y0:=Qz x0 xy;have sx:=(zDb g x0 x1 hx ∅).2
 have sy:=(zDb g y0 y1 hy ∅).2
 have:=zMW (zJB g sx sy xy) (by rw[qE g.1];exact hj)
 rw[(zEp g sx x0 x1).2,(zEp g sy y0 y1).2] at this;exact this
def zJq{d:D}{Ls:List (List Pt)}(g:Gc 8 d)(lg:LLg (clm 8 d).sum (clm 8 d) (SF 8 d) 272 242 Ls):SumI d 1 (Ls.getD 0 []):=by
 have l1:=zBu g.1;have c:=lg.2 0 l1;refine⟨c.ln,?_,fun x x0 x1=>?_,c.len,c.den⟩
 ·rw[c.la,zK (j:=0) l1,Yj,Xe,W5]
 ·rw[c.val x x0 x1,uO (j:=0) (by rw[qE g.1];exact l1),Yj,Xe,W7]
def zLE{d:D}{R:List Pt}(g:Gc 8 d)(h:SumI d (clm 8 d).length R):R=if (clm 8 d).sum=0 then [(0,0)] else [(0,0),(((clm 8 d).sum:Rat),((clm 8 d).sum:Rat))]:=by
 have gs:=g.sum;obtain⟨l,_,c,el⟩:=zAa (c:=(clm 8 d).sum) gs.1 ⋯
 rw[<-el];refine zNL h.ln c.ln h.la c.la rfl fun x x0 x1=>?_
 rw[h.val x x0 x1,c.val x x0 x1,Xr (by rw[qE g.1];exact Qf _),zMq g x0 x1]
def zNA{a b:Rat}{m:Nat}(ha:(a.den:Int)<=2^m)(hb:(b.den:Int)<=2^m):((hf*(a+b)).den:Int)<=2^(m+m+1):=by
 have pa:=dB a;have pb:=dB b;have da:Dn ((a.den:Int)*b.den) a:=(Dn.den a).mul _;have db:Dn ((a.den:Int)*b.den) b:=by rw[Uf];exact(Dn.den b).mul _
 have h:=zGQ (da.add db);rw[Rat.mul_comm] at h;have:=h.le (Xl (Xl pa pb) ∅)
 have q:=lD pa pb ha hb;rw[W9];omega
abbrev R32(ns:List Int)(plan wd:Int)(d:D)(S:Int)(Ls:List (List Pt))(s6 s7 s8 s9 s10 s11 s12 s13 s14 s15 s16 s17:Sl):Rho:=[.val (.lst (ns.map D.int)),.val (.int plan),.val (.int wd),.val d,.val (.int S),.val (.lst (Ls.map lnD)),s6,s7,s8,s9,s10,s11,s12,s13,s14,s15,s16,s17]
def zQG{ns:List Int}{plan wd:Int}{d:D}{S:Int}{Ls:List (List Pt)}{s6 s8 s9 s10 s11 s12 s13 s14 s15 s16 s17:Sl}(g:Gc 8 d){j:Nat}(hj:j<(clm 8 d).length){l:List Pt}(c:CL (clm 8 d).sum ((clm 8 d).getD j 0) (fun x=>(SF 8 d x).getD j 0) 272 242 l):
  ∃ t9 t10 t11,zFU (R32 ns plan wd d S Ls s6 (.val (lnD l)) s8 s9 s10 s11 s12 s13 s14 s15 s16 s17)=.ok (.nx (R32 ns plan wd d S Ls s6 (.val (lnD l)) s8 t9 t10 t11 s12 s13 s14 s15 s16 s17)):=by
 have gs:=g.sum;have cj:=g.2.2 _ (Qi (bL hj));have zc:=c.sz ⋯ ⋯
 have cl:=c.len;erw[show nD [lnD l]=.ok (.int (l.length:Int)) by unfold lnD;rw[bLen_t,Qe],zEQ ∅ ∅ ⋯ ⋯];symm
 obtain⟨ρ',e',t9,t10,t11,rfl⟩:=zKA (g:=gName 9) (b:=zGf) (ds:=rng 1 ((l.length:Int)-1).toNat 1) (ρ:=R32 ns plan wd d S Ls s6 (.val (lnD l)) s8 s9 s10 s11 s12 s13 s14 s15 s16 s17) (fun i ρ=>∃ t9 t10 t11,ρ=R32 ns plan wd d S Ls s6 (.val (lnD l)) s8 t9 t10 t11 s12 s13 s14 s15 s16 s17) ⟨_,_,_,rfl⟩ (by
  rintro i e ρ he ⟨t9,t10,t11,rfl⟩
  obtain⟨hi,rfl⟩:=zFF he;have h1:i+1<l.length:=⋯
  have e1:l[i+1]?=some l[i+1]:=Qm h1;have e0:l[i]?=some l[i]:=Qm ⋯
  have i1:oIx (lnD l) (.int ((i:Int)+1))=.ok (dp l[i+1]):=pL ⋯ (by rw[show((i:Int)+1).toNat=i+1 by omega];exact e1)
  have i0:oIx (lnD l) (.int (i:Int))=.ok (dp l[i]):=pL ⋯ (by rw[Vd];exact e0)
  have m1:=Ui h1;have m0:=Ui (show i<l.length by omega)
  have z1:=zc _ m1;have z0:=zc _ m0;have p1:=c.pt m1;have p0:=c.pt m0;have asc':=Yt.mp c.ln.1.2 i (i+1) ⋯ h1 ⋯
  have d1:=c.den _ m1;have d0:=c.den _ m0;generalize l[i+1]=p at *;generalize l[i]=q at *;have st:=zSH g p0.2.1 (Qg asc'.1) p1.2.2.1 d0 d1 hj;rw[<-p1.1,<-p0.1] at st;have rn:0<=p.2-q.2:=by have:=asc'.2;grind
  rw[show(1:Int)+(i:Int)*1=(i:Int)+1 by omega];refine⟨R32 ns plan wd d S Ls s6 (.val (lnD l)) s8 (.val (.int ((i:Int)+1))) (.val (dq (p.1-q.1))) (.val (dq (p.2-q.2))) s12 s13 s14 s15 s16 s17,?_,_,_,_,rfl⟩
  erw[i1];symm;rw[show(i:Int)+1-1=(i:Int) by omega,i0];erw[vZ z1.1 z0.1 ∅,i1];symm;rw[show(i:Int)+1-1=(i:Int) by omega,i0];erw[vZ z1.2 z0.2 ∅,Jj (show ¬ (p.2-q.2).num<0 from Int.not_lt.mpr (Rat.num_nonneg.mpr rn))];symm;rw[rR (z1.1.sub z0.1) (z1.2.sub z0.2) ∅,Jj (V3.mpr st)]
  symm)
 rw[show(1:Int)=((1:Nat):Int) from rfl] at e';exact⟨t9,t10,t11,e'⟩
def zNq{ns:List Int}{plan wd:Int}{d:D}{S:Int}{Ls:List (List Pt)}{J:List Rat}{s6 s7 s8 s10 s11 s14 s15 s16 s17:Sl}(g:Gc 8 d)(lg:LLg (clm 8 d).sum (clm 8 d) (SF 8 d) 272 242 Ls)(hm:∀ y,y∈J ↔ ∃ l∈Ls,∃ p∈l,p.1=y)(ho:J.Pairwise (· < ·))(hb:∀ x∈J,0<=x/\x<=((clm 8 d).sum:Rat)/\(x.den:Int)<=2^272){k:Nat}(hk:k+1<J.length):
  ∃ t14 t15 t16 t17,zGg (R32 ns plan wd d S Ls s6 s7 s8 (.val (.int ((k:Int)+1))) s10 s11 (.val (.lst (J.map dq))) (.val (.lst (J.map fun x=>.lst ((SF 8 d x).map dq)))) s14 s15 s16 s17)=.ok (.nx (R32 ns plan wd d S Ls s6 s7 s8 (.val (.int ((k:Int)+1))) s10 s11 (.val (.lst (J.map dq))) (.val (.lst (J.map fun x=>.lst ((SF 8 d x).map dq)))) t14 t15 t16 t17)):=by
 have gs:=g.sum;have l12:=g.2.1;have e1:J[k+1]?=some J[k+1]:=Qm hk;have e0:J[k]?=some J[k]:=Qm ⋯
 have n1:J[((k:Int)+1).toNat]?=some J[k+1]:=by rw[show((k:Int)+1).toNat=k+1 by omega];exact e1
 have n0:J[(k:Int).toNat]?=some J[k]:=by rw[Vd];exact e0
 have ml:=fun j hj=>zPg (j:=j) lg hm ho e0 e1 hj (hb _ (Qi e0)).1 (hb _ (Qi e1)).2.1
 have i1:oIx (.lst (J.map dq)) (.int ((k:Int)+1))=.ok (dq J[k+1]):=kE ⋯ n1
 have i0:oIx (.lst (J.map dq)) (.int (k:Int))=.ok (dq J[k]):=kE ⋯ n0
 have g1:oIx (.lst (J.map fun x=>D.lst ((SF 8 d x).map dq))) (.int ((k:Int)+1))=.ok (.lst ((SF 8 d J[k+1]).map dq)):=kE (f:=fun x=>D.lst ((SF 8 d x).map dq)) ⋯ n1
 have g0:oIx (.lst (J.map fun x=>D.lst ((SF 8 d x).map dq))) (.int (k:Int))=.ok (.lst ((SF 8 d J[k]).map dq)):=kE (f:=fun x=>D.lst ((SF 8 d x).map dq)) ⋯ n0
 obtain⟨b0,b1,bd⟩:=hb _ (Qi e1);obtain⟨a0,a1,ad⟩:=hb _ (Qi e0);have lab:J[k]<J[k+1]:=mT ho (Vn k) e0 e1;generalize J[k+1]=b at *;generalize J[k]=a at *;have za:=mI a0 a1 ⋯ ad
 have zb:=mI b0 b1 ⋯ bd
 have eh:hf+hf=1:=by have:=pG 1;grind
 have dbl:hf*(a+b)+hf*(a+b)=a+b:=by rw[<-Rat.add_mul,eh,Wk]
 have md:=zNA ad bd;have zh:Sz 2 hf:=⟨∅,∅⟩
 obtain⟨em,sm⟩:=zDb g (x:=hf*(a+b)) (e:=545) (by grind) (by grind) md ∅
 have sa:=(zDb g a0 a1 ad ∅).2
 have sb:=(zDb g b0 b1 bd ∅).2
 have zs:∀ {x:Rat},0<=x->x<=((clm 8 d).sum:Rat)->(x.den:Int)<=2^272->Sh 8 d x (SF 8 d x)->∀ j,j<(clm 8 d).length->Sz 579 ((SF 8 d x).getD j 0):=fun {x} x0 x1 xd sh j hj=>by
  have y:=(lg.2 j hj).yd x 272 x0 x1 xd;have cj:=g.2.2 _ (Qi (bL hj));obtain⟨c0,c1⟩:Bc ((SF 8 d x).getD j 0) ((clm 8 d).getD j 0):=(zEp g sh x0 x1).1.at (by rw[qE g.1];exact hj)
  exact mI c0 c1 ⋯ y
 symm;rw[show(k:Int)+1-1=(k:Int) by omega,i0];erw[i1,yY za zb ∅,show dW [D.tup [D.int 1,D.int 2],dq (a+b)]=.ok (.v (dq (hf*(a+b)))) from wF zh (za.add zb) ∅,em];symm;rw[show(k:Int)+1-1=(k:Int) by omega,g0];erw[g1,zLl (xs:=(SF 8 d a).map dq) (ys:=(SF 8 d b).map dq) (zs:=(SF 8 d (hf*(a+b))).map dq) rfl rfl rfl];symm
 obtain⟨ρ',e',t15,t16,t17,rfl⟩:=zKA (g:=zGN (jR (gName 15) (jR (gName 16) (jR (gName 17) zGU)))) (b:=zFJ) (ds:=sJ ((SF 8 d a).map dq) ((SF 8 d b).map dq) ((SF 8 d (hf*(a+b))).map dq)) (ρ:=R32 ns plan wd d S Ls s6 s7 s8 (.val (.int ((k:Int)+1))) s10 s11 (.val (.lst (J.map dq))) (.val (.lst (J.map fun x=>.lst ((SF 8 d x).map dq)))) (.val (.lst ((SF 8 d (hf*(a+b))).map dq))) s15 s16 s17) (fun i ρ=>∃ t15 t16 t17,ρ=R32 ns plan wd d S Ls s6 s7 s8 (.val (.int ((k:Int)+1))) s10 s11 (.val (.lst (J.map dq))) (.val (.lst (J.map fun x=>.lst ((SF 8 d x).map dq)))) (.val (.lst ((SF 8 d (hf*(a+b))).map dq))) t15 t16 t17) ⟨_,_,_,rfl⟩ (by
  rintro i e ρ he ⟨t15,t16,t17,rfl⟩
  obtain⟨u,v,w,h1,h2,h3,rfl⟩:=zAu _ _ _ _ _ he
  have hi:i<(clm 8 d).length:=by
   have:=(Qy.mp h1).1
   rw[Qe,qE g.1] at this;exact this
  have at':∀ x:Rat,(SF 8 d x)[i]?=some ((SF 8 d x).getD i 0):=fun x=>by
   have:i<(SF 8 d x).length:=by rw[qE g.1];exact hi
   rw[Qv,Qm this];rfl
  rw[Qt,at'] at h1 h2 h3;cases h1;cases h2;cases h3
  refine⟨R32 ns plan wd d S Ls s6 s7 s8 (.val (.int ((k:Int)+1))) s10 s11 (.val (.lst (J.map dq))) (.val (.lst (J.map fun x=>.lst ((SF 8 d x).map dq)))) (.val (.lst ((SF 8 d (hf*(a+b))).map dq))) (.val (dq ((SF 8 d a).getD i 0))) (.val (dq ((SF 8 d b).getD i 0))) (.val (dq ((SF 8 d (hf*(a+b))).getD i 0))),?_,_,_,_,rfl⟩
  have y0:=zs a0 a1 ad sa i hi;have y1:=zs b0 b1 bd sb i hi;erw[yY y0 y1 ∅];symm;rw[show dW [D.tup [D.int 1,D.int 2],dq ((SF 8 d a).getD i 0+(SF 8 d b).getD i 0)]=.ok (.v (dq (hf*((SF 8 d a).getD i 0+(SF 8 d b).getD i 0)))) from wF zh (y0.add y1) ∅,ml i hi]
  symm)
 rw[e'];exact⟨_,_,_,_,rfl⟩
def law_true:∀ ns:List Int,ns.length<=63->Big ns->zPh [.lst (ns.map D.int)]=.ok (.v (.bl true)):=by
 intro ns hl hb;obtain⟨m,m1,m2⟩:=hb.at 0;unfold zPh;symm;rw[zAx ns 0 ∅,show((0:Int).toNat)=0 from rfl];generalize ns.getD 0 0=plan at m2;erw[zEe,zFH,zFH];symm;obtain⟨cs,ec,lc⟩:=zHl ns 1 (if decide (plan / 7 % 4=3)=true then 31 else 21) ∅ (by split<;>decide)
 obtain⟨d,ed,g⟩:=zCW (cs:=cs) (plan:=plan) (most:=if decide (plan / 7 % 4=3)=true then 12 else 8) ⋯ m2 m1 (by split<;>decide) (by split<;>decide)
 obtain⟨Ls,eL,lg⟩:=zH 8 10 d g ∅ ∅
 have gs:=g.sum;have l12:=g.2.1;have l1:=zBu g.1;have hS:(clm 8 d).sum<2^34:=⋯
 have ll:=lg.1;rw[ec,ed];symm;rw[wD 10 d (rC g.1 ∅) (by rw[oB (m:=10) g.1 ∅];omega),oB (m:=10) g.1 ∅];erw[eL,show oIx (.lst (Ls.map lnD)) (.int 0)=.ok (lnD (Ls.getD 0 [])) from zRk (j:=0) ⋯];symm;rw[yX ∅,show(1:Int).toNat=1 from rfl,<-U0];generalize (if decide (plan / 7 % 4=3)=true then (1:Int) else 0)=wd;refine kW (Q:=fun r=>r.bind fin=.ok (.v (.bl true))) (k:=zKs zAg) (fun i ρ=>∃(R:List Pt)(s7:Sl),ρ=R32 ns plan wd d (clm 8 d).sum Ls (.val (lnD R)) s7 .un .un .un .un .un .un .un .un .un .un/\SumI d (i+1) R) ⟨_,_,rfl,zJq g lg⟩ ?_ ?_
 ·rintro i e ρ he ⟨R,s7,rfl,si⟩
  have hi:i+1<Ls.length:=by
   have:=(Qy.mp he).1
   rw[Qe,Q9] at this;omega
  have ee:e=lnD (Ls.getD (i+1) []):=by
   rw[Qt,U1,Um 1 i,Qm hi] at he;rw[Qv,Qm hi];cases he;rfl
  subst ee;obtain⟨R',e',si'⟩:=zKQ g lg (j:=i+1) ⋯ si
  refine⟨R32 ns plan wd d (clm 8 d).sum Ls (.val (lnD R')) (.val (lnD (Ls.getD (i+1) []))) .un .un .un .un .un .un .un .un .un .un,?_,_,_,rfl,si'⟩
  erw[e'];symm
 ·rintro ρ ⟨R,s7,rfl,si⟩
  rw[Qe,Q9,show Ls.length-1+1=(clm 8 d).length by omega] at si;have eR:=zLE g si;have zR:=si.sz g;have lR:=si.len
  have lo:cG [.lst (R.map dp)]=.ok (.v (lnD R)):=by
   rw[kY (.inl rfl) (by have:=Qat 242 l12;omega) zR ∅ si.ln.1,zEF si.ln];rfl
  have dR:dep (lnD R)<=50:=by
   have:=zNJ [R]
   simp only[Qq,Xh,dep,depS] at this ⊢
   omega
  obtain⟨s8,st⟩:∃ s8:Sl,zAg (R32 ns plan wd d (clm 8 d).sum Ls (.val (lnD R)) s7 .un .un .un .un .un .un .un .un .un .un)=zFL (R32 ns plan wd d (clm 8 d).sum Ls (.val (lnD R)) s7 s8 .un .un .un .un .un .un .un .un .un):=by
   by_cases z:(clm 8 d).sum=0
   ·rw[Jk z] at eR
    have q:D.tup [D.tup [D.tup [D.int 0,D.int 1],D.tup [D.int 0,D.int 1]]]=lnD R:=by rw[eR];rfl
    symm;rw[Jj ⋯,zEe];symm;rw[zAw ∅,show List.take (Int.toNat 1) [D.tup [D.tup [D.int 0,D.int 1],D.tup [D.int 0,D.int 1]],D.tup [D.tup [D.int (clm 8 d).sum,D.int 1],D.tup [D.int (clm 8 d).sum,D.int 1]]]=[D.tup [D.tup [D.int 0,D.int 1],D.tup [D.int 0,D.int 1]]] from rfl,q,zAm dR];erw[show zBO [lnD R]=.ok (R.map dp) from rfl,lo,zAm dR];symm;exact⟨_,rfl⟩
   ·rw[Jl z] at eR
    have q:D.tup [D.tup [D.tup [D.int 0,D.int 1],D.tup [D.int 0,D.int 1]],D.tup [D.tup [D.int (clm 8 d).sum,D.int 1],D.tup [D.int (clm 8 d).sum,D.int 1]]]=lnD R:=by rw[eR];rfl
    symm;rw[J5 ⋯,zEe];symm;rw[zAw ∅,show List.take (Int.toNat 2) [D.tup [D.tup [D.int 0,D.int 1],D.tup [D.int 0,D.int 1]],D.tup [D.tup [D.int (clm 8 d).sum,D.int 1],D.tup [D.int (clm 8 d).sum,D.int 1]]]=[D.tup [D.tup [D.int 0,D.int 1],D.tup [D.int 0,D.int 1]],D.tup [D.tup [D.int (clm 8 d).sum,D.int 1],D.tup [D.int (clm 8 d).sum,D.int 1]]] from rfl,q,zAm dR];erw[show zBO [lnD R]=.ok (R.map dp) from rfl,lo,zAm dR];symm;exact⟨_,rfl⟩
  show(zAg _).bind fin=_
  rw[st];symm;refine kW (Q:=fun r=>r.bind fin=.ok (.v (.bl true))) (k:=zKs zAX) (fun i ρ=>∃ s7 s9 s10 s11:Sl,ρ=R32 ns plan wd d (clm 8 d).sum Ls (.val (lnD R)) s7 s8 s9 s10 s11 .un .un .un .un .un .un) ⟨_,_,_,_,rfl⟩ ?_ ?_
  ·rintro i e ρ he ⟨s7,s9,s10,s11,rfl⟩
   have hi:i<Ls.length:=by
    have:=(Qy.mp he).1
    rwa [Qe] at this
   have ee:e=lnD (Ls.getD i []):=by
    rw[Qt,Qm hi] at he;rw[Qv,Qm hi];cases he;rfl
   subst ee;obtain⟨t9,t10,t11,e'⟩:=zQG (ns:=ns) (plan:=plan) (wd:=wd) (S:=(clm 8 d).sum) (Ls:=Ls) (s6:=.val (lnD R)) (s8:=s8) (s9:=s9) (s10:=s10) (s11:=s11) (s12:=.un) (s13:=.un) (s14:=.un) (s15:=.un) (s16:=.un) (s17:=.un) g (j:=i) ⋯ (lg.2 i ⋯)
   have eg:gName 7 (lnD (Ls.getD i [])) (R32 ns plan wd d (clm 8 d).sum Ls (.val (lnD R)) s7 s8 s9 s10 s11 .un .un .un .un .un .un)=.ok (R32 ns plan wd d (clm 8 d).sum Ls (.val (lnD R)) (.val (lnD (Ls.getD i []))) s8 s9 s10 s11 .un .un .un .un .un .un):=by
    symm
   exact⟨R32 ns plan wd d (clm 8 d).sum Ls (.val (lnD R)) (.val (lnD (Ls.getD i []))) s8 t9 t10 t11 .un .un .un .un .un .un,by rw[eg,Res.ok_bind,e'],_,_,_,_,rfl⟩
  ·rintro ρ ⟨s7,s9,s10,s11,rfl⟩
   have zl:∀ l∈Ls,∃ j,j<(clm 8 d).length/\l=Ls.getD j []:=fun l hl=>by
    obtain⟨j,hj,rfl⟩:=Qan.mp hl;exact⟨j,⋯,by rw[Qv,Qm hj];rfl⟩
   obtain⟨J,eJ,hm,ho,lJ⟩:=zHa (Ls:=Ls) (n:=307) (k:=242) ∅ (fun l hl=>by
    obtain⟨j,hj,rfl⟩:=zl l hl;have c:=lg.2 j hj;have cj:=g.2.2 _ (Qi (bL hj))
    exact⟨c.len,fun p hp=>(c.sz hS ⋯ p hp).1⟩) ⋯
   have hb:∀ x∈J,0<=x/\x<=((clm 8 d).sum:Rat)/\(x.den:Int)<=2^272:=fun x hx=>by
    obtain⟨l,hl,p,hp,rfl⟩:=(hm x).mp hx;obtain⟨j,hj,rfl⟩:=zl l hl;have c:=lg.2 j hj;have q:=c.pt hp;exact⟨q.2.1,q.2.2.1,c.den p hp⟩
   have lJ':J.length<=5000:=⋯
   show(zAX _).bind fin=_
   erw[eJ];symm
   rw[dQ (u:=dq) (g:=fun x=>.lst ((SF 8 d x).map dq)) ⋯ (fun x hx=>by
    obtain⟨x0,x1,xd⟩:=hb x hx;erw[(zDb g x0 x1 xd ∅).1]
    symm)]
   erw[zEQ ∅ ∅ ⋯ ⋯];symm;refine kW (Q:=fun r=>r.bind fin=.ok (.v (.bl true))) (k:=zKs zGk) (fun i ρ=>∃ s9 s14 s15 s16 s17:Sl,ρ=R32 ns plan wd d (clm 8 d).sum Ls (.val (lnD R)) s7 s8 s9 s10 s11 (.val (.lst (J.map dq))) (.val (.lst (J.map fun x=>.lst ((SF 8 d x).map dq)))) s14 s15 s16 s17) ⟨_,_,_,_,_,rfl⟩ ?_ ?_
   ·rintro i e ρ he ⟨s9,s14,s15,s16,s17,rfl⟩
    obtain⟨hi,rfl⟩:=zFF he;obtain⟨t14,t15,t16,t17,e'⟩:=zNq (ns:=ns) (plan:=plan) (wd:=wd) (S:=(clm 8 d).sum) (s6:=.val (lnD R)) (s7:=s7) (s8:=s8) (s10:=s10) (s11:=s11) (s14:=s14) (s15:=s15) (s16:=s16) (s17:=s17) g lg hm ho hb (k:=i) ⋯
    rw[show(1:Int)+(i:Int)*1=(i:Int)+1 by omega];exact⟨_,e',_,_,_,_,_,rfl⟩
   ·rintro ρ ⟨s9,s14,s15,s16,s17,rfl⟩
    rfl
end Lw
namespace Lw
open PySem PySem.Spec PyProof.Rows L2 L3
local macro_rules | `(⋯)=>`(by (intro _ _ _ _ _ _ us hl; first | (obtain ⟨_,e⟩:=L3.ln1 hl;subst e;rfl) | (obtain ⟨_,_,e⟩:=L3.ln2 hl;subst e;rfl) | (obtain ⟨_,_,_,e⟩:=L3.ln3 hl;subst e;rfl) | (obtain ⟨_,_,_,_,e⟩:=L3.ln4 hl;subst e;rfl)))
def _root_.L3.CanM.mo{P:Jf}{w:Jg}{K:Fg_}{mg:Str->Option Ja}{base:Je}{j k:Nat}{x:Str}{ps:List Str}{m:Mir}(c:CanM P w K mg base j x ps m)(h:j<=k:=by decide):CanM P w K mg base k x ps m:=c.mono h
section
local macro_rules | `(∅)=>`(⟨rfl,rfl,rfl,by decide +kernel,rfl,by decide +kernel,by decide +kernel⟩)
def top(i:Nat):Ji:=PySem.Challenge.pw_catchhall_k32_whole_lines_sum_up.main.body.getD i (.Pass ⟨0,0,0,0⟩)
abbrev iI:Ji:=top 11
def cE:FnScope ["one","two","rest"] ["one","two"] (aF iI):=∅
abbrev zKt:Ji:=top 12
def zDL:FnScope ["top","bottom","divisor"] ["top","bottom"] (aF zKt):=∅
abbrev zEh:Ji:=top 13
def zLR:FnScope ["number"] ["number"] (aF zEh):=∅
abbrev zJE:Ji:=top 14
def zNT:FnScope ["one","two"] ["one","two"] (aF zJE):=∅
abbrev zEJ:Ji:=top 15
def zLW:FnScope ["one","two"] ["one","two"] (aF zEJ):=∅
abbrev zEl:Ji:=top 16
def zLI:FnScope ["one","two"] ["one","two"] (aF zEl):=∅
abbrev zJW:Ji:=top 17
def zPu:FnScope ["one","two"] ["one","two"] (aF zJW):=∅
abbrev zIz:Ji:=top 18
def zNZ:FnScope ["one","two"] ["one","two"] (aF zIz):=∅
abbrev zBj:Ji:=top 19
def zIl:FnScope ["one","two"] ["one","two"] (aF zBj):=∅
abbrev nV:Ji:=top 20
def zBy:FnScope ["amount","most"] ["amount","most"] (aF nV):=∅
abbrev iN:Ji:=top 21
def sA:FnScope ["amount","most"] ["amount","most"] (aF iN):=∅
abbrev iW:Ji:=top 22
def rB:FnScope ["some","bottom","each"] ["some"] (aF iW):=∅
abbrev zAJ:Ji:=top 27
def zKG:FnScope ["way","weights","claims"] ["way","weights","claims"] (aF zAJ):=∅
abbrev mV:Ji:=top 28
def zAG:FnScope ["way"] ["way"] (aF mV):=∅
abbrev jF:Ji:=top 29
def mH:FnScope ["claims","claim"] ["claims"] (aF jF):=∅
abbrev iJ:Ji:=top 30
def gK:FnScope ["way","weights","many","due","weight"] ["way","weights","many"] (aF iJ):=∅
abbrev kM:Ji:=top 31
def wL:FnScope ["way"] ["way"] (aF kM):=∅
abbrev zDW:Ji:=top 32
def zMg:FnScope ["way","weights","claims","catch"] ["way","weights","claims","catch"] (aF zDW):=∅
abbrev eD:Ji:=top 33
def fA:FnScope ["way","weights","claims","catch","most","lacking"] ["way","weights","claims","catch"] (aF eD):=∅
abbrev pF:Ji:=top 34
def fS:FnScope ["claims","catch","left","amounts","claim","amount"] ["claims","catch"] (aF pF):=∅
abbrev nX:Ji:=top 35
def cO:FnScope ["weights","claims","catch","left","weight","amounts","spot","by_weight"] ["weights","claims","catch"] (aF nX):=∅
abbrev lU:Ji:=top 36
def zCA:FnScope ["weights","claims"] ["weights","claims"] (aF lU):=∅
abbrev jV:Ji:=top 37
def iX:FnScope ["claims","catch","most","part"] ["claims","catch"] (aF jV):=∅
abbrev kH:Ji:=top 38
def lQ:FnScope ["claims","catch","ones"] ["claims","catch"] (aF kH):=∅
abbrev vO:Ji:=top 41
def zGB:FnScope ["custom"] ["custom"] (aF vO):=∅
abbrev zAn:Ji:=top 42
def zIh:FnScope ["custom"] ["custom"] (aF zAn):=∅
abbrev nT:Ji:=top 43
def zBB:FnScope ["custom"] ["custom"] (aF nT):=∅
abbrev wK:Ji:=top 44
def zGC:FnScope ["custom"] ["custom"] (aF wK):=∅
abbrev lH:Ji:=top 45
def jX:FnScope ["custom","claims","kid"] ["custom"] (aF lH):=∅
abbrev rW:Ji:=top 46
def zEA:FnScope ["custom"] ["custom"] (aF rW):=∅
abbrev jZ:Ji:=top 47
def qD:FnScope ["custom"] ["custom"] (aF jZ):=∅
abbrev zAz:Ji:=top 48
def zIK:FnScope ["custom","catch"] ["custom","catch"] (aF zAz):=∅
abbrev oD:Ji:=top 49
def gH:FnScope ["custom","catch","amounts","told","kid","amount"] ["custom","catch"] (aF oD):=∅
abbrev wN:Ji:=top 53
def sM:FnScope ["points","kept","point"] ["points"] (aF wN):=∅
abbrev nF:Ji:=top 54
def iV:FnScope ["points","spot","ahead","point"] ["points"] (aF nF):=∅
abbrev nO:Ji:=top 55
def fX:FnScope ["ahead","point","later","rise","later_rise","run","later_run"] ["ahead","point","later"] (aF nO):=∅
abbrev zBm:Ji:=top 56
def zHA:FnScope ["line"] ["line"] (aF zBm):=∅
abbrev zAN:Ji:=top 57
def zKx:FnScope ["line"] ["line"] (aF zAN):=∅
abbrev zDK:Ji:=top 58
def zLB:FnScope ["line","x"] ["line","x"] (aF zDK):=∅
abbrev iL:Ji:=top 59
def cD:FnScope ["line","axis","amount","low","high","middle"] ["line","axis","amount"] (aF iL):=∅
abbrev zOa:Ji:=top 60
def yV:FnScope ["line","axis","amount","other","spot","there","here","part"] ["line","axis","amount"] (aF zOa):=∅
abbrev uG:Ji:=top 61
def uT:FnScope ["one","two","joints"] ["one","two"] (aF uG):=∅
abbrev qY:Ji:=top 62
def nR:FnScope ["one","two","bends","joints"] ["one","two"] (aF qY):=∅
abbrev tX:Ji:=top 63
def zBU:FnScope ["line"] ["line"] (aF tX):=∅
abbrev zAr:Ji:=top 64
def kX:FnScope ["one","two","both","spot","x"] ["one","two"] (aF zAr):=∅
abbrev jQ:Ji:=top 66
def iF:FnScope ["way","weights","claims","joints","dealings"] ["way","weights","claims"] (aF jQ):=∅
abbrev qN:Ji:=top 67
def zGA:FnScope ["joints","dealings","spot"] ["joints","dealings","spot"] (aF qN):=∅
abbrev jO:Ji:=top 68
def iA:FnScope ["way","weights","claims","most","early"] ["way","weights","claims"] (aF jO):=∅
abbrev mX:Ji:=top 69
def fV:FnScope ["claims","filled","joints","claim"] ["claims"] (aF mX):=∅
abbrev lV:Ji:=top 70
def cB:FnScope ["weights","claims","filled","weight","levels","joints","spot"] ["weights","claims"] (aF lV):=∅
abbrev oE:Ji:=top 71
def uW:FnScope ["joints","most"] ["joints","most"] (aF oE):=∅
abbrev gO:Ji:=top 72
def gA:FnScope ["joints","kept","joint"] ["joints"] (aF gO):=∅
abbrev lC:Ji:=top 74
def fB:FnScope ["custom","ways","told","kid","way_line"] ["custom"] (aF lC):=∅
abbrev sH:Ji:=top 75
def wJ:FnScope ["claim","start"] ["claim"] (aF sH):=∅
abbrev lS:Ji:=top 77
def yB:FnScope ["script","k"] ["script","k"] (aF lS):=∅
abbrev sF:Ji:=top 78
def fE:FnScope ["top","bottom","one","other","rest"] ["top","bottom"] (aF sF):=∅
abbrev rX:Ji:=top 79
def zEM:FnScope ["one","two"] ["one","two"] (aF rX):=∅
abbrev pJ:Ji:=top 80
def zCY:FnScope ["one","two"] ["one","two"] (aF pJ):=∅
abbrev pH:Ji:=top 81
def zDo:FnScope ["one","two"] ["one","two"] (aF pH):=∅
abbrev sB:Ji:=top 82
def zDT:FnScope ["one","two"] ["one","two"] (aF sB):=∅
abbrev wH:Ji:=top 83
def zGL:FnScope ["cell","k"] ["cell","k"] (aF wH):=∅
abbrev oH:Ji:=top 84
def gN:FnScope ["kids","mix","plan","way","weights","great"] ["kids","mix","plan"] (aF oH):=∅
abbrev kZ:Ji:=top 85
def pB:FnScope ["custom"] ["custom"] (aF kZ):=∅
abbrev kC:Ji:=top 86
def cA:FnScope ["cells","plan","most","pile","many","k","mix","few"] ["cells","plan","most"] (aF kC):=∅
abbrev lN:Ji:=top 87
def jW:FnScope ["custom","told","kid"] ["custom"] (aF lN):=∅
abbrev nS:Ji:=top 88
def eN:FnScope ["lines","joints","line","point","at"] ["lines"] (aF nS):=∅
abbrev tO:Ji:=top 89
def eQ:FnScope ["script","plan","wide","custom","whole_v","lines","both","line","due","k","run","rise","joints","got","middle_got","one","other","half"] ["script"] (aF tO):=∅
end
structure Bt (mg:Str->Option Ja):Prop where
 abs:mg "abs" = none
 sorted:mg "sorted" = none
 range:mg "range" = none
 len:mg "len" = none
 sum:mg "sum" = none
 zip:mg "zip" = none
 tuple:mg "tuple" = none
 reversed:mg "reversed" = none
 max:mg "max" = none
 int:mg "int" = none
 list:mg "list" = none
structure Kt (K:PySem.W.Frag):Prop where
structure Ct (K:PySem.W.Frag) (mg:Str->Option Ja):Prop where
 ACROSS:∃ v u,mg "ACROSS" = some u/\cX v u/\IsD K (fun _=>none) v d_ACROSS
 BOAT:∃ v u,mg "BOAT" = some u/\cX v u/\IsD K (fun _=>none) v d_BOAT
 HALF:∃ v u,mg "HALF" = some u/\cX v u/\IsD K (fun _=>none) v d_HALF
 NOUGHT:∃ v u,mg "NOUGHT" = some u/\cX v u/\IsD K (fun _=>none) v eZ
 UP:∃ v u,mg "UP" = some u/\cX v u/\IsD K (fun _=>none) v d_UP
 WEIGHTED:∃ v u,mg "WEIGHTED" = some u/\cX v u/\IsD K (fun _=>none) v d_WEIGHTED
 CONTRARY:∃ a,IsTab K mg "CONTRARY" aT a
structure Rt (K:PySem.W.Frag) (mg:Str->Option Ja):Prop where
 BadClaim:∃ C,Err K mg "BadClaim" C
 BadLine:∃ C,Err K mg "BadLine" C
 BadWay:∃ C,Err K mg "BadWay" C
 BadWeights:∃ C,Err K mg "BadWeights" C
 NoFraction:∃ C,Err K mg "NoFraction" C
 Outside:∃ C,Err K mg "Outside" C
 Unlike:∃ C,Err K mg "Unlike" C
structure Et (K:PySem.W.Frag) (mg:Str->Option Ja):Prop where
def zSS{K:Fg_}{h:Je}{mg:Str->Option Ja}{t0 t1 t2 t3 t4 t5 t6 t7 t8:Tok}{pHALF0:Jc}{o_pHALF0:Option Jc}{n_pHALF0:Nat}{s_pHALF0:Array (Option Ja)}{pNOUGHT1:Jc}{o_pNOUGHT1:Option Jc}{n_pNOUGHT1:Nat}{s_pNOUGHT1:Array (Option Ja)}{pWEIGHTED2:Jc}{o_pWEIGHTED2:Option Jc}{n_pWEIGHTED2:Nat}{s_pWEIGHTED2:Array (Option Ja)}{a_CONTRARY:Jc}(X:K.In h)(G:h.Ns mainGlobals mg)(n_ACROSS:PySem.W.nsIn K mainGlobals "ACROSS" = some (some (.int (0) t0)))(n_BOAT:PySem.W.nsIn K mainGlobals "BOAT" = some (some (.str "boat" t1)))(n_HALF:PySem.W.nsIn K mainGlobals "HALF" = some (some (.ref pHALF0)))(pHALF0_l:K.lookup pHALF0=some ⟨.type "tuple", o_pHALF0,.seq #[.int (1) t2,.int (2) t3] n_pHALF0,s_pHALF0⟩)(n_NOUGHT:PySem.W.nsIn K mainGlobals "NOUGHT" = some (some (.ref pNOUGHT1)))(pNOUGHT1_l:K.lookup pNOUGHT1=some ⟨.type "tuple", o_pNOUGHT1,.seq #[.int (0) t4,.int (1) t5] n_pNOUGHT1,s_pNOUGHT1⟩)(n_UP:PySem.W.nsIn K mainGlobals "UP" = some (some (.int (1) t6)))(n_WEIGHTED:PySem.W.nsIn K mainGlobals "WEIGHTED" = some (some (.ref pWEIGHTED2)))(pWEIGHTED2_l:K.lookup pWEIGHTED2=some ⟨.type "tuple", o_pWEIGHTED2,.seq #[.str "even" t7,.str "lack" t8] n_pWEIGHTED2,s_pWEIGHTED2⟩)(n_CONTRARY:PySem.W.nsIn K mainGlobals "CONTRARY" = some (some (.ref a_CONTRARY)))(aT:PyProof.Rows.KTD.tabLook (PyProof.Rows.KTD.datLooks fun a=>K.lookup a) (fun a=>K.lookup a) a_CONTRARY (zKP Lw.aT)=true):Ct K mg:=⟨⟨.int (0),_,V5 X G n_ACROSS,⟨_,rfl⟩,(.int _)⟩,⟨.str "boat", _,V5 X G n_BOAT,⟨_,rfl⟩,(.str _)⟩,⟨.ref pHALF0,_,V5 X G n_HALF,rfl,(.tup (.inr ⟨_,_,_,pHALF0_l,rfl,rfl,Qab rfl,(.cons (show cX (.int (1)) _ from ⟨_,rfl⟩) (.cons (show cX (.int (2)) _ from ⟨_,rfl⟩) .nil))⟩) (.cons (.int _) (.cons (.int _) .nil)))⟩,⟨.ref pNOUGHT1,_,V5 X G n_NOUGHT,rfl,(.tup (.inr ⟨_,_,_,pNOUGHT1_l,rfl,rfl,Qab rfl,(.cons (show cX (.int (0)) _ from ⟨_,rfl⟩) (.cons (show cX (.int (1)) _ from ⟨_,rfl⟩) .nil))⟩) (.cons (.int _) (.cons (.int _) .nil)))⟩,⟨.int (1),_,V5 X G n_UP,⟨_,rfl⟩,(.int _)⟩,⟨.ref pWEIGHTED2,_,V5 X G n_WEIGHTED,rfl,(.tup (.inr ⟨_,_,_,pWEIGHTED2_l,rfl,rfl,Qab rfl,(.cons (show cX (.str "even") _ from ⟨_,rfl⟩) (.cons (show cX (.str "lack") _ from ⟨_,rfl⟩) .nil))⟩) (.cons (.str _) (.cons (.str _) .nil)))⟩,⟨a_CONTRARY,V5 X G n_CONTRARY,fun h X=>PyProof.Rows.KTD.text_of_look X aT⟩⟩
def zSy{K:Fg_}{h:Je}{mg:Str->Option Ja}{Mi:Jc}{Mj:Jc}{Mk:Jc}{Ml:Jc}{Mm:Jc}{Mn:Jc}{Mo:Jc}(X:K.In h)(G:h.Ns mainGlobals mg)(n_BadClaim:PySem.W.nsIn K mainGlobals "BadClaim" = some (some (.ref Mi)))(x_BadClaim:PySem.W.excIn K Mi [.type "ValueError", .type "Exception", .type "BaseException", .type "object"] "ValueError.__new__" = true)(n_BadLine:PySem.W.nsIn K mainGlobals "BadLine" = some (some (.ref Mj)))(x_BadLine:PySem.W.excIn K Mj [.type "ValueError", .type "Exception", .type "BaseException", .type "object"] "ValueError.__new__" = true)(n_BadWay:PySem.W.nsIn K mainGlobals "BadWay" = some (some (.ref Mk)))(x_BadWay:PySem.W.excIn K Mk [.type "ValueError", .type "Exception", .type "BaseException", .type "object"] "ValueError.__new__" = true)(n_BadWeights:PySem.W.nsIn K mainGlobals "BadWeights" = some (some (.ref Ml)))(x_BadWeights:PySem.W.excIn K Ml [.type "ValueError", .type "Exception", .type "BaseException", .type "object"] "ValueError.__new__" = true)(n_NoFraction:PySem.W.nsIn K mainGlobals "NoFraction" = some (some (.ref Mm)))(x_NoFraction:PySem.W.excIn K Mm [.type "ValueError", .type "Exception", .type "BaseException", .type "object"] "ValueError.__new__" = true)(n_Outside:PySem.W.nsIn K mainGlobals "Outside" = some (some (.ref Mn)))(x_Outside:PySem.W.excIn K Mn [.type "ValueError", .type "Exception", .type "BaseException", .type "object"] "ValueError.__new__" = true)(n_Unlike:PySem.W.nsIn K mainGlobals "Unlike" = some (some (.ref Mo)))(x_Unlike:PySem.W.excIn K Mo [.type "ValueError", .type "Exception", .type "BaseException", .type "object"] "ValueError.__new__" = true):Rt K mg:=⟨vW X G n_BadClaim x_BadClaim Yo,vW X G n_BadLine x_BadLine Yo,vW X G n_BadWay x_BadWay Yo,vW X G n_BadWeights x_BadWeights Yo,vW X G n_NoFraction x_NoFraction Yo,vW X G n_Outside x_Outside Yo,vW X G n_Unlike x_Unlike Yo⟩
def zSP{K:Fg_}{h:Je}{mg:Str->Option Ja}(X:K.In h)(G:h.Ns mainGlobals mg):Et K mg:=⟨⟩
section
variable(P:Jf)(w:Jg){K:Fg_}{mg:Str->Option Ja}(base:Je)(k:Nat){f:Jc}{fd:FuncData}
set_option hygiene false in
local macro_rules | `(∅)=>`(CanM P w K mg base)
def zJi:RankDef iW:=⟨rfl,rfl,rfl,rfl,rfl,fun _ _ _=>⟨_,_,rfl,rfl,rfl⟩⟩
section
variable(B:Bt mg)(KT:Kt K)(C:Ct K mg)(R:Rt K mg)(ET:Et K mg)
variable(Qay:∅ k "common_divisor" ["one","two"] dG)(Qcl:∅ k "less" ["one","two"] fQ)(Qa7:∅ k "refuse_way" ["way"] eG)(Qaz:∅ k "refuse_claims" ["claims"] dZ)(Qaw:∅ k "refuse_weights" ["way","weights","many"] bO)(Qb1:∅ k "is_boat" ["custom"] bZ)(Qci:∅ k "whole" ["number"] bH)(Qbt:∅ k "_law_made" ["top","bottom"] eK)(Qbp:∅ k "_law_less" ["one","two"] fP)(Qcj:∅ k "made" ["top","bottom"] jJ)(Qa8:∅ k "is_outside" ["amount","most"] eE)(Qcd:∅ k "lesser" ["one","two"] lO)(Qcf:∅ k "minus" ["one","two"] cM)(Qcc:CanR P w K mg base k kD)(Qbg:∅ k "levels_of" ["weights","claims"] eA)(Qcm:∅ k "over" ["one","two"] qH)(Qcg:∅ k "times" ["one","two"] cZ)(Qav:∅ k "first_reaching" ["line","axis","amount"] dE)(Qck:∅ k "plus" ["one","two"] kF)(Qbb:∅ k "even_dealt" ["weights","claims","catch"] cY)(Qa6:∅ k "refuse_bad" ["points"] iE)(Qbe:∅ k "is_between" ["ahead","point","later"] hZ)(Qax:∅ k "refuse_outside" ["amount","most"] bB)(Qco:∅ k "met" ["line","axis","amount"] uX)(Qb6:∅ k "length" ["line"] hG)(Qca:∅ k "merged" ["one","two"] lM)(Qby:∅ k "line_of" ["points"] cG)(Qb5:∅ k "places" ["line"] iU)(Qce:∅ k "value" ["line","x"] lF)(Qb9:∅ k "height" ["line"] rE)(Qbw:∅ k "mirrored" ["joints","most"] gX)(Qa4:∅ k "row_joints" ["claims"] fK)(Qa2:∅ k "even_joints" ["weights","claims"] dC)(Qa1:∅ k "contrary_way" ["way"] dJ)(Qbm:∅ k "joints_of" ["way","weights","claims"] (bI 2))(Qbk:∅ k "row_dealt" ["claims","catch"] gI)(Qbd:∅ k "part_dealt" ["claims","catch"] fN)(Qbf:∅ k "half_dealt" ["claims","catch"] fM)(Qa0:∅ k "rightly_dealt" ["way","weights","claims","catch"] (aN 2))(Qb8:∅ k "looked" ["way","weights","claims"] lZ)(Qau:∅ k "without_doubles" ["joints"] cV)(Qb0:∅ k "line_at" ["joints","dealings","spot"] nU)(Qbq:∅ k "_law_deep" ["custom"] (dH 10))(Qbh:∅ k "_law_boats" ["custom"] (gT 10))(Qbx:∅ k "_law_knot" ["kids","mix","plan"] eO)(Qb2:∅ k "_law_mix" ["cell","k"] nM)(Qbz:∅ k "kids_of" ["custom"] cT)(Qbi:∅ k "claims_of" ["custom"] (gW 10))(Qbr:∅ k "claim_of" ["custom"] dL)(Qch:∅ k "dealt" ["way","weights","claims","catch"] rM)(Qb4:∅ k "way_of" ["custom"] iR)(Qba:∅ k "weights_of" ["custom"] cP)(Qa9:∅ k "kid_claims" ["custom"] cN)(Qbo:∅ k "dealt_on" ["custom","catch"] (fT 10))(Qbl:∅ k "way_lines" ["way","weights","claims"] gM)(Qbu:∅ k "straight" ["claim"] gU)(Qcb:∅ k "behind" ["one","two"] gY)(Qbv:∅ k "lines_of" ["custom"] (fO 10))(Qa3:∅ k "_law_cell_at" ["script","k"] gD)(Qbc:∅ k "_law_custom" ["cells","plan","most"] hU)(Qa5:∅ k "_law_joints" ["lines"] iH)(Qb7:∅ k "sum_of" ["one","two"] oF)(Qb3:∅ k "shares" ["custom","catch"] lK)(Qbn:∅ k "_law_minus" ["one","two"] gJ)(Qbj:∅ k "_law_times" ["one","two"] dW)(Qbs:∅ k "_law_plus" ["one","two"] jA)
def rN(F:Fn K mg "common_divisor" iI ["one","two"] f fd):∅ (k+1) "common_divisor" ["one","two"] dG:=
  eV F cE fun W WR=>(aD (s_z 0 cE.nd (aU uH zFZ rfl B.abs Me (bD 0)))
 (aD (s_z 1 cE.nd (aU uH zFZ rfl B.abs Me (bD 1)))
 (aD (vG W.own (tst (neA W.u) zLq (aM 1) bQ (bA _)) (aD (s_z 2 cE.nd (aW fJ pT (aM 0) (aM 1)))
 (aD (s_z 0 cE.nd (aM 1))
 (aH (s_z 1 cE.nd (aM 2))))))
 (aH (cI (aM 0))))))
def zLN(F:Fn K mg "whole" zEh ["number"] f fd):∅ (k+1) "whole" ["number"] bH:=
 eV F zLR fun W WR=>(aH (cI (dS (aA (aM 0) (aA bQ aJ cH) aI))))
def zOe(F:Fn K mg "less" zIz ["one","two"] f fd):∅ (k+1) "less" ["one","two"] fQ:=
 eV F zNZ fun W WR=>(aH (cI (zI pS zEW (aW bT iD (fR 0) (fR 1)) (aW bT iD (fR 1) (fR 0)) (bA _))))
def zJZ(F:Fn K mg "ranked" iW ["some"] f fd){T:Jc}(hT:qG K mg T)(hB:BMn base mg):CanR P w K mg base (k+1) kD:=
 zPf F rB zJi hT hB B.sorted B.range B.len rfl fun cdv A outer s H E G W WR=>⟨(s_z 1 rB.nd bQ),(kI W.own W.calm (gP (aM 0)) (g_z 2 rB.nd) bG (aH (s_z 1 rB.nd (aW bT iD (aM 1) (fR 2)))))⟩
def zBK(F:Fn K mg "refuse_way" mV ["way"] f fd):∅ (k+1) "refuse_way" ["way"] eG:=
 eV F zAG fun W WR=>(aH (jS (zMe C.CONTRARY.choose_spec rfl (aM 0) (by with_unfolding_all rfl)) (aH (gQ W WR R.BadWay rfl zEo)) bK))
def tP(F:Fn K mg "refuse_claims" jF ["claims"] f fd):∅ (k+1) "refuse_claims" ["claims"] dZ:=
  eV F mH fun W WR=>(aD (jS (tst (eqA W.u) uA (aU aQ eP rfl B.len Q6 (bD 0)) bQ (bA _)) (aH (gQ W WR R.BadClaim rfl zEo)) bK)
 (aH (kI W.own W.calm (gP (aM 0)) (g_z 1 mH.nd) bG (aH (jS (tst pS zEW (aM 1) bQ (bA _)) (aH (gQ W WR R.BadClaim rfl zEo)) bK)))))
def sN(F:Fn K mg "refuse_weights" iJ ["way","weights","many"] f fd):∅ (k+1) "refuse_weights" ["way","weights","many"] bO:=
  eV F gK fun W WR=>(aD (s_z 3 gK.nd (zOv (tst (inA W.u) zTd (aM 0) (bM rfl C.WEIGHTED) (by with_unfolding_all rfl)) (aM 2) bQ))
 (aD (jS (tst (neA W.u) zLq (aU aQ eP rfl B.len Q6 (bD 1)) (aM 3) (bA _)) (aH (gQ W WR R.BadWeights rfl zEo)) bK)
 (aH (kI W.own W.calm (gP (aM 1)) (g_z 4 gK.nd) bG (aH (jS (PWd.pt (zQd (tst pS zEW (aM 4) bQ (bA _)) (zHG (tst zLO zSb (aM 4) (aW zAB zLD bQ bQ) (bA _))))) (aH (gQ W WR R.BadWeights rfl zEo)) bK))))))
def zHg(F:Fn K mg "is_boat" vO ["custom"] f fd):∅ (k+1) "is_boat" ["custom"] bZ:=
 eV F zGB fun W WR=>(aH (cI (zI (eqA W.u) uA (fR 0) (bM rfl C.BOAT) (bA _))))
def zJz(F:Fn K mg "way_of" zAn ["custom"] f fd):∅ (k+1) "way_of" ["custom"] iR:=
 eV F zIh fun W WR=>(aH (cI (fR 0)))
def zBI(F:Fn K mg "weights_of" nT ["custom"] f fd):∅ (k+1) "weights_of" ["custom"] cP:=
 eV F zBB fun W WR=>(aH (cI (fR 0)))
def zJO(F:Fn K mg "length" zBm ["line"] f fd):∅ (k+1) "length" ["line"] hG:=
 eV F zHA fun W WR=>(aH (cI (eU bE oV (eU bE oV (aM 0) (qO bQ) (fun _ _=>rfl)) (bM rfl C.ACROSS) (fun _ _=>rfl))))
def zIN(F:Fn K mg "height" zAN ["line"] f fd):∅ (k+1) "height" ["line"] rE:=
 eV F zKx fun W WR=>(aH (cI (eU bE oV (eU bE oV (aM 0) (qO bQ) (fun _ _=>rfl)) (bM rfl C.UP) (fun _ _=>rfl))))
def zKz(F:Fn K mg "places" tX ["line"] f fd):∅ (k+1) "places" ["line"] iU:=
 eV F zBU fun W WR=>(aH (dP (eI W zBU.nd rfl (sc:=aF tX) rfl rfl (by decide +kernel) (gP (aM 0)) (fun C2 s2 H2 fp2 G W=>⟨iP,(eU bE oV (aM 1) (bM rfl C.ACROSS) (fun _ _=>rfl))⟩))))
def yO(F:Fn K mg "_law_cell_at" lS ["script","k"] f fd):∅ (k+1) "_law_cell_at" ["script","k"] gD:=
  eV F yB fun W WR=>(aD (jS (tst pS zEW (aM 1) (aU aQ eP rfl B.len Q6 (bD 0)) (bA _)) (aH (cI (oM (aM 0) 1))) bK)
 (aH (cI bQ)))
def zEy(F:Fn K mg "_law_made" sF ["top","bottom"] f fd):∅ (k+1) "_law_made" ["top","bottom"] eK:=
  eV F fE fun W WR=>(aD (s_z 2 fE.nd (aU uH zFZ rfl B.abs Me (bD 0)))
 (aD (s_z 3 fE.nd (aU uH zFZ rfl B.abs Me (bD 1)))
 (aD (vG W.own (tst zLO zSb (aM 3) bQ (bA _)) (aD (s_z 4 fE.nd (aW fJ pT (aM 2) (aM 3)))
 (aD (s_z 2 fE.nd (aM 3))
 (aH (s_z 3 fE.nd (aM 4))))))
 (aD (jS (tst pS zEW (aM 1) bQ (bA _)) (aH (s_z 2 fE.nd (aW mZ uM bQ (aM 2)))) bK)
 (aH (cI (dS (aA (aW dO nN (aM 0) (aM 2)) (aA (aW dO nN (aM 1) (aM 2)) aJ bJ) bJ))))))))
def zEY(F:Fn K mg "_law_less" sB ["one","two"] f fd):∅ (k+1) "_law_less" ["one","two"] fP:=
 eV F zDT fun W WR=>(aH (cI (zI pS zEW (aW bT iD (fR 0) (fR 1)) (aW bT iD (fR 1) (fR 0)) (bA _))))
def zHr(F:Fn K mg "_law_mix" wH ["cell","k"] f fd):∅ (k+1) "_law_mix" ["cell","k"] nM:=
 eV F zGL fun W WR=>(aH (cI (aW fJ pT (aW gB qB (aW gB qB (aW bT iD (aM 0) bQ) (aW bT iD bQ (aM 1))) bQ) bQ)))
def zDR(F:Fn K mg "_law_knot" oH ["kids","mix","plan"] f fd):∅ (k+1) "_law_knot" ["kids","mix","plan"] eO:=
  eV F gN fun W WR=>(aD (s_z 3 gN.nd (eU bE oV (PEf.d (cK (aA (tN gC fun _=>.str _) (aA (tN gC fun _=>.str _) (aA (tN gC fun _=>.str _) (aA (tN gC fun _=>.str _) (aA (tN gC fun _=>.str _) zEo cH) cH) cH) cH) cH))) (aW fJ pT (aW dO nN (aM 1) bQ) bQ) (fun _ _=>rfl)))
 (aD (s_z 4 gN.nd (dS aJ))
 (aD (jS (tst (inA W.u) zTd (aM 3) (dS (aA (tN gC fun _=>.str _) zEo cH)) (by with_unfolding_all rfl)) (aD (s_z 5 gN.nd (eU bE oV (PEf.d (cK (aA bQ (aA (aW zAB zLD bQ bQ) aJ bJ) cH))) (aW dO nN (aW fJ pT (aW dO nN (aM 2) bQ) bQ) bQ) (fun _ _=>rfl)))
 (aH (s_z 4 gN.nd (nK lX zHE rfl B.tuple Mf (aA (PEf.d (eI W gN.nd rfl (sc:=aF oH) rfl rfl (by decide +kernel) (zIH rfl B.range (aA (aU aQ eP rfl B.len Q6 (bD 0)) aJ aK)) (fun C2 s2 H2 fp2 G W=>⟨iP,(aW gB qB bQ (aW fJ pT (aW dO nN (aW fJ pT (aW zAB zLD (aW gB qB (aW gB qB (aM 1) (aW bT iD bQ (aM 6))) bQ) bQ) bQ) bQ) (aM 5)))⟩))) aJ))))) bK)
 (aH (cI (dS (aA (aM 3) (aA (aM 4) (aA (nK lX zHE rfl B.tuple Mf (bD 0)) aJ aK) aI) aI)))))))
def zPw(F:Fn K mg "made" zKt ["top","bottom"] f fd):∅ (k+1) "made" ["top","bottom"] jJ:=
  eV F zDL fun W WR=>(aD (jS (tst (eqA W.u) uA (aM 1) bQ (bA _)) (aH (gQ W WR R.NoFraction rfl zEo)) bK)
 (aD (s_z 2 zDL.nd (aG W Qay rfl (aA (aM 0) (bD 1) aI)))
 (aD (jS (tst pS zEW (aM 1) bQ (bA _)) (aH (s_z 2 zDL.nd (qO (aM 2)))) bK)
 (aH (cI (dS (aA (aW dO nN (aM 0) (aM 2)) (aA (aW dO nN (aM 1) (aM 2)) aJ bJ) bJ)))))))
def zIU(F:Fn K mg "lesser" zBj ["one","two"] f fd):∅ (k+1) "lesser" ["one","two"] lO:=
 eV F zIl fun W WR=>(aH (cI (zOv (zER (aG W Qcl rfl (aA (aM 0) (bD 1) aI))) (aM 0) (aM 1))))
def zAd(F:Fn K mg "is_outside" nV ["amount","most"] f fd):∅ (k+1) "is_outside" ["amount","most"] eE:=
 eV F zBy fun W WR=>(aH (cI (zSt (aG W Qcl rfl (aA (aM 0) (aA (bM rfl C.NOUGHT) aJ aI) aI)) (zQo (aG W Qcl rfl (aA (aM 1) (bD 0) aI))))))
def zKa(F:Fn K mg "looked" zAJ ["way","weights","claims"] f fd):∅ (k+1) "looked" ["way","weights","claims"] lZ:=
  eV F zKG fun W WR=>(aD (oT (aG W Qa7 rfl (bD 0)))
 (aD (oT (aG W Qaz rfl (bD 2)))
 (aH (oT (aG W Qaw rfl (aA (aM 0) (aA (aM 1) (aA (aU aQ eP rfl B.len Q6 (bD 2)) aJ aK) aI) aI))))))
def wG(F:Fn K mg "contrary_way" kM ["way"] f fd):∅ (k+1) "contrary_way" ["way"] dJ:=
  eV F wL fun W WR=>(aD (oT (aG W Qa7 rfl (bD 0)))
 (aH (cI (zNg C.CONTRARY.choose_spec rfl (aM 0) (fun _ _=>rfl)))))
def zGX(F:Fn K mg "kids_of" wK ["custom"] f fd):∅ (k+1) "kids_of" ["custom"] cT:=
 eV F zGC fun W WR=>(aH (cI (zOv (zER (aG W Qb1 rfl (bD 0))) (dS aJ) (fR 0))))
def zAe(F:Fn K mg "refuse_bad" nF ["points"] f fd):∅ (k+1) "refuse_bad" ["points"] iE:=
  eV F iV fun W WR=>(aD (jS (tst (eqA W.u) uA (aU aQ eP rfl B.len Q6 (bD 0)) bQ (bA _)) (aH (gQ W WR R.BadLine rfl zEo)) bK)
 (aD (jS (tst (neA W.u) zLq (fR 0) (dS (aA (bM rfl C.NOUGHT) (aA (bM rfl C.NOUGHT) aJ aI) aI)) (bA _)) (aH (gQ W WR R.BadLine rfl zEo)) bK)
 (aH (kI W.own W.calm (zJY rfl B.range (aA bQ (aA (aU aQ eP rfl B.len Q6 (bD 0)) aJ aK) cH)) (g_z 1 iV.nd) bG (aD (s_z 2 iV.nd (eU bE oV (aM 0) (aW mZ uM (aM 1) bQ) (fun _ _=>rfl)))
 (aD (s_z 3 iV.nd (oM (aM 0) 1))
 (aD (jS (zTv (zER (aG W Qcl rfl (aA (eU bE oV (aM 2) (bM rfl C.ACROSS) (fun _ _=>rfl)) (aA (eU bE oV (aM 3) (bM rfl C.ACROSS) (fun _ _=>rfl)) aJ aP) aP)))) (aH (gQ W WR R.BadLine rfl zEo)) bK)
 (aH (jS (zER (aG W Qcl rfl (aA (eU bE oV (aM 3) (bM rfl C.UP) (fun _ _=>rfl)) (aA (eU bE oV (aM 2) (bM rfl C.UP) (fun _ _=>rfl)) aJ aP) aP))) (aH (gQ W WR R.BadLine rfl zEo)) bK)))))))))
def sO(F:Fn K mg "first_reaching" iL ["line","axis","amount"] f fd):∅ (k+1) "first_reaching" ["line","axis","amount"] dE:=
  eV F cD fun W WR=>(aD (s_z 3 cD.nd bQ)
 (aD (s_z 4 cD.nd (aW mZ uM (aU aQ eP rfl B.len Q6 (bD 0)) bQ))
 (aD (vG W.own (tst pS zEW (aM 3) (aM 4) (bA _)) (aD (s_z 5 cD.nd (aW dO nN (aW gB qB (aM 3) (aM 4)) bQ))
 (aH (jS (zER (aG W Qcl rfl (aA (oM (oM (aM 0) 5) 1) (bD 2) aP))) (aH (s_z 3 cD.nd (aW gB qB (aM 5) bQ))) (aH (s_z 4 cD.nd (aM 5)))))))
 (aH (cI (aM 3))))))
def zJo(F:Fn K mg "merged" zAr ["one","two"] f fd):∅ (k+1) "merged" ["one","two"] lM:=
  eV F kX fun W WR=>(aD (qS (i:=2) kX.nd rfl (Or.inl rfl) (cK aJ))
 (aD (s_z 3 kX.nd bQ)
 (aD (kI W.own W.calm (gP (aM 0)) (g_z 4 kX.nd) bG (aD (vG W.own (PWd.pt (zHe (tst pS zEW (aM 3) (aU aQ eP rfl B.len Q6 (bD 1)) (bA _)) (zM (zER (aG W Qcl rfl (aA (oM (aM 1) 3) (bD 4) aP)))))) (aD (zCr (i:=2) (pv 2) (oM (aM 1) 3))
 (aH (zGG (i:=3) kX.nd rfl (Or.inl rfl) bQ zGl zBw uD))))
 (aD (jS (PWd.pt (zHe (tst pS zEW (aM 3) (aU aQ eP rfl B.len Q6 (bD 1)) (bA _)) (zM (tst (eqA W.u) uA (oM (aM 1) 3) (aM 4) (bA _))))) (aH (zGG (i:=3) kX.nd rfl (Or.inl rfl) bQ zGl zBw uD)) bK)
 (aH (zCr (i:=2) (pv 2) (aM 4))))))
 (aD (zIE (i:=2) (pv 2) (lE (aM 1) (mD (aM 3)) oW))
 (aH (fY 2 (pv 2)))))))
def zBe(F:Fn K mg "row_joints" mX ["claims"] f fd):∅ (k+1) "row_joints" ["claims"] fK:=
  eV F fV fun W WR=>(aD (s_z 1 fV.nd bQ)
 (aD (qS (i:=2) fV.nd rfl (Or.inl rfl) (cK (aA (bM rfl C.NOUGHT) aJ aI)))
 (aD (kI W.own W.calm (gP (aM 0)) (g_z 3 fV.nd) bG (aD (zGG (i:=1) fV.nd rfl (Or.inl rfl) (aM 3) zGl zBw uD)
 (aH (zCr (i:=2) (pv 2) (aG W Qci rfl (bD 1))))))
 (aH (fY 2 (pv 2))))))
def rA(F:Fn K mg "without_doubles" gO ["joints"] f fd):∅ (k+1) "without_doubles" ["joints"] cV:=
  eV F gA fun W WR=>(aD (qS (i:=1) gA.nd rfl (Or.inl rfl) (lE (aM 0) oW (mD bQ)))
 (aD (kI W.own W.calm (gP (aM 0)) (g_z 2 gA.nd) bG (aH (jS (PTd.frz (zER (aG W Qcl rfl (aA (eU bE oV (aM 1) (qO bQ) (fun _ _=>rfl)) (bD 2) aP)))) (aH (zCr (i:=1) (pv 1) (aM 2))) bK)))
 (aH (fY 1 (pv 1)))))
def zEn(F:Fn K mg "_law_plus" rX ["one","two"] f fd):∅ (k+1) "_law_plus" ["one","two"] jA:=
 eV F zEM fun W WR=>(aH (cI (aG W Qbt rfl (aA (aW gB qB (aW bT iD (fR 0) (fR 1)) (aW bT iD (fR 1) (fR 0))) (aA (aW bT iD (fR 0) (fR 1)) aJ bJ) bJ))))
def zBN(F:Fn K mg "_law_minus" pJ ["one","two"] f fd):∅ (k+1) "_law_minus" ["one","two"] gJ:=
 eV F zCY fun W WR=>(aH (cI (aG W Qbt rfl (aA (aW mZ uM (aW bT iD (fR 0) (fR 1)) (aW bT iD (fR 1) (fR 0))) (aA (aW bT iD (fR 0) (fR 1)) aJ bJ) bJ))))
def zDf(F:Fn K mg "_law_times" pH ["one","two"] f fd):∅ (k+1) "_law_times" ["one","two"] dW:=
 eV F zDo fun W WR=>(aH (cI (aG W Qbt rfl (aA (aW bT iD (fR 0) (fR 1)) (aA (aW bT iD (fR 0) (fR 1)) aJ bJ) bJ))))
def zBn(F:Fn K mg "_law_joints" nS ["lines"] f fd):∅ (k+1) "_law_joints" ["lines"] iH:=
  eV F eN fun W WR=>(aD (qS (i:=1) eN.nd rfl (Or.inl rfl) (cK aJ))
 (aD (kI W.own W.calm (gP (aM 0)) (g_z 2 eN.nd) bG (aH (kI W.own W.calm (gP (aM 2)) (g_z 3 eN.nd) bG (aD (s_z 4 eN.nd bQ)
 (aD (vG W.own (PTd.frz (PWd.pt (zHe (tst pS zEW (aM 4) (aU aQ eP rfl B.len Q6 (bD 1)) (bA _)) (zM (zER (aG W Qbp rfl (aA (oM (aM 1) 4) (aA (fR 3) aJ aP) aP))))))) (aH (s_z 4 eN.nd (aW gB qB (aM 4) bQ))))
 (aH (jS (PTd.frz (PWd.pt (zQd (tst (eqA W.u) uA (aM 4) (aU aQ eP rfl B.len Q6 (bD 1)) (bA _)) (zHG (tst (neA W.u) zLq (oM (aM 1) 4) (fR 3) (bA _)))))) (aH (zSh (i:=1) (pv 1) (aM 4) (fR 3))) bK)))))))
 (aH (fY 1 (pv 1)))))
def zNO(F:Fn K mg "plus" zJE ["one","two"] f fd):∅ (k+1) "plus" ["one","two"] kF:=
 eV F zNT fun W WR=>(aH (cI (aG W Qcj rfl (aA (aW gB qB (aW bT iD (fR 0) (fR 1)) (aW bT iD (fR 1) (fR 0))) (aA (aW bT iD (fR 0) (fR 1)) aJ bJ) bJ))))
def zLv(F:Fn K mg "minus" zEJ ["one","two"] f fd):∅ (k+1) "minus" ["one","two"] cM:=
 eV F zLW fun W WR=>(aH (cI (aG W Qcj rfl (aA (aW mZ uM (aW bT iD (fR 0) (fR 1)) (aW bT iD (fR 1) (fR 0))) (aA (aW bT iD (fR 0) (fR 1)) aJ bJ) bJ))))
def zLn(F:Fn K mg "times" zEl ["one","two"] f fd):∅ (k+1) "times" ["one","two"] cZ:=
 eV F zLI fun W WR=>(aH (cI (aG W Qcj rfl (aA (aW bT iD (fR 0) (fR 1)) (aA (aW bT iD (fR 0) (fR 1)) aJ bJ) bJ))))
def zPt(F:Fn K mg "over" zJW ["one","two"] f fd):∅ (k+1) "over" ["one","two"] qH:=
 eV F zPu fun W WR=>(aH (cI (aG W Qcj rfl (aA (aW bT iD (fR 0) (fR 1)) (aA (aW bT iD (fR 0) (fR 1)) aJ bJ) bJ))))
def sQ(F:Fn K mg "refuse_outside" iN ["amount","most"] f fd):∅ (k+1) "refuse_outside" ["amount","most"] bB:=
 eV F sA fun W WR=>(aH (jS (zER (aG W Qa8 rfl (aA (aM 0) (bD 1) aI))) (aH (gQ W WR R.Outside rfl zEo)) bK))
def zCQ(F:Fn K mg "levels_of" lU ["weights","claims"] f fd):∅ (k+1) "levels_of" ["weights","claims"] eA:=
 eV F zCA fun W WR=>(aH (dP (xA (N:=["weights","claims"]) W (by decide +kernel) rfl (sc:=aF lU) rfl rfl (by decide +kernel) (zIL rfl B.zip (aA (aM 1) (bD 0) aI)) (fun C2 s2 H2 fp2 G W=>(aG W Qcj rfl (aA (aM 2) (bD 3) aI))))))
def zBY(F:Fn K mg "row_dealt" pF ["claims","catch"] f fd):∅ (k+1) "row_dealt" ["claims","catch"] gI:=
  eV F fS fun W WR=>(aD (s_z 2 fS.nd (aM 1))
 (aD (qS (i:=3) fS.nd rfl (Or.inl rfl) (cK aJ))
 (aD (kI W.own W.calm (gP (aM 0)) (g_z 4 fS.nd) bG (aD (s_z 5 fS.nd (aG W Qcd rfl (aA (aM 2) (aA (aG W Qci rfl (bD 4)) aJ aK) aI)))
 (aD (zCr (i:=3) (pv 3) (aM 5))
 (aH (s_z 2 fS.nd (aG W Qcf rfl (aA (aM 2) (bD 5) aI)))))))
 (aH (fY 3 (pv 3))))))
def zBC(F:Fn K mg "even_dealt" nX ["weights","claims","catch"] f fd):∅ (k+1) "even_dealt" ["weights","claims","catch"] cY:=
  eV F cO fun W WR=>(aD (s_z 3 cO.nd (aM 2))
 (aD (s_z 4 cO.nd (aU (kG W.calm) sR rfl B.sum iG (bD 0)))
 (aD (qS (i:=5) cO.nd rfl (Or.inl rfl) (zFO (cK (aA (bM rfl C.NOUGHT) aJ aI)) (aU aQ eP rfl B.len Q6 (bD 1))))
 (zJt W Qcc zRO zMA rfl (aA (PEf.d (aZ W Qbg rfl (aA (aM 0) (bD 1) aI))) aJ aK) (g_z 6 cO.nd) bG (aD (s_z 7 cO.nd (aG W Qcm rfl (aA (aG W Qcg rfl (aA (aM 3) (aA (aG W Qci rfl (aA (oM (aM 0) 6) aJ aP)) aJ aK) aI)) (aA (aG W Qci rfl (bD 4)) aJ aK) aK)))
 (aD (zSe (i:=5) (pv 5) (aM 6) (aG W Qcd rfl (aA (aM 7) (aA (aG W Qci rfl (aA (oM (aM 1) 6) aJ aP)) aJ aK) aI)))
 (aD (s_z 3 cO.nd (PEd.frz (aG W Qcf rfl (aA (aM 3) (aA (oM (aM 5) 6) aJ aP) aI))))
 (aH (zGG (i:=4) cO.nd rfl (Or.inl rfl) (oM (aM 0) 6) zMR zIY zFB))))) (aH (fY 5 (pv 5)))))))
def zAP(F:Fn K mg "part_dealt" jV ["claims","catch"] f fd):∅ (k+1) "part_dealt" ["claims","catch"] fN:=
  eV F iX fun W WR=>(aD (s_z 2 iX.nd (aU (kG W.calm) sR rfl B.sum iG (bD 0)))
 (aD (jS (tst (eqA W.u) uA (aM 2) bQ (bA _)) (aH (dP (zFO (cK (aA (bM rfl C.NOUGHT) aJ aI)) (aU aQ eP rfl B.len Q6 (bD 0))))) bK)
 (aD (s_z 3 iX.nd (aG W Qcm rfl (aA (aM 1) (aA (aG W Qci rfl (bD 2)) aJ aK) aI)))
 (aH (dP (eI W iX.nd rfl (sc:=aF jV) rfl rfl (by decide +kernel) (gP (aM 0)) (fun C2 s2 H2 fp2 G W=>⟨iP,(aG W Qcg rfl (aA (aM 3) (aA (aG W Qci rfl (bD 4)) aJ aK) aI))⟩)))))))
def zAI(F:Fn K mg "is_between" nO ["ahead","point","later"] f fd):∅ (k+1) "is_between" ["ahead","point","later"] hZ:=
  eV F fX fun W WR=>(aD (s_z 3 fX.nd (aG W Qcf rfl (aA (eU bE oV (aM 1) (bM rfl C.UP) (fun _ _=>rfl)) (aA (eU bE oV (aM 0) (bM rfl C.UP) (fun _ _=>rfl)) aJ aP) aP)))
 (aD (s_z 4 fX.nd (aG W Qcf rfl (aA (eU bE oV (aM 2) (bM rfl C.UP) (fun _ _=>rfl)) (aA (eU bE oV (aM 1) (bM rfl C.UP) (fun _ _=>rfl)) aJ aP) aP)))
 (aD (s_z 5 fX.nd (aG W Qcf rfl (aA (eU bE oV (aM 1) (bM rfl C.ACROSS) (fun _ _=>rfl)) (aA (eU bE oV (aM 0) (bM rfl C.ACROSS) (fun _ _=>rfl)) aJ aP) aP)))
 (aD (s_z 6 fX.nd (aG W Qcf rfl (aA (eU bE oV (aM 2) (bM rfl C.ACROSS) (fun _ _=>rfl)) (aA (eU bE oV (aM 1) (bM rfl C.ACROSS) (fun _ _=>rfl)) aJ aP) aP)))
 (aH (cI (zI (eqA W.u) uA (aG W Qcg rfl (aA (aM 3) (bD 6) aI)) (aG W Qcg rfl (aA (aM 4) (bD 5) aI)) (bA _))))))))
def zQg(F:Fn K mg "met" zOa ["line","axis","amount"] f fd):∅ (k+1) "met" ["line","axis","amount"] uX:=
  eV F yV fun W WR=>(aD (s_z 3 yV.nd (aW mZ uM bQ (aM 1)))
 (aD (s_z 4 yV.nd (aG W Qav rfl (aA (aM 0) (aA (aM 1) (bD 2) aI) aI)))
 (aD (s_z 5 yV.nd (oM (aM 0) 4))
 (aD (jS (tst (eqA W.u) uA (oM (aM 5) 1) (aM 2) (bA _)) (aH (cI (oM (aM 5) 3))) bK)
 (aD (s_z 6 yV.nd (eU bE oV (aM 0) (aW mZ uM (aM 4) bQ) (fun _ _=>rfl)))
 (aD (s_z 7 yV.nd (aG W Qcm rfl (aA (aG W Qcf rfl (aA (aM 2) (aA (oM (aM 6) 1) aJ aP) aI)) (aA (aG W Qcf rfl (aA (oM (aM 5) 1) (aA (oM (aM 6) 1) aJ aP) aP)) aJ aK) aK)))
 (aH (cI (aG W Qck rfl (aA (oM (aM 6) 3) (aA (aG W Qcg rfl (aA (aM 7) (aA (aG W Qcf rfl (aA (oM (aM 5) 3) (aA (oM (aM 6) 3) aJ aP) aP)) aJ aK) aI)) aJ aK) aP))))))))))
def xI(F:Fn K mg "even_joints" lV ["weights","claims"] f fd):∅ (k+1) "even_joints" ["weights","claims"] dC:=
  eV F cB fun W WR=>(aD (s_z 2 cB.nd bQ)
 (aD (s_z 3 cB.nd (aU (kG W.calm) sR rfl B.sum iG (bD 0)))
 (aD (s_z 4 cB.nd (PEf.d (aZ W Qbg rfl (aA (aM 0) (bD 1) aI))))
 (aD (qS (i:=5) cB.nd rfl (Or.inl rfl) (cK (aA (bM rfl C.NOUGHT) aJ aI)))
 (zJt W Qcc zRO zMA rfl (bD 4) (g_z 6 cB.nd) bG (aD (zCr (i:=5) (pv 5) (aG W Qck rfl (aA (aG W Qci rfl (bD 2)) (aA (aG W Qcg rfl (aA (oM (aM 4) 6) (aA (aG W Qci rfl (bD 3)) aJ aK) aP)) aJ aK) aK)))
 (aD (zGG (i:=2) cB.nd rfl (Or.inl rfl) (oM (aM 1) 6) zGl zBw uD)
 (aH (zGG (i:=3) cB.nd rfl (Or.inl rfl) (oM (aM 0) 6) zMR zIY zFB)))) (aH (fY 5 (pv 5))))))))
def zEs(F:Fn K mg "mirrored" oE ["joints","most"] f fd):∅ (k+1) "mirrored" ["joints","most"] gX:=
 eV F uW fun W WR=>(aH (dP (eI W uW.nd rfl (sc:=aF oE) rfl rfl (by decide +kernel) (zRg rfl B.reversed (aM 0)) (fun C2 s2 H2 fp2 G W=>⟨iP,(aG W Qcf rfl (aA (aM 1) (bD 2) aI))⟩))))
def zAU(F:Fn K mg "half_dealt" kH ["claims","catch"] f fd):∅ (k+1) "half_dealt" ["claims","catch"] fM:=
  eV F lQ fun W WR=>(aD (s_z 2 lQ.nd (PEf.d (zFO (cK (aA bQ aJ cH)) (aU aQ eP rfl B.len Q6 (bD 0)))))
 (aH (dP (eI W lQ.nd rfl (sc:=aF kH) rfl rfl (by decide +kernel) (gP (PEf.d (aZ W Qbb rfl (aA (aM 2) (aA (aM 0) (aA (aG W Qck rfl (aA (aM 1) (bD 1) aI)) aJ aK) aI) aI)))) (fun C2 s2 H2 fp2 G W=>⟨iP,(aG W Qcg rfl (aA (aM 3) (aA (bM rfl C.HALF) aJ aI) aI))⟩)))))
def zHs(F:Fn K mg "line_of" wN ["points"] f fd):∅ (k+1) "line_of" ["points"] cG:=
  eV F sM fun W WR=>(aD (oT (aG W Qa6 rfl (bD 0)))
 (aD (qS (i:=1) sM.nd rfl (Or.inl rfl) (cK aJ))
 (aD (kI W.own W.calm (gP (aM 0)) (g_z 2 sM.nd) bG (aD (jS (PTd.frz (PWd.pt (zHe (tst zLO zSb (aU aQ eP rfl B.len Q6 (bD 1)) bQ (bA _)) (zM (zER (aG W Qbe rfl (aA (eU bE oV (aM 1) (qO bQ) (fun _ _=>rfl)) (aA (eU bE oV (aM 1) (qO bQ) (fun _ _=>rfl)) (bD 2) aP) aP))))))) (aH (zSZ (i:=1) (pv 1))) bK)
 (aH (zCr (i:=1) (pv 1) (aM 2)))))
 (aH (cI (nK lX zHE rfl B.tuple Mf (bD 1)))))))
def zKO(F:Fn K mg "value" zDK ["line","x"] f fd):∅ (k+1) "value" ["line","x"] lF:=
  eV F zLB fun W WR=>(aD (oT (aG W Qax rfl (aA (aM 1) (aA (aG W Qb6 rfl (bD 0)) aJ aK) aI)))
 (aH (cI (aG W Qco rfl (aA (aM 0) (aA (bM rfl C.ACROSS) (bD 1) aI) aI)))))
def zKB(F:Fn K mg "sum_of" uG ["one","two"] f fd):∅ (k+1) "sum_of" ["one","two"] oF:=
  eV F uT fun W WR=>(aD (jS (tst (neA W.u) zLq (aG W Qb6 rfl (bD 0)) (aG W Qb6 rfl (bD 1)) (bA _)) (aH (gQ W WR R.Unlike rfl zEo)) bK)
 (aD (s_z 2 uT.nd (PEf.d (aZ W Qca rfl (aA (PEf.d (aZ W Qb5 rfl (bD 0))) (aA (PEf.d (aZ W Qb5 rfl (bD 1))) aJ aK) aK))))
 (aH (cI (aG W Qby rfl (aA (PEf.d (eI W uT.nd rfl (sc:=aF uG) rfl rfl (by decide +kernel) (gP (aM 2)) (fun C2 s2 H2 fp2 G W=>⟨iP,(dS (aA (aM 3) (aA (aG W Qck rfl (aA (aG W Qce rfl (aA (aM 0) (bD 3) aI)) (aA (aG W Qce rfl (aA (aM 1) (bD 3) aI)) aJ aK) aK)) aJ aK) aI))⟩))) aJ))))))
def zKD(F:Fn K mg "behind" qY ["one","two"] f fd):∅ (k+1) "behind" ["one","two"] gY:=
  eV F nR fun W WR=>(aD (jS (tst (neA W.u) zLq (aG W Qb6 rfl (bD 0)) (aG W Qb9 rfl (bD 1)) (bA _)) (aH (gQ W WR R.Unlike rfl zEo)) bK)
 (aD (zIV (i:=2) nR.nd rfl (Or.inl rfl) (PCf.d (zAj W nR.nd rfl (sc:=aF qY) rfl rfl (by decide +kernel) (gP (PEf.d (aZ W Qb5 rfl (bD 0)))) (fun C2 s2 H2 fp2 G W=>⟨iP,(aG W Qco rfl (aA (aM 1) (aA (bM rfl C.UP) (bD 4) aI) aI))⟩))) rfl)
 (aD (s_z 3 nR.nd (PEf.d (aZ W Qca rfl (aA (PEf.d (aZ W Qb5 rfl (bD 1))) (bD 2) aK))))
 (aH (cI (aG W Qby rfl (aA (PEf.d (eI W nR.nd rfl (sc:=aF qY) rfl rfl (by decide +kernel) (gP (aM 3)) (fun C2 s2 H2 fp2 G W=>⟨iP,(dS (aA (aM 4) (aA (aG W Qce rfl (aA (aM 0) (aA (aG W Qce rfl (aA (aM 1) (bD 4) aI)) aJ aK) aI)) aJ aK) aI))⟩))) aJ)))))))
def zGu(F:Fn K mg "line_at" qN ["joints","dealings","spot"] f fd):∅ (k+1) "line_at" ["joints","dealings","spot"] nU:=
 eV F zGA fun W WR=>(aH (cI (aG W Qby rfl (aA (PEf.d (xA (N:=["joints","dealings","spot"]) W (by decide +kernel) rfl (sc:=aF qN) rfl rfl (by decide +kernel) (zIL rfl B.zip (aA (aM 0) (bD 1) aI)) (fun C2 s2 H2 fp2 G W=>(dS (aA (aM 3) (aA (oM (aM 4) 2) aJ aP) aI))))) aJ))))
def zEO(F:Fn K mg "straight" sH ["claim"] f fd):∅ (k+1) "straight" ["claim"] gU:=
  eV F wJ fun W WR=>(aD (s_z 1 wJ.nd (dS (aA (bM rfl C.NOUGHT) (aA (bM rfl C.NOUGHT) aJ aI) aI)))
 (aD (jS (tst (eqA W.u) uA (aM 0) bQ (bA _)) (aH (cI (aG W Qby rfl (aA (PEf.d (cK (bD 1))) aJ zFv)))) bK)
 (aH (cI (aG W Qby rfl (aA (PEf.d (cK (aA (aM 1) (aA (dS (aA (aG W Qci rfl (bD 0)) (aA (aG W Qci rfl (bD 0)) aJ aK) aK)) aJ iY) aI))) aJ zFv))))))
def zCI{r:Mir}(F:Fn K mg "joints_of" jO ["way","weights","claims"] f fd)(Qbm:∅ k "joints_of" ["way","weights","claims"] r):∅ (k+1) "joints_of" ["way","weights","claims"] (bW r):=
  eV F iA fun W WR=>(aD (s_z 3 iA.nd (aG W Qci rfl (aA (aU (kG W.calm) sR rfl B.sum iG (bD 2)) aJ aK)))
 (aD (jS (tst (eqA W.u) uA (aM 0) (tN gC fun _=>.str _) (bA _)) (aH (dP (aZ W Qa4 rfl (bD 2)))) bK)
 (aD (jS (tst (eqA W.u) uA (aM 0) (tN gC fun _=>.str _) (bA _)) (aH (dP (aZ W Qa2 rfl (aA (aM 1) (bD 2) aI)))) bK)
 (aD (jS (tst (eqA W.u) uA (aM 0) (tN gC fun _=>.str _) (bA _)) (aH (dP (cK (aA (bM rfl C.NOUGHT) (bD 3) aI)))) bK)
 (aD (jS (tst (eqA W.u) uA (aM 0) (tN gC fun _=>.str _) (bA _)) (aD (zIV (i:=4) iA.nd rfl (Or.inl rfl) (PCf.d (zAj W iA.nd rfl (sc:=aF jO) rfl rfl (by decide +kernel) (gP (PEf.d (aZ W Qa2 rfl (aA (PEf.d (zFO (cK (aA bQ aJ cH)) (aU aQ eP rfl B.len Q6 (bD 2)))) (bD 2) bJ)))) (fun C2 s2 H2 fp2 G W=>⟨iP,(aG W Qcg rfl (aA (aM 5) (aA (bM rfl C.HALF) aJ aI) aI))⟩))) rfl)
 (aH (dP (zNe (aM 4) (PEf.d (aZ W Qbw rfl (aA (aM 4) (bD 3) aI))))))) bK)
 (aH (dP (aZ W Qbw rfl (aA (PEf.d (aZ W Qbm rfl (aA (aG W Qa1 rfl (bD 0)) (aA (aM 1) (bD 2) aI) aK))) (bD 3) aK)))))))))
def sT(F:Fn K mg "joints_of" jO ["way","weights","claims"] f fd):∀ n:Nat,∅ (k+1+n) "joints_of" ["way","weights","claims"] (bI n)
 | 0=>nI F iA fun cdv A outer s H E G W WR=>zDM
 | n+1=>zCI _ _ _ (k+1+n) B C F (Qci:=Qci.mono (by omega)) (Qbw:=Qbw.mono (by omega)) (Qa4:=Qa4.mono (by omega)) (Qa2:=Qa2.mono (by omega)) (Qcg:=Qcg.mono (by omega)) (Qa1:=Qa1.mono (by omega)) (Qbm:=sT F n)
def tL{r:Mir}(F:Fn K mg "rightly_dealt" eD ["way","weights","claims","catch"] f fd)(Qa0:∅ k "rightly_dealt" ["way","weights","claims","catch"] r):∅ (k+1) "rightly_dealt" ["way","weights","claims","catch"] (aR r):=
  eV F fA fun W WR=>(aD (s_z 4 fA.nd (aG W Qci rfl (aA (aU (kG W.calm) sR rfl B.sum iG (bD 2)) aJ aK)))
 (aD (jS (tst (eqA W.u) uA (aM 0) (tN gC fun _=>.str _) (bA _)) (aH (dP (aZ W Qbk rfl (aA (aM 2) (bD 3) aI)))) bK)
 (aD (jS (tst (eqA W.u) uA (aM 0) (tN gC fun _=>.str _) (bA _)) (aH (dP (aZ W Qbb rfl (aA (aM 1) (aA (aM 2) (bD 3) aI) aI)))) bK)
 (aD (jS (tst (eqA W.u) uA (aM 0) (tN gC fun _=>.str _) (bA _)) (aH (dP (aZ W Qbd rfl (aA (aM 2) (bD 3) aI)))) bK)
 (aD (jS (PWd.pt (zHe (tst (eqA W.u) uA (aM 0) (tN gC fun _=>.str _) (bA _)) (zM (zTv (zER (aG W Qcl rfl (aA (aM 4) (aA (aG W Qck rfl (aA (aM 3) (bD 3) aI)) aJ aK) aI))))))) (aH (dP (aZ W Qbf rfl (aA (aM 2) (bD 3) aI)))) bK)
 (aD (s_z 5 fA.nd (PEf.d (aZ W Qa0 rfl (aA (zNg C.CONTRARY.choose_spec rfl (aM 0) (fun _ _=>rfl)) (aA (aM 1) (aA (aM 2) (aA (aG W Qcf rfl (aA (aM 4) (bD 3) aI)) aJ aK) aI) aI) aP))))
 (aH (dP (xA (N:=["way","weights","claims","catch","most","lacking"]) W (by decide +kernel) rfl (sc:=aF eD) rfl rfl (by decide +kernel) (zIL rfl B.zip (aA (aM 2) (bD 5) aI)) (fun C2 s2 H2 fp2 G W=>(aG W Qcf rfl (aA (aG W Qci rfl (bD 6)) (bD 7) aK))))))))))))
def mG(F:Fn K mg "rightly_dealt" eD ["way","weights","claims","catch"] f fd):∀ n:Nat,∅ (k+1+n) "rightly_dealt" ["way","weights","claims","catch"] (aN n)
 | 0=>nI F fA fun cdv A outer s H E G W WR=>zDM
 | n+1=>tL _ _ _ (k+1+n) B C F (Qci:=Qci.mono (by omega)) (Qbk:=Qbk.mono (by omega)) (Qbb:=Qbb.mono (by omega)) (Qbd:=Qbd.mono (by omega)) (Qbf:=Qbf.mono (by omega)) (Qcf:=Qcf.mono (by omega)) (Qcl:=Qcl.mono (by omega)) (Qck:=Qck.mono (by omega)) (Qa0:=mG F n)
def zLZ(F:Fn K mg "dealt" zDW ["way","weights","claims","catch"] f fd):∅ (k+1) "dealt" ["way","weights","claims","catch"] rM:=
  eV F zMg fun W WR=>(aD (oT (aG W Qb8 rfl (aA (aM 0) (aA (aM 1) (bD 2) aI) aI)))
 (aD (oT (aG W Qax rfl (aA (aM 3) (aA (aG W Qci rfl (aA (aU (kG W.calm) sR rfl B.sum iG (bD 2)) aJ aK)) aJ aK) aI)))
 (aH (dP (aZ W Qa0 rfl (aA (aM 0) (aA (aM 1) (aA (aM 2) (bD 3) aI) aI) aI))))))
def zCk(F:Fn K mg "way_lines" jQ ["way","weights","claims"] f fd):∅ (k+1) "way_lines" ["way","weights","claims"] gM:=
  eV F iF fun W WR=>(aD (oT (aG W Qb8 rfl (aA (aM 0) (aA (aM 1) (bD 2) aI) aI)))
 (aD (s_z 3 iF.nd (PEf.d (aZ W Qau rfl (aA (PEf.d (aZ W Qbm rfl (aA (aM 0) (aA (aM 1) (bD 2) aI) aI))) aJ aK))))
 (aD (s_z 4 iF.nd (PEf.d (eI W iF.nd rfl (sc:=aF jQ) rfl rfl (by decide +kernel) (gP (aM 3)) (fun C2 s2 H2 fp2 G W=>⟨iP,(PEf.d (aZ W Qa0 rfl (aA (aM 0) (aA (aM 1) (aA (aM 2) (bD 5) aI) aI) aI)))⟩))))
 (aH (dP (eI W iF.nd rfl (sc:=aF jQ) rfl rfl (by decide +kernel) (zIH rfl B.range (aA (aU aQ eP rfl B.len Q6 (bD 2)) aJ aK)) (fun C2 s2 H2 fp2 G W=>⟨iP,(aG W Qb0 rfl (aA (aM 3) (aA (aM 4) (bD 5) aI) aI))⟩)))))))
def zEx{r:Mir}(F:Fn K mg "_law_deep" kZ ["custom"] f fd)(Qbq:∅ k "_law_deep" ["custom"] r):∅ (k+1) "_law_deep" ["custom"] (oK r):=
  eV F pB fun W WR=>(aD (jS (tst (eqA W.u) uA (fR 0) (tN gC fun _=>.str _) (bA _)) (aH (cI bQ)) bK)
 (aH (cI (aW gB qB bQ (aU (zDy W.calm) zIX rfl B.max boot_max (aA (PEf.d (eI W pB.nd rfl (sc:=aF kZ) rfl rfl (by decide +kernel) (gP (fR 0)) (fun C2 s2 H2 fp2 G W=>⟨iP,(aG W Qbq rfl (bD 1))⟩))) aJ))))))
def vY(F:Fn K mg "_law_deep" kZ ["custom"] f fd)  : ∀ n:Nat,∅ (k+1+n) "_law_deep" ["custom"] (dH n)
 | 0=>nI F pB fun cdv A outer s H E G W WR=>zDM
 | n+1=>zEx _ _ _ (k+1+n) B F  (Qbq:=vY F  n)
def zCL{r:Mir}(F:Fn K mg "_law_boats" lN ["custom"] f fd)(Qbh:∅ k "_law_boats" ["custom"] r):∅ (k+1) "_law_boats" ["custom"] (lL r):=
  eV F jW fun W WR=>(aD (jS (tst (eqA W.u) uA (fR 0) (tN gC fun _=>.str _) (bA _)) (aH (dP (cK (aA (fR 0) aJ aP)))) bK)
 (aD (qS (i:=1) jW.nd rfl (Or.inl rfl) (cK aJ))
 (aD (kI W.own W.calm (gP (fR 0)) (g_z 2 jW.nd) bG (aH (zIE (i:=1) (pv 1) (aZ W Qbh rfl (bD 2)))))
 (aH (fY 1 (pv 1))))))
def sV(F:Fn K mg "_law_boats" lN ["custom"] f fd)  : ∀ n:Nat,∅ (k+1+n) "_law_boats" ["custom"] (gT n)
 | 0=>nI F jW fun cdv A outer s H E G W WR=>zDM
 | n+1=>zCL _ _ _ (k+1+n) F  (Qbh:=sV F  n)
def zAV(F:Fn K mg "_law_custom" kC ["cells","plan","most"] f fd):∅ (k+1) "_law_custom" ["cells","plan","most"] hU:=
  eV F cA fun W WR=>(aD (qS (i:=3) cA.nd rfl (Or.inl rfl) (cK aJ))
 (aD (s_z 4 cA.nd bQ)
 (aD (kI W.own W.calm (zIH rfl B.range (aA (aU aQ eP rfl B.len Q6 (bD 0)) aJ aK)) (g_z 5 cA.nd) bG (aD (s_z 6 cA.nd (aG W Qb2 rfl (aA (oM (aM 0) 5) (bD 5) aP)))
 (aD (s_z 7 cA.nd (aW gB qB bQ (aW fJ pT (aW dO nN (aM 6) bQ) bQ)))
 (aH (jS (PTd.frz (PWd.pt (zQd (PWd.pt (zHe (tst pS zEW (aW fJ pT (aW dO nN (aM 6) bQ) bQ) bQ (bA _)) (zM (tst pS zEW (aM 4) (aM 2) (bA _))))) (zHG (tst (eqA W.u) uA (aM 3) (PEf.d (cK aJ)) (bA _)))))) (aD (s_z 4 cA.nd (aW gB qB (aM 4) bQ))
 (aH (zCr (i:=3) (pv 3) (dS (aA (tN gC fun _=>.str _) (aA (eU bE oV (PEf.d (cK (aA (aW fJ pT (aW dO nN (aM 6) bQ) bQ) (aA (aW fJ pT (aW dO nN (aM 6) bQ) bQ) (aA (aW fJ pT (aW dO nN (aM 6) bQ) (aW zAB zLD bQ bQ)) aJ bJ) bJ) bJ))) (aW fJ pT (aM 1) bQ) (fun _ _=>rfl)) aJ aP) cH))))) (aH (jS (PTd.frz (tst pS zEW (aU (zDy W.calm) zIX rfl B.max boot_max (aA (PEf.d (eI W cA.nd rfl (sc:=aF kC) rfl rfl (by decide +kernel) (gP (PEf.d (lE (aM 3) (mD (qO (aM 7))) oW))) (fun C2 s2 H2 fp2 G W=>⟨iP,(aG W Qbq rfl (bD 8))⟩))) aJ)) bQ (bA _))) (aH (qS (i:=3) cA.nd rfl (Or.inl rfl) (PEf.frz (zNe (PEf.d (lE (aM 3) oW (mD (qO (aM 7))))) (PEf.d (cK (aA (aG W Qbx rfl (aA (PEf.d (lE (aM 3) (mD (qO (aM 7))) oW)) (aA (aW dO nN (aM 6) bQ) (bD 1) bJ) aP)) aJ aK))))))) bK)))))))
 (eH.frzAt 3 (aD (jS (tst (eqA W.u) uA (aM 3) (PEf.d (cK aJ)) (bA _)) (aH (cI (dS (aA (tN gC fun _=>.str _) (aA (aW fJ pT (aM 1) bQ) aJ bJ) cH)))) bK)
 (aD (jS (tst (eqA W.u) uA (aU aQ eP rfl B.len Q6 (bD 3)) bQ (bA _)) (aH (cI (fR 3))) bK)
 (aH (cI (aG W Qbx rfl (aA (aM 3) (aA (aW dO nN (aM 1) bQ) (bD 1) bJ) aI))))))))))
def zCJ{r:Mir}(F:Fn K mg "claims_of" lH ["custom"] f fd)(Qbi:∅ k "claims_of" ["custom"] r):∅ (k+1) "claims_of" ["custom"] (lP r):=
  eV F jX fun W WR=>(aD (jS (zER (aG W Qb1 rfl (bD 0))) (aH (dP (cK (aA (fR 0) aJ aP)))) bK)
 (aD (qS (i:=1) jX.nd rfl (Or.inl rfl) (cK aJ))
 (aD (kI W.own W.calm (gP (aG W Qbz rfl (bD 0))) (g_z 2 jX.nd) bG (aH (zIE (i:=1) (pv 1) (aZ W Qbi rfl (bD 2)))))
 (aH (fY 1 (pv 1))))))
def tI(F:Fn K mg "claims_of" lH ["custom"] f fd):∀ n:Nat,∅ (k+1+n) "claims_of" ["custom"] (gW n)
 | 0=>nI F jX fun cdv A outer s H E G W WR=>zDM
 | n+1=>zCJ _ _ _ (k+1+n) F (Qb1:=Qb1.mono (by omega)) (Qbz:=Qbz.mono (by omega)) (Qbi:=tI F n)
def zEP(F:Fn K mg "claim_of" rW ["custom"] f fd):∅ (k+1) "claim_of" ["custom"] dL:=
 eV F zEA fun W WR=>(aH (cI (aU (kG W.calm) sR rfl B.sum iG (aA (PEf.d (aZ W Qbi rfl (bD 0))) aJ aK))))
def zBd(F:Fn K mg "kid_claims" jZ ["custom"] f fd):∅ (k+1) "kid_claims" ["custom"] cN:=
 eV F qD fun W WR=>(aH (dP (eI W qD.nd rfl (sc:=aF jZ) rfl rfl (by decide +kernel) (gP (aG W Qbz rfl (bD 0))) (fun C2 s2 H2 fp2 G W=>⟨iP,(aG W Qbr rfl (bD 1))⟩))))
def zEX{r:Mir}(F:Fn K mg "dealt_on" oD ["custom","catch"] f fd)(Qbo:∅ k "dealt_on" ["custom","catch"] r):∅ (k+1) "dealt_on" ["custom","catch"] (jB r):=
  eV F gH fun W WR=>(aD (jS (zER (aG W Qb1 rfl (bD 0))) (aH (dP (cK (bD 1)))) bK)
 (aD (s_z 2 gH.nd (PEf.d (aZ W Qch rfl (aA (aG W Qb4 rfl (bD 0)) (aA (aG W Qba rfl (bD 0)) (aA (PEf.d (aZ W Qa9 rfl (bD 0))) (bD 1) aK) aK) aK))))
 (aD (qS (i:=3) gH.nd rfl (Or.inl rfl) (cK aJ))
 (aD (kI W.own W.calm (zIL rfl B.zip (aA (aG W Qbz rfl (bD 0)) (bD 2) aK)) (zOt W.calm (pP (g_z 4 gH.nd) (pP (g_z 5 gH.nd) zKq)) (pK (pK zIZ))) (zDE (lI bG (lI bG zEG))) (aH (zIE (i:=3) (pv 3) (aZ W Qbo rfl (aA (aM 4) (bD 5) aI)))))
 (aH (fY 3 (pv 3)))))))
def xC(F:Fn K mg "dealt_on" oD ["custom","catch"] f fd):∀ n:Nat,∅ (k+1+n) "dealt_on" ["custom","catch"] (fT n)
 | 0=>nI F gH fun cdv A outer s H E G W WR=>zDM
 | n+1=>zEX _ _ _ (k+1+n) B F (Qb1:=Qb1.mono (by omega)) (Qch:=Qch.mono (by omega)) (Qb4:=Qb4.mono (by omega)) (Qba:=Qba.mono (by omega)) (Qa9:=Qa9.mono (by omega)) (Qbz:=Qbz.mono (by omega)) (Qbo:=xC F n)
def zEN{r:Mir}(F:Fn K mg "lines_of" lC ["custom"] f fd)(Qbv:∅ k "lines_of" ["custom"] r):∅ (k+1) "lines_of" ["custom"] (jC r):=
  eV F fB fun W WR=>(aD (jS (zER (aG W Qb1 rfl (bD 0))) (aH (dP (cK (aA (aG W Qbu rfl (aA (aG W Qbr rfl (bD 0)) aJ aK)) aJ aK)))) bK)
 (aD (s_z 1 fB.nd (PEf.d (aZ W Qbl rfl (aA (aG W Qb4 rfl (bD 0)) (aA (aG W Qba rfl (bD 0)) (aA (PEf.d (aZ W Qa9 rfl (bD 0))) aJ aK) aK) aK))))
 (aD (qS (i:=2) fB.nd rfl (Or.inl rfl) (cK aJ))
 (aD (kI W.own W.calm (zIL rfl B.zip (aA (aG W Qbz rfl (bD 0)) (bD 1) aK)) (zOt W.calm (pP (g_z 3 fB.nd) (pP (g_z 4 fB.nd) zKq)) (pK (pK zIZ))) (zDE (lI bG (lI bG zEG))) (aH (zIE (i:=2) (pv 2) (eI W fB.nd rfl (sc:=aF lC) rfl rfl (by decide +kernel) (gP (PEf.d (aZ W Qbv rfl (bD 3)))) (fun C2 s2 H2 fp2 G W=>⟨iP,(aG W Qcb rfl (aA (aM 5) (bD 4) aI))⟩)))))
 (aH (fY 2 (pv 2)))))))
def vF(F:Fn K mg "lines_of" lC ["custom"] f fd):∀ n:Nat,∅ (k+1+n) "lines_of" ["custom"] (fO n)
 | 0=>nI F fB fun cdv A outer s H E G W WR=>zDM
 | n+1=>zEN _ _ _ (k+1+n) B F (Qb1:=Qb1.mono (by omega)) (Qbl:=Qbl.mono (by omega)) (Qb4:=Qb4.mono (by omega)) (Qba:=Qba.mono (by omega)) (Qa9:=Qa9.mono (by omega)) (Qbz:=Qbz.mono (by omega)) (Qbu:=Qbu.mono (by omega)) (Qbr:=Qbr.mono (by omega)) (Qcb:=Qcb.mono (by omega)) (Qbv:=vF F n)
def zIe(F:Fn K mg "shares" zAz ["custom","catch"] f fd):∅ (k+1) "shares" ["custom","catch"] lK:=
  eV F zIK fun W WR=>(aD (oT (aG W Qax rfl (aA (aM 1) (aA (aG W Qci rfl (aA (aG W Qbr rfl (bD 0)) aJ aK)) aJ aK) aI)))
 (aH (dP (aZ W Qbo rfl (aA (aM 0) (bD 1) aI)))))
def zPQ(F:Fn K mg "law" tO ["script"] f fd):FnOk P w K mg base (CX1 P w) (k+1) f fd ["script"] (spM K mg 1 zPh):=
  zPG F eQ fun cdv A outer s H E G W WR=>(aD (s_z 1 eQ.nd (aG W Qa3 rfl (aA (aM 0) (aA bQ aJ cH) aI)))
 (aD (s_z 2 eQ.nd (nK zBR zMt rfl B.int boot_int (aA (zI (eqA W.u) uA (aW fJ pT (aW dO nN (aM 1) bQ) bQ) bQ (bA _)) aJ)))
 (aD (s_z 3 eQ.nd (aG W Qbc rfl (aA (PEf.d (lE (aM 0) (mD bQ) (mD (oM (PEf.d (cK (aA bQ (aA bQ aJ cH) cH))) 2)))) (aA (aM 1) (aA (oM (PEf.d (cK (aA bQ (aA bQ aJ cH) cH))) 2) aJ aP) aI) aP)))
 (aD (s_z 4 eQ.nd (aU (kG W.calm) sR rfl B.sum iG (aA (PEf.d (aZ W Qbh rfl (bD 3))) aJ aK)))
 (aD (s_z 5 eQ.nd (PEf.d (aZ W Qbv rfl (bD 3))))
 (aD (s_z 6 eQ.nd (fR 5))
 (aD (kI W.own W.calm (gP (PEf.d (lE (aM 5) (mD bQ) oW))) (g_z 7 eQ.nd) bG (aH (s_z 6 eQ.nd (aG W Qb7 rfl (aA (aM 6) (bD 7) aI)))))
 (aD (s_z 8 eQ.nd (dS (aA (dS (aA (dS (aA bQ (aA bQ aJ cH) cH)) (aA (dS (aA bQ (aA bQ aJ cH) cH)) aJ iY) iY)) (aA (dS (aA (dS (aA (aM 4) (aA bQ aJ cH) aI)) (aA (dS (aA (aM 4) (aA bQ aJ cH) aI)) aJ iY) iY)) aJ iY) iY)))
 (aD (jS (PWd.pt (zQd (tst (neA W.u) zLq (aM 6) (zIa (aM 8) oW (mD (aW gB qB bQ (nK zBR zMt rfl B.int boot_int (aA (zI zLO zSb (aM 4) bQ (bA _)) aJ))))) (bA _)) (zHG (tst (neA W.u) zLq (aG W Qby rfl (aA (PEf.d (zOM rfl B.list boot_list (bD 6))) aJ aK)) (aM 6) (bA _))))) (aH (cI (tN zMa fun _=>.bl _))) bK)
 (aD (kI W.own W.calm (gP (aM 5)) (g_z 7 eQ.nd) bG (aH (kI W.own W.calm (zJY rfl B.range (aA bQ (aA (aU aQ eP rfl B.len Q6 (bD 7)) aJ aK) cH)) (g_z 9 eQ.nd) bG (aD (s_z 10 eQ.nd (aG W Qbn rfl (aA (zRT (oM (aM 7) 9)) (aA (zRT (eU bE oV (aM 7) (aW mZ uM (aM 9) bQ) (fun _ _=>rfl))) aJ aP) aP)))
 (aD (s_z 11 eQ.nd (aG W Qbn rfl (aA (zRT (oM (aM 7) 9)) (aA (zRT (eU bE oV (aM 7) (aW mZ uM (aM 9) bQ) (fun _ _=>rfl))) aJ aP) aP)))
 (aH (jS (PWd.pt (zQd (tst pS zEW (fR 11) bQ (bA _)) (zHG (zER (aG W Qbp rfl (aA (aM 10) (bD 11) aI)))))) (aH (cI (tN zMa fun _=>.bl _))) bK)))))))
 (aD (s_z 12 eQ.nd (PEf.d (aZ W Qa5 rfl (bD 5))))
 (aD (zIV (i:=13) eQ.nd rfl (Or.inl rfl) (PCf.d (zAj W eQ.nd rfl (sc:=aF tO) rfl rfl (by decide +kernel) (gP (aM 12)) (fun C2 s2 H2 fp2 G W=>⟨iP,(PEf.d (aZ W Qb3 rfl (aA (aM 3) (bD 18) aI)))⟩))) rfl)
 (aD (kI W.own W.calm (zJY rfl B.range (aA bQ (aA (aU aQ eP rfl B.len Q6 (bD 12)) aJ aK) cH)) (g_z 9 eQ.nd) bG (aD (s_z 14 eQ.nd (PEf.d (aZ W Qb3 rfl (aA (aM 3) (aA (aG W Qbj rfl (aA (dS (aA bQ (aA bQ aJ cH) cH)) (aA (aG W Qbs rfl (aA (eU bE oV (aM 12) (aW mZ uM (aM 9) bQ) (fun _ _=>rfl)) (aA (oM (aM 12) 9) aJ aP) aP)) aJ aK) iY)) aJ aK) aI))))
 (aH (kI W.own W.calm (zPN rfl B.zip (aA (eU bE oV (aM 13) (aW mZ uM (aM 9) bQ) (fun _ _=>rfl)) (aA (oM (aM 13) 9) (bD 14) aP) aP)) (zOt W.calm (pP (g_z 15 eQ.nd) (pP (g_z 16 eQ.nd) (pP (g_z 17 eQ.nd) zKq))) (pK (pK (pK zIZ)))) (zDE (lI bG (lI bG (lI bG zEG)))) (aH (jS (tst (neA W.u) zLq (aG W Qbj rfl (aA (dS (aA bQ (aA bQ aJ cH) cH)) (aA (aG W Qbs rfl (aA (aM 15) (bD 16) aI)) aJ aK) iY)) (aM 17) (bA _)) (aH (cI (tN zMa fun _=>.bl _))) bK))))))
 (aH (cI (tN zMa fun _=>.bl _))))))))))))))))
end
end
def FnK(K:PySem.W.Frag)(x:Str)(st:Ji):Prop:=∃ f oc od sl kV dc pm an cd ct,PySem.W.nsIn K mainGlobals x=some (some (.ref f))/\K.lookup f=some ⟨oc,od,.func (PySem.W.fnOf x x (kK st) (fG st) (aF st) .none kV dc pm an cd ct),sl⟩/\PySem.W.codeIn K cd x=true/\PySem.W.keepIn K (.ref f)=true
def fk{K:Fg_}{h:Je}{mg:Str->Option Ja}{x:Str}{st:Ji}(X:K.In h)(G:h.Ns mainGlobals mg)(d:FnK K x st)(ps:List Str)(hb:∀ (kV doc pm:Ja) (an:Option Jc) (cdv ct:Ja) (us:List Ja),us.length=ps.length->bindArgs (PySem.W.fnOf x x (kK st) (fG st) (aF st) .none kV doc pm an cdv ct) ⟨us,[]⟩=pure (ps.zip us)):∃ f fd,Fn K mg x st ps f fd:=by
 obtain⟨f,oc,od,sl,kV,dc,pm,an,cd,ct,a,l,c,k⟩:=d;exact⟨f,_,zV (st:=st) l c k,(zV (st:=st) l c k).binds (ps:=ps) hb,k,V5 X G a⟩
def fkm{K:Fg_}{x:Str}{st:Ji}{f:Jc}{oc:Ja}{od an:Option Jc}{sl:Array (Option Ja)}{kV dc pm cd ct:Ja}(a:PySem.W.nsIn K mainGlobals x=some (some (.ref f)))(l:K.lookup f=some ⟨oc,od,.func (PySem.W.fnOf x x (kK st) (fG st) (aF st) .none kV dc pm an cd ct),sl⟩)(c:PySem.W.codeIn K cd x=true)(k:PySem.W.keepIn K (.ref f)=true):FnK K x st:=⟨f,oc,od,sl,kV,dc,pm,an,cd,ct,a,l,c,k⟩
def zQH{l:PySem.W.OpenLaw}{w:Jg}{K:Fg_}{h:Je}{mg:Str->Option Ja}{fa f11 f66:Jc}(X:K.In h)(G:h.Ns mainGlobals mg)(hfa:mg "law" = some (.ref fa))
  {od11 an11:Option Jc} {sl11:Array (Option Ja)} {oc11 kV11 dc11 pm11 ct11:Ja}
  {od66 an66:Option Jc} {sl66:Array (Option Ja)} {oc66 kV66 dc66 pm66 cd66 ct66:Ja}
  (d0:FnK K "common_divisor" iI)
  (d1:FnK K "made" zKt)
  (d2:FnK K "whole" zEh)
  (d3:FnK K "plus" zJE)
  (d4:FnK K "minus" zEJ)
  (d5:FnK K "times" zEl)
  (d6:FnK K "over" zJW)
  (d7:FnK K "less" zIz)
  (d8:FnK K "lesser" zBj)
  (d9:FnK K "is_outside" nV)
  (d10:FnK K "refuse_outside" iN)
  {cR T:Jc}
  (a11:PySem.W.nsIn K mainGlobals "ranked" = some (some (.ref f11))) (l11:K.lookup f11=some ⟨oc11,od11,.func (PySem.W.fnOf "ranked" "ranked" (kK iW) (fG iW) (aF iW) .none kV11 dc11 pm11 an11 (.ref cR) ct11),sl11⟩) (c11:PySem.W.codeIn K (.ref cR) "ranked" = true) (k11:PySem.W.keepIn K (.ref f11)=true)
  (tq:PySem.W.codeHdIn K cR T=true) (tn:K.lookup T=none)
  (d12:FnK K "looked" zAJ)
  (d13:FnK K "refuse_way" mV)
  (d14:FnK K "refuse_claims" jF)
  (d15:FnK K "refuse_weights" iJ)
  (d16:FnK K "contrary_way" kM)
  (d17:FnK K "dealt" zDW)
  (d18:FnK K "rightly_dealt" eD)
  (d19:FnK K "row_dealt" pF)
  (d20:FnK K "even_dealt" nX)
  (d21:FnK K "levels_of" lU)
  (d22:FnK K "part_dealt" jV)
  (d23:FnK K "half_dealt" kH)
  (d24:FnK K "is_boat" vO)
  (d25:FnK K "way_of" zAn)
  (d26:FnK K "weights_of" nT)
  (d27:FnK K "kids_of" wK)
  (d28:FnK K "claims_of" lH)
  (d29:FnK K "claim_of" rW)
  (d30:FnK K "kid_claims" jZ)
  (d31:FnK K "shares" zAz)
  (d32:FnK K "dealt_on" oD)
  (d33:FnK K "line_of" wN)
  (d34:FnK K "refuse_bad" nF)
  (d35:FnK K "is_between" nO)
  (d36:FnK K "length" zBm)
  (d37:FnK K "height" zAN)
  (d38:FnK K "value" zDK)
  (d39:FnK K "first_reaching" iL)
  (d40:FnK K "met" zOa)
  (d41:FnK K "sum_of" uG)
  (d42:FnK K "behind" qY)
  (d43:FnK K "places" tX)
  (d44:FnK K "merged" zAr)
  (d45:FnK K "way_lines" jQ)
  (d46:FnK K "line_at" qN)
  (d47:FnK K "joints_of" jO)
  (d48:FnK K "row_joints" mX)
  (d49:FnK K "even_joints" lV)
  (d50:FnK K "mirrored" oE)
  (d51:FnK K "without_doubles" gO)
  (d52:FnK K "lines_of" lC)
  (d53:FnK K "straight" sH)
  (d54:FnK K "_law_cell_at" lS)
  (d55:FnK K "_law_made" sF)
  (d56:FnK K "_law_plus" rX)
  (d57:FnK K "_law_minus" pJ)
  (d58:FnK K "_law_times" pH)
  (d59:FnK K "_law_less" sB)
  (d60:FnK K "_law_mix" wH)
  (d61:FnK K "_law_knot" oH)
  (d62:FnK K "_law_deep" kZ)
  (d63:FnK K "_law_custom" kC)
  (d64:FnK K "_law_boats" lN)
  (d65:FnK K "_law_joints" nS)
  (a66:PySem.W.nsIn K mainGlobals "law" = some (some (.ref f66))) (l66:K.lookup f66=some ⟨oc66,od66,.func (PySem.W.fnOf "law" "law" (kK tO) (fG tO) (aF tO) .none kV66 dc66 pm66 an66 cd66 ct66),sl66⟩) (c66:PySem.W.codeIn K cd66 "law" = true) (k66:PySem.W.keepIn K (.ref f66)=true)
  (z_abs:PySem.W.nsIn K mainGlobals "abs" = some none)
  (z_sorted:PySem.W.nsIn K mainGlobals "sorted" = some none)
  (z_range:PySem.W.nsIn K mainGlobals "range" = some none)
  (z_len:PySem.W.nsIn K mainGlobals "len" = some none)
  (z_sum:PySem.W.nsIn K mainGlobals "sum" = some none)
  (z_zip:PySem.W.nsIn K mainGlobals "zip" = some none)
  (z_tuple:PySem.W.nsIn K mainGlobals "tuple" = some none)
  (z_reversed:PySem.W.nsIn K mainGlobals "reversed" = some none)
  (z_max:PySem.W.nsIn K mainGlobals "max" = some none)
  (z_int:PySem.W.nsIn K mainGlobals "int" = some none)
  (z_list:PySem.W.nsIn K mainGlobals "list" = some none)
  (KT:Kt K) (CC:∀(h:Je)(mg:Str->Option Ja),K.In h->h.Ns mainGlobals mg->Ct K mg) (RR:∀(h:Je)(mg:Str->Option Ja),K.In h->h.Ns mainGlobals mg->Rt K mg) (EE:∀(h:Je)(mg:Str->Option Ja),K.In h->h.Ns mainGlobals mg->Et K mg)
  : K.lookup T=none/\qG K mg T/\∃ fd:FuncData,(∀(s:Jb)(v:Ja),BindsTo s fd ⟨[v],[]⟩ [("script", v)])/\∀ base:Je,K.In base->base.Ns mainGlobals mg->BMn base mg->FnOk l.prog w K mg base (CX1 l.prog w) 28 fa fd ["script"] (zRW K mg):=by
 have e:=hfa.symm.trans (V5 X G a66);cases e;have B:Bt mg:=⟨Xf X G z_abs,Xf X G z_sorted,Xf X G z_range,Xf X G z_len,Xf X G z_sum,Xf X G z_zip,Xf X G z_tuple,Xf X G z_reversed,Xf X G z_max,Xf X G z_int,Xf X G z_list⟩;have C:Ct K mg:=CC h mg X G;have R:Rt K mg:=RR h mg X G;have ET:Et K mg:=EE h mg X G;have hT:qG K mg T:=⟨f11,_,_,_,_,cR,V5 X G a11,l11,rfl,fun h X=>PySem.W.codeHd_of_K X tq⟩
 refine⟨tn,hT,?_⟩
 refine⟨PySem.W.fnOf "law" "law" (kK tO) (fG tO) (aF tO) .none kV66 dc66 pm66 an66 cd66 ct66,fun s v=>.of_eq rfl,fun base _ _ hB=>?_⟩
 obtain⟨_,_,F0⟩:=fk X G d0 ["one","two"] ⋯
 have Qay:=rN l.prog w base 0 B F0;obtain⟨_,_,F2⟩:=fk X G d2 ["number"] ⋯
 have Qci:=zLN l.prog w base 0 F2;obtain⟨_,_,F7⟩:=fk X G d7 ["one","two"] ⋯
 have Qcl:=zOe l.prog w base 0 F7;have F11:Fn K mg "ranked" iW ["some"] _ _:=⟨zV (st:=iW) l11 c11 k11,(zV (st:=iW) l11 c11 k11).binds (ps:=["some"]) ⋯,k11,V5 X G a11⟩
 have Qcc:=zJZ l.prog w base 0 B F11 hT hB;obtain⟨_,_,F13⟩:=fk X G d13 ["way"] ⋯
 have Qa7:=zBK l.prog w base 0 C R F13;obtain⟨_,_,F14⟩:=fk X G d14 ["claims"] ⋯
 have Qaz:=tP l.prog w base 0 B R F14;obtain⟨_,_,F15⟩:=fk X G d15 ["way","weights","many"] ⋯
 have Qaw:=sN l.prog w base 0 B C R F15;obtain⟨_,_,F24⟩:=fk X G d24 ["custom"] ⋯
 have Qb1:=zHg l.prog w base 0 C F24;obtain⟨_,_,F25⟩:=fk X G d25 ["custom"] ⋯
 have Qb4:=zJz l.prog w base 0 F25;obtain⟨_,_,F26⟩:=fk X G d26 ["custom"] ⋯
 have Qba:=zBI l.prog w base 0 F26;obtain⟨_,_,F36⟩:=fk X G d36 ["line"] ⋯
 have Qb6:=zJO l.prog w base 0 C F36;obtain⟨_,_,F37⟩:=fk X G d37 ["line"] ⋯
 have Qb9:=zIN l.prog w base 0 C F37;obtain⟨_,_,F43⟩:=fk X G d43 ["line"] ⋯
 have Qb5:=zKz l.prog w base 0 C F43;obtain⟨_,_,F54⟩:=fk X G d54 ["script","k"] ⋯
 have Qa3:=yO l.prog w base 0 B F54;obtain⟨_,_,F55⟩:=fk X G d55 ["top","bottom"] ⋯
 have Qbt:=zEy l.prog w base 0 B F55;obtain⟨_,_,F59⟩:=fk X G d59 ["one","two"] ⋯
 have Qbp:=zEY l.prog w base 0 F59;obtain⟨_,_,F60⟩:=fk X G d60 ["cell","k"] ⋯
 have Qb2:=zHr l.prog w base 0 F60;obtain⟨_,_,F61⟩:=fk X G d61 ["kids","mix","plan"] ⋯
 have Qbx:=zDR l.prog w base 0 B F61;obtain⟨_,_,F1⟩:=fk X G d1 ["top","bottom"] ⋯
 have Qcj:=zPw l.prog w base 1 R Qay.mo F1;obtain⟨_,_,F8⟩:=fk X G d8 ["one","two"] ⋯
 have Qcd:=zIU l.prog w base 1 Qcl.mo F8;obtain⟨_,_,F9⟩:=fk X G d9 ["amount","most"] ⋯
 have Qa8:=zAd l.prog w base 1 C Qcl.mo F9;obtain⟨_,_,F12⟩:=fk X G d12 ["way","weights","claims"] ⋯
 have Qb8:=zKa l.prog w base 1 B Qa7.mo Qaz.mo Qaw.mo F12;obtain⟨_,_,F16⟩:=fk X G d16 ["way"] ⋯
 have Qa1:=wG l.prog w base 1 C Qa7.mo F16;obtain⟨_,_,F27⟩:=fk X G d27 ["custom"] ⋯
 have Qbz:=zGX l.prog w base 1 Qb1.mo F27;obtain⟨_,_,F34⟩:=fk X G d34 ["points"] ⋯
 have Qa6:=zAe l.prog w base 1 B C R Qcl.mo F34;obtain⟨_,_,F39⟩:=fk X G d39 ["line","axis","amount"] ⋯
 have Qav:=sO l.prog w base 1 B Qcl.mo F39;obtain⟨_,_,F44⟩:=fk X G d44 ["one","two"] ⋯
 have Qca:=zJo l.prog w base 1 B Qcl.mo F44;obtain⟨_,_,F48⟩:=fk X G d48 ["claims"] ⋯
 have Qa4:=zBe l.prog w base 1 C Qci.mo F48;obtain⟨_,_,F51⟩:=fk X G d51 ["joints"] ⋯
 have Qau:=rA l.prog w base 1 Qcl.mo F51;obtain⟨_,_,F56⟩:=fk X G d56 ["one","two"] ⋯
 have Qbs:=zEn l.prog w base 1 Qbt.mo F56;obtain⟨_,_,F57⟩:=fk X G d57 ["one","two"] ⋯
 have Qbn:=zBN l.prog w base 1 Qbt.mo F57;obtain⟨_,_,F58⟩:=fk X G d58 ["one","two"] ⋯
 have Qbj:=zDf l.prog w base 1 Qbt.mo F58;obtain⟨_,_,F65⟩:=fk X G d65 ["lines"] ⋯
 have Qa5:=zBn l.prog w base 1 B Qbp.mo F65;obtain⟨_,_,F3⟩:=fk X G d3 ["one","two"] ⋯
 have Qck:=zNO l.prog w base 2 Qcj.mo F3;obtain⟨_,_,F4⟩:=fk X G d4 ["one","two"] ⋯
 have Qcf:=zLv l.prog w base 2 Qcj.mo F4;obtain⟨_,_,F5⟩:=fk X G d5 ["one","two"] ⋯
 have Qcg:=zLn l.prog w base 2 Qcj.mo F5;obtain⟨_,_,F6⟩:=fk X G d6 ["one","two"] ⋯
 have Qcm:=zPt l.prog w base 2 Qcj.mo F6;obtain⟨_,_,F10⟩:=fk X G d10 ["amount","most"] ⋯
 have Qax:=sQ l.prog w base 2 R Qa8.mo F10;obtain⟨_,_,F21⟩:=fk X G d21 ["weights","claims"] ⋯
 have Qbg:=zCQ l.prog w base 2 B Qcj.mo F21;obtain⟨_,_,F19⟩:=fk X G d19 ["claims","catch"] ⋯
 have Qbk:=zBY l.prog w base 3 Qci.mo Qcd.mo Qcf.mo F19;obtain⟨_,_,F20⟩:=fk X G d20 ["weights","claims","catch"] ⋯
 have Qbb:=zBC l.prog w base 3 B C F20 (Qcc:=Qcc.mono (by decide)) (Qbg:=Qbg.mo) (Qcm:=Qcm.mo) (Qcd:=Qcd.mo) (Qcf:=Qcf.mo) (Qcg:=Qcg.mo) (Qci:=Qci.mo)
 obtain⟨_,_,F22⟩:=fk X G d22 ["claims","catch"] ⋯
 have Qbd:=zAP l.prog w base 3 B C Qci.mo Qcm.mo Qcg.mo F22;obtain⟨_,_,F35⟩:=fk X G d35 ["ahead","point","later"] ⋯
 have Qbe:=zAI l.prog w base 3 C Qcf.mo Qcg.mo F35;obtain⟨_,_,F40⟩:=fk X G d40 ["line","axis","amount"] ⋯
 have Qco:=zQg l.prog w base 3 Qcf.mo Qcm.mo Qcg.mo Qav.mo Qck.mo F40;obtain⟨_,_,F49⟩:=fk X G d49 ["weights","claims"] ⋯
 have Qa2:=xI l.prog w base 3 B C F49 (Qbg:=Qbg.mo) (Qcc:=Qcc.mono (by decide)) (Qck:=Qck.mo) (Qci:=Qci.mo) (Qcg:=Qcg.mo)
 obtain⟨_,_,F50⟩:=fk X G d50 ["joints","most"] ⋯
 have Qbw:=zEs l.prog w base 3 B Qcf.mo F50;obtain⟨_,_,F23⟩:=fk X G d23 ["claims","catch"] ⋯
 have Qbf:=zAU l.prog w base 4 B C Qcg.mo Qck.mo Qbb.mo F23;obtain⟨_,_,F33⟩:=fk X G d33 ["points"] ⋯
 have Qby:=zHs l.prog w base 4 B Qa6.mo Qbe.mo F33;obtain⟨_,_,F38⟩:=fk X G d38 ["line","x"] ⋯
 have Qce:=zKO l.prog w base 4 C Qax.mo Qco.mo Qb6.mo F38;obtain⟨_,_,F41⟩:=fk X G d41 ["one","two"] ⋯
 have Qb7:=zKB l.prog w base 5 R Qck.mo Qb6.mo Qca.mo Qby.mo Qb5.mo Qce.mo F41;obtain⟨_,_,F42⟩:=fk X G d42 ["one","two"] ⋯
 have Qcb:=zKD l.prog w base 5 C R Qco.mo Qb6.mo Qca.mo Qby.mo Qb5.mo Qce.mo Qb9.mo F42;obtain⟨_,_,F46⟩:=fk X G d46 ["joints","dealings","spot"] ⋯
 have Qb0:=zGu l.prog w base 5 B Qby.mo F46;obtain⟨_,_,F53⟩:=fk X G d53 ["claim"] ⋯
 have Qbu:=zEO l.prog w base 5 C Qci.mo Qby.mo F53;obtain⟨_,_,F47⟩:=fk X G d47 ["way","weights","claims"] ⋯
 have Qbm:=sT l.prog w base 4 B C Qci.mo Qcg.mo Qbw.mo Qa4.mo Qa2.mo Qa1.mo F47 2;obtain⟨_,_,F18⟩:=fk X G d18 ["way","weights","claims","catch"] ⋯
 have Qa0:=mG l.prog w base 5 B C Qcl.mo Qci.mo Qcf.mo Qck.mo Qbb.mo Qbk.mo Qbd.mo Qbf.mo F18 2;obtain⟨_,_,F17⟩:=fk X G d17 ["way","weights","claims","catch"] ⋯
 have Qch:=zLZ l.prog w base 8 B Qci.mo Qax.mo Qa0.mo Qb8.mo F17;obtain⟨_,_,F45⟩:=fk X G d45 ["way","weights","claims"] ⋯
 have Qbl:=zCk l.prog w base 8 B Qbm.mo Qa0.mo Qb8.mo Qau.mo Qb0.mo F45;obtain⟨_,_,F62⟩:=fk X G d62 ["custom"] ⋯
 have Qbq:=vY l.prog w base 0 B F62  10;obtain⟨_,_,F64⟩:=fk X G d64 ["custom"] ⋯
 have Qbh:=sV l.prog w base 0 F64  10;obtain⟨_,_,F63⟩:=fk X G d63 ["cells","plan","most"] ⋯
 have Qbc:=zAV l.prog w base 11 B Qbq.mo Qbx.mo Qb2.mo F63;obtain⟨_,_,F28⟩:=fk X G d28 ["custom"] ⋯
 have Qbi:=tI l.prog w base 2 Qb1.mo Qbz.mo F28 10;obtain⟨_,_,F29⟩:=fk X G d29 ["custom"] ⋯
 have Qbr:=zEP l.prog w base 13 B Qbi.mo F29;obtain⟨_,_,F30⟩:=fk X G d30 ["custom"] ⋯
 have Qa9:=zBd l.prog w base 14 Qbz.mo Qbr.mo F30;obtain⟨_,_,F32⟩:=fk X G d32 ["custom","catch"] ⋯
 have Qbo:=xC l.prog w base 15 B Qb1.mo Qbz.mo Qch.mo Qb4.mo Qba.mo Qa9.mo F32 10;obtain⟨_,_,F52⟩:=fk X G d52 ["custom"] ⋯
 have Qbv:=vF l.prog w base 15 B Qb1.mo Qbz.mo Qbr.mo Qb4.mo Qba.mo Qa9.mo Qbl.mo Qbu.mo Qcb.mo F52 10;obtain⟨_,_,F31⟩:=fk X G d31 ["custom","catch"] ⋯
 have Qb3:=zIe l.prog w base 26 Qci.mo Qax.mo Qbr.mo Qbo.mo F31;have F66:Fn K mg "law" tO ["script"] _ _:=⟨zV (st:=tO) l66 c66 k66,(zV (st:=tO) l66 c66 k66).binds (ps:=["script"]) ⋯,k66,V5 X G a66⟩
 have Qcn:=zPQ l.prog w base 27 B Qbp.mo Qby.mo Qbh.mo Qbv.mo Qa3.mo Qbc.mo Qa5.mo Qb7.mo Qb3.mo Qbn.mo Qbj.mo Qbs.mo F66;exact zOf Qcn law_true
end Lw
open PySem PySem.W PyProof.Rows
local macro_rules | `(tactic| walk_at "fk")=>`(tactic| (refine' Lw.fkm ?a ?l ?c ?k;(case a=>k_is);(case l=>k_is);(case c=>k_is);(case k=>k_is)))
set_option maxRecDepth 100000 in
set_option maxHeartbeats 0 in
theorem PySem.Challenge.cw_catchhall_k32_whole_lines_sum_up_holds : PySem.Challenge.rw_catchhall_k32_whole_lines_sum_up.Holds := by
 w_on;o_law;k_head;(case hw=>w_witness2)
 k_fill
 refine L3.zSK (l:=PySem.Challenge.rw_catchhall_k32_whole_lines_sum_up) (k:=28) rfl rfl ⟨rfl,by decide,by decide⟩ (fun w h Y=>PySem.W.km_in_of Y) (fun w h Y=>PySem.W.km_tabs_of Y _ (.head _)) ?F
 case F=>
  intro w mg fa h KX G hmg
  refine' Lw.zQH KX G hmg ?d0 ?d1 ?d2 ?d3 ?d4 ?d5 ?d6 ?d7 ?d8 ?d9 ?d10 ?a11 ?l11 ?c11 ?k11 ?tq ?tn ?d12 ?d13 ?d14 ?d15 ?d16 ?d17 ?d18 ?d19 ?d20 ?d21 ?d22 ?d23 ?d24 ?d25 ?d26 ?d27 ?d28 ?d29 ?d30 ?d31 ?d32 ?d33 ?d34 ?d35 ?d36 ?d37 ?d38 ?d39 ?d40 ?d41 ?d42 ?d43 ?d44 ?d45 ?d46 ?d47 ?d48 ?d49 ?d50 ?d51 ?d52 ?d53 ?d54 ?d55 ?d56 ?d57 ?d58 ?d59 ?d60 ?d61 ?d62 ?d63 ?d64 ?d65 ?a66 ?l66 ?c66 ?k66 ?z_abs ?z_sorted ?z_range ?z_len ?z_sum ?z_zip ?z_tuple ?z_reversed ?z_max ?z_int ?z_list ?KT ?CC ?RR ?EE
  (case a11|l11|c11|k11=>k_is)
  (case tq=>first | k_is | kernel_rfl | kn_code | decide +kernel)
  (case tn=>first | k_is | kernel_rfl | kn_code | decide +kernel)
  (case a66|l66|c66|k66=>k_is)
  (case d0|d1|d2|d3|d4|d5|d6|d7|d8|d9|d10|d12|d13|d14|d15|d16|d17|d18|d19|d20|d21|d22|d23|d24|d25|d26|d27|d28|d29|d30|d31|d32|d33|d34|d35|d36|d37|d38|d39|d40|d41|d42|d43|d44|d45|d46|d47|d48|d49|d50|d51|d52|d53|d54|d55|d56|d57|d58|d59|d60|d61|d62|d63|d64|d65=>walk_at "fk")
  (case z_abs|z_sorted|z_range|z_len|z_sum|z_zip|z_tuple|z_reversed|z_max|z_int|z_list=>k_is)
  (case KT=>refine' ⟨⟩<;>(first | kit_is | (show _=some true;kit_is) | (show _=some false;kit_is) | rfl | decide +kernel))
  (case CC=>
   intro h mg X G
   refine' Lw.zSS X G ?n_ACROSS ?n_BOAT ?n_HALF ?pHALF0_l ?n_NOUGHT ?pNOUGHT1_l ?n_UP ?n_WEIGHTED ?pWEIGHTED2_l ?n_CONTRARY ?aT<;>try first | k_is | kit_is | k_exc | rfl | decide +kernel | kernel_rfl)
  (case RR=>
   intro h mg X G
   refine' Lw.zSy X G ?n_BadClaim ?x_BadClaim ?n_BadLine ?x_BadLine ?n_BadWay ?x_BadWay ?n_BadWeights ?x_BadWeights ?n_NoFraction ?x_NoFraction ?n_Outside ?x_Outside ?n_Unlike ?x_Unlike<;>try first | k_is | kit_is | k_exc | rfl | decide +kernel | kernel_rfl)
  (case EE=>
   intro h mg X G
   refine' Lw.zSP X G )
