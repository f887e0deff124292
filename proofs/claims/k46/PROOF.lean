
import PyProof.Rows.All
import Wide.All
import OpenK.AllK
import Wide.FinOn
import Lean
import PyProof.EqAt
import PyProof.EqKinds
import PyProof.TupleCall
import PyProof.NeKinds
import KE.KRevIter
import PyProof.Rows.SumAny
import PySem.Challenge.RW_catchhall_k46_papers_looked_at
noncomputable section
set_option Elab.async false
set_option linter.all false
set_option maxRecDepth 100000
def Qb:=@Nat.le_refl
def Qc:=@List.mem_cons
def Qd:=@List.mem_cons_of_mem
def Qe:=@List.mem_cons_self
def Qf:=@List.mem_of_getElem?
def Qg:=@List.map_cons
def Qh:=@List.size_toArray
def Qi:=@List.length_map
def Qj:=@List.getElem?_eq_getElem
def Qk:=@List.length_cons
def Ql:=@List.length_append
def Qm:=@Nat.lt_of_lt_of_le
def Qn:=@List.sum_cons
def Qo:=@Nat.ne_of_lt
def Qp:=@Nat.le_trans
def Qq:=@List.getElem?_map
def Qr:=@Rat.not_lt
def Qs:=@List.getD_eq_getElem?_getD
def Qt:=@PySem.boot_len
def Qu:=@Rat.intCast_mul
def Qv:=@Int.emod_nonneg
def Qw:=@List.mem_append_right
def Qx:=@List.mem_singleton
def Qy:=@List.getElem?_eq_some_iff
def Qz:=@List.getElem?_eq_none
def Q0:=@List.not_mem_nil
def Q2:=@Int.natCast_nonneg
def Q3:=@Rat.not_le
def Q4:=@List.map_map
def Q5:=@Int.emod_lt_of_pos
def Q6:=@Rat.intCast_add
def Q7:=@List.mem_range
def Q8:=@Nat.zero_add
def Q9:=@List.map_append
def Va:=@List.length_set
def Vb:=@Int.toNat_natCast
def Vc:=@PySem.W.mg_of
def Vd:=@List.length_range
def Ve:=@Option.some.inj
def Vf:=@List.getElem?_set_ne
def Vg:=@Bool.and_eq_true
def Vh:=@List.mem_map
def Vi:=@Rat.le_refl
def Vj:=@Rat.intCast_le_intCast
def Vk:=@List.getElem?_set_self
def Vl:=@List.getElem?_append_left
def Vm:=@Int.mul_pos
def Vn:=@Bool.or_eq_true
def Vo:=@Nat.zero_le
def Vp:=@List.sum_nil
def Vq:=@PySem.W.mg_none_of
def Vr:=@Nat.lt_irrefl
def Vs:=@List.append_nil
def Vt:=@Nat.pow_le_pow_right
def Vu:=@Rat.le_of_lt
def Vv:=@Int.mul_one
def Vw:=@List.getElem?_append_right
def Vx:=@List.length_drop
def Vy:=@List.map_nil
def Vz:=@List.lookup_cons
def V0:=@List.flatMap_cons
def V3:=@List.getElem_mem
def V4:=@List.length_take
def V5:=@List.append_assoc
def V6:=@Rat.num_divInt_den
def V7:=@Nat.lt_of_le_of_lt
def V8:=@List.getElem?_range
def V9:=@List.all_eq_true
def Xa:=@List.map_congr_left
def Xb:=@List.length_nil
def Xc:=@Bool.false_eq_true
def Xd:=@Nat.lt_succ_of_lt
def Xe:=@List.take_length
def Xf:=@Rat.div_mul_cancel
def Xg:=@List.sum_append
def Xh:=@List.mem_append
def Xi:=@Array.length_toList
def Xj:=@PySem.mem_of_lookup
def Xk:=@List.replicate_succ
def Xl:=@Int.le_of_lt
def Xm:=@Int.mul_ne_zero
def Xn:=@Nat.succ_le_succ
def Xo:=@Int.le_trans
def Xp:=@Nat.lt_succ_self
def Xq:=@Int.natCast_add
def Xr:=@Rat.mul_le_mul_of_nonneg_right
def Xs:=@Int.mul_assoc
def Xt:=@Rat.add_zero
def Xu:=@List.flatMap_append
def Xv:=@List.cons.injEq
def Xw:=@Nat.le_of_lt
def Xx:=@List.nodup_cons
def Xy:=@List.length_replicate
def Xz:=@List.flatten_cons
def X0:=@List.length_singleton
def X1:=@Nat.le_of_eq
def X2:=@Int.add_mul
def X3:=@Int.mul_comm
def X4:=@Rat.divInt_eq_div
def X5:=@Nat.lt_or_eq_of_le
def X6:=@Rat.mul_lt_mul_right
def X7:=@PySem.F.excBase_ValueError
def X8:=@Bool.false_ne_true
def X9:=@Nat.ne_of_gt
def Yc:=@PyProof.Rows.callWith_type1
def Yd:=@List.of_mem_zip
def Yf:=@Int.natAbs_mul
def Yg:=@Nat.pow_add
def Yh:=@Nat.mul_lt_mul''
def Yi:=@Nat.min_self
def Yj:=@PySem.W.kia_one
def Yk:=@Nat.sub_self
def Ym:=@Int.le_refl
def Yn:=@Rat.le_of_mul_le_mul_right
def Yo:=@List.take_append_drop
def Yp:=@Nat.not_lt_zero
def Yq:=@List.mem_append_left
def Yr:=@Int.pow_pos
def Ys:=@List.take_succ
def Yt:=@List.drop_eq_nil_of_le
def Yu:=@Nat.succ.inj
def Yv:=@List.range_succ
def Yw:=@List.ext_getElem?
def Yy:=@Nat.succ_pos
def Yz:=@Rat.mul_le_mul_of_nonneg_left
def Y0:=@Rat.num_nonneg
def Y1:=@Int.toNat_of_nonneg
def Y2:=@List.filterMap_cons
def Y3:=@PyProof.Rows.slot_tuple_getitem
def Y4:=@List.nil_append
def Y5:=@Nat.le_total
def Y6:=@Int.eq_ofNat_of_zero_le
def Y7:=@List.take_of_length_le
def Y8:=@List.forIn_cons
def Y9:=@List.cons_append
def Ua:=@Int.mul_nonneg
def Ub:=@Rat.le_total
def Uc:=@Rat.le_trans
def Ud:=@Rat.mul_nonneg
def Ue:=@List.take_succ_cons
def Uf:=@List.mem_of_mem_take
def Ug:=@Nat.zero_lt_succ
def Uh:=@List.map_id'
def Ui:=@List.flatMap_def
def Uj:=@Int.natAbs_neg
def Uk:=@Int.ediv_nonneg
def Ul:=@Rat.ne_of_gt
def Um:=@PySem.W.hideAll_get
def Uo:=@List.mem_filterMap
def Uq:=@List.getElem?_replicate
def Ur:=@PySem.F.slot_tuple_add
def Us:=@PySem.F.entry_tuple_add
def Ut:=@PySem.F.args_tuple_add_2
def Uu:=@Nat.add_comm
def Uv:=@Int.gcd_dvd_left
def Uw:=@Int.gcd_dvd_right
def Ux:=@Int.one_mul
def Uy:=@Rat.divInt_mul_divInt
def Uz:=@Nat.min_eq_left
def U0:=@PySem.intBits_le_iff
def U1:=@List.eq_nil_of_length_eq_zero
def U2:=@List.drop_eq_getElem_cons
def U3:=@List.set_append_right
def U5:=@Nat.succ_ne_self
def U6:=@Nat.add_sub_cancel
def U7:=@Nat.sub_zero
def U8:=@List.toList_toArray
def U9:=@List.pairwise_map
def Wa:=@Array.size_zip
def Wb:=@List.length_zip
def Wc:=@List.Pairwise.imp_of_mem
def Wd:=@Bool.and_true
def We:=@List.mem_flatMap
def Wf:=@Int.pow_add
def Wg:=@List.drop_drop
def Wh:=@List.range_eq_range'
def Wj:=@Nat.mul_add
def Wk:=@List.mem_of_mem_drop
def Wl:=@List.map_drop
def Wm:=@List.map_take
def Wn:=@Int.ne_of_gt
def Wo:=@Int.lt_of_le_of_lt
def Wp:=@Rat.zero_mul
def Wq:=@Nat.le_of_ble_eq_true
def Wr:=@PySem.W.cellsFrom_some
def Ws:=@Option.isSome_iff_exists
def Wu:=@Int.neg_ediv_of_dvd
def Wv:=@Int.fdiv_eq_ediv_of_nonneg
def Ww:=@Int.fmod_eq_emod_of_nonneg
def Wx:=@PySem.F.plainAttrs_list
def Wz:=@Array.getElem?_eq_some_iff
def W3:=@Nat.add_sub_cancel_left
def W4:=@PySem.F.plain_list_iadd
def W5:=@List.mem_iff_getElem
def W6:=@Array.getElem?_toList
def W7:=@List.getElem?_zip_eq_some
def W8:=@Nat.lt_two_pow_self
def W9:=@List.length_pos_iff
def Qaa:=@Int.mul_le_mul_of_nonneg_left
def Qab:=@Rat.intCast_lt_intCast
def Qac:=@Rat.mul_lt_mul_left
def Qad:=@Classical.not_forall
abbrev Fg_:=PySem.W.Frag
abbrev Ja:=PySem.Value
abbrev Jb:=PySem.Shared
abbrev Jc:=PySem.Addr
abbrev Jd:=PySem.Heap
abbrev Je:=PySem.Program
abbrev Jf:=PySem.World
abbrev Jg:=PySem.Around
abbrev Jh:=PySem.Stmt
def Ji:=@decide_eq_false
def Jj:=@if_pos
def Jk:=@if_neg
def Jl:=@PySem.wpAny_Name
def Jm:=@PySem.wpAny_isTrue_Compare1
def Jn:=@PySem.wpAny_execs_nil
def Jo:=@PySem.wpAny_execs_cons
def Jp:=@PySem.wpAny_assign_Name
def Jq:=@PySem.wpAny_bind
def Jr:=@PySem.wpAny_Assign_Name
def Js:=@PySem.wpAny_passesOwn
def Jt:=@PySem.wpAny_pure
def Ju:=@PyProof.Rows.boot_range
def Jv:=@PySem.sizeLine_eq
def Jw:=@PySem.wpAny_call
def Jx:=@PySem.wpAny_Call_Name_kw
def Jy:=@PySem.concat_meets
def Jz:=@PySem.noFill_tuple_add
def J0:=@PySem.seq_tuple_add
def J1:=@PyProof.Rows.entry_tuple_getitem
def J2:=@PySem.seqIndex_of
def J3:=@PySem.seqIndex_neg
def J4:=@PyProof.Rows.subscriptTail_builtinR
def J5:=@decide_eq_true
def J6:=@PySem.wpAny_comprehension_free
def J7:=@PySem.lookup_relabel_local
def J8:=@PySem.codeAny_compStart_list
def J9:=@PySem.wpAny_pyIter_enum
def Ma:=@PyProof.Rows.wpS_bind
def Mb:=@PyProof.Rows.boot_tuple
def Mc:=@PyProof.Rows.boot_list
namespace L2
open PySem PySem.Spec PyProof.Rows
abbrev Key:=Sum Int Str
def zOZ:Key->Ja->Bool
 | .inl k,v=>Value.isInt k v
 | .inr x,v=>Value.isStrOf x v
def zTn(w:Jf):Key->Int
 | .inl k=>hashInt k
 | .inr x=>hashStr w x
def eJ:∀ {k:Key} {v:Ja},zOZ k v=true->(∃ i t,k=Sum.inl i/\v=Value.int i t)∨(∃ x t,k=Sum.inr x/\v=Value.str x t)
 | .inl i,v,h=>by
  obtain⟨t,e⟩:=Value.isInt_shape (k:=i) (v:=v) h;exact .inl ⟨i,t,rfl,e⟩
 | .inr x,v,h=>by
  obtain⟨t,e⟩:=Value.isStrOf_shape (x:=x) (v:=v) h;exact .inr ⟨x,t,rfl,e⟩
def zQq(a b:Int):decide ((Sum.inl a:Key)=Sum.inl b)=(a==b):=by
 by_cases e:a=b
 ·subst e;simp
 ·have h:¬ (Sum.inl a:Key)=Sum.inl b:=fun q=>e (Sum.inl.inj q)
  rw[Ji h];exact(beq_eq_false_iff_ne.mpr e).symm
def zRo(a b:Str):decide ((Sum.inr a:Key)=Sum.inr b)=decide (a=b):=by
 by_cases e:a=b
 ·subst e;simp
 ·have h:¬ (Sum.inr a:Key)=Sum.inr b:=fun q=>e (Sum.inr.inj q)
  rw[Ji h,Ji e]
def zPv(a:Int)(b:Str):decide ((Sum.inl a:Key)=Sum.inr b)=false:=Ji (fun q=>nomatch q)
def zPM(a:Str)(b:Int):decide ((Sum.inr a:Key)=Sum.inl b)=false:=Ji (fun q=>nomatch q)
def zJa(prog:Je)(w:Jf):PySem.KeyKind prog w Key where
 is:=zOZ
 hash:=zTn w
 inj:=fun v a b ha hb=>by
  rcases eJ ha with⟨i,t,rfl,rfl⟩ | ⟨x,t,rfl,rfl⟩
  ·rcases eJ hb with⟨j,u,rfl,e⟩ | ⟨y,u,rfl,e⟩
   ·injection e with e1 _;rw[e1]
   ·exact nomatch e
  ·rcases eJ hb with⟨j,u,rfl,e⟩ | ⟨y,u,rfl,e⟩
   ·exact nomatch e
   ·injection e with e1 _;rw[e1]
 byValue:=fun k v h=>by
  rcases eJ h with⟨i,t,rfl,rfl⟩ | ⟨x,t,rfl,rfl⟩<;>rfl
 pyHash:=fun hv h=>by
  rcases eJ hv with⟨i,t,rfl,rfl⟩ | ⟨x,t,rfl,rfl⟩
  ·exact wpAny_pyHash_int h
  ·exact wpAny_pyHash_str h
 eqBool:=fun hu hv h=>by
  rcases eJ hu with⟨i,t,rfl,rfl⟩ | ⟨x,t,rfl,rfl⟩
  ·rcases eJ hv with⟨j,u,rfl,rfl⟩ | ⟨y,u,rfl,rfl⟩
   ·rw[zQq] at h;exact wpAny_eqBool_int h
   ·rw[zPv] at h;exact SeqAt.EqAt.int_str i t y u _ _ _ _ h
  ·rcases eJ hv with⟨j,u,rfl,rfl⟩ | ⟨y,u,rfl,rfl⟩
   ·rw[zPM] at h;exact SeqAt.EqAt.str_int x t j u _ _ _ _ h
   ·rw[zRo] at h;exact wpAny_eqBool_str h
 «strs» := fun k x t v h=>by
  rcases eJ h with⟨i,u,rfl,e⟩ | ⟨y,u,rfl,e⟩
  ·exact nomatch e
  ·injection e with e1 _
   subst e1;cases v<;>rfl
inductive V where
 | non | bl (b:Bool) | int (i:Int) | str (x:Str) | byt (b:Array UInt8) | flt (b:UInt64) | ref (a:Jc) | ty (n:String)
 deriving DecidableEq
def dZ:V->Ja->Prop
 | .non,u=>u=Value.none
 | .bl b,u=>u=Value.bool b
 | .int i,u=>∃ t,u=Value.int i t
 | .str x,u=>∃ t,u=Value.str x t
 | .byt b,u=>∃ t,u=Value.bytes b t
 | .flt b,u=>∃ t,u=Value.float b t
 | .ref a,u=>u=Value.ref a
 | .ty n,u=>u=Value.type n
abbrev eV:List V->List Ja->Prop:=Paired dZ
def eV.length{xs:List V}{us:List Ja}(r:eV xs us):xs.length=us.length:=Paired.length r
def eV.get:∀ {xs:List V} {us:List Ja} {i:Nat} {x:V},eV xs us->xs[i]?=some x->∃ u,us[i]?=some u/\dZ x u
 | _,_,_,_,.nil,e=>by simp at e
 | _,_,0,_,.cons r _,e=>by simp at e;subst e;exact⟨_,rfl,r⟩
 | _,_,i+1,x,.cons _ t,e=>by
  obtain⟨u,h1,h2⟩:=eV.get (i:=i) (x:=x) t (by simpa using e)
  exact⟨u,by simpa using h1,h2⟩
def eV.set{x:V}{u:Ja}(r:dZ x u):∀ {xs:List V} {us:List Ja} (i:Nat),eV xs us->eV (xs.set i x) (us.set i u)
 | _,_,_,.nil=>.nil
 | _,_,0,.cons _ t=>.cons r t
 | _,_,i+1,.cons q t=>.cons q (eV.set r i t)
def eV.append:∀ {xs ys:List V} {us ws:List Ja},eV xs us->eV ys ws->eV (xs++ys) (us++ws)
 | _,_,_,_,.nil,s=>s
 | _,_,_,_,.cons r t,s=>.cons r (eV.append t s)
def eV.take:∀ {xs:List V} {us:List Ja} (n:Nat),eV xs us->eV (xs.take n) (us.take n)
 | _,_,0,_=>.nil
 | _,_,_+1,.nil=>.nil
 | _,_,n+1,.cons r t=>.cons r (eV.take n t)
def eV.drop:∀ {xs:List V} {us:List Ja} (n:Nat),eV xs us->eV (xs.drop n) (us.drop n)
 | _,_,0,r=>r
 | _,_,_+1,.nil=>.nil
 | _,_,n+1,.cons _ t=>eV.drop n t
def zTc:Option V->Option Ja->Prop
 | some v,some u=>dZ v u
 | none,none=>True
 | _,_=>False
def KV{r:Type}:List (r×V)->List (r×Ja)->Prop:=Paired fun(p:r×V) (q:r×Ja)=>p.1=q.1/\dZ p.2 q.2
def kV:Key->V
 | .inl i=>.int i
 | .inr x=>.str x
inductive HO where
 | lst (xs:List V)
 | tup (xs:List V)
 | dK (kvs:List (Key×V)) | dT (kvs:List (List Key×V))
 | set (S:Int->Bool) (n:Nat)
 | ins (C dx:Jc) (fs:List (Str×V))
 | own (x:Jc)
 | xd (fs:List (Str×V))
 | met (f x:Jc)
 | rng (lo hi:Int)
 | frz (o:Obj) (u:HO)
 | tbl (ps:Array Ja)
 | ext (φ:Jd->Prop)
abbrev Hp:=Jc->Option HO
def upd(H:Hp)(a:Jc)(o:HO):Hp:=fun b=>if b=a then some o else H b
def bA{H:Hp}{a:Jc}{o:HO}:upd H a o a=some o:=by unfold upd;rw[Jj rfl]
def bE{H:Hp}{a b:Jc}{o:HO}(h:b≠a):upd H a o b=H b:=by unfold upd;rw[Jk h]
def zQR{H:Hp}{a b:Jc}{o u:HO}(h:H a=some o)(h':H b=some u)(d:o≠u):a≠b:=by
 intro e;subst e;rw[h] at h';exact d (Ve h')
def bJ{H:Hp}{a b:Jc}{o:HO}(h:H a=some o)(h':H b=none):a≠b:=by
 intro e;subst e;rw[h] at h';cases h'
section
variable(P:Je)(w:Jf)
def nQ(H:Hp)(h:Jd)(a:Jc):HO->Prop
 | .lst xs=>xs.length<=sizeLine/\∃(its:List Ja)(n:Nat),eV xs its/\h.get? a=some { cls:=.type "list", data:=.seq its.toArray n }
 | .tup xs=>xs.length<=sizeLine/\∃ its:List Ja,eV xs its/\IsTup h a its.toArray
 | .dK kvs=>kvs.length<=sizeLine/\(a==sysModules)=false/\∃ vs,KV kvs vs/\h.DictOf (zJa P w) a vs
 | .dT kvs=>kvs.length<=sizeLine/\(a==sysModules)=false/\∃ xs:List (List Key×Jc×Ja),
   Paired (fun(p:List Key×V) (q:List Key×Jc×Ja)=>p.1=q.1/\H q.2.1=some (.tup (p.1.map kV))/\dZ p.2 q.2.2) kvs xs/\
   ∃ o es ep,h.get? a=some o/\o.ExactDict/\o.data=.dict es ep/\es.toList=xs.map (entryOfKey (tupleKind (zJa P w)))/\(xs.map (·.1)).Nodup
 | .set S n=>h.SetOf (intKind P w) a S n
 | .ins C dx fs=>H dx=some (.own a)/\fs.length<=1000/\dx≠a/\h.get? a=some (PySem.W.instObj C dx)/\
   ∃ mA,h.Ns1 dx mA/\(∀ f,zTc (fs.lookup f) (mA f))/\PySem.Within mA (fs.map (·.1))
 | .own _=>∃ o,h.get? a=some o
 | .xd fs=>∃ mA,h.Ns1 a mA/\∀ f,zTc (fs.lookup f) (mA f)
 | .rng lo hi=>∃ t u v,h.get? a=some { cls:=.type "range", data:=.fields #[.int lo t,.int hi u,.int 1 v] }
 | .frz o u=>h.get? a=some o/\nQ H h a u
 | .tbl ps=>h.get? a=some { cls:=.none,data:=.fields ps }
 | .met f x=>h.get? a=some (PySem.W.methodObj (.ref f) (.ref x))
 | .ext r=>r h/\(∃ o,h.get? a=some o)/\∀ h1 h2:Jd,r h1->(∀ o,h1.get? a=some o->h2.get? a=some o)->r h2
def HOk(H:Hp)(h:Jd):Prop:=∀ a o,H a=some o->nQ P w H h a o
end
section
variable{P:Je}{w:Jf}{H H':Hp}{h h':Jd}{a:Jc}{o:HO}
def nQ.lt(x:nQ P w H h a o):a<h.objs.size:=by
 cases o with
 | lst xs=>obtain⟨_,_,_,_,e⟩:=x;exact Heap.lt_size e
 | tup xs=>obtain⟨_,_,_,p⟩:=x;exact p.lt
 | dK kvs=>obtain⟨_,_,_,_,o,_,_,e,_⟩:=x;exact Heap.lt_size e
 | dT kvs=>obtain⟨_,_,_,_,o,_,_,e,_⟩:=x;exact Heap.lt_size e
 | set S n=>obtain⟨o,_,_,_,e,_⟩:=x;exact Heap.lt_size e
 | ins C dx fs=>obtain⟨_,_,_,e,_⟩:=x;exact Heap.lt_size e
 | own y=>obtain⟨_,e⟩:=x;exact Heap.lt_size e
 | xd fs=>obtain⟨_,⟨_,_,_,e,_⟩,_⟩:=x;exact Heap.lt_size e
 | rng lo hi=>obtain⟨_,_,_,e⟩:=x;exact Heap.lt_size e
 | frz ob u=>obtain⟨e,_⟩:=x;exact Heap.lt_size e
 | tbl ps=>exact Heap.lt_size (show h.get? a=some _ from x)
 | met f y=>exact Heap.lt_size (show h.get? a=some _ from x)
 | ext i=>obtain⟨_,⟨_,e⟩,_⟩:=x;exact Heap.lt_size e
def Paired.mapP{s g:Type}{F G:s->g->Prop}:∀ {l₁:List s} {l₂:List g},Paired F l₁ l₂->(∀ a b,F a b->G a b)->Paired G l₁ l₂
 | _,_,.nil,_=>.nil
 | _,_,.cons r t,f=>.cons (f _ _ r) (Paired.mapP t f)
def nQ.stay(x:nQ P w H h a o)(k:∀ b u,(b=a∨H b=some (.own a))->h.get? b=some u->h'.get? b=some u)
  (ho:∀ b,H b=some (.own a)->H' b=some (.own a)) (ht:∀ b xs,H b=some (.tup xs)->H' b=some (.tup xs)):nQ P w H' h' a o:=by
 induction o with
 | lst xs=>obtain⟨z,its,n,r,e⟩:=x;exact⟨z,its,n,r,k _ _ (.inl rfl) e⟩
 | tup xs=>obtain⟨z,its,r,ob,e,c⟩:=x;exact⟨z,its,r,ob,k _ _ (.inl rfl) e,c⟩
 | dK kvs=>obtain⟨z,y,vs,r,ob,es,ep,e,c⟩:=x;exact⟨z,y,vs,r,ob,es,ep,k _ _ (.inl rfl) e,c⟩
 | dT kvs=>
  obtain⟨z,y,xs,r,ob,es,ep,e,c⟩:=x;exact⟨z,y,xs,Paired.mapP r fun p q z=>⟨z.1,ht _ _ z.2.1,z.2.2⟩,ob,es,ep,k _ _ (.inl rfl) e,c⟩
 | set S n=>obtain⟨ob,es,ep,t,e,c⟩:=x;exact⟨ob,es,ep,t,k _ _ (.inl rfl) e,c⟩
 | ins C dx fs=>
  obtain⟨d,z,ne,e,mA,⟨od,es,ep,e2,c⟩,r⟩:=x;exact⟨ho _ d,z,ne,k _ _ (.inl rfl) e,mA,⟨od,es,ep,k _ _ (.inr d) e2,c⟩,r⟩
 | own y=>obtain⟨ob,e⟩:=x;exact⟨ob,k _ _ (.inl rfl) e⟩
 | xd fs=>obtain⟨mA,⟨od,es,ep,e,c⟩,r⟩:=x;exact⟨mA,⟨od,es,ep,k _ _ (.inl rfl) e,c⟩,r⟩
 | rng lo hi=>obtain⟨t,u,v,e⟩:=x;exact⟨t,u,v,k _ _ (.inl rfl) e⟩
 | frz ob u ih=>obtain⟨e,q⟩:=x;exact⟨k _ _ (.inl rfl) e,ih q⟩
 | tbl ps=>
  have e:h.get? a=some { cls:=.none,data:=.fields ps }:=x;show h'.get? a=some { cls:=.none,data:=.fields ps }
  exact k a _ (.inl rfl) e
 | met f y=>
  have e:h.get? a=some (PySem.W.methodObj (.ref f) (.ref y)):=x;show h'.get? a=some (PySem.W.methodObj (.ref f) (.ref y))
  exact k a _ (.inl rfl) e
 | ext i=>obtain⟨p,⟨o,e⟩,st⟩:=x;exact⟨st _ _ p fun o q=>k _ _ (.inl rfl) q,⟨o,k _ _ (.inl rfl) e⟩,st⟩
def HOk.lt(x:HOk P w H h)(e:H a=some o):a<h.objs.size:=(x a o e).lt
def HOk.fresh(x:HOk P w H h)(e:h.objs.size<=a):H a=none:=by
 cases q:H a with
 | none=>rfl
 | some u=>exact absurd (Qm (x.lt q) e) (Vr _)
def HOk.kept(x:HOk P w H h)(k:∀ b u,h.get? b=some u->h'.get? b=some u):HOk P w H h':=fun a o e=>
 (x a o e).stay (fun b u _ q=>k b u q) (fun _ q=>q) fun _ _ q=>q
def HOk.laid(x:HOk P w H h)(k:∀ b u,h.get? b=some u->h'.get? b=some u)(hp:h.objs.size<=a)(new:nQ P w (upd H a o) h' a o):HOk P w (upd H a o) h':=fun b u e=>by
 have hn:=x.fresh hp;by_cases hb:b=a
 ·subst hb;rw[bA] at e;cases e;exact new
 ·rw[bE hb] at e
  exact(x b u e).stay (fun c v _ q=>k c v q) (fun c q=>by rw[bE (bJ q hn)];exact q) fun c xs q=>by rw[bE (bJ q hn)];exact q
end
def Rd(H:Hp)(a:Jc)(u:HO):Prop:=H a=some u∨∃ o,H a=some (.frz o u)
def Rd.ok{P:Je}{w:Jf}{H:Hp}{h:Jd}{a:Jc}{u:HO}(r:Rd H a u)(x:HOk P w H h):nQ P w H h a u:=by
 rcases r with r | ⟨o,r⟩
 ·exact x a u r
 ·obtain⟨_,q⟩:=x a _ r
  exact q
def Mut:Option HO->Prop
 | some (.lst _)=>True
 | some (.dK _)=>True
 | some (.dT _)=>True
 | some (.set _ _)=>True
 | some (.ins _ _ _)=>True
 | some (.ext _)=>True
 | _=>False
section
variable{P:Je}{w:Jf}{H:Hp}{h h':Jd}{x e:Jc}{o':HO}
def HOk.write(ok:HOk P w H h)(mu:Mut (H x))(he:e=x∨H e=some (.own x))(k:∀ b u,b≠e->h.get? b=some u->h'.get? b=some u)(heo:∃ u,h'.get? e=some u)
  (new:nQ P w (upd H x o') h' x o'):HOk P w (upd H x o') h':=fun b u q=>by
 have nown:∀ c y,H c=some (.own y)->c≠x:=fun c y r z=>by subst z;rw[r] at mu;exact mu
 have ntup:∀ c xs,H c=some (.tup xs)->c≠x:=fun c xs r z=>by subst z;rw[r] at mu;exact mu
 by_cases hb:b=x
 ·subst hb;rw[bA] at q;cases q;exact new
 ·rw[bE hb] at q
  by_cases hbe:b=e
  ·have q':H b=some (.own x):=by
    rcases he with z | z
    ·exact absurd (hbe.trans z) hb
    ·rw[hbe];exact z
   rw[q] at q';cases q'
   obtain⟨v,hv⟩:=heo;exact⟨v,by rw[hbe];exact hv⟩
  ·refine(ok b u q).stay (fun c v hc r=>k c v ?_ r) (fun c r=>by rw[bE (nown c b r)];exact r) fun c xs r=>by rw[bE (ntup c xs r)];exact r
   rcases hc with rfl | hc
   ·exact hbe
   ·rintro rfl
    rcases he with z | z
    ·exact nown c b hc z
    ·rw[hc] at z;cases z;exact hb rfl
end
structure Un (fs ex:List Jc) (H H':Hp) (h h':Jd):Prop where
 keep:∀ b o,h.get? b=some o->H b=none->b∉fs->b∉ex->h'.get? b=some o
 slot:∀ b o,h.get? b=some o->H b=none->b∈fs->b∉ex->∃ sl,h'.get? b=some { o with slots:=sl }
 free:∀ b o,h.get? b=some o->H b=none->b∉ex->H' b=none
 there:∀ b o,h.get? b=some o->b∉ex->∃ o',h'.get? b=some o'
 tups:∀ b xs,H b=some (.tup xs)->H' b=some (.tup xs)
 frzs:∀ b o u,H b=some (.frz o u)->H' b=some (.frz o u)
 tbls:∀ b ps,H b=some (.tbl ps)->∃ more,H' b=some (.tbl (ps++more))
section
variable{fs fs' ex ex':List Jc}{H H1 H2:Hp}{h h1 h2 h':Jd}{a x e:Jc}{o:HO}
def Un.any(u:Un fs ex H H1 h h1){b:Jc}{ob:Obj}(q:h.get? b=some ob)(n:H b=none)(hx:b∉ex):∃ sl,h1.get? b=some { ob with slots:=sl }:=by
 by_cases hb:b∈fs
 ·exact u.slot b ob q n hb hx
 ·exact⟨ob.slots,u.keep b ob q n hb hx⟩
def Un.kept(k:∀ b u,h.get? b=some u->h'.get? b=some u):Un fs ex H H h h':=
 ⟨fun b ob q _ _ _=>k b ob q,fun b ob q _ _ _=>⟨ob.slots,k b ob q⟩,fun _ _ _ n _=>n,fun b ob q _=>⟨ob,k b ob q⟩,fun _ _ q=>q,fun _ _ _ q=>q,fun _ ps q=>⟨#[],by rw[q];simp⟩⟩
def Un.refl:Un fs ex H H h h:=Un.kept fun _ _ q=>q
def Un.laid(k:∀ b u,h.get? b=some u->h'.get? b=some u)(hp:h.objs.size<=a)(hn:H a=none):Un fs ex H (upd H a o) h h' where
 keep:=fun b u q _ _ _=>k b u q
 slot:=fun b u q _ _ _=>⟨u.slots,k b u q⟩
 free:=fun b u q n _=>by rw[bE (Qo (Qm (Heap.lt_size q) hp))];exact n
 there:=fun b u q _=>⟨u,k b u q⟩
 tups:=fun b xs q=>by rw[bE (bJ q hn)];exact q
 frzs:=fun b u xs q=>by rw[bE (bJ q hn)];exact q
 tbls:=fun b ps q=>⟨#[],by rw[bE (bJ q hn),q];simp⟩
def Un.write(mu:Mut (H x))(he:e=x∨H e=some (.own x))(k:∀ b u,b≠e->h.get? b=some u->h'.get? b=some u)(heo:∃ u,h'.get? e=some u):Un fs ex H (upd H x o) h h':=by
 have hx:∀ b,H b=none->b≠x:=fun b n z=>by subst z;rw[n] at mu;exact mu
 have hb:∀ b,H b=none->b≠e:=fun b n z=>by
  subst z;rcases he with r | r
  ·exact hx b n r
  ·rw[n] at r;cases r
 have hm:∀ b u,H b=some u->¬ Mut (some u)->b≠x:=fun b u q nm z=>by subst z;rw[q] at mu;exact nm mu
 refine⟨fun b u q n _ _=>k b u (hb b n) q,fun b u q n _ _=>⟨u.slots,k b u (hb b n) q⟩,fun b u q n _=>by rw[bE (hx b n)];exact n,fun b u q _=>?_,
  fun b xs q=>by rw[bE (hm b _ q fun z=>z)];exact q,fun b u xs q=>by rw[bE (hm b _ q fun z=>z)];exact q,fun b ps q=>⟨#[],by rw[bE (hm b _ q fun z=>z),q];simp⟩⟩
 by_cases hbe:b=e
 ·subst hbe;exact heo
 ·exact⟨u,k b u hbe q⟩
end
def trk(h:Jd)(H:Hp):List Jc:=(List.range h.objs.size).filter fun a=>(H a).isSome
def zKs(h:Jd)(H:Hp):Jd:=PySem.W.hideAll h (trk h H)
def zIN(h:Jd)(H:Hp):(zKs h H).objs.size=h.objs.size:=PySem.W.hideAll_size _ _
def zLA{h:Jd}{H:Hp}{b:Jc}{o:Obj}(e:h.get? b=some o)(n:H b=none):(zKs h H).get? b=some o:=
 Um _ e fun hm=>by
  have q:(H b).isSome=true:=(List.mem_filter.mp hm).2;rw[n] at q;simp at q
def zOC{h:Jd}{H:Hp}{b:Jc}{o:Obj}(e:(zKs h H).get? b=some o):h.get? b=some o/\H b=none:=by
 have e':h.get? b=some o:=PySem.W.of_hideAll (trk h H) e;refine⟨e',?_⟩
 cases q:H b with
 | none=>rfl
 | some x=>
  have hm:b∈trk h H:=List.mem_filter.mpr ⟨Q7.mpr (Heap.lt_size e'),by simp[q]⟩
  have z:(zKs h H).get? b=none:=PySem.W.hideAll_none (trk h H) hm;rw[z] at e;cases e
def zOE(g h:Jd)(L:Jc):List (Jc×Obj):=(List.range h.objs.size).filterMap fun a=>if a=L∨(g.get? a).isSome=true then none else (h.get? a).map fun o=>(a,o)
def rest(g h:Jd)(L d:Jc):List (Jc×Obj):=(zOE g h L).filter fun p=>decide (p.1≠d)
structure Mod (K:PySem.W.Frag) (mg:Str->Option Ja) (base:Jd):Prop where
 kin:K.In base
 glob:base.Ns mainGlobals mg
 blt:∃ mb,base.Ns builtinsNs mb/\∀ x:Str,x ≠ "__name__" -> mb x=bootBuiltins x
 nolimit:base.NoLimit
structure Cx where
 prog:Je
 w:Jf
 K:PySem.W.Frag
 mg:Str->Option Ja
 base:Jd
 A:Jg
 N:List Str
 s₀:Jb
 H₀:Hp
 env:Env
 outer:List Env
 stack:List Env
 ex:List Jc
 fn:Str->Bool
 calm:Bool
 pn:List (Jc×Obj)
 xe:Ja->Jb->Prop
def frs(l:List Env):List Jc:=l.filterMap (·.frame)
abbrev Cx.fs(X:Cx):List Jc:=frs X.outer
def Vis(sc:Scope)(x:Str):Prop:=sc.names.lookup x=some .local∨sc.names.lookup x=some .cell∨sc.names.lookup x=some .free
def Loc(sc:Scope)(x:Str):Prop:=sc.names.lookup x=some .local∨sc.names.lookup x=some .cell
def zTK(env:Env)(h:Jd)(m:Str->Option Ja)(x:Str)(u:Ja):Prop:=
 (env.kindOf x=some .local/\m x=some u)∨((env.kindOf x=some .cell∨env.kindOf x=some .free)/\∃ c,env.cells.lookup x=some c/\h.IsCell c (some u))
structure Cx.Ok (X:Cx):Prop where
 mod:Mod X.K X.mg X.base
 kind:X.env.scope.kind=.function
 glob:X.env.globals=mainGlobals
 blt:X.env.builtins=builtinsNs
 above:X.s₀.heap.objs.size<=X.env.locals
 inj:∀ x y c,X.env.cells.lookup x=some c->X.env.cells.lookup y=some c->x=y
 has:∀ x,(X.env.kindOf x=some .cell∨X.env.kindOf x=some .free)->∃ c,X.env.cells.lookup x=some c
 cab:∀ x c,X.fn x=true->X.env.cells.lookup x=some c->X.s₀.heap.objs.size<=c
 hd:X.calm=true->X.A.handled=none
 frames:X.A.frames=some X.stack
 stk:X.stack=X.outer∨(X.stack=X.env::X.outer/\X.env.frame=some X.env.locals)
 exf:∀ b∈X.ex,b≠X.env.locals/\∀ x c,X.env.cells.lookup x=some c->c≠b
 bs:∀ b o,X.base.get? b=some o->X.s₀.heap.get? b=some o/\X.H₀ b=none
 bsz:X.base.objs.size<=X.s₀.heap.objs.size
 noex:∀ b o,X.base.get? b=some o->b∉X.ex
 exfs:∀ b∈X.ex,b∉X.fs
 funs:X.s₀.heap.FunFrames X.base X.outer
 frf:∀ b∈X.fs,X.H₀ b=none
structure Inv (X:Cx) (Md:List (Jc×Obj)) (σ:List (Option V)) (H:Hp) (s:Jb):Prop where
 ok:X.Ok
 os:s.os=X.s₀.os
 bare:AllBare s.gens
 base:Un X.fs X.ex X.H₀ H X.s₀.heap s.heap
 loc:∃ m,s.heap.Ns X.env.locals m/\∀(i:Nat)(x:Str)(v:V),X.N[i]?=some x->σ[i]?=some (some v)->Vis X.env.scope x->∃ u,dZ v u/\zTK X.env s.heap m x u
 cell:∀ x c,X.env.cells.lookup x=some c->∃ v,s.heap.IsCell c v
 free:H X.env.locals=none
 freeC:∀ x c,X.env.cells.lookup x=some c->H c=none
 pin:∀ p∈X.pn++Md,s.heap.get? p.1=some p.2/\H p.1=none/\p.1≠X.env.locals/\p.1∉X.fs/\∀ v,p.2.data≠.cell v
 hok:HOk X.prog X.w H s.heap
 len:σ.length=X.N.length
section
variable{X:Cx}{Md:List (Jc×Obj)}{σ:List (Option V)}{H H':Hp}{s:Jb}{h':Jd}
def Cx.Ok.nofr(ok:X.Ok){b:Jc}{o:Obj}(e:X.base.get? b=some o):b∉X.fs:=fun hb=>by
 have:=(ok.funs.mem hb).1
 rw[e] at this;cases this
def Inv.bs(I:Inv X Md σ H s):∀ b o,X.base.get? b=some o->s.heap.get? b=some o/\H b=none:=fun b o e=>
 ⟨I.base.keep b o (I.ok.bs b o e).1 (I.ok.bs b o e).2 (I.ok.nofr e) (I.ok.noex b o e),I.base.free b o (I.ok.bs b o e).1 (I.ok.bs b o e).2 (I.ok.noex b o e)⟩
def Inv.bk(I:Inv X Md σ H s):∀ b o,X.base.get? b=some o->s.heap.get? b=some o:=fun b o e=>(I.bs b o e).1
def Inv.mod(I:Inv X Md σ H s):Mod X.K X.mg X.base:=I.ok.mod
def Inv.kIn(I:Inv X Md σ H s):X.K.In s.heap:=I.ok.mod.kin.keeps I.bk
def Inv.lt(I:Inv X Md σ H s):X.env.locals<s.heap.objs.size:=let ⟨_,hn,_⟩:=I.loc;hn.lt
def Inv.sz(I:Inv X Md σ H s):X.s₀.heap.objs.size<=s.heap.objs.size:=Qp I.ok.above (Xw I.lt)
def Inv.nofs(I:Inv X Md σ H s){a:Jc}(h:s.heap.objs.size<=a):a∉X.fs:=fun hb=>by
 obtain⟨_,o,ho,_⟩:=I.ok.funs.mem hb;exact absurd (Qm (Heap.lt_size ho) (Qp I.sz h)) (Vr _)
def Inv.cne(I:Inv X Md σ H s):∀ x c,X.env.cells.lookup x=some c->c≠X.env.locals:=fun x c e z=>by
 obtain⟨v,o,ho,hd⟩:=I.cell x c e;obtain⟨m,⟨o',es,ep,ho',hd',_⟩,_⟩:=I.loc;rw[z,ho'] at ho;cases ho;rw[hd'] at hd;cases hd
def Inv.funs(I:Inv X Md σ H s):s.heap.FunFrames X.base X.outer:=by
 have all:∀(l:List Env),(∀ b∈frs l,b∈X.fs)->X.s₀.heap.FunFrames X.base l->s.heap.FunFrames X.base l:=by
  intro l
  induction l with
  | nil=>intro _ _;trivial
  | cons env r ih=>
   intro hs hl;obtain⟨hk,⟨L,o,hf,hn,ho,hd⟩,hr⟩:=hl;have hL:L∈X.fs:=hs L (by unfold frs;rw[Y2,hf];exact Qe)
   obtain⟨sl,e⟩:=I.base.slot L o ho (I.ok.frf L hL) hL fun z=>I.ok.exfs L z hL
   exact⟨hk,⟨L,_,hf,hn,e,hd⟩,ih (fun b hb=>hs b (by unfold frs;rw[Y2,hf];exact Qd _ hb)) hr⟩
 exact all X.outer (fun _ hb=>hb) I.ok.funs
def Inv.stack(I:Inv X Md σ H s):s.heap.FunFrames X.base X.stack:=by
 rcases I.ok.stk with e | ⟨e,hf⟩
 ·rw[e];exact I.funs
 ·rw[e]
  obtain⟨m,hn,_⟩:=I.loc;refine .cons (by rw[I.ok.kind];decide) hf hn ?_ I.funs
  exact Heap.get?_none_of_le (Qp I.ok.bsz I.ok.above)
def Inv.stkSub(I:Inv X Md σ H s):∀ b∈frs X.stack,b∈X.env.locals::X.fs:=fun b hb=>by
 rcases I.ok.stk with e | ⟨e,hf⟩
 ·rw[e] at hb;exact Qd _ hb
 ·rw[e] at hb
  unfold frs at hb;rw[Y2,hf] at hb;exact hb
def Inv.stkFree(I:Inv X Md σ H s):∀ b∈frs X.stack,H b=none:=fun b hb=>by
 rcases Qc.mp (I.stkSub b hb) with e | hb
 ·rw[e];exact I.free
 ·obtain⟨_,o,ho,_⟩:=I.ok.funs.mem hb
  exact I.base.free b o ho (I.ok.frf b hb) fun z=>I.ok.exfs b z hb
def Inv.step{g':Array GenState}{t':Nat}{d':Drawn}{ch:List Jc}(I:Inv X Md σ H s)
  (hch:∀ b∈ch,(b∈X.ex∨X.s₀.heap.objs.size<=b)/\b≠X.env.locals/\(∀ x c,X.env.cells.lookup x=some c->c≠b)/\∀ p∈X.pn++Md,p.1≠b)
  (keep:∀ b o,b≠X.env.locals->b∉X.fs->b∉ch->s.heap.get? b=some o->H b=none->h'.get? b=some o)
  (slot:∀ b o,b≠X.env.locals->b∈X.fs->b∉ch->s.heap.get? b=some o->H b=none->∃ sl,h'.get? b=some { o with slots:=sl }) (free:∀ b o,b∉ch->s.heap.get? b=some o->H b=none->H' b=none)
  (there:∀ b o,b∉ch->s.heap.get? b=some o->∃ o',h'.get? b=some o')
  (tups:∀ b xs,H b=some (.tup xs)->H' b=some (.tup xs)) (frzs:∀ b o u,H b=some (.frz o u)->H' b=some (.frz o u)) (tbls:∀ b ps,H b=some (.tbl ps)->∃ more,H' b=some (.tbl (ps++more)))
  (ns:∀ m,s.heap.Ns X.env.locals m->h'.Ns X.env.locals m) (hok:HOk X.prog X.w H' h') (hg:AllBare g'):
  Inv X Md σ H' { s with heap:=h',gens:=g',drawn:=d',toks:=t' }:=by
 have neL:∀ b o,X.s₀.heap.get? b=some o->b≠X.env.locals:=fun b o e=>Qo (Qm (Heap.lt_size e) I.ok.above)
 have neC:∀ b o,X.s₀.heap.get? b=some o->b∉X.ex->b∉ch:=fun b o e hx hb=>by
  rcases (hch b hb).1 with z | z
  ·exact hx z
  ·exact absurd (Qm (Heap.lt_size e) z) (Vr _)
 have cellK:∀ x c,X.env.cells.lookup x=some c->∀ v,s.heap.IsCell c v->h'.IsCell c v:=fun x c e v ⟨o,ho,hd⟩=>by
  have nch:c∉ch:=fun z=>(hch c z).2.2.1 x c e rfl
  by_cases hc:c∈X.fs
  ·obtain⟨sl,q⟩:=slot c o (I.cne x c e) hc nch ho (I.freeC x c e)
   exact⟨_,q,hd⟩
  ·exact⟨o,keep c o (I.cne x c e) hc nch ho (I.freeC x c e),hd⟩
 refine⟨I.ok,I.os,hg,⟨fun b o e n hb hx=>?_,fun b o e n hb hx=>?_,fun b o e n hx=>?_,fun b o e hx=>?_,fun b xs e=>tups b xs (I.base.tups b xs e),fun b o xs e=>frzs b o xs (I.base.frzs b o xs e),fun b ps e=>?_⟩,?_,fun x c e=>?_,?_,fun x c e=>?_,fun p hp=>?_,hok,I.len⟩
 ·exact keep b o (neL b o e) hb (neC b o e hx) (I.base.keep b o e n hb hx) (I.base.free b o e n hx)
 ·obtain⟨sl,e1⟩:=I.base.slot b o e n hb hx
  obtain⟨sl',e2⟩:=slot b _ (neL b o e) hb (neC b o e hx) e1 (I.base.free b o e n hx);exact⟨sl',e2⟩
 ·obtain⟨o',e1⟩:=I.base.there b o e hx
  exact free b o' (neC b o e hx) e1 (I.base.free b o e n hx)
 ·obtain⟨o',e1⟩:=I.base.there b o e hx
  exact there b o' (neC b o e hx) e1
 ·obtain⟨m1,e1⟩:=I.base.tbls b ps e
  obtain⟨m2,e2⟩:=tbls b _ e1;exact⟨m1++m2,by rw[e2,Array.append_assoc]⟩
 ·obtain⟨m,hn,hl⟩:=I.loc
  refine⟨m,ns m hn,fun i x v e1 e2 e3=>?_⟩
  obtain⟨u,r,l⟩:=hl i x v e1 e2 e3;refine⟨u,r,?_⟩
  rcases l with l | ⟨k,c,e,z⟩
  ·exact .inl l
  ·exact .inr ⟨k,c,e,cellK x c e _ z⟩
 ·obtain⟨v,z⟩:=I.cell x c e
  exact⟨v,cellK x c e v z⟩
 ·obtain⟨m,⟨o,_,_,ho,_⟩,_⟩:=I.loc
  exact free _ o (fun z=>(hch _ z).2.1 rfl) ho I.free
 ·obtain⟨v,o,ho,hd⟩:=I.cell x c e
  exact free c o (fun z=>(hch c z).2.2.1 x c e rfl) ho (I.freeC x c e)
 ·obtain⟨e,n,ne,nf,d⟩:=I.pin p hp
  have nch:p.1∉ch:=fun z=>(hch p.1 z).2.2.2 p hp rfl
  exact⟨keep p.1 p.2 ne nf nch e n,free p.1 p.2 nch e n,ne,nf,d⟩
def Inv.un{t':Nat}(I:Inv X Md σ H s)(u:Un X.fs [] H H' s.heap h')(hok:HOk X.prog X.w H' h'):Inv X Md σ H' { s with heap:=h',toks:=t' }:=by
 obtain⟨m,⟨o,es,ep,ho,r⟩,_⟩:=id I.loc;obtain⟨sl,hL⟩:=u.any ho I.free (by simp)
 exact I.step (g':=s.gens) (d':=s.drawn) (ch:=[]) (fun _ z=>nomatch z) (fun b o _ hb _ e n=>u.keep b o e n hb (by simp)) (fun b o _ hb _ e n=>u.slot b o e n hb (by simp)) (fun b o _ e n=>u.free b o e n (by simp)) (fun b o _ e=>u.there b o e (by simp)) u.tups u.frzs u.tbls (fun m' hm=>by
  obtain⟨o',es',ep',ho',r'⟩:=hm;rw[ho] at ho';cases ho'
  exact⟨_,es',ep',hL,r'⟩) hok I.bare
def Inv.call{g':Array GenState}{t':Nat}{d':Drawn}{ch:List Jc}(I:Inv X Md σ H s)(u:Un (frs X.stack) ch H H' s.heap h')(hok:HOk X.prog X.w H' h')(hg:AllBare g')
  (hch:∀ b∈ch,(b∈X.ex∨X.s₀.heap.objs.size<=b)/\b≠X.env.locals/\(∀ x c,X.env.cells.lookup x=some c->c≠b)/\∀ p∈X.pn++Md,p.1≠b):
  Inv X Md σ H' { s with heap:=h',gens:=g',drawn:=d',toks:=t' }:=by
 obtain⟨m,⟨o,es,ep,ho,r⟩,_⟩:=id I.loc;obtain⟨sl,hL⟩:=u.any ho I.free fun z=>(hch _ z).2.1 rfl
 exact I.step (ch:=ch) hch (fun b o hL hb hc e n=>u.keep b o e n (fun z=>(Qc.mp (I.stkSub b z)).elim hL hb) hc) (fun b o _ _ hc e n=>u.any e n hc) (fun b o hc e n=>u.free b o e n hc) (fun b o hc e=>u.there b o e hc) u.tups u.frzs u.tbls (fun m' hm=>by
  obtain⟨o',es',ep',ho',r'⟩:=hm;rw[ho] at ho';cases ho'
  exact⟨_,es',ep',hL,r'⟩) hok hg
def Inv.turned{t':Nat}{it:Jc}(I:Inv X Md σ H s)(k:∀ b o,b≠it->s.heap.get? b=some o->h'.get? b=some o)(hn:H it=none)(hL:it≠X.env.locals)
  (h1:it∈X.ex∨X.s₀.heap.objs.size<=it) (h2:∀ x c,X.env.cells.lookup x=some c->c≠it) (h3:∀ p∈X.pn++Md,p.1≠it):Inv X Md σ H { s with heap:=h',toks:=t' }:=by
 have nit:∀ b u,H b=some u->b≠it:=fun b u e z=>by rw[z,hn] at e;cases e
 refine I.step (g':=s.gens) (d':=s.drawn) (ch:=[it]) (fun b hb=>?_) (fun b o _ _ hc e _=>k b o (fun z=>hc (by simp[z])) e) (fun b o _ _ hc e _=>⟨o.slots,k b o (fun z=>hc (by simp[z])) e⟩) (fun _ _ _ _ n=>n)
  (fun b o hc e=>⟨o,k b o (fun z=>hc (by simp[z])) e⟩) (fun _ _ e=>e) (fun _ _ _ e=>e) (fun b ps e=>⟨#[],by rw[e];simp⟩) (fun m hm=>?_) (fun b u e=>?_) I.bare
 ·have e:b=it:=by simpa using hb
  subst e;exact⟨h1,hL,h2,h3⟩
 ·obtain⟨o,es,ep,ho,r⟩:=hm
  exact⟨o,es,ep,k _ o (Ne.symm hL) ho,r⟩
 ·refine(I.hok b u e).stay (fun c v hc q=>k c v ?_ q) (fun _ q=>q) fun _ _ q=>q
  rcases hc with z | z
  ·rw[z];exact nit b u e
  ·exact nit c _ z
def Inv.tok(I:Inv X Md σ H s)(t:Nat):Inv X Md σ H { s with toks:=t }:=I.un (h':=s.heap) (t':=t) Un.refl I.hok
def Inv.kept{t':Nat}(I:Inv X Md σ H s)(k:∀ b u,s.heap.get? b=some u->h'.get? b=some u):Inv X Md σ H { s with heap:=h',toks:=t' }:=I.un (Un.kept k) (I.hok.kept k)
def Inv.laid{a:Jc}{o:HO}{t':Nat}(I:Inv X Md σ H s)(k:∀ b u,s.heap.get? b=some u->h'.get? b=some u)(hp:s.heap.objs.size<=a)(new:nQ X.prog X.w (upd H a o) h' a o):
  Inv X Md σ (upd H a o) { s with heap:=h',toks:=t' }:=I.un (Un.laid k hp (I.hok.fresh hp)) (I.hok.laid k hp new)
def Inv.write{x e:Jc}{o:HO}{t':Nat}(I:Inv X Md σ H s)(mu:Mut (H x))(he:e=x∨H e=some (.own x))(k:∀ b u,b≠e->s.heap.get? b=some u->h'.get? b=some u)(heo:∃ u,h'.get? e=some u)
  (new:nQ X.prog X.w (upd H x o) h' x o):Inv X Md σ (upd H x o) { s with heap:=h',toks:=t' }:=I.un (Un.write mu he k heo) (I.hok.write mu he k heo new)
def Inv.pins_of{pins':List (Jc×Obj)}(I:Inv X Md σ H s)(h:∀ p∈pins',s.heap.get? p.1=some p.2/\H p.1=none/\p.1≠X.env.locals/\p.1∉X.fs/\∀ v,p.2.data≠.cell v):Inv X pins' σ H s:=
 ⟨I.ok,I.os,I.bare,I.base,I.loc,I.cell,I.free,I.freeC,fun p hp=>(Xh.mp hp).elim (fun z=>I.pin p (Yq _ z)) (h p),I.hok,I.len⟩
def zFK{N:List Str}(hN:N.Nodup){i j:Nat}{x:Str}(a:N[i]?=some x)(b:N[j]?=some x):i=j:=by
 obtain⟨h1,e1⟩:=Qy.mp a;obtain⟨h2,e2⟩:=Qy.mp b;exact(List.getElem_inj hN).mp (e1.trans e2.symm)
def zDc{M:Model}{A:Jg}{E:Ja->Jb->Prop}{i:Nat}{x:Str}{v:V}{u:Ja}{Q:Unit->Jb->Prop}(I:Inv X Md σ H s)(hN:X.N.Nodup)(hi:X.N[i]?=some x)(hx:Loc X.env.scope x)(r:dZ v u)
  (h:∀ s',Inv X Md (σ.set i (some v)) H s'->(∃ a,Heap.SameBut a s.heap s'.heap/\(a=X.env.locals∨X.env.cells.lookup x=some a))->Q () s') (hf:X.fn x=true∨X.env.scope.names.lookup x=some .local:=by first | exact .inl rfl | exact .inr rfl | assumption):wpAny M A (storeName X.env x u) Q E s:=by
 obtain⟨m,hn,hl⟩:=id I.loc;have hcls:(X.env.scope.kind==.class || (X.env.scope.kind==.module && X.env.locals != X.env.globals))=false:=by rw[I.ok.kind];rfl
 have hiσ:i<σ.length:=by rw[I.len];exact(Qy.mp hi).1
 have cne:=I.cne
 have tracked:∀ {a:Jc} {h':Jd},(∃ o,s.heap.get? a=some o/\H a=none)->Heap.SameBut a s.heap h'->HOk X.prog X.w H h':=fun {a h'} ha hs b ob e=>by
  obtain⟨_,_,hfree⟩:=ha;refine(I.hok b ob e).stay (fun c w' hc q=>(hs.2 c ?_).trans q) (fun _ q=>q) fun _ _ q=>q
  rintro rfl
  rcases hc with rfl | hc
  ·rw[hfree] at e;cases e
  ·rw[hfree] at hc;cases hc
 rcases hx with hk | hk
 ·refine wpAny_storeName_local hk hn (fun h' hn' hs=>?_) hcls
  obtain⟨oL,_,_,hoL,_⟩:=id hn;refine h _ ⟨I.ok,I.os,I.bare,⟨fun b o e n hb hx=>?_,fun b o e n hb hx=>?_,I.base.free,fun b o e hx=>?_,I.base.tups,I.base.frzs,I.base.tbls⟩,⟨_,hn',fun j y v' e1 e2 e3=>?_⟩,fun y c e=>?_,I.free,I.freeC,fun p hp=>?_,tracked ⟨oL,hoL,I.free⟩ hs,by simpa using I.len⟩ ⟨_,hs,.inl rfl⟩
  ·exact(hs.2 b (Qo (Qm (Heap.lt_size e) I.ok.above))).trans (I.base.keep b o e n hb hx)
  ·obtain⟨sl,e1⟩:=I.base.slot b o e n hb hx
   exact⟨sl,(hs.2 b (Qo (Qm (Heap.lt_size e) I.ok.above))).trans e1⟩
  ·obtain⟨o',e1⟩:=I.base.there b o e hx
   exact⟨o',(hs.2 b (Qo (Qm (Heap.lt_size e) I.ok.above))).trans e1⟩
  ·by_cases hj:j=i
   ·subst hj
    rw[hi] at e1;cases e1
    rw[Vk hiσ] at e2;cases e2;exact⟨u,r,.inl ⟨hk,by simp⟩⟩
   ·rw[Vf (Ne.symm hj)] at e2
    obtain⟨u',r',q⟩:=hl j y v' e1 e2 e3;refine⟨u',r',?_⟩
    rcases q with⟨k,e⟩ | ⟨k,c,e,z⟩
    ·refine .inl ⟨k,?_⟩
     have:y≠x:=fun e=>hj (zFK hN e1 (e ▸ hi))
     simp[this,e]
    ·exact .inr ⟨k,c,e,z.sameBut hs (cne y c e)⟩
  ·obtain⟨w',z⟩:=I.cell y c e
   exact⟨w',z.sameBut hs (cne y c e)⟩
  ·obtain⟨e,n,ne,nf,d⟩:=I.pin p hp
   exact⟨(hs.2 p.1 ne).trans e,n,ne,nf,d⟩
 ·have hfn:X.fn x=true:=by
   rcases hf with z | z
   ·exact z
   ·rw[z] at hk;cases hk
  obtain⟨c,hc⟩:=I.ok.has x (.inl hk);obtain⟨w',z⟩:=I.cell x c hc;refine wpAny_storeName_cell I.ok.kind hk hc z (fun h' hc' hs=>?_)
  obtain⟨oc,hoc,hocd⟩:=id z;refine h { s with heap:=h' } ⟨I.ok,I.os,I.bare,⟨fun b o e n hb hx=>?_,fun b o e n hb hx=>?_,I.base.free,fun b o e hx=>?_,I.base.tups,I.base.frzs,I.base.tbls⟩,⟨m,hn.sameBut hs (Ne.symm (cne x c hc)),fun j y v' e1 e2 e3=>?_⟩,fun y c' e=>?_,I.free,I.freeC,fun p hp=>?_,tracked ⟨oc,hoc,I.freeC x c hc⟩ hs,by simpa using I.len⟩ ⟨c,hs,.inr hc⟩
  ·exact(hs.2 b (Qo (Qm (Heap.lt_size e) (I.ok.cab x c hfn hc)))).trans (I.base.keep b o e n hb hx)
  ·obtain⟨sl,e1⟩:=I.base.slot b o e n hb hx
   exact⟨sl,(hs.2 b (Qo (Qm (Heap.lt_size e) (I.ok.cab x c hfn hc)))).trans e1⟩
  ·obtain⟨o',e1⟩:=I.base.there b o e hx
   exact⟨o',(hs.2 b (Qo (Qm (Heap.lt_size e) (I.ok.cab x c hfn hc)))).trans e1⟩
  ·by_cases hj:j=i
   ·subst hj
    rw[hi] at e1;cases e1
    rw[Vk hiσ] at e2;cases e2;exact⟨u,r,.inr ⟨.inl hk,c,hc,hc'⟩⟩
   ·rw[Vf (Ne.symm hj)] at e2
    obtain⟨u',r',q⟩:=hl j y v' e1 e2 e3;refine⟨u',r',?_⟩
    rcases q with q | ⟨k,c',e,z'⟩
    ·exact .inl q
    ·refine .inr ⟨k,c',e,z'.sameBut hs ?_⟩
     rintro rfl
     exact hj (zFK hN e1 (I.ok.inj _ _ _ e hc ▸ hi))
  ·by_cases hcc:c'=c
   ·subst hcc;exact⟨_,hc'⟩
   ·obtain⟨w2,z2⟩:=I.cell y c' e
    exact⟨w2,z2.sameBut hs hcc⟩
  ·obtain⟨e,n,ne,nf,d⟩:=I.pin p hp
   refine⟨(hs.2 p.1 ?_).trans e,n,ne,nf,d⟩
   intro q;rw[q,hoc] at e;have q':oc=p.2:=Ve e;exact d w' (by rw[<-q'];exact hocd)
def rZ{M:Model}{A:Jg}{E:Ja->Jb->Prop}{i:Nat}{x:Str}{v:V}{u:Ja}{Q:Unit->Jb->Prop}(I:Inv X Md σ H s)(hN:X.N.Nodup)(hi:X.N[i]?=some x)(hx:Loc X.env.scope x)(r:dZ v u)
  (h:∀ s',Inv X Md (σ.set i (some v)) H s'->Q () s') (hf:X.fn x=true∨X.env.scope.names.lookup x=some .local:=by first | exact .inl rfl | exact .inr rfl | assumption):wpAny M A (storeName X.env x u) Q E s:=
 zDc I hN hi hx r (fun s' I' _=>h s' I') hf
def Inv.call'{s':Jb}{ch:List Jc}(I:Inv X Md σ H s)(ho:s'.os=s.os)(u:Un (frs X.stack) ch H H' s.heap s'.heap)(hok:HOk X.prog X.w H' s'.heap)(hg:AllBare s'.gens)
  (hch:∀ b∈ch,(b∈X.ex∨X.s₀.heap.objs.size<=b)/\b≠X.env.locals/\(∀ x c,X.env.cells.lookup x=some c->c≠b)/\∀ p∈X.pn++Md,p.1≠b):Inv X Md σ H' s':=by
 obtain⟨h',g',d',t',o'⟩:=s';have e:o'=s.os:=ho;subst e;exact I.call (g':=g') (t':=t') (d':=d') u hok hg hch
end
abbrev XK:=Ja->Option Jc->Hp->Prop
abbrev St:=List (Option V)
abbrev VK:=V->Hp->Prop
abbrev TE:=St->Hp->VK->Prop
abbrev TT:=St->Hp->(Bool->Hp->Prop)->Prop
abbrev TA:=St->Hp->(List V->Hp->Prop)->Prop
structure Ends where
 nx:St->Hp->Prop
 rt:VK
 bk:St->Hp->Prop:=fun _ _=>False
 ct:St->Hp->Prop:=fun _ _=>False
abbrev TS:=Ends->St->Hp->Prop
def EP(X:Cx)(Md:List (Jc×Obj))(r:St)(Q:VK)(u:Ja)(s':Jb):Prop:=∃ v H',Inv X Md r H' s'/\dZ v u/\Q v H'
def TP(X:Cx)(Md:List (Jc×Obj))(r:St)(Q:Bool->Hp->Prop)(b:Bool)(s':Jb):Prop:=∃ H',Inv X Md r H' s'/\Q b H'
def AP(X:Cx)(Md:List (Jc×Obj))(r:St)(Q:List V->Hp->Prop)(us:List Ja)(s':Jb):Prop:=∃ vs H',Inv X Md r H' s'/\eV vs us/\Q vs H'
def SP(X:Cx)(Md:List (Jc×Obj))(D:Ends)(f:Flow)(s':Jb):Prop:=
 match f with
 | .next=>∃ r' H',Inv X Md r' H' s'/\D.nx r' H'
 | .brk=>∃ r' H',Inv X Md r' H' s'/\D.bk r' H'
 | .cont=>∃ r' H',Inv X Md r' H' s'/\D.ct r' H'
 | .ret u=>∃ v r' H',Inv X Md r' H' s'/\dZ v u/\D.rt v H'
def PE(X:Cx)(e:Expr)(t:TE):Prop:=
 ∀(Md:List (Jc×Obj))(s:Jb)(r:St)(H:Hp)(Q:VK),Inv X Md r H s->t r H Q->wpAny (model X.prog X.w) X.A (eval e X.env) (EP X Md r Q) X.xe s
def PT(X:Cx)(e:Expr)(t:TT):Prop:=
 ∀(Md:List (Jc×Obj))(s:Jb)(r:St)(H:Hp)(Q:Bool->Hp->Prop),Inv X Md r H s->t r H Q->wpAny (model X.prog X.w) X.A (isTrue e X.env (eval e X.env)) (TP X Md r Q) X.xe s
def PW(X:Cx)(e:Expr)(t:TT):Prop:=
 ∀(whole:Sem Ja)(Md:List (Jc×Obj))(s:Jb)(r:St)(H:Hp)(Q:Bool->Hp->Prop),Inv X Md r H s->t r H Q->wpAny (model X.prog X.w) X.A (isTrue e X.env whole) (TP X Md r Q) X.xe s
def PW.pt{X:Cx}{e:Expr}{t:TT}(h:PW X e t):PT X e t:=h _
def PA(X:Cx)(es:List Expr)(t:TA):Prop:=
 ∀(pos:Pos)(Md:List (Jc×Obj))(s:Jb)(r:St)(H:Hp)(Q:List V->Hp->Prop),Inv X Md r H s->t r H Q->wpAny (model X.prog X.w) X.A (spliced (backTo pos (starEach es X.env))) (AP X Md r Q) X.xe s
def PS(X:Cx)(st:Jh)(t:TS):Prop:=
 ∀(Md:List (Jc×Obj))(s:Jb)(r:St)(H:Hp)(D:Ends),Inv X Md r H s->t D r H->wpAny (model X.prog X.w) X.A (exec st X.env) (SP X Md D) X.xe s
def PSs(X:Cx)(st:List Jh)(t:TS):Prop:=
 ∀(Md:List (Jc×Obj))(s:Jb)(r:St)(H:Hp)(D:Ends),Inv X Md r H s->t D r H->wpAny (model X.prog X.w) X.A (execs st X.env) (SP X Md D) X.xe s
def thn{r:Type}{t:Sem r}{Q Q':r->Jb->Prop}{M:Model}{A:Jg}{E:Ja->Jb->Prop}{s:Jb}(h:wpAny M A t Q E s)(hQ:∀ a s,Q a s->Q' a s):wpAny M A t Q' E s:=wpAny_mono h hQ fun _ _ x=>x
section
variable{X:Cx}
def bin{a b:Expr}{ta tb:TE}(ha:PE X a ta)(hb:PE X b tb){Md:List (Jc×Obj)}{s:Jb}{p:St}{H:Hp}{R:V->V->Hp->Prop}(I:Inv X Md p H s)(h:ta p H fun x H1=>tb p H1 fun y H2=>R x y H2)
  {g:Type} {Q:g->Jb->Prop} {f:Ja->Ja->Sem g}
  (hf:∀ v u s2 x y H2,Inv X Md p H2 s2->dZ x v->dZ y u->R x y H2->wpAny (model X.prog X.w) X.A (f v u) Q X.xe s2):
  wpAny (model X.prog X.w) X.A (eval a X.env) (fun v s₁=>wpAny (model X.prog X.w) X.A (eval b X.env) (fun u s₂=>wpAny (model X.prog X.w) X.A (f v u) Q X.xe s₂) X.xe s₁) X.xe s:=by
 refine thn (ha Md s p H _ I h) fun v s1 ⟨x,H1,I1,r1,q1⟩=>?_
 refine thn (hb Md s1 p H1 _ I1 q1) fun u s2 ⟨y,H2,I2,r2,q2⟩=>?_
 exact hf v u s2 x y H2 I2 r1 r2 q2
abbrev zHc(i:Nat):TE:=fun p H Q=>∃ v,p[i]?=some (some v)/\Q v H
abbrev tC(v:V):TE:=fun _ H Q=>Q v H
def xP{i:Nat}{x:Str}{pos:Pos}(hN:X.N[i]?=some x)(hv:Vis X.env.scope x)(hd:(x==("__debug__" : Str))=false:=by decide)(hcd:(x==("__classdict__" : Str))=false:=by decide):PE X (.Name x pos) (zHc i):=by
 intro Md s p H Q I h;obtain⟨v,e,h⟩:=h;obtain⟨m,hn,hl⟩:=I.loc;obtain⟨u,r,l⟩:=hl i x v hN e hv;have fin:EP X Md p Q u s:=⟨v,H,I,r,h⟩;rcases l with⟨hk,hm⟩ | ⟨hk,c,hc,hcell⟩
 ·exact Jl (wpAny_loadName_local I.ok.kind hk hn hm fin) hd
 ·rcases hk with hk | hk
  ·exact Jl (wpAny_loadName_cell I.ok.kind hk hc hcell fin) hd
  ·exact Jl (wpAny_loadName_free I.ok.kind hk hc hcell fin hcd) hd
def zIC{i j pos}:PE X (.Constant (.int i) j pos) (tC (.int i)):=fun _ _ _ H _ I h=>wpAny_Constant_int ⟨.int i,H,I.tok _,⟨_,rfl⟩,h⟩
def nX{b j pos}:PE X (.Constant (.bool b) j pos) (tC (.bl b)):=fun _ _ _ H _ I h=>Constant_bool ⟨.bl b,H,I,rfl,h⟩
def uY{j pos}:PE X (.Constant .none j pos) (tC .non):=fun _ _ _ H _ I h=>Constant_none ⟨.non,H,I,rfl,h⟩
def cY{x j pos}:PE X (.Constant (.str x) j pos) (tC (.str x)):=fun _ _ _ H _ I h=>Calls.Constant_str ⟨.str x,H,I.tok _,⟨_,rfl⟩,h⟩
def Gl(X:Cx)(x:Str):Prop:=X.env.kindOf x=some .globalImplicit
def xB{E:Ja->Jb->Prop}{Md:List (Jc×Obj)}{s:Jb}{p:St}{H:Hp}{x:Str}{u:Ja}{pos:Pos}{Q:Ja->Jb->Prop}(I:Inv X Md p H s)(hg:Gl X x)(hm:X.mg x=some u)(h:Q u s)
  (hd:(x==("__debug__" : Str))=false:=by decide):wpAny (model X.prog X.w) X.A (eval (.Name x pos) X.env) Q E s:=
 Calls.Name_function_global I.ok.kind hg (Calls.loadGlobal_global (by rw[I.ok.glob];exact I.mod.glob.keeps I.bk) hm h) hd
def pY{E:Ja->Jb->Prop}{Md:List (Jc×Obj)}{s:Jb}{p:St}{H:Hp}{x:Str}{u:Ja}{pos:Pos}{Q:Ja->Jb->Prop}(I:Inv X Md p H s)(hg:Gl X x)(hm:X.mg x=none)(hv:bootBuiltins x=some u)(h:Q u s)
  (hn:x ≠ "__name__" := by decide) (hd:(x==("__debug__" : Str))=false:=by decide):wpAny (model X.prog X.w) X.A (eval (.Name x pos) X.env) Q E s:=by
 obtain⟨mb,h1,h2⟩:=I.mod.blt;exact Calls.Name_function_global I.ok.kind hg (Calls.loadGlobal_builtin (by rw[I.ok.glob];exact I.mod.glob.keeps I.bk) hm (by rw[I.ok.blt];exact h1.keeps I.bk) ((h2 x hn).trans hv) h) hd
def zKb{x:Str}{v:V}{u:Ja}{pos:Pos}(hg:Gl X x)(hm:X.mg x=some u)(r:dZ v u)(hd:(x==("__debug__" : Str))=false:=by decide):PE X (.Name x pos) (tC v):=
 fun _ _ _ H _ I h=>xB I hg hm ⟨v,H,I,r,h⟩ hd
def zNn{x:Str}{v:V}{u:Ja}{pos:Pos}(hg:Gl X x)(hm:X.mg x=none)(hv:bootBuiltins x=some u)(r:dZ v u)(hn:x ≠ "__name__" := by decide)(hd:(x==("__debug__" : Str))=false:=by decide):PE X (.Name x pos) (tC v):=
 fun _ _ _ H _ I h=>pY I hg hm hv ⟨v,H,I,r,h⟩ hn hd
variable{a b:Expr}{ta tb:TE}{pos:Pos}
def PC(X:Cx)(op:CmpOp)(a b:Expr)(t:TE):Prop:=
 ∀(Md:List (Jc×Obj))(s:Jb)(p:St)(H:Hp)(Q:VK),Inv X Md p H s->t p H Q->
  wpAny (model X.prog X.w) X.A (eval a X.env) (fun v s₁=>wpAny (model X.prog X.w) X.A (eval b X.env) (fun u s₂=>wpAny (model X.prog X.w) X.A (compareOp op v u) (EP X Md p Q) X.xe s₂) X.xe s₁) X.xe s
def zLK(b:Expr){op:CmpOp}(h:op≠.In)(h2:op≠.NotIn):behindInMarks op b=false:=by
 have e1:(op==CmpOp.In)=false:=by cases op<;>first | rfl | exact absurd rfl h
 have e2:(op==CmpOp.NotIn)=false:=by cases op<;>first | rfl | exact absurd rfl h2
 cases b<;>simp[behindInMarks,e1,e2]
abbrev tB(t:TE):TT:=fun p H Q=>t p H fun x H1=>∃ c,x=.bl c/\Q c H1
def zSV{op:CmpOp}{t:TE}(h:PC X op a b t)(h1:behindInMarks op b=false:=by first | exact zLK _ (by decide) (by decide) | rfl):PT X (.Compare a [op] [b] pos) (tB t):=by
 intro Md s p H Q I hw;refine Jm (thn (h Md s p H _ I hw) fun v s1 h1=>thn h1 fun u s2 h2=>thn h2 fun c s3 ⟨x,H1,I1,r1,q1⟩=>?_) h1
 obtain⟨d,rfl,q⟩:=q1;cases r1;exact wpAny_truthy_bool ⟨H1,I1,q⟩
def zQP{e:Expr}{t:TE}(h:PE X e t)(he:∀ whole,isTrue e X.env whole=(do let v <-whole;standAt e.pos;holding [v] (truthy v)):=by intro _;rfl):PT X e (tB t):=by
 intro Md s p H Q I hw;refine isTrue_plain (thn (h Md s p H _ I hw) fun v s1 ⟨x,H1,I1,r1,q1⟩=>?_) (he _)
 obtain⟨d,rfl,q⟩:=q1;cases r1;exact wpAny_truthy_bool ⟨H1,I1,q⟩
variable{tA tB':TT}{rest:List Expr}
abbrev zTv(t u:TT):TT:=fun p H Q=>t p H fun c H1=>if c=true then u p H1 Q else Q false H1
abbrev tOr(t u:TT):TT:=fun p H Q=>t p H fun c H1=>if c=true then Q true H1 else u p H1 Q
abbrev zTA(t:TT):TT:=fun p H Q=>t p H fun c H1=>Q (!c) H1
def zOd(ha:PT X a tA):PW X (.BoolOp .And [a] pos) tA:=by
 intro wh Md s p H Q I h;refine isTrue_and (thn (ha Md s p H Q I h) fun c s1 e=>?_)
 cases c with
 | true=>exact isTrue_and_nil e
 | false=>exact e
def zPy(ha:PT X a tA):PW X (.BoolOp .Or [a] pos) tA:=by
 intro wh Md s p H Q I h;refine isTrue_or (thn (ha Md s p H Q I h) fun c s1 e=>?_)
 cases c with
 | false=>exact isTrue_or_nil e
 | true=>exact e
def zPB(ha:PT X a tA)(hb:PW X (.BoolOp .And (b::rest) pos) tB'):PW X (.BoolOp .And (a::b::rest) pos) (zTv tA tB'):=by
 intro wh Md s p H Q I h;refine isTrue_and (thn (ha Md s p H _ I h) fun c s1 ⟨H1,I1,q1⟩=>?_)
 cases c with
 | true=>exact hb wh Md s1 p H1 Q I1 q1
 | false=>exact⟨H1,I1,q1⟩
def zSm(ha:PT X a tA)(hb:PW X (.BoolOp .Or (b::rest) pos) tB'):PW X (.BoolOp .Or (a::b::rest) pos) (tOr tA tB'):=by
 intro wh Md s p H Q I h;refine isTrue_or (thn (ha Md s p H _ I h) fun c s1 ⟨H1,I1,q1⟩=>?_)
 cases c with
 | true=>exact⟨H1,I1,q1⟩
 | false=>exact hb wh Md s1 p H1 Q I1 q1
def zPX(ha:PT X a tA):PT X (.UnaryOp .Not a pos) (zTA tA):=by
 intro Md s p H Q I h;exact isTrue_not (ha Md s p H (fun c H1=>Q (!c) H1) I h)
abbrev zRT(ta tb:TE):TE:=fun p H Q=>ta p H fun x H1=>∃ c,x=.bl c/\if c=true then tb p H1 Q else Q (.bl false) H1
abbrev zTO(ta tb:TE):TE:=fun p H Q=>ta p H fun x H1=>∃ c,x=.bl c/\if c=true then Q (.bl true) H1 else tb p H1 Q
abbrev zSE(ta:TE):TE:=fun p H Q=>ta p H fun x H1=>∃ c,x=.bl c/\Q (.bl (!c)) H1
def zPp{op}{t:TE}(h:PE X a t):PE X (.BoolOp op [a] pos) t:=fun Md s p H Q I hw=>BoolOp_one (h Md s p H Q I hw)
def zQj(ha:PE X a ta)(hb:PE X (.BoolOp .And (b::rest) pos) tb):PE X (.BoolOp .And (a::b::rest) pos) (zRT ta tb):=by
 intro Md s p H Q I h;refine BoolOp_and (thn (ha Md s p H _ I h) fun v s1 ⟨x,H1,I1,r1,q1⟩=>?_)
 obtain⟨c,rfl,q1⟩:=q1;cases r1;refine wpAny_truthy_bool ?_
 cases c with
 | true=>exact hb Md s1 p H1 Q I1 q1
 | false=>exact⟨.bl false,H1,I1,rfl,q1⟩
def zRX(ha:PE X a ta)(hb:PE X (.BoolOp .Or (b::rest) pos) tb):PE X (.BoolOp .Or (a::b::rest) pos) (zTO ta tb):=by
 intro Md s p H Q I h;refine BoolOp_or (thn (ha Md s p H _ I h) fun v s1 ⟨x,H1,I1,r1,q1⟩=>?_)
 obtain⟨c,rfl,q1⟩:=q1;cases r1;refine wpAny_truthy_bool ?_
 cases c with
 | false=>exact hb Md s1 p H1 Q I1 q1
 | true=>exact⟨.bl true,H1,I1,rfl,q1⟩
def zPS(ha:PE X a ta):PE X (.UnaryOp .Not a pos) (zSE ta):=by
 intro Md s p H Q I h;refine UnaryOp_ (thn (ha Md s p H _ I h) fun v s1 ⟨x,H1,I1,r1,q1⟩=>?_)
 obtain⟨c,rfl,q1⟩:=q1;cases r1;exact not_of (wpAny_truthy_bool ⟨.bl (!c),H1,I1,rfl,q1⟩)
abbrev tIf(t:TT)(ta tb:TE):TE:=fun p H Q=>t p H fun c H1=>if c=true then ta p H1 Q else tb p H1 Q
def zLZ{c:Expr}(hc:PT X c tA)(ha:PE X a ta)(hb:PE X b tb):PE X (.IfExp c a b pos) (tIf tA ta tb):=by
 intro Md s p H Q I h;refine wpAny_IfExp (thn (hc Md s p H _ I h) fun d s1 ⟨H1,I1,q1⟩=>?_)
 cases d with
 | true=>exact ha Md s1 p H1 Q I1 q1
 | false=>exact hb Md s1 p H1 Q I1 q1
end
def SqL(K:PySem.W.Frag)(H:Hp)(a:Jc)(xs:List V):Prop:=
 Rd H a (.lst xs)∨
  ∃(o:Obj)(its:Array Ja)(n:Nat),K.lookup a=some o/\o.cls=.type "list" /\ o.dict=none/\o.data=.seq its n/\its.size<=sizeLine/\eV xs its.toList
def SqT(K:PySem.W.Frag)(H:Hp)(a:Jc)(xs:List V):Prop:=
 Rd H a (.tup xs)∨
  ∃(o:Obj)(its:Array Ja)(n:Nat),K.lookup a=some o/\o.cls=.type "tuple" /\ o.data=.seq its n/\its.size<=sizeLine/\eV xs its.toList
def zTQ:Ja->Option V
 | .none=>some .non
 | .bool b=>some (.bl b)
 | .int i _=>some (.int i)
 | .str x _=>some (.str x)
 | .bytes b _=>some (.byt b)
 | .float b _=>some (.flt b)
 | .ref a=>some (.ref a)
 | .type n=>some (.ty n)
 | _=>none
def dZ.abs{x:V}{u:Ja}(r:dZ x u):zTQ u=some x:=by
 cases x with
 | non=>cases r;rfl
 | bl _=>cases r;rfl
 | int _=>obtain⟨t,rfl⟩:=r;rfl
 | str _=>obtain⟨t,rfl⟩:=r;rfl
 | byt _=>obtain⟨t,rfl⟩:=r;rfl
 | flt _=>obtain⟨t,rfl⟩:=r;rfl
 | ref _=>cases r;rfl
 | ty _=>cases r;rfl
def dZ.inj{x y:V}{u:Ja}(r:dZ x u)(q:dZ y u):x=y:=Ve (r.abs.symm.trans q.abs)
def eV.inj:∀ {xs ys:List V} {us:List Ja},eV xs us->eV ys us->xs=ys
 | _,_,_,.nil,.nil=>rfl
 | _,_,_,.cons r t,.cons r' t'=>by rw[r.inj r',eV.inj t t']
section
variable{X:Cx}{Md:List (Jc×Obj)}{b:St}{H:Hp}{s:Jb}{a:Jc}{xs ys:List V}
def SqL.of{K:Fg_}(h:H a=some (.lst xs)):SqL K H a xs:=.inl (.inl h)
def SqT.of{K:Fg_}(h:H a=some (.tup xs)):SqT K H a xs:=.inl (.inl h)
def Inv.list(I:Inv X Md b H s)(h:SqL X.K H a xs):∃ its:List Ja,eV xs its/\PlainL s.heap a its.toArray/\xs.length<=sizeLine:=by
 rcases h with h | ⟨o,its,n,hk,hc,hd,hs,hz,r⟩
 ·obtain⟨z,its,n,r,e⟩:=h.ok I.hok
  exact⟨its,r,⟨_,n,e,rfl,rfl,rfl⟩,z⟩
 ·refine⟨its.toList,r,⟨o,n,I.kIn a o hk,hc,hd,by simpa using hs⟩,?_⟩
  have e:=r.length;simp only[Xi] at e;omega
def Inv.tuple(I:Inv X Md b H s)(h:SqT X.K H a xs):∃ its:List Ja,eV xs its/\IsTup s.heap a its.toArray/\xs.length<=sizeLine:=by
 rcases h with h | ⟨o,its,n,hk,hc,hs,hz,r⟩
 ·obtain⟨z,its,r,p⟩:=h.ok I.hok
  exact⟨its,r,p,z⟩
 ·refine⟨its.toList,r,⟨o,I.kIn a o hk,hc,n,by simpa using hs⟩,?_⟩
  have e:=r.length;simp only[Xi] at e;omega
def Inv.list_inj(I:Inv X Md b H s)(h:SqL X.K H a xs)(h':SqL X.K H a ys):xs=ys:=by
 obtain⟨its,r,⟨o,n,e,_,_,d⟩,_⟩:=I.list h;obtain⟨its',r',⟨o',n',e',_,_,d'⟩,_⟩:=I.list h';rw[e] at e';cases e'
 rw[d] at d';injection d' with d1 _
 have:its=its':=by simpa using congrArg Array.toList d1
 subst this;exact r.inj r'
def Inv.tuple_inj(I:Inv X Md b H s)(h:SqT X.K H a xs)(h':SqT X.K H a ys):xs=ys:=by
 obtain⟨its,r,⟨o,e,_,n,d⟩,_⟩:=I.tuple h;obtain⟨its',r',⟨o',e',_,n',d'⟩,_⟩:=I.tuple h';rw[e] at e';cases e'
 rw[d] at d';injection d' with d1 _
 have:its=its':=by simpa using congrArg Array.toList d1
 subst this;exact r.inj r'
end
abbrev Cx.wish(X:Cx)(E:Ja->Jb->Prop):Cx:={ X with xe:=E }
abbrev Cx.nox(X:Cx):Cx:=X.wish fun _ _=>False
def Cx.Ok.wish{X:Cx}(ok:X.Ok)(E:Ja->Jb->Prop):(X.wish E).Ok:=
 ⟨ok.mod,ok.kind,ok.glob,ok.blt,ok.above,ok.inj,ok.has,ok.cab,ok.hd,ok.frames,ok.stk,ok.exf,ok.bs,ok.bsz,ok.noex,ok.exfs,ok.funs,ok.frf⟩
def Cx.Ok.unwish{X:Cx}{E:Ja->Jb->Prop}(ok:(X.wish E).Ok):X.Ok:=
 ⟨ok.mod,ok.kind,ok.glob,ok.blt,ok.above,ok.inj,ok.has,ok.cab,ok.hd,ok.frames,ok.stk,ok.exf,ok.bs,ok.bsz,ok.noex,ok.exfs,ok.funs,ok.frf⟩
section
variable{X:Cx}{Md:List (Jc×Obj)}{r:St}{H:Hp}{s:Jb}{E:Ja->Jb->Prop}
def Inv.wish(I:Inv X Md r H s)(E:Ja->Jb->Prop):Inv (X.wish E) Md r H s:=⟨I.ok.wish E,I.os,I.bare,I.base,I.loc,I.cell,I.free,I.freeC,I.pin,I.hok,I.len⟩
def Inv.unwish(I:Inv (X.wish E) Md r H s):Inv X Md r H s:=⟨I.ok.unwish,I.os,I.bare,I.base,I.loc,I.cell,I.free,I.freeC,I.pin,I.hok,I.len⟩
end
section
variable{X:Cx}{st:Jh}{rest:List Jh}{t u:TS}{e:Expr}{te:TE}{pos:Pos}
abbrev zSf:TS:=fun D r H=>D.nx r H
abbrev zSe(t u:TS):TS:=fun D r H=>t { D with nx:=u D } r H
def zOJ:PSs X [] zSf:=fun _ _ r H _ I h=>Jn ⟨r,H,I,h⟩
def wD(h1:PS X st t)(h2:PSs X rest u):PSs X (st::rest) (zSe t u):=by
 intro Md s r H D I h;refine Jo (thn (h1 Md s r H { D with nx:=u D } I h) fun f s1 q=>?_)
 cases f with
 | next=>
  obtain⟨r',H',I',q⟩:=q;exact h2 Md s1 r' H' D I' q
 | ret v=>exact q
 | brk=>exact q
 | cont=>exact q
def zEN(h1:PS X st t):PSs X [st] t:=by
 intro Md s r H D I h;refine Jo (thn (h1 Md s r H D I h) fun f s1 q=>?_)
 cases f with
 | next=>exact Jn q
 | ret v=>exact q
 | brk=>exact q
 | cont=>exact q
def Inv.quiet{Md:List (Jc×Obj)}{r:St}{H:Hp}{s:Jb}(I:Inv X Md r H s):interactive X.env=false:=by simp[interactive,I.ok.kind]
abbrev zSF(te:TE):TS:=fun D r H=>te r H fun _ H1=>D.nx r H1
def zEl(he:PE X e te)(hs:swapsWith e none pos.line X.env=pure false:=by rfl):PS X (.Expr e pos) (zSF te):=by
 intro Md s r H D I h;exact wpAny_Expr_any (thn (he Md s r H _ I h) fun v s1 ⟨x,H1,I1,r1,q1⟩=>⟨r,H1,I1,q1⟩) I.quiet hs
abbrev zTg(te:TE):TS:=fun D r H=>te r H D.rt
def zFT(he:PE X e te):PS X (.Return (some e) pos) (zTg te):=by
 intro Md s r H D I h;exact wpAny_Return_some (thn (he Md s r H _ I h) fun v s1 ⟨x,H1,I1,r1,q1⟩=>⟨x,r,H1,I1,r1,q1⟩)
abbrev zTG(c:TT)(t u:TS):TS:=fun D r H=>c r H fun b H1=>if b=true then t D r H1 else u D r H1
def zSr{c:Expr}{a b:List Jh}{tc:TT}(hc:PT X c tc)(ha:PSs X a t)(hb:PSs X b u):PS X (.If c a b pos) (zTG tc t u):=by
 intro Md s r H D I h;refine wpAny_If (thn (hc Md s r H _ I h) fun d s1 ⟨H1,I1,q1⟩=>?_)
 cases d with
 | true=>exact ha Md s1 r H1 D I1 q1
 | false=>exact hb Md s1 r H1 D I1 q1
end
abbrev TG:=V->St->Hp->(St->Hp->Prop)->Prop
abbrev TGs:=List V->St->Hp->(St->Hp->Prop)->Prop
def PG(X:Cx)(target:Expr)(t:TG):Prop:=
 ∀(Md:List (Jc×Obj))(s:Jb)(r:St)(H:Hp)(v:V)(u:Ja)(Q:St->Hp->Prop),Inv X Md r H s->dZ v u->t v r H Q->
  wpAny (model X.prog X.w) X.A (assign target X.env u) (fun _ s'=>∃ r' H',Inv X Md r' H' s'/\Q r' H') X.xe s
def PGs(X:Cx)(ts:List Expr)(t:TGs):Prop:=
 ∀(Md:List (Jc×Obj))(s:Jb)(r:St)(H:Hp)(vs:List V)(us:List Ja)(Q:St->Hp->Prop),Inv X Md r H s->eV vs us->t vs r H Q->
  wpAny (model X.prog X.w) X.A (assignInOrder ((assignEach ts X.env).map (·.2)) us) (fun _ s'=>∃ r' H',Inv X Md r' H' s'/\Q r' H') X.xe s
abbrev zSC:=V->V->V->Hp->(Hp->Prop)->Prop
def zSR(X:Cx)(t:zSC):Prop:=
 ∀(Md:List (Jc×Obj))(s:Jb)(r:St)(H:Hp)(o i v:V)(ov iv u:Ja)(Q:Hp->Prop),Inv X Md r H s->dZ o ov->dZ i iv->dZ v u->t o i v H Q->
  wpAny (model X.prog X.w) X.A (setItem ov iv u) (fun _ s'=>∃ H',Inv X Md r H' s'/\Q H') X.xe s
abbrev TIp:=V->V->Hp->VK->Prop
def PIp(X:Cx)(op:Operator)(t:TIp):Prop:=
 ∀(Md:List (Jc×Obj))(s:Jb)(r:St)(H:Hp)(x y:V)(v u:Ja)(Q:VK),Inv X Md r H s->dZ x v->dZ y u->t x y H Q->
  wpAny (model X.prog X.w) X.A (inplaceOp op v u) (EP X Md r Q) X.xe s
section
variable{X:Cx}{pos:Pos}
abbrev gName(i:Nat):TG:=fun v p H Q=>Q (p.set i (some v)) H
def zEQ{i:Nat}{x:Str}(hN:X.N.Nodup)(hi:X.N[i]?=some x)(hx:Loc X.env.scope x)(hf:X.fn x=true∨X.env.scope.names.lookup x=some .local:=by first | exact .inl rfl | exact .inr rfl | assumption):PG X (.Name x pos) (gName i):=by
 intro Md s p H v u Q I r h;exact Jp (rZ I hN hi hx r (fun s' I'=>⟨_,H,I',h⟩) hf)
def zCd:TGs:=fun vs p H Q=>vs=[]/\Q p H
def fT(t:TG)(u:TGs):TGs:=fun vs p H Q=>∃ v r,vs=v::r/\t v p H fun p' H'=>u r p' H' Q
def zIR:PGs X [] zCd:=by
 intro Md s p H vs us Q I r h;obtain⟨e,h⟩:=h;subst e;cases r;exact assignInOrder_nil ⟨p,H,I,h⟩
def zBh{e:Expr}{es:List Expr}{t:TG}{u:TGs}(h1:PG X e t)(h2:PGs X es u)
  (hs:(assignEach (e::es) X.env).map (·.2)=assign e X.env::(assignEach es X.env).map (·.2):=by rfl):PGs X (e::es) (fT t u):=by
 intro Md s p H vs us Q I r h;obtain⟨v,vr,e1,h⟩:=h;subst e1
 cases r with
 | cons r rr=>
  rw[hs];refine assignInOrder_cons (thn (h1 Md s p H _ _ _ I r h) fun _ s1 ⟨p1,H1,I1,q1⟩=>?_)
  exact h2 Md s1 p1 H1 _ _ Q I1 rr q1
def zCc(K:PySem.W.Frag)(n:Nat)(t:TGs):TG:=fun v p H Q=>∃ a xs,v=.ref a/\SqT K H a xs/\xs.length=n/\t xs p H Q
def zMv{es:List Expr}{k:Nat}{t:TGs}{n:Nat}(hc:X.calm=true)(h:PGs X es t)
  (hn:(assignEach es X.env).length=n:=by rfl) (hst:(assignEach es X.env).findIdx? (·.1)=none:=by rfl):PG X (.Tuple es k pos) (zCc X.K n t):=by
 intro Md s p H v u Q I r hw;obtain⟨a,xs,e1,hq,hl,hw⟩:=hw;subst e1;cases r;obtain⟨its,rv,ht,hz⟩:=I.tuple hq;refine assign_Tuple_tuple (I.ok.hd hc) ht (by simp[hn,<-hl,rv.length]) hst fun h' hx=>?_
 have I1:Inv X Md p H { s with heap:=h' }:=I.kept (t':=s.toks) fun b o e=>hx b o (Qo (Heap.lt_size e)) e
 exact h Md _ p H xs _ Q I1 (by simpa using rv) hw
def zTI(to ti:TE)(t:zSC):TG:=fun v p H Q=>to p H fun o H1=>ti p H1 fun i H2=>t o i v H2 fun H3=>Q p H3
def zRf{o i:Expr}{to ti:TE}{t:zSC}(ho:PE X o to)(hi:PE X i ti)(hs:zSR X t)
  (ha:∀ v,assign (.Subscript o i pos) X.env v=(do
   let ov <-holding [v] (eval o X.env)
   let iv <-holding [v,ov] (eval i X.env)
   standAt pos
   holding [v,ov,iv] (setItem ov iv v)
   release [v,ov,iv] []):=by intro _;rfl):PG X (.Subscript o i pos) (zTI to ti t):=by
 intro Md s p H v u Q I r h;rw[ha];refine Jq (wpAny_holding (thn (ho Md s p H _ I h) fun ov s1 ⟨x,H1,I1,r1,q1⟩=>?_))
 refine Jq (wpAny_holding (thn (hi Md s1 p H1 _ I1 q1) fun iv s2 ⟨y,H2,I2,r2,q2⟩=>?_))
 refine Jq (wpAny_standAt (Jq (wpAny_holding (thn (hs Md s2 p H2 x y v ov iv u _ I2 r1 r2 r q2) fun _ s3 ⟨H3,I3,q3⟩=>?_))))
 exact wpAny_release ⟨p,H3,I3,q3⟩
abbrev zSx(te:TE)(g:TG):TS:=fun D p H=>te p H fun x H1=>g x p H1 D.nx
def zMi{tg e:Expr}{te:TE}{g:TG}(he:PE X e te)(hg:PG X tg g)(hs:swapsWithSole [tg] e pos.line X.env=pure false:=by rfl)(hw:swappedStores [tg] e X.env=pure none:=by rfl)
  (h1:(assignEach [tg] X.env).map (·.2)=[assign tg X.env]:=by rfl):PS X (.Assign [tg] e pos) (zSx te g):=by
 intro Md s p H D I h;refine wpAny_Assign_stores (thn (he Md s p H _ I h) fun v s1 ⟨x,H1,I1,r1,q1⟩=>?_) hs hw
 rw[h1];exact thn (hg Md s1 p H1 x v _ I1 r1 q1) fun _ s2 q=>q
def zMS{i:Nat}{x:Str}{e:Expr}{te:TE}{pos':Pos}(hN:X.N.Nodup)(hi:X.N[i]?=some x)(hx:Loc X.env.scope x)(he:PE X e te)(hs:swapsWith e (some (.Name x pos')) pos.line X.env=pure false:=by rfl)(hf:X.fn x=true∨X.env.scope.names.lookup x=some .local:=by first | exact .inl rfl | exact .inr rfl | assumption):
  PS X (.Assign [.Name x pos'] e pos) (zSx te (gName i)):=by
 intro Md s p H D I h;refine Jr (thn (he Md s p H _ I h) fun v s1 ⟨y,H1,I1,r1,q1⟩=>?_) hs
 exact rZ I1 hN hi hx r1 (fun s2 I2=>⟨_,H1,I2,q1⟩) hf
abbrev zTp(i:Nat)(te:TE)(ti:TIp):TS:=fun D p H=>∃ x,p[i]?=some (some x)/\te p H fun y H1=>ti x y H1 fun z H2=>D.nx (p.set i (some z)) H2
def zPN{i:Nat}{x:Str}{e:Expr}{te:TE}{op:Operator}{ti:TIp}{pos':Pos}(hN:X.N.Nodup)(hi:X.N[i]?=some x)(hx:Loc X.env.scope x)(he:PE X e te)(ho:PIp X op ti)(hf:X.fn x=true∨X.env.scope.names.lookup x=some .local:=by first | exact .inl rfl | exact .inr rfl | assumption):
  PS X (.AugAssign (.Name x pos') op e pos) (zTp i te ti):=by
 intro Md s p H D I h;obtain⟨v,e1,h⟩:=h;obtain⟨m,hn,hl⟩:=I.loc;have vis:Vis X.env.scope x:=by rcases hx with k | k;exact .inl k;exact .inr (.inl k)
 obtain⟨u,r,l⟩:=hl i x v hi e1 vis;refine wpAny_AugAssign_Name ?_
 have go:wpAny (model X.prog X.w) X.A (eval e X.env) (fun w s₂=>wpAny (model X.prog X.w) X.A (inplaceOp op u w) (fun r s₃=>wpAny (model X.prog X.w) X.A (storeName X.env x r) (fun _=>SP X Md D .next) X.xe s₃) X.xe s₂) X.xe s:=by
  refine thn (he Md s p H _ I h) fun w s1 ⟨y,H1,I1,r1,q1⟩=>?_
  refine thn (ho Md s1 p H1 v y u w _ I1 r r1 q1) fun z s2 ⟨zv,H2,I2,r2,q2⟩=>?_
  exact rZ I2 hN hi hx r2 (fun s3 I3=>⟨_,H2,I3,q2⟩) hf
 rcases l with⟨hk,hm⟩ | ⟨hk,c,hc,hcell⟩
 ·exact wpAny_loadName_local I.ok.kind hk hn hm go
 ·rcases hk with hk | hk
  ·exact wpAny_loadName_cell I.ok.kind hk hc hcell go
  ·rcases hx with k | k
   ·have:X.env.scope.names.lookup x=some .free:=hk
    rw[k] at this;cases this
   ·have:X.env.scope.names.lookup x=some .free:=hk
    rw[k] at this;cases this
def ipI(f:Int->Int->Int):TIp:=fun x y H Q=>∃ i j,x=.int i/\y=.int j/\Q (.int (f i j)) H
def zQi:PIp X .Sub (ipI fun i j=>i-j):=by
 intro Md s p H x y v u Q I r1 r2 h;obtain⟨i,j,e1,e2,q⟩:=h;subst e1;subst e2
 obtain⟨t,rfl⟩:=r1;obtain⟨t',rfl⟩:=r2;exact isub_int ⟨.int _,H,I.tok _,⟨_,rfl⟩,q⟩
end
section
variable{X:Cx}{pos:Pos}
def zPF(c:TT)(tb:TS):TS:=fun D r H=>∃ W:Nat->St->Hp->Prop,(∃ m,W m r H)/\∀ m r H,W m r H->
 c r H fun b H1=>if b=true then ∃ N:St->Hp->Prop,(∀ r' H',N r' H'->∃ m',m' < m/\W m' r' H')/\tb { D with nx:=N,ct:=N,bk:=D.nx } r H1 else D.nx r H1
def zLy{c:Expr}{body:List Jh}{tc:TT}{tb:TS}(hp:PassesOwn (model X.prog X.w) X.A X.env X.xe)(hc:PT X c tc)(hb:PSs X body tb):PS X (.While c body [] pos) (zPF tc tb):=by
 intro Md s r H D I h;obtain⟨W,⟨m0,w0⟩,turn⟩:=h;refine wpAny_While (codeAny_whileLoop (fun n s'=>∃ r' H',Inv X Md r' H' s'/\W n r' H') ?_ m0 ⟨r,H,I,w0⟩)
 rintro n s1 ⟨r1,H1,I1,w1⟩
 refine Js hp (thn (hc Md s1 r1 H1 _ I1 (turn n r1 H1 w1)) fun b s2 ⟨H2,I2,q2⟩=>?_)
 cases b with
 | true=>
  obtain⟨N,hN,q2⟩:=q2;rw[Jj rfl];refine Js hp (thn (hb Md s2 r1 H2 _ I2 q2) fun f s3 q3=>?_)
  cases f with
  | next=>
   obtain⟨r3,H3,I3,n3⟩:=q3;obtain⟨m',hm,w3⟩:=hN r3 H3 n3;exact⟨m',hm,r3,H3,I3,w3⟩
  | cont=>
   obtain⟨r3,H3,I3,n3⟩:=q3;obtain⟨m',hm,w3⟩:=hN r3 H3 n3;exact⟨m',hm,r3,H3,I3,w3⟩
  | brk=>exact q3
  | ret v=>exact q3
 | false=>
  rw[Jk X8];exact Jn ⟨r1,H2,I2,q2⟩
end
structure It where
 go:Nat->Hp->Prop
 yld:Nat->Hp->V->Hp->Prop
 stop:Nat->Hp->Prop
def vP(X:Cx)(Md:List (Jc×Obj))(H:Hp)(b:Jc):Prop:=
 H b=none/\b≠X.env.locals/\b∉X.fs/\(b∈X.ex∨X.s₀.heap.objs.size<=b)/\(∀ x c,X.env.cells.lookup x=some c->c≠b)/\∀ p∈X.pn++Md,p.1≠b
def Inv.fpOk{X:Cx}{Md:List (Jc×Obj)}{r:St}{H H':Hp}{s:Jb}{b:Jc}(I:Inv X Md r H s)(hb:s.heap.objs.size<=b)(hn:H' b=none):vP X Md H' b:=by
 refine⟨hn,X9 (Qm I.lt hb),I.nofs hb,.inr (Qp I.sz hb),fun x c e z=>?_,fun p hp z=>?_⟩
 ·obtain⟨v,q⟩:=I.cell x c e
  exact absurd (Qm q.lt (by rw[z];exact hb)) (Vr _)
 ·exact absurd (Qm (Heap.lt_size (I.pin p hp).1) (by rw[z];exact hb)) (Vr _)
structure Turn (P:Je) (w:Jf) (K:PySem.W.Frag) (tg:Expr) (J:It) (fp:List Jc) (it:Jc) (tn:Nat->Jd->Prop):Prop where
 mem:it∈fp
 obj:∀ i h,tn i h->∀ b∈fp,∃ o,h.get? b=some o/\∀ v,o.data≠.cell v
 keep:∀ i h h',tn i h->(∀ b∈fp,∀ o,h.get? b=some o->h'.get? b=some o)->tn i h'
 item:∀(X:Cx),X.prog=P->X.w=w->X.K=K->X.calm=true->∀(i:Nat)(Md:List (Jc×Obj))(s:Jb)(σ:St)(H:Hp)(E:Ja->Jb->Prop),Inv X Md σ H s->(∀ b∈fp,vP X Md H b)->tn i s.heap->J.go i H->
  wpAny (model P w) X.A (pyNext (.ref it)) (fun r s1=>∃ u,r=some u/\
   wpAny (model P w) X.A (letOwnedTupleGo tg (.ref it) u) (fun _ s2=>∃ x H',Inv X Md σ H' s2/\dZ x u/\J.yld i H x H'/\tn (i+1) s2.heap/\∀ b∈fp,H' b=none) E s1) E s
 done:∀(X:Cx),X.prog=P->X.w=w->X.K=K->X.calm=true->∀(i:Nat)(Md:List (Jc×Obj))(s:Jb)(σ:St)(H:Hp)(E:Ja->Jb->Prop),Inv X Md σ H s->(∀ b∈fp,vP X Md H b)->tn i s.heap->J.stop i H->
  wpAny (model P w) X.A (pyNext (.ref it)) (fun r s1=>r=none/\Inv X Md σ H s1) E s
 self:∀(A:Jg)(i:Nat)(s:Jb)(Q:Ja->Jb->Prop)(E:Ja->Jb->Prop),tn i s.heap->Q (.ref it) s->wpAny (model P w) A (pyIter (.ref it)) Q E s
abbrev TI:=St->Hp->(It->Hp->Prop)->Prop
def PIE(X:Cx)(Md:List (Jc×Obj))(r:St)(tg:Expr)(R:It->Hp->Prop)(itv:Ja)(s2:Jb):Prop:=
 ∃(it:Jc)(fp:List Jc)(tn:Nat->Jd->Prop)(J:It)(H':Hp),itv=.ref it/\Inv X Md r H' s2/\Turn X.prog X.w X.K tg J fp it tn/\tn 0 s2.heap/\(∀ b∈fp,vP X Md H' b)/\R J H'
def PI(X:Cx)(tg iter:Expr)(wi:TI):Prop:=
 ∀(Md:List (Jc×Obj))(s:Jb)(r:St)(H:Hp)(R:It->Hp->Prop),Inv X Md r H s->wi r H R->
  wpAny (model X.prog X.w) X.A (eval iter X.env) (fun v s1=>wpAny (model X.prog X.w) X.A (pyIter v) (PIE X Md r tg R) X.xe s1) X.xe s
def zOh{M:Model}{A:Jg}{E:Ja->Jb->Prop}{s:Jb}{tg:Expr}{it:Jc}{u:Ja}{o:Obj}{n:String}{vs:Array Ja}{Q:Unit->Jb->Prop}(ho:s.heap.get? it=some o)(hc:o.cls=.type n)(hd:o.data=.fields vs)
    (hn:["enumerate","zip","dict_itemiterator","dict_reverseitemiterator","odict_iterator","itertools.zip_longest","itertools.pairwise"].contains n=false) (hQ:Q () s):wpAny M A (letOwnedTupleGo tg (.ref it) u) Q E s:=by
  unfold letOwnedTupleGo
  cases tg<;>first
    | exact Jt hQ
    | (cases u<;>first
        | exact Jt hQ
        | (refine Jq (wpAny_load ho ?_)
           rw[hc,hd];show wpAny M A (if (["enumerate","zip","dict_itemiterator","dict_reverseitemiterator","odict_iterator","itertools.zip_longest","itertools.pairwise"].contains n && vs[0]?==some (rawInt _))=true then _ else _) Q E s
           rw[Jk (by intro h;rw[hn,Bool.false_and] at h;cases h)]
           exact Jt hQ))
def Itl(K:PySem.W.Frag)(a:Jc):It:=
 ⟨fun i H=>∃ xs x,SqL K H a xs/\xs[i]?=some x,fun i H x H'=>H'=H/\∀ xs,SqL K H a xs->xs[i]?=some x,fun i H=>∃ xs,SqL K H a xs/\xs.length<=i⟩
def Itt(K:PySem.W.Frag)(a:Jc):It:=
 ⟨fun i H=>∃ xs x,SqT K H a xs/\xs[i]?=some x,fun i H x H'=>H'=H/\∀ xs,SqT K H a xs->xs[i]?=some x,fun i H=>∃ xs,SqT K H a xs/\xs.length<=i⟩
def Itr(lo:Int)(n:Nat):It:=⟨fun i _=>i<n,fun i H x H'=>H'=H/\x=.int (lo+i),fun i _=>n<=i⟩
def zCt{P:Je}{w:Jf}{K:Fg_}{tg:Expr}(a it:Jc):Turn P w K tg (Itl K a) [it] it (fun i h=>h.IsListIter it a i) where
 mem:=by simp
 obj:=fun i h st b hb=>by
  have e:b=it:=by simpa using hb
  subst e;obtain⟨o,e,c,d⟩:=st;exact⟨o,e,fun v z=>by rw[d] at z;cases z⟩
 keep:=fun i h h' st k=>st.at fun o e=>k it (by simp) o e
 item:=by
  intro X hP hw hK hc i Md s r H E I hf st hg;subst hP hw hK;obtain⟨xs,x,hq,hx⟩:=hg;obtain⟨its,rv,p,hz⟩:=I.list hq;obtain⟨u,hu,ru⟩:=rv.get hx;obtain⟨f0,f1,f2,f3,f4,f5⟩:=hf it (by simp)
  refine wpAny_pyNext_list_item st p.isList (x:=u) (by simpa using hu) fun h' st' sb=>?_
  have I1:Inv X Md r H { s with heap:=h' }:=I.turned (t':=s.toks) (fun b o hb e=>(sb.2 b hb).trans e) f0 f1 f3 f4 f5
  obtain⟨o,e,c,d⟩:=id st';exact⟨u,rfl,zOh (s:={ s with heap:=h' }) e c d (by decide) ⟨x,H,I1,ru,⟨rfl,fun ys hy=>by rw[I.list_inj hy hq];exact hx⟩,st',fun b hb=>(hf b hb).1⟩⟩
 done:=by
  intro X hP hw hK hc i Md s r H E I hf st hg;subst hP hw hK;obtain⟨xs,hq,hx⟩:=hg;obtain⟨its,rv,p,hz⟩:=I.list hq;obtain⟨f0,f1,f2,f3,f4,f5⟩:=hf it (by simp)
  have hl:=rv.length;exact wpAny_pyNext_list_end (I.ok.hd hc) st p.isList (by simp;omega) fun h' eb=>⟨rfl,I.turned (t':=s.toks) (fun b o hb e=>eb b o hb e) f0 f1 f3 f4 f5⟩
 self:=fun _ _ _ _ _ st h=>wpAny_pyIter_listiter st h
def zGD{P:Je}{w:Jf}{K:Fg_}{tg:Expr}(a it:Jc):Turn P w K tg (Itt K a) [it] it (fun i h=>h.IsTupleIter it a i) where
 mem:=by simp
 obj:=fun i h st b hb=>by
  have e:b=it:=by simpa using hb
  subst e;obtain⟨o,e,c,d⟩:=st;exact⟨o,e,fun v z=>by rw[d] at z;cases z⟩
 keep:=fun i h h' st k=>st.at fun o e=>k it (by simp) o e
 item:=by
  intro X hP hw hK hc i Md s r H E I hf st hg;subst hP hw hK;obtain⟨xs,x,hq,hx⟩:=hg;obtain⟨its,rv,p,hz⟩:=I.tuple hq;obtain⟨u,hu,ru⟩:=rv.get hx;obtain⟨f0,f1,f2,f3,f4,f5⟩:=hf it (by simp)
  refine wpAny_pyNext_tuple_item st (show s.heap.IsTuple a its.toArray from p) (x:=u) (by simpa using hu) fun h' st' sb=>?_
  have I1:Inv X Md r H { s with heap:=h' }:=I.turned (t':=s.toks) (fun b o hb e=>(sb.2 b hb).trans e) f0 f1 f3 f4 f5
  obtain⟨o,e,c,d⟩:=id st';exact⟨u,rfl,zOh (s:={ s with heap:=h' }) e c d (by decide) ⟨x,H,I1,ru,⟨rfl,fun ys hy=>by rw[I.tuple_inj hy hq];exact hx⟩,st',fun b hb=>(hf b hb).1⟩⟩
 done:=by
  intro X hP hw hK hc i Md s r H E I hf st hg;subst hP hw hK;obtain⟨xs,hq,hx⟩:=hg;obtain⟨its,rv,p,hz⟩:=I.tuple hq;obtain⟨f0,f1,f2,f3,f4,f5⟩:=hf it (by simp)
  have hl:=rv.length;exact wpAny_pyNext_tuple_end (I.ok.hd hc) st (show s.heap.IsTuple a its.toArray from p) (by simp;omega) fun h' eb=>⟨rfl,I.turned (t':=s.toks) (fun b o hb e=>eb b o hb e) f0 f1 f3 f4 f5⟩
 self:=fun _ _ _ _ _ st h=>wpAny_pyIter_tupleiter st h
def zHp{P:Je}{w:Jf}{K:Fg_}{tg:Expr}(it:Jc)(lo:Int)(n:Nat):Turn P w K tg (Itr lo n) [it] it (fun i h=>IsRangeIter h it (lo+(i:Nat)*1) ((n:Int)-(i:Nat)) 1) where
 mem:=by simp
 obj:=fun i h st b hb=>by
  have e:b=it:=by simpa using hb
  subst e
  exact⟨_,st,fun v z=>by
   have z':Data.fields _=Data.cell v:=z
   cases z'⟩
 keep:=fun i h h' st k=>k it (by simp) _ st
 item:=by
  intro X hP hw hK hc i Md s r H E I hf st hg;subst hP hw hK;obtain⟨f0,f1,f2,f3,f4,f5⟩:=hf it (by simp)
  have W:=Walks.range (prog:=X.prog) (w:=X.w) (I.ok.hd hc) it lo 1 n;refine W.item i s _ _ hg st fun v h' tk hv st' kk=>?_
  obtain⟨t,rfl⟩:=hv;have I1:Inv X Md r H { s with heap:=h',toks:=tk }:=I.turned (fun b o hb e=>kk b o (by simpa using hb) e) f0 f1 f3 f4 f5
  refine⟨_,rfl,zOh (s:={ s with heap:=h',toks:=tk }) (n := "range_iterator") st' rfl rfl (by decide) ⟨.int (lo+i),H,I1,⟨t,?_⟩,⟨rfl,rfl⟩,st',fun b hb=>(hf b hb).1⟩⟩
  rw[Vv]
 done:=by
  intro X hP hw hK hc i Md s r H E I hf st hg;subst hP hw hK;obtain⟨f0,f1,f2,f3,f4,f5⟩:=hf it (by simp)
  exact wpAny_pyNext_range_end (I.ok.hd hc) st (by have:n<=i:=hg;omega) fun h' eb=>⟨rfl,I.turned (t':=s.toks) (fun b o hb e=>eb b o hb e) f0 f1 f3 f4 f5⟩
 self:=fun _ _ _ _ _ st h=>wpAny_pyIter_rangeiter st h
section
variable{X:Cx}{tg:Expr}
abbrev zSA(K:PySem.W.Frag)(tl:TE):TI:=fun c H R=>tl c H fun x H1=>∃ a,x=.ref a/\(∃ xs,SqL K H1 a xs)/\R (Itl K a) H1
def zOQ{l:Expr}{tl:TE}(hl:PE X l tl):PI X tg l (zSA X.K tl):=by
 intro Md s c H R I h;refine thn (hl Md s c H _ I h) fun v s1 ⟨x,H1,I1,r1,q1⟩=>?_
 obtain⟨a,e,⟨xs,hq⟩,q⟩:=q1;subst e;cases r1;obtain⟨its,rv,p,hz⟩:=I1.list hq;refine wpAny_pyIter_list p.isList ?_
 refine⟨s1.heap.objs.size,[s1.heap.objs.size],_,_,H1,rfl,I1.kept (t':=s1.toks) fun b o e=>Heap.get?_push_of_some _ e,zCt a _,⟨_,Heap.get?_push_size _ rfl,rfl,rfl⟩,fun b hb=>?_,q⟩
 have e:b=s1.heap.objs.size:=by simpa using hb
 subst e;exact I1.fpOk (Qb _) (I1.hok.fresh (Qb _))
def zFu{Md:List (Jc×Obj)}{c:St}{H:Hp}{s:Jb}{R:It->Hp->Prop}{E:Ja->Jb->Prop}{lo hi:Int}{t u v:Tok}{tk:Nat}(I:Inv X Md c H s)(h1:-(2^62)<=lo)(h2:lo<2^62)(h3:-(2^62)<=hi)(h4:hi<2^62)
  (q:R (Itr lo (hi-lo).toNat) H):wpAny (model X.prog X.w) X.A (pyIter (.ref s.heap.objs.size)) (PIE X Md c tg R) E { s with heap:=s.heap.push { cls:=.type "range", data:=.fields #[.int lo t,.int hi u,.int 1 v] },toks:=tk }:=by
 refine wpAny_pyIter_range (IsRange.new ..) (small_one h1 h2 h3 h4) ?_
 have I1:Inv X Md c H { s with heap:=s.heap.push { cls:=.type "range", data:=.fields #[.int lo t,.int hi u,.int 1 v] },toks:=tk }:=I.kept fun b o e=>Heap.get?_push_of_some _ e
 refine⟨(s.heap.push { cls:=.type "range", data:=.fields #[.int lo t,.int hi u,.int 1 v] }).objs.size,[(s.heap.push { cls:=.type "range", data:=.fields #[.int lo t,.int hi u,.int 1 v] }).objs.size],_,_,H,rfl,
  I1.kept (t':=tk) fun b o e=>Heap.get?_push_of_some _ e,zHp _ lo (hi-lo).toNat,?_,fun b hb=>?_,q⟩
 ·have e1:lo+((0:Nat):Int)*1=lo:=by simp
  have e2:(((hi-lo).toNat:Nat):Int)-((0:Nat):Int)=Builtin.Range.rangeSize lo hi 1:=by rw[rangeSize_one];split<;>omega
  show IsRangeIter _ _ (lo+((0:Nat):Int)*1) ((((hi-lo).toNat:Nat):Int)-((0:Nat):Int)) 1
  rw[e1,e2];exact Heap.get?_push_size _ rfl
 ·have e:b=(s.heap.push { cls:=.type "range", data:=.fields #[.int lo t,.int hi u,.int 1 v] }).objs.size:=by simpa using hb
  subst e;exact I1.fpOk (Qb _) (I1.hok.fresh (Qb _))
abbrev zDu(ta:TA):TI:=fun c H R=>ta c H fun vs H1=>∃ j:Int,vs=[.int j]/\-(2^62)<=j/\j<2^62/\R (Itr 0 j.toNat) H1
abbrev zJb(ta:TA):TI:=fun c H R=>ta c H fun vs H1=>∃ i j:Int,vs=[.int i,.int j]/\(-(2^62)<=i/\i<2^62/\-(2^62)<=j/\j<2^62)/\R (Itr i (j-i).toNat) H1
def zIa{a:Expr}{ta:TA}{p pos:Pos}(hg:Gl X "range")(hm:X.mg "range" = none)(ha:PA X [a] ta)(hs:starEach [a] X.env=[(false,eval a X.env)]:=by rfl):PI X tg (.Call (.Name "range" p) [a] [] pos) (zDu ta):=by
 intro Md s c H R I h;refine Call_ (pY I hg hm Ju (Yc (thn (ha pos Md s c H _ I h) fun us s1 ⟨vs,H1,I1,r1,q1⟩=>?_) hs rfl))
 obtain⟨j,e,q1,q2,q⟩:=q1;subst e
 cases r1 with
 | cons r rr=>
  cases rr;obtain⟨t,rfl⟩:=r;exact call_range_1 (zFu I1 (by omega) (by omega) q1 q2 (by simpa using q))
def zJY{a b:Expr}{ta:TA}{p pos:Pos}(hg:Gl X "range")(hm:X.mg "range" = none)(ha:PA X [a,b] ta)(hs:starEach [a,b] X.env=[(false,eval a X.env),(false,eval b X.env)]:=by rfl)(hs2:starEach [b] X.env=[(false,eval b X.env)]:=by rfl):
  PI X tg (.Call (.Name "range" p) [a,b] [] pos) (zJb ta):=by
 intro Md s c H R I h;refine Call_ (pY I hg hm Ju (Yc (thn (ha pos Md s c H _ I h) fun us s1 ⟨vs,H1,I1,r1,q1⟩=>?_) (by rw[hs,hs2]) (by rw[hs2];rfl)))
 obtain⟨i,j,e,⟨q1,q2,q3,q4⟩,q⟩:=q1;subst e
 cases r1 with
 | cons r rr=>
  cases rr with
  | cons r' rr=>
   cases rr;obtain⟨t,rfl⟩:=r;obtain⟨t',rfl⟩:=r';exact call_range_2 (zFu I1 q1 q2 q3 q4 q)
abbrev zSQ(wi:TI)(g:TG)(tb:TS):TS:=fun D c H=>wi c H fun J H1=>∃ W:Nat->Nat->St->Hp->Prop,(∃ m,W 0 m c H1)/\∀ i m c H,W i m c H->
 (J.stop i H/\D.nx c H)∨(J.go i H/\∃ N:St->Hp->Prop,(∀ c' H',N c' H'->∃ m',m' < m/\W (i+1) m' c' H')/\∀ x H',J.yld i H x H'->g x c H' fun c2 H2=>tb { D with nx:=N,ct:=N,bk:=D.nx } c2 H2)
def xQ(fp:List Jc)(h:Jd):List (Jc×Obj):=fp.filterMap fun b=>(h.get? b).map fun o=>(b,o)
def gA{fp:List Jc}{h:Jd}{b:Jc}{o:Obj}(hb:b∈fp)(e:h.get? b=some o):(b,o)∈xQ fp h:=Uo.mpr ⟨b,hb,by rw[e];rfl⟩
def zKl{fp:List Jc}{h:Jd}{p:Jc×Obj}(hp:p∈xQ fp h):p.1∈fp/\h.get? p.1=some p.2:=by
 obtain⟨b,hb,e⟩:=Uo.mp hp
 cases q:h.get? b with
 | none=>rw[q] at e;cases e
 | some o=>
  rw[q] at e;have e':(b,o)=p:=Ve e;subst e';exact⟨hb,q⟩
def Inv.pinned{Md:List (Jc×Obj)}{c:St}{H:Hp}{s:Jb}{fp:List Jc}(I:Inv X Md c H s)(hf:∀ b∈fp,vP X Md H b)(ho:∀ b∈fp,∃ o,s.heap.get? b=some o/\∀ v,o.data≠.cell v):Inv X (Md++xQ fp s.heap) c H s:=
 I.pins_of fun p hp=>(Xh.mp hp).elim (fun z=>I.pin p (Qw _ z)) fun z=>by
  obtain⟨hb,e⟩:=zKl z;obtain⟨f0,f1,f2,_⟩:=hf p.1 hb;obtain⟨o,e',d⟩:=ho p.1 hb;rw[e] at e';cases e'
  exact⟨e,f0,f1,f2,d⟩
def Inv.unpinned{Md pl:List (Jc×Obj)}{c:St}{H:Hp}{s:Jb}(I:Inv X (Md++pl) c H s):Inv X Md c H s:=I.pins_of fun p hp=>I.pin p (Qw _ (Yq _ hp))
def zMK{iter:Expr}{body:List Jh}{wi:TI}{g:TG}{tb:TS}{pos:Pos}(hp:PassesOwn (model X.prog X.w) X.A X.env X.xe)(hc:X.calm=true)(hi:PI X tg iter wi)(hg:PG X tg g)(hb:PSs X body tb)
  (hs:∀ x,foldedSetIterable iter X.env x=pure x:=by intro _;rfl):PS X (.For tg iter body [] pos) (zSQ wi g tb):=by
 intro Md s c H D I h;refine wpAny_For (thn (hi Md s c H _ I h) fun v s1 h1=>thn h1 fun itv s2 h2=>?_) hs
 obtain⟨it,fp,tn,J,H2,e,I2,T,st2,f2,W,⟨m0,w0⟩,turn⟩:=h2;subst e;have stat:∀ {H':Hp},(∀ b∈fp,H' b=none)->∀ b∈fp,vP X Md H' b:=fun hn b hb=>⟨hn b hb,(f2 b hb).2⟩
 refine codeAny_forLoop_any (fun n s'=>∃ i c' H',Inv X Md c' H' s'/\tn i s'.heap/\(∀ b∈fp,H' b=none)/\W i n c' H') ?_ m0 ⟨0,c,H2,I2,st2,fun b hb=>(f2 b hb).1,w0⟩
 rintro n s3 ⟨i,c3,H3,I3,st3,fr3,w3⟩
 rcases turn i n c3 H3 w3 with⟨stop,qn⟩ | ⟨go,N,hN,step⟩
 ·refine Js hp (thn (T.done X rfl rfl rfl hc i Md s3 c3 H3 X.xe I3 (stat fr3) st3 stop) fun r s4 ⟨hr,I4⟩=>?_)
  subst hr;exact Jn ⟨c3,H3,I4,qn⟩
 ·refine Js hp (thn (T.item X rfl rfl rfl hc i Md s3 c3 H3 X.xe I3 (stat fr3) st3 go) fun r s4 ⟨u,hr,h4⟩=>?_)
  subst hr;refine Js hp (thn h4 fun _ s5 ⟨x,H5,I5,r5,y5,st5,fr5⟩=>?_)
  have I5':=I5.pinned (stat fr5) (T.obj _ _ st5);refine Js hp (thn (hg _ s5 c3 H5 x u _ I5' r5 (step x H5 y5)) fun _ s6 ⟨c6,H6,I6,q6⟩=>?_)
  refine Js hp (thn (hb _ s6 c6 H6 _ I6 q6) fun f s7 q7=>?_)
  have again:∀ {c7:St} {H7:Hp},Inv X (Md++xQ fp s5.heap) c7 H7 s7->N c7 H7->∃ m,m<n/\∃ i c' H',Inv X Md c' H' s7/\tn i s7.heap/\(∀ b∈fp,H' b=none)/\W i m c' H':=fun {c7 H7} I7 n7=>by
   obtain⟨m',hm,w7⟩:=hN c7 H7 n7;refine⟨m',hm,i+1,c7,H7,I7.unpinned,T.keep _ _ _ st5 fun b hb o e=>(I7.pin (b,o) (Qw _ (Qw _ (gA hb e)))).1,fun b hb=>?_,w7⟩
   obtain⟨o,e,d⟩:=T.obj _ _ st5 b hb;exact(I7.pin (b,o) (Qw _ (Qw _ (gA hb e)))).2.1
  cases f with
  | next=>obtain⟨c7,H7,I7,n7⟩:=q7;exact again I7 n7
  | cont=>obtain⟨c7,H7,I7,n7⟩:=q7;exact again I7 n7
  | brk=>obtain⟨c7,H7,I7,q7⟩:=q7;exact⟨c7,H7,I7.unpinned,q7⟩
  | ret v=>obtain⟨x7,c7,H7,I7,r7,q7⟩:=q7;exact⟨x7,c7,H7,I7.unpinned,r7,q7⟩
end
abbrev R2:=V->V->Hp->VK->Prop
def OpR(X:Cx)(f:Ja->Ja->Sem Ja)(r:R2):Prop:=
 ∀(Md:List (Jc×Obj))(s:Jb)(p:St)(H:Hp)(x y:V)(v u:Ja)(Q:VK),Inv X Md p H s->dZ x v->dZ y u->r x y H Q->
  wpAny (model X.prog X.w) X.A (f v u) (EP X Md p Q) X.xe s
def UnR(X:Cx)(f:Ja->Sem Ja)(r:V->Hp->VK->Prop):Prop:=
 ∀(Md:List (Jc×Obj))(s:Jb)(p:St)(H:Hp)(x:V)(v:Ja)(Q:VK),Inv X Md p H s->dZ x v->r x H Q->
  wpAny (model X.prog X.w) X.A (f v) (EP X Md p Q) X.xe s
def wJ(X:Cx)(f:Ja)(r:List V->Hp->VK->Prop):Prop:=
 ∀(Md:List (Jc×Obj))(s:Jb)(p:St)(H:Hp)(xs:List V)(us:List Ja)(Q:VK),Inv X Md p H s->eV xs us->r xs H Q->
  wpAny (model X.prog X.w) X.A (call f us) (EP X Md p Q) X.xe s
abbrev tOp(r:R2)(ta tb:TE):TE:=fun s H Q=>ta s H fun x H1=>tb s H1 fun y H2=>r x y H2 Q
abbrev tUn(r:V->Hp->VK->Prop)(ta:TE):TE:=fun s H Q=>ta s H fun x H1=>r x H1 Q
def rI(C:Int->Int->Prop)(g:Int->Int->V):R2:=fun x y H Q=>∃ i j,x=.int i/\y=.int j/\C i j/\Q (g i j) H
def rI0(g:Int->Int->V):R2:=fun x y H Q=>∃ i j,x=.int i/\y=.int j/\Q (g i j) H
def rU(g:Int->V):V->Hp->VK->Prop:=fun x H Q=>∃ i,x=.int i/\Q (g i) H
section
variable{X:Cx}{a b c:Expr}{ta tb tc:TE}{pos:Pos}
def zSq(ha:PE X a ta)(hb:PE X b tb){Md:List (Jc×Obj)}{s:Jb}{p:St}{H:Hp}{R:V->V->Hp->Prop}(I:Inv X Md p H s)
  (h:ta p H fun x H1=>tb p H1 fun y H2=>R x y H2) {Q:Ja->Jb->Prop} {f:Ja->Ja->Sem Ja}
  (hf:∀ v u s2 x y H2,Inv X Md p H2 s2->dZ x v->dZ y u->R x y H2->wpAny (model X.prog X.w) X.A (f v u) Q X.xe s2):
  wpAny (model X.prog X.w) X.A (eval a X.env) (fun v s₁=>wpAny (model X.prog X.w) X.A (eval b X.env) (fun u s₂=>wpAny (model X.prog X.w) X.A (f v u) Q X.xe s₂) X.xe s₁) X.xe s:=by
 refine thn (ha Md s p H _ I h) fun v s1 ⟨x,H1,I1,r1,q1⟩=>?_
 refine thn (hb Md s1 p H1 _ I1 q1) fun u s2 ⟨y,H2,I2,r2,q2⟩=>?_
 exact hf v u s2 x y H2 I2 r1 r2 q2
def zIT{op:Operator}{r:R2}(ho:OpR X (binaryOp op) r)(ha:PE X a ta)(hb:PE X b tb):PE X (.BinOp a op b pos) (tOp r ta tb):=by
 intro Md s p H Q I h;exact wpAny_BinOp (zSq ha hb I h fun v u s2 x y H2 I2 rx ry q=>ho Md s2 p H2 x y v u Q I2 rx ry q)
def zSO{op:UnaryOp}{r:V->Hp->VK->Prop}(ho:UnR X (unaryOp op) r)(ha:PE X a ta):PE X (.UnaryOp op a pos) (tUn r ta):=by
 intro Md s p H Q I h;exact UnaryOp_ (thn (ha Md s p H _ I h) fun v s1 ⟨x,H1,I1,r1,q1⟩=>ho Md s1 p H1 x v Q I1 r1 q1)
def opI{f:Ja->Ja->Sem Ja}{C:Int->Int->Prop}{g:Int->Int->Int}
  (rule:∀(i j:Int)(t u:Tok)(s:Jb)(Q:Ja->Jb->Prop)(E:Ja->Jb->Prop),C i j->Q (.int (g i j) s.toks) { s with toks:=s.toks+1 }->wpAny (model X.prog X.w) X.A (f (.int i t) (.int j u)) Q E s):
  OpR X f (rI C fun i j=>.int (g i j)):=by
 intro Md s p H x y v u Q I rx ry h;obtain⟨i,j,rfl,rfl,hc,q⟩:=h;obtain⟨t,rfl⟩:=rx;obtain⟨t',rfl⟩:=ry;exact rule i j t t' s _ _ hc ⟨.int (g i j),H,I.tok _,⟨_,rfl⟩,q⟩
def zTi{f:Ja->Ja->Sem Ja}{g:Int->Int->Int}
  (rule:∀(i j:Int)(t u:Tok)(s:Jb)(Q:Ja->Jb->Prop)(E:Ja->Jb->Prop),Q (.int (g i j) s.toks) { s with toks:=s.toks+1 }->wpAny (model X.prog X.w) X.A (f (.int i t) (.int j u)) Q E s):
  OpR X f (rI0 fun i j=>.int (g i j)):=by
 intro Md s p H x y v u Q I rx ry h;obtain⟨i,j,rfl,rfl,q⟩:=h;obtain⟨t,rfl⟩:=rx;obtain⟨t',rfl⟩:=ry;exact rule i j t t' s _ _ ⟨.int (g i j),H,I.tok _,⟨_,rfl⟩,q⟩
def zRN{f:Ja->Ja->Sem Ja}{g:Int->Int->Bool}
  (rule:∀(i j:Int)(t u:Tok)(s:Jb)(Q:Ja->Jb->Prop)(E:Ja->Jb->Prop),Q (.bool (g i j)) s->wpAny (model X.prog X.w) X.A (f (.int i t) (.int j u)) Q E s):
  OpR X f (rI0 fun i j=>.bl (g i j)):=by
 intro Md s p H x y v u Q I rx ry h;obtain⟨i,j,rfl,rfl,q⟩:=h;obtain⟨t,rfl⟩:=rx;obtain⟨t',rfl⟩:=ry;exact rule i j t t' s _ _ ⟨.bl (g i j),H,I,rfl,q⟩
def zRJ(i j:Int):Prop:=(-(2^64)<i/\i<2^64)∨(-(2^64)<j/\j<2^64)
def zRJ.ok{i j:Int}(h:zRJ i j):IntMulOk i j:=by
 rcases h with⟨h1,h2⟩ | ⟨h1,h2⟩
 ·exact .of_left (intBits_le_64 h1 h2)
 ·exact .of_right (intBits_le_64 h1 h2)
def zQI:OpR X (binaryOp .Add) (rI0 fun i j=>.int (i+j)):=zTi fun _ _ _ _ _ _ _ q=>add_int q
def nJ:OpR X (binaryOp .Sub) (rI0 fun i j=>.int (i-j)):=zTi fun _ _ _ _ _ _ _ q=>sub_int q
def bD:OpR X (binaryOp .Mod) (rI (fun _ j=>j≠0) fun i j=>.int (i.fmod j)):=opI fun _ _ _ _ _ _ _ hc q=>mod_int' hc q
def unI{f:Ja->Sem Ja}{g:Int->Int}
  (rule:∀(i:Int)(t:Tok)(s:Jb)(Q:Ja->Jb->Prop)(E:Ja->Jb->Prop),Q (.int (g i) s.toks) { s with toks:=s.toks+1 }->wpAny (model X.prog X.w) X.A (f (.int i t)) Q E s):
  UnR X f (rU fun i=>.int (g i)):=by
 intro Md s p H x v Q I rx h;obtain⟨i,rfl,q⟩:=h;obtain⟨t,rfl⟩:=rx;exact rule i t s _ _ ⟨.int (g i),H,I.tok _,⟨_,rfl⟩,q⟩
def zPi:UnR X (unaryOp .USub) (rU fun i=>.int (-i)):=unI fun _ _ _ _ _ q=>neg_int q
end
section
variable{X:Cx}{a b c:Expr}{ta tb tc:TE}{pos:Pos}
def zMh{Md:List (Jc×Obj)}{p:St}{H:Hp}{s:Jb}{Q:VK}{k k':Bool}(I:Inv X Md p H s)(q:Q (.bl k) H)(e:k=k'):EP X Md p Q (.bool k') s:=by
 subst e;exact⟨.bl k,H,I,rfl,q⟩
def nD:OpR X (compareOp .Lt) (rI0 fun i j=>.bl (decide (i<j))):=zRN fun _ _ _ _ _ _ _ q=>lt_int q
def zJZ:OpR X (compareOp .LtE) (rI0 fun i j=>.bl (decide (i<=j))):=zRN fun _ _ _ _ _ _ _ q=>le_int q
def yT:OpR X (compareOp .Gt) (rI0 fun i j=>.bl (decide (j<i))):=zRN fun _ _ _ _ _ _ _ q=>gt_int q
def zKH:OpR X (compareOp .GtE) (rI0 fun i j=>.bl (decide (j<=i))):=zRN fun _ _ _ _ _ _ _ q=>ge_int q
def zQk:OpR X (compareOp .Is) (fun x y H Q=>y=.non/\Q (.bl (decide (x=.non))) H):=by
 intro Md s p H x y v u Q I rx ry h;obtain⟨rfl,q⟩:=h;cases ry;refine is_none_gen (zMh I q ?_)
 cases x<;>first
  | (cases rx;rfl)
  | (obtain⟨t,rfl⟩:=rx;rfl)
def zOO:OpR X (compareOp .IsNot) (fun x y H Q=>y=.non/\Q (.bl (!decide (x=.non))) H):=by
 intro Md s p H x y v u Q I rx ry h;obtain⟨rfl,q⟩:=h;cases ry;refine isnot_none_gen (zMh I q ?_)
 cases x<;>first
  | (cases rx;rfl)
  | (obtain⟨t,rfl⟩:=rx;rfl)
def OpR.or{f:Ja->Ja->Sem Ja}{r r':R2}(h:OpR X f r)(h':OpR X f r'):OpR X f (fun x y H Q=>r x y H Q∨r' x y H Q):=by
 intro Md s p H x y v u Q I rx ry q;rcases q with q | q
 ·exact h Md s p H x y v u Q I rx ry q
 ·exact h' Md s p H x y v u Q I rx ry q
def aS(b:Expr){op:CmpOp}(h:op≠.In:=by decide)(h2:op≠.NotIn:=by decide):behindInMarks op b=false:=by
 have e1:(op==CmpOp.In)=false:=by cases op<;>first | rfl | exact absurd rfl h
 have e2:(op==CmpOp.NotIn)=false:=by cases op<;>first | rfl | exact absurd rfl h2
 cases b<;>simp[behindInMarks,e1,e2]
def zND{op:CmpOp}{r:R2}(ho:OpR X (compareOp op) r)(ha:PE X a ta)(hb:PE X b tb)(hm:behindInMarks op b=false):PE X (.Compare a [op] [b] pos) (tOp r ta tb):=by
 intro Md s p H Q I h;exact wpAny_Compare1 (zSq ha hb I h fun v u s2 x y H2 I2 rx ry q=>ho Md s2 p H2 x y v u Q I2 rx ry q) hm
abbrev zMb(t:TE):TT:=fun p H Q=>t p H fun x H'=>∃ k,x=.bl k/\Q k H'
def wL{op:CmpOp}{r:R2}(ho:OpR X (compareOp op) r)(ha:PE X a ta)(hb:PE X b tb)(hm:behindInMarks op b=false):PT X (.Compare a [op] [b] pos) (zMb (tOp r ta tb)):=by
 intro Md s p H Q I h
 refine Jm (thn (ha Md s p H _ I h) fun v s1 ⟨x,H1,I1,r1,q1⟩=>thn (hb Md s1 p H1 _ I1 q1) fun u s2 ⟨y,H2,I2,r2,q2⟩=>
  thn (ho Md s2 p H2 x y v u _ I2 r1 r2 q2) fun c s3 ⟨z,H3,I3,r3,k,e,q3⟩=>?_) hm
 subst e;cases r3;exact wpAny_truthy_bool ⟨H3,I3,q3⟩
abbrev zMz(r r':R2)(ta tb tc:TE):TE:=fun p H Q=>ta p H fun x H1=>tb p H1 fun y H2=>r x y H2 fun z H3=>∃ k,z=.bl k/\
 (if k=true then tc p H3 fun w' H4=>r' y w' H4 Q else Q (.bl false) H3)
def zLt{op op':CmpOp}{r r':R2}(ho:OpR X (compareOp op) r)(ho':OpR X (compareOp op') r')(ha:PE X a ta)(hb:PE X b tb)(hc:PE X c tc)
  (hm:lastMarks [op,op'] [b,c]=false:=by with_unfolding_all rfl):PT X (.Compare a [op,op'] [b,c] pos) (zMb (zMz r r' ta tb tc)):=by
 intro Md s p H Q I h
 refine isTrue_chain (thn (ha Md s p H _ I h) fun v s1 ⟨x,H1,I1,r1,q1⟩=>test_link (thn (hb Md s1 p H1 _ I1 q1) fun u s2 ⟨y,H2,I2,r2,q2⟩=>
  thn (ho Md s2 p H2 x y v u _ I2 r1 r2 q2) fun d s3 ⟨z,H3,I3,r3,k,e,q3⟩=>?_)) hm
 subst e;cases r3;refine wpAny_truthy_bool ?_
 cases k with
 | false=>
  obtain⟨k',e',q'⟩:=q3;cases e'
  exact ite_ff ⟨H3,I3,q'⟩
 | true=>
  refine ite_tt (test_last (thn (hc Md s3 p H3 _ I3 q3) fun w' s4 ⟨z',H4,I4,r4,q4⟩=>thn (ho' Md s4 p H4 y z' u w' _ I4 r2 r4 q4) fun d' s5 ⟨z2,H5,I5,r5,k2,e2,q5⟩=>?_))
  subst e2;cases r5;exact wpAny_truthy_bool ⟨H5,I5,q5⟩
def zFX:(sizeLine:Nat)<2^63:=by rw[Jv];decide
def zEG{x:V}{us:List Ja}(r:eV [x] us):∃ u,us=[u]/\dZ x u:=by
 cases r with
 | cons r1 r2=>cases r2;exact⟨_,rfl,r1⟩
def zQS{x y:V}{us:List Ja}(r:eV [x,y] us):∃ u w',us=[u,w']/\dZ x u/\dZ y w':=by
 cases r with
 | cons r1 r2=>
  cases r2 with
  | cons r3 r4=>cases r4;exact⟨_,_,rfl,r1,r3⟩
def zBv:wJ X (.builtin "abs") (fun xs H Q=>∃ i,xs=[.int i]/\Q (.int (if i<0 then -i else i)) H):=by
 intro Md s p H xs us Q I r h;obtain⟨i,rfl,q⟩:=h;obtain⟨u,rfl,t,rfl⟩:=zEG r;exact call_abs_int fun u tk=>⟨.int (if i<0 then -i else i),H,I.tok _,⟨_,rfl⟩,q⟩
def zJK(hc:X.calm=true):wJ X (.builtin "min") (fun xs H Q=>∃ i j,xs=[.int i,.int j]/\Q (.int (if j<i then j else i)) H):=by
 intro Md s p H xs us Q I r h;obtain⟨i,j,rfl,q⟩:=h;obtain⟨u,w',rfl,⟨t,rfl⟩,⟨t',rfl⟩⟩:=zQS r;refine min_two_ints (I.ok.hd hc) fun h' tk k=>⟨_,H,I.kept k,?_,q⟩
 by_cases hj:j<i
 ·rw[Jj hj,Jj hj];exact⟨_,rfl⟩
 ·rw[Jk hj,Jk hj];exact⟨_,rfl⟩
end
structure Room (k:Nat) (A:Jg):Prop where
 hd:A.handled=none
 dp:A.depth+3*k+5<recursionLimit
 un:A.units+16*k+200<cLine
def Room.mono{j k:Nat}{A:Jg}(r:Room k A)(h:j<=k):Room j A:=⟨r.hd,by have:=r.dp;omega,by have:=r.un;omega⟩
def Room.deeper{k:Nat}{A:Jg}(r:Room (k+1) A)(env:Env):Room k (A.deeper env):=
 ⟨r.hd,by have:=r.dp;show A.depth+1+3*k+5<_;omega,by have:=r.un;show A.units+3+16*k+200<_;omega⟩
def Room.depth{k:Nat}{A:Jg}(r:Room k A):A.depth<recursionLimit:=by have:=r.dp;omega
def Room.units{k:Nat}{A:Jg}(r:Room k A):A.units+64<cLine:=by have:=r.un;omega
abbrev zTz:TA:=fun _ H Q=>Q [] H
abbrev zRY(ta:TE)(tr:TA):TA:=fun r H Q=>ta r H fun x H1=>tr r H1 fun xs H2=>Q (x::xs) H2
section
variable{X:Cx}{e:Expr}{es:List Expr}{te:TE}{t:TA}{pos:Pos}
def rK:PA X [] zTz:=fun _ _ _ _ H Q I h=>Calls.spliced_nil ⟨[],H,I,.nil,h⟩
def lX(ha:PE X e te)(hr:PA X es t)(hs:starEach (e::es) X.env=(false,eval e X.env)::starEach es X.env:=by rfl):PA X (e::es) (zRY te t):=by
 intro pos Md s a H Q I h;rw[hs];show wpAny _ _ (spliced ((false,eval e X.env)::backTo pos (starEach es X.env))) _ _ s
 refine Calls.spliced_cons (thn (ha Md s a H _ I h) fun u s1 ⟨x,H1,I1,r1,q1⟩=>?_)
 exact thn (hr pos Md s1 a H1 _ I1 q1) fun us s2 ⟨xs,H2,I2,r2,q2⟩=>⟨x::xs,H2,I2,.cons r1 r2,q2⟩
abbrev zTo(t:TA):TE:=fun a H Q=>t a H fun xs H1=>xs.length<=sizeLine/\∀ p,H1 p=none->Q (.ref p) (upd H1 p (.tup xs))
abbrev zTk(t:TA):TE:=fun a H Q=>t a H fun xs H1=>xs.length<=sizeLine/\∀ p,H1 p=none->Q (.ref p) (upd H1 p (.lst xs))
def zPE{x1}(h:PA X es t):PE X (.Tuple es x1 pos) (zTo t):=by
 intro Md s a H Q I hq;refine wpAny_Tuple_spliced (thn (h pos Md s a H _ I hq) fun us s1 ⟨xs,H1,I1,r,z,q⟩=>⟨by rw[<-r.length];exact z,?_⟩)
 have hf:H1 s1.heap.objs.size=none:=I1.hok.fresh (Qb _);refine⟨.ref s1.heap.objs.size,upd H1 s1.heap.objs.size (.tup xs),I1.laid (t':=s1.toks) (fun b u e=>Heap.get?_push_of_some _ e) (Qb _) ?_,rfl,q _ hf⟩
 exact⟨z,us,r,⟨_,Heap.get?_push_size _ rfl,rfl,_,rfl⟩⟩
def zQr(h:PA X es t):PE X (.List es pos) (zTk t):=by
 intro Md s a H Q I hq;refine wpAny_List_spliced (thn (h pos Md s a H _ I hq) fun us s1 ⟨xs,H1,I1,r,z,q⟩=>⟨by rw[<-r.length];exact z,?_⟩)
 have hf:H1 s1.heap.objs.size=none:=I1.hok.fresh (Qb _);refine⟨.ref s1.heap.objs.size,upd H1 s1.heap.objs.size (.lst xs),I1.laid (t':=s1.toks) (fun b u e=>Heap.get?_push_of_some _ e) (Qb _) ?_,rfl,q _ hf⟩
 exact⟨z,us,0,r,Heap.get?_push_size _ rfl⟩
end
abbrev Sp:=List V->Hp->VK->XK->Prop
abbrev CXT:=List Env->Hp->Jb->XK->Ja->Jb->Prop
structure Env0 (P:Je) (w:Jf) (K:PySem.W.Frag) (mg:Str->Option Ja) (base:Jd) (A:Jg) (outer:List Env) (s:Jb) (H:Hp):Prop where
 frames:A.frames=some outer
 mod:Mod K mg base
 bs:∀ b o,base.get? b=some o->s.heap.get? b=some o/\H b=none
 bsz:base.objs.size<=s.heap.objs.size
 funs:s.heap.FunFrames base outer
 frf:∀ b∈frs outer,H b=none
 hok:HOk P w H s.heap
 bare:AllBare s.gens
def CE(outer:List Env)(P:Je)(w:Jf)(H:Hp)(s:Jb)(Q:VK)(u:Ja)(s':Jb):Prop:=
 ∃ v H',s'.os=s.os/\AllBare s'.gens/\Un (frs outer) [] H H' s.heap s'.heap/\HOk P w H' s'.heap/\dZ v u/\Q v H'
def CR(CX:CXT)(outer:List Env)(P:Je)(w:Jf)(H:Hp)(s:Jb)(Q:VK)(E:XK)(r:Result)(s':Jb):Prop:=
 match r with
 | .ok (.ret u)=>CE outer P w H s Q u s'
 | .ok _=>False
 | .error e=>CX outer H s E e s'
structure FnOk (P:Je) (w:Jf) (K:PySem.W.Frag) (mg:Str->Option Ja) (base:Jd) (CX:CXT) (k:Nat) (f:Jc) (fd:FuncData) (ps:List Str) (sp:Sp):Prop where
 len:∀ vs H Q E,sp vs H Q E->vs.length=ps.length
 run:∀(A:Jg)(outer:List Env)(s:Jb)(H:Hp)(args:Args)(us:List Ja)(vs:List V)(Q:VK)(E:XK),Room k A->Env0 P w K mg base A outer s H->BindsTo s fd args (ps.zip us)->eV vs us->sp vs H Q E->
  codeAny (model P w) A (.call (.ref f) args) (CR CX outer P w H s Q E) s
def FnOk.mono{P:Je}{w:Jf}{K:Fg_}{mg:Str->Option Ja}{base:Jd}{CX:CXT}{j k:Nat}{f:Jc}{fd:FuncData}{ps:List Str}{sp:Sp}(F:FnOk P w K mg base CX j f fd ps sp)(h:j<=k):
  FnOk P w K mg base CX k f fd ps sp:=⟨F.len,fun A outer s H args us vs Q E hr=>F.run A outer s H args us vs Q E (hr.mono h)⟩
def FnOk.imp{P:Je}{w:Jf}{K:Fg_}{mg:Str->Option Ja}{base:Jd}{CX:CXT}{k:Nat}{f:Jc}{fd:FuncData}{ps:List Str}{sp sp':Sp}(F:FnOk P w K mg base CX k f fd ps sp)
  (h:∀ vs H Q E,sp' vs H Q E->sp vs H Q E):FnOk P w K mg base CX k f fd ps sp':=
 ⟨fun vs H Q E q=>F.len vs H Q E (h _ _ _ _ q),fun A outer s H args us vs Q E hr he hb hv hs=>F.run A outer s H args us vs Q E hr he hb hv (h _ _ _ _ hs)⟩
def Env0.in1{P:Je}{w:Jf}{K:Fg_}{mg:Str->Option Ja}{base:Jd}{A:Jg}{outer:List Env}{s:Jb}{H:Hp}(e:Env0 P w K mg base A outer s H):
  Env0 P w K mg base A.in1 outer s H:=⟨e.frames,e.mod,e.bs,e.bsz,e.funs,e.frf,e.hok,e.bare⟩
section
variable{X:Cx}{Md:List (Jc×Obj)}{p:St}{H:Hp}{s s':Jb}
def Inv.env0(I:Inv X Md p H s):Env0 X.prog X.w X.K X.mg X.base X.A X.stack s H:=
 ⟨I.ok.frames,I.ok.mod,I.bs,Qp I.ok.bsz I.sz,I.stack,I.stkFree,I.hok,I.bare⟩
def Inv.after{Q:VK}{u:Ja}(I:Inv X Md p H s)(h:CE X.stack X.prog X.w H s Q u s'):EP X Md p Q u s':=by
 obtain⟨v,H',os,bare,un,hok,r,q⟩:=h;obtain⟨hh,g,d,t,os'⟩:=s';obtain rfl:os'=s.os:=os;exact⟨v,H',I.call (h':=hh) (g':=g) (d':=d) (t':=t) (ch:=[]) un hok bare (fun b z=>absurd z (by simp)),r,q⟩
end
abbrev zNu(sp:Sp)(dvs:List V)(E:XK)(t:TA):TE:=fun r H Q=>t r H fun vs H1=>sp (vs++dvs) H1 Q E
def zDB(K:PySem.W.Frag)(fd:FuncData)(ps:List Str)(ds:List Ja):Prop:=
 ∀(s:Jb)(us:List Ja),K.In s.heap->(us++ds).length=ps.length->BindsTo s fd ⟨us,[]⟩ (ps.zip (us++ds))
def zDB.all{K:Fg_}{fd:FuncData}{ps:List Str}(h:∀ us:List Ja,us.length=ps.length->bindArgs fd ⟨us,[]⟩=pure (ps.zip us)):zDB K fd ps []:=fun s us _ hl=>by
 rw[Vs] at hl ⊢
 exact .of_eq (h us hl)
def zGj(CX:CXT)(X:Cx)(E:XK):Prop:=∀(Md:List (Jc×Obj))(r:St)(H:Hp)(s:Jb)(e:Ja)(s':Jb),Inv X Md r H s->CX X.stack H s E e s'->X.xe e s'
section
variable{X:Cx}{CX:CXT}{k:Nat}{f C:Jc}{fd:FuncData}{ps:List Str}{sp:Sp}{dvs:List V}{ds:List Ja}{E:XK}{x m:Str}{p pos apos:Pos}{e o:Expr}{es:List Expr}{ta:TE}{t:TA}
def zPa{Md:List (Jc×Obj)}{a:St}{H:Hp}{s:Jb}{Q:VK}{us:List Ja}{vs:List V}(F:FnOk X.prog X.w X.K X.mg X.base CX k f fd ps sp)(hr:Room k X.A)(hb:zDB X.K fd ps ds)(hd:eV dvs ds)(hx:zGj CX X E)
  (I:Inv X Md a H s) (r:eV vs us) (h:sp (vs++dvs) H Q E):wpAny (model X.prog X.w) X.A (call (.ref f) us) (EP X Md a Q) X.xe s:=by
 have r2:eV (vs++dvs) (us++ds):=r.append hd;have hl:(us++ds).length=ps.length:=by rw[<-r2.length];exact F.len _ _ _ _ h
 refine Jw (codeAny_mono (F.run X.A X.stack s H ⟨us,[]⟩ (us++ds) (vs++dvs) Q E hr I.env0 (hb s us I.kIn hl) r2 h) fun r s' hq=>?_)
 cases r with
 | error e=>exact hx Md a H s e s' I hq
 | ok fl=>
  cases fl with
  | ret u=>exact I.after hq
  | next=>exact False.elim hq
  | brk=>exact False.elim hq
  | cont=>exact False.elim hq
def zEM(F:FnOk X.prog X.w X.K X.mg X.base CX k f fd ps sp)(hr:Room k X.A)(hg:Gl X x)(hm:X.mg x=some (.ref f))(hk:PySem.W.keepIn X.K (.ref f)=true)(hb:zDB X.K fd ps ds)(hd:eV dvs ds)(hx:zGj CX X E)
  (ha:PA X (e::es) t) (hdb:(x==("__debug__" : Str))=false:=by decide) (he:starEach (e::es) X.env=(false,eval e X.env)::starEach es X.env:=by rfl) (hpl:(backTo pos (starEach es X.env)).any (·.1)=false:=by rfl):
  PE X (.Call (.Name x p) (e::es) [] pos) (zNu sp dvs E t):=by
 intro Md s a H Q I h;refine Jx (xB I hg hm ?_ hdb)
 refine PySem.W.callWith_K (h₀:=X.base) I.ok.mod.kin hk (thn (ha pos Md s a H _ I h) fun us s1 ⟨vs,H1,I1,r,q⟩=>⟨I1.kIn,?_⟩) he hpl
 exact zPa F hr hb hd hx I1 r q
end
structure FnScope (N P:List Str) (sc:Scope):Prop where
 kind:sc.kind=.function
 co:sc.isCoroutine=false
 gen:sc.isGenerator=false
 nd:N.Nodup
 pre:N.take P.length=P
 par:∀ x∈P,sc.names.lookup x=some .local∨sc.names.lookup x=some .cell
 nofree:∀ y∈sc.names,y.2≠.free
def zDO{kindOf:Str->Option NameKind}{x:Str}:∀ {binds:List (Str×Ja)} {m:Str->Option Ja},(∀ v,(x,v)∉binds)->bindL kindOf binds m x=m x
 | [],_,_=>rfl
 | (n,v)::r,m,h=>by
  unfold bindL;rw[zDO fun w hw=>h w (Qd _ hw)];split
  ·have:x≠n:=by rintro rfl;exact h v Qe
   simp[this]
  ·rfl
def zCp{kindOf:Str->Option NameKind}{x:Str}:∀ {binds:List (Str×Ja)} {m:Str->Option Ja},(∀ v,(x,v)∉binds)->bindC kindOf binds m x=m x
 | [],_,_=>rfl
 | (n,v)::r,m,h=>by
  unfold bindC;rw[zCp fun w hw=>h w (Qd _ hw)];split
  ·rfl
  ·have:x≠n:=by rintro rfl;exact h v Qe
   simp[this]
def zDC{kindOf:Str->Option NameKind}{x:Str}{v:Ja}:∀ {P:List Str} {vs:List Ja} {i:Nat} {m:Str->Option Ja},P.Nodup->P[i]?=some x->vs[i]?=some v->kindOf x=some .local->
  bindL kindOf (P.zip vs) m x=some v
 | [],_,_,_,_,h,_,_=>by simp at h
 | _::_,[],_,_,_,_,h,_=>by simp at h
 | p::P,w::vs,0,m,nd,h1,h2,hk=>by
  simp at h1 h2;subst h1;subst h2
  show bindL kindOf ((p,w)::P.zip vs) m p=_
  unfold bindL;rw[zDO fun v hv=>(Xx.mp nd).1 (Yd hv).1,Jj hk];simp
 | p::P,w::vs,i+1,m,nd,h1,h2,hk=>by
  show bindL kindOf ((p,w)::P.zip vs) m x=_
  unfold bindL;exact zDC (i:=i) (Xx.mp nd).2 (by simpa using h1) (by simpa using h2) hk
def zCH{kindOf:Str->Option NameKind}{x:Str}{v:Ja}:∀ {P:List Str} {vs:List Ja} {i:Nat} {m:Str->Option Ja},P.Nodup->P[i]?=some x->vs[i]?=some v->kindOf x≠some .local->
  bindC kindOf (P.zip vs) m x=some v
 | [],_,_,_,_,h,_,_=>by simp at h
 | _::_,[],_,_,_,_,h,_=>by simp at h
 | p::P,w::vs,0,m,nd,h1,h2,hk=>by
  simp at h1 h2;subst h1;subst h2
  show bindC kindOf ((p,w)::P.zip vs) m p=_
  unfold bindC;rw[zCp fun v hv=>(Xx.mp nd).1 (Yd hv).1,Jk hk];simp
 | p::P,w::vs,i+1,m,nd,h1,h2,hk=>by
  show bindC kindOf ((p,w)::P.zip vs) m x=_
  unfold bindC;exact zCH (i:=i) (Xx.mp nd).2 (by simpa using h1) (by simpa using h2) hk
def start(N:List Str)(vs:List V):St:=vs.map some++List.replicate (N.length-vs.length) none
def zGO(CX:CXT)(P:Je)(w:Jf)(K:PySem.W.Frag)(mg:Str->Option Ja)(base:Jd)(N:List Str)(qual:Str)(scope:Scope)(f:Jc)(cd:Ja)(A:Jg)(outer:List Env)(s:Jb)(H:Hp)(E:XK):Cx where
 prog:=P
 w:=w
 K:=K
 mg:=mg
 base:=base
 A:=A.deeper (envOfC qual scope s.heap.objs.size f cd)
 N:=N
 s₀:=s
 H₀:=H
 env:=envOfC qual scope s.heap.objs.size f cd
 outer:=outer
 stack:=envOfC qual scope s.heap.objs.size f cd::outer
 ex:=[]
 calm:=true
 fn:=fun _=>true
 pn:=[]
 xe:=fun e s'=>wpAny (model P w) (A.deeper (envOfC qual scope s.heap.objs.size f cd)) (leaving (envOfC qual scope s.heap.objs.size f cd) e) (fun _ s''=>CX outer H s E e s'') (fun e' s''=>CX outer H s E e' s'') s'
def zGd{sc:Scope}{n:Nat}{x:Str}(h:sc.names.lookup x=some .cell):∃ c,(cellsFrom n sc.names []).lookup x=some c:=by
 have q:=Wr sc.names n [] (.inl h);exact Ws.mp q
def zJq{CX:CXT}{P:Je}{w:Jf}{K:Fg_}{mg:Str->Option Ja}{base:Jd}{N ps:List Str}{qual:Str}{scope:Scope}{f:Jc}{cd:Ja}{A:Jg}{outer:List Env}{s s1:Jb}{H:Hp}{E:XK}{us:List Ja}{vs:List V}
  (S:FnScope N ps scope) (hd:A.handled=none) (e0:Env0 P w K mg base A outer s H) (hl:vs.length=ps.length) (r:eV vs us)
  (x:InCallC s s.heap.objs.size (bindL (envOfC qual scope s.heap.objs.size f cd).kindOf (ps.zip us) fun _=>none) (cellsFrom (s.heap.objs.size+1) scope.names []) (bindC (envOfC qual scope s.heap.objs.size f cd).kindOf (ps.zip us) fun _=>none) s1):
  Inv (zGO CX P w K mg base N qual scope f cd A outer s H E) [] (start N vs) H s1:=by
 have hpl:ps.length<=N.length:=by have:=congrArg List.length S.pre;rw[V4] at this;omega
 obtain⟨h1,tk,rfl,hk⟩:=x.done;have noA:∀ b:Jc,b∉(zGO CX P w K mg base N qual scope f cd A outer s H E).ex:=fun b z=>absurd (show b∈([]:List Jc) from z) (by simp)
 refine⟨⟨e0.mod,S.kind,rfl,rfl,Qb _,fun y z c h1 h2=>?_,fun y hy=>?_,fun y c _ h=>?_,fun _=>hd,Around.frames_deeper e0.frames,.inr ⟨rfl,rfl⟩,fun b z=>absurd z (noA b),e0.bs,e0.bsz,fun b _ _=>noA b,fun b z=>absurd z (noA b),e0.funs,e0.frf⟩,
  rfl,e0.bare,Un.kept hk,⟨_,x.toInCall.ns,fun i y v h1 h2 h3=>?_⟩,fun y c h=>⟨_,x.cell y c h⟩,e0.hok.fresh (Qb _),fun y c h=>?_,fun p hp=>absurd (show p∈([]:List (Jc×Obj)) from hp) (by simp),e0.hok.kept hk,?_⟩
 ·exact name_of_addr x.apart (Xj h1) (Xj h2)
 ·have hy:scope.names.lookup y=some .cell∨scope.names.lookup y=some .free:=hy
  rcases hy with hy | hy
  ·exact zGd hy
  ·exact absurd rfl (S.nofree _ (Xj hy))
 ·exact Xw (x.above y c (Xj h))
 ·have hi:i<vs.length:=by
   unfold start at h2;by_cases hi:i<vs.length
   ·exact hi
   ·rw[Vw (by simpa using hi)] at h2
    rw[Uq] at h2;split at h2<;>cases h2
  have ha:vs[i]?=some v:=by
   unfold start at h2;rw[Vl (by simpa using hi),Qq] at h2
   cases e:vs[i]? with
   | none=>rw[e] at h2;cases h2
   | some a=>rw[e] at h2;cases h2;rfl
  obtain⟨u,hu,rv⟩:=r.get ha
  have hp:ps[i]?=some y:=by
   rw[<-S.pre,List.getElem?_take_of_lt (by omega)];exact h1
  have ndP:ps.Nodup:=by rw[<-S.pre];exact S.nd.sublist (List.take_sublist _ _)
  refine⟨u,rv,?_⟩
  rcases S.par y (Qf hp) with k | k
  ·exact .inl ⟨k,zDC ndP hp hu k⟩
  ·obtain⟨c,e⟩:=zGd (n:=s.heap.objs.size+1) k
   refine .inr ⟨.inl k,c,e,?_⟩
   have q:=x.cell y c e;rw[zCH ndP hp hu (by show scope.names.lookup y≠_;rw[k];decide)] at q;exact q
 ·exact e0.hok.fresh (Xw (x.above y c (Xj h)))
 ·unfold start
  show _=N.length
  rw[Ql,Qi,Xy];omega
def zPn{CX:CXT}{P:Je}{w:Jf}{K:Fg_}{mg:Str->Option Ja}{base:Jd}{k:Nat}{f:Jc}{name qual:Str}{params:Arguments}{body:List Jh}{scope:Scope}{dV kV doc pm cdv ct oc:Ja}{an od:Option Jc}
  {osl:Array (Option Ja)} {N ps:List Str} {sp:Sp} (lk:K.lookup f=some ⟨oc,od,.func (PySem.W.fnOf name qual params body scope dV kV doc pm an cdv ct),osl⟩) (hcd:PySem.W.codeIn K cdv qual=true) (S:FnScope N ps scope)
  (len:∀ vs H Q E,sp vs H Q E->vs.length=ps.length)
  (hbody:∀(A:Jg)(outer:List Env)(s:Jb)(H:Hp)(vs:List V)(Q:VK)(E:XK),Room k (A.deeper (envOfC qual scope s.heap.objs.size f cdv))->sp vs H Q E->
   ∃ t,PSs (zGO CX P w K mg base N qual scope f cdv A outer s H E) body t/\t { nx:=fun _ H'=>Q .non H',rt:=Q } (start N vs) H):
  FnOk P w K mg base CX (k+1) f (PySem.W.fnOf name qual params body scope dV kV doc pm an cdv ct) ps sp:=by
 refine⟨len,fun A outer s H args us vs Q E hr e0 hb r hsp=>?_⟩
 have hl:=len _ _ _ _ hsp;have KX:K.In s.heap:=e0.mod.kin.keeps fun b o e=>(e0.bs b o e).1
 have lim:s.heap.NoLimit:=e0.mod.nolimit.keeps fun b o e=>(e0.bs b o e).1
 have hkind:∀ y∈ps.zip us,scope.names.lookup y.1=some .local∨(scope.names.lookup y.1=some .cell/\((cellsFrom (s.heap.objs.size+1) scope.names []).lookup y.1).isSome=true):=fun ⟨n,v⟩ hy=>by
  rcases S.par n (Yd hy).1 with q | q
  ·exact .inl q
  ·exact .inr ⟨q,Wr _ _ _ (.inl q)⟩
 refine codeAny_call_function hr.depth (KX _ _ lk) rfl S.co S.gen rfl (PySem.W.codeRec_of KX hcd) (hb _ _ _ _ ?_)
 refine wpAny_newFunctionEnv_cells S.kind hkind fun env he s1 x=>?_
 subst he;refine⟨lim.keeps x.toInCall.keep,codeAny_func ?_⟩
 obtain⟨t,ht,hq⟩:=hbody A outer s H vs Q E (hr.deeper _) hsp;have I:Inv (zGO CX P w K mg base N qual scope f cdv A outer s H E) [] (start N vs) H s1:=zJq S hr.hd e0 hl r x;refine wpAny_mono (ht [] s1 (start N vs) H _ I hq) (fun fl s' hs=>?_) fun e s' hs=>hs
 have fin:∀ {r':St} {H':Hp} {v:V} {u:Ja},Inv (zGO CX P w K mg base N qual scope f cdv A outer s H E) [] r' H' s'->dZ v u->Q v H'->CE outer P w H s Q u s':=
  fun {r' H' v u} J rv q=>⟨v,H',J.os,J.bare,J.base,J.hok,rv,q⟩
 cases fl with
 | ret u=>
  obtain⟨v,r',H',J,rv,q⟩:=hs;exact fin J rv q
 | next=>
  obtain⟨r',H',J,q⟩:=hs;exact fin (v:=V.non) (u:=Value.none) J rfl q
 | brk=>
  obtain⟨_,_,_,q⟩:=hs;exact False.elim q
 | cont=>
  obtain⟨_,_,_,q⟩:=hs;exact False.elim q
section
variable{X:Cx}{x:Str}{p pos:Pos}{e:Expr}{es:List Expr}{t:TA}{id T:String}{r:List V->Hp->VK->Prop}
abbrev tCB(r:List V->Hp->VK->Prop)(t:TA):TE:=fun a H Q=>t a H fun vs H1=>r vs H1 Q
def zBl(hc:wJ X (.builtin id) r)(hg:Gl X x)(hm:X.mg x=none)(hv:bootBuiltins x=some (.builtin id))(ha:PA X (e::es) t)(hn:x ≠ "__name__" := by decide)(hdb:(x==("__debug__" : Str))=false:=by decide)
  (he:starEach (e::es) X.env=(false,eval e X.env)::starEach es X.env:=by rfl) (hpl:(backTo pos (starEach es X.env)).any (·.1)=false:=by rfl):PE X (.Call (.Name x p) (e::es) [] pos) (tCB r t):=by
 intro Md s a H Q I h;refine Jx (pY I hg hm hv ?_ hn hdb)
 exact PyProof.Rows.callWith_builtin1 (thn (ha pos Md s a H _ I h) fun us s1 ⟨vs,H1,I1,r1,q1⟩=>hc Md s1 a H1 vs us Q I1 r1 q1) he hpl
def zDh(hc:wJ X (.type T) r)(hg:Gl X x)(hm:X.mg x=none)(hv:bootBuiltins x=some (.type T))(ha:PA X (e::es) t)(hn:x ≠ "__name__" := by decide)(hdb:(x==("__debug__" : Str))=false:=by decide)
  (he:starEach (e::es) X.env=(false,eval e X.env)::starEach es X.env:=by rfl) (hpl:(backTo pos (starEach es X.env)).any (·.1)=false:=by rfl):PE X (.Call (.Name x p) (e::es) [] pos) (tCB r t):=by
 intro Md s a H Q I h;refine Jx (pY I hg hm hv ?_ hn hdb)
 exact Yc (thn (ha pos Md s a H _ I h) fun us s1 ⟨vs,H1,I1,r1,q1⟩=>hc Md s1 a H1 vs us Q I1 r1 q1) he hpl
end
end L2
namespace HT
open PySem PyProof.Rows
section
open PySem.SeqAt
open PySem.AutoSeq1 (wpAny_loadPart')
open PySem.MeetsSeq PySem.MeetsSeq2 PySem.MeetsSeq3
end
section
variable{prog:Je}{w:Jf}{A:Jg}{E:Ja->Jb->Prop}{s:Jb}
def cat_tup{t b:Jc}{vs ws:List Ja}{Q:Ja->Jb->Prop}(ht:IsTup s.heap t vs.toArray)(hb:IsTup s.heap b ws.toArray)(hv:vs≠[])
  (h1:ws=[]->Q (.ref t) s) (h2:ws≠[]->Q (.ref s.heap.objs.size) { s with heap:=s.heap.push { cls:=.type "tuple", data:=.seq (vs++ws).toArray } })
  (hsz:vs.length+ws.length<=sizeLine):wpAny (model prog w) A (binaryOp .Add (.ref t) (.ref b)) Q E s:=by
 obtain⟨⟨cls,dd,data,sl⟩,ho,hc,n,hd⟩:=id ht;obtain⟨⟨cls2,dd2,data2,sl2⟩,ho2,hc2,n2,hd2⟩:=id hb;simp only at hc hd hc2 hd2
 subst hc hd hc2 hd2;have e:vs.toArray++ws.toArray=(vs++ws).toArray:=by simp
 by_cases hw:ws=[]
 ·exact Jy ⟨_,ho,rfl⟩ ⟨_,ho2,rfl⟩ Jz J0 Ur Us (Ut _ _)
   (tuple_addW1 t b vs.toArray ws.toArray n n2 dd dd2 sl sl2 (by simpa using hv) (by simp[hw])) ⟨ho,ho2,h1 hw⟩
 ·refine Jy ⟨_,ho,rfl⟩ ⟨_,ho2,rfl⟩ Jz J0 Ur Us (Ut _ _)
   (tuple_addW2 t b vs.toArray ws.toArray n n2 dd dd2 sl sl2 (by simpa using hv) (by simpa using hw) (by rw[Qh,Qh];exact hsz)) ⟨ho,ho2,?_⟩
  rw[e];exact h2 hw
def sIx(n d:Nat):Option Int->Nat
 | none=>d
 | some v=>if v<0 then (v+(n:Int)).toNat else min v.toNat n
def zQJ(n d:Nat)(hd:d<=n)(o:Option Int):sIx n d o<=n:=by
 cases o with
 | none=>exact hd
 | some v=>
  show(if v<0 then (v+(n:Int)).toNat else min v.toNat n)<=n
  by_cases hv:v<0
  ·rw[Jj hv];omega
  ·rw[Jk hv];exact Nat.min_le_right _ _
def zHZ(v:Int)(n d:Nat):(if v<0 then max (v+(n:Int)) 0 else min v (n:Int))=((sIx n d (some v):Nat):Int):=by
 show(if v<0 then max (v+(n:Int)) 0 else min v (n:Int))=(((if v<0 then (v+(n:Int)).toNat else min v.toNat n):Nat):Int)
 by_cases hv:v<0
 ·simp only[Jj hv];omega
 ·simp only[Jk hv];omega
def zHa(lo hi:Option Int)(n:Nat):Builtin.Slice.sliceAdjust lo hi 1 (n:Int)=(((sIx n 0 lo:Nat):Int),((sIx n n hi:Nat):Int)):=by
 have h1:¬ ((1:Int)<0):=by omega
 unfold Builtin.Slice.sliceAdjust;simp only[h1,if_false];refine Prod.ext ?_ ?_
 ·cases lo with
  | none=>rfl
  | some v=>exact zHZ v n 0
 ·cases hi with
  | none=>rfl
  | some v=>exact zHZ v n n
def zHk(i j:Nat):Builtin.Slice.slicePlaces (i:Int) (j:Int) 1=j-i:=by
 unfold Builtin.Slice.slicePlaces;have h1:(1:Int) > 0:=by omega
 simp only[h1,if_true,Int.ediv_one];split<;>omega
def zAy{v:Ja}{o:Option Int}{Q:Option Int->Jb->Prop}(p:IsPart v o)(h:Q o s):wpAny (model prog w) A (Builtin.Slice.slicePartIndex v) Q E s:=by
 cases p with
 | none=>exact slicePart_none h
 | int i t=>exact slicePart_int h
def sliceApplied_gen{sl:Jc}{vl vu:Ja}{lo hi:Option Int}{n:Nat}{Q:Int×Int×Nat->Jb->Prop}(hs:s.heap.IsSliceOf sl vl vu .none)(pl:IsPart vl lo)(pu:IsPart vu hi)
  (h:Q (((sIx n 0 lo:Nat):Int),1,sIx n n hi-sIx n 0 lo) s):wpAny (model prog w) A (Builtin.Slice.sliceApplied (.ref sl) (pure (n:Int))) Q E s:=by
 obtain⟨os,hos,hcs,hds⟩:=id hs;unfold Builtin.Slice.sliceApplied Builtin.Slice.sliceFields;refine Jq (Jq (wpAny_field hos hds (x:=vl) rfl (Jq (wpAny_field hos hds (x:=vu) rfl (Jq (wpAny_field hos hds (x:=.none) rfl (Jt ?_)))))))
 refine Jq (slicePart_none ?_)
 show wpAny _ _ (if ((1:Int)==0)=true then _ else _) _ _ s
 rw[Jk (by decide)];refine Jq (zAy pl (Jq (zAy pu (Jq (Jt ?_)))))
 show wpAny _ _ (match Builtin.Slice.sliceAdjust lo hi 1 (n:Int) with | (lo,hi)=>pure (lo,(1:Int),Builtin.Slice.slicePlaces lo hi 1)) _ _ s
 rw[zHa lo hi n];show wpAny _ _ (pure (((sIx n 0 lo:Nat):Int),(1:Int),Builtin.Slice.slicePlaces ((sIx n 0 lo:Nat):Int) ((sIx n n hi:Nat):Int) 1)) _ _ s
 rw[zHk];exact Jt h
def zLu(xs:Array Ja)(i k:Nat):((List.range k).filterMap fun(m:Nat)=>xs[((i:Int)+(m:Int)*1).toNat]?).toArray=((xs.toList.drop i).take k).toArray:=by
 have e:(fun(m:Nat)=>xs[((i:Int)+(m:Int)*1).toNat]?)=fun m=>xs[i+m]?:=by
  funext m
  have:((i:Int)+(m:Int)*1).toNat=i+m:=by omega
  rw[this]
 rw[e];have:=pick_run xs i k
 rw[List.filterMap_map] at this;have e2:((fun x=>xs[x]?) ∘ fun x=>i+x)=fun m=>xs[i+m]?:=rfl
 rw[e2] at this;rw[this]
def getItem_tuple_cut{t sl:Jc}{items:Array Ja}{vl vu:Ja}{lo hi:Option Int}{Q:Ja->Jb->Prop}(ht:IsTup s.heap t items)(hs:s.heap.IsSliceOf sl vl vu .none)(pl:IsPart vl lo)(pu:IsPart vu hi)
  (hw:¬ (sIx items.size 0 lo=0/\sIx items.size items.size hi=items.size))
  (h:Q (.ref s.heap.objs.size) { s with heap:=s.heap.push { cls:=.type "tuple", data:=.seq ((items.toList.drop (sIx items.size 0 lo)).take (sIx items.size items.size hi-sIx items.size 0 lo)).toArray } })
  (hsz:items.size<=sizeLine):wpAny (model prog w) A (getItem (.ref t) (.ref sl)) Q E s:=by
 have htake:sizeOk (.seq ((items.toList.drop (sIx items.size 0 lo)).take (sIx items.size items.size hi-sIx items.size 0 lo)).toArray):=by
  show((items.toList.drop (sIx items.size 0 lo)).take (sIx items.size items.size hi-sIx items.size 0 lo)).toArray.size<=sizeLine
  rw[Qh,V4,Vx,Xi];omega
 have hj:sIx items.size items.size hi<=items.size:=zQJ _ _ (Qb _) hi;obtain⟨os,hos,hcs,hds⟩:=id hs;have hTs:s.TypeIs (.ref sl) "slice" := ⟨os,hos,hcs⟩;unfold getItem;try with_reducible refine wpAny_holding ?_
 first | refine Jq (Jt ?_) | skip
 refine Jq (wpAny_sequenceKey ht.typeIs (by decide) ?_)
 refine Jq (wpAny_callSpecial?_slot (name:=Str.ofString "__getitem__") ht.typeIs Y3
  (wpAny_call_entry Y3 ht.typeIs J1 ?_ (args_tuple_getitem _ _)))
 show wpAny _ _ (Builtin.Tuple.tupleItemsOf (.ref t) >>= _) _ _ s
 refine Jq (tupleItemsOf_ ht ?_)
 refine Jq (wpAny_typeOf hTs ?_)
 rw[Jj (by decide)];refine Jq (sliceApplied_gen hs pl pu ?_)
 have hno:¬ ((((sIx items.size 0 lo:Nat):Int)==0 && (1:Int)==1 && (sIx items.size items.size hi-sIx items.size 0 lo)==items.size)=true):=by
  intro q;rw[Vg,Vg] at q;have q1:((sIx items.size 0 lo:Nat):Int)=0:=eq_of_beq q.1.1;have q2:sIx items.size items.size hi-sIx items.size 0 lo=items.size:=eq_of_beq q.2;exact hw ⟨by omega,by omega⟩
 show wpAny _ _ (if (((sIx items.size 0 lo:Nat):Int)==0 && (1:Int)==1 && (sIx items.size items.size hi-sIx items.size 0 lo)==items.size)=true then _ else _) _ _ s
 rw[Jk hno,zLu]
 first
  | exact Jq (m:=Builtin.Tuple.tupleExact _) (wpAny_newObj_type (Jt ⟨_,rfl,Jt h⟩) htake)
  | exact Jq (m:=Builtin.Tuple.tupleExact _) (wpAny_newObj_type (Jq (Jt (Jt ⟨_,rfl,Jt h⟩))) htake)
  | exact Jq (Jq (m:=Builtin.Tuple.tupleExact _) (wpAny_newObj_type (Jt (Jt ⟨_,rfl,Jt h⟩)) htake))
  | exact Jq (Jq (m:=Builtin.Tuple.tupleExact _) (wpAny_newObj_type (Jt ⟨_,rfl,Jt h⟩) htake))
end
end HT
namespace L2
open PySem PySem.Spec PyProof.Rows
local macro_rules | `(⋯)=>`(by omega)
abbrev TO:=St->Hp->(Option Int->Hp->Prop)->Prop
def PO(X:Cx)(e:Option Expr)(t:TO):Prop:=
 ∀(Md:List (Jc×Obj))(s:Jb)(r:St)(H:Hp)(Q:Option Int->Hp->Prop),Inv X Md r H s->t r H Q->
  wpAny (model X.prog X.w) X.A (evalPart e X.env) (fun u s'=>∃ o H',Inv X Md r H' s'/\IsPart u o/\Q o H') X.xe s
abbrev zNM:TO:=fun _ H Q=>Q none H
abbrev zSv(t:TE):TO:=fun r H Q=>t r H fun x H1=>∃ i,x=.int i/\Q (some i) H1
section
variable{X:Cx}{e:Expr}{te:TE}{lo hi:Option Expr}{tl th:TO}{pos p2:Pos}
def zNp:PO X none zNM:=by
 intro Md s c H Q I h;rw[evalPart_none];exact Jt ⟨none,H,I,.none,h⟩
def zOm(h:PE X e te):PO X (some e) (zSv te):=by
 intro Md s c H Q I hw;rw[evalPart_some];refine thn (h Md s c H _ I hw) fun u s1 ⟨x,H1,I1,r1,q1⟩=>?_
 obtain⟨i,rfl,q⟩:=q1;obtain⟨t,rfl⟩:=r1;exact⟨some i,H1,I1,.int i t,q⟩
def SlR(X:Cx)(r:V->Option Int->Option Int->Hp->VK->Prop):Prop:=
 ∀(Md:List (Jc×Obj))(s:Jb)(c:St)(H:Hp)(x:V)(v vl vu:Ja)(lo hi:Option Int)(sl:Jc)(Q:VK),Inv X Md c H s->dZ x v->s.heap.IsSliceOf sl vl vu .none->IsPart vl lo->IsPart vu hi->r x lo hi H Q->
  ∃ T id,typeLookup (.type T) "__getitem__" = pure (some (.builtin id))/\s.TypeIs v T/\wpAny (model X.prog X.w) X.A (getItem v (.ref sl)) (EP X Md c Q) X.xe s
def SlR.or{r r':V->Option Int->Option Int->Hp->VK->Prop}(h:SlR X r)(h':SlR X r'):SlR X (fun x lo hi H Q=>r x lo hi H Q∨r' x lo hi H Q):=by
 intro Md s c H x v vl vu lo hi sl Q I rx hs pl pu q;rcases q with q | q
 ·exact h Md s c H x v vl vu lo hi sl Q I rx hs pl pu q
 ·exact h' Md s c H x v vl vu lo hi sl Q I rx hs pl pu q
abbrev tSl(r:V->Option Int->Option Int->Hp->VK->Prop)(te:TE)(tl th:TO):TE:=fun c H Q=>te c H fun x H1=>tl c H1 fun l H2=>th c H2 fun u H3=>r x l u H3 Q
def zFP{r:V->Option Int->Option Int->Hp->VK->Prop}(hr:SlR X r)(he:PE X e te)(hl:PO X lo tl)(hu:PO X hi th):PE X (.Subscript e (.Slice lo hi none p2) pos) (tSl r te tl th):=by
 intro Md s c H Q I h;refine Subscript_ (thn (he Md s c H _ I h) fun v s1 ⟨x,H1,I1,r1,q1⟩=>?_)
 refine wpAny_Slice (thn (hl Md s1 c H1 _ I1 q1) fun vl s2 ⟨l,H2,I2,pl,q2⟩=>thn (hu Md s2 c H2 _ I2 q2) fun vu s3 ⟨u,H3,I3,pu,q3⟩=>?_)
 rw[evalPart_none];refine Jt ?_
 have I4:Inv X Md c H3 { s3 with heap:=s3.heap.push { cls:=.type "slice", data:=.fields #[vl,vu,.none] } }:=I3.kept (t':=s3.toks) fun b ob q=>Heap.get?_push_of_some _ q
 obtain⟨T,id,hT,ht,hg⟩:=hr Md { s3 with heap:=s3.heap.push { cls:=.type "slice", data:=.fields #[vl,vu,.none] } } c H3 x v vl vu l u s3.heap.objs.size Q I4 r1 (Heap.IsSliceOf.new ..) pl pu q3;show wpAny (model X.prog X.w) X.A (subscriptTail e (.Slice lo hi none p2) v (.ref s3.heap.objs.size)) (EP X Md c Q) X.xe { s3 with heap:=s3.heap.push { cls:=.type "slice", data:=.fields #[vl,vu,.none] } }
 exact tail_any (ops:=[.ref s3.heap.objs.size,v]) ht hT hg (by with_unfolding_all rfl)
def zKu(xs:List V)(lo hi:Option Int):List V:=(xs.drop (HT.sIx xs.length 0 lo)).take (HT.sIx xs.length xs.length hi-HT.sIx xs.length 0 lo)
def wK(xs:List V)(lo hi:Option Int):(zKu xs lo hi).length<=xs.length:=by
 unfold zKu;rw[V4,Vx];omega
def zTM(K:PySem.W.Frag):V->Option Int->Option Int->Hp->VK->Prop:=fun x lo hi H Q=>∃ a xs,x=.ref a/\SqT K H a xs/\
 ¬ (HT.sIx xs.length 0 lo=0/\HT.sIx xs.length xs.length hi=xs.length)/\∀ p,H p=none->Q (.ref p) (upd H p (.tup (zKu xs lo hi)))
def zQh:SlR X (zTM X.K):=by
 intro Md s c H x v vl vu lo hi sl Q I rx hs pl pu h;obtain⟨a,xs,rfl,hx,hw,q⟩:=h;cases rx;obtain⟨its,r,ht,hz⟩:=I.tuple hx;have hlen:its.toArray.size=xs.length:=by rw[Qh];exact r.length.symm
 refine⟨"tuple", _,PyProof.Rows.slot_tuple_getitem.lookup,ht.typeIs,?_⟩
 refine HT.getItem_tuple_cut ht hs pl pu (by rw[hlen];exact hw) ?_ (by rw[hlen];exact hz)
 rw[hlen];refine⟨.ref s.heap.objs.size,_,I.laid (t':=s.toks) (o:=.tup (zKu xs lo hi)) (fun b ob q=>Heap.get?_push_of_some _ q) (Qb _) ?_,rfl,q _ (I.hok.fresh (Qb _))⟩
 exact⟨Qp (wK xs lo hi) hz,_,(r.drop (HT.sIx xs.length 0 lo)).take (HT.sIx xs.length xs.length hi-HT.sIx xs.length 0 lo),IsTup.new _ _⟩
def zQe(K:PySem.W.Frag):R2:=fun x y H Q=>∃ a b xs ys,x=.ref a/\y=.ref b/\SqT K H a xs/\SqT K H b ys/\xs≠[]/\xs.length+ys.length<=sizeLine/\
 (ys=[]->Q (.ref a) H)/\(ys≠[]->∀ p,H p=none->Q (.ref p) (upd H p (.tup (xs++ys))))
def eV.nil_iff{xs:List V}{us:List Ja}(r:eV xs us):us=[] ↔ xs=[]:=by
 cases r with
 | nil=>simp
 | cons _ _=>simp
def zNd:OpR X (binaryOp .Add) (zQe X.K):=by
 intro Md s c H x y v u Q I rx ry h;obtain⟨a,b,xs,ys,rfl,rfl,ha,hb,hx,hz,q1,q2⟩:=h;cases rx;cases ry;obtain⟨its,r1,p1,_⟩:=I.tuple ha;obtain⟨its2,r2,p2,_⟩:=I.tuple hb;refine HT.cat_tup p1 p2 (fun z=>hx (r1.nil_iff.mp z)) (fun z=>⟨.ref a,H,I,rfl,q1 (r2.nil_iff.mp z)⟩) (fun z=>?_) (by rw[<-r1.length,<-r2.length];exact hz)
 refine⟨.ref s.heap.objs.size,_,I.laid (t':=s.toks) (o:=.tup (xs++ys)) (fun b ob q=>Heap.get?_push_of_some _ q) (Qb _) ?_,rfl,q2 (fun w=>z (r2.nil_iff.mpr w)) _ (I.hok.fresh (Qb _))⟩
 exact⟨by rw[Ql];exact hz,_,r1.append r2,IsTup.new _ _⟩
end
def ixN(n:Nat)(i:Int):Option Nat:=if 0<=i then (if i<n then some i.toNat else none) else if -(n:Int)<=i then some (i+n).toNat else none
def atI{r:Type}(xs:List r)(i:Int):Option r:=(ixN xs.length i).bind fun j=>xs[j]?
def zJn{n:Nat}{i:Int}{j:Nat}(h:ixN n i=some j):seqIndex? i n=some j/\j<n/\-(n:Int)<=i/\i<n:=by
 unfold ixN at h;by_cases h0:0<=i
 ·rw[Jj h0] at h
  by_cases h1:i<n
  ·rw[Jj h1] at h
   have e:i.toNat=j:=Ve h;exact⟨by rw[J2 h0 h1,e],by omega,by omega,h1⟩
  ·rw[Jk h1] at h;cases h
 ·rw[Jk h0] at h
  by_cases h1:-(n:Int)<=i
  ·rw[Jj h1] at h
   have e:(i+n).toNat=j:=Ve h;exact⟨by rw[J3 ⋯ h1,e],by omega,h1,by omega⟩
  ·rw[Jk h1] at h;cases h
def zIp{r:Type}{xs:List r}{i:Int}{v:r}(h:atI xs i=some v):∃ j,seqIndex? i xs.length=some j/\xs[j]?=some v/\j<xs.length/\-(xs.length:Int)<=i/\i<xs.length:=by
 unfold atI at h
 cases e:ixN xs.length i with
 | none=>rw[e] at h;cases h
 | some j=>
  rw[e] at h;obtain⟨h1,h2,h3,h4⟩:=zJn e;exact⟨j,h1,h,h2,h3,h4⟩
def zFg{r:Type}{xs:List r}{j:Nat}{v:r}(h:xs[j]?=some v):atI xs (j:Int)=some v:=by
 have hj:j<xs.length:=(Qy.mp h).1
 have e:ixN xs.length (j:Int)=some j:=by
  unfold ixN;rw[Jj ⋯,Jj ⋯];simp
 unfold atI;rw[e];exact h
def zEB(b:Expr):Prop:=∀ o i,subscripted b false o i=operate [o,i] (getItem o i)
def IxR(X:Cx)(r:R2):Prop:=
 ∀(value slice:Expr)(Md:List (Jc×Obj))(s:Jb)(p:St)(H:Hp)(x y:V)(v u:Ja)(Q:VK),Inv X Md p H s->dZ x v->dZ y u->r x y H Q->
  subscripted slice false v u=operate [v,u] (getItem v u)->wpAny (model X.prog X.w) X.A (subscriptTail value slice v u) (EP X Md p Q) X.xe s
def MtR(X:Cx)(id:String)(r:V->List V->Hp->VK->Prop):Prop:=
 ∀(Md:List (Jc×Obj))(s:Jb)(p:St)(H:Hp)(x:V)(xs:List V)(v:Ja)(us:List Ja)(Q:VK),Inv X Md p H s->dZ x v->eV xs us->r x xs H Q->
  wpAny (model X.prog X.w) X.A (call (.builtin id) (v::us)) (EP X Md p Q) X.xe s
section
variable{X:Cx}{a b:Expr}{ta tb:TE}{pos:Pos}
def IxR.or{r r':R2}(h:IxR X r)(h':IxR X r'):IxR X (fun x y H Q=>r x y H Q∨r' x y H Q):=by
 intro value slice Md s d H x y v u Q I rx ry q hs;rcases q with q | q
 ·exact h value slice Md s d H x y v u Q I rx ry q hs
 ·exact h' value slice Md s d H x y v u Q I rx ry q hs
def zGX{r:R2}(hr:IxR X r)(ha:PE X a ta)(hb:PE X b tb)(hs:zEB b):PE X (.Subscript a b pos) (tOp r ta tb):=by
 intro Md s d H Q I h;exact Subscript_ (zSq ha hb I h fun v u s2 x y H2 I2 rx ry q=>hr a b Md s2 d H2 x y v u Q I2 rx ry q (hs _ _))
def zRE(K:PySem.W.Frag):R2:=fun x y H Q=>∃ p xs i v,x=.ref p/\y=.int i/\SqL K H p xs/\atI xs i=some v/\Q v H
def zRM(K:PySem.W.Frag):R2:=fun x y H Q=>∃ p xs i v,x=.ref p/\y=.int i/\SqT K H p xs/\atI xs i=some v/\Q v H
def zOP:IxR X (zRE X.K):=by
 intro value slice Md s d H x y v u Q I rx ry h hs;obtain⟨p,xs,i,z,rfl,rfl,hq,he,q⟩:=h;cases rx;obtain⟨t,rfl⟩:=ry;obtain⟨its,r,pl,hz⟩:=I.list hq;obtain⟨j,h1,h2,h3,h4,h5⟩:=zIp he;obtain⟨w,ew,rw'⟩:=r.get h2;have hl:=r.length;have hn:=zFX;have fin:EP X Md d Q w s:=⟨z,H,I,rw',q⟩;by_cases h0:0<=i
 ·have hj:i.toNat=j:=by
   rw[J2 h0 h5] at h1;exact Ve h1
  exact item_listR pl.isList h0 ⋯ (by rw[hj];simpa using ew) fin hs
 ·have hj:(i+(its.toArray.size:Int)).toNat=j:=by
   rw[J3 ⋯ h4] at h1;rw[Qh,<-hl];exact Ve h1
  exact J4 (x:=w) pl.isList.typeIs slot_list_getitem.lookup
   (wpAny_getItem_list_neg (Q:=fun r s'=>r=w/\EP X Md d Q r s') pl.isList ⋯ (by rw[Qh]<;>omega) ⋯ (by rw[hj];simpa using ew) ⟨rfl,fin⟩) hs
def zPj:IxR X (zRM X.K):=by
 intro value slice Md s d H x y v u Q I rx ry h hs;obtain⟨p,xs,i,z,rfl,rfl,hq,he,q⟩:=h;cases rx;obtain⟨t,rfl⟩:=ry;obtain⟨its,r,pl,hz⟩:=I.tuple hq;obtain⟨j,h1,h2,h3,h4,h5⟩:=zIp he;obtain⟨w,ew,rw'⟩:=r.get h2;have hl:=r.length;have hn:=zFX;have fin:EP X Md d Q w s:=⟨z,H,I,rw',q⟩
 exact J4 (x:=w) pl.typeIs slot_tuple_getitem.lookup
  (getItem_tuple (j:=j) (Q:=fun r s'=>r=w/\EP X Md d Q r s') pl ⋯ ⋯ (by rw[Qh,<-hl];exact h1) (by simpa using ew) ⟨rfl,fin⟩) hs
def zHb(its:List Ja)(n j:Nat)(u:Ja):Obj.mapSeq (·.setIfInBounds j u) { cls:=.type "list", data:=.seq its.toArray n }={ cls:=.type "list", data:=.seq (its.set j u).toArray n }:=by
 simp[Obj.mapSeq]
def Inv.lst{Md:List (Jc×Obj)}{d:St}{H:Hp}{s:Jb}{p:Jc}{xs:List V}(I:Inv X Md d H s)(h:H p=some (.lst xs)):
  ∃(its:List Ja)(n:Nat),eV xs its/\s.heap.get? p=some { cls:=.type "list", data:=.seq its.toArray n }/\xs.length<=sizeLine:=by
 obtain⟨z,its,n,r,e⟩:=I.hok p _ h;exact⟨its,n,r,e,z⟩
def Inv.lstUpd{Md:List (Jc×Obj)}{d:St}{H:Hp}{s:Jb}{p:Jc}{xs ys:List V}{its its':List Ja}{n n':Nat}{f:Obj->Obj}(I:Inv X Md d H s)(h:H p=some (.lst xs))
  (ho:s.heap.get? p=some { cls:=.type "list", data:=.seq its.toArray n }) (hf:f { cls:=.type "list", data:=.seq its.toArray n }={ cls:=.type "list", data:=.seq its'.toArray n' }) (r:eV ys its') (hz:ys.length<=sizeLine) (t:Nat):
  Inv X Md d (upd H p (.lst ys)) { s with heap:=s.heap.update p f,toks:=t }:=by
 have e:(s.heap.update p f).get? p=some { cls:=.type "list", data:=.seq its'.toArray n' }:=by
  rw[Heap.get?_update_self f ho (by rw[hf]<;>rfl),hf]
 refine I.write (x:=p) (e:=p) (by rw[h];trivial) (.inl rfl) (fun b u hb q=>(Heap.get?_update_other _ _ (Ne.symm hb)).trans q) ⟨_,e⟩ ?_
 exact⟨hz,its',n',r,e⟩
def zSJ:V->V->V->Hp->(Hp->Prop)->Prop:=fun o i v H Q=>∃ p xs k j,o=.ref p/\i=.int k/\H p=some (.lst xs)/\ixN xs.length k=some j/\Q (upd H p (.lst (xs.set j v)))
def zLD:zSR X zSJ:=by
 intro Md s d H o i v ov iv u Q I ro ri rv h;obtain⟨p,xs,k,j,rfl,rfl,hp,hj,q⟩:=h;cases ro;obtain⟨t,rfl⟩:=ri;obtain⟨its,n,r,ho,hz⟩:=I.lst hp;obtain⟨h1,h2,h3,h4⟩:=zJn hj;have hl:=r.length;have hn:=zFX
 have I':Inv X Md d (upd H p (.lst (xs.set j v))) { s with heap:=s.heap.update p (Obj.mapSeq (·.setIfInBounds j u)) }:=
  I.lstUpd hp ho (zHb its n j u) (r.set rv j) (by rw[Va];exact hz) s.toks
 by_cases h0:0<=k
 ·have hk:k.toNat=j:=by
   rw[J2 h0 h4] at h1;exact Ve h1
  exact PySem.W.ki_setAt ho h0 ⋯ (by rw[Qh,<-hl];exact h4) (by rw[hk];exact⟨_,I',q⟩)
 ·have hk:(k+(its.toArray.size:Int)).toNat=j:=by
   rw[J3 ⋯ h3] at h1;rw[Qh,<-hl];exact Ve h1
  exact PySem.W.ki_setBack ho ⋯ (by rw[Qh,<-hl];exact h3) ⋯ (by rw[hk];exact⟨_,I',q⟩)
def zDK(lo hi:Option Int)(n:Nat):(sliceBounds lo hi none n).1=((HT.sIx n 0 lo:Nat):Int)/\(sliceBounds lo hi none n).2.1=((HT.sIx n n hi:Nat):Int)/\(sliceBounds lo hi none n).2.2=1:=by
 refine⟨?_,?_,rfl⟩
 ·cases lo with
  | none=>simp[sliceBounds,HT.sIx]
  | some i=>
   simp only[sliceBounds,HT.sIx,Option.getD_none,show(1:Int) > 0 by decide,if_true];by_cases h:i<0
   ·simp only[h,if_true]<;>omega
   ·simp only[h,if_false]<;>omega
 ·cases hi with
  | none=>simp[sliceBounds,HT.sIx]
  | some i=>
   simp only[sliceBounds,HT.sIx,Option.getD_none,show(1:Int) > 0 by decide,if_true];by_cases h:i<0
   ·simp only[h,if_true]<;>omega
   ·simp only[h,if_false]<;>omega
def zAQ(its:List Ja)(lo hi:Option Int):slicePick its.toArray lo hi none=((its.drop (HT.sIx its.length 0 lo)).take (HT.sIx its.length its.length hi-HT.sIx its.length 0 lo)).toArray:=by
 obtain⟨h1,h2,h3⟩:=zDK lo hi its.toArray.size;unfold slicePick;rw[h1,h2,h3];simp only[sliceRange_one,pick_run,Qh]<;>rfl
def zTT(K:PySem.W.Frag):V->Option Int->Option Int->Hp->VK->Prop:=fun x lo hi H Q=>∃ a xs,x=.ref a/\SqL K H a xs/\∀ p,H p=none->Q (.ref p) (upd H p (.lst (zKu xs lo hi)))
def zJx:SlR X (zTT X.K):=by
 intro Md s d H x v vl vu lo hi sl Q I rx hs pl pu h;obtain⟨a,xs,rfl,hx,q⟩:=h;cases rx;obtain⟨its,r,ht,hz⟩:=I.list hx;have hlen:=r.length;refine⟨"list", _,slot_list_getitem.lookup,ht.isList.typeIs,?_⟩
 refine wpAny_getItem_list_slice ht.isList hs pl pu .none (by simp) ?_ (by rw[Qh]<;>omega)
 rw[zAQ,<-hlen];refine⟨.ref s.heap.objs.size,_,I.laid (t':=s.toks) (o:=.lst (zKu xs lo hi)) (fun b ob q=>Heap.get?_push_of_some _ q) (Qb _) ?_,rfl,q _ (I.hok.fresh (Qb _))⟩
 exact⟨Qp (wK xs lo hi) hz,_,0,(r.drop (HT.sIx xs.length 0 lo)).take (HT.sIx xs.length xs.length hi-HT.sIx xs.length 0 lo),Heap.get?_push_size _ rfl⟩
def aP:wJ X (.builtin "len") (fun xs H Q=>∃ p ys,xs=[.ref p]/\(SqL X.K H p ys∨SqT X.K H p ys)/\Q (.int ys.length) H):=by
 intro Md s d H xs us Q I r h;obtain⟨p,ys,rfl,hq,q⟩:=h;obtain⟨u,rfl,rx⟩:=zEG r;cases rx;have hn:=zFX;rcases hq with hq | hq
 ·obtain⟨its,r',pl,hz⟩:=I.list hq
  have hlen:=r'.length;exact Calls.call_len_list pl.isList (by simp only[Qh]<;>omega) ⟨.int ys.length,H,I.tok _,⟨s.toks+1,by rw[Qh,hlen]⟩,q⟩
 ·obtain⟨its,r',pl,hz⟩:=I.tuple hq
  have hlen:=r'.length;exact len_tuple pl (by simp only[Qh]<;>omega) ⟨.int ys.length,H,I.tok _,⟨s.toks+1,by rw[Qh,hlen]⟩,q⟩
def zDQ:wJ X (.type "list") (fun xs H Q=>∃ p ys,xs=[.ref p]/\(SqL X.K H p ys∨SqT X.K H p ys)/\∀ l,H l=none->Q (.ref l) (upd H l (.lst ys))):=by
 intro Md s d H xs us Q I r h;obtain⟨p,ys,rfl,hq,q⟩:=h;obtain⟨u,rfl,rx⟩:=zEG r;cases rx
 have fin:∀(its:List Ja),eV ys its->ys.length<=sizeLine->∀(h':Jd)(c':Nat),(∀ b o',s.heap.get? b=some o'->h'.get? b=some o')->
   h'.get? s.heap.objs.size=some { cls:=.type "list", dict:=none,data:=.seq its.toArray c',slots:=#[] }->EP X Md d Q (.ref s.heap.objs.size) { s with heap:=h' }:=fun its r' hz h' c' kp e=>
  ⟨.ref s.heap.objs.size,_,I.laid (t':=s.toks) kp (Qb _) (show nQ X.prog X.w _ h' _ (.lst ys) from ⟨hz,its,c',r',e⟩),rfl,q _ (I.hok.fresh (Qb _))⟩
 rcases hq with hq | hq
 ·obtain⟨its,r',pl,hz⟩:=I.list hq
  have hlen:=r'.length;obtain⟨o,ho,hc,n,hd⟩:=pl.isList;exact call_list_seq p (.inl rfl) ho hc hd (fun h' c' kp e=>fin its r' hz h' c' kp e) (by simp only[Qh]<;>omega)
 ·obtain⟨its,r',pl,hz⟩:=I.tuple hq
  have hlen:=r'.length;obtain⟨o,ho,hc,n,hd⟩:=pl;exact call_list_seq p (.inr rfl) ho hc hd (fun h' c' kp e=>fin its r' hz h' c' kp e) (by simp only[Qh]<;>omega)
def jN:wJ X (.type "tuple") (fun xs H Q=>∃ p ys,xs=[.ref p]/\((SqL X.K H p ys/\∀ l,H l=none->Q (.ref l) (upd H l (.tup ys)))∨(SqT X.K H p ys/\Q (.ref p) H))):=by
 intro Md s d H xs us Q I r h;obtain⟨p,ys,rfl,h⟩:=h;obtain⟨u,rfl,rx⟩:=zEG r;cases rx;rcases h with⟨hq,q⟩ | ⟨hq,q⟩
 ·obtain⟨its,r',pl,hz⟩:=I.list hq
  have hlen:=r'.length;refine call_tuple_list pl.isList (fun h' kp=>?_) (by simp only[Qh]<;>omega)
  have I1:Inv X Md d H { s with heap:=h' }:=I.kept (t':=s.toks) kp
  have I2:Inv X Md d (upd H h'.objs.size (.tup ys)) { s with heap:=h'.push { cls:=.type "tuple", data:=.seq its.toArray } }:=
   I1.laid (t':=s.toks) (fun b o e=>Heap.get?_push_of_some _ e) (Qb _) (show nQ X.prog X.w _ _ _ (.tup ys) from ⟨hz,its,r',IsTup.new _ _⟩)
  exact⟨.ref h'.objs.size,_,I2,rfl,q _ (I1.hok.fresh (Qb _))⟩
 ·obtain⟨its,r',pl,hz⟩:=I.tuple hq
  exact call_tuple_same pl ⟨.ref p,H,I,rfl,q⟩
def tyV(K:PySem.W.Frag)(T:String)(x:V)(H:Hp):Prop:=match x with
 | .str _=>T = "str"
 | .int _=>T = "int"
 | .ref p=>(T = "list" /\ ∃ xs,SqL K H p xs)∨(T = "tuple" /\ ∃ o,K.lookup p=some o/\o.cls=.type "tuple" /\ o.dict=none)∨
   (T = "dict" /\ ((∃ kvs,H p=some (.dK kvs))∨∃ kvs,H p=some (.dT kvs)))∨(T = "set" /\ ∃ S n,H p=some (.set S n))
 | _=>False
def zQl{Md:List (Jc×Obj)}{d:St}{H:Hp}{s:Jb}{T:String}{x:V}{v:Ja}(I:Inv X Md d H s)(r:dZ x v)(ty:tyV X.K T x H):
  s.TypeIs v T/\∀ a,v=.ref a->∃ ob,s.heap.get? a=some ob/\ob.dict=none:=by
 cases x with
 | str z=>
  obtain⟨t,rfl⟩:=r;cases (show T = "str" from ty)
  exact⟨typeIs_str s z t,fun _ e=>nomatch e⟩
 | int i=>
  obtain⟨t,rfl⟩:=r;cases (show T = "int" from ty)
  exact⟨typeIs_int s i t,fun _ e=>nomatch e⟩
 | ref p=>
  cases r;rcases ty with⟨rfl,xs,hq⟩ | ⟨rfl,o,hk,hc,hd⟩ | ⟨rfl,hk⟩ | ⟨rfl,S,n,hk⟩
  ·obtain⟨its,_,pl,_⟩:=I.list hq
   refine⟨pl.isList.typeIs,fun a e=>?_⟩
   cases e;obtain⟨o,n,e,c,hd,_⟩:=pl;exact⟨o,e,hd⟩
  ·refine⟨⟨o,I.kIn p o hk,hc⟩,fun a e=>?_⟩
   cases e;exact⟨o,I.kIn _ o hk,hd⟩
  ·have z:∃ o,s.heap.get? p=some o/\o.ExactDict:=by
    rcases hk with⟨kvs,hk⟩ | ⟨kvs,hk⟩
    ·obtain⟨_,_,_,_,o,_,_,e,ex,_⟩:=I.hok p _ hk
     exact⟨o,e,ex⟩
    ·obtain⟨_,_,_,_,o,_,_,e,ex,_⟩:=I.hok p _ hk
     exact⟨o,e,ex⟩
   obtain⟨o,e,ex⟩:=z;refine⟨⟨o,e,ex.1⟩,fun a e2=>?_⟩
   cases e2;exact⟨o,e,ex.2.1⟩
  ·obtain⟨o,_,_,_,e,ex,_⟩:=I.hok p _ hk
   refine⟨⟨o,e,ex.1⟩,fun a e2=>?_⟩
   cases e2;exact⟨o,e,ex.2.1⟩
 | _=>exact False.elim ty
abbrev tBM(K:PySem.W.Frag)(T:String)(r:V->List V->Hp->VK->Prop)(to:TE)(t:TA):TE:=fun d H Q=>to d H fun x H1=>tyV K T x H1/\t d H1 fun xs H2=>r x xs H2 Q
variable{o e:Expr}{es:List Expr}{to:TE}{t:TA}{name:Str}{apos cpos:Pos}{T id:String}{r:V->List V->Hp->VK->Prop}
def zPI(pa:PlainAttrs T)(slot:Slot T name id)(hty:typeOf (.builtin id)=pure (.type "method_descriptor"))(hm:MtR X id r)(ho:PE X o to)(ha:PA X (e::es) t)
  (hbase:attributeBase o name X.env (eval o X.env)=eval o X.env:=by rfl)
  (hfew:((backTo cpos (starEach (e::es) X.env)).all (fun x=>!x.1) && (backToKw cpos (keywordEach [] X.env)).all (fun x=>x.1.isSome)
   && decide ((e::es).length+([]:List Keyword).length+(if ([]:List Keyword).isEmpty then 0 else 1)<30))=true:=by rfl)
  (hline:(apos.endLine==cpos.line)=true:=by rfl) (hs:starEach (e::es) X.env=(false,eval e X.env)::starEach es X.env:=by rfl) (hplain:(backTo cpos (starEach es X.env)).any (·.1)=false:=by rfl):
  PE X (.Call (.Attribute o name apos) (e::es) [] cpos) (tBM X.K T r to t):=by
 intro Md s d H Q I h;refine wpAny_Call_method_late hbase hfew hline rfl (thn (ho Md s d H _ I h) fun v s1 ⟨x,H1,I1,r1,ty,q1⟩=>?_)
 obtain⟨h1,h2⟩:=zQl I1 r1 ty;refine⟨T,id,pa,slot,hty,h1,h2,?_⟩
 have hA:=ha cpos Md s1 d H1 _ I1 q1;rw[hs] at hA ⊢
 refine Calls.callWith_builtin (by show(false || (backTo cpos (starEach es X.env)).any (·.1))=false;rw[hplain]<;>rfl) (Calls.evalArgs_plain ?_)
 exact thn hA fun us s2 ⟨vs,H2,I2,r2,q2⟩=>hm Md s2 d H2 x vs v us Q I2 r1 r2 q2
end
def MtM(X:Cx)(id:String)(r:V->List V->Hp->VK->Prop):Prop:=
 ∀(Md:List (Jc×Obj))(s:Jb)(p:St)(H:Hp)(x:V)(xs:List V)(v:Ja)(us:List Ja)(Q:VK),Inv X Md p H s->dZ x v->eV xs us->r x xs H Q->
  wpAny (model X.prog X.w) X.A (call (.builtin id) (v::us)) (EP X Md p Q) X.xe s
def eV.one:∀ {x:V} {us:List Ja},eV [x] us->∃ u,us=[u]/\dZ x u
 | _,_,.cons r .nil=>⟨_,rfl,r⟩
def eV.rep{xs:List V}{us:List Ja}(h:eV xs us):∀ k:Nat,eV (List.replicate k xs).flatten (List.replicate k us).flatten
 | 0=>.nil
 | k+1=>by
  rw[Xk,Xk,Xz,Xz];exact eV.append h (eV.rep h k)
def zCq(its:List Ja):∀(k:Nat)(acc:List Ja),
  List.foldl (fun x1 x2=>x1++x2) acc.toArray (List.replicate k its.toArray)=(acc++(List.replicate k its).flatten).toArray
 | 0,acc=>by simp
 | k+1,acc=>by
  have e:acc.toArray++its.toArray=(acc++its).toArray:=by simp
  have e2:(acc++its)++(List.replicate k its).flatten=acc++(List.replicate (k+1) its).flatten:=by
   rw[Xk,Xz,V5]
  rw[<-e2,<-zCq its k (acc++its),<-e,Xk,List.foldl_cons]
section
variable{X:Cx}{Md:List (Jc×Obj)}{p:St}{H:Hp}{s:Jb}{l b:Jc}{xs ys zs:List V}
def Inv.lset{its its':List Ja}{n:Nat}{f:Array Ja->Array Ja}{t':Nat}(I:Inv X Md p H s)(hH:H l=some (.lst xs))
  (e:s.heap.get? l=some { cls:=.type "list", data:=.seq its.toArray n }) (hf:f its.toArray=its'.toArray) (hv:eV ys its') (hz:ys.length<=sizeLine):
  Inv X Md p (upd H l (.lst ys)) { s with heap:=s.heap.update l (Obj.mapSeq f),toks:=t' }:=by
 have q:=PySem.IsL.update e f;rw[hf] at q;refine I.write (x:=l) (e:=l) (by rw[hH];exact trivial) (.inl rfl) (fun b' u hb hu=>(Heap.get?_update_other s.heap (Obj.mapSeq f) (Ne.symm hb)).trans hu) ⟨_,q⟩ ?_
 exact⟨hz,its',_,hv,q⟩
def Inv.lnew{its:List Ja}{t':Nat}(I:Inv X Md p H s)(hv:eV ys its)(hz:ys.length<=sizeLine):
  Inv X Md p (upd H s.heap.objs.size (.lst ys)) { s with heap:=s.heap.push { cls:=.type "list", data:=.seq its.toArray },toks:=t' }:=
 I.laid (fun _ _ q=>Heap.get?_push_of_some _ q) (Qb _) ⟨hz,its,0,hv,Heap.get?_push_size _ rfl⟩
def Inv.fresh(I:Inv X Md p H s):H s.heap.objs.size=none:=I.hok.fresh (Qb _)
def Inv.lstM(I:Inv X Md p H s)(hH:H l=some (.lst xs)):xs.length<=sizeLine/\∃(its:List Ja)(n:Nat),eV xs its/\xs.length=its.length/\s.heap.get? l=some { cls:=.type "list", data:=.seq its.toArray n }:=by
 obtain⟨z,its,n,r,e⟩:=I.hok l _ hH;exact⟨z,its,n,r,r.length,e⟩
def zGt{n:Nat}(h:n<=sizeLine):Builtin.List.listTooLong n=false:=by
 unfold Builtin.List.listTooLong;exact Ji ⋯
end
section
variable{X:Cx}
def zOH:V->List V->Hp->VK->Prop:=fun x vs H Q=>∃ l xs y,x=.ref l/\vs=[y]/\H l=some (.lst xs)/\xs.length<sizeLine/\Q .non (upd H l (.lst (xs++[y])))
def wO:MtM X "list.append" zOH:=by
 intro Md s c H x vs v us Q I rx rv h;obtain⟨l,xs,y,rfl,rfl,hH,hz,q⟩:=h;cases rx;obtain⟨u,rfl,ru⟩:=rv.one;obtain⟨z,its,n,r,hl,e⟩:=I.lstM hH;refine call_meets F.slot_list_append ⟨_,e,rfl⟩ F.entry_list_append (F.args_list_append_2 _ _) (PySem.list_append l its.toArray n u (by rw[Qh];omega)) ⟨e,?_⟩
 refine⟨.non,_,I.lset (its':=its++[u]) hH e (by simp) (r.append (.cons ru .nil)) ?_,rfl,q⟩
 rw[Ql,X0];omega
def zNg:V->List V->Hp->VK->Prop:=fun x vs H Q=>∃ l b xs zs,x=.ref l/\vs=[.ref b]/\H l=some (.lst xs)/\H b=some (.lst zs)/\xs.length+zs.length<=sizeLine/\Q .non (upd H l (.lst (xs++zs)))
def zJW:MtM X "list.extend" zNg:=by
 intro Md s c H x vs v us Q I rx rv h;obtain⟨l,b,xs,zs,rfl,rfl,hH,hB,hz,q⟩:=h;cases rx;obtain⟨u,rfl,ru⟩:=rv.one;cases ru;obtain⟨z,its,n,r,hl,e⟩:=I.lstM hH;obtain⟨z2,its2,n2,r2,hl2,e2⟩:=I.lstM hB;have hsz:its.toArray.size+its2.toArray.size<=sizeLine:=by rw[Qh,Qh];omega
 have hlong:¬ (!its.toArray.isEmpty && Builtin.List.listTooLong (its.toArray.size+its2.toArray.size))=true:=by
  rw[zGt hsz,Bool.and_false];exact X8
 refine call_meets F.slot_list_extend ⟨_,e,rfl⟩ F.entry_list_extend (F.args_list_extend_2 _ _)
  (AutoSeq1.list_extend_list_list_0 l its.toArray n b its2.toArray n2 hlong (by rw[Qh];omega) ⋯) ⟨e,e2,?_⟩
 refine⟨.non,_,I.lset (its':=its++its2) hH e (by simp) (r.append r2) ?_,rfl,q⟩
 rw[Ql];omega
def zTH:R2:=fun x y H Q=>∃ l k xs,x=.ref l/\y=.int k/\H l=some (.lst xs)/\-(2^63)<=k/\k<2^63/\xs.length*k.toNat<=sizeLine/\
 ∀ p,H p=none->Q (.ref p) (upd H p (.lst (List.replicate k.toNat xs).flatten))
def zNk{d:Type}(xs:List d)(k:Nat):(List.replicate k xs).flatten.length=k*xs.length:=by
 induction k with
 | zero=>simp
 | succ k ih=>rw[Xk,Xz,Ql,ih,Nat.succ_mul,Uu]
def zRg:OpR X (binaryOp .Mult) zTH:=by
 intro Md s c H x y v u Q I rx ry h;obtain⟨l,k,xs,rfl,rfl,hH,h1,h2,hz,q⟩:=h;cases rx;obtain⟨t,rfl⟩:=ry;obtain⟨z,its,n,r,hl,e⟩:=I.lstM hH;have hlen:its.toArray.size*k.toNat<=sizeLine:=by rw[Qh,<-hl];exact hz
 have hcap:¬ its.toArray.size*k.toNat > (2^63-1) / 8:=by
  have:(sizeLine:Nat)<=(2^63-1) / 8:=by decide
  omega
 have hfit:¬ (!Builtin.List.listFitsIndex k)=true:=by
  rw[fitsIndex_both h1 h2];exact X8
 have hlong:¬ Builtin.List.listTooLong (its.toArray.size*k.toNat)=true:=by
  rw[zGt hlen];exact X8
 have hnew:List.foldl (fun x1 x2=>x1++x2) #[] (List.replicate (if its.toArray.isEmpty=true then 0 else k.toNat) its.toArray)=(List.replicate k.toNat its).flatten.toArray:=by
  have f0:∀ m:Nat,List.foldl (fun x1 x2=>x1++x2) #[] (List.replicate m its.toArray)=(List.replicate m its).flatten.toArray:=fun m=>by
   have:=zCq its m []
   rw[Y4] at this;exact this
  rw[f0]
  cases its with
  | nil=>simp
  | cons a r'=>rw[Jk (by simp)]
 refine wpAny_binaryOp_repeat_ref (T := "list") (U := "int") (by decide) ⟨_,e,rfl⟩ (fun s'=>typeIs_int s' k t) noFill_list_mul F.fills_int_mul F.slot_int_rmul repeat_list F.slot_int_index.lookup
  (call_meets F.slot_int_rmul (typeIs_int s k t) F.entry_int_rmul (F.args_int_rmul_2 _ _) (int___rmul___int_list k t l its.toArray n)
   ⟨e,rfl,⟨_,e,rfl⟩,call_meets F.slot_list_mul ⟨_,e,rfl⟩ F.entry_list_mul (F.args_list_mul_2 _ _) (AutoListH.list___mul___list_int_3 l its.toArray n k t hfit hcap hlong) ⟨e,?_⟩⟩)
 rw[hnew];exact⟨.ref _,_,I.lnew (t':=s.toks) (r.rep k.toNat) (by rw[zNk,Nat.mul_comm];exact hz),rfl,q _ I.fresh⟩
end
section
variable{prog:Je}{w:Jf}{A:Jg}{E:Ja->Jb->Prop}{s:Jb}
set_option maxRecDepth 100000 in
end
end L2
namespace Att
open PySem PySem.W PySem.Calls PyProof.Rows
def wN{P:Params}{h:Jd}:∀(ns:List Int)(vs:List Ja),WellAll P h vs (ns.map WData.int)->IntsAre vs ns:=by
 intro ns
 induction ns with
 | nil=>
  intro vs w;rw[Vy] at w;cases w;exact .nil
 | cons n ns ih=>
  intro vs w;rw[Qg] at w
  cases w with
  | cons a b=>
   cases a;exact .cons _ _ (ih _ b)
def script_of{l:OpenLaw}{n:Nat}(hn:l.most=some n){P:Params}{h:Jd}{args:List WData}{vals:List Ja}
  (hpre:l.row.toRowW.claim.pre args=true) (hwl:WellAll P h vals args):
  ∃ a vs ns,vals=[Value.ref a]/\args=[WData.list (ns.map WData.int)]/\h.get? a=some { cls:=.type "list", data:=.seq vs.toArray }/\IntsAre vs ns/\ns.length<=n:=by
 have hsh:WShape.hasAll [] args [.list .int]=true:=(pre_splitW hpre).1;have hc:l.pre.holds [] { args:=args }=true:=(pre_splitW hpre).2;obtain⟨d,r,rfl,h1,h2⟩:=hasAllW_cons hsh;obtain rfl:=hasAllW_nil h2;obtain⟨xs,rfl,h3⟩:=hasW_list h1;obtain⟨ns,rfl⟩:=items_int h3
 have hlen:ns.length<=n:=by
  unfold OpenLaw.pre at hc
  have h4:(WTm.not (.lt (.lit (.int (n:Int))) (.len (.arg 0)))).holds [] { args:=[.list (ns.map .int)] }=true:=by
   have h4:=(holds_andW hc).1;rw[hn] at h4;exact h4
  have h5:=condW_of h4 (w_not (w_lt w_lit (w_len_list (w_arg rfl))));rw[Qi] at h5;refine Nat.le_of_not_lt fun q=>?_
  have q':(n:Int)<((ns.length:Nat):Int):=by omega
  first
   | (rw[J5 q'] at h5;exact absurd h5 (by decide))
   | (simp at h5;omega)
 cases hwl with
 | cons w1 w2=>
  cases w2
  cases w1 with
  | list ho hall=>exact⟨_,_,ns,rfl,rfl,ho,wN ns _ hall,hlen⟩
def post_true(l:OpenLaw)(args:List WData):l.row.toRowW.claim.post args (.bool true) args=true:=
 postW_of (r:=l.row.toRowW) (X:=(true==true))
  (show WShape.has [] (.bool true) .bool=true by first | rfl | decide | simp[WShape.has,WShape.arms,WShape.armsAll])
  (show(WTm.eq .res (.lit (.bool true))).value [] { args:=args,res:=some (.bool true),after:=args }=some (.bool (true==true)) from w_eq_bool (w_res rfl) w_lit) rfl
end Att
namespace L2
open PySem PySem.Spec PyProof.Rows
def zCB:∀ {vs:List Ja} {ns:List Int},IntsAre vs ns->eV (ns.map V.int) vs
 | _,_,.nil=>.nil
 | _,_,.cons n t h=>.cons ⟨t,rfl⟩ (zCB h)
def zTC(H:Hp):Prop:=∀ b,H b=none∨∃ o xs,H b=some (.frz o (.lst xs))
def lS(s:Jh):Arguments:=match s with
 | .FunctionDef _ a _ _ _ _ _ _ _ _=>a
 | _=>{ posonlyargs:=[],args:=[],vararg:=none,kwonlyargs:=[],kw_defaults:=[],kwarg:=none,defaults:=[] }
def fU(s:Jh):List Jh:=match s with
 | .FunctionDef _ _ b _ _ _ _ _ _ _=>b
 | _=>[]
def aH(s:Jh):Scope:=match s with
 | .FunctionDef _ _ _ _ _ _ sc _ _ _=>sc
 | _=>{ kind:=.function,names:=[],isGenerator:=false,isCoroutine:=false }
structure Fun (K:PySem.W.Frag) (x qual:Str) (st:Jh) (f:Jc) (fd:FuncData):Prop where
 ex:∃(oc:Ja)(od:Option Jc)(kV doc pm:Ja)(an:Option Jc)(cdv ct:Ja)(osl:Array (Option Ja)),
  fd=PySem.W.fnOf x qual (lS st) (fU st) (aH st) .none kV doc pm an cdv ct/\K.lookup f=some ⟨oc,od,.func fd,osl⟩/\PySem.W.codeIn K cdv qual=true
 kp:PySem.W.keepIn K (.ref f)=true
section
variable{P:Je}{w:Jf}{K:Fg_}{mg:Str->Option Ja}{base:Jd}
def Fun.binds{x qual:Str}{st:Jh}{f:Jc}{fd:FuncData}{ps:List Str}(F:Fun K x qual st f fd)
  (h:∀(kV doc pm:Ja)(an:Option Jc)(cdv ct:Ja)(us:List Ja),us.length=ps.length->bindArgs (PySem.W.fnOf x qual (lS st) (fU st) (aH st) .none kV doc pm an cdv ct) ⟨us,[]⟩=pure (ps.zip us)):zDB K fd ps []:=by
 obtain⟨oc,od,kV,doc,pm,an,cdv,ct,osl,rfl,lk,hcd⟩:=F.ex;exact .all (h kV doc pm an cdv ct)
def zAx{x qual:Str}{st:Jh}{f:Jc}{oc:Ja}{od an:Option Jc}{osl:Array (Option Ja)}{kV doc pm cdv ct:Ja}(l:K.lookup f=some ⟨oc,od,.func (PySem.W.fnOf x qual (lS st) (fU st) (aH st) .none kV doc pm an cdv ct),osl⟩)
  (c:PySem.W.codeIn K cdv qual=true) (k:PySem.W.keepIn K (.ref f)=true):Fun K x qual st f (PySem.W.fnOf x qual (lS st) (fU st) (aH st) .none kV doc pm an cdv ct):=⟨⟨oc,od,kV,doc,pm,an,cdv,ct,osl,rfl,l,c⟩,k⟩
end
section
variable{X:Cx}
def pv(i:Nat){x:Str}{pos:Pos}(hN:X.N[i]?=some x:=by rfl)(hv:Vis X.env.scope x:=by first | exact Or.inl rfl | exact Or.inr (Or.inl rfl) | exact Or.inr (Or.inr rfl))(hd:(x==("__debug__" : Str))=false:=by decide)
  (hcd:(x==("__classdict__" : Str))=false:=by decide):PE X (.Name x pos) (zHc i):=xP hN hv hd hcd
end
def Same(H H':Hp):Prop:=∀ b o,H b=some o->H' b=some o
def Same.refl(H:Hp):Same H H:=fun _ _ h=>h
def Same.trans{H H1 H2:Hp}(a:Same H H1)(b:Same H1 H2):Same H H2:=fun c o h=>b c o (a c o h)
end L2
set_option maxHeartbeats 4000000
set_option exponentiation.threshold 20000
namespace L2
open PySem PySem.Spec PyProof.Rows
section
variable{P:Je}{w:Jf}{H H':Hp}{h:Jd}{a:Jc}{o:HO}
def nQ.here(x:nQ P w H h a o):∃ ob,h.get? a=some ob:=by
 cases o with
 | lst xs=>obtain⟨_,_,_,_,e⟩:=x;exact⟨_,e⟩
 | tup xs=>obtain⟨_,_,_,e⟩:=x;obtain⟨ob,e,_⟩:=e;exact⟨_,e⟩
 | dK kvs=>obtain⟨_,_,_,_,e⟩:=x;obtain⟨ob,_,_,e,_⟩:=e;exact⟨_,e⟩
 | dT kvs=>obtain⟨_,_,_,_,ob,_,_,e,_⟩:=x;exact⟨_,e⟩
 | set S n=>obtain⟨ob,_,_,_,e,_⟩:=x;exact⟨_,e⟩
 | ins C dx fs=>obtain⟨_,_,_,e,_⟩:=x;exact⟨_,e⟩
 | own y=>exact x
 | xd fs=>obtain⟨_,⟨ob,_,_,e,_⟩,_⟩:=x;exact⟨_,e⟩
 | met f y=>exact⟨_,x⟩
 | rng lo hi=>obtain⟨_,_,_,e⟩:=x;exact⟨_,e⟩
 | frz ob u=>exact⟨_,x.1⟩
 | tbl ps=>exact⟨_,x⟩
 | ext r=>exact x.2.1
def HOk.none_of(ok:HOk P w H h)(e:h.get? a=none):H a=none:=by
 cases q:H a with
 | none=>rfl
 | some o=>
  obtain⟨ob,z⟩:=(ok a o q).here;rw[e] at z;cases z
end
structure Fly (P:Je) (w:Jf) (l:List Env) (H H':Hp) (s:Jb) (ea:Jc) (cls:Ja) (s':Jb):Prop where
 os:s'.os=s.os
 bare:AllBare s'.gens
 un:Un (frs l) [] H H' s.heap s'.heap
 hok:HOk P w H' s'.heap
 ne:H' ea=none
 new:s.heap.get? ea=none
 fly:∃ B a0,Heap.FlyingW B l ea cls a0 s'.heap/\(∀ b o,s'.heap.get? b=some o->((∃ o',s.heap.get? b=some o')∨H' b≠none)->b∉frs l->B.get? b=some o)
def CX1(P:Je)(w:Jf):CXT:=fun outer H s E e s'=>∃ ea cls H',e=.ref ea/\Fly P w outer H H' s ea cls s'/\E cls none H'
structure Own (X:Cx):Prop where
 stk:X.stack=X.env::X.outer
 fr:X.env.frame=some X.env.locals
 ex:X.ex=[]
section
variable{X:Cx}{Md:List (Jc×Obj)}{r:St}{H H':Hp}{s s':Jb}{ea:Jc}{cls:Ja}
def zFN(O:Own X):frs X.stack=X.env.locals::X.fs:=by
 rw[O.stk];show List.filterMap _ (_::_)=_
 rw[Y2,O.fr];rfl
def Inv.there0(I:Inv X Md r H s)(O:Own X){b:Jc}{o:Obj}(e:X.s₀.heap.get? b=some o):∃ o',s.heap.get? b=some o':=I.base.there b o e (by rw[O.ex];simp)
def Inv.ne0(I:Inv X Md r H s){b:Jc}{o:Obj}(e:X.s₀.heap.get? b=some o):b≠X.env.locals:=Qo (Qm (Heap.lt_size e) I.ok.above)
def Fly.leave(I:Inv X Md r H s)(O:Own X)(F:Fly X.prog X.w X.stack H H' s ea cls s'){h':Jd}{B:Jd}{a0:Ja}
  (hf:Heap.FlyingW B X.stack ea cls a0 s'.heap) (cov:∀ b o,s'.heap.get? b=some o->((∃ o',s.heap.get? b=some o')∨H' b≠none)->b∉frs X.stack->B.get? b=some o)
  (hf':Heap.FlyingW B X.outer ea cls a0 h') (up:s'.heap.UpToSlots h'):Fly X.prog X.w X.outer X.H₀ H' X.s₀ ea cls { s' with heap:=h' }:=by
 have fst:frs X.stack=X.env.locals::X.fs:=zFN O;have nin:∀ {b:Jc},b≠X.env.locals->b∉X.fs->b∉frs X.stack:=fun h1 h2=>by rw[fst];simp[h1,h2]
 have trk:∀ {b:Jc},H' b≠none->b∉frs X.stack:=fun {b} hb hm=>by
  have h1:=I.stkFree b hm;obtain⟨_,o,ho,_⟩:=I.stack.mem hm;exact hb (F.un.free b o ho h1 (by simp))
 have keepB:∀ {b:Jc} {o:Obj},s'.heap.get? b=some o->((∃ o',s.heap.get? b=some o')∨H' b≠none)->b∉frs X.stack->h'.get? b=some o:=fun e1 e2 e3=>hf'.1 _ _ (cov _ _ e1 e2 e3)
 have slotOf:∀ {b:Jc} {o:Obj},b∈frs X.stack->s'.heap.get? b=some o->∃ sl,h'.get? b=some { o with slots:=sl }:=fun {b o} hm e=>by
  obtain⟨_,o',ho',hn⟩:=hf.2.2.1.mem hm;rw[e] at ho';cases ho'
  exact up b o e hn
 refine⟨F.os.trans I.os,F.bare,⟨?_,?_,?_,?_,?_,?_,?_⟩,?_,F.ne,?_,⟨B,a0,hf',?_⟩⟩
 ·intro b o e n hb hx
  have e1:=I.base.keep b o e n hb (by rw[O.ex];simp)
  have n1:=I.base.free b o e n (by rw[O.ex];simp)
  have hs:b∉frs X.stack:=nin (I.ne0 e) hb;exact keepB (F.un.keep b o e1 n1 hs (by simp)) (.inl ⟨o,e1⟩) hs
 ·intro b o e n hb hx
  obtain⟨sl,e1⟩:=I.base.slot b o e n hb (by rw[O.ex];simp)
  have n1:=I.base.free b o e n (by rw[O.ex];simp)
  have hs:b∈frs X.stack:=by rw[fst];exact Qd _ hb
  obtain⟨sl2,e2⟩:=F.un.slot b _ e1 n1 hs (by simp)
  obtain⟨sl3,e3⟩:=slotOf hs e2;exact⟨sl3,e3⟩
 ·intro b o e n hx
  obtain⟨o1,e1⟩:=I.there0 O e;exact F.un.free b o1 e1 (I.base.free b o e n (by rw[O.ex];simp)) (by simp)
 ·intro b o e hx
  obtain⟨o1,e1⟩:=I.there0 O e;obtain⟨o2,e2⟩:=F.un.there b o1 e1 (by simp)
  by_cases hs:b∈frs X.stack
  ·obtain⟨sl,e3⟩:=slotOf hs e2
   exact⟨_,e3⟩
  ·exact⟨o2,keepB e2 (.inl ⟨o1,e1⟩) hs⟩
 ·exact fun b xs e=>F.un.tups b xs (I.base.tups b xs e)
 ·exact fun b o u e=>F.un.frzs b o u (I.base.frzs b o u e)
 ·intro b ps e
  obtain⟨m1,e1⟩:=I.base.tbls b ps e;obtain⟨m2,e2⟩:=F.un.tbls b _ e1;exact⟨m1++m2,by rw[e2,Array.append_assoc]⟩
 ·intro a o e
  refine(F.hok a o e).stay (fun b u hb z=>?_) (fun b z=>z) (fun b xs z=>z)
  have hb':H' b≠none:=by
   rcases hb with rfl | hb
   ·rw[e];simp
   ·rw[hb];simp
  exact keepB z (.inr hb') (trk hb')
 ·show X.s₀.heap.get? ea=none
  cases q:X.s₀.heap.get? ea with
  | none=>rfl
  | some o=>
   obtain⟨o1,e1⟩:=I.there0 O q;rw[F.new] at e1;cases e1
 ·intro b o e c hb
  have c':(∃ o',s.heap.get? b=some o')∨H' b≠none:=by
   rcases c with⟨o',c⟩ | c
   ·exact .inl (I.there0 O c)
   ·exact .inr c
  have hs:b∉frs X.stack:=by
   rcases c with⟨o',c⟩ | c
   ·exact nin (I.ne0 c) hb
   ·exact trk c
  have ex:∃ o2,s'.heap.get? b=some o2:=by
   rcases c' with⟨o',c1⟩ | c1
   ·exact F.un.there b o' c1 (by simp)
   ·cases q:H' b with
    | none=>exact absurd q c1
    | some u=>exact(F.hok b u q).here
  obtain⟨o2,e2⟩:=ex;have z:=keepB e2 c' hs;have z':h'.get? b=some o:=e;rw[z] at z';cases z'
  exact cov b o e2 c' hs
end
section
variable{X:Cx}{Md:List (Jc×Obj)}{r:St}{H H':Hp}{s s':Jb}{ea:Jc}{cls:Ja}
def zQt(l:List Env):∀ env∈l,∀ b,env.frame=some b->b∈frs l:=fun env he b hb=>Uo.mpr ⟨env,he,hb⟩
def Fly.made(I:Inv X Md r H s)(O:Own X){vs:List Ja}(hx:Heap.MadeExcOf s.heap s'.heap ea cls vs)(hos:s'.os=s.os)(hg:AllBare s'.gens){h':Jd}{t:Jc}
  (hf':Heap.FlyingW (PySem.W.hideAll s.heap (frs X.stack)) X.outer ea cls (.ref t) h') (up:s'.heap.UpToSlots h'):Fly X.prog X.w X.outer X.H₀ H X.s₀ ea cls { s' with heap:=h' }:=by
 have fst:frs X.stack=X.env.locals::X.fs:=zFN O;have nin:∀ {b:Jc},b≠X.env.locals->b∉X.fs->b∉frs X.stack:=fun h1 h2=>by rw[fst];simp[h1,h2]
 have trk:∀ {b:Jc},H b≠none->b∉frs X.stack:=fun {b} hb hm=>hb (I.stkFree b hm)
 have keepB:∀ {b:Jc} {o:Obj},s.heap.get? b=some o->b∉frs X.stack->h'.get? b=some o:=fun e1 e3=>hf'.1 _ _ (Um _ e1 e3)
 have slotOf:∀ {b:Jc} {o:Obj},b∈frs X.stack->s.heap.get? b=some o->∃ sl,h'.get? b=some { o with slots:=sl }:=fun {b o} hm e=>by
  obtain⟨_,o',ho',hn⟩:=I.stack.mem hm;rw[e] at ho';cases ho'
  exact up b o (hx.keeps b o e) hn
 refine⟨hos.trans I.os,hg,⟨?_,?_,?_,?_,?_,?_,?_⟩,?_,?_,?_,⟨_,_,hf',?_⟩⟩
 ·intro b o e n hb hx'
  exact keepB (I.base.keep b o e n hb (by rw[O.ex];simp)) (nin (I.ne0 e) hb)
 ·intro b o e n hb hx'
  obtain⟨sl,e1⟩:=I.base.slot b o e n hb (by rw[O.ex];simp)
  have hs:b∈frs X.stack:=by rw[fst];exact Qd _ hb
  obtain⟨sl3,e3⟩:=slotOf hs e1;exact⟨sl3,e3⟩
 ·exact fun b o e n hx'=>I.base.free b o e n (by rw[O.ex];simp)
 ·intro b o e hx'
  obtain⟨o1,e1⟩:=I.there0 O e;by_cases hs:b∈frs X.stack
  ·obtain⟨sl,e3⟩:=slotOf hs e1
   exact⟨_,e3⟩
  ·exact⟨o1,keepB e1 hs⟩
 ·exact fun b xs e=>I.base.tups b xs e
 ·exact fun b o u e=>I.base.frzs b o u e
 ·exact fun b ps e=>I.base.tbls b ps e
 ·intro a o e
  refine(I.hok a o e).stay (fun b u hb z=>?_) (fun b z=>z) (fun b xs z=>z)
  have hb':H b≠none:=by
   rcases hb with rfl | hb
   ·rw[e];simp
   ·rw[hb];simp
  exact keepB z (trk hb')
 ·exact I.hok.none_of hx.new
 ·show X.s₀.heap.get? ea=none
  cases q:X.s₀.heap.get? ea with
  | none=>rfl
  | some o=>
   obtain⟨o1,e1⟩:=I.there0 O q;rw[hx.new] at e1;cases e1
 ·intro b o e c hb
  have hs:b∉frs X.stack:=by
   rcases c with⟨o',c⟩ | c
   ·exact nin (I.ne0 c) hb
   ·exact trk c
  have ex:∃ o2,s.heap.get? b=some o2:=by
   rcases c with⟨o',c1⟩ | c1
   ·exact I.there0 O c1
   ·cases q:H b with
    | none=>exact absurd q c1
    | some u=>exact(I.hok b u q).here
  obtain⟨o2,e2⟩:=ex;have z:=keepB e2 hs;have z':h'.get? b=some o:=e;rw[z] at z';cases z'
  exact Um _ e2 hs
end
section
variable{CX:CXT}{P:Je}{w:Jf}{K:Fg_}{mg:Str->Option Ja}{base:Jd}{N:List Str}{qual:Str}{scope:Scope}{f:Jc}{cd:Ja}{A:Jg}{outer:List Env}{s₀:Jb}{H₀:Hp}{E:XK}
def zGh:Own (zGO CX P w K mg base N qual scope f cd A outer s₀ H₀ E):=⟨rfl,rfl,rfl⟩
def zSl{E':XK}(h:∀ c H',E' c none H'->E c none H'):zGj (CX1 P w) (zGO (CX1 P w) P w K mg base N qual scope f cd A outer s₀ H₀ E) E':=by
 intro Md r H s e s' I hc;obtain⟨ea,cls,H',rfl,F,q⟩:=hc;obtain⟨B,a0,hf,cov⟩:=F.fly;have O:Own (zGO (CX1 P w) P w K mg base N qual scope f cd A outer s₀ H₀ E):=zGh;exact wpAny_leaves_onW (I.ok.frames.trans (congrArg some O.stk)) O.fr hf fun h' hf' up=>⟨ea,cls,H',rfl,F.leave I O hf cov hf' up,h _ _ q⟩
def zFk{Md:List (Jc×Obj)}{r:St}{H:Hp}{s s':Jb}{ea:Jc}{cls:Ja}{vs:List Ja}(I:Inv (zGO (CX1 P w) P w K mg base N qual scope f cd A outer s₀ H₀ E) Md r H s)
  (hx:Heap.MadeExcOf s.heap s'.heap ea cls vs) (hos:s'.os=s.os) (hg:AllBare s'.gens) (q:E cls none H):(zGO (CX1 P w) P w K mg base N qual scope f cd A outer s₀ H₀ E).xe (.ref ea) s':=by
 have O:Own (zGO (CX1 P w) P w K mg base N qual scope f cd A outer s₀ H₀ E):=zGh;have hst:=O.stk
 exact wpAny_leaves_madeW (base:=PySem.W.hideAll s.heap (frs (zGO (CX1 P w) P w K mg base N qual scope f cd A outer s₀ H₀ E).stack)) (h:=s.heap) (I.ok.frames.trans (congrArg some O.stk)) O.fr (fun b o z=>PySem.W.of_hideAll _ z)
  (PySem.W.funFrames_hide (I.stack) (zQt _)) hx fun h' t hf' _ _ up=>⟨ea,cls,H,rfl,Fly.made I O hx hos hg hf' up,q⟩
end
structure Err (K:PySem.W.Frag) (mg:Str->Option Ja) (x:Str) (C:Jc):Prop where
 own:∀ h:Jd,K.In h->∃ bm newId B initId,OwnCls x C bm newId mg h/\ExcBaseFacts B newId initId bm
end L2
namespace L3
open PySem
inductive D where
 | non | bl (b:Bool) | int (i:Int) | str (x:Str) | tup (ds:List D) | lst (ds:List D)
inductive Res (α:Type) where
 | ok (a:α) | err (c:Str) | no
def Res.bind{r s:Type}(x:Res r)(f:r->Res s):Res s:=match x with
 | .ok a=>f a
 | .err c=>.err c
 | .no=>.no
inductive Sl where
 | un | val (d:D) | own (ds:List D) | exc (c:Str) | tab (T:List (Str×Str))
abbrev Rho:=List Sl
inductive Rt where
 | v (d:D) | f (ds:List D)
def Rt.d:Rt->D
 | .v d=>d
 | .f ds=>.lst ds
inductive Fl where
 | nx (ρ:Rho) | ret (r:Rt) | brk (ρ:Rho) | ctn (ρ:Rho)
abbrev Ev:=Rho->Res D
abbrev Fv:=Rho->Res (List D)
abbrev Tv:=Rho->Res Bool
abbrev Sv:=Rho->Res Fl
abbrev Mir:=List D->Res Rt
mutual
def eqD:D->D->Bool
 | .non,.non=>true
 | .bl a,.bl b=>a==b
 | .bl a,.int b=>(if a then 1 else 0)==b
 | .int a,.bl b=>a==(if b then 1 else 0)
 | .int a,.int b=>a==b
 | .str a,.str b=>a==b
 | .tup ds,.tup es=>uZ ds es
 | .lst ds,.lst es=>uZ ds es
 | _,_=>false
def uZ:List D->List D->Bool
 | [],[]=>true
 | d::ds,e::es=>eqD d e && uZ ds es
 | _,_=>false
end
mutual
def dep:D->Nat
 | .tup ds=>depS ds+1
 | .lst ds=>depS ds+1
 | _=>0
def depS:List D->Nat
 | []=>0
 | d::ds=>max (dep d) (depS ds)
end
mutual
def noL:D->Bool
 | .tup ds=>noLs ds
 | .lst _=>false
 | _=>true
def noLs:List D->Bool
 | []=>true
 | d::ds=>noL d && noLs ds
end
def yM:∀ {ds:List D} {d:D},d∈ds->dep d<=depS ds
 | e::ds,d,h=>by
  rw[depS];rcases Qc.mp h with rfl | h
  ·exact Nat.le_max_left ..
  ·exact Qp (yM h) (Nat.le_max_right ..)
def zLH:∀ {ds:List D},noLs ds=true ↔ ∀ d∈ds,noL d=true
 | []=>by simp[noLs]
 | d::ds=>by rw[noLs,Vg,zLH];simp
def pJ:∀(ds es:List D),uZ ds es=((List.range (min ds.length es.length)).all (fun j=>eqD (ds.getD j .non) (es.getD j .non)) && ds.length==es.length)
 | [],[]=>rfl
 | [],e::es=>by simp[uZ]
 | d::ds,[]=>by simp[uZ]
 | d::ds,e::es=>by
  rw[uZ,pJ ds es];have h:min (d::ds).length (e::es).length=min ds.length es.length+1:=by simp only[Qk];omega
  rw[h,List.range_succ_eq_map];simp[List.all_map,Function.comp_def,Bool.and_assoc]
mutual
def wF:∀ d:D,eqD d d=true
 | .non=>rfl
 | .bl b=>by simp[eqD]
 | .int i=>by simp[eqD]
 | .str x=>by simp[eqD]
 | .tup ds=>by rw[eqD];exact wX ds
 | .lst ds=>by rw[eqD];exact wX ds
def wX:∀ ds:List D,uZ ds ds=true
 | []=>rfl
 | d::ds=>by rw[uZ,wF d,wX ds];rfl
end
def nb(i:Int):Nat:=i.natAbs.log2+1
def zOl(i:Int):i.natAbs<2^nb i:=Nat.lt_log2_self
def zSp{i:Int}{m:Nat}(h:i.natAbs<2^m)(hm:0<m):nb i<=m:=by
 unfold nb;by_cases h0:i.natAbs=0
 ·rw[h0];exact hm
 ·exact(Nat.log2_lt h0).mpr h
def iP(i j:Int):Bool:=(decide (-(2^64)<i) && decide (i<2^64)) || (decide (-(2^64)<j) && decide (j<2^64)) || decide (nb i+nb j<=134217728)
def nN(j:Int):Bool:=decide (j≠0) && decide (nb j<=9000)
def rA(i j:Int):Bool:=decide (0<=j) && decide ((nb i:Int)*j<=2^27)
abbrev Op2:=D->D->Res D
def pG:Op2
 | .int i,.int j=>.ok (.int (i+j))
 | .tup a,.tup b=>if a.length+b.length<=16777216 then .ok (.tup (a++b)) else .no
 | _,_=>.no
def zTJ:Op2
 | .int i,.int j=>.ok (.int (i+j))
 | _,_=>.no
def vU:Op2
 | .int i,.int j=>.ok (.int (i-j))
 | _,_=>.no
def mG:Op2
 | .int i,.int j=>if iP i j=true then .ok (.int (i*j)) else .no
 | _,_=>.no
def kT:Op2
 | .int i,.int j=>if nN j=true then .ok (.int (i.fdiv j)) else .no
 | _,_=>.no
def iY:Op2
 | .int i,.int j=>if j≠0 then .ok (.int (i.fmod j)) else .no
 | _,_=>.no
def zDV:Op2
 | .int i,.int j=>if rA i j=true then .ok (.int (i^j.toNat)) else .no
 | _,_=>.no
def oEq(x y:D):Res D:=if dep x<=50 then .ok (.bl (eqD x y)) else .no
def oNe(x y:D):Res D:=if dep x<=50 then .ok (.bl (!eqD x y)) else .no
def oLt:Op2
 | .int i,.int j=>.ok (.bl (decide (i<j)))
 | _,_=>.no
def oLe:Op2
 | .int i,.int j=>.ok (.bl (decide (i<=j)))
 | _,_=>.no
def oGt:Op2
 | .int i,.int j=>.ok (.bl (decide (j<i)))
 | _,_=>.no
def oGe:Op2
 | .int i,.int j=>.ok (.bl (decide (j<=i)))
 | _,_=>.no
def atD(ds:List D)(i:Int):Option D:=if 0<=i then ds[i.toNat]? else if 0<=(ds.length:Int)+i then ds[((ds.length:Int)+i).toNat]? else none
def ofO{r:Type}:Option r->Res r
 | some a=>.ok a
 | none=>.no
def oIx:Op2
 | .tup ds,.int i=>ofO (atD ds i)
 | .lst ds,.int i=>ofO (atD ds i)
 | _,_=>.no
def oIn:Op2
 | d,.lst ds=>if depS ds<=50 then .ok (.bl (ds.any fun e=>eqD e d)) else .no
 | d,.tup ds=>if depS ds<=50 then .ok (.bl (ds.any fun e=>eqD e d)) else .no
 | _,_=>.no
def zRp:D->Res D
 | .int i=>.ok (.int (-i))
 | _=>.no
def zLn:D->Res D
 | .bl b=>.ok (.bl (!b))
 | _=>.no
def aE(i:Nat)(ρ:Rho):Res D:=match ρ[i]? with
 | some (.val d)=>.ok d
 | _=>.no
def eC(d:D)(_ρ:Rho):Res D:=.ok d
def eOp(o:Op2)(a b:Ev)(ρ:Rho):Res D:=(a ρ).bind fun x=>(b ρ).bind fun y=>o x y
def eUn(o:D->Res D)(a:Ev)(ρ:Rho):Res D:=(a ρ).bind o
def zRO(a b:Ev)(ρ:Rho):Res D:=(a ρ).bind fun x=>match x with
 | .bl c=>if c=true then b ρ else .ok (.bl false)
 | _=>.no
def eOr(a b:Ev)(ρ:Rho):Res D:=(a ρ).bind fun x=>match x with
 | .bl c=>if c=true then .ok (.bl true) else b ρ
 | _=>.no
def eIf(t:Tv)(a b:Ev)(ρ:Rho):Res D:=(t ρ).bind fun c=>if c=true then a ρ else b ρ
def aNil(_ρ:Rho):Res (List D):=.ok []
def aB(e:Ev)(r:Fv)(ρ:Rho):Res (List D):=(e ρ).bind fun d=>(r ρ).bind fun ds=>.ok (d::ds)
def jU(a:Fv)(ρ:Rho):Res D:=(a ρ).bind fun ds=>if ds.length<=16777216 then .ok (.tup ds) else .no
def aN(m:Mir)(a:Fv)(ρ:Rho):Res D:=(a ρ).bind fun ds=>(m ds).bind fun r=>.ok r.d
def kU:List D->Res D
 | [.lst ds]=>.ok (.int ds.length)
 | [.tup ds]=>.ok (.int ds.length)
 | _=>.no
def zNJ:List D->Res D
 | [.int i]=>.ok (.int (if i<0 then -i else i))
 | _=>.no
def zTW:List D->Res D
 | [.int i,.int j]=>.ok (.int (if j > i then j else i))
 | _=>.no
def zRd:List D->Res D
 | [.int i,.int j]=>.ok (.int (if j<i then j else i))
 | _=>.no
def zKr:List D->Res D
 | [.lst ds]=>.ok (.tup ds)
 | [.tup ds]=>.ok (.tup ds)
 | _=>.no
def eB(b:List D->Res D)(a:Fv)(ρ:Rho):Res D:=(a ρ).bind b
def tyN:D->String
 | .non => "NoneType" | .bl _ => "bool" | .int _ => "int" | .str _ => "str" | .tup _ => "tuple" | .lst _ => "list"
def isT(T:String)(d:D):Bool:=tyN d==T || (T == "int" && tyN d == "bool")
def zSH(T:String)(a:Ev)(ρ:Rho):Res D:=(a ρ).bind fun d=>.ok (.bl (isT T d))
def isNon:D->Bool
 | .non=>true
 | _=>false
def zPl(a:Ev)(ρ:Rho):Res D:=(a ρ).bind fun d=>.ok (.bl (isNon d))
def zHi(a:Ev)(ρ:Rho):Res D:=(a ρ).bind fun d=>.ok (.bl (!isNon d))
def Sl.frz:Sl->Sl
 | .own ds=>.val (.lst ds)
 | s=>s
def zGs(e:Ev)(ρ:Rho):Res D:=(e (ρ.map Sl.frz)).bind fun d=>if noL d=true then .ok d else .no
def mH(a:Fv)(ρ:Rho):Res (List D):=(a ρ).bind fun ds=>if ds.length<=16777216 then .ok ds else .no
def fE(m:Mir)(a:Fv)(ρ:Rho):Res (List D):=(a ρ).bind fun ds=>(m ds).bind fun r=>match r with
 | .f ds=>.ok ds
 | .v _=>.no
def zBI(a:Fv)(ρ:Rho):Res (List D):=(a ρ).bind fun ds=>match ds with
 | [.lst ds]=>.ok ds
 | [.tup ds]=>.ok ds
 | _=>.no
def zOU(a b:Ev)(ρ:Rho):Res (List D):=(a ρ).bind fun x=>(b ρ).bind fun y=>match x,y with
 | .lst ds,.lst es=>if ds.length+es.length<=16777216 then .ok (ds++es) else .no
 | _,_=>.no
def eF(f:Fv)(ρ:Rho):Res D:=(f ρ).bind fun ds=>.ok (.lst ds)
def zRF(f:Fv)(ρ:Rho):Res (List D):=(f (ρ.map Sl.frz)).bind fun ds=>if noLs ds=true then .ok ds else .no
def cut(n:Nat)(i:Option Int)(d:Nat):Nat:=match i with
 | none=>d
 | some i=>if 0<=i then min i.toNat n else ((n:Int)+i).toNat
def gD(ds:List D)(lo hi:Option Int):List D:=(ds.drop (cut ds.length lo 0)).take (cut ds.length hi ds.length-cut ds.length lo 0)
abbrev Ov:=Rho->Res (Option Int)
def oN(_ρ:Rho):Res (Option Int):=.ok none
def oS(e:Ev)(ρ:Rho):Res (Option Int):=(e ρ).bind fun d=>match d with
 | .int i=>.ok (some i)
 | _=>.no
def fSl(a:Ev)(lo hi:Ov)(ρ:Rho):Res (List D):=(a ρ).bind fun x=>(lo ρ).bind fun l=>(hi ρ).bind fun h=>match x with
 | .lst ds=>.ok (gD ds l h)
 | _=>.no
def zTV(a:Ev)(lo hi:Ov)(ρ:Rho):Res D:=(a ρ).bind fun x=>(lo ρ).bind fun l=>(hi ρ).bind fun h=>match x with
 | .tup ds=>if (gD ds l h).length<ds.length then .ok (.tup (gD ds l h)) else .no
 | _=>.no
def cX(e:Ev)(ρ:Rho):Res Bool:=(e ρ).bind fun d=>match d with
 | .bl b=>.ok b
 | _=>.no
def zDM(t:Tv)(ρ:Rho):Res Bool:=(t ρ).bind fun b=>.ok (!b)
def zJr(t u:Tv)(ρ:Rho):Res Bool:=(t ρ).bind fun b=>if b=true then u ρ else .ok false
def zAz(t u:Tv)(ρ:Rho):Res Bool:=(t ρ).bind fun b=>if b=true then .ok true else u ρ
def sNext(ρ:Rho):Res Fl:=.ok (.nx ρ)
def aW(a b:Sv)(ρ:Rho):Res Fl:=(a ρ).bind fun f=>match f with
 | .nx ρ'=>b ρ'
 | f=>.ok f
def sIf(t:Tv)(a b:Sv)(ρ:Rho):Res Fl:=(t ρ).bind fun c=>if c=true then a ρ else b ρ
def cQ(i:Nat)(e:Ev)(ρ:Rho):Res Fl:=(e ρ).bind fun d=>.ok (.nx (ρ.set i (.val d)))
def zFY(i:Nat)(f:Fv)(ρ:Rho):Res Fl:=(f ρ).bind fun ds=>.ok (.nx (ρ.set i (.own ds)))
def vI(e:Ev)(ρ:Rho):Res Fl:=(e ρ).bind fun _=>.ok (.nx ρ)
def dM(e:Ev)(ρ:Rho):Res Fl:=(e (ρ.map Sl.frz)).bind fun d=>.ok (.ret (.v d))
def pO(f:Fv)(ρ:Rho):Res Fl:=(f (ρ.map Sl.frz)).bind fun ds=>.ok (.ret (.f ds))
def jG(i:Nat)(ρ:Rho):Res Fl:=match ρ[i]? with
 | some (.own ds)=>.ok (.ret (.f ds))
 | _=>.no
def sRetN(_ρ:Rho):Res Fl:=.ok (.ret (.v .non))
def mF(c:Str)(a:Fv)(ρ:Rho):Res Fl:=(a ρ).bind fun ds=>if ds.length<=16777216 then .err c else .no
def sNo(_ρ:Rho):Res Fl:=.no
def zCo(i:Nat)(e:Ev)(ρ:Rho):Res Fl:=match ρ[i]? with
 | some (.own ds)=>(e ρ).bind fun d=>if ds.length<16777216 then .ok (.nx (ρ.set i (.own (ds++[d])))) else .no
 | _=>.no
def zOT(i:Nat)(e:Fv)(ρ:Rho):Res Fl:=match ρ[i]? with
 | some (.own ds)=>(e ρ).bind fun es=>if ds.length+es.length<=16777216 then .ok (.nx (ρ.set i (.own (ds++es)))) else .no
 | _=>.no
def zGE(i:Nat)(k e:Ev)(ρ:Rho):Res Fl:=(e ρ).bind fun d=>match ρ[i]? with
 | some (.own ds)=>(k ρ).bind fun j=>match j with
  | .int j=>if 0<=j/\j<ds.length then .ok (.nx (ρ.set i (.own (ds.set j.toNat d)))) else if -(ds.length:Int)<=j/\j<0 then .ok (.nx (ρ.set i (.own (ds.set (j+ds.length).toNat d)))) else .no
  | _=>.no
 | _=>.no
def zPk(i:Nat)(o:Op2)(e:Ev)(ρ:Rho):Res Fl:=match ρ[i]? with
 | some (.val x)=>(e ρ).bind fun y=>(o x y).bind fun d=>.ok (.nx (ρ.set i (.val d)))
 | _=>.no
def sFrz(s:Sv)(ρ:Rho):Res Fl:=s (ρ.map Sl.frz)
def frzAt(i:Nat)(ρ:Rho):Rho:=match ρ[i]? with
 | some (.own ds)=>ρ.set i (.val (.lst ds))
 | _=>ρ
def sFrzAt(i:Nat)(s:Sv)(ρ:Rho):Res Fl:=s (frzAt i ρ)
def noErr{s:Type}:Res s->Res s
 | .err _=>.no
 | r=>r
def zPf(i:Nat)(m:Mir)(a:Fv)(ρ:Rho):Res Fl:=(noErr (a ρ)).bind fun ds=>(m ds).bind fun r=>.ok (.nx (ρ.set i (.val r.d)))
abbrev Gv:=D->Rho->Res Rho
def gName(i:Nat)(d:D)(ρ:Rho):Res Rho:=.ok (ρ.set i (.val d))
def zCc(gs:List D->Rho->Res Rho)(d:D)(ρ:Rho):Res Rho:=match d with
 | .tup ds=>gs ds ρ
 | _=>.no
def zCd(ds:List D)(ρ:Rho):Res Rho:=match ds with
 | []=>.ok ρ
 | _=>.no
def fT(g:Gv)(r:List D->Rho->Res Rho)(ds:List D)(ρ:Rho):Res Rho:=match ds with
 | d::ds=>(g d ρ).bind fun ρ'=>r ds ρ'
 | []=>.no
def zSK(g:Gv)(f:Ev)(ρ:Rho):Res Fl:=(f ρ).bind fun d=>(g d ρ).bind fun ρ'=>.ok (.nx ρ')
def loop(g:Gv)(b:Sv):List D->Rho->Res Fl
 | [],ρ=>.ok (.nx ρ)
 | d::ds,ρ=>(g d ρ).bind fun ρ1=>(b ρ1).bind fun f=>match f with
  | .nx ρ2=>loop g b ds ρ2
  | .ctn ρ2=>loop g b ds ρ2
  | .brk ρ2=>.ok (.nx ρ2)
  | .ret r=>.ok (.ret r)
def tV(it:Fv)(g:Gv)(b:Sv)(ρ:Rho):Res Fl:=(it ρ).bind fun ds=>loop g b ds ρ
def vC(e:Ev)(ρ:Rho):Res (List D):=(e ρ).bind fun d=>match d with
 | .lst ds=>.ok ds
 | .tup ds=>.ok ds
 | _=>.no
def rng(lo:Int)(n:Nat)(c:Int):List D:=(List.range n).map fun(i:Nat)=>D.int (lo+(i:Int)*c)
def zDu(a:Fv)(ρ:Rho):Res (List D):=(a ρ).bind fun ds=>match ds with
 | [.int j]=>if -(2^62)<=j/\j<2^62 then .ok (rng 0 j.toNat 1) else .no
 | _=>.no
def zJb(a:Fv)(ρ:Rho):Res (List D):=(a ρ).bind fun ds=>match ds with
 | [.int i,.int j]=>if -(2^62)<=i/\i<2^62/\-(2^62)<=j/\j<2^62 then .ok (rng i (j-i).toNat 1) else .no
 | _=>.no
def wh(t:Tv)(b:Sv):Nat->Rho->Res Fl
 | 0,_=>.no
 | n+1,ρ=>(t ρ).bind fun c=>if c=true then (b ρ).bind fun f=>match f with
   | .nx ρ2=>wh t b n ρ2
   | .ctn ρ2=>wh t b n ρ2
   | .brk ρ2=>.ok (.nx ρ2)
   | .ret r=>.ok (.ret r)
  else .ok (.nx ρ)
open Classical in
def gW(t:Tv)(b:Sv)(ρ:Rho):Res Fl:=if h:∃ n,wh t b n ρ≠.no then wh t b h.choose ρ else .no
def zBg{t:Tv}{b:Sv}:∀ {n:Nat} {ρ:Rho} {k:Nat},wh t b n ρ≠.no->n<=k->wh t b k ρ=wh t b n ρ
 | 0,ρ,k,h,_=>absurd rfl h
 | n+1,ρ,0,h,l=>absurd l (by omega)
 | n+1,ρ,k+1,h,l=>by
  rw[wh,wh];rw[wh] at h
  cases ht:t ρ with
  | no=>rfl
  | err c=>rfl
  | ok c=>
   rw[ht] at h;simp only[Res.bind] at h ⊢
   cases c with
   | false=>rfl
   | true=>
    simp only[if_true] at h ⊢
    cases hb:b ρ with
    | no=>rfl
    | err c=>rfl
    | ok f=>
     rw[hb] at h
     cases f with
     | nx ρ2=>exact zBg h (by omega)
     | ctn ρ2=>exact zBg h (by omega)
     | brk ρ2=>rfl
     | ret r=>rfl
def iR{t:Tv}{b:Sv}{n:Nat}{ρ:Rho}(h:wh t b n ρ≠.no):gW t b ρ=wh t b n ρ:=by
 have hx:∃ n,wh t b n ρ≠.no:=⟨n,h⟩;unfold gW;rw[dif_pos hx];rcases Y5 n hx.choose with l | l
 ·exact zBg h l
 ·exact(zBg hx.choose_spec l).symm
def qL{t:Tv}{b:Sv}{ρ:Rho}(h:gW t b ρ≠.no):∃ n,gW t b ρ=wh t b n ρ:=by
 unfold gW at h ⊢
 split
 ·exact⟨_,rfl⟩
 ·rename_i hx;rw[dif_neg hx] at h;exact absurd rfl h
def zCG{t:Tv}{b:Sv}{ρ:Rho}:gW t b ρ=((t ρ).bind fun c=>if c=true then (b ρ).bind fun f=>match f with
   | .nx ρ2=>gW t b ρ2
   | .ctn ρ2=>gW t b ρ2
   | .brk ρ2=>.ok (.nx ρ2)
   | .ret r=>.ok (.ret r)
  else .ok (.nx ρ)):=by
 have key:∀ n,wh t b (n+1) ρ≠.no->wh t b (n+1) ρ=((t ρ).bind fun c=>if c=true then (b ρ).bind fun f=>match f with
   | .nx ρ2=>gW t b ρ2
   | .ctn ρ2=>gW t b ρ2
   | .brk ρ2=>.ok (.nx ρ2)
   | .ret r=>.ok (.ret r)
  else .ok (.nx ρ)):=by
  intro n h;rw[wh] at h ⊢
  cases ht:t ρ with
  | no=>rfl
  | err c=>rfl
  | ok c=>
   rw[ht] at h;simp only[Res.bind] at h ⊢
   cases c with
   | false=>rfl
   | true=>
    simp only[if_true] at h ⊢
    cases hb:b ρ with
    | no=>rfl
    | err c=>rfl
    | ok f=>
     rw[hb] at h
     cases f with
     | nx ρ2=>exact(iR h).symm
     | ctn ρ2=>exact(iR h).symm
     | brk ρ2=>rfl
     | ret r=>rfl
 by_cases h:gW t b ρ=.no
 ·rw[h]
  cases ht:t ρ with
  | no=>rfl
  | err c=>
   exfalso
   have q:wh t b 1 ρ=.err c:=by rw[wh,ht];rfl
   have:=iR (t:=t) (b:=b) (ρ:=ρ) (n:=1) (by rw[q];exact fun z=>by cases z)
   rw[h,q] at this;cases this
  | ok c=>
   simp only[Res.bind]
   cases c with
   | false=>
    exfalso
    have q:wh t b 1 ρ=.ok (.nx ρ):=by rw[wh,ht];rfl
    have:=iR (t:=t) (b:=b) (ρ:=ρ) (n:=1) (by rw[q];exact fun z=>by cases z)
    rw[h,q] at this;cases this
   | true=>
    simp only[if_true]
    cases hb:b ρ with
    | no=>rfl
    | err c=>
     exfalso
     have q:wh t b 1 ρ=.err c:=by rw[wh,ht];simp[Res.bind,hb]
     have:=iR (t:=t) (b:=b) (ρ:=ρ) (n:=1) (by rw[q];exact fun z=>by cases z)
     rw[h,q] at this;cases this
    | ok f=>
     have again:∀ ρ2,(f=.nx ρ2∨f=.ctn ρ2)->gW t b ρ2=.no:=by
      intro ρ2 hf;by_cases h2:gW t b ρ2=.no
      ·exact h2
      ·exfalso
       obtain⟨n,e⟩:=qL h2
       have q:wh t b (n+1) ρ=wh t b n ρ2:=by
        rw[wh,ht];simp only[Res.bind,if_true,hb];rcases hf with rfl | rfl<;>rfl
       have h3:wh t b (n+1) ρ≠.no:=by rw[q,<-e];exact h2
       have:=iR h3
       rw[h] at this;exact h3 this.symm
     cases f with
     | nx ρ2=>exact(again ρ2 (.inl rfl)).symm
     | ctn ρ2=>exact(again ρ2 (.inr rfl)).symm
     | brk ρ2=>
      exfalso
      have q:wh t b 1 ρ=.ok (.nx ρ2):=by rw[wh,ht];simp[Res.bind,hb]
      have:=iR (t:=t) (b:=b) (ρ:=ρ) (n:=1) (by rw[q];exact fun z=>by cases z)
      rw[h,q] at this;cases this
     | ret r=>
      exfalso
      have q:wh t b 1 ρ=.ok (.ret r):=by rw[wh,ht];simp[Res.bind,hb]
      have:=iR (t:=t) (b:=b) (ρ:=ρ) (n:=1) (by rw[q];exact fun z=>by cases z)
      rw[h,q] at this;cases this
 ·obtain⟨n,e⟩:=qL h
  cases n with
  | zero=>rw[e] at h;exact absurd rfl h
  | succ n=>rw[e];exact key n (by rw[<-e];exact h)
def zOV(f:Fv)(g:Ev)(ρ:Rho):Res (List D):=(f ρ).bind fun ds=>(g ρ).bind fun d=>match d with
 | .int k=>if 0<=k/\k<2^62/\ds.length*k.toNat<=16777216 then .ok (List.replicate k.toNat ds).flatten else .no
 | _=>.no
def uC(_ρ:Rho):Res Bool:=.ok true
def jC(t:Tv)(f:Ev)(ρ:Rho):List D->Res (List D)
 | []=>.ok []
 | d::ds=>(noErr (t (ρ++[.val d]))).bind fun c=>if c=true then (noErr (f (ρ++[.val d]))).bind fun e=>(jC t f ρ ds).bind fun es=>.ok (e::es) else jC t f ρ ds
def yC(it:Fv)(t:Tv)(f:Ev)(ρ:Rho):Res (List D):=(it ρ).bind fun ds=>if ds.length<=16777215 then jC t f ρ ds else .no
def start(n:Nat)(ds:List D):Rho:=ds.map Sl.val++List.replicate (n-ds.length) .un
def fin:Fl->Res Rt
 | .nx _=>.ok (.v .non)
 | .ret r=>.ok r
 | .brk _=>.no
 | .ctn _=>.no
def fn(p n:Nat)(b:Sv)(ds:List D):Res Rt:=if ds.length=p then (b (start n ds)).bind fin else .no
def zKx:D->Option (List D)
 | .lst ds=>some ds
 | .tup ds=>some ds
 | _=>none
def nO:List D->List D->List D
 | a::r,b::q=>.tup [a,b]::nO r q
 | _,_=>[]
def zOW(a:Fv)(ρ:Rho):Res (List D):=(a ρ).bind fun ds=>match ds with
 | [x,y]=>match zKx x,zKx y with
  | some xs,some ys=>.ok (nO xs ys)
  | _,_=>.no
 | _=>.no
def lZ:Nat->List D->List D
 | _,[]=>[]
 | n,d::r=>.tup [.int n,d]::lZ (n+1) r
def zJt(e:Ev)(ρ:Rho):Res (List D):=(e ρ).bind fun d=>match d with
 | .lst ds=>.ok (lZ 0 ds)
 | .tup ds=>.ok (lZ 0 ds)
 | _=>.no
def hG(f:Ev)(ρ:Rho):List D->Res (List D)
 | []=>.ok []
 | .tup [a,b]::ds=>(noErr (f (ρ++[.val a,.val b]))).bind fun e=>(hG f ρ ds).bind fun es=>.ok (e::es)
 | _::_=>.no
def zAf(it:Fv)(f:Ev)(ρ:Rho):Res (List D):=(it ρ).bind fun ds=>if ds.length<=16777215 then hG f ρ ds else .no
def slQ(l h:Option Int):D->Res D
 | .lst ds=>.ok (.lst (gD ds l h))
 | .tup ds=>.ok (.tup (gD ds l h))
 | _=>.no
def zSN(a:Ev)(lo hi:Ov)(ρ:Rho):Res D:=(a ρ).bind fun x=>(lo ρ).bind fun l=>(hi ρ).bind fun h=>slQ l h x
def zTj:D->Option Str
 | .str x=>some x
 | .int i=>if i.natAbs.log2<1920 then some (toString i) else none
 | _=>none
def zTr:Str->List D->Option Str
 | a,[]=>some a
 | a,d::r=>match zTj d with
  | some x=>if x.length<=sizeLine/\(a++x).length<=sizeLine then zTr (a++x) r else none
  | none=>none
def pP:List D->Option (List Int)
 | []=>some []
 | .int i::ds=>match pP ds with
  | some ns=>some (i::ns)
  | none=>none
 | _::_=>none
def zCe:List D->Res D
 | [.lst ds]=>(match pP ds with
  | some ns=>.ok (.int ns.sum)
  | none=>.no)
 | [.tup ds]=>(match pP ds with
  | some ns=>.ok (.int ns.sum)
  | none=>.no)
 | _=>.no
def chO:Option Nat->Res D
 | some c=>.ok (.str ⟨#[c]⟩)
 | none=>.no
def zMr(o:Op2)(h:Ev)(ρ:Rho)(y:D):D->Res D
 | .bl true=>(h ρ).bind fun w=>o y w
 | .bl false=>.ok (.bl false)
 | _=>.no
def zAn(o o':Op2)(f g h:Ev)(ρ:Rho):Res D:=(f ρ).bind fun x=>(g ρ).bind fun y=>(o x y).bind (zMr o' h ρ y)
def slS(l u:Option Int):D->Res D
 | .str x=>if x.length<=sizeLine then .ok (.str (Txt.slice x l u)) else .no
 | _=>.no
def uA(T:List (Str×Str)):D->Res D
 | .str x=>.ok (.bl (!(T.lookup x).isSome))
 | _=>.no
def zPq:Option Str->Res D
 | some y=>.ok (.str y)
 | none=>.no
def zDD(T:List (Str×Str)):D->Res D
 | .str x=>zPq (T.lookup x)
 | _=>.no
def zBo:Int->List Int->Int
 | a,[]=>a
 | a,b::r=>zBo (if b > a then b else a) r
def zFm:List D->Res D
 | [.lst ds,.int d]=>(match pP ds with | some (a::r)=>.ok (.int (zBo a r)) | some []=>.ok (.int d) | none=>.no)
 | _=>.no
end L3
namespace L3
open PySem
def jZ(kz:List Int)(r:List Nat):Prop:=r.Perm (List.range kz.length)/\r.Pairwise (fun i j=>kz.getD i 0<=kz.getD j 0)/\r.Pairwise (fun i j=>kz.getD i 0=kz.getD j 0->i<j)
def zKq(b:Int):D->Res Int
 | .tup [.int t,.int d]=>if nN d && iP t (b.fdiv d) then .ok (t*b.fdiv d) else .no
 | _=>.no
def qT(b:Int):List D->Res (List Int)
 | []=>.ok []
 | d::r=>(zKq b d).bind fun k=>(qT b r).bind fun ks=>.ok (k::ks)
def oK(r:List Nat):List D:=r.map fun i:Nat=>D.int (i:Int)
def zNf{b k:Int}{d:D}(h:zKq b d=.ok k):∃ t c,d=.tup [.int t,.int c]/\nN c=true/\iP t (b.fdiv c)=true/\k=t*b.fdiv c:=by
 unfold zKq at h;split at h
 ·rename_i t c
  split at h
  ·rename_i hc
   rw[Vg] at hc;cases h;exact⟨t,c,rfl,hc.1,hc.2,rfl⟩
  ·cases h
 ·cases h
def zAC{b:Int}:∀ {rows:List D} {kz:List Int},qT b rows=.ok kz->kz.length=rows.length/\∀(j:Nat)(k:Int),kz[j]?=some k->∃ d,rows[j]?=some d/\zKq b d=.ok k
 | [],kz,h=>by cases h;exact⟨rfl,fun j k z=>by simp at z⟩
 | d::r,kz,h=>by
  unfold qT at h
  cases e:zKq b d with
  | no=>rw[e] at h;cases h
  | err c=>rw[e] at h;cases h
  | ok k0=>
   rw[e] at h;have h':(qT b r).bind (fun ks=>Res.ok (k0::ks))=.ok kz:=h
   cases e2:qT b r with
   | no=>rw[e2] at h';cases h'
   | err c=>rw[e2] at h';cases h'
   | ok ks=>
    rw[e2] at h';cases h'
    obtain⟨h1,h2⟩:=zAC e2;refine⟨by rw[Qk,Qk,h1],fun j k z=>?_⟩
    cases j with
    | zero=>simp at z;subst z;exact⟨d,rfl,e⟩
    | succ j=>exact h2 j k (by simpa using z)
def zFD(ρ:Rho):Res (List Int):=match ρ[0]?,ρ[1]? with
 | some (Sl.val (.lst rows)),some (Sl.val (.int b))=>if rows.length<64 then qT b rows else .no
 | _,_=>.no
def zBe(sa sb:Sv)(ds:List D):Res (List Int):=if ds.length=1 then (match sa (L3.start 3 ds) with
 | .ok (.nx ρ)=>(match sb ρ with
  | .ok (.nx ρ')=>zFD ρ'
  | _=>.no)
 | _=>.no) else .no
def zGi{b:Int}:∀ {rows:List D} {c:Str},qT b rows≠.err c
 | [],c,h=>by cases h
 | d::r,c,h=>by
  unfold qT at h
  have k0:∀ c,zKq b d≠.err c:=fun c z=>by
   unfold zKq at z;split at z
   ·split at z<;>cases z
   ·cases z
  cases e:zKq b d with
  | no=>rw[e] at h;cases h
  | err c'=>exact k0 _ e
  | ok k=>
   rw[e] at h;have h':(qT b r).bind (fun ks=>Res.ok (k::ks))=.err c:=h
   cases e2:qT b r with
   | no=>rw[e2] at h';cases h'
   | err c'=>exact zGi e2
   | ok ks=>rw[e2] at h';cases h'
def zSn{sa sb:Sv}(ds:List D)(c:Str):zBe sa sb ds≠.err c:=fun h=>by
 unfold zBe zFD at h;split at h
 ·split at h
  ·split at h
   ·split at h
    ·split at h
     ·exact zGi h
     ·cases h
    ·cases h
   ·cases h
  ·cases h
 ·cases h
def zQb{sa sb:Sv}(ds:List D)(h:zBe sa sb ds≠.no):ds.length=1:=by
 unfold zBe at h;split at h
 ·assumption
 ·exact absurd rfl h
open Classical in
def qJ(kz:List Int)(F:List Nat->Res Fl):Res Fl:=if h:∃ x,∀ r,jZ kz r->F r=x then h.choose else .no
def zHf{kz:List Int}{F:List Nat->Res Fl}{π:List Nat}(h:qJ kz F≠.no)(hπ:jZ kz π):F π=qJ kz F:=by
 unfold qJ at h ⊢
 split at h
 ·rename_i z;rw[dif_pos z];exact z.choose_spec π hπ
 ·exact absurd rfl h
def zHg{kz:List Int}{F:List Nat->Res Fl}{x:Res Fl}{π:List Nat}(hπ:jZ kz π)(h:∀ π,jZ kz π->F π=x):qJ kz F=x:=by
 have z:∃ x,∀ π,jZ kz π->F π=x:=⟨x,h⟩;unfold qJ;rw[dif_pos z,<-z.choose_spec π hπ];exact h π hπ
def zKV(fs:Fv)(kf:List D->Res (List Int))(g:Gv)(b r:Sv):Sv:=fun ρ=>((fs ρ).bind kf).bind fun kz=>qJ kz fun s=>aW (fun ρ=>loop g b (oK s) ρ) r ρ
abbrev Tri:=D×List D×List D
def zRm(kz:List Int)(i j:Nat):Bool:=decide (kz.getD i 0<kz.getD j 0) || decide (kz.getD i 0=kz.getD j 0) && decide (i<=j)
def sH{kz:List Int}{i j:Nat}:zRm kz i j=true ↔ kz.getD i 0<kz.getD j 0∨kz.getD i 0=kz.getD j 0/\i<=j:=by
 unfold zRm;rw[Vn,Vg,decide_eq_true_eq,decide_eq_true_eq,decide_eq_true_eq]
def zFU(kz:List Int):List Nat:=(List.range kz.length).mergeSort (zRm kz)
def zHJ(kz:List Int):(zFU kz).Pairwise fun i j=>zRm kz i j=true:=
 List.pairwise_mergeSort (le:=zRm kz) (fun a b c h1 h2=>by rw[sH] at *;omega) (fun a b=>by rw[Vn,sH,sH];omega) _
def zHP(kz:List Int):jZ kz (zFU kz):=by
 have p:(zFU kz).Perm (List.range kz.length):=List.mergeSort_perm _ _;have nd:(zFU kz).Nodup:=p.nodup_iff.mpr List.nodup_range;have w:=zHJ kz;refine⟨p,w.imp fun h=>?_,(List.Pairwise.and w nd).imp fun h=>?_⟩
 ·rw[sH] at h;omega
 ·obtain⟨h1,h2⟩:=h
  rw[sH] at h1;intro e;omega
def zGW(ce:Str)(b h:Sv)(ρ:Rho):Res Fl:=match b ρ with
 | .err c=>if (c==ce)=true then (match h ρ with
   | .ok (.ret r)=>.ok (.ret r)
   | _=>.no) else .no
 | r=>r
def zOY:Res Fl->Res Fl
 | .ok (.ret r)=>.ok (.ret r)
 | _=>.no
def zRR(ce:Str)(h:Sv)(ρ:Rho):Res Fl->Res Fl
 | .err c=>if (c==ce)=true then zOY (h ρ) else .no
 | .ok f=>.ok f
 | .no=>.no
def sTryN_at{ce:Str}{b h:Sv}{ρ:Rho}:zGW ce b h ρ=zRR ce h ρ (b ρ):=by
 unfold zGW zRR
 cases b ρ with
 | ok f=>rfl
 | no=>rfl
 | err c=>
  show(if (c==ce)=true then _ else _)=if (c==ce)=true then _ else _
  congr 1
def tryN_ok{ce:Str}{h:Sv}{ρ:Rho}{f:Fl}:zRR ce h ρ (.ok f)=.ok f:=rfl
def zGp{ce:Str}{h:Sv}{ρ:Rho}:zRR ce h ρ (.err ce)=zOY (h ρ):=by
 show(if (ce==ce)=true then zOY (h ρ) else .no)=_
 rw[Jj (beq_self_eq_true ce)]
def retO_r{r:Rt}:zOY (.ok (.ret r))=.ok (.ret r):=rfl
def zSz(o o2:Op2)(h k:Ev)(ρ:Rho)(y:D):D->Res D
 | .bl true=>(h ρ).bind fun w=>(o y w).bind (zMr o2 k ρ w)
 | .bl false=>.ok (.bl false)
 | _=>.no
def tQ(o o1 o2:Op2)(f g h k:Ev)(ρ:Rho):Res D:=(f ρ).bind fun x=>(g ρ).bind fun y=>(o x y).bind (zSz o1 o2 h k ρ y)
end L3
namespace Fq
def zFR{a b:Int}(ha:0<=a)(hb:0<b):Int.gcd b (a % b)=Int.gcd a b:=by
 obtain⟨m,rfl⟩:=Y6 ha;obtain⟨n,rfl⟩:=Y6 (Xl hb);show Nat.gcd n (m % n)=Nat.gcd m n
 rw[Nat.gcd_comm n (m % n),Nat.gcd_comm m n,Nat.gcd_rec n m]
def dv(t b:Int):Int:=if b<0 then -(Int.gcd t b:Int) else (Int.gcd t b:Int)
def zNh{t b:Int}(hb:b≠0):0<(Int.gcd t b:Int):=by
 have h:Int.gcd t b≠0:=fun h=>hb (Int.gcd_eq_zero_iff.mp h).2
 omega
def zRk{t b:Int}(hb:b≠0):dv t b≠0:=by
 have:=zNh (t:=t) hb
 unfold dv;split<;>omega
def zBF(t b:Int):dv t b ∣ t:=by
 unfold dv;split
 ·exact Int.neg_dvd.mpr (Uv ..)
 ·exact Uv ..
def zGl(t b:Int):dv t b ∣ b:=by
 unfold dv;split
 ·exact Int.neg_dvd.mpr (Uw ..)
 ·exact Uw ..
def qX{t d:Int}(h:d ∣ t):t.fdiv d=t / d:=by
 rw[Int.fdiv_eq_ediv];simp[h]
def zDy{t b:Int}(hb:b≠0):t.fdiv (dv t b)=(Rat.divInt t b).num:=by
 rw[qX (zBF t b),Rat.num_divInt,Int.gcd_comm b t];unfold dv;rcases Int.lt_trichotomy b 0 with h | h | h
 ·rw[Jj h,Int.sign_eq_neg_one_of_neg h,Int.ediv_neg]
  have:(-1:Int)*t=-t:=by omega
  rw[this,Wu (Uv ..)]
 ·exact absurd h hb
 ·rw[Jk (by omega),Int.sign_eq_one_of_pos h,Ux]
def zDN{t b:Int}(hb:b≠0):b.fdiv (dv t b)=((Rat.divInt t b).den:Int):=by
 rw[qX (zGl t b),Rat.den_divInt,Jk hb,Int.gcd_comm b t];unfold dv;rcases Int.lt_trichotomy b 0 with h | h | h
 ·rw[Jj h,Int.ediv_neg,Int.natCast_ediv]
  have e:((b.natAbs:Nat):Int)=-b:=by omega
  rw[e,Wu (Uw ..)]
 ·exact absurd h hb
 ·rw[Jk (by omega),Int.natCast_ediv]
  have e:((b.natAbs:Nat):Int)=b:=by omega
  rw[e]
def hJ(q:Rat):(q.den:Int)≠0:=by have:=q.den_nz;omega
def dA(q:Rat):(0:Int)<(q.den:Int):=by have:=q.den_nz;omega
def zKg(p q:Rat):Rat.divInt (p.num*q.den+q.num*p.den) (p.den*q.den)=p+q:=by
 rw[<-Rat.divInt_add_divInt _ _ (hJ p) (hJ q),V6,V6]
def zMp(p q:Rat):Rat.divInt (p.num*q.den-q.num*p.den) (p.den*q.den)=p-q:=by
 rw[<-Rat.divInt_sub_divInt _ _ (hJ p) (hJ q),V6,V6]
def zMt(p q:Rat):Rat.divInt (p.num*q.num) (p.den*q.den)=p*q:=by
 rw[<-Uy,V6,V6]
def zIL(p q:Rat):Rat.divInt (p.num*q.den) (p.den*q.num)=p / q:=by
 rw[<-Uy,V6,Rat.div_def,Rat.inv_def]
def zML{q:Rat}:q.num≠0 ↔ q≠0:=by
 constructor
 ·intro h e;exact h (by rw[e];rfl)
 ·intro h e;exact h (Rat.num_eq_zero.mp e)
def Sz(n:Nat)(q:Rat):Prop:=q.num.natAbs<2^n/\q.den<2^n
def Sz.mono{m n:Nat}{q:Rat}(h:Sz m q)(l:m<=n):Sz n q:=
 ⟨Qm h.1 (Vt (by decide) l),Qm h.2 (Vt (by decide) l)⟩
def zQd{t b:Int}(hb:b≠0):(Rat.divInt t b).num.natAbs<=t.natAbs:=by
 rw[<-zDy hb,qX (zBF t b),Int.natAbs_ediv_of_dvd (zBF t b)];exact Nat.div_le_self ..
def zFQ{t b:Int}(hb:b≠0):(Rat.divInt t b).den<=b.natAbs:=by
 rw[Rat.den_divInt,Jk hb];exact Nat.div_le_self ..
def Sz.of{n:Nat}{t b:Int}(hb:b≠0)(ht:t.natAbs<2^n)(h:b.natAbs<2^n):Sz n (Rat.divInt t b):=
 ⟨V7 (zQd hb) ht,V7 (zFQ hb) h⟩
def gZ{a b:Int}{m n:Nat}(ha:a.natAbs<2^m)(hb:b.natAbs<2^n):(a*b).natAbs<2^(m+n):=by
 rw[Yf,Yg];exact Yh ha hb
def zQX{a b:Int}{m:Nat}(ha:a.natAbs<2^m)(hb:b.natAbs<2^m):(a+b).natAbs<2^(m+1):=by
 rw[Nat.pow_succ];omega
def zPH{a b:Int}{m:Nat}(ha:a.natAbs<2^m)(hb:b.natAbs<2^m):(a-b).natAbs<2^(m+1):=by
 rw[Nat.pow_succ];omega
def Sz.d{n:Nat}{q:Rat}(h:Sz n q):((q.den:Int)).natAbs<2^n:=h.2
def Sz.add{m n:Nat}{p q:Rat}(hp:Sz m p)(hq:Sz n q):Sz (m+n+1) (p+q):=by
 rw[<-zKg];refine Sz.of (by have:=dA p;have:=dA q;exact Xm (hJ p) (hJ q)) (zQX (gZ hp.1 hq.d) ?_) ?_
 ·rw[Uu m n];exact gZ hq.1 hp.d
 ·exact Qm (gZ hp.d hq.d) (Vt (by decide) (by omega))
def Sz.sub{m n:Nat}{p q:Rat}(hp:Sz m p)(hq:Sz n q):Sz (m+n+1) (p-q):=by
 rw[<-zMp];refine Sz.of (Xm (hJ p) (hJ q)) (zPH (gZ hp.1 hq.d) ?_) ?_
 ·rw[Uu m n];exact gZ hq.1 hp.d
 ·exact Qm (gZ hp.d hq.d) (Vt (by decide) (by omega))
def Sz.mul{m n:Nat}{p q:Rat}(hp:Sz m p)(hq:Sz n q):Sz (m+n) (p*q):=by
 rw[<-zMt];exact Sz.of (Xm (hJ p) (hJ q)) (gZ hp.1 hq.1) (gZ hp.d hq.d)
def Sz.div{m n:Nat}{p q:Rat}(hp:Sz m p)(hq:Sz n q)(h:q≠0):Sz (m+n) (p / q):=by
 rw[<-zIL];exact Sz.of (Xm (hJ p) (zML.mpr h)) (gZ hp.1 hq.d) (gZ hp.d hq.1)
end Fq
namespace Fr
open L3 PySem Fq
local macro_rules | `(⋯)=>`(by omega)
def zMj{t:Tv}{b:Sv}{ρ:Rho}(P:Rho->Prop)(r:Rho->Nat)(Q:Res Fl->Prop)(h0:P ρ)
  (step:∀ ρ,P ρ->(t ρ=.ok false/\Q (.ok (.nx ρ)))∨(t ρ=.ok true/\∃ ρ',b ρ=.ok (.nx ρ')/\P ρ'/\r ρ' < r ρ)):Q (gW t b ρ):=by
 have main:∀ n ρ,r ρ<=n->P ρ->Q (gW t b ρ):=by
  intro n
  induction n with
  | zero=>
   intro ρ hn hp;rw[zCG];rcases step ρ hp with⟨h1,h2⟩ | ⟨h1,ρ',h2,h3,h4⟩
   ·rw[h1];exact h2
   ·omega
  | succ n ih=>
   intro ρ hn hp;rw[zCG];rcases step ρ hp with⟨h1,h2⟩ | ⟨h1,ρ',h2,h3,h4⟩
   ·rw[h1];exact h2
   ·rw[h1]
    simp only[Res.bind,if_true,h2];exact ih ρ' ⋯ h3
 exact main _ ρ (Qb _) h0
def zIA{i:Int}{m:Nat}(h:i.natAbs<2^m):nb i<=m+1:=zSp (Qm h (Vt (by decide) ⋯)) ⋯
def bO{i j:Int}{m n:Nat}(hi:i.natAbs<2^m)(hj:j.natAbs<2^n)(h:m+n<=100000000):iP i j=true:=by
 unfold iP;have h1:=zIA hi;have h2:=zIA hj;rw[Vn];exact .inr (J5 ⋯)
def zNW{i j:Int}(h1:-(2^64)<j)(h2:j<2^64):iP i j=true:=by
 unfold iP;rw[Vn,Vn];exact .inl (.inr (by rw[J5 h1,J5 h2];rfl))
def zOk{i j:Int}(h1:-(2^64)<i)(h2:i<2^64):iP i j=true:=by
 unfold iP;rw[Vn,Vn];exact .inl (.inl (by rw[J5 h1,J5 h2];rfl))
def rD{j:Int}{m:Nat}(h0:j≠0)(hj:j.natAbs<2^m)(h:m<=8999):nN j=true:=by
 unfold nN;have h1:=zIA hj;rw[J5 h0,J5 (show nb j<=9000 by omega)];rfl
def okDiv_lit{j:Int}(h0:0<j)(h:j<1000000000000000000):nN j=true:=rD (m:=64) ⋯ ⋯ (by decide)
def okMul_litr{i j:Int}(h1:-1000000000000000000<j)(h2:j<1000000000000000000):iP i j=true:=zNW ⋯ ⋯
def okMul_litl{i j:Int}(h1:-1000000000000000000<i)(h2:i<1000000000000000000):iP i j=true:=zOk ⋯ ⋯
def p10(n:Nat):(0:Int)<10^n:=Yr (by decide)
def p10ne(n:Nat):((10:Int)^n=0)=False:=eq_false (by have:=p10 n;omega)
def p10pos2(n:Nat):(0:Int)<2*10^n:=by have:=p10 n;omega
def p10ne2(n:Nat):((2:Int)*10^n=0)=False:=eq_false (by have:=p10 n;omega)
def okp9:rA 10 9=true:=by decide
def okp30:rA 10 30=true:=by decide
def okp59:rA 10 59=true:=by decide
def okp40:rA 10 40=true:=by decide
def dq(q:Rat):D:=.tup [.int q.num,.int (q.den:Int)]
def dp(p:Rat×Rat):D:=.tup [dq p.1,dq p.2]
def eq_dq(p q:Rat):eqD (dq p) (dq q)=decide (p=q):=by
 show((p.num==q.num) && (((p.den:Int)==(q.den:Int)) && true))=decide (p=q)
 by_cases h:p=q
 ·subst h;simp
 ·rw[Ji h]
  by_cases h1:p.num=q.num
  ·have h2:p.den≠q.den:=fun e=>h (Rat.ext h1 e)
   have:((p.den:Int)==(q.den:Int))=false:=by simp;omega
   rw[this];simp
  ·simp[h1]
def dep_dq(q:Rat):dep (dq q)=1:=rfl
def ix_dq0(q:Rat):oIx (dq q) (.int 0)=.ok (.int q.num):=rfl
def ix_dq1(q:Rat):oIx (dq q) (.int 1)=.ok (.int (q.den:Int)):=rfl
def ty_dq(q:Rat):tyN (dq q) = "tuple" := rfl
def len_dq(q:Rat):kU [dq q]=.ok (.int 2):=rfl
def oEq_dq(p q:Rat):oEq (dq p) (dq q)=.ok (.bl (decide (p=q))):=by
 rw[<-eq_dq];rfl
def oNe_dq(p q:Rat):oNe (dq p) (dq q)=.ok (.bl (!decide (p=q))):=by
 rw[<-eq_dq];rfl
def noL_dq(q:Rat):noL (dq q)=true:=rfl
def zQo(p q:Rat×Rat):eqD (dp p) (dp q)=decide (p=q):=by
 show(eqD (dq p.1) (dq q.1) && (eqD (dq p.2) (dq q.2) && true))=decide (p=q)
 rw[eq_dq,eq_dq];obtain⟨a,b⟩:=p;obtain⟨c,d⟩:=q;simp
def dp_mk(a b:Rat):(.tup [dq a,dq b]:D)=dp (a,b):=rfl
def ix_dp0(p:Rat×Rat):oIx (dp p) (.int 0)=.ok (dq p.1):=rfl
def ix_dp1(p:Rat×Rat):oIx (dp p) (.int 1)=.ok (dq p.2):=rfl
def ty_dp(p:Rat×Rat):tyN (dp p) = "tuple" := rfl
def len_dp(p:Rat×Rat):kU [dp p]=.ok (.int 2):=rfl
def dep_dp(p:Rat×Rat):dep (dp p)=2:=rfl
def noL_dp(p:Rat×Rat):noL (dp p)=true:=rfl
def oEq_dp(p q:Rat×Rat):oEq (dp p) (dp q)=.ok (.bl (decide (p=q))):=by
 rw[<-zQo];rfl
def oNe_dp(p q:Rat×Rat):oNe (dp p) (dp q)=.ok (.bl (!decide (p=q))):=by
 rw[<-zQo];rfl
def zIU:∀(l m:List Rat),uZ (l.map dq) (m.map dq)=decide (l=m)
 | [],[]=>rfl
 | [],_::_=>rfl
 | _::_,[]=>rfl
 | p::l,q::m=>by
  rw[Qg,Qg,uZ,eq_dq,zIU l m];simp
def fdiv_pos(a:Int){b:Int}(h:0<b):a.fdiv b=a / b:=Wv a ⋯
def fmod_pos(a:Int){b:Int}(h:0<b):a.fmod b=a % b:=Ww a ⋯
def zOp(a:Int){b:Int}(h:0<=b):a.fdiv b=a / b:=Wv a h
def zEU(a:Int){b:Int}(h:0<=b):a.fmod b=a % b:=Ww a h
def noLs_dps:∀ l:List (Rat×Rat),noLs (l.map dp)=true
 | []=>rfl
 | q::l=>by rw[Qg,noLs,noL_dp,noLs_dps l];rfl
def zAA{r:Type}{l:List r}{i:Nat}{a:r}(h:l[i]?=some a):l.take (i+1)=l.take i++[a]:=by rw[Ys,h];rfl
def zRz{b:Int}(h:0<b):(.tup [.int 1,.int b]:D)=dq (Rat.divInt 1 b):=by
 have hb:b≠0:=by omega
 have e:Fq.dv 1 b=1:=by unfold Fq.dv;rw[Jk ⋯];simp
 unfold dq;rw[<-Fq.zDy hb,<-Fq.zDN hb,e];simp
def zPT(k:Int):(.tup [.int k,.int 1]:D)=dq (k:Rat):=rfl
end Fr
namespace L3
open PySem
def yQ(b:Sv):Fl->Res Fl
 | .nx ρ=>b ρ
 | .ret r=>.ok (.ret r)
 | .brk ρ=>.ok (.brk ρ)
 | .ctn ρ=>.ok (.ctn ρ)
def sSeq_at{a b:Sv}{ρ:Rho}:aW a b ρ=(a ρ).bind (yQ b):=by
 unfold aW;congr;funext f;cases f<;>rfl
def ifF(a b:Sv)(ρ:Rho):Bool->Res Fl
 | true=>a ρ
 | false=>b ρ
def sIf_at{t:Tv}{a b:Sv}{ρ:Rho}:sIf t a b ρ=(t ρ).bind (ifF a b ρ):=by
 unfold sIf;congr;funext c;cases c<;>rfl
def zSi(a b:Ev)(ρ:Rho):Bool->Res D
 | true=>a ρ
 | false=>b ρ
def eIf_at{t:Tv}{a b:Ev}{ρ:Rho}:eIf t a b ρ=(t ρ).bind (zSi a b ρ):=by
 unfold eIf;congr;funext c;cases c<;>rfl
def zSa(b:Ev)(ρ:Rho):D->Res D
 | .bl true=>b ρ
 | .bl false=>.ok (.bl false)
 | _=>.no
def eAnd_at{a b:Ev}{ρ:Rho}:zRO a b ρ=(a ρ).bind (zSa b ρ):=by
 unfold zRO;congr;funext c;cases c<;>try rfl
 rename_i c;cases c<;>rfl
def orF(b:Ev)(ρ:Rho):D->Res D
 | .bl true=>.ok (.bl true)
 | .bl false=>b ρ
 | _=>.no
def eOr_at{a b:Ev}{ρ:Rho}:eOr a b ρ=(a ρ).bind (orF b ρ):=by
 unfold eOr;congr;funext c;cases c<;>try rfl
 rename_i c;cases c<;>rfl
def opF(o:Op2)(b:Ev)(ρ:Rho)(x:D):Res D:=(b ρ).bind (o x)
def eOp_at{o:Op2}{a b:Ev}{ρ:Rho}:eOp o a b ρ=(a ρ).bind (opF o b ρ):=rfl
def consG(d:D)(ds:List D):Res (List D):=.ok (d::ds)
def consF(r:Fv)(ρ:Rho)(d:D):Res (List D):=(r ρ).bind (consG d)
def aCons_at{e:Ev}{r:Fv}{ρ:Rho}:aB e r ρ=(e ρ).bind (consF r ρ):=rfl
def tupF(ds:List D):Res D:=if ds.length<=16777216 then .ok (.tup ds) else .no
def eTup_at{a:Fv}{ρ:Rho}:jU a ρ=(a ρ).bind tupF:=rfl
def rtF(r:Rt):Res D:=.ok r.d
def callF(m:Mir)(ds:List D):Res D:=(m ds).bind rtF
def eCall_at{m:Mir}{a:Fv}{ρ:Rho}:aN m a ρ=(a ρ).bind (callF m):=rfl
def isTF(T:String)(d:D):Res D:=.ok (.bl (isT T d))
def eIsT_at{T:String}{a:Ev}{ρ:Rho}:zSH T a ρ=(a ρ).bind (isTF T):=rfl
def isNF(d:D):Res D:=.ok (.bl (isNon d))
def eIsN_at{a:Ev}{ρ:Rho}:zPl a ρ=(a ρ).bind isNF:=rfl
def notNF(d:D):Res D:=.ok (.bl (!isNon d))
def eNotN_at{a:Ev}{ρ:Rho}:zHi a ρ=(a ρ).bind notNF:=rfl
def frzF(d:D):Res D:=if noL d=true then .ok d else .no
def eFrz_at{e:Ev}{ρ:Rho}:zGs e ρ=(e (ρ.map Sl.frz)).bind frzF:=rfl
def fLstF(ds:List D):Res (List D):=if ds.length<=16777216 then .ok ds else .no
def fLst_at{a:Fv}{ρ:Rho}:mH a ρ=(a ρ).bind fLstF:=rfl
def rtFF:Rt->Res (List D)
 | .f ds=>.ok ds
 | .v _=>.no
def fcallF(m:Mir)(ds:List D):Res (List D):=(m ds).bind rtFF
def fCall_at{m:Mir}{a:Fv}{ρ:Rho}:fE m a ρ=(a ρ).bind (fcallF m):=by
 unfold fE fcallF;congr
def zCN:List D->Res (List D)
 | [.lst ds]=>.ok ds
 | [.tup ds]=>.ok ds
 | _=>.no
def fListF_l{ds:List D}:zCN [.lst ds]=.ok ds:=rfl
def fListF_t{ds:List D}:zCN [.tup ds]=.ok ds:=rfl
def fList_at{a:Fv}{ρ:Rho}:zBI a ρ=(a ρ).bind zCN:=rfl
def catG(x y:D):Res (List D):=match x,y with
 | .lst ds,.lst es=>if ds.length+es.length<=16777216 then .ok (ds++es) else .no
 | _,_=>.no
def catF(b:Ev)(ρ:Rho)(x:D):Res (List D):=(b ρ).bind (catG x)
def fCat_at{a b:Ev}{ρ:Rho}:zOU a b ρ=(a ρ).bind (catF b ρ):=rfl
def efF(ds:List D):Res D:=.ok (.lst ds)
def eF_at{f:Fv}{ρ:Rho}:eF f ρ=(f ρ).bind efF:=rfl
def fFrzF(ds:List D):Res (List D):=if noLs ds=true then .ok ds else .no
def fFrz_at{f:Fv}{ρ:Rho}:zRF f ρ=(f (ρ.map Sl.frz)).bind fFrzF:=rfl
def oSF:D->Res (Option Int)
 | .int i=>.ok (some i)
 | _=>.no
def oS_at{e:Ev}{ρ:Rho}:oS e ρ=(e ρ).bind oSF:=by
 unfold oS;congr
def fSlH(x:D)(l h:Option Int):Res (List D):=match x with
 | .lst ds=>.ok (gD ds l h)
 | _=>.no
def fSlG(hi:Ov)(ρ:Rho)(x:D)(l:Option Int):Res (List D):=(hi ρ).bind (fSlH x l)
def fSlF(lo hi:Ov)(ρ:Rho)(x:D):Res (List D):=(lo ρ).bind (fSlG hi ρ x)
def fSl_at{a:Ev}{lo hi:Ov}{ρ:Rho}:fSl a lo hi ρ=(a ρ).bind (fSlF lo hi ρ):=rfl
def zTX(x:D)(l h:Option Int):Res D:=match x with
 | .tup ds=>if (gD ds l h).length<ds.length then .ok (.tup (gD ds l h)) else .no
 | _=>.no
def blF:D->Res Bool
 | .bl b=>.ok b
 | _=>.no
def tVal_at{e:Ev}{ρ:Rho}:cX e ρ=(e ρ).bind blF:=by
 unfold cX;congr
def notF(b:Bool):Res Bool:=.ok (!b)
def tNotB_at{t:Tv}{ρ:Rho}:zDM t ρ=(t ρ).bind notF:=rfl
def zNv(u:Tv)(ρ:Rho):Bool->Res Bool
 | true=>u ρ
 | false=>.ok false
def tAndB_at{t u:Tv}{ρ:Rho}:zJr t u ρ=(t ρ).bind (zNv u ρ):=by
 unfold zJr;congr;funext c;cases c<;>rfl
def zSy(u:Tv)(ρ:Rho):Bool->Res Bool
 | true=>.ok true
 | false=>u ρ
def tOrB_at{t u:Tv}{ρ:Rho}:zAz t u ρ=(t ρ).bind (zSy u ρ):=by
 unfold zAz;congr;funext c;cases c<;>rfl
def setF(i:Nat)(ρ:Rho)(d:D):Res Fl:=.ok (.nx (ρ.set i (.val d)))
def sSet_at{i:Nat}{e:Ev}{ρ:Rho}:cQ i e ρ=(e ρ).bind (setF i ρ):=rfl
def ownF(i:Nat)(ρ:Rho)(ds:List D):Res Fl:=.ok (.nx (ρ.set i (.own ds)))
def sOwn_at{i:Nat}{f:Fv}{ρ:Rho}:zFY i f ρ=(f ρ).bind (ownF i ρ):=rfl
def dropF(ρ:Rho)(_d:D):Res Fl:=.ok (.nx ρ)
def sDrop_at{e:Ev}{ρ:Rho}:vI e ρ=(e ρ).bind (dropF ρ):=rfl
def retF(d:D):Res Fl:=.ok (.ret (.v d))
def sRet_at{e:Ev}{ρ:Rho}:dM e ρ=(e (ρ.map Sl.frz)).bind retF:=rfl
def retFF(ds:List D):Res Fl:=.ok (.ret (.f ds))
def sRetF_at{f:Fv}{ρ:Rho}:pO f ρ=(f (ρ.map Sl.frz)).bind retFF:=rfl
def raiseF(c:Str)(ds:List D):Res Fl:=if ds.length<=16777216 then .err c else .no
def sRaise_at{c:Str}{a:Fv}{ρ:Rho}:mF c a ρ=(a ρ).bind (raiseF c):=rfl
def appF(i:Nat)(ρ:Rho)(ds:List D)(d:D):Res Fl:=if ds.length<16777216 then .ok (.nx (ρ.set i (.own (ds++[d])))) else .no
def appS(i:Nat)(e:Ev)(ρ:Rho):Option Sl->Res Fl
 | some (.own ds)=>(e ρ).bind (appF i ρ ds)
 | _=>.no
def sApp_at{i:Nat}{e:Ev}{ρ:Rho}:zCo i e ρ=appS i e ρ ρ[i]?:=by
 unfold zCo appS;rfl
def extF(i:Nat)(ρ:Rho)(ds:List D)(es:List D):Res Fl:=if ds.length+es.length<=16777216 then .ok (.nx (ρ.set i (.own (ds++es)))) else .no
def extS(i:Nat)(e:Fv)(ρ:Rho):Option Sl->Res Fl
 | some (.own ds)=>(e ρ).bind (extF i ρ ds)
 | _=>.no
def sExt_at{i:Nat}{e:Fv}{ρ:Rho}:zOT i e ρ=extS i e ρ ρ[i]?:=by
 unfold zOT extS;rfl
def augF(i:Nat)(ρ:Rho)(o:Op2)(x y:D):Res Fl:=(o x y).bind (setF i ρ)
def augS(i:Nat)(o:Op2)(e:Ev)(ρ:Rho):Option Sl->Res Fl
 | some (.val x)=>(e ρ).bind (augF i ρ o x)
 | _=>.no
def sAug_at{i:Nat}{o:Op2}{e:Ev}{ρ:Rho}:zPk i o e ρ=augS i o e ρ ρ[i]?:=by
 unfold zPk augS;rfl
def dropG(ρ:Rho)(_r:Rt):Res Fl:=.ok (.nx ρ)
def setG(i:Nat)(ρ:Rho)(r:Rt):Res Fl:=.ok (.nx (ρ.set i (.val r.d)))
def xsetF(i:Nat)(m:Mir)(ρ:Rho)(ds:List D):Res Fl:=(m ds).bind (setG i ρ)
def xSet_at{i:Nat}{m:Mir}{a:Fv}{ρ:Rho}:zPf i m a ρ=(noErr (a ρ)).bind (xsetF i m ρ):=rfl
def varS:Option Sl->Res D
 | some (.val d)=>.ok d
 | _=>.no
def eVar_at{i:Nat}{ρ:Rho}:aE i ρ=varS ρ[i]?:=by
 unfold aE varS;rfl
def retS:Option Sl->Res Fl
 | some (.own ds)=>.ok (.ret (.f ds))
 | _=>.no
def sRetOwn_at{i:Nat}{ρ:Rho}:jG i ρ=retS ρ[i]?:=by
 unfold jG retS;rfl
def nxF(ρ:Rho):Res Fl:=.ok (.nx ρ)
def unpF(g:Gv)(ρ:Rho)(d:D):Res Fl:=(g d ρ).bind nxF
def sUnp_at{g:Gv}{f:Ev}{ρ:Rho}:zSK g f ρ=(f ρ).bind (unpF g ρ):=rfl
def gtF(gs:List D->Rho->Res Rho)(ρ:Rho):D->Res Rho
 | .tup ds=>gs ds ρ
 | _=>.no
def gTup_at{gs:List D->Rho->Res Rho}{d:D}{ρ:Rho}:zCc gs d ρ=gtF gs ρ d:=by
 unfold zCc gtF;rfl
def gCons_at{g:Gv}{r:List D->Rho->Res Rho}{d:D}{ds:List D}{ρ:Rho}:fT g r (d::ds) ρ=(g d ρ).bind (r ds):=rfl
def gNil_at{ρ:Rho}:zCd [] ρ=.ok ρ:=rfl
def forF(g:Gv)(b:Sv)(ρ:Rho)(ds:List D):Res Fl:=loop g b ds ρ
def sFor_at{it:Fv}{g:Gv}{b:Sv}{ρ:Rho}:tV it g b ρ=(it ρ).bind (forF g b ρ):=rfl
def zKv:D->Res (List D)
 | .lst ds=>.ok ds
 | .tup ds=>.ok ds
 | _=>.no
def seqD_l{ds:List D}:zKv (.lst ds)=.ok ds:=rfl
def seqD_t{ds:List D}:zKv (.tup ds)=.ok ds:=rfl
def iSeq_at{e:Ev}{ρ:Rho}:vC e ρ=(e ρ).bind zKv:=by
 unfold vC;congr
def zPQ:List D->Res (List D)
 | [.int j]=>if -(2^62)<=j/\j<2^62 then .ok (rng 0 j.toNat 1) else .no
 | _=>.no
def iRng1_at{a:Fv}{ρ:Rho}:zDu a ρ=(a ρ).bind zPQ:=rfl
def zPK:List D->Res (List D)
 | [.int i,.int j]=>if -(2^62)<=i/\i<2^62/\-(2^62)<=j/\j<2^62 then .ok (rng i (j-i).toNat 1) else .no
 | _=>.no
def iRng2_at{a:Fv}{ρ:Rho}:zJb a ρ=(a ρ).bind zPK:=rfl
def fn_at{p n:Nat}{b:Sv}{ds:List D}(h:ds.length=p):fn p n b ds=(b (start n ds)).bind fin:=by
 unfold fn;rw[Jj h]
def nr{r:Sort _}{a b:r}(h:a=b):a=b:=h
def okb{r s:Type}{a:r}{f:r->Res s}:(Res.ok a).bind f=f a:=nr rfl
def erb{r s:Type}{c:Str}{f:r->Res s}:(Res.err c).bind f=.err c:=nr rfl
def seqF_nx{b:Sv}{ρ:Rho}:yQ b (.nx ρ)=b ρ:=nr rfl
def seqF_ret{b:Sv}{r:Rt}:yQ b (.ret r)=.ok (.ret r):=nr rfl
def gtF_t{gs:List D->Rho->Res Rho}{ρ:Rho}{ds:List D}:gtF gs ρ (.tup ds)=gs ds ρ:=nr rfl
def ifF_t{a b:Sv}{ρ:Rho}:ifF a b ρ true=a ρ:=nr rfl
def ifF_f{a b:Sv}{ρ:Rho}:ifF a b ρ false=b ρ:=nr rfl
def eifF_t{a b:Ev}{ρ:Rho}:zSi a b ρ true=a ρ:=nr rfl
def eifF_f{a b:Ev}{ρ:Rho}:zSi a b ρ false=b ρ:=nr rfl
def andF_t{b:Ev}{ρ:Rho}:zSa b ρ (.bl true)=b ρ:=nr rfl
def andF_f{b:Ev}{ρ:Rho}:zSa b ρ (.bl false)=.ok (.bl false):=nr rfl
def orF_t{b:Ev}{ρ:Rho}:orF b ρ (.bl true)=.ok (.bl true):=nr rfl
def orF_f{b:Ev}{ρ:Rho}:orF b ρ (.bl false)=b ρ:=nr rfl
def tandF_t{u:Tv}{ρ:Rho}:zNv u ρ true=u ρ:=nr rfl
def tandF_f{u:Tv}{ρ:Rho}:zNv u ρ false=.ok false:=nr rfl
def torF_t{u:Tv}{ρ:Rho}:zSy u ρ true=.ok true:=nr rfl
def torF_f{u:Tv}{ρ:Rho}:zSy u ρ false=u ρ:=nr rfl
def oAdd_i{i j:Int}:pG (.int i) (.int j)=.ok (.int (i+j)):=rfl
def oSub_i{i j:Int}:vU (.int i) (.int j)=.ok (.int (i-j)):=rfl
def oMul_i{i j:Int}(h:iP i j=true):mG (.int i) (.int j)=.ok (.int (i*j)):=Jj h
def oDiv_i{i j:Int}(h:nN j=true):kT (.int i) (.int j)=.ok (.int (i.fdiv j)):=Jj h
def oMod_i{i j:Int}(h:j≠0):iY (.int i) (.int j)=.ok (.int (i.fmod j)):=Jj h
def oPow_i{i j:Int}(h:rA i j=true):zDV (.int i) (.int j)=.ok (.int (i^j.toNat)):=Jj h
def oEq_i{i j:Int}:oEq (.int i) (.int j)=.ok (.bl (decide (i=j))):=rfl
def oNe_i{i j:Int}:oNe (.int i) (.int j)=.ok (.bl (!decide (i=j))):=rfl
def oLt_i{i j:Int}:oLt (.int i) (.int j)=.ok (.bl (decide (i<j))):=rfl
def oLe_i{i j:Int}:oLe (.int i) (.int j)=.ok (.bl (decide (i<=j))):=rfl
def oGt_i{i j:Int}:oGt (.int i) (.int j)=.ok (.bl (decide (j<i))):=rfl
def oGe_i{i j:Int}:oGe (.int i) (.int j)=.ok (.bl (decide (j<=i))):=rfl
def ofO_some{r:Type}{a:r}:ofO (some a)=.ok a:=rfl
def oNeg_i{i:Int}:zRp (.int i)=.ok (.int (-i)):=rfl
def oNot_b{b:Bool}:zLn (.bl b)=.ok (.bl (!b)):=rfl
def bAbs_i{i:Int}:zNJ [.int i]=.ok (.int (i.natAbs:Int)):=by
 show Res.ok (D.int (if i<0 then -i else i))=_
 congr 2;split<;>omega
def bMin_i{i j:Int}:zRd [.int i,.int j]=.ok (.int (min i j)):=by
 show Res.ok (D.int (if j<i then j else i))=_
 congr 2;split<;>omega
def zAL{j:Int}(h1:-(2^62)<=j)(h2:j<2^62):zPQ [.int j]=.ok (rng 0 j.toNat 1):=Jj ⟨h1,h2⟩
def zOL{i j:Int}(h1:-(2^62)<=i)(h2:i<2^62)(h3:-(2^62)<=j)(h4:j<2^62):zPK [.int i,.int j]=.ok (rng i (j-i).toNat 1):=Jj ⟨h1,h2,h3,h4⟩
def zEp{r:Type}{g:Gv}{b:Sv}{ds:List D}{ρ:Rho}{k:Fl->Res r}{Q:Res r->Prop}(P:Rho->Prop)(h0:P ρ)
  (st:∀ d ρ,d∈ds->P ρ->∃ ρ2,(g d ρ).bind b=.ok (.nx ρ2)/\P ρ2) (fi:∀ ρ',P ρ'->Q (k (.nx ρ'))):Q ((loop g b ds ρ).bind k):=by
 suffices h:∃ ρ',loop g b ds ρ=.ok (.nx ρ')/\P ρ' by
  obtain⟨ρ',e,hp⟩:=h;rw[e];exact fi ρ' hp
 clear fi
 induction ds generalizing ρ with
 | nil=>exact⟨ρ,rfl,h0⟩
 | cons d ds ih=>
  obtain⟨ρ2,e,hp⟩:=st d ρ Qe h0;obtain⟨ρ',e',hp'⟩:=ih hp fun d' ρ' hd=>st d' ρ' (Qd _ hd)
  refine⟨ρ',?_,hp'⟩
  rw[loop]
  cases hg:g d ρ with
  | no=>rw[hg] at e;cases e
  | err c=>rw[hg] at e;cases e
  | ok ρ1=>
   rw[hg] at e;have e2:b ρ1=.ok (.nx ρ2):=e;simp only[Res.bind,e2];exact e'
def ty_i{i:Int}:tyN (.int i) = "int" := rfl
def ty_b{b:Bool}:tyN (.bl b) = "bool" := rfl
def ty_t{ds:List D}:tyN (.tup ds) = "tuple" := rfl
def ty_l{ds:List D}:tyN (.lst ds) = "list" := rfl
def ty_s{x:Str}:tyN (.str x) = "str" := rfl
def ty_n:tyN .non = "NoneType" := rfl
def bLen_t{ds:List D}:kU [.tup ds]=.ok (.int ds.length):=rfl
def bLen_l{ds:List D}:kU [.lst ds]=.ok (.int ds.length):=rfl
def bTup_t{ds:List D}:zKr [.tup ds]=.ok (.tup ds):=rfl
def bTup_l{ds:List D}:zKr [.lst ds]=.ok (.tup ds):=rfl
def oY{r:Type}{g:Gv}{b:Sv}{ds:List D}{ρ:Rho}{k:Fl->Res r}{Q:Res r->Prop}(P:Nat->Rho->Prop)(h0:P 0 ρ)
  (st:∀ i d ρ,ds[i]?=some d->P i ρ->∃ ρ2,(g d ρ).bind b=.ok (.nx ρ2)/\P (i+1) ρ2) (fi:∀ ρ',P ds.length ρ'->Q (k (.nx ρ'))):Q ((loop g b ds ρ).bind k):=by
 suffices h:∀(ds:List D)(j:Nat)(ρ:Rho),P j ρ->(∀ i d ρ,ds[i]?=some d->P (j+i) ρ->∃ ρ2,(g d ρ).bind b=.ok (.nx ρ2)/\P (j+i+1) ρ2)->∃ ρ',loop g b ds ρ=.ok (.nx ρ')/\P (j+ds.length) ρ' by
  obtain⟨ρ',e,hp⟩:=h ds 0 ρ h0 (fun i d ρ hd hp=>by rw[Q8] at hp ⊢;exact st i d ρ hd hp)
  rw[e];exact fi ρ' (by rw[Q8] at hp;exact hp)
 intro ds
 induction ds with
 | nil=>intro j ρ hp _;exact⟨ρ,rfl,hp⟩
 | cons d ds ih=>
  intro j ρ hp st;obtain⟨ρ2,e,hp2⟩:=st 0 d ρ rfl hp
  obtain⟨ρ',e',hp'⟩:=ih (j+1) ρ2 hp2 fun i d' ρ' hd hp=>by
   have:=st (i+1) d' ρ' (by simpa using hd) (by rw[show j+(i+1)=j+1+i by omega];exact hp)
   rw[show j+(i+1)=j+1+i by omega] at this;exact this
  refine⟨ρ',?_,by rw[Qk,show j+(ds.length+1)=j+1+ds.length by omega];exact hp'⟩
  rw[loop]
  cases hg:g d ρ with
  | no=>rw[hg] at e;cases e
  | err c=>rw[hg] at e;cases e
  | ok ρ1=>
   rw[hg] at e;have e2:b ρ1=.ok (.nx ρ2):=e;simp only[Res.bind,e2];exact e'
def zFv{lo c:Int}{n i:Nat}{d:D}(h:(rng lo n c)[i]?=some d):i<n/\d=.int (lo+(i:Int)*c):=by
 unfold rng at h;rw[Qq] at h;by_cases hi:i<n
 ·rw[V8 hi] at h
  cases h;exact⟨hi,rfl⟩
 ·rw[Qz (by rw[Vd];omega)] at h
  cases h
def zMG{lo c:Int}{n:Nat}:(rng lo n c).length=n:=by unfold rng;rw[Qi,Vd]
def zFF{f:Ev}{ρ:Rho}{h:D->D}:∀ {ds:List D},(∀ d∈ds,f (ρ++[.val d])=.ok (h d))->jC uC f ρ ds=.ok (ds.map h)
 | [],_=>rfl
 | d::ds,hf=>by
  rw[jC,hf d Qe];simp only[uC,noErr,Res.bind,if_true];rw[zFF fun e he=>hf e (Qd _ he)];rfl
def zGM(t:Tv)(f:Ev)(ρ:Rho)(ds:List D):Res (List D):=if ds.length<=16777215 then jC t f ρ ds else .no
def fComp_at{it:Fv}{t:Tv}{f:Ev}{ρ:Rho}:yC it t f ρ=(it ρ).bind (zGM t f ρ):=rfl
def zJl{f:Ev}{ρ:Rho}{h:D->D}{ds:List D}(hl:ds.length<=16777215)(hf:∀ d∈ds,f (ρ++[.val d])=.ok (h d)):zGM uC f ρ ds=.ok (ds.map h):=by
 unfold zGM;rw[Jj hl,zFF hf]
def zLf{r:Type}(l:List r)(a:Nat):l.drop (min a l.length)=l.drop a:=by
 rcases Y5 a l.length with h | h
 ·rw[Uz h]
 ·rw[Nat.min_eq_right h,List.drop_length,Yt h]
def xA{ds:List D}{a b:Int}(h1:0<=a)(h2:0<=b):gD ds (some a) (some b)=(ds.drop a.toNat).take (b.toNat-a.toNat):=by
 unfold gD cut;simp only[h1,h2,if_true];rw[zLf];rcases Y5 ds.length a.toNat with c | c
 ·rw[Yt c,List.take_nil,List.take_nil]
 ·rw[Uz c]
  rcases Y5 b.toNat ds.length with d | d
  ·rw[Uz d]
  ·rw[Nat.min_eq_right d,Y7 (by rw[Vx];exact Qb _),Y7 (by rw[Vx];exact Nat.sub_le_sub_right d _)]
def nH{r:Type}{f:r->D}{l:List r}{i:Int}{a:r}(h0:0<=i)(h:l[i.toNat]?=some a):oIx (.lst (l.map f)) (.int i)=.ok (f a):=by
 show ofO (atD (l.map f) i)=_
 unfold atD;rw[Jj h0,Qq,h];rfl
def oIx_tc{d:D}{ds:List D}{i:Int}:oIx (.tup (d::ds)) (.int i)=ofO (atD (d::ds) i):=rfl
def qK{r:Type}{f:r->D}{l:List r}{i:Int}{a:r}(h0:0<=i)(h:l[i.toNat]?=some a):oIx (.tup (l.map f)) (.int i)=.ok (f a):=by
 show ofO (atD (l.map f) i)=_
 unfold atD;rw[Jj h0,Qq,h];rfl
def zSg(ds:List D):D->Res (List D)
 | .int k=>if 0<=k/\k<2^62/\ds.length*k.toNat<=16777216 then .ok (List.replicate k.toNat ds).flatten else .no
 | _=>.no
def repF(g:Ev)(ρ:Rho)(ds:List D):Res (List D):=(g ρ).bind (zSg ds)
def fRep_at{f:Fv}{g:Ev}{ρ:Rho}:zOV f g ρ=(f ρ).bind (repF g ρ):=by
 unfold zOV repF;congr
def zJd{d:D}{k:Nat}(h:k<=16777216):zSg [d] (.int (k:Int))=.ok (List.replicate k d):=by
 have e:∀ n,(List.replicate n [d]).flatten=List.replicate n d:=by
  intro n
  induction n with
  | zero=>rfl
  | succ n ih=>rw[Xk,Xz,ih];rfl
 unfold zSg;dsimp only
 rw[Jj ⟨by omega,by omega,by simp only[Qk,Xb,Vb];omega⟩,Vb,e]
def zJs{r:Type}{u:r->D}{f:Ev}{ρ:Rho}{g:r->D}:∀ {l:List r},(∀ a∈l,f (ρ++[.val (u a)])=.ok (g a))->jC uC f ρ (l.map u)=.ok (l.map g)
 | [],_=>rfl
 | a::l,h=>by
  rw[Qg,jC,h a Qe];simp only[uC,noErr,Res.bind,if_true];rw[zJs fun b hb=>h b (Qd _ hb)];rfl
def wE{r:Type}{u:r->D}{f:Ev}{ρ:Rho}{g:r->D}{l:List r}(hl:l.length<=16777215)(h:∀ a∈l,f (ρ++[.val (u a)])=.ok (g a)):zGM uC f ρ (l.map u)=.ok (l.map g):=by
 unfold zGM;rw[Jj (by rw[Qi];exact hl),zJs h]
def bSum_l{ns:List Int}:zCe [.lst (ns.map D.int)]=.ok (.int ns.sum):=by
 have e:∀ ns:List Int,pP (ns.map D.int)=some ns:=by
  intro ns
  induction ns with
  | nil=>rfl
  | cons i ns ih=>rw[Qg,pP,ih]
 show(match pP (ns.map D.int) with | some ns=>Res.ok (D.int ns.sum) | none=>.no)=_
 rw[e]
def bSum_t{ns:List Int}:zCe [.tup (ns.map D.int)]=.ok (.int ns.sum):=by
 have e:∀ ns:List Int,pP (ns.map D.int)=some ns:=by
  intro ns
  induction ns with
  | nil=>rfl
  | cons i ns ih=>rw[Qg,pP,ih]
 show(match pP (ns.map D.int) with | some ns=>Res.ok (D.int ns.sum) | none=>.no)=_
 rw[e]
def slI(i:Nat)(ρ:Rho):Int:=match ρ[i]? with
 | some (.val (.int x))=>x
 | _=>0
def chB(o o':Op2)(h:Ev)(ρ:Rho)(x y:D):Res D:=(o x y).bind (zMr o' h ρ y)
def chA(o o':Op2)(g h:Ev)(ρ:Rho)(x:D):Res D:=(g ρ).bind (chB o o' h ρ x)
def eChain_at{o o':Op2}{f g h:Ev}{ρ:Rho}:zAn o o' f g h ρ=(f ρ).bind (chA o o' g h ρ):=rfl
def chnF_t{o:Op2}{h:Ev}{ρ:Rho}{y:D}:zMr o h ρ y (.bl true)=(h ρ).bind (o y):=rfl
def chnF_f{o:Op2}{h:Ev}{ρ:Rho}{y:D}:zMr o h ρ y (.bl false)=.ok (.bl false):=rfl
def chO_s{c:Nat}:chO (some c)=.ok (.str ⟨#[c]⟩):=rfl
def zQK{x:Str}:dep (.str x)<=50:=by simp[dep]
def oEq_s{x y:Str}:oEq (.str x) (.str y)=.ok (.bl (x==y)):=by
 unfold oEq;rw[Jj zQK,eqD]
def oNe_s{x y:Str}:oNe (.str x) (.str y)=.ok (.bl (!(x==y))):=by
 unfold oNe;rw[Jj zQK,eqD]
def cD{g:Gv}{b:Sv}{d:D}{ds:List D}{ρ ρ1 ρ2:Rho}(hg:g d ρ=.ok ρ1)(hb:b ρ1=.ok (.nx ρ2)):loop g b (d::ds) ρ=loop g b ds ρ2:=by
 rw[loop];simp only[hg,Res.bind,hb]
def gT{g:Gv}{b:Sv}{d:D}{ds:List D}{ρ ρ1:Rho}{r:Rt}(hg:g d ρ=.ok ρ1)(hb:b ρ1=.ok (.ret r)):loop g b (d::ds) ρ=.ok (.ret r):=by
 rw[loop];simp only[hg,Res.bind,hb]
def oTabNot_s{T:List (Str×Str)}{x:Str}:uA T (.str x)=.ok (.bl (!(T.lookup x).isSome)):=rfl
def zDl{r:Type}(p:r->Int):∀ l:List r,pP (l.map fun a=>D.int (p a))=some (l.map p)
 | []=>rfl
 | a::l=>by rw[Qg,pP,zDl p l];rfl
def mx0:List Int->Int
 | []=>0
 | a::r=>zBo a r
def zIS{s:Type}{p:s->Int}{l:List s}:zFm [.lst (l.map fun a=>D.int (p a)),.int 0]=.ok (.int (mx0 (l.map p))):=by
 show(match pP (l.map fun a=>D.int (p a)) with | some (a::r)=>Res.ok (D.int (zBo a r)) | some []=>.ok (.int 0) | none=>.no)=_
 rw[zDl];cases l<;>rfl
def ix2{a b c:D}:oIx (.tup [a,b,c]) (.int 2)=.ok c:=rfl
def zSW:List D->Res (List D)
 | [x,y]=>match zKx x,zKx y with
  | some xs,some ys=>.ok (nO xs ys)
  | _,_=>.no
 | _=>.no
def iZip_at{a:Fv}{ρ:Rho}:zOW a ρ=(a ρ).bind zSW:=by
 unfold zOW;congr
def xD{x y:D}{xs ys:List D}(hx:zKx x=some xs)(hy:zKx y=some ys):zSW [x,y]=.ok (nO xs ys):=by
 show(match zKx x,zKx y with | some xs,some ys=>Res.ok (nO xs ys) | _,_=>.no)=_
 rw[hx,hy]
def zNF:D->Res (List D)
 | .lst ds=>.ok (lZ 0 ds)
 | .tup ds=>.ok (lZ 0 ds)
 | _=>.no
def enumF_t{ds:List D}:zNF (.tup ds)=.ok (lZ 0 ds):=rfl
def enumF_l{ds:List D}:zNF (.lst ds)=.ok (lZ 0 ds):=rfl
def iEnum_at{e:Ev}{ρ:Rho}:zJt e ρ=(e ρ).bind zNF:=by
 unfold zJt;congr
def zHC(f:Ev)(ρ:Rho)(ds:List D):Res (List D):=if ds.length<=16777215 then hG f ρ ds else .no
def fComp2_at{it:Fv}{f:Ev}{ρ:Rho}:zAf it f ρ=(it ρ).bind (zHC f ρ):=rfl
def zGw{r s:Type}{u:r->D}{v:s->D}{f:Ev}{ρ:Rho}{g:r->s->D}:∀ {l:List r} {m:List s},(∀ p∈l.zip m,f (ρ++[.val (u p.1),.val (v p.2)])=.ok (g p.1 p.2))->
  hG f ρ (nO (l.map u) (m.map v))=.ok ((l.zip m).map fun p=>g p.1 p.2)
 | [],m,h=>by cases m<;>rfl
 | a::l,[],h=>rfl
 | a::l,b::m,h=>by
  have h1:=h (a,b) Qe;have h2:=zGw (l:=l) (m:=m) (u:=u) (v:=v) (g:=g) fun p hp=>h p (Qd _ hp)
  show(noErr (f (ρ++[.val (u a),.val (v b)]))).bind (fun e=>(hG f ρ (nO (l.map u) (m.map v))).bind fun es=>.ok (e::es))=_
  rw[h1,h2];rfl
def rJ{r s:Type}{u:r->D}{v:s->D}{f:Ev}{ρ:Rho}{g:r->s->D}{l:List r}{m:List s}(hl:l.length<=16777215)(h:∀ p∈l.zip m,f (ρ++[.val (u p.1),.val (v p.2)])=.ok (g p.1 p.2)):
  zHC f ρ (nO (l.map u) (m.map v))=.ok ((l.zip m).map fun p=>g p.1 p.2):=by
 unfold zHC;rw[Jj,zGw h]
 have:∀(a b:List D),(nO a b).length<=a.length:=by
  intro a
  induction a with
  | nil=>intro b;cases b<;>exact Qb _
  | cons x a ih=>intro b;cases b with
   | nil=>exact Vo _
   | cons y b=>exact Xn (ih b)
 exact Qp (this _ _) (by rw[Qi];exact hl)
def zST(hi:Ov)(ρ:Rho)(x:D)(l:Option Int):Res D:=(hi ρ).bind fun h=>slQ l h x
def slQF(lo hi:Ov)(ρ:Rho)(x:D):Res D:=(lo ρ).bind (zST hi ρ x)
def eSlQ_at{a:Ev}{lo hi:Ov}{ρ:Rho}:zSN a lo hi ρ=(a ρ).bind (slQF lo hi ρ):=rfl
def zOS(x:D)(l h:Option Int):Res D:=slQ l h x
def slQE_at{hi:Ov}{ρ:Rho}{x:D}{l:Option Int}:zST hi ρ x l=(hi ρ).bind (zOS x l):=rfl
def slQG_l{ds:List D}{l h:Option Int}:zOS (.lst ds) l h=.ok (.lst (gD ds l h)):=rfl
def slQG_t{ds:List D}{l h:Option Int}:zOS (.tup ds) l h=.ok (.tup (gD ds l h)):=rfl
end L3
namespace Ln
open Fq
abbrev Pt:=Rat×Rat
def asc(a b:Pt):Prop:=a.1<b.1/\a.2<=b.2
def btw(a b c:Pt):Bool:=decide ((b.2-a.2)*(c.1-b.1)=(c.2-b.2)*(b.1-a.1))
def push:List Pt->Pt->List Pt
 | b::a::s,c=>if btw a b c=true then c::a::s else c::b::a::s
 | s,c=>c::s
def few:Pt->List Pt->List Pt
 | _,[]=>[]
 | _,[b]=>[b]
 | a,b::c::r=>if btw a b c=true then few b (c::r) else b::few b (c::r)
def Ok(ps:List Pt):Prop:=ps.head?=some (0,0)/\ps.Pairwise asc
def lt_iff{p q:Rat}:p.num*q.den<q.num*p.den ↔ p<q:=Rat.lt_iff p q |>.symm
end Ln
namespace L3
open PySem PySem.Spec PyProof.Rows L2
abbrev St:=L2.St
mutual
inductive IsD (K:PySem.W.Frag) (H:Hp):V->D->Prop where
 | non:IsD K H .non .non
 | bl (b:Bool):IsD K H (.bl b) (.bl b)
 | int (i:Int):IsD K H (.int i) (.int i)
 | str (x:Str):IsD K H (.str x) (.str x)
 | tup {a:Jc} {xs:List V} {ds:List D}:SqT K H a xs->IsDs K H xs ds->IsD K H (.ref a) (.tup ds)
 | lst {a:Jc} {xs:List V} {ds:List D}:SqL K H a xs->IsDs K H xs ds->IsD K H (.ref a) (.lst ds)
inductive IsDs (K:PySem.W.Frag) (H:Hp):List V->List D->Prop where
 | nil:IsDs K H [] []
 | cons {v:V} {d:D} {vs:List V} {ds:List D}:IsD K H v d->IsDs K H vs ds->IsDs K H (v::vs) (d::ds)
end
def _root_.L2.Same.rd{H H':Hp}(e:Same H H'){a:Jc}{u:HO}(h:Rd H a u):Rd H' a u:=by
 rcases h with h | ⟨o,h⟩
 ·exact .inl (e _ _ h)
 ·exact .inr ⟨o,e _ _ h⟩
def cK{K:Fg_}{H H':Hp}(e:Same H H'){a:Jc}{xs:List V}(h:SqT K H a xs):SqT K H' a xs:=h.imp (Same.rd e) id
def dF{K:Fg_}{H H':Hp}(e:Same H H'){a:Jc}{xs:List V}(h:SqL K H a xs):SqL K H' a xs:=h.imp (Same.rd e) id
section
variable{K:Fg_}{H H':Hp}
mutual
def IsD.mono(e:Same H H'):∀ {v:V} {d:D},IsD K H v d->IsD K H' v d
 | _,_,.non=>.non
 | _,_,.bl b=>.bl b
 | _,_,.int i=>.int i
 | _,_,.str x=>.str x
 | _,_,.tup h hs=>.tup (cK e h) (IsDs.mono e hs)
 | _,_,.lst h hs=>.lst (dF e h) (IsDs.mono e hs)
def IsDs.mono(e:Same H H'):∀ {vs:List V} {ds:List D},IsDs K H vs ds->IsDs K H' vs ds
 | _,_,.nil=>.nil
 | _,_,.cons h hs=>.cons (IsD.mono e h) (IsDs.mono e hs)
end
def IsDs.length:∀ {vs:List V} {ds:List D},IsDs K H vs ds->vs.length=ds.length
 | _,_,.nil=>rfl
 | _,_,.cons _ hs=>by rw[Qk,Qk,IsDs.length hs]
def IsDs.at:∀ {vs:List V} {ds:List D} {j:Nat} {d:D},IsDs K H vs ds->ds[j]?=some d->∃ v,vs[j]?=some v/\IsD K H v d
 | _,_,_,_,.nil,e=>by simp at e
 | _,_,0,_,.cons r _,e=>by simp at e;subst e;exact⟨_,rfl,r⟩
 | _,_,j+1,d,.cons _ t,e=>by
  obtain⟨v,h1,h2⟩:=IsDs.at (j:=j) (d:=d) t (by simpa using e)
  exact⟨v,by simpa using h1,h2⟩
def IsDs.append:∀ {vs ws:List V} {ds es:List D},IsDs K H vs ds->IsDs K H ws es->IsDs K H (vs++ws) (ds++es)
 | _,_,_,_,.nil,s=>s
 | _,_,_,_,.cons r t,s=>.cons r (IsDs.append t s)
def IsDs.take:∀ {vs:List V} {ds:List D} (n:Nat),IsDs K H vs ds->IsDs K H (vs.take n) (ds.take n)
 | _,_,0,_=>.nil
 | _,_,_+1,.nil=>.nil
 | _,_,n+1,.cons r t=>.cons r (IsDs.take n t)
def IsDs.drop:∀ {vs:List V} {ds:List D} (n:Nat),IsDs K H vs ds->IsDs K H (vs.drop n) (ds.drop n)
 | _,_,0,r=>r
 | _,_,_+1,.nil=>.nil
 | _,_,n+1,.cons _ t=>IsDs.drop n t
def IsDs.set{v:V}{d:D}(h:IsD K H v d):∀ {vs:List V} {ds:List D} (j:Nat),IsDs K H vs ds->IsDs K H (vs.set j v) (ds.set j d)
 | _,_,_,.nil=>.nil
 | _,_,0,.cons _ t=>.cons h t
 | _,_,j+1,.cons q t=>.cons q (IsDs.set h j t)
mutual
def IsD.noL(k:∀ b xs,Rd H b (.tup xs)->Rd H' b (.tup xs)):∀ {v:V} {d:D},IsD K H v d->L3.noL d=true->IsD K H' v d
 | _,_,.non,_=>.non
 | _,_,.bl b,_=>.bl b
 | _,_,.int i,_=>.int i
 | _,_,.str x,_=>.str x
 | _,_,.tup h hs,e=>.tup (h.imp (k _ _) id) (IsDs.noL k hs (by rw[L3.noL] at e;exact e))
 | _,_,.lst h hs,e=>by rw[L3.noL] at e;cases e
def IsDs.noL(k:∀ b xs,Rd H b (.tup xs)->Rd H' b (.tup xs)):∀ {vs:List V} {ds:List D},IsDs K H vs ds->L3.noLs ds=true->IsDs K H' vs ds
 | _,_,.nil,_=>.nil
 | _,_,.cons h hs,e=>by
  rw[L3.noLs,Vg] at e;exact .cons (IsD.noL k h e.1) (IsDs.noL k hs e.2)
end
end
def IsD.intI{K:Fg_}{H:Hp}{v:V}{i:Int}(h:IsD K H v (.int i)):v=.int i:=by cases h;rfl
def IsD.blI{K:Fg_}{H:Hp}{v:V}{b:Bool}(h:IsD K H v (.bl b)):v=.bl b:=by cases h;rfl
def IsD.strI{K:Fg_}{H:Hp}{v:V}{x:Str}(h:IsD K H v (.str x)):v=.str x:=by cases h;rfl
def IsD.tupI{K:Fg_}{H:Hp}{v:V}{ds:List D}(h:IsD K H v (.tup ds)):∃ a xs,v=.ref a/\SqT K H a xs/\IsDs K H xs ds:=by
 cases h with
 | tup h hs=>exact⟨_,_,rfl,h,hs⟩
def IsD.lstI{K:Fg_}{H:Hp}{v:V}{ds:List D}(h:IsD K H v (.lst ds)):∃ a xs,v=.ref a/\SqL K H a xs/\IsDs K H xs ds:=by
 cases h with
 | lst h hs=>exact⟨_,_,rfl,h,hs⟩
def vE:Str := "ranked.<locals>.<lambda>"
def zCn(P:Jc)(H:Hp):Prop:=∃ ps,H P=some (.tbl ps)/\TriplesOk ps.toList/\∀(pos:Pos)(cv:Ja),codeAmong pos ps.toList=some cv->∃ c oc vs t u,cv=.ref c/\H c=some (.frz oc u)/\oc.data=.fields vs/\vs[1]?=some (.str vE t)
def zCn.put{P a:Jc}{H:Hp}{x:HO}(h:zCn P H)(h1:∀ ps,H a≠some (.tbl ps))(h2:∀ o u,H a≠some (.frz o u)):zCn P (upd H a x):=by
 obtain⟨ps,e,t,k⟩:=h;refine⟨ps,by rw[bE (show P≠a from fun z=>h1 ps (by rw[<-z];exact e))];exact e,t,fun pos cv q=>?_⟩
 obtain⟨c,oc,vs,tk,u,r1,r2,r3⟩:=k pos cv q;exact⟨c,oc,vs,tk,u,r1,by rw[bE (show c≠a from fun z=>h2 oc u (by rw[<-z];exact r2))];exact r2,r3⟩
structure Keep (H H':Hp):Prop where
 k:∀ b o,H b=some o->H' b=some o∨∃ ps ps',o=.tbl ps/\H' b=some (.tbl ps')
 t:∀ P,zCn P H->zCn P H'
def Keep.refl(H:Hp):Keep H H:=⟨fun _ _ e=>.inl e,fun _ e=>e⟩
def Keep.trans{H H1 H2:Hp}(a:Keep H H1)(b:Keep H1 H2):Keep H H2:=
 ⟨fun c o e=>by
  rcases a.k c o e with z | ⟨ps,ps',rfl,z⟩
  ·exact b.k c o z
  ·rcases b.k c _ z with y | ⟨qs,qs',_,y⟩
   ·exact .inr ⟨ps,ps',rfl,y⟩
   ·exact .inr ⟨ps,qs',rfl,y⟩,fun P e=>b.t P (a.t P e)⟩
def Keep.at{H H':Hp}(k:Keep H H'){b:Jc}{o:HO}(e:H b=some o)(ho:∀ ps,o≠.tbl ps:=by intro ps z;cases z):H' b=some o:=by
 rcases k.k b o e with z | ⟨ps,ps',z,_⟩
 ·exact z
 ·exact absurd z (ho ps)
def Keep.none{H H':Hp}(k:Keep H H'){p:Jc}(e:H' p=none):H p=none:=by
 cases z:H p with
 | none=>rfl
 | some o=>rcases k.k p o z with y | ⟨_,_,_,y⟩<;>(rw[y] at e;cases e)
structure Ext (Hi H Hi' H':Hp):Prop where
 i:Same Hi Hi'
 h:Keep H H'
 s:Same Hi' H'
 n:∀ b,Hi b=none->Hi' b≠none->H b=none
def Ext.refl{Hi H:Hp}(h:Same Hi H):Ext Hi H Hi H:=⟨Same.refl _,Keep.refl _,h,fun _ e q=>absurd e q⟩
def Ext.trans{Hi H Hi1 H1 Hi2 H2:Hp}(a:Ext Hi H Hi1 H1)(b:Ext Hi1 H1 Hi2 H2):Ext Hi H Hi2 H2:=
 ⟨a.i.trans b.i,a.h.trans b.h,b.s,fun c e q=>by
  cases z:Hi1 c with
  | some o=>exact a.n c e (by rw[z];exact fun w=>by cases w)
  | none=>
   have z2:=b.n c z q
   exact a.h.none z2⟩
def cT{H:Hp}{p:Jc}(h:H p=none)(o:HO):Same H (upd H p o):=fun b u q=>by rw[bE (bJ q h)];exact q
def zFz{H:Hp}{p:Jc}(h:H p=none)(o:HO):Keep H (upd H p o):=⟨fun b u q=>.inl (cT h o b u q),fun P e=>e.put (fun ps z=>by rw[h] at z;cases z) (fun ob u z=>by rw[h] at z;cases z)⟩
def _root_.L2.Same.none{H H':Hp}(h:Same H H'){p:Jc}(e:H' p=none):H p=none:=by
 cases z:H p with
 | none=>rfl
 | some o=>rw[h _ _ z] at e;cases e
def Ext.new{Hi H:Hp}{p:Jc}{o:HO}(h:Same Hi H)(hp:H p=none):Ext Hi H (upd Hi p o) (upd H p o) where
 i:=cT (h.none hp) o
 h:=zFz hp o
 s:=fun b u q=>by
  by_cases e:b=p
  ·subst e;rw[bA] at q ⊢;exact q
  ·rw[bE e] at q ⊢;exact h _ _ q
 n:=fun b e q=>by
  by_cases z:b=p
  ·rw[z];exact hp
  ·rw[bE z] at q;exact absurd e q
def Ext.newF{Hi H:Hp}{p:Jc}{o:HO}(h:Same Hi H)(hp:H p=none):Ext Hi H Hi (upd H p o) where
 i:=Same.refl _
 h:=zFz hp o
 s:=h.trans (cT hp o)
 n:=fun b e q=>absurd e q
def Ext.out{Hi H Hi' H':Hp}(e:Ext Hi H Hi' H'){a:Jc}{o:HO}(h:H a=some o)(hi:Hi a=none)(ho:∀ ps,o≠.tbl ps:=by intro ps z;cases z):H' a=some o/\Hi' a=none:=by
 refine⟨e.h.at h ho,?_⟩
 cases z:Hi' a with
 | none=>rfl
 | some u=>have:=e.n a hi (by rw[z];exact fun w=>by cases w);rw[h] at this;cases this
def Ext.hold{Hi H Hi' H':Hp}(e:Ext Hi H Hi' H'){a:Jc}{o:HO}(hn:H a=none)(h:H' a=some o)(hi:Hi' a=none):Ext Hi H (upd Hi' a o) H' where
 i:=e.i.trans (cT hi o)
 h:=e.h
 s:=fun b u q=>by
  by_cases z:b=a
  ·subst z;rw[bA] at q;cases q;exact h
  ·rw[bE z] at q;exact e.s _ _ q
 n:=fun b z q=>by
  by_cases w:b=a
  ·rw[w];exact hn
  ·rw[bE w] at q;exact e.n b z q
def zSI(a C:Jc):Jd->Prop:=fun h=>∃ o vs,h.get? a=some o/\o.cls=.ref C/\o.data=.fields vs
def kvT(T:List (Str×Str)):List (Key×V):=T.map fun q=>(Sum.inr q.1,V.str q.2)
def zGk(K:PySem.W.Frag)(mg:Str->Option Ja)(B Hi H:Hp)(o:Option (Option V)):Sl->Prop
 | .un=>True
 | .val d=>∃ v,o=some (some v)/\IsD K Hi v d
 | .own ds=>∃ a xs,o=some (some (.ref a))/\H a=some (.lst xs)/\Hi a=none/\B a=none/\IsDs K Hi xs ds
 | .exc c=>∃ a C,o=some (some (.ref a))/\H a=some (.ext (zSI a C))/\Hi a=none/\B a=none/\mg c=some (.ref C)
 | .tab T=>∃ a,o=some (some (.ref a))/\Hi a=some (.dK (kvT T))
structure Rel (K:PySem.W.Frag) (mg:Str->Option Ja) (B Bi Hi H:Hp) (σ:St) (ρ:Rho):Prop where
 len:σ.length=ρ.length
 ext:Ext Bi B Hi H
 slot:∀(i:Nat)(s:Sl),ρ[i]?=some s->zGk K mg B Hi H σ[i]? s
 dist:∀(i j:Nat)(a:Jc)(ds es:List D),ρ[i]?=some (.own ds)->ρ[j]?=some (.own es)->σ[i]?=some (some (.ref a))->σ[j]?=some (some (.ref a))->i=j
section
variable{K:Fg_}{mg:Str->Option Ja}{B Bi Hi H Hi' H':Hp}{f:St}{ρ:Rho}
def zGk.ext{o:Option (Option V)}{s:Sl}(h:zGk K mg B Hi H o s)(e:Ext Hi H Hi' H'):zGk K mg B Hi' H' o s:=by
 cases s with
 | un=>trivial
 | val d=>obtain⟨v,q,r⟩:=h;exact⟨v,q,r.mono e.i⟩
 | own ds=>
  obtain⟨a,xs,q,h1,h2,h3,h4⟩:=h;obtain⟨e1,e2⟩:=e.out h1 h2;exact⟨a,xs,q,e1,e2,h3,h4.mono e.i⟩
 | exc c=>
  obtain⟨a,C,q,h1,h2,h3,h4⟩:=h;obtain⟨e1,e2⟩:=e.out h1 h2;exact⟨a,C,q,e1,e2,h3,h4⟩
 | tab T=>obtain⟨a,q,h1⟩:=h;exact⟨a,q,e.i _ _ h1⟩
def Rel.grow(R:Rel K mg B Bi Hi H f ρ)(e:Ext Hi H Hi' H'):Rel K mg B Bi Hi' H' f ρ:=⟨R.len,R.ext.trans e,fun i s q=>(R.slot i s q).ext e,R.dist⟩
def Rel.s(R:Rel K mg B Bi Hi H f ρ):Same Hi H:=R.ext.s
def Rel.set{i:Nat}{v:V}{d:D}(R:Rel K mg B Bi Hi H f ρ)(h:IsD K Hi v d):Rel K mg B Bi Hi H (f.set i (some v)) (ρ.set i (.val d)) where
 len:=by rw[Va,Va];exact R.len
 ext:=R.ext
 slot:=fun j s q=>by
  by_cases e:i=j
  ·subst e
   by_cases hl:i<ρ.length
   ·rw[Vk hl] at q;cases q
    exact⟨v,by rw[Vk (by rw[R.len];exact hl)],h⟩
   ·rw[Qz (by rw[Va];omega)] at q;cases q
  ·rw[Vf e] at q ⊢
   exact R.slot j s q
 dist:=fun j k a ds es q1 q2 q3 q4=>by
  have h1:∀ {j:Nat} {ds:List D},(ρ.set i (.val d))[j]?=some (.own ds)->i≠j:=fun {j ds} q e=>by
   subst e;by_cases hl:i<ρ.length
   ·rw[Vk hl] at q;cases q
   ·rw[Qz (by rw[Va];omega)] at q;cases q
  have n1:=h1 q1;have n2:=h1 q2;rw[Vf n1] at q1 q3;rw[Vf n2] at q2 q4;exact R.dist j k a ds es q1 q2 q3 q4
def Rel.setOwn{i:Nat}{a:Jc}{xs:List V}{ds:List D}(R:Rel K mg B Bi Hi H f ρ)(e:Ext Hi H Hi' H')(hn:H a=none)(h:H' a=some (.lst xs))(hi:Hi' a=none)(hs:IsDs K Hi' xs ds):
  Rel K mg B Bi Hi' H' (f.set i (some (.ref a))) (ρ.set i (.own ds)) where
 len:=by rw[Va,Va];exact R.len
 ext:=R.ext.trans e
 slot:=fun j s q=>by
  by_cases z:i=j
  ·subst z
   by_cases hl:i<ρ.length
   ·rw[Vk hl] at q;cases q
    exact⟨a,xs,by rw[Vk (by rw[R.len];exact hl)],h,hi,R.ext.h.none hn,hs⟩
   ·rw[Qz (by rw[Va];omega)] at q;cases q
  ·rw[Vf z] at q ⊢
   exact(R.slot j s q).ext e
 dist:=fun j k b es fs q1 q2 q3 q4=>by
  have h1:∀ {j:Nat} {es:List D},i≠j->ρ[j]?=some (.own es)->f[j]?=some (some (.ref a))->False:=fun {j es} _ p1 p2=>by
   obtain⟨a',xs',q,h1,_⟩:=R.slot j _ p1;rw[p2] at q;cases q;rw[hn] at h1;cases h1
  have h2:∀ {j:Nat} {es:List D},(ρ.set i (.own ds))[j]?=some (.own es)->i<f.length∨i≠j:=fun {j es} p=>by
   by_cases z:i=j
   ·subst z
    by_cases hl:i<ρ.length
    ·exact .inl (by rw[R.len];exact hl)
    ·rw[Qz (by rw[Va];omega)] at p;cases p
   ·exact .inr z
  by_cases z1:i=j
  ·by_cases z2:i=k
   ·rw[<-z1,<-z2]
   ·exfalso
    subst z1;have hl:i<f.length:=(h2 q1).resolve_right (fun w=>w rfl)
    rw[Vk hl] at q3;cases q3
    rw[Vf z2] at q2 q4;exact h1 z2 q2 q4
  ·by_cases z2:i=k
   ·exfalso
    subst z2;have hl:i<f.length:=(h2 q2).resolve_right (fun w=>w rfl)
    rw[Vk hl] at q4;cases q4
    rw[Vf z1] at q1 q3;exact h1 z1 q1 q3
   ·rw[Vf z1] at q1 q3
    rw[Vf z2] at q2 q4;exact R.dist j k b es fs q1 q2 q3 q4
def Rel.write{i:Nat}{a:Jc}{ys:List V}{ds es:List D}(R:Rel K mg B Bi Hi H f ρ)(e:ρ[i]?=some (.own ds))(ea:f[i]?=some (some (.ref a)))(hs:IsDs K Hi ys es):
  Rel K mg B Bi Hi (upd H a (.lst ys)) f (ρ.set i (.own es)):=by
 obtain⟨a',xs',q,h1,h2,h3,h4⟩:=R.slot i _ e;rw[ea] at q;cases q
 have hl:i<ρ.length:=by
  by_cases hl:i<ρ.length
  ·exact hl
  ·rw[Qz (by omega)] at e;cases e
 refine⟨by rw[Va];exact R.len,⟨R.ext.i,⟨fun b o z=>?_,fun P z=>(R.ext.h.t P z).put (fun ps y=>by rw[h1] at y;cases y) (fun ob u y=>by rw[h1] at y;cases y)⟩,fun b o z=>?_,R.ext.n⟩,fun j s z=>?_,fun j k b fs gs q1 q2 q3 q4=>?_⟩
 ·rw[bE (bJ z h3)];exact R.ext.h.k _ _ z
 ·rw[bE (bJ z h2)];exact R.ext.s _ _ z
 ·by_cases w:i=j
  ·subst w
   rw[Vk hl] at z;cases z
   exact⟨a,ys,ea,bA,h2,h3,hs⟩
  ·rw[Vf w] at z
   have S:=R.slot j s z
   cases s with
   | un=>trivial
   | val d=>exact S
   | own fs=>
    obtain⟨b,zs,p,g1,g2,g3,g4⟩:=S;have hb:b≠a:=fun c=>w (R.dist i j a ds fs e z ea (by rw[p,c]))
    exact⟨b,zs,p,by rw[bE hb];exact g1,g2,g3,g4⟩
   | exc c=>
    obtain⟨b,C,p,g1,g2,g3,g4⟩:=S;have hb:b≠a:=zQR g1 h1 (by intro z;cases z)
    exact⟨b,C,p,by rw[bE hb];exact g1,g2,g3,g4⟩
   | tab T=>exact S
 ·have own:∀ {j:Nat} {fs:List D},(ρ.set i (.own es))[j]?=some (.own fs)->∃ gs,ρ[j]?=some (.own gs):=fun {j fs} p=>by
   by_cases w:i=j
   ·subst w;exact⟨ds,e⟩
   ·rw[Vf w] at p;exact⟨fs,p⟩
  obtain⟨fs',q1'⟩:=own q1;obtain⟨gs',q2'⟩:=own q2;exact R.dist j k b fs' gs' q1' q2' q3 q4
def Rel.frzAt{i:Nat}(R:Rel K mg B Bi Hi H f ρ):∃ Hi',Same Hi Hi'/\Rel K mg B Bi Hi' H f (L3.frzAt i ρ):=by
 unfold L3.frzAt;split
 ·rename_i ds e
  obtain⟨a,xs,q,h1,h2,h3,h4⟩:=R.slot i _ e
  have hl:i<ρ.length:=by
   by_cases hl:i<ρ.length
   ·exact hl
   ·rw[Qz (by omega)] at e;cases e
  have sm:Same Hi (upd Hi a (.lst xs)):=cT h2 _
  have ss:Same (upd Hi a (.lst xs)) H:=fun b u z=>by
   by_cases w:b=a
   ·subst w;rw[bA] at z;cases z;exact h1
   ·rw[bE w] at z;exact R.s _ _ z
  refine⟨upd Hi a (.lst xs),sm,by rw[Va];exact R.len,⟨R.ext.i.trans sm,R.ext.h,ss,fun b z w=>?_⟩,fun j s z=>?_,fun j k b fs gs q1 q2 q3 q4=>?_⟩
  ·by_cases c:b=a
   ·rw[c];exact h3
   ·rw[bE c] at w;exact R.ext.n b z w
  ·by_cases w:i=j
   ·subst w
    rw[Vk hl] at z;cases z
    exact⟨.ref a,q,.lst (SqL.of bA) (h4.mono sm)⟩
   ·rw[Vf w] at z
    have S:=R.slot j s z
    cases s with
    | un=>trivial
    | val d=>obtain⟨v,p,r⟩:=S;exact⟨v,p,r.mono sm⟩
    | own fs=>
     obtain⟨b,zs,p,g1,g2,g3,g4⟩:=S;have hb:b≠a:=fun c=>w (R.dist i j a ds fs e z q (by rw[p,c]))
     exact⟨b,zs,p,g1,by rw[bE hb];exact g2,g3,g4.mono sm⟩
    | exc c=>
     obtain⟨b,C,p,g1,g2,g3,g4⟩:=S;have hb:b≠a:=zQR g1 h1 (by intro z;cases z)
     exact⟨b,C,p,g1,by rw[bE hb];exact g2,g3,g4⟩
    | tab T=>obtain⟨b,p,g1⟩:=S;exact⟨b,p,sm _ _ g1⟩
  ·have own:∀ {j:Nat} {fs:List D},(ρ.set i (.val (.lst ds)))[j]?=some (.own fs)->ρ[j]?=some (.own fs):=fun {j fs} p=>by
    by_cases w:i=j
    ·subst w;rw[Vk hl] at p;cases p
    ·rw[Vf w] at p;exact p
   exact R.dist j k b fs gs (own q1) (own q2) q3 q4
 ·exact⟨Hi,Same.refl _,R⟩
end
end L3
namespace L3
open PySem PySem.Spec PyProof.Rows L2
section
variable{K:Fg_}{mg:Str->Option Ja}{B Bi Hi H Hi' H':Hp}{f:St}{ρ:Rho}
def Rel.frz(R:Rel K mg B Bi Hi H f ρ):∃ Hf,Same Hi Hf/\Rel K mg B Bi Hf H f (ρ.map Sl.frz)/\∀ b,Hi b=none->Hf b≠none->∃ xs,Hf b=some (.lst xs):=by
 let own:Jc->Prop:=fun b=>∃(i:Nat)(ds:List D),ρ[i]?=some (.own ds)/\f[i]?=some (some (.ref b))
 have dec:∀ b,Decidable (own b):=fun b=>Classical.propDecidable _
 let Hf:Hp:=fun b=>match Hi b with
  | some o=>some o
  | none=>if own b then H b else none
 have hf1:∀ b o,Hi b=some o->Hf b=some o:=fun b o e=>by show(match Hi b with | some o=>some o | none=>if own b then H b else none)=_;rw[e]
 have hf2:∀ b,Hi b=none->own b->Hf b=H b:=fun b e z=>by show(match Hi b with | some o=>some o | none=>if own b then H b else none)=_;rw[e];exact Jj z
 have hf3:∀ b,Hi b=none->¬ own b->Hf b=none:=fun b e z=>by show(match Hi b with | some o=>some o | none=>if own b then H b else none)=_;rw[e];exact Jk z
 have lst:∀ b,own b->∃ xs,H b=some (.lst xs)/\Hi b=none/\B b=none:=fun b ⟨i,ds,e1,e2⟩=>by
  obtain⟨a,xs,q,h1,h2,h3,h4⟩:=R.slot i _ e1;rw[e2] at q;cases q
  exact⟨xs,h1,h2,h3⟩
 have ss:Same Hf H:=fun b o z=>by
  cases q:Hi b with
  | some u=>rw[hf1 b u q] at z;cases z;exact R.s _ _ q
  | none=>
   by_cases w:own b
   ·rw[hf2 b q w] at z;exact z
   ·rw[hf3 b q w] at z;cases z
 refine⟨Hf,hf1,⟨by rw[Qi];exact R.len,⟨R.ext.i.trans hf1,R.ext.h,ss,fun b z w=>?_⟩,fun j s z=>?_,fun j k b fs gs q1 q2 q3 q4=>?_⟩,fun b z w=>?_⟩
 ·cases q:Hi b with
  | some u=>exact R.ext.n b z (by rw[q];exact fun c=>by cases c)
  | none=>
   by_cases c:own b
   ·exact(lst b c).choose_spec.2.2
   ·exact absurd (hf3 b q c) w
 ·rw[Qq] at z
  cases e:ρ[j]? with
  | none=>rw[e] at z;cases z
  | some t=>
   rw[e] at z;cases z;have S:=R.slot j t e
   cases t with
   | un=>trivial
   | val d=>obtain⟨v,p,r⟩:=S;exact⟨v,p,r.mono hf1⟩
   | own ds=>
    obtain⟨a,xs,q,h1,h2,h3,h4⟩:=S;exact⟨.ref a,q,.lst (SqL.of (by rw[hf2 a h2 ⟨j,ds,e,q⟩];exact h1)) (h4.mono hf1)⟩
   | exc c=>
    obtain⟨a,C,q,h1,h2,h3,h4⟩:=S;refine⟨a,C,q,h1,?_,h3,h4⟩
    refine hf3 a h2 fun c=>?_
    obtain⟨xs,g,_⟩:=lst a c;rw[h1] at g;cases g
   | tab T=>obtain⟨a,q,h1⟩:=S;exact⟨a,q,hf1 _ _ h1⟩
 ·exfalso
  rw[Qq] at q1
  cases e:ρ[j]? with
  | none=>rw[e] at q1;cases q1
  | some t=>rw[e] at q1;cases t<;>cases q1
 ·by_cases c:own b
  ·obtain⟨xs,g,_⟩:=lst b c
   exact⟨xs,by rw[hf2 b z c];exact g⟩
  ·exact absurd (hf3 b z c) w
def Ext.thaw{Hf:Hp}(s:Same Hi Hf)(fl:∀ b,Hi b=none->Hf b≠none->∃ xs,Hf b=some (.lst xs))(hs:Same Hf H)(e:Ext Hf H Hi' H'):
  ∃ Ht,Ext Hi H Ht H'/\(∀ b xs,Rd Hi' b (.tup xs)->Rd Ht b (.tup xs))/\Same Ht Hi'/\∀ b,Ht b=none->Hi' b=none∨∃ xs,H b=some (.lst xs):=by
 have dec:∀ b,Decidable (Hi b=none/\Hf b≠none):=fun b=>Classical.propDecidable _
 let Ht:Hp:=fun b=>if Hi b=none/\Hf b≠none then none else Hi' b
 have t1:∀ b,¬ (Hi b=none/\Hf b≠none)->Ht b=Hi' b:=fun b z=>Jk z
 have t2:∀ b,(Hi b=none/\Hf b≠none)->Ht b=none:=fun b z=>Jj z
 have tt:Same Ht Hi':=fun b o z=>by
  by_cases w:Hi b=none/\Hf b≠none
  ·rw[t2 b w] at z;cases z
  ·rw[t1 b w] at z;exact z
 refine⟨Ht,⟨fun b o z=>?_,e.h,tt.trans e.s,fun b z w=>?_⟩,fun b xs r=>?_,tt,fun b z=>?_⟩
 ·rw[t1 b (fun w=>by rw[z] at w;cases w.1)];exact e.i _ _ (s _ _ z)
 ·by_cases c:Hi b=none/\Hf b≠none
  ·exact absurd (t2 b c) w
  ·rw[t1 b c] at w
   have:Hf b=none:=by
    cases q:Hf b with
    | none=>rfl
    | some u=>exact absurd ⟨z,by rw[q];exact fun c=>by cases c⟩ c
   exact e.n b this w
 ·have nl:¬ (Hi b=none/\Hf b≠none):=fun w=>by
   obtain⟨ys,g⟩:=fl b w.1 w.2;have g':=e.i _ _ g;rcases r with r | ⟨o,r⟩<;>(rw[g'] at r;cases r)
  rcases r with r | ⟨o,r⟩
  ·exact .inl (by rw[t1 b nl];exact r)
  ·exact .inr ⟨o,by rw[t1 b nl];exact r⟩
 ·by_cases c:Hi b=none/\Hf b≠none
  ·obtain⟨ys,g⟩:=fl b c.1 c.2
   exact .inr ⟨ys,hs _ _ g⟩
  ·exact .inl (by rw[t1 b c] at z;exact z)
end
structure Gx where
 B:Hp
 Bi:Hp
 E:Str->Hp->Prop
abbrev nG(X:Cx)(G:Gx)(Hi H:Hp)(r:St)(ρ:Rho):Prop:=Rel X.K X.mg G.B G.Bi Hi H r ρ
def Out(G:Gx)(Hi H:Hp){s:Type}(r:Res s)(k:s->Hp->Hp->Prop):Prop:=match r with
 | .ok a=>∀ Hi' H',Ext Hi H Hi' H'->k a Hi' H'
 | .err c=>∀ Hi' H',Ext Hi H Hi' H'->G.E c H'
 | .no=>False
def Out.bind{G:Gx}{Hi H:Hp}{s p:Type}{r:Res s}{f:s->Res p}{k:p->Hp->Hp->Prop}(h:Out G Hi H (r.bind f) k):
  Out G Hi H r fun a Hi' H'=>Out G Hi' H' (f a) k:=by
 cases r with
 | no=>exact h
 | err c=>exact h
 | ok a=>
  intro Hi1 H1 e;have h':Out G Hi H (f a) k:=h;show Out G Hi1 H1 (f a) k
  cases q:f a with
  | no=>rw[q] at h';exact h'
  | err c=>rw[q] at h';exact fun Hi2 H2 e2=>h' _ _ (e.trans e2)
  | ok b=>rw[q] at h';exact fun Hi2 H2 e2=>h' _ _ (e.trans e2)
def Out.imp{G:Gx}{Hi H:Hp}{s:Type}{r:Res s}{k k':s->Hp->Hp->Prop}(h:Out G Hi H r k)(f:∀ a Hi' H',Ext Hi H Hi' H'->k a Hi' H'->k' a Hi' H'):Out G Hi H r k':=by
 cases r with
 | no=>exact h
 | err c=>exact h
 | ok a=>exact fun Hi1 H1 e=>f a Hi1 H1 e (h Hi1 H1 e)
def Out.here{G:Gx}{Hi H:Hp}{r:Type}{a:r}{k:r->Hp->Hp->Prop}(h:Out G Hi H (.ok a) k)(s:Same Hi H):k a Hi H:=h Hi H (Ext.refl s)
def tD(X:Cx)(G:Gx)(f:Ev):TE:=fun r H Q=>∃ ρ Hi,nG X G Hi H r ρ/\Out G Hi H (f ρ) fun d Hi' H'=>∀ v,IsD X.K Hi' v d->Q v H'
def zKL(K:PySem.W.Frag)(H Hi' H':Hp)(a:Jc)(ds:List D):Prop:=H a=none/\Hi' a=none/\∃ xs,H' a=some (.lst xs)/\IsDs K Hi' xs ds
def tF(X:Cx)(G:Gx)(f:Fv):TE:=fun r H Q=>∃ ρ Hi,nG X G Hi H r ρ/\Out G Hi H (f ρ) fun ds Hi' H'=>∀ a,zKL X.K H Hi' H' a ds->Q (.ref a) H'
def tTb(X:Cx)(G:Gx)(f:Tv):TT:=fun r H Q=>∃ ρ Hi,nG X G Hi H r ρ/\Out G Hi H (f ρ) fun b _ H'=>Q b H'
def tAs(X:Cx)(G:Gx)(f:Fv):TA:=fun r H Q=>∃ ρ Hi,nG X G Hi H r ρ/\Out G Hi H (f ρ) fun ds Hi' H'=>∀ vs,IsDs X.K Hi' vs ds->Q vs H'
def Fin(X:Cx)(G:Gx)(Hi:Hp)(E:Ends)(r:Res Fl):Prop:=match r with
 | .ok (.nx r')=>∀ s' Hi' H',Same Hi Hi'->nG X G Hi' H' s' r'->E.nx s' H'
 | .ok (.brk r')=>∀ s' Hi' H',Same Hi Hi'->nG X G Hi' H' s' r'->E.bk s' H'
 | .ok (.ctn r')=>∀ s' Hi' H',Same Hi Hi'->nG X G Hi' H' s' r'->E.ct s' H'
 | .ok (.ret (.v d))=>∀ v Hi' H',Ext G.Bi G.B Hi' H'->IsD X.K Hi' v d->E.rt v H'
 | .ok (.ret (.f ds))=>∀ a Hi' H',Ext G.Bi G.B Hi' H'->zKL X.K G.B Hi' H' a ds->E.rt (.ref a) H'
 | .err c=>∀ Hi' H',Ext G.Bi G.B Hi' H'->G.E c H'
 | .no=>False
def Fin.mono{X:Cx}{G:Gx}{Hi Hi':Hp}{E:Ends}{r:Res Fl}(h:Fin X G Hi E r)(s:Same Hi Hi'):Fin X G Hi' E r:=by
 cases r with
 | no=>exact h
 | err c=>exact h
 | ok f=>
  cases f with
  | nx ρ=>exact fun r' Hi2 H2 s2=>h r' Hi2 H2 (s.trans s2)
  | brk ρ=>exact fun r' Hi2 H2 s2=>h r' Hi2 H2 (s.trans s2)
  | ctn ρ=>exact fun r' Hi2 H2 s2=>h r' Hi2 H2 (s.trans s2)
  | ret r=>cases r<;>exact h
def tS(X:Cx)(G:Gx)(f:Sv):TS:=fun E r H=>∃ ρ Hi,nG X G Hi H r ρ/\Fin X G Hi E (f ρ)
@[irreducible] def PEd (X:Cx) (G:Gx) (e:Expr) (f:Ev):Prop:=PE X e (tD X G f)
unseal PEd
@[irreducible] def PEf (X:Cx) (G:Gx) (e:Expr) (f:Fv):Prop:=PE X e (tF X G f)
unseal PEf
@[irreducible] def PTd (X:Cx) (G:Gx) (e:Expr) (f:Tv):Prop:=PT X e (tTb X G f)
unseal PTd
@[irreducible] def PWd (X:Cx) (G:Gx) (e:Expr) (f:Tv):Prop:=PW X e (tTb X G f)
unseal PWd
@[irreducible] def PAd (X:Cx) (G:Gx) (es:List Expr) (f:Fv):Prop:=PA X es (tAs X G f)
unseal PAd
@[irreducible] def PSd (X:Cx) (G:Gx) (s:Jh) (f:Sv):Prop:=PS X s (tS X G f)
unseal PSd
@[irreducible] def eQ (X:Cx) (G:Gx) (s:List Jh) (f:Sv):Prop:=PSs X s (tS X G f)
unseal eQ
def PE.wk{X:Cx}{e:Expr}{t t':TE}(h:PE X e t)(w:∀ r H Q,t' r H Q->t r H Q):PE X e t':=fun Md s r H Q I q=>h Md s r H Q I (w r H Q q)
def PT.wk{X:Cx}{e:Expr}{t t':TT}(h:PT X e t)(w:∀ r H Q,t' r H Q->t r H Q):PT X e t':=fun Md s r H Q I q=>h Md s r H Q I (w r H Q q)
def PW.wk{X:Cx}{e:Expr}{t t':TT}(h:PW X e t)(w:∀ r H Q,t' r H Q->t r H Q):PW X e t':=fun wh Md s r H Q I q=>h wh Md s r H Q I (w r H Q q)
def PA.wk{X:Cx}{es:List Expr}{t t':TA}(h:PA X es t)(w:∀ r H Q,t' r H Q->t r H Q):PA X es t':=fun pos Md s r H Q I q=>h pos Md s r H Q I (w r H Q q)
def PS.wk{X:Cx}{s:Jh}{t t':TS}(h:PS X s t)(w:∀ E r H,t' E r H->t E r H):PS X s t':=fun Md s r H E I q=>h Md s r H E I (w E r H q)
def PSs.wk{X:Cx}{s:List Jh}{t t':TS}(h:PSs X s t)(w:∀ E r H,t' E r H->t E r H):PSs X s t':=fun Md s r H E I q=>h Md s r H E I (w E r H q)
section
variable{X:Cx}{G:Gx}{a b e:Expr}{es:List Expr}{pos:Pos}{f g:Ev}
def zQM(i:Nat)(h:PE X e (zHc i)):PEd X G e (aE i):=PE.wk h fun j H Q q=>by
 obtain⟨ρ,Hi,R,o⟩:=q;unfold aE at o
 cases z:ρ[i]? with
 | none=>rw[z] at o;exact o.elim
 | some s=>
  rw[z] at o
  cases s with
  | val d=>
   obtain⟨v,p,r⟩:=R.slot i _ z;exact⟨v,p,o.here R.s v r⟩
  | un=>exact o.elim
  | own ds=>exact o.elim
  | exc c=>exact o.elim
  | tab T=>exact o.elim
def iE{v:V}{d:D}(h:PE X e (tC v))(r:∀ H,IsD X.K H v d):PEd X G e (eC d):=PE.wk h fun j H Q q=>by
 obtain⟨ρ,Hi,R,o⟩:=q;exact o.here R.s v (r Hi)
def vX{Hi H:Hp}{j:St}{ρ:Rho}{l:Type}{k:D->Res l}{k':l->Hp->Hp->Prop}{Q:VK}(R:nG X G Hi H j ρ)(o:Out G Hi H ((f ρ).bind k) k')
  (w:∀ v d Hi' H',Ext Hi H Hi' H'->nG X G Hi' H' j ρ->IsD X.K Hi' v d->Out G Hi' H' (k d) k'->Q v H'):tD X G f j H Q:=
 ⟨ρ,Hi,R,o.bind.imp fun d Hi' H' e q v r=>w v d Hi' H' e (R.grow e) r q⟩
def OpK(X:Cx)(r:R2)(o:Op2):Prop:=(∀ a b c,o a b≠.err c)/\∀(Hi H:Hp)(x y:V)(a b d:D)(Q:VK),Same Hi H->IsD X.K Hi x a->IsD X.K Hi y b->o a b=.ok d->
 (∀ v Hi' H',Ext Hi H Hi' H'->IsD X.K Hi' v d->Q v H')->r x y H Q
def op2{r:R2}{o:Op2}(k:OpK X r o):∀ j H Q,tD X G (eOp o f g) j H Q->tOp r (tD X G f) (tD X G g) j H Q:=fun j H Q q=>by
 obtain⟨ρ,Hi,R,ou⟩:=q;refine vX R ou fun v d Hi1 H1 e1 R1 r1 o1=>?_
 refine vX R1 o1 fun w d' Hi2 H2 e2 R2 r2 o2=>?_
 cases z:o d d' with
 | no=>rw[z] at o2;exact o2.elim
 | err c=>exact absurd z (k.1 d d' c)
 | ok u=>
  rw[z] at o2;exact k.2 Hi2 H2 v w d d' u Q R2.s (r1.mono e2.i) r2 z fun x Hi3 H3 e3 r3=>o2 Hi3 H3 e3 x r3
def aM{op:Operator}{r:R2}{o:Op2}(ho:OpR X (binaryOp op) r)(k:OpK X r o)(ha:PEd X G a f)(hb:PEd X G b g):PEd X G (.BinOp a op b pos) (eOp o f g):=PE.wk (zIT ho ha hb) (op2 k)
def lC{op:CmpOp}{r:R2}{o:Op2}(ho:OpR X (compareOp op) r)(k:OpK X r o)(ha:PEd X G a f)(hb:PEd X G b g)(hm:behindInMarks op b=false):PEd X G (.Compare a [op] [b] pos) (eOp o f g):=PE.wk (zND ho ha hb hm) (op2 k)
def rH{r:R2}{o:Op2}(ho:IxR X r)(k:OpK X r o)(ha:PEd X G a f)(hb:PEd X G b g)(hs:zEB b):PEd X G (.Subscript a b pos) (eOp o f g):=PE.wk (zGX ho ha hb hs) (op2 k)
def tst{op:CmpOp}{r:R2}{o:Op2}(ho:OpR X (compareOp op) r)(k:OpK X r o)(ha:PEd X G a f)(hb:PEd X G b g)(hm:behindInMarks op b=false):PTd X G (.Compare a [op] [b] pos) (cX (eOp o f g)):=
 PT.wk (wL ho ha hb hm) fun j H Q q=>by
  obtain⟨ρ,Hi,R,ou⟩:=q;refine op2 k j H _ ⟨ρ,Hi,R,ou.bind.imp fun d Hi' H' e o v r=>?_⟩
  cases d with
  | bl c=>rw[r.blI];exact⟨c,rfl,o.here e.s⟩
  | _=>exact o.elim
def zEJ(h:PEd X G a f)(he:∀ whole,isTrue a X.env whole=(do let v <-whole;standAt a.pos;holding [v] (truthy v)):=by intro _;rfl):PTd X G a (cX f):=PT.wk (zQP h he) fun j H Q q=>by
 obtain⟨ρ,Hi,R,ou⟩:=q;refine⟨ρ,Hi,R,ou.bind.imp fun d Hi' H' e o v r=>?_⟩
 cases d with
 | bl c=>rw[r.blI];exact⟨c,rfl,o.here e.s⟩
 | _=>exact o.elim
variable{t u:Tv}
def zRI{Hi H:Hp}{j:St}{ρ:Rho}{l:Type}{k:Bool->Res l}{k':l->Hp->Hp->Prop}{Q:Bool->Hp->Prop}(R:nG X G Hi H j ρ)(o:Out G Hi H ((t ρ).bind k) k')
  (w:∀ c Hi' H',Ext Hi H Hi' H'->nG X G Hi' H' j ρ->Out G Hi' H' (k c) k'->Q c H'):tTb X G t j H Q:=
 ⟨ρ,Hi,R,o.bind.imp fun d Hi' H' e q=>w d Hi' H' e (R.grow e) q⟩
def zQY(h:PTd X G a t):PTd X G (.UnaryOp .Not a pos) (zDM t):=PT.wk (zPX h) fun j H Q q=>by
 obtain⟨ρ,Hi,R,ou⟩:=q;exact zRI R ou fun c Hi1 H1 e1 R1 o1=>o1.here R1.s
def zMm(h:PTd X G a t):PWd X G (.BoolOp .And [a] pos) t:=zOd h
def vG(h:PTd X G a t):PWd X G (.BoolOp .Or [a] pos) t:=zPy h
def zPV{rest:List Expr}(ha:PTd X G a t)(hb:PWd X G (.BoolOp .And (b::rest) pos) u):PWd X G (.BoolOp .And (a::b::rest) pos) (zJr t u):=PW.wk (zPB ha hb) fun j H Q q=>by
 obtain⟨ρ,Hi,R,ou⟩:=q;refine zRI R ou fun c Hi1 H1 e1 R1 o1=>?_
 cases c with
 | true=>exact⟨ρ,Hi1,R1,o1⟩
 | false=>exact o1.here R1.s
def zES{rest:List Expr}(ha:PTd X G a t)(hb:PWd X G (.BoolOp .Or (b::rest) pos) u):PWd X G (.BoolOp .Or (a::b::rest) pos) (zAz t u):=PW.wk (zSm ha hb) fun j H Q q=>by
 obtain⟨ρ,Hi,R,ou⟩:=q;refine zRI R ou fun c Hi1 H1 e1 R1 o1=>?_
 cases c with
 | true=>exact o1.here R1.s
 | false=>exact⟨ρ,Hi1,R1,o1⟩
def PWd.pt{e:Expr}(h:PWd X G e t):PTd X G e t:=PW.pt h
def zAo{op}(h:PEd X G a f):PEd X G (.BoolOp op [a] pos) f:=zPp h
def zQf{rest:List Expr}(ha:PEd X G a f)(hb:PEd X G (.BoolOp .And (b::rest) pos) g):PEd X G (.BoolOp .And (a::b::rest) pos) (zRO f g):=PE.wk (zQj ha hb) fun j H Q q=>by
 obtain⟨ρ,Hi,R,ou⟩:=q;refine vX R ou fun v d Hi1 H1 e1 R1 r1 o1=>?_
 cases d with
 | bl c=>
  refine⟨c,r1.blI,?_⟩
  cases c with
  | true=>exact⟨ρ,Hi1,R1,o1⟩
  | false=>exact o1.here R1.s _ (.bl false)
 | _=>exact o1.elim
def zHG{rest:List Expr}(ha:PEd X G a f)(hb:PEd X G (.BoolOp .Or (b::rest) pos) g):PEd X G (.BoolOp .Or (a::b::rest) pos) (eOr f g):=PE.wk (zRX ha hb) fun j H Q q=>by
 obtain⟨ρ,Hi,R,ou⟩:=q;refine vX R ou fun v d Hi1 H1 e1 R1 r1 o1=>?_
 cases d with
 | bl c=>
  refine⟨c,r1.blI,?_⟩
  cases c with
  | true=>exact o1.here R1.s _ (.bl true)
  | false=>exact⟨ρ,Hi1,R1,o1⟩
 | _=>exact o1.elim
def zMy(ha:PEd X G a f):PEd X G (.UnaryOp .Not a pos) (eUn zLn f):=PE.wk (zPS ha) fun j H Q q=>by
 obtain⟨ρ,Hi,R,ou⟩:=q;refine vX R ou fun v d Hi1 H1 e1 R1 r1 o1=>?_
 cases d with
 | bl c=>exact⟨c,r1.blI,o1.here R1.s _ (.bl _)⟩
 | _=>exact o1.elim
def zIn(ha:PEd X G a f):PEd X G (.UnaryOp .USub a pos) (eUn zRp f):=PE.wk (zSO zPi ha) fun j H Q q=>by
 obtain⟨ρ,Hi,R,ou⟩:=q;refine vX R ou fun v d Hi1 H1 e1 R1 r1 o1=>?_
 cases d with
 | int c=>exact⟨c,r1.intI,o1.here R1.s _ (.int _)⟩
 | _=>exact o1.elim
def zNb{c:Expr}(hc:PTd X G c t)(ha:PEd X G a f)(hb:PEd X G b g):PEd X G (.IfExp c a b pos) (eIf t f g):=PE.wk (zLZ hc ha hb) fun j H Q q=>by
 obtain⟨ρ,Hi,R,ou⟩:=q;refine zRI R ou fun c Hi1 H1 e1 R1 o1=>?_
 cases c with
 | true=>exact⟨ρ,Hi1,R1,o1⟩
 | false=>exact⟨ρ,Hi1,R1,o1⟩
variable{fs:Fv}
def aI:PAd X G [] aNil:=PA.wk rK fun j H Q q=>by
 obtain⟨ρ,Hi,R,ou⟩:=q;exact ou.here R.s [] .nil
def aA(ha:PEd X G e f)(hr:PAd X G es fs)(hs:starEach (e::es) X.env=(false,eval e X.env)::starEach es X.env:=by rfl):PAd X G (e::es) (aB f fs):=PA.wk (lX ha hr hs) fun j H Q q=>by
 obtain⟨ρ,Hi,R,ou⟩:=q;refine vX R ou fun v d Hi1 H1 e1 R1 r1 o1=>?_
 refine⟨ρ,Hi1,R1,o1.bind.imp fun ds Hi2 H2 e2 o2 vs rs=>?_⟩
 exact o2.here e2.s _ (.cons (r1.mono e2.i) rs)
def zKt{Hi H:Hp}{j:St}{ρ:Rho}{l:Type}{k:List D->Res l}{k':l->Hp->Hp->Prop}{Q:List V->Hp->Prop}(R:nG X G Hi H j ρ)(o:Out G Hi H ((fs ρ).bind k) k')
  (w:∀ vs ds Hi' H',Ext Hi H Hi' H'->nG X G Hi' H' j ρ->IsDs X.K Hi' vs ds->Out G Hi' H' (k ds) k'->Q vs H'):tAs X G fs j H Q:=
 ⟨ρ,Hi,R,o.bind.imp fun d Hi' H' e q v r=>w v d Hi' H' e (R.grow e) r q⟩
def cA{x1}(h:PAd X G es fs):PEd X G (.Tuple es x1 pos) (jU fs):=PE.wk (zPE h) fun j H Q q=>by
 obtain⟨ρ,Hi,R,ou⟩:=q;refine zKt R ou fun vs ds Hi1 H1 e1 R1 r1 o1=>?_
 by_cases hz:ds.length<=16777216
 ·rw[Jj hz] at o1
  refine⟨by rw[r1.length];exact hz,fun p hp=>?_⟩
  exact o1 _ _ (Ext.new R1.s hp) (.ref p) (.tup (SqT.of bA) (r1.mono (cT (R1.s.none hp) _)))
 ·rw[Jk hz] at o1;exact o1.elim
def cP(h:PAd X G es fs):PEf X G (.List es pos) (mH fs):=PE.wk (zQr h) fun j H Q q=>by
 obtain⟨ρ,Hi,R,ou⟩:=q;refine zKt R ou fun vs ds Hi1 H1 e1 R1 r1 o1=>?_
 by_cases hz:ds.length<=16777216
 ·rw[Jj hz] at o1
  refine⟨by rw[r1.length];exact hz,fun p hp=>?_⟩
  exact o1 _ _ (Ext.newF R1.s hp) p ⟨e1.h.none hp,R1.s.none hp,vs,bA,r1⟩
 ·rw[Jk hz] at o1;exact o1.elim
def PEf.d(h:PEf X G e fs):PEd X G e (eF fs):=PE.wk h fun j H Q q=>by
 obtain⟨ρ,Hi,R,ou⟩:=q;refine⟨ρ,Hi,R,?_⟩
 cases z:fs ρ with
 | no=>unfold eF at ou;rw[z] at ou;exact ou
 | err c=>unfold eF at ou;rw[z] at ou;exact ou
 | ok ds=>
  unfold eF at ou;rw[z] at ou
  intro Hi1 H1 e1 a n;obtain⟨n1,n2,xs,n3,n4⟩:=n;have ou':∀ Hi' H',Ext Hi H Hi' H'->∀ v,IsD X.K Hi' v (.lst ds)->Q v H':=ou;exact ou' _ _ (e1.hold n1 n3 n2) (.ref a) (.lst (SqL.of bA) (n4.mono (cT n2 _)))
def PEd.frz(h:PEd X G e f):PEd X G e (zGs f):=PE.wk h fun j H Q q=>by
 obtain⟨ρ,Hi,R,ou⟩:=q;obtain⟨Hf,s1,R1,fl⟩:=R.frz;refine⟨ρ.map Sl.frz,Hf,R1,?_⟩
 unfold zGs at ou
 cases z:f (ρ.map Sl.frz) with
 | no=>rw[z] at ou;exact ou
 | err c=>
  rw[z] at ou;intro Hi1 H1 e1;have ou':∀ Hi' H',Ext Hi H Hi' H'->G.E c H':=ou;obtain⟨Ht,e2,k,s2,n⟩:=Ext.thaw s1 fl R1.s e1;exact ou' Ht H1 e2
 | ok d=>
  rw[z] at ou;by_cases hz:noL d=true
  ·have ou':Out G Hi H (if noL d=true then Res.ok d else .no) _:=ou
   rw[Jj hz] at ou';intro Hi1 H1 e1 v r;obtain⟨Ht,e2,k,s2,n⟩:=Ext.thaw s1 fl R1.s e1;exact ou' Ht H1 e2 v (r.noL k hz)
  ·have ou':Out G Hi H (if noL d=true then Res.ok d else .no) _:=ou
   rw[Jk hz] at ou';exact ou'.elim
end
end L3
namespace L3
open PySem PySem.Spec PyProof.Rows L2
unseal PEd PEf PTd PWd PAd PSd eQ
local macro_rules | `(⋯)=>`(by omega)
section
variable{X:Cx}{G:Gx}{a b e:Expr}{es:List Expr}{pos:Pos}{f g:Ev}{fs:Fv}{t u:Tv}
def PEf.frz(h:PEf X G e fs):PEf X G e (zRF fs):=PE.wk h fun m H Q q=>by
 obtain⟨ρ,Hi,R,ou⟩:=q;obtain⟨Hf,s1,R1,fl⟩:=R.frz;refine⟨ρ.map Sl.frz,Hf,R1,?_⟩
 unfold zRF at ou
 cases z:fs (ρ.map Sl.frz) with
 | no=>rw[z] at ou;exact ou
 | err c=>
  rw[z] at ou;intro Hi1 H1 e1;have ou':∀ Hi' H',Ext Hi H Hi' H'->G.E c H':=ou;obtain⟨Ht,e2,k,s2,n⟩:=Ext.thaw s1 fl R1.s e1;exact ou' Ht H1 e2
 | ok ds=>
  rw[z] at ou;have ou':Out G Hi H (if noLs ds=true then Res.ok ds else .no) _:=ou;by_cases hz:noLs ds=true
  ·rw[Jj hz] at ou'
   intro Hi1 H1 e1 a n;obtain⟨n1,n2,xs,n3,n4⟩:=n;obtain⟨Ht,e2,k,s2,_⟩:=Ext.thaw s1 fl R1.s e1;exact ou' Ht H1 e2 a ⟨n1,s2.none n2,xs,n3,n4.noL k hz⟩
  ·rw[Jk hz] at ou';exact ou'.elim
def OpR.or{o:Ja->Ja->Sem Ja}{r r':R2}(h:OpR X o r)(h':OpR X o r'):OpR X o (fun x y H Q=>r x y H Q∨r' x y H Q):=by
 intro Md s m H x y v u Q I rx ry q;rcases q with q | q
 ·exact h Md s m H x y v u Q I rx ry q
 ·exact h' Md s m H x y v u Q I rx ry q
def zRt{o:Op2}{h:Int->Int->Int}(hi:∀ i j,o (.int i) (.int j)=.ok (.int (h i j)))(hn:∀ a b d,o a b=.ok d->∃ i j,a=.int i/\b=.int j)(he:∀ a b c,o a b≠.err c):OpK X (rI0 fun i j=>.int (h i j)) o:=
 ⟨he,fun Hi H x y a b d Q s r1 r2 z q=>by
  obtain⟨i,j,rfl,rfl⟩:=hn a b d z;rw[hi] at z;cases z
  exact⟨i,j,r1.intI,r2.intI,q _ Hi H (Ext.refl s) (.int _)⟩⟩
def zFH{o:Op2}{h:Int->Int->Bool}(hi:∀ i j,o (.int i) (.int j)=.ok (.bl (h i j)))(hn:∀ a b d,o a b=.ok d->∃ i j,a=.int i/\b=.int j)(he:∀ a b c,o a b≠.err c):OpK X (rI0 fun i j=>.bl (h i j)) o:=
 ⟨he,fun Hi H x y a b d Q s r1 r2 z q=>by
  obtain⟨i,j,rfl,rfl⟩:=hn a b d z;rw[hi] at z;cases z
  exact⟨i,j,r1.intI,r2.intI,q _ Hi H (Ext.refl s) (.bl _)⟩⟩
def vT:OpK X (rI0 fun i j=>.int (i-j)) vU:=zRt (fun _ _=>rfl) (fun a b d z=>by unfold vU at z;split at z<;>first | exact⟨_,_,rfl,rfl⟩ | cases z) (fun a b c z=>by unfold vU at z;split at z<;>cases z)
def zAR:OpK X (rI0 fun i j=>.bl (decide (i<j))) oLt:=zFH (fun _ _=>rfl) (fun a b d z=>by unfold oLt at z;split at z<;>first | exact⟨_,_,rfl,rfl⟩ | cases z) (fun a b c z=>by unfold oLt at z;split at z<;>cases z)
def zPh:OpK X (rI0 fun i j=>.bl (decide (i<=j))) oLe:=zFH (fun _ _=>rfl) (fun a b d z=>by unfold oLe at z;split at z<;>first | exact⟨_,_,rfl,rfl⟩ | cases z) (fun a b c z=>by unfold oLe at z;split at z<;>cases z)
def zKw:OpK X (rI0 fun i j=>.bl (decide (j<i))) oGt:=zFH (fun _ _=>rfl) (fun a b d z=>by unfold oGt at z;split at z<;>first | exact⟨_,_,rfl,rfl⟩ | cases z) (fun a b c z=>by unfold oGt at z;split at z<;>cases z)
def zRQ:OpK X (rI0 fun i j=>.bl (decide (j<=i))) oGe:=zFH (fun _ _=>rfl) (fun a b d z=>by unfold oGe at z;split at z<;>first | exact⟨_,_,rfl,rfl⟩ | cases z) (fun a b c z=>by unfold oGe at z;split at z<;>cases z)
def zLg{o:Op2}{C:Int->Int->Prop}{h:Int->Int->Int}(hn:∀ a b d,o a b=.ok d->∃ i j,a=.int i/\b=.int j/\C i j/\d=.int (h i j))(he:∀ a b c,o a b≠.err c):OpK X (rI C fun i j=>.int (h i j)) o:=
 ⟨he,fun Hi H x y a b d Q s r1 r2 z q=>by
  obtain⟨i,j,rfl,rfl,hc,rfl⟩:=hn a b d z
  exact⟨i,j,r1.intI,r2.intI,hc,q _ Hi H (Ext.refl s) (.int _)⟩⟩
def zRh(i j:Int):Prop:=iP i j=true
def bT:OpR X (binaryOp .Mult) (rI zRh fun i j=>.int (i*j)):=opI fun i j _ _ _ _ _ hc q=>by
 have hc':iP i j=true:=hc;unfold iP at hc';simp only[Vn,Vg,decide_eq_true_eq] at hc';rcases hc' with (⟨h1,h2⟩ | ⟨h1,h2⟩) | h
 ·exact mul_int q (zRJ.ok (.inl ⟨h1,h2⟩))
 ·exact mul_int q (zRJ.ok (.inr ⟨h1,h2⟩))
 ·exact mul_int q (PySem.IntMulOk.of_le (U0.mpr (zOl i)) (U0.mpr (zOl j)) h)
def zPm(_ j:Int):Prop:=nN j=true
def bN:OpR X (binaryOp .FloorDiv) (rI zPm fun i j=>.int (i.fdiv j)):=opI fun i j _ _ _ _ _ hc q=>by
 have hc':nN j=true:=hc;unfold nN at hc';simp only[Vg,decide_eq_true_eq] at hc';refine floordiv_int hc'.1 q (.inl (PyProof.noPylong_of_log2 ?_))
 have h2:=hc'.2;unfold nb at h2;omega
def zPd(i j:Int):Prop:=rA i j=true
def jI:OpR X (binaryOp .Pow) (rI zPd fun i j=>.int (i^j.toNat)):=opI fun i j _ _ _ _ _ hc q=>by
 have hc':rA i j=true:=hc;unfold rA at hc';simp only[Vg,decide_eq_true_eq] at hc';refine pow_int hc'.1 (Xo (Int.mul_le_mul_of_nonneg_right ?_ hc'.1) hc'.2) q
 have:=U0.mpr (zOl i)
 omega
def fF:OpK X (rI zRh fun i j=>.int (i*j)) mG:=zLg (fun a b d z=>by
 unfold mG at z;split at z
 case h_2=>cases z
 rename_i i j
 have z':(if iP i j=true then Res.ok (D.int (i*j)) else .no)=.ok d:=z;by_cases h:iP i j=true
 ·rw[Jj h] at z';cases z';exact⟨i,j,rfl,rfl,h,rfl⟩
 ·rw[Jk h] at z';cases z') (fun a b c z=>by
 unfold mG at z;split at z
 case h_2=>cases z
 rename_i i j
 have z':(if iP i j=true then Res.ok (D.int (i*j)) else .no)=.err c:=z;by_cases h:iP i j=true
 ·rw[Jj h] at z';cases z'
 ·rw[Jk h] at z';cases z')
def eM:OpK X (rI zPm fun i j=>.int (i.fdiv j)) kT:=zLg (fun a b d z=>by
 unfold kT at z;split at z
 case h_2=>cases z
 rename_i i j
 have z':(if nN j=true then Res.ok (D.int (i.fdiv j)) else .no)=.ok d:=z;by_cases h:nN j=true
 ·rw[Jj h] at z';cases z';exact⟨i,j,rfl,rfl,h,rfl⟩
 ·rw[Jk h] at z';cases z') (fun a b c z=>by
 unfold kT at z;split at z
 case h_2=>cases z
 rename_i i j
 have z':(if nN j=true then Res.ok (D.int (i.fdiv j)) else .no)=.err c:=z;by_cases h:nN j=true
 ·rw[Jj h] at z';cases z'
 ·rw[Jk h] at z';cases z')
def dG:OpK X (rI (fun _ j=>j≠0) fun i j=>.int (i.fmod j)) iY:=zLg (fun a b d z=>by
 unfold iY at z;split at z
 case h_2=>cases z
 rename_i i j
 have z':(if j≠0 then Res.ok (D.int (i.fmod j)) else .no)=.ok d:=z;by_cases h:j≠0
 ·rw[Jj h] at z';cases z';exact⟨i,j,rfl,rfl,h,rfl⟩
 ·rw[Jk h] at z';cases z') (fun a b c z=>by
 unfold iY at z;split at z
 case h_2=>cases z
 rename_i i j
 have z':(if j≠0 then Res.ok (D.int (i.fmod j)) else .no)=.err c:=z;by_cases h:j≠0
 ·rw[Jj h] at z';cases z'
 ·rw[Jk h] at z';cases z')
def vM:OpK X (rI zPd fun i j=>.int (i^j.toNat)) zDV:=zLg (fun a b d z=>by
 unfold zDV at z;split at z
 case h_2=>cases z
 rename_i i j
 have z':(if rA i j=true then Res.ok (D.int (i^j.toNat)) else .no)=.ok d:=z;by_cases h:rA i j=true
 ·rw[Jj h] at z';cases z';exact⟨i,j,rfl,rfl,h,rfl⟩
 ·rw[Jk h] at z';cases z') (fun a b c z=>by
 unfold zDV at z;split at z
 case h_2=>cases z
 rename_i i j
 have z':(if rA i j=true then Res.ok (D.int (i^j.toNat)) else .no)=.err c:=z;by_cases h:rA i j=true
 ·rw[Jj h] at z';cases z'
 ·rw[Jk h] at z';cases z')
def zPG(K:PySem.W.Frag):R2:=fun x y H Q=>∃ a b ys,x=.ref a/\y=.ref b/\SqT K H a []/\SqT K H b ys/\Q (.ref b) H
def zNH:OpR X (binaryOp .Add) (zPG X.K):=by
 intro Md s m H x y v u Q I rx ry h;obtain⟨a,b,ys,rfl,rfl,ha,hb,q⟩:=h;cases rx;cases ry;obtain⟨its,r1,p1,_⟩:=I.tuple ha;obtain⟨its2,r2,p2,_⟩:=I.tuple hb;cases r1;obtain⟨⟨c1,d1,t1,s1⟩,ho1,hc1,n1,hd1⟩:=id p1;obtain⟨⟨c2,d2,t2,s2⟩,ho2,hc2,n2,hd2⟩:=id p2;simp only at hc1 hd1 hc2 hd2
 subst hc1 hd1 hc2 hd2;exact Jy ⟨_,ho1,rfl⟩ ⟨_,ho2,rfl⟩ Jz J0 Ur Us (Ut _ _) (tuple_addW0 a b #[] its2.toArray n1 n2 d1 d2 s1 s2 rfl) ⟨ho1,ho2,⟨.ref b,H,I,rfl,q⟩⟩
def zQy(K:PySem.W.Frag):R2:=fun x y H Q=>rI0 (fun i j=>.int (i+j)) x y H Q∨(zQe K x y H Q∨zPG K x y H Q)
def cI:OpR X (binaryOp .Add) (zQy X.K):=OpR.or zQI (OpR.or zNd zNH)
def gY:OpK X (zQy X.K) pG:=⟨fun a b c z=>(by
  unfold pG at z;split at z
  case h_1=>cases z
  case h_3=>cases z
  rename_i as bs
  have z':(if as.length+bs.length<=16777216 then Res.ok (D.tup (as++bs)) else .no)=.err c:=z
  split at z'<;>cases z'),fun Hi H x y a b d Q s r1 r2 z q=>by
  unfold pG at z;split at z
  case h_3=>cases z
  ·cases z
   exact .inl ⟨_,_,r1.intI,r2.intI,q _ Hi H (Ext.refl s) (.int _)⟩
  ·rename_i as bs
   have z':(if as.length+bs.length<=16777216 then Res.ok (D.tup (as++bs)) else .no)=.ok d:=z;split at z'
   ·rename_i hz
    cases z'
    obtain⟨p,xs,rfl,h1,i1⟩:=r1.tupI;obtain⟨p',ys,rfl,h2,i2⟩:=r2.tupI;by_cases h0:as.length=0
    ·have e0:as=[]:=U1 h0
     subst e0;cases i1;exact .inr (.inr ⟨p,p',ys,rfl,rfl,cK s h1,cK s h2,q _ Hi H (Ext.refl s) (.tup h2 i2)⟩)
    refine .inr (.inl ⟨p,p',xs,ys,rfl,rfl,cK s h1,cK s h2,fun e=>h0 (by rw[<-i1.length,e];rfl),by rw[i1.length,i2.length];exact hz,fun e=>?_,fun _ l hl=>?_⟩)
    ·subst e
     cases i2;rw[Vs] at q;exact q _ Hi H (Ext.refl s) (.tup h1 i1)
    ·exact q _ _ _ (Ext.new s hl) (.tup (SqT.of bA) ((i1.append i2).mono (cT (s.none hl) _)))
   ·cases z'⟩
def zNz{A:Type}{xs:List A}{i:Int}{v:A}(h0:i<0)(h1:0<=(xs.length:Int)+i)(h:xs[((xs.length:Int)+i).toNat]?=some v):atI xs i=some v:=by
 have e:ixN xs.length i=some ((xs.length:Int)+i).toNat:=by
  unfold ixN;rw[Jk ⋯,Jj ⋯];congr 2
  omega
 unfold atI;rw[e];exact h
def zKp{K:Fg_}{H:Hp}{xs:List V}{ds:List D}{i:Int}{d:D}(h:IsDs K H xs ds)(e:atD ds i=some d):∃ v,atI xs i=some v/\IsD K H v d:=by
 unfold atD at e;by_cases h0:0<=i
 ·rw[Jj h0] at e
  obtain⟨v,hv,r⟩:=h.at e;refine⟨v,?_,r⟩
  have:=zFg hv
  rw[show((i.toNat:Nat):Int)=i by omega] at this;exact this
 ·rw[Jk h0] at e
  by_cases h1:0<=(ds.length:Int)+i
  ·rw[Jj h1] at e
   obtain⟨v,hv,r⟩:=h.at e;refine⟨v,?_,r⟩
   have hl:=h.length;have e2:((ds.length:Int)+i).toNat=((xs.length:Int)+i).toNat:=by rw[hl]
   rw[e2] at hv;exact zNz ⋯ ⋯ hv
  ·rw[Jk h1] at e;cases e
def zFL:OpK X (fun x y H Q=>zRE X.K x y H Q∨zRM X.K x y H Q) oIx:=⟨fun a b c z=>(by
  unfold oIx at z;split at z
  case h_3=>cases z
  ·rename_i ds i
   have z':ofO (atD ds i)=Res.err c:=z;cases q:atD ds i<;>rw[q] at z'<;>cases z'
  ·rename_i ds i
   have z':ofO (atD ds i)=Res.err c:=z
   cases q:atD ds i<;>rw[q] at z'<;>cases z'),fun Hi H x y a b d Q s r1 r2 z q=>by
  unfold oIx at z;split at z
  case h_3=>cases z
  ·rename_i ds i
   have z':ofO (atD ds i)=Res.ok d:=z
   cases w:atD ds i with
   | none=>rw[w] at z';cases z'
   | some d'=>
    rw[w] at z';cases z'
    obtain⟨p,xs,rfl,h1,i1⟩:=r1.tupI;obtain⟨v,hv,r⟩:=zKp i1 w;exact .inr ⟨p,xs,i,v,rfl,r2.intI,cK s h1,hv,q v Hi H (Ext.refl s) r⟩
  ·rename_i ds i
   have z':ofO (atD ds i)=Res.ok d:=z
   cases w:atD ds i with
   | none=>rw[w] at z';cases z'
   | some d'=>
    rw[w] at z';cases z'
    obtain⟨p,xs,rfl,h1,i1⟩:=r1.lstI;obtain⟨v,hv,r⟩:=zKp i1 w
    exact .inl ⟨p,xs,i,v,rfl,r2.intI,dF s h1,hv,q v Hi H (Ext.refl s) r⟩⟩
def eS:IxR X (fun x y H Q=>zRE X.K x y H Q∨zRM X.K x y H Q):=zOP.or zPj
end
section
variable{X:Cx}{Md:List (Jc×Obj)}{r:St}{H:Hp}{s:Jb}
mutual
def IsD.inj(I:Inv X Md r H s):∀ {v:V} {d e:D},IsD X.K H v d->IsD X.K H v e->d=e
 | _,_,_,.non,h=>by cases h;rfl
 | _,_,_,.bl b,h=>by cases h;rfl
 | _,_,_,.int i,h=>by cases h;rfl
 | _,_,_,.str x,h=>by cases h;rfl
 | _,_,_,.tup h hs,h2=>by
  cases h2 with
  | tup h' hs'=>
   have e:=I.tuple_inj h h';subst e;rw[IsDs.inj I hs hs']
  | lst h' hs'=>
   exfalso
   obtain⟨_,_,⟨o,e,c,_⟩,_⟩:=I.tuple h;obtain⟨_,_,⟨o',n',e',c',_⟩,_⟩:=I.list h';rw[e] at e';cases e';rw[c] at c';exact absurd c' (by decide)
 | _,_,_,.lst h hs,h2=>by
  cases h2 with
  | lst h' hs'=>
   have e:=I.list_inj h h';subst e;rw[IsDs.inj I hs hs']
  | tup h' hs'=>
   exfalso
   obtain⟨_,_,⟨o,e,c,_⟩,_⟩:=I.tuple h';obtain⟨_,_,⟨o',n',e',c',_⟩,_⟩:=I.list h;rw[e] at e';cases e';rw[c] at c';exact absurd c' (by decide)
def IsDs.inj(I:Inv X Md r H s):∀ {vs:List V} {ds es:List D},IsDs X.K H vs ds->IsDs X.K H vs es->ds=es
 | _,_,_,.nil,h=>by cases h;rfl
 | _,_,_,.cons h hs,h2=>by
  cases h2 with
  | cons h' hs'=>rw[IsD.inj I h h',IsDs.inj I hs hs']
end
def zID{r:Type}{l:List r}{j:Nat}{x d:r}(h:l[j]?=some x):l.getD j d=x:=by
 rw[Qs,h];rfl
def pH{A:Jg}{xs xs':List V}{ds ds':List D}{its its':List Ja}(hs:IsDs X.K H xs ds)(hs':IsDs X.K H xs' ds')(rv:eV xs its)(rv':eV xs' its')
  (rc:∀(d d':D)(v v':V)(u u':Ja),d∈ds->IsD X.K H v d->IsD X.K H v' d'->dZ v u->dZ v' u'->SeqAt.EqAt A s u u' (eqD d d'))
  (j:Nat) (g1:j<its.toArray.size) (g2:j<its'.toArray.size):SeqAt.EqAt A s its.toArray[j] its'.toArray[j] (eqD (ds.getD j .non) (ds'.getD j .non)):=by
 have g1':j<its.length:=by simpa using g1
 have g2':j<its'.length:=by simpa using g2
 have l1:its.length=ds.length:=by rw[<-rv.length,hs.length]
 have l2:its'.length=ds'.length:=by rw[<-rv'.length,hs'.length]
 obtain⟨d,hd⟩:∃ d,ds[j]?=some d:=⟨_,Qj ⋯⟩
 obtain⟨d',hd'⟩:∃ d,ds'[j]?=some d:=⟨_,Qj ⋯⟩
 obtain⟨v,hv,iv⟩:=hs.at hd;obtain⟨v',hv',iv'⟩:=hs'.at hd';obtain⟨w1,hw,rw1⟩:=rv.get hv;obtain⟨w2,hw',rw2⟩:=rv'.get hv'
 have e1:its.toArray[j]=w1:=by
  rw[Qj g1'] at hw;simpa using hw
 have e2:its'.toArray[j]=w2:=by
  rw[Qj g2'] at hw';simpa using hw'
 rw[e1,e2,zID hd,zID hd'];exact rc d d' v v' w1 w2 (Qf hd) iv iv' rw1 rw2
def jY{ds ds':List D}(h:ds.length=ds'.length):((List.range ds.length).all fun j=>eqD (ds.getD j .non) (ds'.getD j .non))=uZ ds ds':=by
 rw[pJ,<-h,Yi];simp
def zBS{ds ds':List D}(h:ds.length≠ds'.length):uZ ds ds'=false:=by
 rw[pJ];simp[h]
def zDv(I:Inv X Md c H s){A:Jg}{v v':V}{d d':D}{u u':Ja}(h1:IsD X.K H v d)(h2:IsD X.K H v' d')(r1:dZ v u)(r2:dZ v' u')(hu:A.units<cLine)
  (rc:∀ ds,(d=.tup ds∨d=.lst ds)->∀(e e':D)(w w':V)(z z':Ja),e∈ds->IsD X.K H w e->IsD X.K H w' e'->dZ w z->dZ w' z'->SeqAt.EqAt A.in1 s z z' (eqD e e')):
  SeqAt.EqAt A s u u' (eqD d d'):=by
 cases h1 with
 | non=>
  cases (show u=Value.none from r1)
  cases h2 with
  | non=>cases (show u'=Value.none from r2);exact SeqAt.EqAt.same _
  | bl b=>cases (show u'=Value.bool _ from r2);exact SeqAt.EqAt.none_bool _
  | int i=>obtain⟨t,rfl⟩:=r2;exact SeqAt.EqAt.none_int _ _
  | str x=>obtain⟨t,rfl⟩:=r2;exact SeqAt.EqAt.none_str _ _
  | tup h hs=>cases (show u'=Value.ref _ from r2);obtain⟨its,rv,p,hz⟩:=I.tuple h;exact SeqAt.EqAt.none_tuple (show s.heap.IsTuple _ its.toArray from p) hu
  | lst h hs=>cases (show u'=Value.ref _ from r2);obtain⟨its,rv,p,hz⟩:=I.list h;exact SeqAt.EqAt.none_list p.isList hu
 | bl b=>
  cases (show u=Value.bool _ from r1)
  cases h2 with
  | non=>cases (show u'=Value.none from r2);exact SeqAt.EqAt.bool_none _
  | bl b=>cases (show u'=Value.bool _ from r2);exact SeqAt.EqAt.bool_bool _ _
  | int i=>obtain⟨t,rfl⟩:=r2;exact SeqAt.EqAt.bool_int _ _ _
  | str x=>obtain⟨t,rfl⟩:=r2;exact SeqAt.EqAt.bool_str _ _ _
  | tup h hs=>cases (show u'=Value.ref _ from r2);obtain⟨its,rv,p,hz⟩:=I.tuple h;exact SeqAt.EqAt.bool_tuple _ (show s.heap.IsTuple _ its.toArray from p) hu
  | lst h hs=>cases (show u'=Value.ref _ from r2);obtain⟨its,rv,p,hz⟩:=I.list h;exact SeqAt.EqAt.bool_list _ p.isList hu
 | int i=>
  obtain⟨t,rfl⟩:=r1
  cases h2 with
  | non=>cases (show u'=Value.none from r2);exact SeqAt.EqAt.int_none _ _
  | bl b=>cases (show u'=Value.bool _ from r2);exact SeqAt.EqAt.int_bool _ _ _
  | int i=>obtain⟨t,rfl⟩:=r2;exact SeqAt.EqAt.int_int _ _ _ _
  | str x=>obtain⟨t,rfl⟩:=r2;exact SeqAt.EqAt.int_str _ _ _ _
  | tup h hs=>cases (show u'=Value.ref _ from r2);obtain⟨its,rv,p,hz⟩:=I.tuple h;exact SeqAt.EqAt.int_tuple _ _ (show s.heap.IsTuple _ its.toArray from p) hu
  | lst h hs=>cases (show u'=Value.ref _ from r2);obtain⟨its,rv,p,hz⟩:=I.list h;exact SeqAt.EqAt.int_list _ _ p.isList hu
 | str x=>
  obtain⟨t,rfl⟩:=r1
  cases h2 with
  | non=>cases (show u'=Value.none from r2);exact SeqAt.EqAt.str_none _ _
  | bl b=>cases (show u'=Value.bool _ from r2);exact SeqAt.EqAt.str_bool _ _ _
  | int i=>obtain⟨t,rfl⟩:=r2;exact SeqAt.EqAt.str_int _ _ _ _
  | str x=>obtain⟨t,rfl⟩:=r2;exact SeqAt.EqAt.str_str _ _ _ _
  | tup h hs=>cases (show u'=Value.ref _ from r2);obtain⟨its,rv,p,hz⟩:=I.tuple h;exact SeqAt.EqAt.str_tuple _ _ (show s.heap.IsTuple _ its.toArray from p) hu
  | lst h hs=>cases (show u'=Value.ref _ from r2);obtain⟨its,rv,p,hz⟩:=I.list h;exact SeqAt.EqAt.str_list _ _ p.isList hu
 | @tup a xs ds h hs=>
  cases (show u=Value.ref a from r1)
  obtain⟨its,rv,p,hz⟩:=I.tuple h
  cases h2 with
  | non=>cases (show u'=Value.none from r2);exact SeqAt.EqAt.tuple_none (show s.heap.IsTuple _ its.toArray from p) hu
  | bl b=>cases (show u'=Value.bool _ from r2);exact SeqAt.EqAt.tuple_bool _ (show s.heap.IsTuple _ its.toArray from p) hu
  | int i=>obtain⟨t,rfl⟩:=r2;exact SeqAt.EqAt.tuple_int _ _ (show s.heap.IsTuple _ its.toArray from p) hu
  | str x=>obtain⟨t,rfl⟩:=r2;exact SeqAt.EqAt.tuple_str _ _ (show s.heap.IsTuple _ its.toArray from p) hu
  | @tup a' xs' ds' h' hs'=>
   cases (show u'=Value.ref a' from r2)
   by_cases e:a=a'
   ·subst e
    have e:=I.tuple_inj h h';subst e;have e:=IsDs.inj I hs hs';subst e;rw[wF];exact SeqAt.EqAt.same _
   ·obtain⟨its',rv',p',hz'⟩:=I.tuple h'
    have l1:its.toArray.size=ds.length:=by rw[Qh,<-rv.length,hs.length]
    have l2:its'.toArray.size=ds'.length:=by rw[Qh,<-rv'.length,hs'.length]
    have key:=SeqAt.RcAt.tuples (A:=A) (s:=s) (show s.heap.IsTuple a its.toArray from p) (show s.heap.IsTuple a' its'.toArray from p') hu
     (pH (A:=A.in1) (s:=s) hs hs' rv rv' fun d d' v v' u u' hm iv iv' r r'=>rc ds (.inl rfl) d d' v v' u u' hm iv iv' r r')
    rw[l1,l2,<-pJ] at key;exact SeqAt.EqAt.of_refs e key
  | @lst a' xs' ds' h' hs'=>
   cases (show u'=Value.ref a' from r2)
   obtain⟨its',rv',p',hz'⟩:=I.list h';exact SeqAt.EqAt.tuple_list (show s.heap.IsTuple _ its.toArray from p) p'.isList hu
 | @lst a xs ds h hs=>
  cases (show u=Value.ref a from r1)
  obtain⟨its,rv,p,hz⟩:=I.list h
  cases h2 with
  | non=>cases (show u'=Value.none from r2);exact SeqAt.EqAt.list_none p.isList hu
  | bl b=>cases (show u'=Value.bool _ from r2);exact SeqAt.EqAt.list_bool _ p.isList hu
  | int i=>obtain⟨t,rfl⟩:=r2;exact SeqAt.EqAt.list_int _ _ p.isList hu
  | str x=>obtain⟨t,rfl⟩:=r2;exact SeqAt.EqAt.list_str _ _ p.isList hu
  | @tup a' xs' ds' h' hs'=>
   cases (show u'=Value.ref a' from r2)
   obtain⟨its',rv',p',hz'⟩:=I.tuple h';exact SeqAt.EqAt.list_tuple p.isList (show s.heap.IsTuple _ its'.toArray from p') hu
  | @lst a' xs' ds' h' hs'=>
   cases (show u'=Value.ref a' from r2)
   by_cases e:a=a'
   ·subst e
    have e:=I.list_inj h h';subst e;have e:=IsDs.inj I hs hs';subst e;rw[wF];exact SeqAt.EqAt.same _
   ·obtain⟨its',rv',p',hz'⟩:=I.list h'
    have l1:its.toArray.size=ds.length:=by rw[Qh,<-rv.length,hs.length]
    have l2:its'.toArray.size=ds'.length:=by rw[Qh,<-rv'.length,hs'.length]
    by_cases hl:ds.length=ds'.length
    ·have key:=SeqAt.RcAt.lists (A:=A) (s:=s) p.isList p'.isList (by rw[l1,l2,hl]) hu
      (pH (A:=A.in1) (s:=s) hs hs' rv rv' fun d d' v v' u u' hm iv iv' r r'=>rc ds (.inr rfl) d d' v v' u u' hm iv iv' r r')
     rw[l1,jY hl] at key;exact SeqAt.EqAt.of_refs e key
    ·have key:=SeqAt.RcAt.lists_lengths (A:=A) (s:=s) p.isList p'.isList (by rw[l1,l2];simp[hl]) hu
     rw[eqD,zBS hl];exact SeqAt.EqAt.of_refs e key
def zIv(I:Inv X Md r H s)(n:Nat):∀ {v v':V} {d d':D},dep d<=n->IsD X.K H v d->IsD X.K H v' d'->
  ∀(A:Jg)(u u':Ja),A.units+n<cLine->dZ v u->dZ v' u'->SeqAt.EqAt A s u u' (eqD d d'):=by
 induction n with
 | zero=>
  intro v v' d d' hn h1 h2 A u u' hu r1 r2;refine zDv I h1 h2 r1 r2 ⋯ fun ds hd=>?_
  rcases hd with rfl | rfl<;>(rw[dep] at hn;omega)
 | succ n ih=>
  intro v v' d d' hn h1 h2 A u u' hu r1 r2;refine zDv I h1 h2 r1 r2 ⋯ fun ds hd e e' w w' z z' hm i1 i2 q1 q2=>?_
  refine ih ?_ i1 i2 A.in1 z z' (by show A.units+1+n<cLine;omega) q1 q2
  have:=yM hm
  rcases hd with rfl | rfl<;>(rw[dep] at hn;omega)
def zIk(I:Inv X Md c H s){A:Jg}{v v':V}{d d':D}{u u':Ja}(h1:IsD X.K H v d)(h2:IsD X.K H v' d')(r1:dZ v u)(r2:dZ v' u')(hu:A.units<cLine)
  (rc:∀ ds,(d=.tup ds∨d=.lst ds)->∀(e e':D)(w w':V)(z z':Ja),e∈ds->IsD X.K H w e->IsD X.K H w' e'->dZ w z->dZ w' z'->SeqAt.EqAt A.in1 s z z' (eqD e e')):
  SeqAt.RcAt A s u u' (eqD d d'):=by
 cases h1 with
 | non=>
  cases (show u=Value.none from r1)
  cases h2 with
  | non=>cases (show u'=Value.none from r2);exact SeqAt.RcAt.none_none
  | bl b=>cases (show u'=Value.bool _ from r2);exact SeqAt.RcAt.none_bool _
  | int i=>obtain⟨t,rfl⟩:=r2;exact SeqAt.RcAt.none_int _ _
  | str x=>obtain⟨t,rfl⟩:=r2;exact SeqAt.RcAt.none_str _ _
  | tup h hs=>cases (show u'=Value.ref _ from r2);obtain⟨its,rv,p,hz⟩:=I.tuple h;exact SeqAt.RcAt.none_tuple (show s.heap.IsTuple _ its.toArray from p) hu
  | lst h hs=>cases (show u'=Value.ref _ from r2);obtain⟨its,rv,p,hz⟩:=I.list h;exact SeqAt.RcAt.none_list p.isList hu
 | bl b=>
  cases (show u=Value.bool _ from r1)
  cases h2 with
  | non=>cases (show u'=Value.none from r2);exact SeqAt.RcAt.bool_none _
  | bl b=>cases (show u'=Value.bool _ from r2);exact SeqAt.RcAt.bool_bool _ _
  | int i=>obtain⟨t,rfl⟩:=r2;exact SeqAt.RcAt.bool_int _ _ _
  | str x=>obtain⟨t,rfl⟩:=r2;exact SeqAt.RcAt.bool_str _ _ _
  | tup h hs=>cases (show u'=Value.ref _ from r2);obtain⟨its,rv,p,hz⟩:=I.tuple h;exact SeqAt.RcAt.bool_tuple _ (show s.heap.IsTuple _ its.toArray from p) hu
  | lst h hs=>cases (show u'=Value.ref _ from r2);obtain⟨its,rv,p,hz⟩:=I.list h;exact SeqAt.RcAt.bool_list _ p.isList hu
 | int i=>
  obtain⟨t,rfl⟩:=r1
  cases h2 with
  | non=>cases (show u'=Value.none from r2);exact SeqAt.RcAt.int_none _ _
  | bl b=>cases (show u'=Value.bool _ from r2);exact SeqAt.RcAt.int_bool _ _ _
  | int i=>obtain⟨t,rfl⟩:=r2;exact SeqAt.RcAt.int_int _ _ _ _
  | str x=>obtain⟨t,rfl⟩:=r2;exact SeqAt.RcAt.int_str _ _ _ _
  | tup h hs=>cases (show u'=Value.ref _ from r2);obtain⟨its,rv,p,hz⟩:=I.tuple h;exact SeqAt.RcAt.int_tuple _ _ (show s.heap.IsTuple _ its.toArray from p) hu
  | lst h hs=>cases (show u'=Value.ref _ from r2);obtain⟨its,rv,p,hz⟩:=I.list h;exact SeqAt.RcAt.int_list _ _ p.isList hu
 | str x=>
  obtain⟨t,rfl⟩:=r1
  cases h2 with
  | non=>cases (show u'=Value.none from r2);exact SeqAt.RcAt.str_none _ _
  | bl b=>cases (show u'=Value.bool _ from r2);exact SeqAt.RcAt.str_bool _ _ _
  | int i=>obtain⟨t,rfl⟩:=r2;exact SeqAt.RcAt.str_int _ _ _ _
  | str x=>obtain⟨t,rfl⟩:=r2;exact SeqAt.RcAt.str_str _ _ _ _
  | tup h hs=>cases (show u'=Value.ref _ from r2);obtain⟨its,rv,p,hz⟩:=I.tuple h;exact SeqAt.RcAt.str_tuple _ _ (show s.heap.IsTuple _ its.toArray from p) hu
  | lst h hs=>cases (show u'=Value.ref _ from r2);obtain⟨its,rv,p,hz⟩:=I.list h;exact SeqAt.RcAt.str_list _ _ p.isList hu
 | @tup a xs ds h hs=>
  cases (show u=Value.ref a from r1)
  obtain⟨its,rv,p,hz⟩:=I.tuple h
  cases h2 with
  | non=>cases (show u'=Value.none from r2);exact SeqAt.RcAt.tuple_none (show s.heap.IsTuple _ its.toArray from p) hu
  | bl b=>cases (show u'=Value.bool _ from r2);exact SeqAt.RcAt.tuple_bool _ (show s.heap.IsTuple _ its.toArray from p) hu
  | int i=>obtain⟨t,rfl⟩:=r2;exact SeqAt.RcAt.tuple_int _ _ (show s.heap.IsTuple _ its.toArray from p) hu
  | str x=>obtain⟨t,rfl⟩:=r2;exact SeqAt.RcAt.tuple_str _ _ (show s.heap.IsTuple _ its.toArray from p) hu
  | @tup a' xs' ds' h' hs'=>
   cases (show u'=Value.ref a' from r2)
   ·obtain⟨its',rv',p',hz'⟩:=I.tuple h'
    have l1:its.toArray.size=ds.length:=by rw[Qh,<-rv.length,hs.length]
    have l2:its'.toArray.size=ds'.length:=by rw[Qh,<-rv'.length,hs'.length]
    have key:=SeqAt.RcAt.tuples (A:=A) (s:=s) (show s.heap.IsTuple a its.toArray from p) (show s.heap.IsTuple a' its'.toArray from p') hu
     (pH (A:=A.in1) (s:=s) hs hs' rv rv' fun d d' v v' u u' hm iv iv' r r'=>rc ds (.inl rfl) d d' v v' u u' hm iv iv' r r')
    rw[l1,l2,<-pJ] at key;exact key
  | @lst a' xs' ds' h' hs'=>
   cases (show u'=Value.ref a' from r2)
   obtain⟨its',rv',p',hz'⟩:=I.list h';exact SeqAt.RcAt.tuple_list (show s.heap.IsTuple _ its.toArray from p) p'.isList hu
 | @lst a xs ds h hs=>
  cases (show u=Value.ref a from r1)
  obtain⟨its,rv,p,hz⟩:=I.list h
  cases h2 with
  | non=>cases (show u'=Value.none from r2);exact SeqAt.RcAt.list_none p.isList hu
  | bl b=>cases (show u'=Value.bool _ from r2);exact SeqAt.RcAt.list_bool _ p.isList hu
  | int i=>obtain⟨t,rfl⟩:=r2;exact SeqAt.RcAt.list_int _ _ p.isList hu
  | str x=>obtain⟨t,rfl⟩:=r2;exact SeqAt.RcAt.list_str _ _ p.isList hu
  | @tup a' xs' ds' h' hs'=>
   cases (show u'=Value.ref a' from r2)
   obtain⟨its',rv',p',hz'⟩:=I.tuple h';exact SeqAt.RcAt.list_tuple p.isList (show s.heap.IsTuple _ its'.toArray from p') hu
  | @lst a' xs' ds' h' hs'=>
   cases (show u'=Value.ref a' from r2)
   ·obtain⟨its',rv',p',hz'⟩:=I.list h'
    have l1:its.toArray.size=ds.length:=by rw[Qh,<-rv.length,hs.length]
    have l2:its'.toArray.size=ds'.length:=by rw[Qh,<-rv'.length,hs'.length]
    by_cases hl:ds.length=ds'.length
    ·have key:=SeqAt.RcAt.lists (A:=A) (s:=s) p.isList p'.isList (by rw[l1,l2,hl]) hu
      (pH (A:=A.in1) (s:=s) hs hs' rv rv' fun d d' v v' u u' hm iv iv' r r'=>rc ds (.inr rfl) d d' v v' u u' hm iv iv' r r')
     rw[l1,jY hl] at key;exact key
    ·have key:=SeqAt.RcAt.lists_lengths (A:=A) (s:=s) p.isList p'.isList (by rw[l1,l2];simp[hl]) hu
     rw[eqD,zBS hl];exact key
def zHB(I:Inv X Md c H s){A:Jg}{v v':V}{d d':D}{u u':Ja}(h1:IsD X.K H v d)(h2:IsD X.K H v' d')(r1:dZ v u)(r2:dZ v' u')(hu:A.units<cLine)
  (rc:∀ ds,(d=.tup ds∨d=.lst ds)->∀(e e':D)(w w':V)(z z':Ja),e∈ds->IsD X.K H w e->IsD X.K H w' e'->dZ w z->dZ w' z'->SeqAt.EqAt A.in1 s z z' (eqD e e')):
  SeqAt.RcNeAt A s u u' (!eqD d d'):=by
 cases h1 with
 | non=>
  cases (show u=Value.none from r1)
  cases h2 with
  | non=>cases (show u'=Value.none from r2);exact SeqAt.RcNeAt.none_none
  | bl b=>cases (show u'=Value.bool _ from r2);exact SeqAt.RcNeAt.none_bool _
  | int i=>obtain⟨t,rfl⟩:=r2;exact SeqAt.RcNeAt.none_int _ _
  | str x=>obtain⟨t,rfl⟩:=r2;exact SeqAt.RcNeAt.none_str _ _
  | tup h hs=>cases (show u'=Value.ref _ from r2);obtain⟨its,rv,p,hz⟩:=I.tuple h;exact SeqAt.RcNeAt.none_tuple (show s.heap.IsTuple _ its.toArray from p) hu
  | lst h hs=>cases (show u'=Value.ref _ from r2);obtain⟨its,rv,p,hz⟩:=I.list h;exact SeqAt.RcNeAt.none_list p.isList hu
 | bl b=>
  cases (show u=Value.bool _ from r1)
  cases h2 with
  | non=>cases (show u'=Value.none from r2);exact SeqAt.RcNeAt.bool_none _
  | bl b=>cases (show u'=Value.bool _ from r2);exact SeqAt.RcNeAt.bool_bool _ _
  | int i=>obtain⟨t,rfl⟩:=r2;exact SeqAt.RcNeAt.bool_int _ _ _
  | str x=>obtain⟨t,rfl⟩:=r2;exact SeqAt.RcNeAt.bool_str _ _ _
  | tup h hs=>cases (show u'=Value.ref _ from r2);obtain⟨its,rv,p,hz⟩:=I.tuple h;exact SeqAt.RcNeAt.bool_tuple _ (show s.heap.IsTuple _ its.toArray from p) hu
  | lst h hs=>cases (show u'=Value.ref _ from r2);obtain⟨its,rv,p,hz⟩:=I.list h;exact SeqAt.RcNeAt.bool_list _ p.isList hu
 | int i=>
  obtain⟨t,rfl⟩:=r1
  cases h2 with
  | non=>cases (show u'=Value.none from r2);exact SeqAt.RcNeAt.int_none _ _
  | bl b=>cases (show u'=Value.bool _ from r2);exact SeqAt.RcNeAt.int_bool _ _ _
  | int i=>obtain⟨t,rfl⟩:=r2;exact SeqAt.RcNeAt.int_int _ _ _ _
  | str x=>obtain⟨t,rfl⟩:=r2;exact SeqAt.RcNeAt.int_str _ _ _ _
  | tup h hs=>cases (show u'=Value.ref _ from r2);obtain⟨its,rv,p,hz⟩:=I.tuple h;exact SeqAt.RcNeAt.int_tuple _ _ (show s.heap.IsTuple _ its.toArray from p) hu
  | lst h hs=>cases (show u'=Value.ref _ from r2);obtain⟨its,rv,p,hz⟩:=I.list h;exact SeqAt.RcNeAt.int_list _ _ p.isList hu
 | str x=>
  obtain⟨t,rfl⟩:=r1
  cases h2 with
  | non=>cases (show u'=Value.none from r2);exact SeqAt.RcNeAt.str_none _ _
  | bl b=>cases (show u'=Value.bool _ from r2);exact SeqAt.RcNeAt.str_bool _ _ _
  | int i=>obtain⟨t,rfl⟩:=r2;exact SeqAt.RcNeAt.str_int _ _ _ _
  | str x=>obtain⟨t,rfl⟩:=r2;exact SeqAt.RcNeAt.str_str _ _ _ _
  | tup h hs=>cases (show u'=Value.ref _ from r2);obtain⟨its,rv,p,hz⟩:=I.tuple h;exact SeqAt.RcNeAt.str_tuple _ _ (show s.heap.IsTuple _ its.toArray from p) hu
  | lst h hs=>cases (show u'=Value.ref _ from r2);obtain⟨its,rv,p,hz⟩:=I.list h;exact SeqAt.RcNeAt.str_list _ _ p.isList hu
 | @tup a xs ds h hs=>
  cases (show u=Value.ref a from r1)
  obtain⟨its,rv,p,hz⟩:=I.tuple h
  cases h2 with
  | non=>cases (show u'=Value.none from r2);exact SeqAt.RcNeAt.tuple_none (show s.heap.IsTuple _ its.toArray from p) hu
  | bl b=>cases (show u'=Value.bool _ from r2);exact SeqAt.RcNeAt.tuple_bool _ (show s.heap.IsTuple _ its.toArray from p) hu
  | int i=>obtain⟨t,rfl⟩:=r2;exact SeqAt.RcNeAt.tuple_int _ _ (show s.heap.IsTuple _ its.toArray from p) hu
  | str x=>obtain⟨t,rfl⟩:=r2;exact SeqAt.RcNeAt.tuple_str _ _ (show s.heap.IsTuple _ its.toArray from p) hu
  | @tup a' xs' ds' h' hs'=>
   cases (show u'=Value.ref a' from r2)
   ·obtain⟨its',rv',p',hz'⟩:=I.tuple h'
    have l1:its.toArray.size=ds.length:=by rw[Qh,<-rv.length,hs.length]
    have l2:its'.toArray.size=ds'.length:=by rw[Qh,<-rv'.length,hs'.length]
    have key:=SeqAt.RcNeAt.tuples (A:=A) (s:=s) (show s.heap.IsTuple a its.toArray from p) (show s.heap.IsTuple a' its'.toArray from p') hu
     (pH (A:=A.in1) (s:=s) hs hs' rv rv' fun d d' v v' u u' hm iv iv' r r'=>rc ds (.inl rfl) d d' v v' u u' hm iv iv' r r')
    rw[l1,l2,<-pJ] at key;exact key
  | @lst a' xs' ds' h' hs'=>
   cases (show u'=Value.ref a' from r2)
   obtain⟨its',rv',p',hz'⟩:=I.list h';exact SeqAt.RcNeAt.tuple_list (show s.heap.IsTuple _ its.toArray from p) p'.isList hu
 | @lst a xs ds h hs=>
  cases (show u=Value.ref a from r1)
  obtain⟨its,rv,p,hz⟩:=I.list h
  cases h2 with
  | non=>cases (show u'=Value.none from r2);exact SeqAt.RcNeAt.list_none p.isList hu
  | bl b=>cases (show u'=Value.bool _ from r2);exact SeqAt.RcNeAt.list_bool _ p.isList hu
  | int i=>obtain⟨t,rfl⟩:=r2;exact SeqAt.RcNeAt.list_int _ _ p.isList hu
  | str x=>obtain⟨t,rfl⟩:=r2;exact SeqAt.RcNeAt.list_str _ _ p.isList hu
  | @tup a' xs' ds' h' hs'=>
   cases (show u'=Value.ref a' from r2)
   obtain⟨its',rv',p',hz'⟩:=I.tuple h';exact SeqAt.RcNeAt.list_tuple p.isList (show s.heap.IsTuple _ its'.toArray from p') hu
  | @lst a' xs' ds' h' hs'=>
   cases (show u'=Value.ref a' from r2)
   ·obtain⟨its',rv',p',hz'⟩:=I.list h'
    have l1:its.toArray.size=ds.length:=by rw[Qh,<-rv.length,hs.length]
    have l2:its'.toArray.size=ds'.length:=by rw[Qh,<-rv'.length,hs'.length]
    by_cases hl:ds.length=ds'.length
    ·have key:=SeqAt.RcNeAt.lists (A:=A) (s:=s) p.isList p'.isList (by rw[l1,l2,hl]) hu
      (pH (A:=A.in1) (s:=s) hs hs' rv rv' fun d d' v v' u u' hm iv iv' r r'=>rc ds (.inr rfl) d d' v v' u u' hm iv iv' r r')
     rw[l1,jY hl] at key;exact key
    ·have key:=SeqAt.RcNeAt.lists_lengths (A:=A) (s:=s) p.isList p'.isList (by rw[l1,l2];simp[hl]) hu
     rw[eqD,zBS hl];exact key
def eqA{X:Cx}(hu:X.A.units+64<cLine):OpR X (compareOp .Eq) (fun x y H Q=>∃ d d',IsD X.K H x d/\IsD X.K H y d'/\dep d<=50/\Q (.bl (eqD d d')) H):=by
 intro Md s r H x y v u Q I rx ry h;obtain⟨d,d',h1,h2,hn,q⟩:=h;refine zIk I h1 h2 rx ry ⋯ (fun ds hd e e' w w' z z' hm i1 i2 q1 q2=>?_) X.prog X.w X.xe _ ⟨.bl _,H,I,rfl,q⟩
 refine zIv I 50 ?_ i1 i2 X.A.in1 z z' (by show X.A.units+1+50<cLine;omega) q1 q2
 have:=yM hm
 rcases hd with rfl | rfl<;>(rw[dep] at hn;omega)
def neA{X:Cx}(hu:X.A.units+64<cLine):OpR X (compareOp .NotEq) (fun x y H Q=>∃ d d',IsD X.K H x d/\IsD X.K H y d'/\dep d<=50/\Q (.bl (!eqD d d')) H):=by
 intro Md s r H x y v u Q I rx ry h;obtain⟨d,d',h1,h2,hn,q⟩:=h;refine zHB I h1 h2 rx ry ⋯ (fun ds hd e e' w w' z z' hm i1 i2 q1 q2=>?_) X.prog X.w X.xe _ ⟨.bl _,H,I,rfl,q⟩
 refine zIv I 50 ?_ i1 i2 X.A.in1 z z' (by show X.A.units+1+50<cLine;omega) q1 q2
 have:=yM hm
 rcases hd with rfl | rfl<;>(rw[dep] at hn;omega)
def oT{X:Cx}:OpK X (fun x y H Q=>∃ d d',IsD X.K H x d/\IsD X.K H y d'/\dep d<=50/\Q (.bl (eqD d d')) H) oEq:=⟨fun a b c z=>(by
  unfold oEq at z;split at z<;>cases z),fun Hi H x y a b d Q s r1 r2 z q=>by
  unfold oEq at z;split at z
  ·rename_i h;cases z;exact⟨a,b,r1.mono s,r2.mono s,h,q _ Hi H (Ext.refl s) (.bl _)⟩
  ·cases z⟩
def zKT{X:Cx}:OpK X (fun x y H Q=>∃ d d',IsD X.K H x d/\IsD X.K H y d'/\dep d<=50/\Q (.bl (!eqD d d')) H) oNe:=⟨fun a b c z=>(by
  unfold oNe at z;split at z<;>cases z),fun Hi H x y a b d Q s r1 r2 z q=>by
  unfold oNe at z;split at z
  ·rename_i h;cases z;exact⟨a,b,r1.mono s,r2.mono s,h,q _ Hi H (Ext.refl s) (.bl _)⟩
  ·cases z⟩
open Classical in
def zOR(K:PySem.W.Frag)(H:Hp)(dx:D)(u:Ja):Bool:=if ∃ w d,IsD K H w d/\dZ w u/\eqD d dx=true then true else false
def zJE(I:Inv X Md p H s){dx d:D}{w:V}{u:Ja}(h:IsD X.K H w d)(r:dZ w u):zOR X.K H dx u=eqD d dx:=by
 unfold zOR;by_cases e:eqD d dx=true
 ·rw[Jj ⟨w,d,h,r,e⟩,e]
 ·rw[Jk]
  ·simpa using e
  ·rintro⟨w',d',h',r',e'⟩
   have:=r.inj r'
   subst this;have:=IsD.inj I h h'
   subst this;exact e e'
def zEm(I:Inv X Md p H s){dx:D}:∀ {xs:List V} {ds:List D} {us:List Ja},IsDs X.K H xs ds->eV xs us->us.any (zOR X.K H dx)=ds.any fun d=>eqD d dx
 | _,_,_,.nil,.nil=>rfl
 | _,_,_,.cons h hs,.cons r t=>by rw[List.any_cons,List.any_cons,zJE I h r,zEm I hs t]
def zEa(I:Inv X Md p H s){A:Jg}{dx:D}{x:V}{ux:Ja}(hx:IsD X.K H x dx)(rx:dZ x ux)(hu:A.units+50<cLine):∀ {xs:List V} {ds:List D} {us:List Ja},IsDs X.K H xs ds->eV xs us->(∀ d∈ds,dep d<=50)->∀ u∈us,SeqAt.EqAt A s u ux (zOR X.K H dx u)
 | _,_,_,.nil,.nil,_=>fun u hu=>by cases hu
 | _,_,_,.cons h hs,.cons r t,f=>fun u hm=>by
  rcases Qc.mp hm with rfl | hm
  ·rw[zJE I h r];exact zIv I 50 (f _ Qe) h hx A _ ux hu r rx
  ·exact zEa I hx rx hu hs t (fun d hd=>f d (Qd _ hd)) u hm
def zSP(K:PySem.W.Frag)(neg:Bool):R2:=fun x y H Q=>∃ d ds,IsD K H x d/\(IsD K H y (.lst ds)∨IsD K H y (.tup ds))/\depS ds<=50/\Q (.bl (if neg=true then !(ds.any fun e=>eqD e d) else ds.any fun e=>eqD e d)) H
def inA{X:Cx}(hu:X.A.units+64<cLine):OpR X (compareOp .In) (zSP X.K false):=by
 intro Md s r H x y v u Q I rx ry h;obtain⟨d,ds,h1,h2,hn,q⟩:=h;have hd:∀ e∈ds,dep e<=50:=fun e he=>Qp (yM he) hn
 rcases h2 with h2 | h2
 ·obtain⟨a,xs,rfl,hl,hs⟩:=h2.lstI
  cases ry;obtain⟨its,rv,p,hz⟩:=I.list hl;refine SeqAt.in_listAt (zOR X.K H d) p.isList (fun y hy=>zEa I h1 rx (by show X.A.units+1+50<cLine;omega) hs rv hd y (by simpa using hy)) ?_
  exact⟨.bl _,H,I,by rw[List.any_toArray,zEm I hs rv];rfl,q⟩
 ·obtain⟨a,xs,rfl,hl,hs⟩:=h2.tupI
  cases ry;obtain⟨its,rv,p,hz⟩:=I.tuple hl;refine SeqAt.in_tupleAt (zOR X.K H d) (show s.heap.IsTuple _ its.toArray from p) (fun y hy=>zEa I h1 rx (by show X.A.units+1+50<cLine;omega) hs rv hd y (by simpa using hy)) ?_
  exact⟨.bl _,H,I,by rw[List.any_toArray,zEm I hs rv];rfl,q⟩
def zTh{X:Cx}:OpK X (zSP X.K false) oIn:=⟨fun a b c z=>(by
  cases b<;>first | cases z | (simp only[oIn] at z;split at z<;>cases z)),fun Hi H x y a b d Q s r1 r2 z q=>by
  cases b<;>first | cases z | skip
  ·rename_i ds
   simp only[oIn] at z;split at z
   ·rename_i h;cases z;exact⟨a,ds,r1.mono s,.inr (r2.mono s),h,q _ Hi H (Ext.refl s) (.bl _)⟩
   ·cases z
  ·rename_i ds
   simp only[oIn] at z;split at z
   ·rename_i h;cases z;exact⟨a,ds,r1.mono s,.inl (r2.mono s),h,q _ Hi H (Ext.refl s) (.bl _)⟩
   ·cases z⟩
end
end L3
namespace L3
open PySem PySem.Spec PyProof.Rows L2
unseal PEd PEf PTd PWd PAd PSd eQ
section
variable{X:Cx}{G:Gx}{a b e:Expr}{es:List Expr}{pos p:Pos}{f g:Ev}{fs gs:Fv}{t u:Tv}{x:Str}{id T:String}
def zCA(X:Cx)(r:List V->Hp->VK->Prop)(o:List D->Res D):Prop:=(∀ a c,o a≠.err c)/\∀(Hi H:Hp)(vs:List V)(ds:List D)(d:D)(Q:VK),Same Hi H->IsDs X.K Hi vs ds->o ds=.ok d->
 (∀ v Hi' H',Ext Hi H Hi' H'->IsD X.K Hi' v d->Q v H')->r vs H Q
def zQz{r:List V->Hp->VK->Prop}{o:List D->Res D}(k:zCA X r o):∀ m H Q,tD X G (eB o fs) m H Q->tCB r (tAs X G fs) m H Q:=fun m H Q q=>by
 obtain⟨ρ,Hi,R,ou⟩:=q;refine zKt R ou fun vs ds Hi1 H1 e1 R1 r1 o1=>?_
 cases z:o ds with
 | no=>rw[z] at o1;exact o1.elim
 | err c=>exact absurd z (k.1 ds c)
 | ok d=>rw[z] at o1;exact k.2 Hi1 H1 vs ds d Q R1.s r1 z fun v Hi2 H2 e2 r2=>o1 Hi2 H2 e2 v r2
def aV{r:List V->Hp->VK->Prop}{o:List D->Res D}(hc:wJ X (.builtin id) r)(k:zCA X r o)(hg:Gl X x)(hm:X.mg x=none)(hv:bootBuiltins x=some (.builtin id))(ha:PAd X G (e::es) fs)(hn:x ≠ "__name__" := by decide)(hdb:(x==("__debug__" : Str))=false:=by decide)
  (he:starEach (e::es) X.env=(false,eval e X.env)::starEach es X.env:=by rfl) (hpl:(backTo pos (starEach es X.env)).any (·.1)=false:=by rfl):PEd X G (.Call (.Name x p) (e::es) [] pos) (eB o fs):=
 PE.wk (zBl hc hg hm hv ha hn hdb he hpl) (zQz k)
def sD{r:List V->Hp->VK->Prop}{o:List D->Res D}(hc:wJ X (.type T) r)(k:zCA X r o)(hg:Gl X x)(hm:X.mg x=none)(hv:bootBuiltins x=some (.type T))(ha:PAd X G (e::es) fs)(hn:x ≠ "__name__" := by decide)(hdb:(x==("__debug__" : Str))=false:=by decide)
  (he:starEach (e::es) X.env=(false,eval e X.env)::starEach es X.env:=by rfl) (hpl:(backTo pos (starEach es X.env)).any (·.1)=false:=by rfl):PEd X G (.Call (.Name x p) (e::es) [] pos) (eB o fs):=
 PE.wk (zDh hc hg hm hv ha hn hdb he hpl) (zQz k)
def IsDs.one{K:Fg_}{H:Hp}{vs:List V}{d:D}(h:IsDs K H vs [d]):∃ v,vs=[v]/\IsD K H v d:=by
 cases h with
 | cons h t=>cases t;exact⟨_,rfl,h⟩
def IsDs.two{K:Fg_}{H:Hp}{vs:List V}{d d':D}(h:IsDs K H vs [d,d']):∃ v w,vs=[v,w]/\IsD K H v d/\IsD K H w d':=by
 cases h with
 | cons h t=>obtain⟨w,rfl,hw⟩:=t.one;exact⟨_,w,rfl,h,hw⟩
def dP:zCA X (fun xs H Q=>∃ p ys,xs=[.ref p]/\(SqL X.K H p ys∨SqT X.K H p ys)/\Q (.int ys.length) H) kU:=⟨fun a c z=>(by
  unfold kU at z;split at z<;>cases z),fun Hi H vs ds d Q s r z q=>by
  unfold kU at z;split at z
  ·cases z
   obtain⟨v,rfl,h⟩:=r.one;obtain⟨a,xs,rfl,h1,h2⟩:=h.lstI;refine⟨a,xs,rfl,.inl (dF s h1),?_⟩
   rw[h2.length];exact q _ Hi H (Ext.refl s) (.int _)
  ·cases z
   obtain⟨v,rfl,h⟩:=r.one;obtain⟨a,xs,rfl,h1,h2⟩:=h.tupI;refine⟨a,xs,rfl,.inr (cK s h1),?_⟩
   rw[h2.length];exact q _ Hi H (Ext.refl s) (.int _)
  ·cases z⟩
def zIJ:zCA X (fun xs H Q=>∃ i,xs=[.int i]/\Q (.int (if i<0 then -i else i)) H) zNJ:=⟨fun a c z=>(by
  unfold zNJ at z;split at z<;>cases z),fun Hi H vs ds d Q s r z q=>by
  unfold zNJ at z;split at z
  ·cases z
   obtain⟨v,rfl,h⟩:=r.one;exact⟨_,by rw[h.intI],q _ Hi H (Ext.refl s) (.int _)⟩
  ·cases z⟩
def zPx:zCA X (fun xs H Q=>∃ i j,xs=[.int i,.int j]/\Q (.int (if j<i then j else i)) H) zRd:=⟨fun a c z=>(by
  unfold zRd at z;split at z<;>cases z),fun Hi H vs ds d Q s r z q=>by
  unfold zRd at z;split at z
  ·cases z
   obtain⟨v,w,rfl,h,h'⟩:=r.two;exact⟨_,_,by rw[h.intI,h'.intI],q _ Hi H (Ext.refl s) (.int _)⟩
  ·cases z⟩
def zGo:zCA X (fun xs H Q=>∃ p ys,xs=[.ref p]/\((SqL X.K H p ys/\∀ l,H l=none->Q (.ref l) (upd H l (.tup ys)))∨(SqT X.K H p ys/\Q (.ref p) H))) zKr:=⟨fun a c z=>(by
  unfold zKr at z;split at z<;>cases z),fun Hi H vs ds d Q s r z q=>by
  unfold zKr at z;split at z
  ·cases z
   obtain⟨v,rfl,h⟩:=r.one;obtain⟨a,xs,rfl,h1,h2⟩:=h.lstI;exact⟨a,xs,rfl,.inl ⟨dF s h1,fun l hl=>q _ _ _ (Ext.new s hl) (.tup (SqT.of bA) (h2.mono (cT (s.none hl) _)))⟩⟩
  ·cases z
   obtain⟨v,rfl,h⟩:=r.one;obtain⟨a,xs,rfl,h1,h2⟩:=h.tupI;exact⟨a,xs,rfl,.inr ⟨cK s h1,q _ Hi H (Ext.refl s) (.tup h1 h2)⟩⟩
  ·cases z⟩
def qO(hg:Gl X "list")(hm:X.mg "list" = none)(hv:bootBuiltins "list" = some (.type "list"))(ha:PAd X G (e::es) fs)
  (he:starEach (e::es) X.env=(false,eval e X.env)::starEach es X.env:=by rfl) (hpl:(backTo pos (starEach es X.env)).any (·.1)=false:=by rfl):PEf X G (.Call (.Name "list" p) (e::es) [] pos) (zBI fs):=
 PE.wk (zDh zDQ hg hm hv ha (by decide) (by decide) he hpl) fun m H Q q=>by
 obtain⟨ρ,Hi,R,ou⟩:=q;refine zKt R ou fun vs ds Hi1 H1 e1 R1 r1 o1=>?_
 split at o1
 ·obtain⟨v,rfl,h⟩:=r1.one
  obtain⟨a,xs,rfl,h1,h2⟩:=h.lstI;exact⟨a,xs,rfl,.inl (dF R1.s h1),fun l hl=>o1 _ _ (Ext.newF R1.s hl) l ⟨e1.h.none hl,R1.s.none hl,xs,bA,h2⟩⟩
 ·obtain⟨v,rfl,h⟩:=r1.one
  obtain⟨a,xs,rfl,h1,h2⟩:=h.tupI;exact⟨a,xs,rfl,.inr (cK R1.s h1),fun l hl=>o1 _ _ (Ext.newF R1.s hl) l ⟨e1.h.none hl,R1.s.none hl,xs,bA,h2⟩⟩
 ·exact o1.elim
structure Kit (K:PySem.W.Frag) (T:String):Prop where
 non:PySem.W.kitOne K (.type "NoneType") (.type T)=some (isT T .non)
 bl:PySem.W.kitOne K (.type "bool") (.type T)=some (isT T (.bl true))
 int:PySem.W.kitOne K (.type "int") (.type T)=some (isT T (.int 0))
 str:PySem.W.kitOne K (.type "str") (.type T)=some (isT T (.str ⟨#[]⟩))
 tup:PySem.W.kitOne K (.type "tuple") (.type T)=some (isT T (.tup []))
 lst:PySem.W.kitOne K (.type "list") (.type T)=some (isT T (.lst []))
def zQL(k:Kit X.K T):wJ X (.builtin "isinstance") (fun xs H Q=>∃ y d,xs=[y,.ty T]/\IsD X.K H y d/\Q (.bl (isT T d)) H):=by
 intro Md s m H xs us Q I r h;obtain⟨y,d,rfl,hd,q⟩:=h;obtain⟨u,w',rfl,rx,rc⟩:=zQS r;cases rc;have fin:∀ tk,EP X Md m Q (.bool (isT T d)) { s with toks:=tk }:=fun tk=>⟨.bl _,H,I.tok _,rfl,q⟩
 cases hd with
 | non=>cases (show u=Value.none from rx);exact Yj PySem.W.kitx_none I.kIn True.intro k.non (fun z=>nomatch z) fin
 | bl y=>cases (show u=Value.bool y from rx);exact Yj PySem.W.kitx_bool I.kIn True.intro k.bl (fun z=>nomatch z) fin
 | int i=>obtain⟨t,q⟩:=(show ∃ t,u=Value.int i t from rx);cases q;exact Yj PySem.W.kitx_int I.kIn True.intro k.int (fun z=>nomatch z) fin
 | str y=>obtain⟨t,q⟩:=(show ∃ t,u=Value.str y t from rx);cases q;exact Yj PySem.W.kitx_str I.kIn True.intro k.str (fun z=>nomatch z) fin
 | @tup a xs ds h hs=>
  cases (show u=Value.ref a from rx)
  obtain⟨its,rv,⟨o,h1,h2,_⟩,hz⟩:=I.tuple h;exact Yj PySem.W.kitx_tuple I.kIn ⟨o,h1,h2⟩ k.tup (fun z=>nomatch z) fin
 | @lst a xs ds h hs=>
  cases (show u=Value.ref a from rx)
  obtain⟨its,rv,⟨o,n,h1,h2,_⟩,hz⟩:=I.list h;exact Yj PySem.W.kitx_list I.kIn ⟨o,h1,h2⟩ k.lst (fun z=>nomatch z) fin
def zRc{c:Expr}(k:Kit X.K T)(hg:Gl X "isinstance")(hm:X.mg "isinstance" = none)(ha:PEd X G a f)(hc:PE X c (tC (.ty T)))
  (h1:starEach [a,c] X.env=(false,eval a X.env)::starEach [c] X.env:=by rfl) (h2:starEach [c] X.env=(false,eval c X.env)::starEach [] X.env:=by rfl) (hpl:(backTo pos (starEach [c] X.env)).any (·.1)=false:=by rfl):
  PEd X G (.Call (.Name "isinstance" p) [a,c] [] pos) (zSH T f):=
 PE.wk (zBl (zQL k) hg hm boot_isinstance (lX ha (lX hc rK h2) h1) (by decide) (by decide) h1 hpl) fun m H Q q=>by
 obtain⟨ρ,Hi,R,ou⟩:=q;refine vX R ou fun v d Hi1 H1 e1 R1 r1 o1=>?_
 exact⟨v,d,rfl,r1.mono R1.s,o1.here R1.s _ (.bl _)⟩
def zHY{K:Fg_}{H:Hp}{v:V}{d:D}(h:IsD K H v d):decide (v=.non)=isNon d:=by
 cases h<;>simp[isNon]
variable{lo hi:Option Expr}{l h:Ov}{p2:Pos}
def tOv(X:Cx)(G:Gx)(f:Ov):TO:=fun m H Q=>∃ ρ Hi,nG X G Hi H m ρ/\Out G Hi H (f ρ) fun o _ H'=>Q o H'
@[irreducible] def POd (X:Cx) (G:Gx) (e:Option Expr) (f:Ov):Prop:=PO X e (tOv X G f)
unseal POd
def PO.wk{X:Cx}{e:Option Expr}{t t':TO}(h:PO X e t)(w:∀ m H Q,t' m H Q->t m H Q):PO X e t':=fun Md s m H Q I q=>h Md s m H Q I (w m H Q q)
def zHI:POd X G none oN:=PO.wk zNp fun m H Q q=>by
 obtain⟨ρ,Hi,R,ou⟩:=q;exact ou.here R.s
def nR(he:PEd X G e f):POd X G (some e) (oS f):=PO.wk (zOm he) fun m H Q q=>by
 obtain⟨ρ,Hi,R,ou⟩:=q;refine vX R ou fun v d Hi1 H1 e1 R1 r1 o1=>?_
 cases d with
 | int i=>exact⟨i,r1.intI,o1.here R1.s⟩
 | _=>exact o1.elim
def zRP{f:Ov}{Hi H:Hp}{m:St}{ρ:Rho}{A:Type}{k:Option Int->Res A}{k':A->Hp->Hp->Prop}{Q:Option Int->Hp->Prop}(R:nG X G Hi H m ρ)(o:Out G Hi H ((f ρ).bind k) k')
  (w:∀ c Hi' H',Ext Hi H Hi' H'->nG X G Hi' H' m ρ->Out G Hi' H' (k c) k'->Q c H'):tOv X G f m H Q:=
 ⟨ρ,Hi,R,o.bind.imp fun d Hi' H' e q=>w d Hi' H' e (R.grow e) q⟩
def zJy(n d:Nat)(i:Option Int):cut n i d=HT.sIx n d i:=by
 cases i with
 | none=>rfl
 | some i=>
  simp only[cut,HT.sIx];split<;>split<;>omega
def IsDs.cut{K:Fg_}{H:Hp}{xs:List V}{ds:List D}(h:IsDs K H xs ds)(l r:Option Int):IsDs K H (zKu xs l r) (gD ds l r):=by
 unfold zKu gD;rw[zJy,zJy,h.length];exact(h.drop _).take _
def wC(he:PEd X G e f)(hl:POd X G lo l)(hu:POd X G hi h):PEf X G (.Subscript e (.Slice lo hi none p2) pos) (fSl f l h):=PE.wk (zFP zJx he hl hu) fun m H Q q=>by
 obtain⟨ρ,Hi,R,ou⟩:=q;refine vX R ou fun v d Hi1 H1 e1 R1 r1 o1=>?_
 refine zRP R1 o1 fun i Hi2 H2 e2 R2 o2=>?_
 refine zRP R2 o2 fun j Hi3 H3 e3 R3 o3=>?_
 cases d with
 | lst ds=>
  obtain⟨a,xs,rfl,h1,h2⟩:=r1.lstI;refine⟨a,xs,rfl,dF (e2.i.trans (e3.i.trans R3.s)) h1,fun p hp=>?_⟩
  exact o3 _ _ (Ext.newF R3.s hp) p ⟨(e1.h.trans (e2.h.trans e3.h)).none hp,R3.s.none hp,_,bA,(h2.cut i j).mono (e2.i.trans e3.i)⟩
 | _=>exact o3.elim
def zSt(K:PySem.W.Frag):R2:=fun x y H Q=>∃ l b xs zs,x=.ref l/\y=.ref b/\SqL K H l xs/\SqL K H b zs/\xs.length+zs.length<=sizeLine/\∀ p,H p=none->Q (.ref p) (upd H p (.lst (xs++zs)))
theorem zNA:OpR X (binaryOp .Add) (zSt X.K):=by
 intro Md s m H x y v u Q I rx ry h;obtain⟨l,b,xs,zs,rfl,rfl,hl,hb,hz,q⟩:=h;cases rx;cases ry;obtain⟨its,r,p,_⟩:=I.list hl;obtain⟨its2,r2,p2,_⟩:=I.list hb;obtain⟨⟨cls,dd,data,sl⟩,ho,hc,n,hd⟩:=id p.isList;obtain⟨⟨cls2,dd2,data2,sl2⟩,ho2,hc2,n2,hd2⟩:=id p2.isList;simp only at hc hd hc2 hd2
 subst hc hd hc2 hd2;have hsz:its.toArray.size+its2.toArray.size<=sizeLine:=by rw[Qh,Qh,<-r.length,<-r2.length];exact hz
 have e:its.toArray++its2.toArray=(its++its2).toArray:=by simp
 refine Jy ⟨_,ho,rfl⟩ ⟨_,ho2,rfl⟩ noFill_list_add seq_list_add PySem.F.slot_list_add PySem.F.entry_list_add (PySem.F.args_list_add_2 _ _) (list_addW l b its.toArray its2.toArray n n2 dd dd2 sl sl2 hsz) ⟨ho,ho2,?_⟩
 rw[e];exact⟨.ref _,_,I.lnew (t':=s.toks) (r.append r2) (by rw[Ql];exact hz),rfl,q _ I.fresh⟩
def zFq(ha:PEd X G a f)(hb:PEd X G b g):PEf X G (.BinOp a .Add b pos) (zOU f g):=PE.wk (zIT zNA ha hb) fun m H Q q=>by
 obtain⟨ρ,Hi,R,ou⟩:=q;refine vX R ou fun v d Hi1 H1 e1 R1 r1 o1=>?_
 refine vX R1 o1 fun w d' Hi2 H2 e2 R2 r2 o2=>?_
 cases d<;>first | exact o2.elim | skip
 cases d'<;>first | exact o2.elim | skip
 rename_i ds es
 obtain⟨a,xs,rfl,h1,h2⟩:=r1.lstI;obtain⟨b,ys,rfl,h3,h4⟩:=r2.lstI;have o2':Out G Hi2 H2 (if ds.length+es.length<=16777216 then Res.ok (ds++es) else .no) _:=o2;by_cases hz:ds.length+es.length<=16777216
 ·rw[Jj hz] at o2'
  refine⟨a,b,xs,ys,rfl,rfl,dF (e2.i.trans e2.s) h1,dF e2.s h3,by rw[h2.length,h4.length];exact hz,fun p hp=>?_⟩
  exact o2' _ _ (Ext.newF e2.s hp) p ⟨(e1.h.trans e2.h).none hp,e2.s.none hp,_,bA,(h2.mono e2.i).append h4⟩
 ·rw[Jk hz] at o2';exact o2'.elim
end
end L3
namespace L3
open PySem PySem.Spec PyProof.Rows L2
unseal PEd PEf PTd PWd PAd PSd eQ POd
section
variable{X:Cx}{G:Gx}{a b e:Expr}{es:List Expr}{pos p:Pos}{f g:Ev}{fs gs:Fv}{t u:Tv}{x:Str}{st:Jh}{rest:List Jh}{sa sb:Sv}
def oO{Hi H:Hp}{l:St}{ρ:Rho}{E:Ends}{B:Type}{r:Res B}{k:B->Res Fl}(R:nG X G Hi H l ρ)(h:Fin X G Hi E (r.bind k)){Q:B->Hp->Hp->Prop}
  (w:∀ a Hi' H',r=.ok a->Ext Hi H Hi' H'->Fin X G Hi' E (k a)->Q a Hi' H'):Out G Hi H r Q:=by
 cases r with
 | no=>exact h
 | err c=>exact fun Hi' H' e=>h Hi' H' (R.ext.trans e)
 | ok a=>exact fun Hi' H' e=>w a Hi' H' rfl e (Fin.mono (show Fin X G Hi E (k a) from h) e.i)
def bC:eQ X G [] sNext:=PSs.wk zOJ fun E l H q=>by
 obtain⟨ρ,Hi,R,h⟩:=q;exact h l Hi H (Same.refl _) R
def zRC{E:Ends}{Hi:Hp}{ρ:Rho}(h:Fin X G Hi E (aW sa sb ρ)):Fin X G Hi { E with nx:=tS X G sb E } (sa ρ):=by
 unfold aW at h
 cases z:sa ρ with
 | no=>rw[z] at h;exact h
 | err c=>rw[z] at h;exact h
 | ok fl=>
  rw[z] at h
  cases fl with
  | nx ρ'=>exact fun l' Hi' H' s R'=>⟨ρ',Hi',R',Fin.mono (show Fin X G Hi E (sb ρ') from h) s⟩
  | brk ρ'=>exact h
  | ctn ρ'=>exact h
  | ret r=>cases r<;>exact h
def zQs{E:Ends}{l:St}{H:Hp}(q:tS X G (aW sa sb) E l H):tS X G sa { E with nx:=tS X G sb E } l H:=by
 obtain⟨ρ,Hi,R,h⟩:=q;exact⟨ρ,Hi,R,zRC h⟩
def aD(h1:PSd X G st sa)(h2:eQ X G rest sb):eQ X G (st::rest) (aW sa sb):=PSs.wk (wD h1 h2) fun _ _ _ q=>zQs q
def aJ(h1:PSd X G st sa):eQ X G [st] sa:=zEN h1
def qI(he:PEd X G e f)(hs:swapsWith e none pos.line X.env=pure false:=by rfl):PSd X G (.Expr e pos) (vI f):=PS.wk (zEl he hs) fun E l H q=>by
 obtain⟨ρ,Hi,R,h⟩:=q;exact⟨ρ,Hi,R,oO R h fun d Hi' H' _ e h' v r=>h' l Hi' H' (Same.refl _) (R.grow e)⟩
def bG(he:PEd X G e f):PSd X G (.Return (some e) pos) (dM f):=PS.wk (zFT he) fun E l H q=>by
 obtain⟨ρ,Hi,R,h⟩:=q;obtain⟨Hf,s1,R1,fl⟩:=R.frz;refine⟨ρ.map Sl.frz,Hf,R1,oO R1 (Fin.mono h s1) fun d Hi' H' _ e h' v r=>?_⟩
 exact h' v Hi' H' (R1.ext.trans e) r
def lD(he:PEf X G e fs):PSd X G (.Return (some e) pos) (pO fs):=PS.wk (zFT he) fun E l H q=>by
 obtain⟨ρ,Hi,R,h⟩:=q;obtain⟨Hf,s1,R1,fl⟩:=R.frz;refine⟨ρ.map Sl.frz,Hf,R1,oO R1 (Fin.mono h s1) fun ds Hi' H' _ e h' a n=>?_⟩
 obtain⟨n1,n2,xs,n3,n4⟩:=n;exact h' a Hi' H' (R1.ext.trans e) ⟨R1.ext.h.none n1,n2,xs,n3,n4⟩
def lN(i:Nat)(he:PE X e (zHc i)):PSd X G (.Return (some e) pos) (jG i):=PS.wk (zFT he) fun E l H q=>by
 obtain⟨ρ,Hi,R,h⟩:=q;unfold jG at h
 cases z:ρ[i]? with
 | none=>rw[z] at h;exact h.elim
 | some s=>
  rw[z] at h
  cases s with
  | own ds=>
   obtain⟨a,xs,p,h1,h2,h3,h4⟩:=R.slot i _ z;exact⟨.ref a,p,h a Hi H R.ext ⟨h3,h2,xs,h1,h4⟩⟩
  | un=>exact h.elim
  | val d=>exact h.elim
  | exc c=>exact h.elim
  | tab T=>exact h.elim
def fR{c:Expr}{as bs:List Jh}(hc:PTd X G c t)(ha:eQ X G as sa)(hb:eQ X G bs sb):PSd X G (.If c as bs pos) (sIf t sa sb):=PS.wk (zSr hc ha hb) fun E l H q=>by
 obtain⟨ρ,Hi,R,h⟩:=q;refine⟨ρ,Hi,R,oO R h fun c Hi' H' _ e h'=>?_⟩
 cases c with
 | true=>exact⟨ρ,Hi',R.grow e,h'⟩
 | false=>exact⟨ρ,Hi',R.grow e,h'⟩
def zSb{i:Nat}{pos':Pos}(hN:X.N.Nodup)(hi:X.N[i]?=some x)(hx:Loc X.env.scope x)(he:PEd X G e f)(hs:swapsWith e (some (.Name x pos')) pos.line X.env=pure false:=by rfl)
  (hf:X.fn x=true∨X.env.scope.names.lookup x=some .local:=by first | exact .inl rfl | exact .inr rfl | assumption):PSd X G (.Assign [.Name x pos'] e pos) (cQ i f):=PS.wk (zMS hN hi hx he hs hf) fun E l H q=>by
 obtain⟨ρ,Hi,R,h⟩:=q;exact⟨ρ,Hi,R,oO R h fun d Hi' H' _ e h' v r=>h' _ Hi' H' (Same.refl _) ((R.grow e).set r)⟩
def vK{i:Nat}{pos':Pos}(hN:X.N.Nodup)(hi:X.N[i]?=some x)(hx:Loc X.env.scope x)(he:PEf X G e fs)(hs:swapsWith e (some (.Name x pos')) pos.line X.env=pure false:=by rfl)
  (hf:X.fn x=true∨X.env.scope.names.lookup x=some .local:=by first | exact .inl rfl | exact .inr rfl | assumption):PSd X G (.Assign [.Name x pos'] e pos) (zFY i fs):=PS.wk (zMS hN hi hx he hs hf) fun E l H q=>by
 obtain⟨ρ,Hi,R,h⟩:=q;refine⟨ρ,Hi,R,oO R h fun ds Hi' H' _ e h' a n=>?_⟩
 obtain⟨n1,n2,xs,n3,n4⟩:=n;exact h' _ Hi' H' (Same.refl _) (R.setOwn e n1 n3 n2 n4)
def uG{i:Nat}{o:Expr}{apos cpos:Pos}(ho:PE X o (zHc i))(he:PEd X G e f)
  (hbase:attributeBase o "append" X.env (eval o X.env)=eval o X.env:=by rfl)
  (hfew:((backTo cpos (starEach [e] X.env)).all (fun x=>!x.1) && (backToKw cpos (keywordEach [] X.env)).all (fun x=>x.1.isSome)
   && decide ([e].length+([]:List Keyword).length+(if ([]:List Keyword).isEmpty then 0 else 1)<30))=true:=by rfl)
  (hline:(apos.endLine==cpos.line)=true:=by rfl) (hs:starEach [e] X.env=(false,eval e X.env)::starEach [] X.env:=by rfl)
  (hsw:swapsWith (.Call (.Attribute o "append" apos) [e] [] cpos) none pos.line X.env=pure false:=by rfl):
  PSd X G (.Expr (.Call (.Attribute o "append" apos) [e] [] cpos) pos) (zCo i f):=
 PS.wk (zEl (zPI Wx PySem.F.slot_list_append PySem.F.type_list_append wO ho (lX he rK hs) hbase hfew hline hs) hsw) fun E l H q=>by
 obtain⟨ρ,Hi,R,h⟩:=q;unfold zCo at h
 cases z:ρ[i]? with
 | none=>rw[z] at h;exact h.elim
 | some s=>
  rw[z] at h
  cases s with
  | own ds=>
   obtain⟨a,xs,p,h1,h2,h3,h4⟩:=R.slot i _ z;refine⟨.ref a,p,.inl ⟨rfl,xs,SqL.of h1⟩,?_⟩
   refine⟨ρ,Hi,R,oO R h fun d Hi' H' _ e h' v r=>?_⟩
   have R':=R.grow e;obtain⟨g1,g2⟩:=e.out h1 h2;by_cases hz:ds.length<16777216
   ·rw[Jj hz] at h'
    refine⟨a,xs,v,rfl,rfl,g1,by rw[h4.length];exact hz,?_⟩
    exact h' l Hi' _ (Same.refl _) (R'.write z p ((h4.mono e.i).append (.cons r .nil)))
   ·rw[Jk hz] at h';exact h'.elim
  | un=>exact h.elim
  | val d=>exact h.elim
  | exc c=>exact h.elim
  | tab T=>exact h.elim
def zQv{i:Nat}{o:Expr}{apos cpos:Pos}(ho:PE X o (zHc i))(he:PEf X G e fs)
  (hbase:attributeBase o "extend" X.env (eval o X.env)=eval o X.env:=by rfl)
  (hfew:((backTo cpos (starEach [e] X.env)).all (fun x=>!x.1) && (backToKw cpos (keywordEach [] X.env)).all (fun x=>x.1.isSome)
   && decide ([e].length+([]:List Keyword).length+(if ([]:List Keyword).isEmpty then 0 else 1)<30))=true:=by rfl)
  (hline:(apos.endLine==cpos.line)=true:=by rfl) (hs:starEach [e] X.env=(false,eval e X.env)::starEach [] X.env:=by rfl)
  (hsw:swapsWith (.Call (.Attribute o "extend" apos) [e] [] cpos) none pos.line X.env=pure false:=by rfl):
  PSd X G (.Expr (.Call (.Attribute o "extend" apos) [e] [] cpos) pos) (zOT i fs):=
 PS.wk (zEl (zPI Wx PySem.F.slot_list_extend PySem.F.type_list_extend zJW ho (lX he rK hs) hbase hfew hline hs) hsw) fun E l H q=>by
 obtain⟨ρ,Hi,R,h⟩:=q;unfold zOT at h
 cases z:ρ[i]? with
 | none=>rw[z] at h;exact h.elim
 | some s=>
  rw[z] at h
  cases s with
  | own ds=>
   obtain⟨a,xs,p,h1,h2,h3,h4⟩:=R.slot i _ z;refine⟨.ref a,p,.inl ⟨rfl,xs,SqL.of h1⟩,?_⟩
   refine⟨ρ,Hi,R,oO R h fun es Hi' H' _ e h' b n=>?_⟩
   obtain⟨n1,n2,ys,n3,n4⟩:=n;have R':=R.grow e;obtain⟨g1,g2⟩:=e.out h1 h2;by_cases hz:ds.length+es.length<=16777216
   ·rw[Jj hz] at h'
    refine⟨a,b,xs,ys,rfl,rfl,g1,n3,by rw[h4.length,n4.length];exact hz,?_⟩
    exact h' l Hi' _ (Same.refl _) (R'.write z p ((h4.mono e.i).append n4))
   ·rw[Jk hz] at h';exact h'.elim
  | un=>exact h.elim
  | val d=>exact h.elim
  | exc c=>exact h.elim
  | tab T=>exact h.elim
def zHE{i:Nat}{o k:Expr}{fk:Ev}{tpos:Pos}(ho:PE X o (zHc i))(hk:PEd X G k fk)(he:PEd X G e f)(hs:swapsWithSole [.Subscript o k tpos] e pos.line X.env=pure false:=by rfl)(hw:swappedStores [.Subscript o k tpos] e X.env=pure none:=by rfl)
  (h1:(assignEach [.Subscript o k tpos] X.env).map (·.2)=[assign (.Subscript o k tpos) X.env]:=by rfl)
  (ha:∀ v,assign (.Subscript o k tpos) X.env v=(do
   let ov <-holding [v] (eval o X.env)
   let iv <-holding [v,ov] (eval k X.env)
   standAt tpos
   holding [v,ov,iv] (setItem ov iv v)
   release [v,ov,iv] []):=by intro _;rfl):PSd X G (.Assign [.Subscript o k tpos] e pos) (zGE i fk f):=
 PS.wk (zMi he (zRf ho hk zLD ha) hs hw h1) fun E l H q=>by
 obtain⟨ρ,Hi,R,h⟩:=q;refine⟨ρ,Hi,R,oO R h fun d Hi1 H1 _ e1 h1 v r=>?_⟩
 have R1:=R.grow e1
 cases z:ρ[i]? with
 | none=>rw[z] at h1;exact h1.elim
 | some s=>
  rw[z] at h1
  cases s with
  | own ds=>
   obtain⟨a,xs,p,g1,g2,g3,g4⟩:=R1.slot i _ z;refine⟨.ref a,p,?_⟩
   refine⟨ρ,Hi1,R1,oO R1 h1 fun j Hi2 H2 _ e2 h2 w rw'=>?_⟩
   have R2:=R1.grow e2;obtain⟨k1,k2⟩:=e2.out g1 g2
   cases j with
   | int j=>
    have hl:=g4.length;have h2':Fin X G Hi2 E (if 0<=j/\j<ds.length then Res.ok (.nx (ρ.set i (.own (ds.set j.toNat d)))) else if -(ds.length:Int)<=j/\j<0 then .ok (.nx (ρ.set i (.own (ds.set (j+ds.length).toNat d)))) else .no):=h2;by_cases c1:0<=j/\j<ds.length
    ·rw[Jj c1] at h2'
     refine⟨a,xs,j,j.toNat,rfl,rw'.intI,k1,by unfold ixN;rw[Jj c1.1,Jj (by omega)],?_⟩
     exact h2' l Hi2 _ (Same.refl _) (R2.write z p ((g4.mono e2.i).set (r.mono e2.i) j.toNat))
    ·rw[Jk c1] at h2'
     by_cases c2:-(ds.length:Int)<=j/\j<0
     ·rw[Jj c2] at h2'
      refine⟨a,xs,j,(j+ds.length).toNat,rfl,rw'.intI,k1,by unfold ixN;rw[Jk (by omega),Jj (by omega),hl],?_⟩
      exact h2' l Hi2 _ (Same.refl _) (R2.write z p ((g4.mono e2.i).set (r.mono e2.i) (j+ds.length).toNat))
     ·rw[Jk c2] at h2';exact h2'.elim
   | _=>exact h2.elim
  | un=>exact h1.elim
  | val d=>exact h1.elim
  | exc c=>exact h1.elim
  | tab T=>exact h1.elim
def zSM{i:Nat}{op:Operator}{o:Op2}{r:Int->Int->Int}{pos':Pos}(hN:X.N.Nodup)(hi:X.N[i]?=some x)(hx:Loc X.env.scope x)(he:PEd X G e f)(ho:PIp X op (ipI r))(hr:∀ a b d,o a b=.ok d->∃ i j,a=.int i/\b=.int j/\d=.int (r i j))(hn:∀ a b c,o a b≠.err c)
  (hf:X.fn x=true∨X.env.scope.names.lookup x=some .local:=by first | exact .inl rfl | exact .inr rfl | assumption):PSd X G (.AugAssign (.Name x pos') op e pos) (zPk i o f):=PS.wk (zPN hN hi hx he ho hf) fun E l H q=>by
 obtain⟨ρ,Hi,R,h⟩:=q;unfold zPk at h
 cases z:ρ[i]? with
 | none=>rw[z] at h;exact h.elim
 | some s=>
  rw[z] at h
  cases s with
  | val d=>
   obtain⟨v,p,rv⟩:=R.slot i _ z;refine⟨v,p,ρ,Hi,R,oO R h fun d' Hi' H' _ e h' w rw'=>?_⟩
   cases q:o d d' with
   | no=>rw[q] at h';exact h'.elim
   | err c=>exact absurd q (hn _ _ _)
   | ok u=>
    rw[q] at h';obtain⟨i',j',rfl,rfl,rfl⟩:=hr _ _ _ q;exact⟨i',j',rv.intI,rw'.intI,h' _ Hi' H' (Same.refl _) ((R.grow e).set (.int _))⟩
  | un=>exact h.elim
  | own ds=>exact h.elim
  | exc c=>exact h.elim
  | tab T=>exact h.elim
def eQ.frzAt(i:Nat){sts:List Jh}(h:eQ X G sts sa):eQ X G sts (sFrzAt i sa):=PSs.wk h fun E l H q=>by
 obtain⟨ρ,Hi,R,h⟩:=q;obtain⟨Hi',s,R'⟩:=R.frzAt (i:=i);exact⟨_,Hi',R',Fin.mono h s⟩
def tGv(X:Cx)(G:Gx)(g:Gv):TG:=fun v l H Q=>∃ d ρ Hi,IsD X.K Hi v d/\nG X G Hi H l ρ/\∃ ρ',g d ρ=.ok ρ'/\∀ l' Hi' H',Same Hi Hi'->nG X G Hi' H' l' ρ'->Q l' H'
@[irreducible] def PGd (X:Cx) (G:Gx) (e:Expr) (g:Gv):Prop:=PG X e (tGv X G g)
unseal PGd
def zQn{i:Nat}(hN:X.N.Nodup)(hi:X.N[i]?=some x)(hx:Loc X.env.scope x)(hf:X.fn x=true∨X.env.scope.names.lookup x=some .local:=by first | exact .inl rfl | exact .inr rfl | assumption):PGd X G (.Name x pos) (gName i):=
 fun Md s l H v u Q I r q=>zEQ hN hi hx hf Md s l H v u Q I r (by
  obtain⟨d,ρ,Hi,rd,R,ρ',e,k⟩:=q;cases e
  exact k _ Hi H (Same.refl _) (R.set rd))
def zTR(X:Cx)(G:Gx)(g:List D->Rho->Res Rho):TGs:=fun vs l H Q=>∃ ds ρ Hi,IsDs X.K Hi vs ds/\nG X G Hi H l ρ/\∃ ρ',g ds ρ=.ok ρ'/\∀ l' Hi' H',Same Hi Hi'->nG X G Hi' H' l' ρ'->Q l' H'
@[irreducible] def iM (X:Cx) (G:Gx) (es:List Expr) (g:List D->Rho->Res Rho):Prop:=PGs X es (zTR X G g)
unseal iM
def zGc:iM X G [] zCd:=fun Md s l H vs us Q I r q=>zIR Md s l H vs us Q I r (by
  obtain⟨ds,ρ,Hi,rd,R,ρ',e,k⟩:=q
  cases ds with
  | nil=>cases rd;cases e;exact⟨rfl,k _ Hi H (Same.refl _) R⟩
  | cons d ds=>cases e)
def mQ{g:Gv}{r:List D->Rho->Res Rho}(h1:PGd X G e g)(h2:iM X G es r)(hs:(assignEach (e::es) X.env).map (·.2)=assign e X.env::(assignEach es X.env).map (·.2):=by rfl):iM X G (e::es) (fT g r):=
 fun Md s l H vs us Q I rr q=>zBh h1 h2 hs Md s l H vs us Q I rr (by
  obtain⟨ds,ρ,Hi,rd,R,ρ',e,k⟩:=q
  cases ds with
  | nil=>cases e
  | cons d ds=>
   cases rd with
   | cons rd rds=>
    refine⟨_,_,rfl,d,ρ,Hi,rd,R,?_⟩
    have e':(g d ρ).bind (fun ρ'=>r ds ρ')=.ok ρ':=e
    cases z:g d ρ with
    | no=>rw[z] at e';cases e'
    | err c=>rw[z] at e';cases e'
    | ok ρ1=>
     rw[z] at e'
     exact⟨ρ1,rfl,fun l1 Hi1 H1 s1 R1=>⟨ds,ρ1,Hi1,rds.mono s1,R1,ρ',e',fun l2 Hi2 H2 s2 R2=>k l2 Hi2 H2 (s1.trans s2) R2⟩⟩)
def zKO{k:Nat}{r:List D->Rho->Res Rho}{n:Nat}(hc:X.calm=true)(h:iM X G es r)(hr:∀ ds ρ ρ',r ds ρ=.ok ρ'->ds.length=n)(hn:(assignEach es X.env).length=n:=by rfl)(hst:(assignEach es X.env).findIdx? (·.1)=none:=by rfl):PGd X G (.Tuple es k pos) (zCc r):=
 fun Md s l H v u Q I rr q=>zMv hc h hn hst Md s l H v u Q I rr (by
  obtain⟨d,ρ,Hi,rd,R,ρ',e,kk⟩:=q
  cases d with
  | tup ds=>
   obtain⟨a,xs,rfl,h1,h2⟩:=rd.tupI;exact⟨a,xs,rfl,cK R.s h1,by rw[h2.length];exact hr ds ρ ρ' e,ds,ρ,Hi,h2,R,ρ',e,kk⟩
  | _=>cases e)
def zSo{tg:Expr}{g:Gv}(he:PEd X G e f)(hg:PGd X G tg g)(hge:∀ d ρ c,g d ρ≠.err c)(hs:swapsWithSole [tg] e pos.line X.env=pure false:=by rfl)(hw:swappedStores [tg] e X.env=pure none:=by rfl)
  (h1:(assignEach [tg] X.env).map (·.2)=[assign tg X.env]:=by rfl):PSd X G (.Assign [tg] e pos) (zSK g f):=PS.wk (zMi he hg hs hw h1) fun E l H q=>by
 obtain⟨ρ,Hi,R,h⟩:=q;refine⟨ρ,Hi,R,oO R h fun d Hi1 H1 _ e1 h1 v r=>?_⟩
 cases z:g d ρ with
 | no=>rw[z] at h1;exact h1.elim
 | err c=>exact absurd z (hge _ _ _)
 | ok ρ'=>rw[z] at h1;exact⟨d,ρ,Hi1,r,R.grow e1,ρ',z,fun l' Hi' H' s R'=>h1 l' Hi' H' s R'⟩
def zH(K:PySem.W.Frag)(Hi:Hp)(J:It)(ds:List D):Prop:=∀(Hi1 H1:Hp),Same Hi Hi1->Same Hi1 H1->∀ i,
 (ds.length<=i->J.stop i H1)/\∀ d,ds[i]?=some d->J.go i H1/\∀ x H2,J.yld i H1 x H2->∃ Hi2,Ext Hi1 H1 Hi2 H2/\IsD K Hi2 x d
def tIv(X:Cx)(G:Gx)(f:Fv):TI:=fun l H R=>∃ ρ Hi,nG X G Hi H l ρ/\Out G Hi H (f ρ) fun ds Hi' H'=>∀ J,zH X.K Hi' J ds->R J H'
@[irreducible] def PId (X:Cx) (G:Gx) (tg e:Expr) (f:Fv):Prop:=PI X tg e (tIv X G f)
unseal PId
def PI.wk{tg:Expr}{t t':TI}(h:PI X tg e t)(w:∀ l H Q,t' l H Q->t l H Q):PI X tg e t':=fun Md s l H Q I q=>h Md s l H Q I (w l H Q q)
def zMo{g:Gv}{J:It}{ds:List D}{Hi1 H1:Hp}{l:St}{ρ:Rho}{E:Ends}(hge:∀ d ρ c,g d ρ≠.err c)(R1:nG X G Hi1 H1 l ρ)(h1:Fin X G Hi1 E (loop g sa ds ρ))(gv:zH X.K Hi1 J ds):zSQ (fun _ _ R=>R J H1) (tGv X G g) (tS X G sa) E l H1:=by
 refine⟨fun i m l' H'=>m=ds.length-i/\∃ ρ' Hi',Same Hi1 Hi'/\nG X G Hi' H' l' ρ'/\Fin X G Hi' E (loop g sa (ds.drop i) ρ'),⟨_,rfl,ρ,Hi1,Same.refl _,R1,h1⟩,?_⟩
 rintro i m l' H' ⟨rfl,ρ',Hi',s',R',h'⟩
 obtain⟨w1,w2⟩:=gv Hi' H' s' R'.s i;by_cases hl:i<ds.length
 ·obtain⟨d,hd⟩:∃ d,ds[i]?=some d:=⟨_,Qj hl⟩
  obtain⟨go,yl⟩:=w2 d hd
  have e3:ds.drop i=d::ds.drop (i+1):=by
   rw[Qj hl] at hd;cases hd;exact U2 hl
  rw[e3] at h';refine .inr ⟨go,fun l2 H2=>∃ ρ2 Hi2,Same Hi1 Hi2/\nG X G Hi2 H2 l2 ρ2/\Fin X G Hi2 E (loop g sa (ds.drop (i+1)) ρ2),fun l2 H2 z=>⟨ds.length-(i+1),by omega,rfl,z⟩,fun x H2 y=>?_⟩
  obtain⟨Hi2,e2,r2⟩:=yl x H2 y;have R2:=R'.grow e2
  have h2:Fin X G Hi2 E ((g d ρ').bind fun ρ1=>(sa ρ1).bind fun f=>match f with
   | .nx ρ2=>loop g sa (ds.drop (i+1)) ρ2
   | .ctn ρ2=>loop g sa (ds.drop (i+1)) ρ2
   | .brk ρ2=>.ok (.nx ρ2)
   | .ret r=>.ok (.ret r)):=Fin.mono h' e2.i
  cases z:g d ρ' with
  | no=>rw[z] at h2;exact h2.elim
  | err c=>exact absurd z (hge _ _ _)
  | ok ρ1=>
   rw[z] at h2;refine⟨d,ρ',Hi2,r2,R2,ρ1,z,fun l3 Hi3 H3 s3 R3=>⟨ρ1,Hi3,R3,?_⟩⟩
   have h3:=Fin.mono h2 s3;have sm:Same Hi1 Hi3:=(s'.trans e2.i).trans s3;simp only[Res.bind] at h3
   cases zb:sa ρ1 with
   | no=>rw[zb] at h3;exact h3.elim
   | err c=>rw[zb] at h3;exact h3
   | ok fl=>
    rw[zb] at h3
    cases fl with
    | nx ρ2=>exact fun l4 Hi4 H4 s4 R4=>⟨ρ2,Hi4,sm.trans s4,R4,Fin.mono (show Fin X G Hi3 E (loop g sa (ds.drop (i+1)) ρ2) from h3) s4⟩
    | ctn ρ2=>exact fun l4 Hi4 H4 s4 R4=>⟨ρ2,Hi4,sm.trans s4,R4,Fin.mono (show Fin X G Hi3 E (loop g sa (ds.drop (i+1)) ρ2) from h3) s4⟩
    | brk ρ2=>exact h3
    | ret r=>cases r<;>exact h3
 ·rw[Yt (by omega)] at h'
  exact .inl ⟨w1 (by omega),h' l' Hi' H' (Same.refl _) R'⟩
def jD{tg iter:Expr}{body:List Jh}{it:Fv}{g:Gv}(hp:PassesOwn (model X.prog X.w) X.A X.env X.xe)(hc:X.calm=true)(hi:PId X G tg iter it)(hg:PGd X G tg g)(hge:∀ d ρ c,g d ρ≠.err c)(hb:eQ X G body sa)
  (hs:∀ x,foldedSetIterable iter X.env x=pure x:=by intro _;rfl):PSd X G (.For tg iter body [] pos) (tV it g sa):=PS.wk (zMK hp hc hi hg hb hs) fun E l H q=>by
 obtain⟨ρ,Hi,R,h⟩:=q;exact⟨ρ,Hi,R,oO R h fun ds Hi1 H1 _ e1 h1 J gv=>zMo hge (R.grow e1) h1 gv⟩
def zHL{c:Expr}{body:List Jh}(hp:PassesOwn (model X.prog X.w) X.A X.env X.xe)(hc:PTd X G c t)(hb:eQ X G body sa):PSd X G (.While c body [] pos) (gW t sa):=PS.wk (zLy hp hc hb) fun E l H q=>by
 obtain⟨ρ,Hi,R,h⟩:=q;have hn:gW t sa ρ≠.no:=fun z=>by rw[z] at h;exact h
 obtain⟨n,en⟩:=qL hn;rw[en] at h;refine⟨fun m l' H'=>∃ ρ' Hi',Same Hi Hi'/\nG X G Hi' H' l' ρ'/\Fin X G Hi' E (wh t sa m ρ'),⟨n,ρ,Hi,Same.refl _,R,h⟩,?_⟩
 rintro m l' H' ⟨ρ',Hi',s',R',h'⟩
 cases m with
 | zero=>exact h'.elim
 | succ m=>
  rw[wh] at h';refine⟨ρ',Hi',R',oO R' h' fun c Hi1 H1 _ e1 h1=>?_⟩
  have R1:=R'.grow e1
  cases c with
  | false=>exact h1 l' Hi1 H1 (Same.refl _) R1
  | true=>
   refine⟨fun l2 H2=>∃ ρ2 Hi2,Same Hi Hi2/\nG X G Hi2 H2 l2 ρ2/\Fin X G Hi2 E (wh t sa m ρ2),fun l2 H2 z=>⟨m,by omega,z⟩,ρ',Hi1,R1,?_⟩
   have sm:Same Hi Hi1:=s'.trans e1.i;simp only[if_true] at h1
   cases zb:sa ρ' with
   | no=>rw[zb] at h1;exact h1.elim
   | err c=>rw[zb] at h1;exact h1
   | ok fl=>
    rw[zb] at h1
    cases fl with
    | nx ρ2=>exact fun l4 Hi4 H4 s4 R4=>⟨ρ2,Hi4,sm.trans s4,R4,Fin.mono (show Fin X G Hi1 E (wh t sa m ρ2) from h1) s4⟩
    | ctn ρ2=>exact fun l4 Hi4 H4 s4 R4=>⟨ρ2,Hi4,sm.trans s4,R4,Fin.mono (show Fin X G Hi1 E (wh t sa m ρ2) from h1) s4⟩
    | brk ρ2=>exact h1
    | ret r=>cases r<;>exact h1
def zJI{K:Fg_}{Hi:Hp}{a:Jc}{xs:List V}{ds:List D}(h:SqT K Hi a xs)(hs:IsDs K Hi xs ds):zH K Hi (Itt K a) ds:=fun Hi1 H1 s1 s2 i=>by
 have h1:=cK (s1.trans s2) h;refine⟨fun hl=>⟨xs,h1,by rw[hs.length];exact hl⟩,fun d hd=>?_⟩
 obtain⟨v,hv,r⟩:=hs.at hd;refine⟨⟨xs,v,h1,hv⟩,fun x H2 y=>?_⟩
 obtain⟨e,y⟩:=y;subst e;have:=y xs h1
 rw[hv] at this;cases this;exact⟨Hi1,Ext.refl s2,r.mono s1⟩
def zNP{lo c:Int}{n i:Nat}{d:D}(h:(rng lo n c)[i]?=some d):i<n/\d=.int (lo+(i:Int)*c):=by
 unfold rng at h;rw[Qq] at h;by_cases hl:i<n
 ·rw[V8 hl] at h;cases h;exact⟨hl,rfl⟩
 ·rw[Qz (by rw[Vd];omega)] at h;cases h
def zNc(lo c:Int)(n:Nat):(rng lo n c).length=n:=by unfold rng;rw[Qi,Vd]
def zDk{K:Fg_}{Hi:Hp}(lo:Int)(n:Nat):zH K Hi (Itr lo n) (rng lo n 1):=fun Hi1 H1 s1 s2 i=>by
 refine⟨fun hl=>by rw[zNc] at hl;exact hl,fun d hd=>?_⟩
 obtain⟨h1,rfl⟩:=zNP hd;refine⟨h1,fun x H2 y=>?_⟩
 obtain⟨e,y⟩:=y;subst e y;rw[Vv];exact⟨Hi1,Ext.refl s2,.int _⟩
def zFs{tg:Expr}(hg:Gl X "range")(hm:X.mg "range" = none)(ha:PAd X G [a] fs)(hs:starEach [a] X.env=[(false,eval a X.env)]:=by rfl):PId X G tg (.Call (.Name "range" p) [a] [] pos) (zDu fs):=PI.wk (zIa hg hm ha hs) fun l H Q q=>by
 obtain⟨ρ,Hi,R,ou⟩:=q;refine zKt R ou fun vs ds Hi1 H1 e1 R1 r1 o1=>?_
 split at o1
 ·rename_i j
  obtain⟨v,rfl,h⟩:=r1.one;by_cases hz:-(2^62)<=j/\j<2^62
  ·rw[Jj hz] at o1
   exact⟨j,by rw[h.intI],hz.1,hz.2,o1.here R1.s _ (zDk 0 j.toNat)⟩
  ·rw[Jk hz] at o1;exact o1.elim
 ·exact o1.elim
def zRr{tg:Expr}(hg:Gl X "range")(hm:X.mg "range" = none)(ha:PAd X G [a,b] fs)(hs:starEach [a,b] X.env=[(false,eval a X.env),(false,eval b X.env)]:=by rfl)(hs2:starEach [b] X.env=[(false,eval b X.env)]:=by rfl):PId X G tg (.Call (.Name "range" p) [a,b] [] pos) (zJb fs):=PI.wk (zJY hg hm ha hs hs2) fun l H Q q=>by
 obtain⟨ρ,Hi,R,ou⟩:=q;refine zKt R ou fun vs ds Hi1 H1 e1 R1 r1 o1=>?_
 split at o1
 ·rename_i i j
  obtain⟨v,w,rfl,h,h'⟩:=r1.two;by_cases hz:-(2^62)<=i/\i<2^62/\-(2^62)<=j/\j<2^62
  ·rw[Jj hz] at o1
   exact⟨i,j,by rw[h.intI,h'.intI],hz,o1.here R1.s _ (zDk i (j-i).toNat)⟩
  ·rw[Jk hz] at o1;exact o1.elim
 ·exact o1.elim
end
end L3
namespace L3
open PySem PySem.Spec PyProof.Rows L2
unseal PEd PEf PTd PWd PAd PSd eQ POd PGd iM PId
structure Fn (K:PySem.W.Frag) (mg:Str->Option Ja) (x:Str) (st:Jh) (ps:List Str) (f:Jc) (fd:FuncData):Prop where
 fn:Fun K x x st f fd
 bd:zDB K fd ps []
 kp:PySem.W.keepIn K (.ref f)=true
 mg:mg x=some (.ref f)
def XE(X:Cx)(G:Gx):XK:=fun cls _ H=>∃ c,X.mg c=some cls/\G.E c H
def sR(K:PySem.W.Frag)(mg:Str->Option Ja)(P:Jc):Prop:=∃ f oc od fd osl c,mg "ranked" = some (.ref f)/\K.lookup f=some ⟨oc,od,.func fd,osl⟩/\fd.code=.ref c/\∀ h,K.In h->PySem.W.CodeHd h c P
def TB(K:PySem.W.Frag)(mg:Str->Option Ja)(Hi H:Hp):Prop:=∀ P,sR K mg P->zCn P H/\Hi P=none
def TB.ext{K:Fg_}{mg:Str->Option Ja}{Hi H Hi' H':Hp}(t:TB K mg Hi H)(e:Ext Hi H Hi' H'):TB K mg Hi' H':=fun P h=>⟨e.h.t P (t P h).1,by
 cases z:Hi' P with
 | none=>rfl
 | some o=>
  obtain⟨⟨ps,q,_⟩,n⟩:=t P h;have:=e.n P n (by rw[z];exact fun w=>by cases w)
  rw[q] at this;cases this⟩
structure Good (X:Cx) (G:Gx) (k:Nat):Prop where
 calm:X.calm=true
 room:Room k X.A
 pass:zGj (CX1 X.prog X.w) X (XE X G)
 own:PassesOwn (model X.prog X.w) X.A X.env X.xe
 tb:TB X.K X.mg G.Bi G.B
def zGR(X:Cx)(G:Gx):Prop:=∀(Md:List (Jc×Obj))(r:St)(H:Hp)(s s':Jb)(ea:Jc)(cls:Ja)(vs:List Ja),Inv X Md r H s->Heap.MadeExcOf s.heap s'.heap ea cls vs->s'.os=s.os->AllBare s'.gens->XE X G cls none H->X.xe (.ref ea) s'
def spM(K:PySem.W.Frag)(mg:Str->Option Ja)(p:Nat)(m:Mir):Sp:=fun vs H Q E=>vs.length=p/\∃ Bi ds,TB K mg Bi H/\Same Bi H/\IsDs K Bi vs ds/\match m ds with
 | .ok (.v d)=>∀ v Hi' H',Ext Bi H Hi' H'->IsD K Hi' v d->Q v H'
 | .ok (.f es)=>∀ a Hi' H',Ext Bi H Hi' H'->zKL K H Hi' H' a es->Q (.ref a) H'
 | .err c=>∀ C,mg c=some C->∀ Hi' H',Ext Bi H Hi' H'->E C none H'
 | .no=>False
structure CanM (P:Je) (w:Jf) (K:PySem.W.Frag) (mg:Str->Option Ja) (base:Jd) (k:Nat) (x:Str) (ps:List Str) (m:Mir):Prop where
 ex:∃ f fd,FnOk P w K mg base (CX1 P w) k f fd ps (spM K mg ps.length m)/\zDB K fd ps []/\PySem.W.keepIn K (.ref f)=true/\mg x=some (.ref f)
 ln:∀ ds,m ds≠.no->ds.length=ps.length
def Good.u{X:Cx}{G:Gx}{k:Nat}(W:Good X G k):X.A.units+64<cLine:=W.room.units
def CanM.mono{P:Je}{w:Jf}{K:Fg_}{mg:Str->Option Ja}{base:Jd}{j k:Nat}{x:Str}{ps:List Str}{m:Mir}(c:CanM P w K mg base j x ps m)(h:j<=k):CanM P w K mg base k x ps m:=by
 obtain⟨⟨f,fd,F,r⟩,l⟩:=c;exact⟨⟨f,fd,F.mono h,r⟩,l⟩
section
variable{X:Cx}{G:Gx}{a b e:Expr}{es:List Expr}{pos p:Pos}{f g:Ev}{fs gs:Fv}{t u:Tv}{x:Str}{st:Jh}{rest:List Jh}{sa sb:Sv}{k:Nat}{ps:List Str}{m:Mir}
def zQx{ps:List Str}(tb:TB X.K X.mg G.Bi G.B)(ln:∀ ds,m ds≠.no->ds.length=ps.length):∀ i H Q,tD X G (aN m fs) i H Q->zNu (spM X.K X.mg ps.length m) [] (XE X G) (tAs X G fs) i H Q:=fun i H Q q=>by
 obtain⟨ρ,Hi,R,ou⟩:=q;refine zKt R ou fun vs ds Hi1 H1 e1 R1 r1 o1=>?_
 rw[Vs];have hm:m ds≠.no:=fun z=>by rw[z] at o1;exact o1
 refine⟨by rw[r1.length];exact ln ds hm,Hi1,ds,tb.ext R1.ext,R1.s,r1,?_⟩
 cases z:m ds with
 | no=>exact absurd z hm
 | err c=>rw[z] at o1;exact fun C hC Hi2 H2 e2=>⟨c,hC,o1 Hi2 H2 e2⟩
 | ok r=>
  rw[z] at o1
  cases r with
  | v d=>exact fun v Hi2 H2 e2 r2=>o1 Hi2 H2 e2 v r2
  | f ds=>
   intro a Hi2 H2 e2 n;obtain⟨n1,n2,xs,n3,n4⟩:=n;exact o1 _ _ (e2.hold n1 n3 n2) (.ref a) (.lst (SqL.of bA) (n4.mono (cT n2 _)))
def aF(W:Good X G k)(c:CanM X.prog X.w X.K X.mg X.base k x ps m)(hg:Gl X x)(ha:PAd X G (e::es) fs)
  (hdb:(x==("__debug__" : Str))=false:=by decide) (he:starEach (e::es) X.env=(false,eval e X.env)::starEach es X.env:=by rfl) (hpl:(backTo pos (starEach es X.env)).any (·.1)=false:=by rfl):
  PEd X G (.Call (.Name x p) (e::es) [] pos) (aN m fs):=by
 obtain⟨⟨f,fd,F,b,kp,hm⟩,ln⟩:=c;exact PE.wk (zEM F W.room hg hm kp b .nil W.pass ha hdb he hpl) (zQx W.tb ln)
def zOt{ps:List Str}(tb:TB X.K X.mg G.Bi G.B)(ln:∀ ds,m ds≠.no->ds.length=ps.length):∀ i H Q,tF X G (fE m fs) i H Q->zNu (spM X.K X.mg ps.length m) [] (XE X G) (tAs X G fs) i H Q:=fun i H Q q=>by
 obtain⟨ρ,Hi,R,ou⟩:=q;refine zKt R ou fun vs ds Hi1 H1 e1 R1 r1 o1=>?_
 rw[Vs];have hm:m ds≠.no:=fun z=>by rw[z] at o1;exact o1
 refine⟨by rw[r1.length];exact ln ds hm,Hi1,ds,tb.ext R1.ext,R1.s,r1,?_⟩
 cases z:m ds with
 | no=>exact absurd z hm
 | err c=>rw[z] at o1;exact fun C hC Hi2 H2 e2=>⟨c,hC,o1 Hi2 H2 e2⟩
 | ok r=>
  rw[z] at o1
  cases r with
  | v d=>exact o1.elim
  | f ds=>exact fun a Hi2 H2 e2 n=>o1 Hi2 H2 e2 a ⟨e1.h.none n.1,n.2⟩
def cE(W:Good X G k)(c:CanM X.prog X.w X.K X.mg X.base k x ps m)(hg:Gl X x)(ha:PAd X G (e::es) fs)
  (hdb:(x==("__debug__" : Str))=false:=by decide) (he:starEach (e::es) X.env=(false,eval e X.env)::starEach es X.env:=by rfl) (hpl:(backTo pos (starEach es X.env)).any (·.1)=false:=by rfl):
  PEf X G (.Call (.Name x p) (e::es) [] pos) (fE m fs):=by
 obtain⟨⟨f,fd,F,b,kp,hm⟩,ln⟩:=c;exact PE.wk (zEM F W.room hg hm kp b .nil W.pass ha hdb he hpl) (zOt W.tb ln)
def fW{d:D}(hg:Gl X x)(h:∃ v u',X.mg x=some u'/\dZ v u'/\IsD X.K (fun _=>none) v d)(hdb:(x==("__debug__" : Str))=false:=by decide):PEd X G (.Name x pos) (eC d):=by
 obtain⟨v,u',hm,r,hd⟩:=h;exact iE (zKb hg hm r hdb) fun H=>hd.mono fun b o z=>by cases z
end
abbrev BX(P:Je)(w:Jf)(K:PySem.W.Frag)(mg:Str->Option Ja)(base:Jd)(N:List Str)(x:Str)(st:Jh)(f:Jc)(cdv:Ja)(A:Jg)(outer:List Env)(s:Jb)(H:Hp)(E:XK):Cx:=
 zGO (CX1 P w) P w K mg base N x (aH st) f cdv A outer s H E
def zDq{K:Fg_}{mg:Str->Option Ja}{Bi H:Hp}{N:List Str}{vs:List V}{ds:List D}(s:Same Bi H)(h:IsDs K Bi vs ds):Rel K mg H Bi Bi H (L2.start N vs) (L3.start N.length ds) where
 len:=by
  unfold L2.start L3.start;rw[Ql,Ql,Qi,Qi,Xy,Xy,h.length]
 ext:=Ext.refl s
 slot:=fun i sl e=>by
  unfold L3.start at e;by_cases hi:i<ds.length
  ·rw[Vl (by rw[Qi];exact hi),Qq] at e
   obtain⟨d,hd⟩:∃ d,ds[i]?=some d:=⟨_,Qj hi⟩;rw[hd] at e;cases e
   obtain⟨v,hv,r⟩:=h.at hd;refine⟨v,?_,r⟩
   unfold L2.start;rw[Vl (by rw[Qi,h.length];exact hi),Qq,hv];rfl
  ·rw[Vw (by rw[Qi];omega),Uq] at e
   split at e
   ·cases e;trivial
   ·cases e
 dist:=fun i j a es fs e _ _ _=>by
  exfalso
  unfold L3.start at e;by_cases hi:i<ds.length
  ·rw[Vl (by rw[Qi];exact hi),Qq] at e
   cases z:ds[i]? with
   | none=>rw[z] at e;cases e
   | some d=>rw[z] at e;cases e
  ·rw[Vw (by rw[Qi];omega),Uq] at e
   split at e<;>cases e
section
variable{P:Je}{w:Jf}{K:Fg_}{mg:Str->Option Ja}{base:Jd}{N ps:List Str}{x:Str}{st:Jh}{f:Jc}{fd:FuncData}{k:Nat}{b:Sv}
def zHF{cdv:Ja}{A:Jg}{outer:List Env}{s:Jb}{H Bi:Hp}{E:XK}(hr:Room k (A.deeper (envOfC x (aH st) s.heap.objs.size f cdv)))(tb:TB K mg Bi H):
  Good (BX P w K mg base N x st f cdv A outer s H E) ⟨H,Bi,fun c H'=>∀ C,mg c=some C->E C none H'⟩ k where
 calm:=rfl
 room:=hr
 pass:=zSl fun c H' q=>by
  obtain⟨c',h1,h2⟩:=q;exact h2 c h1
 own:=PassesOwn.leaving
 tb:=tb
def zFZ{cdv:Ja}{A:Jg}{outer:List Env}{s:Jb}{H Bi:Hp}{E:XK}:
  zGR (BX P w K mg base N x st f cdv A outer s H E) ⟨H,Bi,fun c H'=>∀ C,mg c=some C->E C none H'⟩:=fun Md p H1 s1 s' ea cls vs I hx hos hg q=>by
 obtain⟨c',h1,h2⟩:=q;exact zFk I hx hos hg (h2 cls h1)
def zQH(F:Fn K mg x st ps f fd)(S:FnScope N ps (aH st))
  (h:∀(cdv:Ja)(A:Jg)(outer:List Env)(s:Jb)(H:Hp)(E:XK)(G:Gx),Good (BX P w K mg base N x st f cdv A outer s H E) G k->zGR (BX P w K mg base N x st f cdv A outer s H E) G->eQ (BX P w K mg base N x st f cdv A outer s H E) G (fU st) b):
  FnOk P w K mg base (CX1 P w) (k+1) f fd ps (spM K mg ps.length (fn ps.length N.length b)):=by
 obtain⟨oc,od,kV,doc,pm,an,cdv,ct,osl,rfl,lk,hcd⟩:=F.fn.ex;refine zPn lk hcd S (fun vs H Q E h=>h.1) fun A outer s H vs Q E hr hsp=>?_
 obtain⟨hl,Bi,ds,tb,sm,hd,hq⟩:=hsp;have hg:=zHF (P:=P) (w:=w) (K:=K) (mg:=mg) (base:=base) (N:=N) (outer:=outer) (H:=H) (Bi:=Bi) (E:=E) hr tb;refine⟨_,h cdv A outer s H E _ hg zFZ,L3.start N.length ds,Bi,zDq sm hd,?_⟩
 have hlen:ds.length=ps.length:=by rw[<-hd.length];exact hl
 unfold fn at hq;rw[Jj hlen] at hq
 cases z:b (L3.start N.length ds) with
 | no=>rw[z] at hq;exact hq
 | err c=>rw[z] at hq;exact fun Hi' H' e C hC=>hq C hC Hi' H' e
 | ok fl=>
  rw[z] at hq
  cases fl with
  | nx r'=>exact fun p' Hi' H' s R=>hq .non Hi' H' R.ext .non
  | brk r'=>exact hq.elim
  | ctn r'=>exact hq.elim
  | ret r=>
   cases r with
   | v d=>exact hq
   | f es=>exact hq
def qR(F:Fn K mg x st ps f fd)(S:FnScope N ps (aH st))
  (h:∀(cdv:Ja)(A:Jg)(outer:List Env)(s:Jb)(H:Hp)(E:XK)(G:Gx),Good (BX P w K mg base N x st f cdv A outer s H E) G k->zGR (BX P w K mg base N x st f cdv A outer s H E) G->eQ (BX P w K mg base N x st f cdv A outer s H E) G (fU st) b):
  CanM P w K mg base (k+1) x ps (fn ps.length N.length b):=by
 refine⟨⟨f,fd,zQH F S h,F.bd,F.kp,F.mg⟩,fun ds hm=>?_⟩
 unfold fn at hm;split at hm
 ·assumption
 ·exact absurd rfl hm
end
section
variable{X:Cx}{G:Gx}{a b e:Expr}{es:List Expr}{pos p:Pos}{f g:Ev}{fs gs:Fv}{t u:Tv}{x:Str}{st:Jh}{rest:List Jh}{sa sb:Sv}{k:Nat}
def zNj{c:Expr}(ha:PEd X G a f)(hc:PE X c (tC .non))(hm:behindInMarks .Is c=false):PTd X G (.Compare a [.Is] [c] pos) (cX (zPl f)):=PT.wk (wL zQk ha hc hm) fun m H Q q=>by
 obtain⟨ρ,Hi,R,ou⟩:=q;unfold cX zPl at ou
 cases z:f ρ with
 | no=>rw[z] at ou;exact ou.elim
 | err c=>rw[z] at ou;exact⟨ρ,Hi,R,by rw[z];exact ou⟩
 | ok d=>
  rw[z] at ou;refine⟨ρ,Hi,R,?_⟩
  rw[z];intro Hi1 H1 e1 v r;exact⟨rfl,_,rfl,by rw[zHY r];exact ou Hi1 H1 e1⟩
def zBs{c:Expr}(ha:PEd X G a f)(hc:PE X c (tC .non))(hm:behindInMarks .IsNot c=false):PTd X G (.Compare a [.IsNot] [c] pos) (cX (zHi f)):=PT.wk (wL zOO ha hc hm) fun m H Q q=>by
 obtain⟨ρ,Hi,R,ou⟩:=q;unfold cX zHi at ou
 cases z:f ρ with
 | no=>rw[z] at ou;exact ou.elim
 | err c=>rw[z] at ou;exact⟨ρ,Hi,R,by rw[z];exact ou⟩
 | ok d=>
  rw[z] at ou;refine⟨ρ,Hi,R,?_⟩
  rw[z];intro Hi1 H1 e1 v r;exact⟨rfl,_,rfl,by rw[zHY r];exact ou Hi1 H1 e1⟩
def iSq(K:PySem.W.Frag)(tl:TE):TI:=fun m H R=>tl m H fun x H1=>∃ a,x=.ref a/\(((∃ xs,SqL K H1 a xs)/\R (Itl K a) H1)∨((∃ xs,SqT K H1 a xs)/\R (Itt K a) H1))
def zRb{tg l:Expr}{tl:TE}(hl:PE X l tl):PI X tg l (iSq X.K tl):=by
 intro Md s m H R I h;refine thn (hl Md s m H _ I h) fun v s1 ⟨x,H1,I1,r1,q1⟩=>?_
 obtain⟨a,e,q1⟩:=q1;subst e;cases r1;rcases q1 with⟨⟨xs,hq⟩,q⟩ | ⟨⟨xs,hq⟩,q⟩
 ·obtain⟨its,rv,p,hz⟩:=I1.list hq
  refine wpAny_pyIter_list p.isList ?_
  refine⟨s1.heap.objs.size,[s1.heap.objs.size],_,_,H1,rfl,I1.kept (t':=s1.toks) fun b o e=>Heap.get?_push_of_some _ e,zCt a _,⟨_,Heap.get?_push_size _ rfl,rfl,rfl⟩,fun b hb=>?_,q⟩
  have e:b=s1.heap.objs.size:=by simpa using hb
  subst e;exact I1.fpOk (Qb _) (I1.hok.fresh (Qb _))
 ·obtain⟨its,rv,p,hz⟩:=I1.tuple hq
  refine wpAny_pyIter_tuple (show s1.heap.IsTuple a its.toArray from p) ?_
  refine⟨s1.heap.objs.size,[s1.heap.objs.size],_,_,H1,rfl,I1.kept (t':=s1.toks) fun b o e=>Heap.get?_push_of_some _ e,zGD a _,⟨_,Heap.get?_push_size _ rfl,rfl,rfl⟩,fun b hb=>?_,q⟩
  have e:b=s1.heap.objs.size:=by simpa using hb
  subst e;exact I1.fpOk (Qb _) (I1.hok.fresh (Qb _))
def zCs{K:Fg_}{Hi:Hp}{a:Jc}{xs:List V}{ds:List D}(h1:SqL K Hi a xs)(h2:IsDs K Hi xs ds):zH K Hi (Itl K a) ds:=fun Hi1 H1 s1 s2 i=>by
 have h3:=dF (s1.trans s2) h1;refine⟨fun hl=>⟨xs,h3,by rw[h2.length];exact hl⟩,fun d hd=>?_⟩
 obtain⟨v,hv,r⟩:=h2.at hd;refine⟨⟨xs,v,h3,hv⟩,fun x H2 y=>?_⟩
 obtain⟨e,y⟩:=y;subst e;have:=y xs h3
 rw[hv] at this;cases this;exact⟨Hi1,Ext.refl s2,r.mono s1⟩
def kW{tg:Expr}(h:PEd X G e f):PId X G tg e (vC f):=PI.wk (zRb h) fun m H Q q=>by
 obtain⟨ρ,Hi,R,ou⟩:=q;refine vX R ou fun v d Hi1 H1 e1 R1 r1 o1=>?_
 cases d with
 | lst ds=>
  obtain⟨a,xs,rfl,h1,h2⟩:=r1.lstI;exact⟨a,rfl,.inl ⟨⟨xs,dF R1.s h1⟩,o1.here R1.s _ (zCs h1 h2)⟩⟩
 | tup ds=>
  obtain⟨a,xs,rfl,h1,h2⟩:=r1.tupI;exact⟨a,rfl,.inr ⟨⟨xs,cK R1.s h1⟩,o1.here R1.s _ (zJI h1 h2)⟩⟩
 | _=>exact o1.elim
def bL{i:Nat}:∀ d ρ c,gName i d ρ≠.err c:=fun d ρ c z=>by cases z
def zBQ:∀ d ρ c,zCd d ρ≠.err c:=fun d ρ c z=>by cases d<;>cases z
def jO{g:Gv}{r:List D->Rho->Res Rho}(h1:∀ d ρ c,g d ρ≠.err c)(h2:∀ d ρ c,r d ρ≠.err c):∀ d ρ c,fT g r d ρ≠.err c:=fun d ρ c z=>by
 cases d with
 | nil=>cases z
 | cons d ds=>
  have z':(g d ρ).bind (fun ρ'=>r ds ρ')=.err c:=z
  cases q:g d ρ with
  | no=>rw[q] at z';cases z'
  | err c'=>exact h1 _ _ _ q
  | ok ρ'=>rw[q] at z';exact h2 _ _ _ z'
def zBb{r:List D->Rho->Res Rho}(h:∀ d ρ c,r d ρ≠.err c):∀ d ρ c,zCc r d ρ≠.err c:=fun d ρ c z=>by
 cases d<;>first | cases z | exact h _ _ _ z
def zFV:∀(ds:List D)(ρ ρ':Rho),zCd ds ρ=.ok ρ'->ds.length=0:=fun ds ρ ρ' z=>by
 cases ds with
 | nil=>rfl
 | cons d ds=>cases z
def mT{g:Gv}{r:List D->Rho->Res Rho}{n:Nat}(h:∀ (ds:List D) (ρ ρ':Rho),r ds ρ=.ok ρ'->ds.length=n):∀(ds:List D)(ρ ρ':Rho),fT g r ds ρ=.ok ρ'->ds.length=n+1:=fun ds ρ ρ' z=>by
 cases ds with
 | nil=>cases z
 | cons d ds=>
  have z':(g d ρ).bind (fun ρ'=>r ds ρ')=.ok ρ':=z
  cases q:g d ρ with
  | no=>rw[q] at z';cases z'
  | err c'=>rw[q] at z';cases z'
  | ok ρ1=>rw[q] at z';rw[Qk,h ds ρ1 ρ' z']
def zOw:∀ a b d,vU a b=.ok d->∃ i j,a=.int i/\b=.int j/\d=.int (i-j):=fun a b d z=>by
 unfold vU at z;split at z
 ·cases z;exact⟨_,_,rfl,rfl,rfl⟩
 ·cases z
def zKJ:∀ a b c,vU a b≠.err c:=fun a b c z=>by unfold vU at z;split at z<;>cases z
end
def zCC{K:Fg_}{H:Hp}:∀ ns:List Int,IsDs K H (ns.map V.int) (ns.map D.int)
 | []=>.nil
 | n::ns=>.cons (.int n) (zCC ns)
section
variable{X:Cx}{G:Gx}{e:Expr}{es:List Expr}{pos np cpos:Pos}{fs:Fv}{k:Nat}{c:Str}
def kQ(W:Good X G k)(WR:zGR X G)(hR:∃ C,Err X.K X.mg c C)(hg:Gl X c)(ha:PAd X G (e::es) fs)
  (he:starEach (e::es) X.env=(false,eval e X.env)::starEach es X.env:=by rfl) (hplain:(backTo cpos (starEach es X.env)).any (·.1)=false:=by rfl) (hd:(c==("__debug__" : Str))=false:=by decide):
  PSd X G (.Raise (some (.Call (.Name c np) (e::es) [] cpos)) none pos) (mF c fs):=by
 intro Md s p H E I q;obtain⟨ρ,Hi,R,h⟩:=q;obtain⟨C,Er⟩:=hR;obtain⟨bmB,newId,B,initId,O,FB⟩:=Er.own X.base I.mod.kin;obtain⟨tl,N,nm,q,bs,hdct,sn,sub,ab,col,dd,k0,k1,k2,k3,k5,mN,hC,hN,hni,T⟩:=O.obj
 have hA:=ha cpos Md s p H (fun vs H1=>vs.length<=sizeLine/\XE X G (.ref C) none H1) I ⟨ρ,Hi,R,oO R h fun ds Hi' H' _ e1 h' vs r=>by
  have h':Fin X G Hi' E (if ds.length<=16777216 then (.err c:Res Fl) else .no):=h';by_cases hz:ds.length<=16777216
  ·rw[Jj hz] at h'
   exact⟨by rw[r.length];exact hz,c,O.bound,h' Hi' H' (R.ext.trans e1)⟩
  ·rw[Jk hz] at h';exact h'.elim⟩
 refine wpAny_Raise_call_subT (C:=C) (nm:=nm) (q:=q) (N:=N) (bs:=bs) (bm:=tl) (hdct:=hdct) (sn:=sn) (sub:=sub) (ab:=ab) (col:=col) (dd:=dd) (k0:=k0) (k1:=k1) (k2:=k2) (k3:=k3) (k5:=k5)
  FB (mN:=mN) (T.hasType FB.hasBase) (I.ok.hd W.calm) (by rw[he];show(false || (backTo cpos (starEach es X.env)).any (·.1))=false;rw[hplain];rfl) hni (xB I hg O.bound ⟨rfl,?_⟩ hd)
 rw[he] at hA ⊢
 refine Calls.evalArgs_plain (wpAny_mono hA (fun us s₂ h₂=>?_) fun _ _ y=>y)
 obtain⟨vs,H2,I2,rv,hz,hx⟩:=h₂;exact⟨rfl,by show us.length<=sizeLine;rw[<-rv.length];exact hz,I2.bk _ _ hC,hN.keeps I2.bk,T.keeps I2.bk,fun h' ea hm=>WR Md p H2 s₂ { s₂ with heap:=h' } ea (.ref C) us I2 hm rfl I2.bare hx⟩
end
end L3
namespace L3
open PySem PySem.Spec PyProof.Rows L2 PySem.W Builtin Builtin.ObjectAttr Builtin.Getset_descriptor
unseal PEd PEf PTd PWd PAd PSd eQ POd PGd iM PId
section
variable{prog:Je}{w:Jf}{A:Jg}{E:Ja->Jb->Prop}{s:Jb}{K:Frag}{x D:Jc}{ox:Obj}
def zRK(x D:Jc)(h:Jd):Prop:=∃ o,h.get? x=some o/\o.cls=.ref D
def zRK.looks{h:Jd}(I:zRK x D h){M:Model}:Looks M h (typeOf (.ref x)) (.ref D):=by
 obtain⟨o,h1,h2⟩:=I;exact h2 ▸ (Looks.ld h1).andThen .now
structure ExK (K:Frag) (D:Jc):Prop where
 hc:(clsIn K D).isSome=true
 ga:findIn K (.ref D) "__getattribute__" = some (some (.builtin "BaseException.__getattribute__"))
 no:findIn K (.ref D) "__getattr__" = some none
 ha:findIn K (.ref D) "__class__" = some (some (.builtin "object.__class__"))
 hn:specialIn K (.builtin "object.__class__") "__get__" = some (some (.builtin "getset_descriptor.__get__"))
 tk:takesIn K (.builtin "object.__class__")=some true
 mo:mroIn K D (.type "object")=some true
 mb:mroIn K D (.type "BaseException")=some true
end
section
variable{prog:Je}{w:Jf}{A:Jg}{E:Ja->Jb->Prop}{s:Jb}{K:Frag}{x C CE:Jc}{ox:Obj}
structure CaK (K:Frag) (CE:Jc):Prop where
 ty:typeIn K (.ref CE)=some (.type "type")
 cl:(clsIn K CE).isSome=true
 mb:mroIn K CE (.type "BaseException")=some true
def zJw(T:CaK K CE)(hm:mroIn K C (.ref CE)=some true){Q:Bool->Jb->Prop}(X:K.In s.heap)(I:zRK x C s.heap)(h:Q true s):wpAny (model prog w) A (excMatches (.ref x) (.ref CE)) Q E s:=by
 obtain⟨hh,g,d,t,os⟩:=s;have L0:=I.looks (M:=model prog w);have L1:=looks_typeIn (M:=model prog w) X T.ty;have L2:=looks_mroIn (M:=model prog w) X T.mb;have L3:=looks_mroIn (M:=model prog w) X hm
 have Lt:Looks (model prog w) hh (isType (.ref CE)) true:=by
  obtain⟨cd,hcD⟩:=Ws.mp T.cl;unfold clsIn at hcD;split at hcD
  ·rename_i c' d' cd' sl' ho
   intro A' Q' E' s' k q;unfold isType loadHead;exact Jq (wpAny_loadPart (k _ _ (X _ _ ho)) (Jt q))
  ·cases hcD
 unfold excMatches isInstance isExcClass;refine Jq (Jq ?_)
 refine L1.at ?_
 refine wpAny_of_eq tc_notTuple ?_
 show wpAny _ _ (forIn [Value.ref CE] PUnit.unit _ >>= _) _ _ _
 rw[Y8];refine Jq (Jq (Jq (Jq ?_)))
 refine Lt.at ?_
 show wpAny _ _ (isSubtype (.ref CE) (.type "BaseException")) _ _ _
 refine L2.at ?_
 refine Jt ?_
 show wpAny _ _ (forIn ([]:List Ja) PUnit.unit _) _ _ _
 rw[List.forIn_nil];refine Jt ?_
 refine Jq ?_
 refine L0.at ?_
 refine Jq ?_
 rw[Y8];refine Jq (Jq ?_)
 refine L3.at ?_
 repeat (first | exact h | wp_step)
end
section
variable{X:Cx}{Md:List (Jc×Obj)}{r:St}{H H':Hp}{s s':Jb}{ea:Jc}{cls:Ja}
def Fly.stay(I:Inv X Md r H s)(F:Fly X.prog X.w X.stack H H' s ea cls s'){h' B:Jd}{a0:Ja}
  (hf:Heap.FlyingW B X.stack ea cls a0 s'.heap) (cov:∀ b o,s'.heap.get? b=some o->((∃ o',s.heap.get? b=some o')∨H' b≠none)->b∉frs X.stack->B.get? b=some o)
  (hf':Heap.FlyingW B X.stack ea cls a0 h') (up:s'.heap.UpToSlots h') {t':Nat}:Inv X Md r H' { s' with heap:=h',toks:=t' }:=by
 have trk:∀ {b:Jc},H' b≠none->b∉frs X.stack:=fun {b} hb hm=>by
  have h1:=I.stkFree b hm;obtain⟨_,o,ho,_⟩:=I.stack.mem hm;exact hb (F.un.free b o ho h1 (by simp))
 have keepB:∀ {b:Jc} {o:Obj},s'.heap.get? b=some o->((∃ o',s.heap.get? b=some o')∨H' b≠none)->b∉frs X.stack->h'.get? b=some o:=fun e1 e2 e3=>hf'.1 _ _ (cov _ _ e1 e2 e3)
 have slotOf:∀ {b:Jc} {o:Obj},b∈frs X.stack->s'.heap.get? b=some o->∃ sl,h'.get? b=some { o with slots:=sl }:=fun {b o} hm e=>by
  obtain⟨_,o',ho',hn⟩:=hf.2.2.1.mem hm;rw[e] at ho';cases ho'
  exact up b o e hn
 refine I.call' (s':={ s' with heap:=h',toks:=t' }) (ch:=[]) F.os ⟨?_,?_,F.un.free,?_,F.un.tups,F.un.frzs,F.un.tbls⟩ ?_ F.bare (fun b z=>absurd z (by simp))
 ·intro b o e n hb hx
  exact keepB (F.un.keep b o e n hb hx) (.inl ⟨o,e⟩) hb
 ·intro b o e n hb hx
  obtain⟨sl,e1⟩:=F.un.slot b o e n hb hx;obtain⟨sl2,e2⟩:=slotOf hb e1;exact⟨sl2,e2⟩
 ·intro b o e hx
  obtain⟨o1,e1⟩:=F.un.there b o e hx;by_cases hs:b∈frs X.stack
  ·obtain⟨sl,e3⟩:=slotOf hs e1
   exact⟨_,e3⟩
  ·exact⟨o1,keepB e1 (.inl ⟨o,e⟩) hs⟩
 ·intro a o e
  refine(F.hok a o e).stay (fun b u hb z=>?_) (fun b z=>z) (fun b xs z=>z)
  have hb':H' b≠none:=by
   rcases hb with rfl | hb
   ·rw[e];simp
   ·rw[hb];simp
  exact keepB z (.inr hb') (trk hb')
def _root_.L2.Inv.track(I:Inv X Md r H s){a:Jc}{o:HO}(hn:H a=none)(h0:X.s₀.heap.get? a=none)(hl:a≠X.env.locals)(hc:∀ x c,X.env.cells.lookup x=some c->c≠a)(hp:∀ p∈X.pn++Md,p.1≠a)
  (ho:nQ X.prog X.w (upd H a o) s.heap a o):Inv X Md r (upd H a o) s where
 ok:=I.ok
 os:=I.os
 bare:=I.bare
 base:=⟨I.base.keep,I.base.slot,fun b ob e n hx=>by
   have:b≠a:=fun z=>by rw[z,h0] at e;cases e
   rw[bE this];exact I.base.free b ob e n hx,I.base.there,fun b xs e=>by
   have z:=I.base.tups b xs e
   rw[bE (bJ z hn)];exact z,fun b ob u e=>by
   have z:=I.base.frzs b ob u e
   rw[bE (bJ z hn)];exact z,fun b ps e=>by
   obtain⟨m,z⟩:=I.base.tbls b ps e
   exact⟨m,by rw[bE (bJ z hn)];exact z⟩⟩
 loc:=I.loc
 cell:=I.cell
 free:=by rw[bE (Ne.symm hl)];exact I.free
 freeC:=fun x c e=>by rw[bE (hc x c e)];exact I.freeC x c e
 pin:=fun p hp'=>by
  obtain⟨e1,e2,e3,e4,e5⟩:=I.pin p hp';exact⟨e1,by rw[bE (hp p hp')];exact e2,e3,e4,e5⟩
 hok:=fun b u e=>by
  by_cases hb:b=a
  ·subst hb;rw[bA] at e;cases e;exact ho
  ·rw[bE hb] at e
   exact(I.hok b u e).stay (fun c v _ q=>q) (fun c q=>by rw[bE (bJ q hn)];exact q) fun c xs q=>by rw[bE (bJ q hn)];exact q
 len:=I.len
abbrev pC(X:Cx)(ea:Jc):Cx:={ X with A:=X.A.mark (some (.ref ea)),calm:=false,xe:=fun _ _=>False }
def _root_.L2.Inv.clause(I:Inv X Md r H s)(ea:Jc):Inv (pC X ea) Md r H s:=
 ⟨⟨I.ok.mod,I.ok.kind,I.ok.glob,I.ok.blt,I.ok.above,I.ok.inj,I.ok.has,I.ok.cab,(fun z=>Bool.noConfusion z),I.ok.frames,I.ok.stk,I.ok.exf,I.ok.bs,I.ok.bsz,I.ok.noex,I.ok.exfs,I.ok.funs,I.ok.frf⟩,I.os,I.bare,I.base,I.loc,I.cell,I.free,I.freeC,I.pin,I.hok,I.len⟩
def _root_.L2.Inv.unclause{ea:Jc}(ok:X.Ok)(I:Inv (pC X ea) Md r H s):Inv X Md r H s:=⟨ok,I.os,I.bare,I.base,I.loc,I.cell,I.free,I.freeC,I.pin,I.hok,I.len⟩
end
section
variable{X:Cx}{G:Gx}{a e:Expr}{es:List Expr}{pos p:Pos}{fs:Fv}{t:Tv}{x:Str}{k:Nat}{ps:List Str}{m:Mir}{st:Jh}{sts:List Jh}{sa sb:Sv}
def G0(G:Gx):Gx:={ G with E:=fun _ _=>False }
def zSd(X:Cx)(Md:List (Jc×Obj))(g:St)(Hi H:Hp)(c:Str)(ev:Ja)(s':Jb):Prop:=
 ∃(s1:Jb)(H1:Hp)(ea:Jc)(cls:Ja)(Hi' H':Hp),ev=.ref ea/\Inv X Md g H1 s1/\X.mg c=some cls/\Fly X.prog X.w X.stack H1 H' s1 ea cls s'/\Ext Hi H Hi' H'/\Keep H H1
def zTb(X:Cx)(G:Gx)(Hi:Hp)(E:Ends)(r:Res Fl):Prop:=match r with
 | .err _=>True
 | r=>Fin X G Hi E r
@[irreducible] def PSx (X:Cx) (G:Gx) (st:Jh) (f:Sv):Prop:=∀(Md:List (Jc×Obj))(s:Jb)(g:St)(H:Hp)(E:Ends)(ρ:Rho)(Hi:Hp)(Et:Ja->Jb->Prop),
 Inv X Md g H s->nG X G Hi H g ρ->f ρ≠.no->zTb X G Hi E (f ρ)->(∀ c ev s',f ρ=.err c->zSd X Md g Hi H c ev s'->Et ev s')->wpAny (model X.prog X.w) X.A (exec st X.env) (SP X Md E) Et s
unseal PSx
@[irreducible] def lF (X:Cx) (G:Gx) (sts:List Jh) (f:Sv):Prop:=∀(Md:List (Jc×Obj))(s:Jb)(g:St)(H:Hp)(E:Ends)(ρ:Rho)(Hi:Hp)(Et:Ja->Jb->Prop),
 Inv X Md g H s->nG X G Hi H g ρ->f ρ≠.no->zTb X G Hi E (f ρ)->(∀ c ev s',f ρ=.err c->zSd X Md g Hi H c ev s'->Et ev s')->wpAny (model X.prog X.w) X.A (execs sts X.env) (SP X Md E) Et s
unseal lF
def zPs(h:PSx X G st sa):lF X G [st] sa:=fun Md s g H E ρ Hi Et I R hn hf he=>by
 refine Jo (wpAny_mono (h Md s g H E ρ Hi Et I R hn hf he) (fun f s1 q=>?_) fun _ _ z=>z)
 cases f with
 | next=>exact Jn q
 | ret v=>exact q
 | brk=>exact q
 | cont=>exact q
def zSB{Md:List (Jc×Obj)}{s:Jb}{g:St}{H:Hp}{ρ:Rho}{Hi:Hp}{Et:Ja->Jb->Prop}{Q:VK}{ds:List D}(tb:TB X.K X.mg G.Bi G.B)(c:CanM X.prog X.w X.K X.mg X.base k x ps m)(hr:Room k X.A)(hg:Gl X x)(ha:PAd X.nox (G0 G) (e::es) fs)
  (I:Inv X Md g H s) (R:nG X G Hi H g ρ) (hds:fs ρ=.ok ds) (hm:m ds≠.no) (hq:∀ r v Hi' H',m ds=.ok r->Ext Hi H Hi' H'->IsD X.K Hi' v r.d->Q v H') (he:∀ c ev s',m ds=.err c->zSd X Md g Hi H c ev s'->Et ev s')
  (hdb:(x==("__debug__" : Str))=false) (hst:starEach (e::es) X.env=(false,eval e X.env)::starEach es X.env) (hpl:(backTo pos (starEach es X.env)).any (·.1)=false):
  wpAny (model X.prog X.w) X.A (eval (.Call (.Name x p) (e::es) [] pos) X.env) (EP X Md g Q) Et s:=by
 obtain⟨⟨f,fd,F,b,kp,hmg⟩,ln⟩:=c;refine Jx (xB I hg hmg ?_ hdb)
 have hA:=ha pos Md s g H (fun vs H1=>∃ Hi1,Ext Hi H Hi1 H1/\IsDs X.K Hi1 vs ds) (I.wish _) ⟨ρ,Hi,R,by rw[hds];exact fun Hi1 H1 e1 vs r=>⟨Hi1,e1,r⟩⟩
 refine PySem.W.callWith_K (h₀:=X.base) I.ok.mod.kin kp (wpAny_mono hA (fun us s1 q=>?_) fun _ _ z=>False.elim z) hst hpl
 obtain⟨vs,H1,I1',r,Hi1,e1,hd⟩:=q;have I1:Inv X Md g H1 s1:=I1'.unwish;refine⟨I1.kIn,?_⟩
 have hl:us.length=ps.length:=by rw[<-r.length,hd.length];exact ln ds hm
 refine Jw (codeAny_mono (F.run X.A X.stack s1 H1 ⟨us,[]⟩ us vs (fun v H2=>Q v H2) (fun cls _ H2=>∃ c Hi2,X.mg c=some cls/\m ds=.err c/\Ext Hi1 H1 Hi2 H2) hr I1.env0 (by have:=b s1 us I1.kIn (by rw[Vs];exact hl);rwa [Vs] at this) r ?_) fun res s' hq'=>?_)
 ·refine⟨by rw[hd.length];exact ln ds hm,Hi1,ds,tb.ext (R.ext.trans e1),e1.s,hd,?_⟩
  cases z:m ds with
  | no=>exact absurd z hm
  | err c'=>exact fun C hC Hi2 H2 e2=>⟨c',Hi2,hC,rfl,e2⟩
  | ok rr=>
   cases rr with
   | v d=>exact fun v Hi2 H2 e2 r2=>hq _ v Hi2 H2 z (e1.trans e2) r2
   | f es=>
    intro a' Hi2 H2 e2 n;obtain⟨n1,n2,xs,n3,n4⟩:=n;exact hq _ (.ref a') (upd Hi2 a' (.lst xs)) H2 z (e1.trans (e2.hold n1 n3 n2)) (.lst (SqL.of bA) (n4.mono (cT n2 _)))
 ·cases res with
  | error ev=>
   obtain⟨ea,cls,H',rfl,Fl,c',Hi2,hc,hmc,e2⟩:=hq';exact he c' _ s' hmc ⟨s1,H1,ea,cls,Hi2,H',rfl,I1,hc,Fl,e1.trans e2,e1.h⟩
  | ok fl=>
   cases fl with
   | ret u=>exact I1.after hq'
   | next=>exact False.elim hq'
   | brk=>exact False.elim hq'
   | cont=>exact False.elim hq'
def zKU{j:Type}{r:Res j}{l:Type}{f:j->Res l}(h:(noErr r).bind f≠.no):∃ a,r=.ok a/\(noErr r).bind f=f a:=by
 cases r with
 | ok a=>exact⟨a,rfl,rfl⟩
 | err c=>exact absurd rfl h
 | no=>exact absurd rfl h
def zRl{i:Nat}{y:Str}{py pos2:Pos}(hN:X.N.Nodup)(hi:X.N[i]?=some y)(hy:Loc X.env.scope y)(W:Good X G k)(c:CanM X.prog X.w X.K X.mg X.base k x ps m)(hg:Gl X x)(ha:PAd X.nox (G0 G) (e::es) fs)
  (hdb:(x==("__debug__" : Str))=false:=by decide) (hst:starEach (e::es) X.env=(false,eval e X.env)::starEach es X.env:=by rfl) (hpl:(backTo pos (starEach es X.env)).any (·.1)=false:=by rfl)
  (hs2:swapsWith (.Call (.Name x p) (e::es) [] pos) (some (.Name y py)) pos2.line X.env=pure false:=by rfl) (hfn:X.fn y=true∨X.env.scope.names.lookup y=some .local:=by first | exact .inl rfl | exact .inr rfl | assumption):
  PSx X G (.Assign [.Name y py] (.Call (.Name x p) (e::es) [] pos) pos2) (zPf i m fs):=fun Md s g H E ρ Hi Et I R hn hf he=>by
 unfold zPf at hn hf he;obtain⟨ds,hds,heq⟩:=zKU hn;rw[heq] at hn hf he;have hm:m ds≠.no:=fun z=>by rw[z] at hn;exact hn rfl
 refine Jr (wpAny_mono (zSB (Q:=fun v H'=>E.nx (g.set i (some v)) H') W.tb c W.room hg ha I R hds hm (fun r v Hi' H' z e1 rv=>?_) (fun c' ev s' z q=>he c' ev s' (by rw[z];rfl) q) hdb hst hpl) (fun v s1 q=>?_) fun _ _ z=>z) hs2
 ·rw[z] at hf
  exact(show Fin X G Hi E (.ok (.nx (ρ.set i (.val r.d)))) from hf) _ Hi' H' e1.i ((R.grow e1).set rv)
 ·obtain⟨v',H1,I1,r1,q1⟩:=q
  exact rZ I1 hN hi hy r1 (fun s2 I2=>⟨_,H1,I2,q1⟩) hfn
end
end L3
namespace L3
open PySem PySem.Spec PyProof.Rows L2 PySem.W
unseal PEd PEf PTd PWd PAd PSd eQ POd PGd iM PId PSx lF
section
variable{X:Cx}{G:Gx}{k:Nat}{fb fh:Sv}{body suite:List Jh}{b₀:Jh}{ce n:Str}{np hpos pos:Pos}{i:Nat}{tb:List Str}
def Cat(K:Frag)(mg:Str->Option Ja)(ce c:Str):Prop:=∃ C CE,mg c=some (.ref C)/\mg ce=some (.ref CE)/\ExK K C/\CaK K CE/\mroIn K C (.ref CE)=some true
structure GoodH (X:Cx):Prop where
 u:X.A.units+64<cLine
end
section
variable{K:Frag}{h:Jd}{mg:Str->Option Ja}{x c ce:Str}{C CE:Jc}
def wI{newId:String}{bmB:List Ja}{B initId:String}(X:K.In h)(G:h.Ns mainGlobals mg)(e:nsIn K mainGlobals x=some (some (.ref C)))(q:excIn K C bmB newId=true)(F:ExcBaseFacts B newId initId bmB):∃ C,Err K mg x C:=by
 refine⟨C,⟨fun h' X'=>⟨bmB,newId,B,initId,⟨mg_of X G e,?_⟩,F⟩⟩⟩
 unfold excIn at q;split at q
 ·rename_i dd cd sl ho
  split at q
  ·rename_i C' bm k0 k1 k2 k3 n k5 hm hs
   simp only[Vg,beq_iff_eq,Bool.not_eq_true'] at q;obtain⟨⟨⟨⟨⟨rfl,rfl⟩,zRZ⟩,ht⟩,hok⟩,hni⟩:=q;obtain⟨nm,bs,mro,ns,qn,hd,sn,sub,ab,col,del⟩:=cd;dsimp only at hm zRZ hok hni
   subst hm zRZ
   have hsl:sl=#[k0,k1,k2,k3,some (.builtin n),k5]:=by
    obtain⟨l⟩:=sl;simp only at hs
    rw[hs]
   subst hsl;exact⟨bm,ns,nm,qn,bs,hd,sn,sub,ab,col,dd,k0,k1,k2,k3,k5,_,X' _ _ ho,.of_isNs (isNs_of_in X' hok),nsMap_none_of_in X' hok hni,tail_of_in X' ht⟩
  ·cases q
 ·cases q
def zMs(q:hasDictIn K C=true):(clsIn K C).isSome=true:=by
 obtain⟨cd,hc,_⟩:=any_some q;rw[hc];rfl
def zPR(h1:hasDictIn K C=true)(h2:findIn K (.ref C) "__getattribute__" = some (some (.builtin "BaseException.__getattribute__")))(h3:findIn K (.ref C) "__getattr__" = some none)(h4:findIn K (.ref C) "__class__" = some (some (.builtin "object.__class__")))
  (h5:specialIn K (.builtin "object.__class__") "__get__" = some (some (.builtin "getset_descriptor.__get__"))) (h6:takesIn K (.builtin "object.__class__")=some true) (h7:mroIn K C (.type "object")=some true) (h8:mroIn K C (.type "BaseException")=some true):ExK K C:=
 ⟨zMs h1,h2,h3,h4,h5,h6,h7,h8⟩
def zRn(h1:typeIn K (.ref CE)=some (.type "type"))(h2:hasDictIn K CE=true)(h3:mroIn K CE (.type "BaseException")=some true):CaK K CE:=⟨h1,zMs h2,h3⟩
end
def zFl(env:Env):List (Str×NameKind)->List (Str×Jc)->List (Str×Jc)
 | [],cs=>cs
 | (n,k)::r,cs=>zFl env r (if k==.free then (n,(env.cells.lookup n).getD 0)::cs else cs)
def zMg{env:Env}:∀(l:List (Str×NameKind))(cs:List (Str×Jc)),(∀ p∈l,p.2=.free->∃ c,env.cells.lookup p.1=some c)->
  (forIn l cs (fun p (r:List (Str×Jc))=>if (p.2==NameKind.free)=true then (do let a <-cellOf env p.1;pure (ForInStep.yield ((p.1,a)::r))) else pure (ForInStep.yield r)):Sem (List (Str×Jc)))=pure (zFl env l cs)
 | [],cs,_=>by simp[zFl]
 | (n,k)::r,cs,h=>by
  rw[Y8,zFl];have ih:=fun cs=>zMg r cs fun p hp=>h p (Qd _ hp)
  by_cases e:(k==NameKind.free)=true
  ·obtain⟨c,hc⟩:=h (n,k) Qe (beq_iff_eq.mp e)
   simp only[e,if_true,cellOf,hc,pure_bind,Option.getD_some];exact ih _
  ·simp only[e,Xc,if_false,pure_bind]
   exact ih _
def zMd{env:Env}{scope:Scope}(h:∀ p∈scope.names,p.2=.free->∃ c,env.cells.lookup p.1=some c):closureFor scope env=pure (zFl env scope.names []):=by
 have:=zMg scope.names [] h
 unfold closureFor;rw[<-this];simp
def yI{env:Env}:∀(l:List (Str×NameKind))(cs:List (Str×Jc)),(∀ p∈l,p.2=.free->∃ c,env.cells.lookup p.1=some c)->(∀ y c,cs.lookup y=some c->env.cells.lookup y=some c)->
  ∀ y c,(zFl env l cs).lookup y=some c->env.cells.lookup y=some c
 | [],cs,_,h,y,c,e=>h y c e
 | (n,k)::r,cs,hl,h,y,c,e=>by
  rw[zFl] at e;refine yI r _ (fun p hp=>hl p (Qd _ hp)) (fun y c e=>?_) y c e
  by_cases z:(k==NameKind.free)=true
  ·obtain⟨c',hc⟩:=hl (n,k) Qe (beq_iff_eq.mp z)
   simp only[z,if_true,Vz,hc,Option.getD_some] at e
   cases w:y==n with
   | true=>rw[w] at e;cases e;rw[beq_iff_eq.mp w];exact hc
   | false=>rw[w] at e;exact h y c e
  ·simp only[z,Xc,if_false] at e
   exact h y c e
def zGn{env:Env}:∀(l:List (Str×NameKind))(cs:List (Str×Jc))(y:Str),(∃ c,cs.lookup y=some c)->∃ c,(zFl env l cs).lookup y=some c
 | [],cs,y,h=>h
 | (n,k)::r,cs,y,⟨c,h⟩=>by
  rw[zFl];refine zGn r _ y ?_
  split
  ·rw[Vz]
   cases y==n with
   | true=>exact⟨_,rfl⟩
   | false=>exact⟨c,h⟩
  ·exact⟨c,h⟩
def xV{env:Env}:∀(l:List (Str×NameKind))(cs:List (Str×Jc))(y:Str),(y,NameKind.free)∈l->∃ c,(zFl env l cs).lookup y=some c
 | (n,k)::r,cs,y,h=>by
  rw[zFl];rcases Qc.mp h with e | h
  ·cases e
   refine zGn r _ _ ⟨(env.cells.lookup n).getD 0,?_⟩
   simp only[beq_self_eq_true,if_true,Vz]
  ·exact xV r _ y h
def cN{s:Type}:∀ {l:List (Str×s)} {y:Str} {k:s},l.lookup y=some k->(y,k)∈l
 | (n,k')::r,y,k,h=>by
  rw[Vz] at h
  cases z:y==n with
  | true=>rw[z] at h;cases h;rw[beq_iff_eq.mp z];exact Qe
  | false=>rw[z] at h;exact Qd _ (cN h)
def dE{env:Env}:∀ {l:List (Str×NameKind)} {y:Str} {k:NameKind},
  (l.map fun(n,k)=>if (k==NameKind.free && env.scope.kind==.function && env.kindOf n==some .cell) then (n,NameKind.cell) else (n,k)).lookup y=some k->
  l.lookup y=some k∨(k=.cell/\l.lookup y=some .free)
 | (n,k')::r,y,k,h=>by
  rw[Qg] at h;rw[Vz];by_cases c:(k'==NameKind.free && env.scope.kind==.function && env.kindOf n==some .cell)=true
  ·simp only[c,if_true,Vz] at h
   cases z:y==n with
   | true=>
    rw[z] at h;cases h;refine .inr ⟨rfl,?_⟩
    simp only[Vg] at c;rw[beq_iff_eq.mp c.1.1]
   | false=>rw[z] at h;exact dE h
  ·simp only[c,Xc,if_false,Vz] at h
   cases z:y==n with
   | true=>rw[z] at h;exact .inl h
   | false=>rw[z] at h;exact dE h
def msk(x y:Str):Str:=if y=x then ("" : Str) else y
structure BlkOk (X:Cx) (x:Str) (scope:Scope):Prop where
 kind:scope.kind=.function
 cell:∀ y∈scope.names,y.2≠.cell
 loc:scope.names.lookup x=some .local
 names:∀ y∈scope.names,y.2=.local->scope.names.lookup y.1=some .local
 fre:∀ p∈scope.names,p.2=.free->X.env.kindOf p.1=some .cell∨X.env.kindOf p.1=some .free
 oth:∀ y∈X.N,y≠x->scope.names.lookup y≠some .local
 emp:scope.names.lookup ("" : Str)=none
def cxC(X:Cx)(x:Str)(scope:Scope)(C:Jc)(s₂:Jb)(H₂:Hp)(fp:List Jc):Cx:=
  { prog:=X.prog,w:=X.w,K:=X.K,mg:=X.mg,base:=X.base,A:=X.A,N:=X.N.map (msk x)++[x],s₀:=s₂,H₀:=H₂,env:=compEnvC scope (zFl X.env scope.names []) C X.env,outer:=X.stack,stack:=X.stack,
    ex:=fp,fn:=fun _=>false,calm:=X.calm,pn:=X.pn,xe:=fun _ _=>False }
section
variable{X:Cx}{Md:List (Jc×Obj)}{r:St}{H:Hp}{s₂:Jb}{x:Str}{scope:Scope}{fp:List Jc}{D C:Jc}{h₁:Jd}
def BlkOk.cl(B:BlkOk X x scope)(I:Inv X Md r H s₂):∀ p∈scope.names,p.2=.free->∃ c,X.env.cells.lookup p.1=some c:=fun p hp e=>I.ok.has p.1 (B.fre p hp e)
def zSk(I:Inv X Md r H s₂)(B:BlkOk X x scope)(hfp:∀ b∈fp,vP X Md H b)(hfl:∀ b∈fp,b<s₂.heap.objs.size)(hD:s₂.heap.objs.size<=D)(hC:s₂.heap.objs.size<=C)(hDC:D≠C)
  (old:∀ b o,s₂.heap.get? b=some o->h₁.get? b=some o) {n:Nat} (hacc:h₁.get? D=some { cls:=.type "list", data:=.seq ([]:List Ja).toArray n }) {m:Str->Option Ja} (hns:h₁.Ns C m) (t:Nat):
  Inv (cxC X x scope C s₂ H fp) Md (r++[none]) (upd H D (.lst [])) { s₂ with heap:=h₁,toks:=t }:=by
 have sub:=yI scope.names [] (B.cl I) (fun y c e=>nomatch e)
 have old_lt:∀ {b:Jc} {o:Obj},s₂.heap.get? b=some o->b≠D/\b≠C:=fun e=>⟨Qo (Qm (Heap.lt_size e) hD),Qo (Qm (Heap.lt_size e) hC)⟩
 have free:∀ {b:Jc},b≠D->H b=none->upd H D (.lst []) b=none:=fun n e=>by rw[bE n];exact e
 refine⟨⟨I.ok.mod,B.kind,I.ok.glob,I.ok.blt,hC,fun y z c e1 e2=>I.ok.inj y z c (sub y c e1) (sub z c e2),fun y hy=>?_,fun y c e=>(nomatch e),I.ok.hd,I.ok.frames,.inl rfl,fun b hb=>⟨Qo (Qm (hfl b hb) hC),fun y c e=>(hfp b hb).2.2.2.2.1 y c (sub y c e)⟩,
  I.bs,Qp I.ok.bsz I.sz,fun b o e hb=>?_,fun b hb z=>?_,I.stack,I.stkFree⟩,rfl,I.bare,Un.laid old hD (I.hok.fresh hD),⟨m,hns,fun i y v e1 e2 e3=>?_⟩,fun y c e=>?_,free (Ne.symm hDC) (I.hok.fresh hC),fun y c e=>?_,fun p hp=>?_,I.hok.laid old hD ⟨Vo _,[],n,.nil,hacc⟩,?_⟩
 ·have:∃ k,(k=NameKind.cell∨k=NameKind.free)/\((relabel scope X.env).names).lookup y=some k:=hy.elim (fun h=>⟨_,.inl rfl,h⟩) fun h=>⟨_,.inr rfl,h⟩
  obtain⟨k,hk,e⟩:=this
  have e':(y,NameKind.free)∈scope.names:=by
   rcases dE e with z | ⟨_,z⟩
   ·rcases hk with rfl | rfl
    ·exact absurd rfl (B.cell _ (cN z))
    ·exact cN z
   ·exact cN z
  exact xV scope.names [] y e'
 ·rcases (hfp b hb).2.2.2.1 with z | z
  ·exact I.ok.noex b o e z
  ·exact absurd (Qm (Heap.lt_size e) (Qp I.ok.bsz z)) (Vr _)
 ·rcases Qc.mp (I.stkSub b z) with w | w
  ·exact(hfp b hb).2.1 w
  ·exact(hfp b hb).2.2.1 w
 ·
  have hi:i<r.length:=by
   by_cases hi:i<r.length
   ·exact hi
   ·exfalso
    rw[Vw (by omega)] at e2
    cases q:i-r.length with
    | zero=>rw[q] at e2;cases e2
    | succ j=>rw[q] at e2;cases e2
  rw[Vl hi] at e2;have e1':(X.N.map (msk x)++[x])[i]?=some y:=e1;rw[Vl (by rw[Qi,<-I.len];exact hi),Qq] at e1'
  cases q:X.N[i]? with
  | none=>rw[q] at e1';cases e1'
  | some z=>
   rw[q] at e1';have e1'':msk x z=y:=Ve e1';have hz:z∈X.N:=Qf q;have vis:∃ k,((relabel scope X.env).names).lookup y=some k:=e3.elim (fun h=>⟨_,h⟩) fun h=>h.elim (fun h=>⟨_,h⟩) fun h=>⟨_,h⟩
   have hzx:z≠x:=fun w=>by
    obtain⟨k,hk⟩:=vis;have:y=("" : Str):=by rw[<-e1'',w];exact Jj rfl
    rw[this] at hk;rcases dE hk with h | ⟨_,h⟩<;>(rw[B.emp] at h;cases h)
   have hy:z=y:=by rw[<-e1''];exact(Jk hzx).symm
   subst hy
   have fr:(z,NameKind.free)∈scope.names:=by
    rcases e3 with h | h | h
    ·rcases dE h with h | ⟨h,_⟩
     ·exact absurd h (B.oth z hz hzx)
     ·cases h
    ·rcases dE h with h | ⟨_,h⟩
     ·exact absurd rfl (B.cell _ (cN h))
     ·exact cN h
    ·rcases dE h with h | ⟨h,_⟩
     ·exact cN h
     ·cases h
   have kd:=B.fre _ fr rfl;obtain⟨m0,hn0,hl⟩:=I.loc;obtain⟨u,ru,lk⟩:=hl i z v q e2 (kd.elim (fun h=>.inr (.inl h)) fun h=>.inr (.inr h))
   refine⟨u,ru,.inr ⟨?_,?_⟩⟩
   ·rcases e3 with h | h | h
    ·rcases dE h with h | ⟨h,_⟩
     ·exact absurd h (B.oth z hz hzx)
     ·cases h
    ·exact .inl h
    ·exact .inr h
   ·rcases lk with⟨k1,_⟩ | ⟨_,c,hc,hcell⟩
    ·rcases kd with kd | kd<;>(rw[kd] at k1;cases k1)
    ·obtain⟨c',hc'⟩:=xV (env:=X.env) scope.names [] z fr
     have:=sub z c' hc'
     rw[hc] at this;cases this;obtain⟨o,ho,hd⟩:=hcell;exact⟨c,hc',o,old _ _ ho,hd⟩
 ·obtain⟨v,o,ho,hd⟩:=I.cell y c (sub y c e)
  exact⟨v,o,old _ _ ho,hd⟩
 ·obtain⟨v,o,ho,hd⟩:=I.cell y c (sub y c e)
  exact free (old_lt ho).1 (I.freeC y c (sub y c e))
 ·obtain⟨e,n,ne,nf,d⟩:=I.pin p hp
  refine⟨old _ _ e,free (old_lt e).1 n,(old_lt e).2,fun z=>?_,d⟩
  rcases Qc.mp (I.stkSub _ z) with w | w
  ·exact ne w
  ·exact nf w
 ·show(r++[none]).length=(X.N.map (msk x)++[x]).length
  rw[Ql,Ql,Qi,I.len];rfl
end
section
variable{K:Fg_}{mg:Str->Option Ja}{B Bi Hi H Hi' H':Hp}{p:St}{ρ:Rho}
def Rel.snoc{v:V}{d:D}(R:Rel K mg B Bi Hi H p ρ)(h:IsD K Hi v d):Rel K mg B Bi Hi H (p++[some v]) (ρ++[.val d]) where
 len:=by rw[Ql,Ql,R.len];rfl
 ext:=R.ext
 slot:=fun j s q=>by
  by_cases hl:j<ρ.length
  ·rw[Vl hl] at q
   rw[Vl (by rw[R.len];exact hl)];exact R.slot j s q
  ·rw[Vw (by omega)] at q
   rw[Vw (by rw[R.len];omega),R.len]
   cases z:j-ρ.length with
   | zero=>rw[z] at q;cases q;exact⟨v,rfl,h⟩
   | succ n=>rw[z] at q;cases q
 dist:=fun j k a ds es q1 q2 q3 q4=>by
  have own:∀ {j:Nat} {ds:List D},(ρ++[Sl.val d])[j]?=some (.own ds)->j<ρ.length:=fun {j ds} q=>by
   by_cases hl:j<ρ.length
   ·exact hl
   ·rw[Vw (by omega)] at q
    cases z:j-ρ.length with
    | zero=>rw[z] at q;cases q
    | succ n=>rw[z] at q;cases q
  have h1:=own q1;have h2:=own q2;rw[Vl h1] at q1;rw[Vl h2] at q2;rw[Vl (by rw[R.len];exact h1)] at q3;rw[Vl (by rw[R.len];exact h2)] at q4;exact R.dist j k a ds es q1 q2 q3 q4
def Ext.rewrite{a:Jc}{o:HO}(e:Ext Hi H Hi' H')(hn:H a=none)(hi:Hi' a=none)(hl:∃ xs,H' a=some (.lst xs)):Ext Hi H Hi' (upd H' a o) where
 i:=e.i
 h:=⟨fun b u z=>by rw[bE (bJ z hn)];exact e.h.k _ _ z,fun P z=>by
  obtain⟨xs,hl⟩:=hl
  exact(e.h.t P z).put (fun ps y=>by rw[hl] at y;cases y) (fun ob u y=>by rw[hl] at y;cases y)⟩
 s:=fun b u z=>by rw[bE (bJ z hi)];exact e.s _ _ z
 n:=e.n
def IsDs.snoc{v:V}{d:D}(h:IsD K H v d):∀ {vs:List V} {ds:List D},IsDs K H vs ds->IsDs K H (vs++[v]) (ds++[d])
 | _,_,.nil=>.cons h .nil
 | _,_,.cons r t=>.cons r (IsDs.snoc h t)
end
def zBc{s:Type}{r:Res s}{a:s}(h:noErr r=.ok a):r=.ok a:=by
 cases r with
 | ok b=>exact h
 | err c=>cases h
 | no=>cases h
def zGZ{t:Tv}{f:Ev}{ρ:Rho}{d:D}{ds es:List D}(h:jC t f ρ (d::ds)=.ok es):
  (t (ρ++[.val d])=.ok false/\jC t f ρ ds=.ok es)∨(t (ρ++[.val d])=.ok true/\∃ e es',f (ρ++[.val d])=.ok e/\jC t f ρ ds=.ok es'/\es=e::es'):=by
 rw[jC] at h
 cases ht:noErr (t (ρ++[.val d])) with
 | no=>rw[ht] at h;cases h
 | err c=>rw[ht] at h;cases h
 | ok c=>
  rw[ht] at h;have ht':=zBc ht
  cases c with
  | false=>exact .inl ⟨ht',h⟩
  | true=>
   refine .inr ⟨ht',?_⟩
   have h':((noErr (f (ρ++[.val d]))).bind fun e=>(jC t f ρ ds).bind fun es=>.ok (e::es))=.ok es:=h
   cases hf:noErr (f (ρ++[.val d])) with
   | no=>rw[hf] at h';cases h'
   | err c=>rw[hf] at h';cases h'
   | ok e=>
    rw[hf] at h';have h'':((jC t f ρ ds).bind fun es=>.ok (e::es))=.ok es:=h'
    cases hr:jC t f ρ ds with
    | no=>rw[hr] at h'';cases h''
    | err c=>rw[hr] at h'';cases h''
    | ok es'=>
     rw[hr] at h'';cases h''
     exact⟨e,es',zBc hf,rfl,rfl⟩
def zAM{t:Tv}{f:Ev}{ρ:Rho}{c:Str}:∀ {ds:List D},jC t f ρ ds≠.err c
 | []=>fun h=>by cases h
 | d::ds=>fun h=>by
  rw[jC] at h
  cases ht:noErr (t (ρ++[.val d])) with
  | no=>rw[ht] at h;cases h
  | err c=>cases q:t (ρ++[.val d])<;>(rw[q] at ht;cases ht)
  | ok b=>
   rw[ht] at h
   cases b with
   | false=>exact zAM h
   | true=>
    have h':((noErr (f (ρ++[.val d]))).bind fun e=>(jC t f ρ ds).bind fun es=>.ok (e::es))=.err c:=h
    cases hf:noErr (f (ρ++[.val d])) with
    | no=>rw[hf] at h';cases h'
    | err c=>cases q:f (ρ++[.val d])<;>(rw[q] at hf;cases hf)
    | ok e=>
     rw[hf] at h'
     cases hr:jC t f ρ ds with
     | no=>simp only[Res.bind,hr] at h';cases h'
     | err c'=>exact zAM hr
     | ok es=>simp only[Res.bind,hr] at h';cases h'
@[irreducible] def PTs (X:Cx) (G:Gx) (ifs:List Expr) (t:Tv):Prop:=
 ∀(Md:List (Jc×Obj))(s:Jb)(p:St)(H:Hp)(Q:Bool->Hp->Prop),Inv X Md p H s->tTb X G t p H Q->
  wpAny (model X.prog X.w) X.A (forIn ifs true fun c r=>if r=true then do let ok <-isTrue c X.env (eval c X.env);pure (ForInStep.yield ok) else pure (ForInStep.yield r)) (TP X Md p Q) X.xe s
unseal PTs
def zCm{X:Cx}{G:Gx}:PTs X G [] uC:=fun Md s r H Q I ⟨ρ,Hi,R,o⟩=>wpAny_tests_nil ⟨H,I,Out.here (a:=true) o R.s⟩
end L3
namespace L3
open PySem PySem.Spec PyProof.Rows L2
unseal PEd PEf PTd PWd PAd PSd eQ POd PGd iM PId PSx lF PTs
section
variable{X:Cx}{G:Gx}{elt iter:Expr}{x:Str}{px pos:Pos}{ifs:List Expr}{scope:Scope}{it:Fv}{t:Tv}{f:Ev}{k:Nat}
def zOi{M:Model}{A:Jg}{g:Type}{m:Sem g}{itv u:Ja}{s:Jb}{Q1:Unit->Jb->Prop}{R1:g->Jb->Prop}{E:Ja->Jb->Prop}(h:wpAny M A (letOwnedTupleGo (.Name x px) itv u) Q1 E s)
  (k:∀ s5,Q1 () s5->wpAny M A m R1 E s5):wpAny M A m R1 E s:=by
 have key:=Jq (f:=fun _:Unit=>m) (wpAny_mono h (fun _ s5 h5=>k s5 h5) fun _ _ z=>z)
 have e:(letOwnedTupleGo (.Name x px) itv u >>= fun _=>m)=m:=pure_bind () fun _=>m
 rw[e] at key;exact key
def zJk{N:List Str}(hN:N.Nodup)(h0:("" : Str)∉N)(hx:x≠("" : Str)):(N.map (msk x)++[x]).Nodup:=by
 rw[List.nodup_append];refine⟨?_,Xx.mpr ⟨by simp,List.nodup_nil⟩,fun a ha b hb e=>?_⟩
 ·induction N with
  | nil=>exact List.nodup_nil
  | cons y N ih=>
   rw[Qg,Xx];obtain⟨hy,hN⟩:=Xx.mp hN;refine⟨fun hm=>?_,ih hN fun z=>h0 (Qd _ z)⟩
   obtain⟨z,hz,e⟩:=Vh.mp hm;unfold msk at e;by_cases c1:z=x
   ·by_cases c2:y=x
    ·exact hy (by rw[c2,<-c1];exact hz)
    ·rw[Jj c1,Jk c2] at e;exact h0 (by rw[e];exact Qe)
   ·by_cases c2:y=x
    ·rw[Jk c1,Jj c2] at e;exact h0 (by rw[<-e];exact Qd _ hz)
    ·rw[Jk c1,Jk c2] at e;exact hy (by rw[<-e];exact hz)
 ·obtain⟨z,hz,e1⟩:=Vh.mp ha
  rw[Qx] at hb;subst hb;subst e;unfold msk at e1;split at e1
  ·exact hx e1.symm
  ·rename_i c;exact c e1
structure CW where
 i:Nat
 v:List (Option V)
 H:Hp
 Hi:Hp
 ys:List V
 done:List D
 rest:List D
structure CS (Y:Cx) (Md:List (Jc×Obj)) (p:St) (tn:Nat->Jd->Prop) (fp:List Jc) (Hi2 H2:Hp) (a:Jc) (m:Nat) (cp:Nat->Res (List D)) (es:List D) (c:CW) (s':Jb):Prop where
 inv:Inv Y Md (p++c.v) c.H s'
 wid:c.v.length=m
 tn:tn c.i s'.heap
 fr:∀ b∈fp,c.H b=none
 ext:Ext Hi2 H2 c.Hi c.H
 acc:c.H a=some (.lst c.ys)
 hi:c.Hi a=none
 isd:IsDs Y.K c.Hi c.ys c.done
 len:c.done.length<=c.i
 cmp:cp c.i=.ok c.rest
 all:es=c.done++c.rest
def zSU(X:Cx)(Md:List (Jc×Obj))(p:St)(use:Option (Ja->Sem Unit))(Q':Ja->Jb->Prop)(Qa:Jc->Hp->Prop):Prop:=
 ∀(C A:Jc)(m:Str->Option Ja)(s4:Jb)(H3:Hp),s4.heap.Ns C m->(∀ h',Heap.SameBut C s4.heap h'->Inv X Md p H3 { s4 with heap:=h' })->vP X Md H3 C->Qa A H3->
  compPost (model X.prog X.w) X.A X.xe use Q' (.ref A) C (.ok .next) s4
def zDg(hc:X.calm=true/\TB X.K X.mg G.Bi G.B)(hr:Room k X.A)(Bk:BlkOk X x scope)(hN:X.N.Nodup)(h0:("" : Str)∉X.N)(hx0:x≠("" : Str))(hi:PId X G (.Name x px) iter it)
  (hb:∀(C:Jc)(s₂:Jb)(H₂:Hp)(fp:List Jc)(G':Gx),Good (cxC X x scope C s₂ H₂ fp) G' k->PTs (cxC X x scope C s₂ H₂ fp) G' ifs t/\PEd (cxC X x scope C s₂ H₂ fp) G' elt f)
  (hs:∀ x,foldedSetIterable iter X.env x=pure x:=by intro _;rfl)
  {Md:List (Jc×Obj)} {s:Jb} {p:St} {H Hi:Hp} {ρ:Rho} {use:Option (Ja->Sem Unit)} {Q':Ja->Jb->Prop} {Qa:Jc->Hp->Prop} {cpos:Pos} (I:Inv X Md p H s) (R:nG X G Hi H p ρ)
  (ou:Out G Hi H ((yC it t f) ρ) fun ds Hi' H'=>∀ a,zKL X.K H Hi' H' a ds->Qa a H') (hend:zSU X Md p use Q' Qa):
  wpAny (model X.prog X.w) X.A (comprehension (.ListComp elt [⟨.Name x px,iter,ifs,0⟩] scope pos) scope X.env cpos (newList []) false (eval iter X.env) use) Q' X.xe s:=by
 refine J6 (use:=use) rfl hs (zMd (Bk.cl I)) Bk.kind Bk.names ?_
 refine thn (hi Md s p H (fun J H2=>∃ ds Hi2,Ext Hi H Hi2 H2/\zH X.K Hi2 J ds/\Out G Hi2 H2 (if ds.length<=16777215 then jC t f ρ ds else .no) fun ds Hi' H'=>∀ a,zKL X.K H Hi' H' a ds->Qa a H') I
  ⟨ρ,Hi,R,(Out.bind ou).imp fun ds Hi2 H2 e2 o2 J gv=>⟨ds,Hi2,e2,gv,o2⟩⟩) fun v s1 h1=>thn h1 fun itv s2 h2=>?_
 obtain⟨itA,fp,tn,J,H2,rfl,I2,T,st2,f2,ds,Hi2,e2,gv,ou2⟩:=h2
 have hlen:ds.length<=16777215:=by
  by_cases hlen:ds.length<=16777215
  ·exact hlen
  ·rw[Jk hlen] at ou2;exact ou2.elim
 rw[Jj hlen] at ou2
 cases hes:jC t f ρ ds with
 | no=>rw[hes] at ou2;exact ou2.elim
 | err c=>exact absurd hes zAM
 | ok es=>
  rw[hes] at ou2;have R2:nG X G Hi2 H2 p ρ:=R.grow e2;refine wpAny_newObj_type (wpAny_newFunctionEnv Bk.cell (by intro y hy;simp at hy) (fun h₁ hns₁ hsb₁=>?_) Bk.kind)
  dsimp only at hns₁ hsb₁ ⊢
  generalize hH2:s2.heap.push { cls:=.type "list", dict:=none,data:=.seq ([]:List Ja).toArray }=HP at hns₁ hsb₁ ⊢;have hC:HP.objs.size=s2.heap.objs.size+1:=by rw[<-hH2,Heap.size_push]
  have hDC:s2.heap.objs.size≠HP.objs.size:=by rw[hC];omega
  have ltC:∀ {b:Jc} {o:Obj},s2.heap.get? b=some o->b≠HP.objs.size:=fun e=>by rw[hC];exact Qo (Xd (Heap.lt_size e))
  have old:∀ b o,s2.heap.get? b=some o->h₁.get? b=some o:=fun b o e=>hsb₁.extBut b o (ltC e) (Heap.get?_push_of_some _ (hH2 ▸ Heap.get?_push_of_some _ e))
  have hacc:h₁.get? s2.heap.objs.size=some { cls:=.type "list", data:=.seq ([]:List Ja).toArray 0 }:=hsb₁.extBut _ _ hDC (Heap.get?_push_of_some _ (hH2 ▸ Heap.get?_push_size _ rfl));have hfl:∀ b∈fp,b<s2.heap.objs.size:=fun b hb=>by obtain⟨o,e,_⟩:=T.obj _ _ st2 b hb;exact Heap.lt_size e
  have IE:=zSk (t:=s2.toks+([]:List (Str×Ja)).length) I2 Bk f2 hfl (Qb _) (by rw[hC];omega) hDC old hacc hns₁
  have sub:=yI scope.names [] (Bk.cl I2) (fun y c e=>nomatch e)
  have H2D:H2 s2.heap.objs.size=none:=I2.hok.fresh (Qb _);have HD:H s2.heap.objs.size=none:=e2.h.none H2D;have Hi2D:Hi2 s2.heap.objs.size=none:=e2.s.none H2D;generalize hX:cxC X x scope HP.objs.size s2 H2 fp=Y at IE
  have GY:Good Y ⟨G.B,G.Bi,fun _ _=>False⟩ k:=by
   subst hX;exact⟨hc.1,hr,fun Md p H s e s' _ h=>by obtain⟨_,_,_,_,_,c,_,z⟩:=h;exact z.elim,PassesOwn.never,hc.2⟩
  obtain⟨hts,hel⟩:=(hX ▸ hb HP.objs.size s2 H2 fp ⟨G.B,G.Bi,fun _ _=>False⟩ (hX.symm ▸ GY):PTs Y ⟨G.B,G.Bi,fun _ _=>False⟩ ifs t/\PEd Y ⟨G.B,G.Bi,fun _ _=>False⟩ elt f)
  have stat:∀ {H':Hp},(∀ b∈fp,H' b=none)->∀ b∈fp,vP Y Md H' b:=fun hn b hb=>by
   subst hX;refine⟨hn b hb,?_,fun z=>?_,.inl hb,fun y c e=>(f2 b hb).2.2.2.2.1 y c (sub y c e),(f2 b hb).2.2.2.2.2⟩
   ·show b≠HP.objs.size
    rw[hC];exact Qo (Xd (hfl b hb))
   ·rcases Qc.mp (I2.stkSub b z) with w | w
    ·exact(f2 b hb).2.1 w
    ·exact(f2 b hb).2.2.1 w
  have YN:Y.N.Nodup:=by subst hX;exact zJk hN h0 hx0
  have Yx:Y.N[p.length]?=some x:=by
   subst hX;show(X.N.map (msk x)++[x])[p.length]?=some x
   rw[Vw (by rw[Qi,I2.len];omega),Qi,I2.len,Yk];rfl
  have Yl:Y.env.scope.names.lookup x=some .local:=by subst hX;exact J7 Bk.loc
  have Ye:Y.env=compEnvC scope (zFl X.env scope.names []) HP.objs.size X.env:=by subst hX;rfl
  have Yxe:∀ e s,¬ Y.xe e s:=by subst hX;exact fun _ _ h=>h
  have tn1:tn 0 h₁:=T.keep _ _ _ st2 fun b _ o e=>old b o e
  have loop:∀ s3:Jb,s3={ s2 with heap:=h₁,toks:=s2.toks+([]:List (Str×Ja)).length }->
    codeAny (model X.prog X.w) X.A (.compLoop (.ListComp elt [⟨.Name x px,iter,ifs,0⟩] scope pos) 0 (.ref itA) (.ref s2.heap.objs.size) Y.env) (compPost (model X.prog X.w) X.A X.xe use Q' (.ref s2.heap.objs.size) HP.objs.size) s3:=by
   rintro s3 rfl
   subst hX
   have fr0:∀ b∈fp,upd H2 s2.heap.objs.size (.lst []) b=none:=fun b hb=>by
    rw[bE (Qo (hfl b hb))];exact(f2 b hb).1
   refine codeAny_compLoop_tests (fun n s'=>∃ c:CW,n=ds.length-c.i/\CS (cxC X x scope HP.objs.size s2 H2 fp) Md p tn fp Hi2 H2 s2.heap.objs.size 1 (fun i=>jC t f ρ (ds.drop i)) es c s') ?_ ds.length
    ⟨⟨0,[none],_,Hi2,[],[],es⟩,rfl,⟨IE,rfl,tn1,fr0,(Ext.refl e2.s).trans (Ext.newF e2.s H2D),bA,Hi2D,.nil,Qb _,hes,rfl⟩⟩
   ·rintro n s3 ⟨⟨i,vv,H3,Hi3,ys,done,rest⟩,rfl,I3,wd3,st3,fr3,e3,hD3,hiD3,rd3,hl3,hr3,hes3⟩
    dsimp only at I3 wd3 st3 fr3 e3 hD3 hiD3 rd3 hl3 hr3 hes3 ⊢
    obtain⟨v,rfl⟩:∃ v,vv=[v]:=by
     match vv,wd3 with
     | [v],_=>exact⟨v,rfl⟩
    obtain⟨w1,w2⟩:=gv Hi3 H3 e3.i e3.s i;have lift:∀ {g:Type} {m:Sem g} {Q':g->Jb->Prop} {E:Ja->Jb->Prop} {s':Jb},wpAny (model X.prog X.w) X.A m Q' (cxC X x scope HP.objs.size s2 H2 fp).xe s'->wpAny (model X.prog X.w) X.A m Q' E s':=fun h=>wpAny_mono h (fun _ _ z=>z) fun e s z=>(Yxe e s z).elim
    by_cases hlt:i<ds.length
    ·obtain⟨d,hd⟩:∃ d,ds[i]?=some d:=⟨_,Qj hlt⟩
     obtain⟨go,yl⟩:=w2 d hd
     have e4:ds.drop i=d::ds.drop (i+1):=by
      rw[Qj hlt] at hd;cases hd;exact U2 hlt
     rw[e4] at hr3;refine thn (T.item (cxC X x scope HP.objs.size s2 H2 fp) rfl rfl rfl hc.1 i Md s3 _ H3 _ I3 (stat fr3) st3 go) fun r s4 ⟨u,hru,h4⟩=>?_
     subst hru;refine zOi h4 fun s5 h5=>?_
     obtain⟨xv,H5,I5,r5,y5,st5,fr5⟩:=h5;obtain⟨Hi5,e5,rd5⟩:=yl xv H5 y5;have I5':=I5.pinned (stat fr5) (T.obj _ _ st5);refine Jp (rZ I5' YN Yx (.inl Yl) r5 (fun s6 I6=>?_) (.inr Yl))
     have es6:(p++[v]).set p.length (some xv)=p++[some xv]:=by rw[U3 _ _ (Qb _),Yk];rfl
     rw[es6] at I6;have E5:Ext Hi2 H2 Hi5 H5:=e3.trans e5;have R5:nG (cxC X x scope HP.objs.size s2 H2 fp) ⟨G.B,G.Bi,fun _ _=>False⟩ Hi5 H5 (p++[some xv]) (ρ++[.val d]):=Rel.snoc (R2.grow E5) rd5
     obtain⟨hD5,hiD5⟩:=e5.out hD3 hiD3;have rd5':=rd3.mono e5.i
     have again:∀ {H8 Hi8:Hp} {ys':List V} {done' rest':List D} {s8:Jb},Inv (cxC X x scope HP.objs.size s2 H2 fp) (Md++xQ fp s5.heap) (p++[some xv]) H8 s8->Ext Hi2 H2 Hi8 H8->H8 s2.heap.objs.size=some (.lst ys')->Hi8 s2.heap.objs.size=none->IsDs X.K Hi8 ys' done'->done'.length<=i+1->
       jC t f ρ (ds.drop (i+1))=.ok rest'->es=done'++rest'->∃ m,m<ds.length-i/\∃ c:CW,m=ds.length-c.i/\CS (cxC X x scope HP.objs.size s2 H2 fp) Md p tn fp Hi2 H2 s2.heap.objs.size 1 (fun i=>jC t f ρ (ds.drop i)) es c s8:=fun {H8 Hi8 ys' done' rest' s8} I8 E8 a1 a2 a3 a4 a5 a6=>by
      refine⟨ds.length-(i+1),by omega,⟨i+1,[some xv],H8,Hi8,ys',done',rest'⟩,rfl,⟨I8.unpinned,rfl,T.keep _ _ _ st5 fun b hb o e=>(I8.pin (b,o) (Qw _ (Qw _ (gA hb e)))).1,fun b hb=>?_,E8,a1,a2,a3,a4,a5,a6⟩⟩
      obtain⟨o,e,_⟩:=T.obj _ _ st5 b hb;exact(I8.pin (b,o) (Qw _ (Qw _ (gA hb e)))).2.1
     rcases zGZ hr3 with⟨ht,hr4⟩ | ⟨ht,e,es',hf,hr4,hee⟩
     ·refine lift (thn (hts _ s6 _ H5 (fun b H'=>b=false/\∃ Hi',Ext Hi5 H5 Hi' H') I6 ⟨_,Hi5,R5,by rw[ht];exact fun Hi' H' e=>⟨rfl,Hi',e⟩⟩) fun b s7 h7=>?_)
      obtain⟨H7,I7,rfl,Hi7,e7⟩:=h7;obtain⟨hD7,hiD7⟩:=e7.out hD5 hiD5;exact again I7 (E5.trans e7) hD7 hiD7 (rd5'.mono e7.i) (by omega) hr4 hes3
     ·refine lift (thn (hts _ s6 _ H5 (fun b H'=>b=true/\∃ Hi',Ext Hi5 H5 Hi' H') I6 ⟨_,Hi5,R5,by rw[ht];exact fun Hi' H' e=>⟨rfl,Hi',e⟩⟩) fun b s7 h7=>?_)
      obtain⟨H7,I7,rfl,Hi7,e7⟩:=h7;obtain⟨hD7,hiD7⟩:=e7.out hD5 hiD5;simp only[if_true];refine lift (thn (hel _ s7 _ H7 (fun w H'=>∃ Hi',Ext Hi7 H7 Hi' H'/\IsD X.K Hi' w e) I7 ⟨_,Hi7,R5.grow e7,by rw[hf];exact fun Hi' H' ee w hw=>⟨Hi',ee,hw⟩⟩) fun u8 s8 h8=>?_)
      obtain⟨w8,H8,I8,r8,Hi8,e8,rw8⟩:=h8;obtain⟨hD8,hiD8⟩:=e8.out hD7 hiD7;have rdy:IsDs X.K Hi8 ys done:=(rd5'.mono e7.i).mono e8.i;refine lift (thn (wO (X:=(cxC X x scope HP.objs.size s2 H2 fp)) _ s8 _ H8 (.ref s2.heap.objs.size) [w8] (.ref s2.heap.objs.size) [u8] (fun _ H'=>H'=upd H8 s2.heap.objs.size (.lst (ys++[w8]))) I8 rfl (.cons r8 .nil) ⟨_,ys,w8,rfl,rfl,hD8,?_,rfl⟩) fun _ s9 h9=>?_)
      ·rw[rdy.length]
       exact V7 hl3 (Qm hlt (Qp hlen (by decide)))
      ·obtain⟨_,H9,I9,_,rfl⟩:=h9
       refine again I9 (Ext.rewrite ((E5.trans e7).trans e8) H2D hiD8 ⟨_,hD8⟩) bA hiD8 (rdy.snoc rw8) (by rw[Ql];exact Xn hl3) hr4 ?_
       rw[hes3,hee,V5];rfl
    ·rw[Yt (by omega),jC] at hr3
     cases hr3;refine thn (T.done (cxC X x scope HP.objs.size s2 H2 fp) rfl rfl rfl hc.1 i Md s3 _ H3 _ I3 (stat fr3) st3 (w1 (by omega))) fun r s4 ⟨hrn,I4⟩=>?_
     subst hrn;obtain⟨m4,hn4,_⟩:=I4.loc;have fC:H3 HP.objs.size=none:=I4.free;have nC:∀ b u,H3 b=some u->b≠HP.objs.size:=fun b u e z=>by rw[z,fC] at e;cases e
     have U4:=I4.base;refine hend HP.objs.size s2.heap.objs.size m4 s4 H3 hn4 (fun h' hs'=>?_) (I2.fpOk (by rw[hC];omega) fC) ?_
     ·have kp:∀ b o,b≠HP.objs.size->s4.heap.get? b=some o->h'.get? b=some o:=fun b o hb e=>hs'.extBut b o hb e
      refine Inv.call' I2 (ch:=fp) I4.os ⟨fun b o e n hb hx=>kp b o (ltC e) (U4.keep b o e n hb hx),fun b o e n hb hx=>?_,U4.free,fun b o e hx=>?_,U4.tups,U4.frzs,U4.tbls⟩ (fun b u e=>?_) I4.bare (fun b hb=>⟨(f2 b hb).2.2.2.1,(f2 b hb).2.1,(f2 b hb).2.2.2.2.1,(f2 b hb).2.2.2.2.2⟩)
      ·obtain⟨sl,q⟩:=U4.slot b o e n hb hx
       exact⟨sl,kp b _ (ltC e) q⟩
      ·obtain⟨o',q⟩:=U4.there b o e hx
       exact⟨o',kp b _ (ltC e) q⟩
      ·refine(I4.hok b u e).stay (fun c v hc q=>kp c v ?_ q) (fun _ q=>q) fun _ _ q=>q
       rcases hc with z | z
       ·rw[z];exact nC b u e
       ·exact nC c _ z
     ·refine ou2 Hi3 H3 e3 _ ⟨HD,hiD3,ys,hD3,?_⟩
      rw[hes3,Vs];exact rd3
  rw[Ye] at loop;exact J8 (loop _ rfl) (T.self _ 0 _ _ _ tn1 (loop _ rfl))
def zNB(hc:X.calm=true/\TB X.K X.mg G.Bi G.B)(hr:Room k X.A)(Bk:BlkOk X x scope)(hN:X.N.Nodup)(h0:("" : Str)∉X.N)(hx0:x≠("" : Str))(hi:PId X G (.Name x px) iter it)
  (hb:∀(C:Jc)(s₂:Jb)(H₂:Hp)(fp:List Jc)(G':Gx),Good (cxC X x scope C s₂ H₂ fp) G' k->PTs (cxC X x scope C s₂ H₂ fp) G' ifs t/\PEd (cxC X x scope C s₂ H₂ fp) G' elt f)
  (hs:∀ x,foldedSetIterable iter X.env x=pure x:=by intro _;rfl):PEf X G (.ListComp elt [⟨.Name x px,iter,ifs,0⟩] scope pos) (yC it t f):=by
 intro Md s p H Q I w;obtain⟨ρ,Hi,R,ou⟩:=w;rw[eval_ListComp];refine zDg hc hr Bk hN h0 hx0 hi hb hs (use:=none) (Qa:=fun a H'=>Q (.ref a) H') I R ou fun C A m s4 H3 hn hI _ q=>?_
 exact⟨m,hn,fun h' hs'=>⟨.ref A,H3,hI h' hs',rfl,q⟩⟩
def PC(X:Cx)(e:Expr)(t:TE):Prop:=∀(Md:List (Jc×Obj))(s:Jb)(p:St)(H:Hp)(Q:VK),Inv X Md p H s->t p H Q->∀(u:Ja->Sem Unit)(Q':Unit->Jb->Prop),
 (∀(C:Jc)(m:Str->Option Ja)(s4:Jb)(v:V)(w:Ja)(H3:Hp),s4.heap.Ns C m->(∀ h',Heap.SameBut C s4.heap h'->Inv X Md p H3 { s4 with heap:=h' })->vP X Md H3 C->dZ v w->Q v H3->
  wpAny (model X.prog X.w) X.A (u w) (fun _ s''=>∃ m,s''.heap.Ns C m/\∀ h',Heap.SameBut C s''.heap h'->Q' () { s'' with heap:=h' }) X.xe s4)->wpAny (model X.prog X.w) X.A (evalThenUse e X.env u) Q' X.xe s
def PC.wk{X:Cx}{e:Expr}{t t':TE}(h:PC X e t)(w:∀ p H Q,t' p H Q->t p H Q):PC X e t':=fun Md s p H Q I q=>h Md s p H Q I (w p H Q q)
@[irreducible] def PCd (X:Cx) (G:Gx) (e:Expr) (f:Ev):Prop:=PC X e (tD X G f)
unseal PCd
@[irreducible] def PCf (X:Cx) (G:Gx) (e:Expr) (f:Fv):Prop:=PC X e (tF X G f)
unseal PCf
def zNK(hc:X.calm=true/\TB X.K X.mg G.Bi G.B)(hr:Room k X.A)(Bk:BlkOk X x scope)(hN:X.N.Nodup)(h0:("" : Str)∉X.N)(hx0:x≠("" : Str))(hi:PId X G (.Name x px) iter it)
  (hb:∀(C:Jc)(s₂:Jb)(H₂:Hp)(fp:List Jc)(G':Gx),Good (cxC X x scope C s₂ H₂ fp) G' k->PTs (cxC X x scope C s₂ H₂ fp) G' ifs t/\PEd (cxC X x scope C s₂ H₂ fp) G' elt f)
  (hs:∀ x,foldedSetIterable iter X.env x=pure x:=by intro _;rfl):PCf X G (.ListComp elt [⟨.Name x px,iter,ifs,0⟩] scope pos) (yC it t f):=by
 intro Md s p H Q I w u Q' hend;obtain⟨ρ,Hi,R,ou⟩:=w;rw[arm_evalThenUse_ListComp];refine Jq (zDg hc hr Bk hN h0 hx0 hi hb hs (use:=some u) (Q':=fun _ s=>wpAny (model X.prog X.w) X.A (pure ()) Q' X.xe s) (Qa:=fun a H'=>Q (.ref a) H') I R ou fun C A m s4 H3 hn hI fo q=>?_)
 refine thn (hend C m s4 (.ref A) (.ref A) H3 hn hI fo rfl q) fun _ s5 h5=>?_
 obtain⟨m5,hn5,h5⟩:=h5;exact⟨m5,hn5,fun h' hs'=>Jt (h5 h' hs')⟩
def PCf.d(h:PCf X G e fs):PCd X G e (eF fs):=PC.wk h fun p H Q q=>by
 obtain⟨ρ,Hi,R,ou⟩:=q;refine⟨ρ,Hi,R,?_⟩
 cases z:fs ρ with
 | no=>unfold eF at ou;rw[z] at ou;exact ou
 | err c=>unfold eF at ou;rw[z] at ou;exact ou
 | ok ds=>
  unfold eF at ou;rw[z] at ou
  intro Hi1 H1 e1 a n;obtain⟨n1,n2,xs,n3,n4⟩:=n;have o2:∀ Hi' H',Ext Hi H Hi' H'->∀ v,IsD X.K Hi' v (.lst ds)->Q v H':=ou;exact o2 _ _ (e1.hold n1 n3 n2) (.ref a) (.lst (SqL.of bA) (n4.mono (cT n2 _)))
def zNO{i:Nat}{y:Str}{e:Expr}{te:TE}{pos' pos:Pos}(hN:X.N.Nodup)(hi:X.N[i]?=some y)(hx:Loc X.env.scope y)(he:PC X e te)(hs:swapsWith e (some (.Name y pos')) pos.line X.env=pure true)
  (hf:X.fn y=true∨X.env.scope.names.lookup y=some .local):PS X (.Assign [.Name y pos'] e pos) (zSx te (L2.gName i)):=by
 intro Md s p H E I h;rw[exec_Assign_Name_used _ _ _ _ hs];refine Jq (wpAny_standAt (Jq ?_))
 refine he Md s p H _ I h _ _ fun C m s4 v w H3 hn hI fo r q=>?_
 have I4:Inv X Md p H3 s4:=hI s4.heap (Heap.SameBut.refl _ _);refine Jp (zDc I4 hN hi hx r (fun s5 I5 sb=>?_) hf)
 obtain⟨a,sb,ha⟩:=sb
 have aC:C≠a:=by
  rcases ha with rfl | ha
  ·exact fo.2.1
  ·exact fun z=>fo.2.2.2.2.1 y a ha z.symm
 refine⟨m,hn.sameBut sb aC,fun h' hs'=>Jt ?_⟩
 have fC:=fo.1;have nC:∀ b u,H3 b=some u->b≠C:=fun b u e z=>by rw[z,fC] at e;cases e
 have kp:∀ b o,b≠C->s5.heap.get? b=some o->h'.get? b=some o:=fun b o hb e=>hs'.extBut b o hb e
 refine⟨p.set i (some v),H3,?_,q⟩
 refine Inv.call' I5 (ch:=[C]) rfl ⟨fun b o e n hb hx=>kp b o (by simpa using hx) e,fun b o e n hb hx=>⟨o.slots,kp b _ (by simpa using hx) e⟩,fun b o e n hx=>n,fun b o e hx=>⟨o,kp b _ (by simpa using hx) e⟩,fun _ _ q=>q,fun _ _ _ q=>q,fun _ ps q=>⟨#[],by simpa using q⟩⟩ (fun b u e=>?_) I5.bare (fun b hb=>?_)
 ·refine(I5.hok b u e).stay (fun c v hc q=>kp c v ?_ q) (fun _ q=>q) fun _ _ q=>q
  rcases hc with z | z
  ·rw[z];exact nC b u e
  ·exact nC c _ z
 ·have e:b=C:=by simpa using hb
  subst e;exact⟨fo.2.2.2.1,fo.2.1,fo.2.2.2.2.1,fo.2.2.2.2.2⟩
def zPJ{i:Nat}{y:Str}{e:Expr}{f:Ev}{pos' pos:Pos}(hN:X.N.Nodup)(hi:X.N[i]?=some y)(hx:Loc X.env.scope y)(he:PCd X G e f)(hs:swapsWith e (some (.Name y pos')) pos.line X.env=pure true)
  (hf:X.fn y=true∨X.env.scope.names.lookup y=some .local:=by first | exact .inl rfl | exact .inr rfl | assumption):PSd X G (.Assign [.Name y pos'] e pos) (cQ i f):=PS.wk (zNO hN hi hx he hs hf) fun E p H q=>by
 obtain⟨ρ,Hi,R,h⟩:=q;exact⟨ρ,Hi,R,oO R h fun d Hi' H' _ e h' v r=>h' _ Hi' H' (Same.refl _) ((R.grow e).set r)⟩
end
end L3
namespace L3
open PySem PySem.Spec PyProof.Rows L2
unseal PEd PEf PTd PWd PAd PSd eQ POd PGd iM PId PSx lF PTs PCd PCf
def zRG(sc:Scope)(N:List Str)(x:Str)(scope:Scope):Bool:=
 scope.names.all (fun y=>y.2 != .cell) && scope.names.lookup x==some .local && scope.names.all (fun y=>y.2 != .local || scope.names.lookup y.1==some .local)
  && scope.names.all (fun p=>p.2 != .free || (sc.names.lookup p.1==some .cell || sc.names.lookup p.1==some .free)) && N.all (fun y=>y==x || scope.names.lookup y != some .local) && (scope.names.lookup ("" : Str)).isNone && !N.contains ("" : Str) && x != ("" : Str)
section
variable{X:Cx}{G:Gx}{elt iter:Expr}{x:Str}{px pos:Pos}{ifs:List Expr}{scope sc:Scope}{it:Fv}{t:Tv}{f:Ev}{k:Nat}{N:List Str}
def zME(hk:scope.kind=.function)(hsc:X.env.scope=sc)(hN:X.N=N)(h:zRG sc N x scope=true):BlkOk X x scope/\("" : Str)∉X.N/\x≠("" : Str):=by
 unfold zRG at h;simp only[Vg] at h;obtain⟨⟨⟨⟨⟨⟨⟨h1,h2⟩,h3⟩,h4⟩,h5⟩,h6⟩,h7⟩,h8⟩:=h;subst hN hsc;refine⟨⟨hk,fun y hy e=>?_,beq_iff_eq.mp h2,fun y hy e=>?_,fun p hp e=>?_,fun y hy hne e=>?_,?_⟩,fun z=>?_,fun z=>?_⟩
 ·have:=V9.mp h1 y hy
  rw[e] at this;cases this
 ·have:=V9.mp h3 y hy
  rw[e] at this;simpa using this
 ·have:=V9.mp h4 p hp
  rw[e] at this;have q:X.env.scope.names.lookup p.1=some .cell∨X.env.scope.names.lookup p.1=some .free:=by simpa using this
  exact q
 ·have:=V9.mp h5 y hy
  rw[e] at this;simp[hne] at this
 ·simpa using h6
 ·have:X.N.contains ("" : Str)=true:=by simpa using z
  rw[this] at h7;cases h7
 ·rw[z] at h8;simp at h8
def vY(W:Good X G k)(hnd:N.Nodup)(hk:scope.kind=.function)(hsc:X.env.scope=sc)(hN:X.N=N)(h:zRG sc N x scope=true)(hi:PId X G (.Name x px) iter it)
  (hb:∀(C:Jc)(s₂:Jb)(H₂:Hp)(fp:List Jc)(G':Gx),Good (cxC X x scope C s₂ H₂ fp) G' k->PTs (cxC X x scope C s₂ H₂ fp) G' ifs t/\PEd (cxC X x scope C s₂ H₂ fp) G' elt f)
  (hs:∀ x,foldedSetIterable iter X.env x=pure x:=by intro _;rfl):PEf X G (.ListComp elt [⟨.Name x px,iter,ifs,0⟩] scope pos) (yC it t f):=by
 obtain⟨b,h0,hx⟩:=zME hk hsc hN h;exact zNB ⟨W.calm,W.tb⟩ W.room b (hN ▸ hnd) h0 hx hi hb hs
def zLU(W:Good X G k)(hnd:N.Nodup)(hk:scope.kind=.function)(hsc:X.env.scope=sc)(hN:X.N=N)(h:zRG sc N x scope=true)(hi:PId X G (.Name x px) iter it)
  (hb:∀(C:Jc)(s₂:Jb)(H₂:Hp)(fp:List Jc)(G':Gx),Good (cxC X x scope C s₂ H₂ fp) G' k->PTs (cxC X x scope C s₂ H₂ fp) G' ifs t/\PEd (cxC X x scope C s₂ H₂ fp) G' elt f)
  (hs:∀ x,foldedSetIterable iter X.env x=pure x:=by intro _;rfl):PCf X G (.ListComp elt [⟨.Name x px,iter,ifs,0⟩] scope pos) (yC it t f):=by
 obtain⟨b,h0,hx⟩:=zME hk hsc hN h;exact zNK ⟨W.calm,W.tb⟩ W.room b (hN ▸ hnd) h0 hx hi hb hs
end
section
variable{X:Cx}{G:Gx}{a b:Expr}{pos:Pos}{f:Fv}{g:Ev}
def IsDs.rep{K:Fg_}{H:Hp}{xs:List V}{ds:List D}(h:IsDs K H xs ds):∀ n:Nat,IsDs K H (List.replicate n xs).flatten (List.replicate n ds).flatten
 | 0=>.nil
 | n+1=>by
  rw[Xk,Xk,Xz,Xz];exact h.append (IsDs.rep h n)
def zJe(ha:PEf X G a f)(hb:PEd X G b g):PEf X G (.BinOp a .Mult b pos) (zOV f g):=PE.wk (zIT zRg ha hb) fun r H Q q=>by
 obtain⟨ρ,Hi,R,ou⟩:=q;refine⟨ρ,Hi,R,(Out.bind ou).imp fun ds Hi1 H1 e1 o1 l nl=>?_⟩
 refine⟨ρ,Hi1,R.grow e1,(Out.bind o1).imp fun d Hi2 H2 e2 o2 v rv=>?_⟩
 cases d<;>first | exact o2.elim | skip
 rename_i k
 obtain⟨n1,n2,xs,n3,n4⟩:=nl;have o2':Out G Hi2 H2 (if 0<=k/\k<2^62/\ds.length*k.toNat<=16777216 then Res.ok (List.replicate k.toNat ds).flatten else .no) _:=o2;by_cases hz:0<=k/\k<2^62/\ds.length*k.toNat<=16777216
 ·rw[Jj hz] at o2'
  refine⟨l,k,xs,rfl,rv.intI,e2.h.at n3,by omega,by omega,by rw[n4.length];exact hz.2.2,fun p hp=>?_⟩
  exact o2' _ _ (Ext.newF e2.s hp) p ⟨(e1.h.trans e2.h).none hp,e2.s.none hp,_,bA,(n4.mono e2.i).rep _⟩
 ·rw[Jk hz] at o2';exact o2'.elim
end
section
variable{es r:List Expr}{a b f:Expr}{k:Nat}{p:Pos}{x:Str}{c:Const}{env:Env}
def cV:starEach (.Tuple es k p::r) env=(false,eval (.Tuple es k p) env)::starEach r env:=rfl
def zKM:starEach (.List es p::r) env=(false,eval (.List es p) env)::starEach r env:=rfl
def aQ{o:Operator}:starEach (.BinOp a o b p::r) env=(false,eval (.BinOp a o b p) env)::starEach r env:=rfl
def aO:starEach (.Subscript a b p::r) env=(false,eval (.Subscript a b p) env)::starEach r env:=rfl
def aG:starEach (.Name x p::r) env=(false,eval (.Name x p) env)::starEach r env:=rfl
def bK:starEach (.Constant c k p::r) env=(false,eval (.Constant c k p) env)::starEach r env:=rfl
def aK{ks:List Keyword}:starEach (.Call f es ks p::r) env=(false,eval (.Call f es ks p) env)::starEach r env:=rfl
end
end L3
set_option maxRecDepth 100000
namespace L3
open PySem PySem.Spec PyProof.Rows L2
section
unseal PEd PEf PTd PWd PAd PSd eQ POd PGd iM PId PSx lF PTs PCd PCf
variable{X:Cx}{G:Gx}{fs:Fv}{f:Ev}
end
end L3
namespace L3
open PySem PySem.Spec PyProof.Rows L2
unseal PEd PEf PTd PWd PAd PSd eQ POd PGd iM PId PSx lF PTs PCd PCf
section
variable{X:Cx}{G:Gx}
def zSX(K:PySem.W.Frag):List V->Hp->VK->Prop:=fun xs H Q=>∃(a:Jc)(ns:List Int),xs=[.ref a]/\(SqL K H a (ns.map V.int)∨SqT K H a (ns.map V.int))/\Q (.int ns.sum) H
def yK(ns:List Int):∀ j,preSum (fun i=>ns.getD i 0) j=(ns.take j).sum
 | 0=>by rw[List.take_zero];rfl
 | j+1=>by
  rw[preSum,yK ns j,Ys];rw[Qs]
  cases ns[j]? with
  | none=>simp
  | some x=>simp
def zAF{ns:List Int}{its:List Ja}(r:eV (ns.map V.int) its){i:Nat}{v:Ja}(h:its[i]?=some v):∃ t,v=.int (ns.getD i 0) t:=by
 have hl:=r.length;rw[Qi] at hl;have hi:=(Qy.mp h).1
 have hx:(ns.map V.int)[i]?=some (.int (ns.getD i 0)):=by
  rw[Qq,Qs,Qj (by omega)];rfl
 obtain⟨u,hu,ru⟩:=r.get hx;rw[h] at hu;cases hu;exact ru
def jS(hc:X.calm=true):wJ X (.builtin "sum") (zSX X.K):=by
 intro Md s f H xs us Q I r h;obtain⟨a,ns,rfl,hq,q⟩:=h;obtain⟨u,rfl,ru⟩:=r.one;cases ru;have hh:=I.ok.hd hc;rcases hq with hq | hq
 ·obtain⟨its,rv,p,hz⟩:=I.list hq
  have hlt:a<s.heap.objs.size:=by obtain⟨_,e,_⟩:=p.isList;exact Heap.lt_size e
  have hl:=rv.length;rw[Qi] at hl;refine call_sum_walkG (wpAny_pyIter_list p.isList ?_)
  refine⟨s.heap.objs.size,_,_,_,_,_,fun i=>ns.getD i 0,rfl,Walks.list (A:=X.A.in1) hh s.heap.objs.size a (Qo hlt) its.toArray,⟨⟨_,Heap.get?_push_size _ rfl,rfl,rfl⟩,p.isList.push _⟩,fun b hb=>?_,fun i v hv=>zAF rv (by simpa using hv),fun h' tk t' hk=>?_⟩
  ·show b<(s.heap.push _).objs.size
   rw[Heap.size_push];rcases Qc.mp hb with rfl | hb
   ·exact Xp _
   ·rcases Qc.mp hb with rfl | hb
    ·exact Xd hlt
    ·cases hb
  ·refine⟨.int ns.sum,H,I.kept (t':=tk) fun b o e=>hk b o (fun z=>?_) (Heap.get?_push_of_some _ e),⟨t',?_⟩,q⟩
   ·have z':b=s.heap.objs.size:=by simpa using z
    have l:=Heap.lt_size e;rw[z'] at l;exact Vr _ l
   ·rw[Qh,<-hl,yK,Xe]
 ·obtain⟨its,rv,p,hz⟩:=I.tuple hq
  have p':s.heap.IsTuple a its.toArray:=p;have hlt:a<s.heap.objs.size:=by obtain⟨_,e,_⟩:=p';exact Heap.lt_size e
  have hl:=rv.length;rw[Qi] at hl;refine call_sum_walkG (wpAny_pyIter_tuple p' ?_)
  refine⟨s.heap.objs.size,_,_,_,_,_,fun i=>ns.getD i 0,rfl,Walks.tuple (A:=X.A.in1) hh s.heap.objs.size a (Qo hlt) its.toArray,⟨⟨_,Heap.get?_push_size _ rfl,rfl,rfl⟩,p'.push _⟩,fun b hb=>?_,fun i v hv=>zAF rv (by simpa using hv),fun h' tk t' hk=>?_⟩
  ·show b<(s.heap.push _).objs.size
   rw[Heap.size_push];rcases Qc.mp hb with rfl | hb
   ·exact Xp _
   ·rcases Qc.mp hb with rfl | hb
    ·exact Xd hlt
    ·cases hb
  ·refine⟨.int ns.sum,H,I.kept (t':=tk) fun b o e=>hk b o (fun z=>?_) (Heap.get?_push_of_some _ e),⟨t',?_⟩,q⟩
   ·have z':b=s.heap.objs.size:=by simpa using z
    have l:=Heap.lt_size e;rw[z'] at l;exact Vr _ l
   ·rw[Qh,<-hl,yK,Xe]
def mB{K:Fg_}{H:Hp}:∀ {xs:List V} {ds:List D} {ns:List Int},IsDs K H xs ds->pP ds=some ns->xs=ns.map V.int
 | _,_,ns,.nil,h=>by cases h;rfl
 | _,_,ns,.cons (d:=d) (ds:=ds) r rs,h=>by
  cases d with
  | int i=>
   rw[pP] at h
   cases z:pP ds with
   | none=>rw[z] at h;cases h
   | some ms=>
    rw[z] at h;cases h;rw[r.intI,mB rs z];rfl
  | _=>cases h
def rP:zCA X (zSX X.K) zCe:=⟨fun a c z=>(by
  unfold zCe at z;split at z
  ·split at z<;>cases z
  ·split at z<;>cases z
  ·cases z),fun Hi H vs ds d Q s r z q=>by
  unfold zCe at z;split at z
  ·split at z
   ·rename_i ns hns
    cases z;obtain⟨v,rfl,h⟩:=r.one;obtain⟨a,xs,rfl,h1,h2⟩:=h.lstI;have e:=mB h2 hns;subst e;exact⟨a,ns,rfl,.inl (dF s h1),q _ Hi H (Ext.refl s) (.int _)⟩
   ·cases z
  ·split at z
   ·rename_i ns hns
    cases z;obtain⟨v,rfl,h⟩:=r.one;obtain⟨a,xs,rfl,h1,h2⟩:=h.tupI;have e:=mB h2 hns;subst e;exact⟨a,ns,rfl,.inr (cK s h1),q _ Hi H (Ext.refl s) (.int _)⟩
   ·cases z
  ·cases z⟩
def gQ:bootBuiltins "sum" = some (.builtin "sum"):=by first | rfl | decide +kernel
end
def ln0{r:Type}{us:List r}(h:us.length=0):us=[]:=U1 h
def ln1{s:Type}{us:List s}(h:us.length=1):∃ a0:s,us=[a0]:=by
 cases us with
 | nil=>cases h
 | cons a r=>
  cases ln0 (Yu h)
  exact⟨a,rfl⟩
def ln2{s:Type}{us:List s}(h:us.length=2):∃ a0 a1:s,us=[a0,a1]:=by
 cases us with
 | nil=>cases h
 | cons a r=>
  obtain⟨a1,rfl⟩:=ln1 (Yu h);exact⟨a,a1,rfl⟩
def ln3{s:Type}{us:List s}(h:us.length=3):∃ a0 a1 a2:s,us=[a0,a1,a2]:=by
 cases us with
 | nil=>cases h
 | cons a r=>
  obtain⟨a1,a2,rfl⟩:=ln2 (Yu h);exact⟨a,a1,a2,rfl⟩
def ln4{s:Type}{us:List s}(h:us.length=4):∃ a0 a1 a2 a3:s,us=[a0,a1,a2,a3]:=by
 cases us with
 | nil=>cases h
 | cons a r=>
  obtain⟨a1,a2,a3,rfl⟩:=ln3 (Yu h);exact⟨a,a1,a2,a3,rfl⟩
def ln5{s:Type}{us:List s}(h:us.length=5):∃ a0 a1 a2 a3 a4:s,us=[a0,a1,a2,a3,a4]:=by
 cases us with
 | nil=>cases h
 | cons a r=>
  obtain⟨a1,a2,a3,a4,rfl⟩:=ln4 (Yu h);exact⟨a,a1,a2,a3,a4,rfl⟩
section
variable{X:Cx}{G:Gx}{a b c e:Expr}{pos p2:Pos}{f g h:Ev}{fs:Fv}{lo hi:Option Expr}{l u:Ov}
def Out.grow{Hi H Hi' H':Hp}{j:Type}{r:Res j}{k:j->Hp->Hp->Prop}(o:Out G Hi H r k)(e:Ext Hi H Hi' H'):Out G Hi' H' r k:=by
 cases r with
 | no=>exact o
 | err c=>exact fun a b x=>o a b (e.trans x)
 | ok y=>exact fun a b x=>o a b (e.trans x)
def zQO{r r':R2}{o o':Op2}(k:OpK X r o)(k':OpK X r' o'):∀ p H Q,tD X G (zAn o o' f g h) p H Q->zMz r r' (tD X G f) (tD X G g) (tD X G h) p H Q:=fun p H Q q=>by
 obtain⟨ρ,Hi,R,ou⟩:=q;refine vX R ou fun v d Hi1 H1 e1 R1 r1 o1=>?_
 refine vX R1 o1 fun w d' Hi2 H2 e2 R2 r2 o2=>?_
 cases z:o d d' with
 | no=>rw[z] at o2;exact o2.elim
 | err c=>exact absurd z (k.1 d d' c)
 | ok y=>
  rw[z] at o2;refine k.2 Hi2 H2 v w d d' y _ R2.s (r1.mono e2.i) r2 z fun v3 Hi3 H3 e3 r3=>?_
  have o3:Out G Hi3 H3 (zMr o' h ρ d' y) _:=Out.grow o2 e3;have R3:=R2.grow e3
  cases y with
  | bl b=>
   refine⟨b,r3.blI,?_⟩
   cases b with
   | true=>
    rw[Jj rfl];refine vX R3 o3 fun w2 d2 Hi4 H4 e4 R4 r4 o4=>?_
    cases z':o' d' d2 with
    | no=>rw[z'] at o4;exact o4.elim
    | err c=>exact absurd z' (k'.1 d' d2 c)
    | ok y'=>
     rw[z'] at o4;exact k'.2 Hi4 H4 w w2 d' d2 y' _ R4.s ((r2.mono e3.i).mono e4.i) r4 z' fun v5 Hi5 H5 e5 r5=>o4 Hi5 H5 e5 v5 r5
   | false=>
    rw[Jk (by decide)];exact o3.here R3.s _ (.bl _)
  | _=>exact o3.elim
def xU{op op':CmpOp}{r r':R2}{o o':Op2}(ho:OpR X (compareOp op) r)(k:OpK X r o)(ho':OpR X (compareOp op') r')(k':OpK X r' o')(ha:PEd X G a f)(hb:PEd X G b g)(hc:PEd X G c h)
  (hm:lastMarks [op,op'] [b,c]=false:=by with_unfolding_all rfl):PTd X G (.Compare a [op,op'] [b,c] pos) (cX (zAn o o' f g h)):=
 PT.wk (zLt ho ho' ha hb hc hm) fun p H Q q=>by
  obtain⟨ρ,Hi,R,ou⟩:=q;refine zQO k k' p H _ ⟨ρ,Hi,R,ou.bind.imp fun d Hi' H' e o v r=>?_⟩
  cases d with
  | bl c=>rw[r.blI];exact⟨c,rfl,o.here e.s⟩
  | _=>exact o.elim
end
section
variable{X:Cx}{G:Gx}{a b c e:Expr}{pos p2 p:Pos}{f g h:Ev}{fs:Fv}{x:Str}
def zHt{bl:List Jh}:eQ X G bl sNo:=fun Md s i H E I q=>by
 obtain⟨ρ,Hi,R,ou⟩:=q;exact ou.elim
def zLo(T:List (Str×Str)):List (Str×KTD.Dat):=T.map fun q=>(q.1,.flat (.str q.2))
structure IsTab (K:PySem.W.Frag) (mg:Str->Option Ja) (x:Str) (T:List (Str×Str)) (a:Jc):Prop where
 mg:mg x=some (.ref a)
 tab:∀ h:Jd,K.In h->KTD.TextTab h a (zLo T)
def zJD(k:Str):∀ T:List (Str×Str),KTD.datumAt k (zLo T)=(T.lookup k).map fun y=>.flat (.str y)
 | []=>rfl
 | (x,y)::r=>by
  show(if decide (k=x)=true then some (KTD.Dat.flat (.str y)) else KTD.datumAt k (zLo r))=_
  rw[Vz];by_cases hx:k=x
  ·rw[Jj (J5 hx),show(k==x)=true from beq_iff_eq.mpr hx];rfl
  ·rw[Jk (by simp[hx]),show(k==x)=false from beq_eq_false_iff_ne.mpr hx];exact zJD k r
def zHQ(k:Str)(T:List (Str×Str)):KTD.inKeys k (zLo T)=(T.lookup k).isSome:=by
 rw[<-KTD.isSome_datumAt,zJD,Option.isSome_map]
def zMq{T:List (Str×Str)}{ad:Jc}(t:IsTab X.K X.mg x T ad)(hg:Gl X x)(hd:(x==("__debug__" : Str))=false:=by decide):PE X (.Name x p) (tC (.ref ad)):=zKb hg t.mg rfl hd
def zKa{T:List (Str×Str)}{ad:Jc}(t:IsTab X.K X.mg x T ad):OpR X (compareOp .NotIn) (fun v y H Q=>∃ k,v=.str k/\y=.ref ad/\Q (.bl (!(T.lookup k).isSome)) H):=by
 intro Md s i H v y u w Q I rx ry h;obtain⟨k,rfl,rfl,q⟩:=h;obtain⟨tk,rfl⟩:=rx;cases ry;refine KTD.notin_text ⟨t.tab s.heap I.kIn,fun _ _ e=>e⟩ ?_
 rw[zHQ];exact⟨.bl _,H,I.tok _,rfl,q⟩
def zDj{h₀:Jd}{k:Str}{P:Ja->Prop}:∀ {T:List (Str×Str)},(∀ z t,T.lookup k=some z->P (.str z t))->KTD.EachL h₀ k P (zLo T)
 | [],_=>trivial
 | [(x,y)],hP=>fun hk t=>hP y t (by rw[Vz,show(k==x)=true from beq_iff_eq.mpr hk])
 | (x,y)::q::r,hP=>by
  show if decide (k=x)=true then KTD.Opened h₀ P (.flat (.str y)) else KTD.EachL h₀ k P (zLo (q::r))
  by_cases hk:k=x
  ·rw[Jj (J5 hk)]
   exact fun t=>hP y t (by rw[Vz,show(k==x)=true from beq_iff_eq.mpr hk])
  ·rw[Jk (by simp[hk])]
   exact zDj fun z t hz=>hP z t (by rw[Vz,show(k==x)=false from beq_eq_false_iff_ne.mpr hk];exact hz)
def zJG(T:List (Str×Str)):((zLo T).all fun q=>KTD.plain q.2)=true:=by
 unfold zLo;rw[List.all_map];exact V9.mpr fun _ _=>rfl
def zPz{T:List (Str×Str)}{ad:Jc}(t:IsTab X.K X.mg x T ad):IxR X (fun v y H Q=>∃ k z,v=.ref ad/\y=.str k/\T.lookup k=some z/\Q (.str z) H):=by
 intro value slice Md s i H v y u w Q I rx ry h hs;obtain⟨k,z,rfl,rfl,hk,q⟩:=h;cases rx;obtain⟨tk,rfl⟩:=ry;refine KTD.item_textA ⟨t.tab s.heap I.kIn,fun _ _ e=>e⟩ (zJG T) (by rw[zHQ,hk];rfl) ?_ hs
 refine zDj fun z' t' hz=>?_
 rw[hk] at hz;cases hz;exact⟨.str _,H,I.tok _,⟨_,rfl⟩,q⟩
def unT{o:D->Res D}{r:R2}{y:V}(hr:∀ (Hi H:Hp) (v:V) (d:D) (Q:VK),IsD X.K Hi v d->Same Hi H->(∃ d',o d=.ok d'/\(∀ w Hi' H',Ext Hi H Hi' H'->IsD X.K Hi' w d'->Q w H'))->r v y H Q)
  (he:∀ d c,o d≠.err c):∀ i H Q,tD X G (eUn o f) i H Q->tOp r (tD X G f) (tC y) i H Q:=fun i H Q q=>by
 obtain⟨ρ,Hi,R,ou⟩:=q;refine vX R ou fun v d Hi1 H1 e1 R1 r1 o1=>?_
 cases z:o d with
 | no=>rw[z] at o1;exact o1.elim
 | err c=>exact absurd z (he d c)
 | ok d'=>rw[z] at o1;exact hr Hi1 H1 v d Q r1 R1.s ⟨d',z,fun w Hi' H' e1 r1=>o1 Hi' H' e1 w r1⟩
def zPO{T:List (Str×Str)}{ad:Jc}:∀ i H Q,tD X G (eUn (uA T) f) i H Q->tOp (fun v y H Q=>∃ k,v=.str k/\y=.ref ad/\Q (.bl (!(T.lookup k).isSome)) H) (tD X G f) (tC (.ref ad)) i H Q:=
 unT (fun Hi H v d Q r s h=>by
  obtain⟨d',z,q⟩:=h;unfold uA at z;split at z
  ·cases z;exact⟨_,r.strI,rfl,q _ Hi H (Ext.refl s) (.bl _)⟩
  ·cases z) fun d c z=>by unfold uA at z;split at z<;>cases z
def zMP{op:CmpOp}{o:D->Res D}{r:R2}{y:V}(hp:PT X (.Compare a [op] [b] pos) (zMb (tOp r (tD X G f) (tC y))))(hu:∀ i H Q,tD X G (eUn o f) i H Q->tOp r (tD X G f) (tC y) i H Q):PTd X G (.Compare a [op] [b] pos) (cX (eUn o f)):=
 PT.wk hp fun i H Q q=>by
  obtain⟨ρ,Hi,R,ou⟩:=q;refine hu i H _ ⟨ρ,Hi,R,ou.bind.imp fun d Hi' H' e o v r=>?_⟩
  cases d with
  | bl c=>rw[r.blI];exact⟨c,rfl,o.here e.s⟩
  | _=>exact o.elim
def zLb{T:List (Str×Str)}{ad:Jc}(t:IsTab X.K X.mg x T ad)(hg:Gl X x)(ha:PEd X G a f)(hm:behindInMarks .NotIn (.Name x p)=false)(hd:(x==("__debug__" : Str))=false:=by decide):PTd X G (.Compare a [.NotIn] [.Name x p] pos) (cX (eUn (uA T) f)):=
 zMP (wL (zKa t) ha (zMq t hg hd) hm) zPO
def zRs{T:List (Str×Str)}{ad:Jc}(t:IsTab X.K X.mg x T ad)(hg:Gl X x)(hb:PEd X G b g)(hs:zEB b)(hd:(x==("__debug__" : Str))=false:=by decide):PEd X G (.Subscript (.Name x p) b pos) (eUn (zDD T) g):=
 PE.wk (zGX (zPz t) (zMq t hg hd) hb hs) fun i H Q q=>by
  obtain⟨ρ,Hi,R,ou⟩:=q;refine vX R ou fun v d Hi1 H1 e1 R1 r1 o1=>?_
  cases d with
  | str k=>
   have o2:Out G Hi1 H1 (zPq (T.lookup k)) _:=o1
   cases z:T.lookup k with
   | none=>rw[z] at o2;exact o2.elim
   | some y=>rw[z] at o2;exact⟨k,y,rfl,r1.strI,z,o2.here R1.s _ (.str _)⟩
  | _=>exact o1.elim
end
section
variable{prog:Je}{w:Jf}{A:Jg}{R:Result->Jb->Prop}{I:Jc}{fp wr:List Jc}{n:Nat}{P:Nat->Ja->Prop}{St:Nat->Jd->Prop}{kw:List (Str×Ja)}
def zNE(R:Result->Jb->Prop)(wr:List Jc)(S:Jc)(s:Jb)(P:Ja->Prop):Prop:=
 ∀ v h' tk,P v->(∀ b o,b∉wr->b≠S->s.heap.get? b=some o->h'.get? b=some o)->R (.ok (.ret v)) { s with heap:=h',toks:=tk }
def zSu(s:Jb)(S:Jc)(vs:Array Ja)(c:Nat):Prop:=s.heap.get? S=some { cls:=.type "list", dict:=none,data:=.seq vs c,slots:=#[] }
def zGx:(toString "max" ++ toString ".loop" : String) = "max.loop" := by decide
def zNG(W:Walks prog w A.in1 I fp wr n P St)(bt:Nat->Nat->Bool)(hcmp:CmpOf prog w A.in1 .Gt P bt)(S:Jc)(hSf:S∉fp):
  ∀(k j:Nat)(s:Jb)(vb:Ja)(c:Nat),n-(j+1)=k->j+1<=n->St (j+1) s.heap->P (argBest bt j) vb->zSu s S #[vb,vb] c->zNE R wr S s (P (argBest bt (n-1)))->
  codeAny (model prog w) A (.builtin "max.loop" ⟨[.ref I,.none,.ref S],kw⟩) R s:=by
 have hSw:S∉wr:=fun h=>hSf (W.sub _ h)
 intro k
 induction k with
 | zero=>
  intro j s vb c hk hj hst hPb hS hR;have hin:j+1=n:=by omega
  refine codeAny_builtin F.entry_max_loop ?_;rw[Around.under_plainId F.plain_max_loop _]
  refine Jq (wpAny_seqItems hS rfl ?_)
  refine Jq (m:=tryCatch (pyNext (.ref I)) _) (wpAny_tryCatch (W.done s _ _ (hin ▸ hst) fun h' tk hk'=>?_))
  have hS':=hk' S _ hSw hS;refine Jq (m:=updateSeq S (fun _=>#[])) (wpAny_updateSeq hS' rfl (Jq (wpAny_letGo (Jt ?_))))
  exact hR vb _ tk (by rw[<-hin];exact hPb) fun b o hbw hbS e=>(Heap.get?_update_other _ _ (Ne.symm hbS)).trans (hk' b o hbw e)
 | succ k ih=>
  intro j s vb c hk hj hst hPb hS hR;have hlt:j+1<n:=by omega
  refine codeAny_builtin F.entry_max_loop ?_;rw[Around.under_plainId F.plain_max_loop _]
  refine Jq (wpAny_seqItems hS rfl ?_)
  refine Jq (m:=tryCatch (pyNext (.ref I)) _) (wpAny_tryCatch (W.item (j+1) s _ _ hlt hst fun v h' tk hP hst' hk'=>?_))
  have hS':=hk' S _ hSw hS;refine Jq (m:=tryCatch (holding [v,v] (richCompare .Gt v vb >>= _)) _) (wpAny_tryCatch (wpAny_holding (Jq (hcmp (j+1) (argBest bt j) v vb _ _ _ hP hPb ?_))))
  refine Jq (wpAny_holding (wpAny_truthy_bool (Jq (wpAny_letGo (Jt ?_)))))
  cases hb:bt (j+1) (argBest bt j) with
  | true=>
   simp only[if_true];refine Jq ?_;refine wpAny_updateSeq hS' rfl (Jq (wpAny_letGo ?_));rw[zGx]
   refine Jt ⟨plainId_quiet F.plain_max_loop _,ih (j+1) _ v _ (by omega) hlt (W.frame _ _ _ hst' fun b hbf o e=>(Heap.get?_update_other _ _ (fun h:S=b=>hSf (by rw[h];exact hbf))).trans e) (by simp only[argBest,hb,if_true];exact hP) (Heap.get?_update_self _ hS' rfl) fun v' h'' tk'' hP' hk''=>?_⟩
   exact hR v' h'' tk'' hP' fun b o hbw hbS e=>hk'' b o hbw hbS ((Heap.get?_update_other _ _ (Ne.symm hbS)).trans (hk' b o hbw e))
  | false=>
   simp only[Xc,if_false];refine Jq (wpAny_letGo ?_);rw[zGx]
   exact Jt ⟨plainId_quiet F.plain_max_loop _,ih (j+1) _ vb c (by omega) hlt hst' (by simp only[argBest,hb,Xc,if_false];exact hPb) hS' fun v' h'' tk'' hP' hk''=>hR v' h'' tk'' hP' fun b o hbw hbS e=>hk'' b o hbw hbS (hk' b o hbw e)⟩
def zKz(W:Walks prog w A.in1 I fp wr n P St)(bt:Nat->Nat->Bool)(hcmp:CmpOf prog w A.in1 .Gt P bt)(S:Jc)(hSf:S∉fp)(hn:0<n){s:Jb}{c:Nat}(hst:St 0 s.heap)(hS:zSu s S #[] c)(hR:zNE R wr S s (P (argBest bt (n-1)))):
  codeAny (model prog w) A (.builtin "max.loop" ⟨[.ref I,.none,.ref S],kw⟩) R s:=by
 have hSw:S∉wr:=fun h=>hSf (W.sub _ h)
 refine codeAny_builtin F.entry_max_loop ?_;rw[Around.under_plainId F.plain_max_loop _]
 refine Jq (wpAny_seqItems hS rfl ?_)
 refine Jq (m:=tryCatch (pyNext (.ref I)) _) (wpAny_tryCatch (W.item 0 s _ _ hn hst fun v h' tk hP hst' hk'=>?_))
 have hS':=hk' S _ hSw hS;refine Jq (m:=updateSeq S (fun _=>#[v,v])) (wpAny_updateSeq hS' rfl ?_);rw[zGx]
 refine Jt ⟨plainId_quiet F.plain_max_loop _,zNG W bt hcmp S hSf _ 0 _ v _ rfl hn (W.frame _ _ _ hst' fun b hbf o e=>(Heap.get?_update_other _ _ (fun h:S=b=>hSf (by rw[h];exact hbf))).trans e) hP (Heap.get?_update_self _ hS' rfl) fun v' h'' tk'' hP' hk''=>?_⟩
 exact hR v' h'' tk'' hP' fun b o hbw hbS e=>hk'' b o hbw hbS ((Heap.get?_update_other _ _ (Ne.symm hbS)).trans (hk' b o hbw e))
def zNy{x:Str}{d:Ja}(W:Walks prog w A.in1 I fp wr 0 P St)(S:Jc)(hSf:S∉fp){s:Jb}{c:Nat}(hst:St 0 s.heap)(hS:zSu s S #[] c)(hR:zNE R wr S s (·=d)):
  codeAny (model prog w) A (.builtin "max.loop" ⟨[.ref I,.none,.ref S],[(x,d)]⟩) R s:=by
 refine codeAny_builtin F.entry_max_loop ?_;rw[Around.under_plainId F.plain_max_loop _]
 refine Jq (wpAny_seqItems hS rfl ?_)
 refine Jq (m:=tryCatch (pyNext (.ref I)) _) (wpAny_tryCatch (W.done s _ _ hst fun h' tk hk'=>?_))
 exact Jq (wpAny_rule (Jt (hR d h' tk rfl fun b o hbw _ e=>hk' b o hbw e)))
end
section
variable{X:Cx}{G:Gx}{a c:Expr}{pos p kp:Pos}{f g:Ev}
def zJp(num:Nat->Int):∀ k,num (argBest (fun i j=>decide (num i > num j)) k)=zBo (num 0) ((List.range k).map fun i=>num (i+1))
 | 0=>rfl
 | k+1=>by
  rw[Yv,Q9]
  have app:∀(l:List Int)(a b:Int),zBo a (l++[b])=if b > zBo a l then b else zBo a l:=by
   intro l
   induction l with
   | nil=>intro a b;rfl
   | cons x r ih=>intro a b;rw[Y9,zBo,ih,zBo]
  rw[List.map_singleton,app,<-zJp num k];show num (if decide (num (k+1) > num (argBest _ k))=true then k+1 else argBest _ k)=_
  by_cases h:num (k+1) > num (argBest (fun i j=>decide (num i > num j)) k)
  ·rw[Jj (J5 h),Jj h]
  ·rw[Jk (by simp[h]),Jk h]
def zEf(m:Int)(ns:List Int):(m::ns).getD (argBest (fun i j=>decide ((m::ns).getD i 0 > (m::ns).getD j 0)) ns.length) 0=zBo m ns:=by
 rw[zJp (fun i=>(m::ns).getD i 0) ns.length];show zBo m _=_
 congr 1
 refine Yw fun i=>?_
 rw[Qq];by_cases h:i<ns.length
 ·rw[V8 h,Qj h]
  show some ((m::ns).getD (i+1) 0)=_
  rw[List.getD_cons_succ,Qs,Qj h];rfl
 ·rw[Qz (by rw[Vd];omega),Qz (by omega)];rfl
def zSS(d:Int):List Int->Int
 | []=>d
 | m::r=>zBo m r
def zQT(K:PySem.W.Frag):R2:=fun x y H Q=>∃(ad:Jc)(d:Int)(ns:List Int),x=.ref ad/\y=.int d/\SqL K H ad (ns.map V.int)/\Q (.int (zSS d ns)) H
def zKi(x v:Ja):argsOk "max" ⟨[x],[(Str.ofString "default", v)]⟩:=by unfold argsOk;kernel_rfl
def zJv(hc:X.calm=true){Md:List (Jc×Obj)}{s:Jb}{n:St}{H:Hp}{ad:Jc}{d:Int}{t:Tok}{ns:List Int}{Q:VK}(I:Inv X Md n H s)(hq:SqL X.K H ad (ns.map V.int))(q:Q (.int (zSS d ns)) H):
  wpAny (model X.prog X.w) X.A (call (.builtin "max") [.ref ad] [(Str.ofString "default", .int d t)]) (EP X Md n Q) X.xe s:=by
 have hh:=I.ok.hd hc;obtain⟨its,rv,p,hz⟩:=I.list hq;have hlt:ad<s.heap.objs.size:=by obtain⟨_,e,_⟩:=p.isList;exact Heap.lt_size e
 have hl:=rv.length;rw[Qi] at hl;refine kmk_tree F.kind_max F.plain_max F.entry_max (zKi _ _) ?_
 refine Jq (m:=Builtin.Builtins.bindParams "max" ["key","default"] 0 ⟨[],[(Str.ofString "default", .int d t)]⟩) (wpAny_of_eq (a:=[none,some (.int d t)]) (by first | rfl | kernel_rfl) ?_)
 refine Jq (Jt ?_)
 refine Jq (wpAny_pyIter_list p.isList ?_)
 refine Jq (wpAny_newObj_type ?_)
 rw[zGx];refine Jt ⟨plainId_quiet F.plain_max_loop _,?_⟩
 have W:=Walks.list (prog:=X.prog) (w:=X.w) (A:=X.A.in1) hh s.heap.objs.size ad (Qo hlt) its.toArray
 have hSf:(s.heap.push { cls:=.type "list_iterator", data:=.fields #[.ref ad,.int 0 0] }).objs.size∉[s.heap.objs.size,ad]:=by
  rw[Heap.size_push];intro z;rcases Qc.mp z with z | z
  ·exact U5 _ z
  ·exact Vr _ (V7 (X1 (Qx.mp z)) (Xd hlt))
 have keep:∀ {h':Jd} {b:Jc} {o:Obj},(∀ b o,b∉[s.heap.objs.size]->b≠(s.heap.push { cls:=.type "list_iterator", data:=.fields #[.ref ad,.int 0 0] }).objs.size->((s.heap.push { cls:=.type "list_iterator", data:=.fields #[.ref ad,.int 0 0] }).push { cls:=.type "list", data:=.seq #[] }).get? b=some o->h'.get? b=some o)->s.heap.get? b=some o->h'.get? b=some o:=fun {h' b o} hk e=>by
  have l:=Heap.lt_size e;refine hk b o (fun z=>?_) (fun z=>?_) (Heap.get?_push_of_some _ (Heap.get?_push_of_some _ e))
  ·rw[Qx.mp z] at l;exact Vr _ l
  ·rw[z,Heap.size_push] at l;exact Vr _ (Nat.lt_of_succ_lt l)
 have hst:((s.heap.push { cls:=.type "list_iterator", data:=.fields #[.ref ad,.int 0 0] }).push { cls:=.type "list", data:=.seq #[] }).IsListIter s.heap.objs.size ad 0/\((s.heap.push { cls:=.type "list_iterator", data:=.fields #[.ref ad,.int 0 0] }).push { cls:=.type "list", data:=.seq #[] }).IsList ad its.toArray:=
  ⟨⟨_,Heap.get?_push_of_some _ (Heap.get?_push_size _ rfl),rfl,rfl⟩,(p.isList.push _).push _⟩
 cases ns with
 | nil=>
  have e0:its=[]:=U1 (by rw[<-hl];rfl)
  subst e0;exact zNy W _ hSf hst (Heap.get?_push_size _ rfl) fun v h' tk hv hk=>⟨.int d,H,I.kept (t':=tk) fun b o e=>keep hk e,⟨t,hv⟩,q⟩
 | cons m r=>
  refine zKz W (fun i j=>decide ((m::r).getD i 0 > (m::r).getD j 0)) (CmpOf.ints_gt _ fun i v hv=>zAF rv (by simpa using hv)) _ hSf (by rw[Qh,<-hl];exact Yy _) hst (Heap.get?_push_size _ rfl) fun v h' tk hv hk=>?_
  obtain⟨t',rfl⟩:=zAF rv (i:=argBest (fun i j=>decide ((m::r).getD i 0 > (m::r).getD j 0)) (its.toArray.size-1)) (by simpa using hv)
  refine⟨.int (zBo m r),H,I.kept (t':=tk) fun b o e=>keep hk e,⟨t',?_⟩,q⟩
  rw[Qh,<-hl,Qk,U6,zEf]
def zNw{ta tb:TE}(hc:X.calm=true)(hg:Gl X "max")(hm:X.mg "max" = none)(ha:PE X a ta)(hb:PE X c tb)(hs:starEach [a] X.env=(false,eval a X.env)::starEach [] X.env:=by rfl):
  PE X (.Call (.Name "max" p) [a] [⟨some "default", c,kp⟩] pos) (tOp (zQT X.K) ta tb):=by
 intro Md s n H Q I h;refine Jx (pY I hg hm boot_max ?_ (by decide) (by decide))
 refine callWith_kw (thn ((lX ha rK hs) pos Md s n H (fun vs H1=>match vs with | [x]=>tb n H1 fun y H2=>zQT X.K x y H2 Q | _=>False) I h) fun us s1 ⟨vs,H1,I1,r1,q1⟩=>?_) (by rw[hs];rfl) (by rw[hs];rfl)
 match vs,r1,q1 with
 | [x],r1,q1=>
  obtain⟨u,rfl,ru⟩:=zEG r1;refine kws_cons (thn (hb Md s1 n H1 _ I1 q1) fun v s2 ⟨y,H2,I2,r2,q2⟩=>kws_nil ?_)
  obtain⟨ad,d,ns,rfl,rfl,hq,q⟩:=q2;cases ru;obtain⟨t,rfl⟩:=r2;exact zJv hc I2 hq q
def zNI(hc:X.calm=true)(hg:Gl X "max")(hm:X.mg "max" = none)(ha:PEd X G a f)(hb:PEd X G c g)(hs:starEach [a] X.env=(false,eval a X.env)::starEach [] X.env:=by rfl):
  PEd X G (.Call (.Name "max" p) [a] [⟨some "default", c,kp⟩] pos) (eOp (fun x y=>zFm [x,y]) f g):=PE.wk (zNw hc hg hm ha hb hs) (op2 ⟨fun a b c z=>(by
  replace z:zFm [a,b]=_:=z
  unfold zFm at z;split at z
  ·split at z<;>cases z
  ·cases z),fun Hi H x y a b d Q s r1 r2 z q=>by
  replace z:zFm [a,b]=_:=z
  unfold zFm at z;split at z
  ·rename_i ds d' he
   cases he;obtain⟨ad,xs,rfl,h1,h2⟩:=r1.lstI;split at z
   ·rename_i m ns hns
    cases z;have e:=mB h2 hns;subst e;exact⟨ad,_,_,rfl,r2.intI,dF s h1,q _ Hi H (Ext.refl s) (.int _)⟩
   ·rename_i hns
    cases z;have e:=mB h2 hns;subst e;exact⟨ad,_,[],rfl,r2.intI,dF s h1,q _ Hi H (Ext.refl s) (.int _)⟩
   ·cases z
  ·cases z⟩)
def zHj:OpR X (compareOp .IsNot) (fun x y H Q=>∃ b,x=.bl b/\y=.bl true/\Q (.bl (!b)) H):=by
 intro Md s n H x y v u Q I rx ry h;obtain⟨b,rfl,rfl,q⟩:=h;cases rx;cases ry;have e:compareOp .IsNot (Value.bool b) (Value.bool true)=pure (Value.bool (!b)):=by cases b<;>rfl
 exact wpAny_of_eq e ⟨.bl (!b),H,I,rfl,q⟩
def zSw:∀ n H Q,tD X G (eUn zLn f) n H Q->tOp (fun x y H Q=>∃ b,x=.bl b/\y=.bl true/\Q (.bl (!b)) H) (tD X G f) (tC (.bl true)) n H Q:=
 unT (fun Hi H v d Q r s h=>by
  obtain⟨d',z,q⟩:=h;unfold zLn at z;split at z
  ·cases z;exact⟨_,r.blI,rfl,q _ Hi H (Ext.refl s) (.bl _)⟩
  ·cases z) fun d c z=>by unfold zLn at z;split at z<;>cases z
def zEx(ha:PEd X G a f)(hb:PE X c (tC (.bl true)))(hm:behindInMarks .IsNot c=false):PTd X G (.Compare a [.IsNot] [c] pos) (cX (eUn zLn f)):=zMP (wL zHj ha hb hm) zSw
end
end L3
namespace L2
open PySem PySem.Spec PyProof.Rows
abbrev KT(H:Hp):List (List Key×V)->List (List Key×Jc×Ja)->Prop:=Paired fun p q=>p.1=q.1/\H q.2.1=some (.tup (p.1.map kV))/\dZ p.2 q.2.2
end L2
namespace L3
open PySem PySem.Spec PyProof.Rows L2
unseal PEd PEf PTd PWd PAd PSd eQ POd PGd iM PId PSx lF PTs PCd PCf
end L3
namespace L3
open PySem PySem.Spec PyProof.Rows L2
def itN(k:Bool):String:=if k then "list_iterator" else "tuple_iterator"
def zDT(k:Bool)(h:Jd)(it l:Jc)(i:Nat):Prop:=if k then h.IsListIter it l i else h.IsTupleIter it l i
def vL(k:Bool)(h:Jd)(l:Jc)(xs:Array Ja):Prop:=if k then h.IsList l xs else h.IsTuple l xs
def zDT.get{k:Bool}{h:Jd}{it l:Jc}{i:Nat}(x:zDT k h it l i):∃ o,h.get? it=some o/\o.cls=.type (itN k)/\o.data=.fields #[.ref l,.int i 0]:=by
 cases k<;>(obtain⟨o,a,b,c⟩:=x;exact⟨o,a,b,c⟩)
def zDT.mk{k:Bool}{h:Jd}{it l:Jc}{i:Nat}{o:Obj}(a:h.get? it=some o)(b:o.cls=.type (itN k))(c:o.data=.fields #[.ref l,.int i 0]):zDT k h it l i:=by
 cases k<;>exact⟨o,a,b,c⟩
def zDT.go{k:Bool}{h h':Jd}{it l:Jc}{i:Nat}(x:zDT k h it l i)(g:∀ o,h.get? it=some o->h'.get? it=some o):zDT k h' it l i:=by
 obtain⟨o,a,b,c⟩:=x.get;exact .mk (g o a) b c
def vL.go{k:Bool}{h h':Jd}{l:Jc}{xs:Array Ja}(x:vL k h l xs)(g:∀ o,h.get? l=some o->h'.get? l=some o):vL k h' l xs:=by
 cases k<;>(obtain⟨o,a,b⟩:=x;exact⟨o,g o a,b⟩)
section
variable{prog:Je}{w:Jf}{A:Jg}{E:Ja->Jb->Prop}{s:Jb}
def zAT{k:Bool}{l:Jc}{xs:Array Ja}{Q:Ja->Jb->Prop}(hl:vL k s.heap l xs)(hQ:Q (.ref s.heap.objs.size) { s with heap:=s.heap.push { cls:=.type (itN k),data:=.fields #[.ref l,.int 0 0] } }):
  wpAny (model prog w) A (pyIter (.ref l)) Q E s:=by
 cases k
 ·exact wpAny_pyIter_tuple hl hQ
 ·exact wpAny_pyIter_list hl hQ
def nxT{it t:Jc}{i:Nat}{items:Array Ja}{Q:Ja->Jb->Prop}(hh:A.handled=none∨(items[i]?).isSome=true)(x:s.heap.IsTupleIter it t i)(y:s.heap.IsTuple t items)
  (go:∀ v,items[i]?=some v->∀ h2,h2.IsTupleIter it t (i+1)->Heap.SameBut it s.heap h2->Q v { s with heap:=h2 })
  (stop:items[i]?=none->∀ h2 e,Heap.ExtBut it s.heap h2->(∃ ob,h2.get? e=some ob/\ob.cls=.type "StopIteration")->E (.ref e) { s with heap:=h2 }):wpAny (model prog w) A (Builtin.SmallTypes.nextOf (.ref it)) Q E s:=by
 obtain⟨oi,ei,ci,di⟩:=id x;obtain⟨ot,et,_,nt,dt⟩:=y;have nn:¬ ((Value.ref t==Value.none)=true):=X8;unfold Builtin.SmallTypes.nextOf;refine Jq (wpAny_callSpecial?_slot (name:=Str.ofString "__next__") x.typeIs F.slot_tuple_iterator_next (wpAny_call_entry F.slot_tuple_iterator_next x.typeIs F.entry_tuple_iterator_next (show wpAny _ _ (field _ 0 >>= _) _ _ s from Jq (wpAny_field ei di (x:=.ref t) rfl ?_)) (F.args_tuple_iterator_next_1 _)))
 show wpAny _ _ (ite ((Value.ref t==Value.none)=true) _ _) _ _ s
 rw[Jk nn];refine show wpAny _ _ (field _ 1 >>= _) _ _ s from Jq (wpAny_field ei di (x:=.int i 0) rfl (show wpAny _ _ (seqItems? _ >>= _) _ _ s from Jq (wpAny_seqItems et dt ?_)))
 have fr:∀ g:Array Ja->Array Ja,Heap.get? (s.heap.update it (Obj.mapFields g)) it=some (Obj.mapFields g oi):=fun g=>Heap.get?_update_self _ ei (Obj.isFreed_of_fields (Obj.data_mapFields di g))
 cases q:items[i]? with
 | some v=>
  simp only[Vb,q];refine Jq (wpAny_setField ei di (by simp) (Jt ⟨v,rfl,Jt (go v q _ ⟨_,fr _,(Obj.cls_mapFields ..).trans ci,?_⟩ (Heap.SameBut.update ..))⟩))
  rw[Obj.data_mapFields di];simp[rawInt]
 | none=>
  have hh:A.handled=none:=hh.elim id fun z=>by rw[q] at z;cases z
  simp only[Vb,q];refine Jq (wpAny_rule (Jq (wpAny_setField ei di (by simp) (show wpAny _ _ (newExc _ [] >>= _) _ _ _ from Jq ?_))))
  simp only[newExc,newTuple];refine Jq (wpAny_newObj_type (Jq (m:=firstArgMember _ _) (wpAny_of_eq (a:=Value.none) (by first | rfl | (simp only[firstArgMember];rfl)) (wpAny_newObj_type ?_ (by size_fits)))) (by size_fits))
  simp only[raiseNew];refine Jq (wpAny_handled ?_)
  rw[show A.in1.handled=none from hh];exact Jq (Jt (wpAny_throw (stop q _ _ (((Heap.SameBut.update ..).extBut.push _).push _) ⟨_,Heap.get?_push_size _ rfl,rfl⟩)))
def zFb{k:Bool}{it t:Jc}{i:Nat}{items:Array Ja}{x:Ja}{Q:Ja->Jb->Prop}(hit:zDT k s.heap it t i)(ht:vL k s.heap t items)(hx:items[i]?=some x)
  (hQ:∀ h',zDT k h' it t (i+1)->Heap.SameBut it s.heap h'->Q x { s with heap:=h' }):wpAny (model prog w) A (Builtin.SmallTypes.nextOf (.ref it)) Q E s:=by
 cases k
 ·exact nxT (.inr (by rw[hx];rfl)) hit ht (fun v q h2 g1 g2=>by rw[hx] at q;cases q;exact hQ h2 g1 g2) fun q=>by rw[hx] at q;cases q
 ·exact wpAny_nextOf_list_item hit ht hx hQ
def zFA{k:Bool}{it t:Jc}{i:Nat}{items:Array Ja}{Q:Ja->Jb->Prop}(hh:A.handled=none)(hit:zDT k s.heap it t i)(ht:vL k s.heap t items)(hx:items[i]?=none)
  (hE:∀ h' e,Heap.ExtBut it s.heap h'->(∃ o,h'.get? e=some o/\o.cls=.type "StopIteration")->E (.ref e) { s with heap:=h' }):wpAny (model prog w) A (Builtin.SmallTypes.nextOf (.ref it)) Q E s:=by
 cases k
 ·exact nxT (.inl hh) hit ht (fun v q=>by rw[hx] at q;cases q) fun _=>hE
 ·exact wpAny_nextOf_list_end hh hit ht hx hE
def zPc{k:Bool}(hh:A.handled=none)(it l:Jc)(hne:l≠it)(items:Array Ja):Draws prog w A it [it,l] items.size (fun i v=>items[i]?=some v) (fun i h=>zDT k h it l i/\vL k h l items) where
 live:=fun _ _ st=>let ⟨o,ho,_⟩:=st.1.get;⟨o,ho⟩
 frame:=fun _ _ _ st hk=>⟨st.1.go fun o e=>hk it (by simp) o e,st.2.go fun o e=>hk l (by simp) o e⟩
 item:=fun i s Q E hi st hQ=>by
  refine zFb st.1 st.2 (x:=items[i]) (by simp[hi]) fun h' hit' hs'=>?_
  exact hQ _ h' s.toks (by simp[hi]) ⟨hit',st.2.go fun o e=>hs'.extBut _ o hne e⟩ hs'
 done:=fun s Q E st hE=>zFA hh st.1 st.2 (by simp) hE
def zAw(f0:Ja)(k1 k2:Bool)(l1 l2 n:Jc)(j1 j2:Nat)(h:Jd):Prop:=
 IsZip h (n+4) (n+2) (n+3) f0/\IsPair h (n+2) (.ref n) (.ref (n+1))/\(∃ a b,IsPair h (n+3) a b)/\zDT k1 h n l1 j1/\zDT k2 h (n+1) l2 j2
def qU(n:Jc)(h h2:Jd):Prop:=∀ c o,c≠n+4->c≠n+3->c≠n->c≠n+1->h.get? c=some o->h2.get? c=some o
def qU.then{n:Jc}{h h1 h2:Jd}(a:qU n h h1)(b:qU n h1 h2):qU n h h2:=fun c o c1 c2 c3 c4 e=>b c o c1 c2 c3 c4 (a c o c1 c2 c3 c4 e)
def qU.eb{n a:Jc}{h h2:Jd}(k:Heap.ExtBut a h h2)(m:a=n+4∨a=n+3∨a=n∨a=n+1):qU n h h2:=fun c o c1 c2 c3 c4 e=>k c o (fun z=>by subst z;rcases m with m | m | m | m<;>contradiction) e
def qU.sq{k:Bool}{n l:Jc}{h h2:Jd}{xs:Array Ja}(a:qU n h h2)(hl:l<n)(x:vL k h l xs):vL k h2 l xs:=
 x.go fun o e=>a l o (Qo (Nat.lt_add_right 4 hl)) (Qo (Nat.lt_add_right 3 hl)) (Qo hl) (Qo (Xd hl)) e
def zLE(n:Jc):n+3≠n+4/\n+2≠n+4/\n≠n+4/\n+1≠n+4/\n+2≠n+3/\n≠n+3/\n+1≠n+3/\n+2≠n/\n+1≠n/\n+2≠n+1:=by
 refine⟨?_,?_,?_,?_,?_,?_,?_,?_,?_,?_⟩<;>(intro z;have z':(_:Nat)=_:=z;omega)
def zAw.fld{f0:Ja}{k1 k2:Bool}{l1 l2 n:Jc}{j1 j2:Nat}{h h2:Jd}(g:zAw f0 k1 k2 l1 l2 n j1 j2 h){f1:Ja}(z:IsZip h2 (n+4) (n+2) (n+3) f1)(s:Heap.ExtBut (n+4) h h2):zAw f1 k1 k2 l1 l2 n j1 j2 h2:=by
 obtain⟨_,g2,⟨a,b,g3⟩,g4,g5⟩:=g;obtain⟨e1,e2,e3,e4,_⟩:=zLE n;exact⟨z,s _ _ e2 g2,⟨a,b,s _ _ e1 g3⟩,g4.go fun o e=>s _ o e3 e,g5.go fun o e=>s _ o e4 e⟩
def zAw.it1{f0:Ja}{k1 k2:Bool}{l1 l2 n:Jc}{j1 j2 m:Nat}{h h2:Jd}(g:zAw f0 k1 k2 l1 l2 n j1 j2 h)(z:zDT k1 h2 n l1 m)(s:Heap.ExtBut n h h2):zAw f0 k1 k2 l1 l2 n m j2 h2:=by
 obtain⟨g1,g2,⟨a,b,g3⟩,_,g5⟩:=g;obtain⟨e1,e2,e3,e4,e5,e6,e7,e8,e9,_⟩:=zLE n;exact⟨s _ _ e3.symm g1,s _ _ e8 g2,⟨a,b,s _ _ e6.symm g3⟩,z,g5.go fun o e=>s _ o e9 e⟩
def zAw.it2{f0:Ja}{k1 k2:Bool}{l1 l2 n:Jc}{j1 j2 m:Nat}{h h2:Jd}(g:zAw f0 k1 k2 l1 l2 n j1 j2 h)(z:zDT k2 h2 (n+1) l2 m)(s:Heap.ExtBut (n+1) h h2):zAw f0 k1 k2 l1 l2 n j1 m h2:=by
 obtain⟨g1,g2,⟨a,b,g3⟩,g4,_⟩:=g;obtain⟨e1,e2,e3,e4,e5,e6,e7,e8,e9,e10⟩:=zLE n;exact⟨s _ _ e4.symm g1,s _ _ e10 g2,⟨a,b,s _ _ e7.symm g3⟩,g4.go fun o e=>s _ o e9.symm e,z⟩
def zAw.out{f0 a b:Ja}{k1 k2:Bool}{l1 l2 n:Jc}{j1 j2:Nat}{h h2:Jd}(g:zAw f0 k1 k2 l1 l2 n j1 j2 h)(z:IsPair h2 (n+3) a b)(s:Heap.ExtBut (n+3) h h2):zAw f0 k1 k2 l1 l2 n j1 j2 h2:=by
 obtain⟨g1,g2,_,g4,g5⟩:=g;obtain⟨e1,e2,e3,e4,e5,e6,e7,_⟩:=zLE n;exact⟨s _ _ e1.symm g1,s _ _ e5 g2,⟨a,b,z⟩,g4.go fun o e=>s _ o e6 e,g5.go fun o e=>s _ o e7 e⟩
def zTP{k1 k2:Bool}{n l1 l2:Jc}{j:Nat}{xs ys:Array Ja}{Q:PySem.Fin->Jb->Prop}(hh:A.handled=none)(b1:l1<n)(b2:l2<n)(g:zAw .none k1 k2 l1 l2 n j j s.heap)(d1:vL k1 s.heap l1 xs)(d2:vL k2 s.heap l2 ys)
  (go:∀ x y,xs[j]?=some x->ys[j]?=some y->∀ h2,zAw (rawInt s.heap.objs.size) k1 k2 l1 l2 n (j+1) (j+1) h2->IsPair h2 s.heap.objs.size x y->qU n s.heap h2->Q (.done (.ret (.ref s.heap.objs.size))) { s with heap:=h2 })
  (stop:xs[j]?=none∨ys[j]?=none->∀ h2 e,qU n s.heap h2->(∃ o,h2.get? e=some o/\o.cls=.type "StopIteration")->E (.ref e) { s with heap:=h2 }):
  wpAny (model prog w) A (Builtin.«zip.__next__» ⟨[.ref (n+4)],[]⟩) Q E s:=by
 have stopZ:∀ {h1:Jd} {e:Jc} {v:Ja} {k:Nat} {R:Unit->Jb->Prop},(xs[j]?=none∨ys[j]?=none)->qU n s.heap h1->IsZip h1 (n+4) (n+2) (n+3) .ellipsis->(∃ o,h1.get? e=some o/\o.cls=.type "StopIteration")->k<5->
   (∀ h3,qU n s.heap h3->(∃ o,h3.get? e=some o/\o.cls=.type "StopIteration")->R () { s with heap:=h3 })->wpAny (model prog w) A (setField (.ref (n+4)) k v) R E { s with heap:=h1 }:=by
  intro h1 e v k R q kz z he hk fin;obtain⟨oe,e1,e2⟩:=he;have nz:e≠n+4:=fun y=>by subst y;rw[z] at e1;cases e1;simp at e2
  exact wpAny_setField_rec z (by simpa using hk) fun h3 _ s3=>fin h3 (kz.then (.eb s3.extBut (.inl rfl))) ⟨oe,s3.extBut _ _ nz e1,e2⟩
 obtain⟨z0,t0,⟨a,b,p0⟩,_⟩:=id g;refine show wpAny _ _ (field _ 2 >>= _) _ _ s from Jq (wpAny_field z0 rfl (x:=.bool false) rfl (show wpAny _ _ (field _ 3 >>= _) _ _ s from Jq (wpAny_field z0 rfl (x:=.ref (n+2)) rfl (Jq (wpAny_seqItems t0 rfl (Jq ?_))))))
 unfold Builtin.SmallTypes.ownedTupleIsFree;refine Jq (wpAny_field z0 rfl (x:=.none) rfl (Jt ?_))
 simp only[if_true];refine Jq (wpAny_rule (Jq (wpAny_field z0 rfl (x:=.ref (n+3)) rfl (Jq (wpAny_setField_rec z0 (by simp) fun h1 z1 s1=>Jq ?_)))))
 have g1:zAw .ellipsis k1 k2 l1 l2 n j j h1:=g.fld z1 s1.extBut;have k1':qU n s.heap h1:=.eb s1.extBut (.inl rfl);simp only[List.zipIdx_cons,List.zipIdx_nil,Y8,List.forIn_nil];refine Jq (Jq (wpAny_onRaise (show wpAny _ _ (Builtin.SmallTypes.nextOf _ >>= _) _ _ _ from Jq ?_)))
 cases q1:xs[j]? with
 | none=>
  refine zFA (s:={ s with heap:=h1 }) hh g1.2.2.2.1 (k1'.sq b1 d1) q1 fun h2 e x2 he=>stopZ (.inl q1) (k1'.then (.eb x2 (.inr (.inr (.inl rfl))))) (x2 _ _ (zLE n).2.2.1.symm g1.1) he (by decide) fun h3=>stop (.inl q1) h3 e
 | some x=>
  refine zFb (s:={ s with heap:=h1 }) g1.2.2.2.1 (k1'.sq b1 d1) q1 fun h2 i2 s2=>Jt ?_
  have g2:=g1.it1 i2 s2.extBut;have k2':=k1'.then (.eb s2.extBut (.inr (.inr (.inl rfl))));have p2:IsPair h2 (n+3) a b:=s2.extBut _ _ (zLE n).2.2.2.2.2.1.symm (s1.extBut _ _ (zLE n).1 p0);refine Jq (wpAny_seqItems (s:={ s with heap:=h2 }) p2 rfl (Jq (wpAny_updateSeq_pair p2 fun h3 p3 s3=>Jq (wpAny_letGo (Jt ?_)))))
  have g3:=g2.out p3 s3.extBut;have k3':=k2'.then (.eb s3.extBut (.inr (.inl rfl)));refine Jq (Jq (wpAny_onRaise (show wpAny _ _ (Builtin.SmallTypes.nextOf _ >>= _) _ _ _ from Jq ?_)))
  cases q2:ys[j]? with
  | none=>
   refine zFA (s:={ s with heap:=h3 }) hh g3.2.2.2.2 (k3'.sq b2 d2) q2 fun h4 e x4 he=>stopZ (.inr q2) (k3'.then (.eb x4 (.inr (.inr (.inr rfl))))) (x4 _ _ (zLE n).2.2.2.1.symm g3.1) he (by decide) fun h5=>stop (.inr q2) h5 e
  | some y=>
   refine zFb (s:={ s with heap:=h3 }) g3.2.2.2.2 (k3'.sq b2 d2) q2 fun h4 i4 s4=>Jt ?_
   have g4:=g3.it2 i4 s4.extBut;have p4:IsPair h4 (n+3) x b:=s4.extBut _ _ (zLE n).2.2.2.2.2.2.1.symm p3;refine Jq (wpAny_seqItems (s:={ s with heap:=h4 }) p4 rfl (Jq (wpAny_updateSeq_pair p4 fun h5 p5 s5=>Jq (wpAny_letGo (Jt (Jt ?_))))))
   have p5:IsPair h5 (n+3) x y:=p5;have g5:=g4.out p5 s5.extBut;have k5':=(k3'.then (.eb s4.extBut (.inr (.inr (.inr rfl))))).then (.eb s5.extBut (.inr (.inl rfl)));have sz:h5.objs.size=s.heap.objs.size:=s5.1.trans (s4.1.trans (s3.1.trans (s2.1.trans s1.1)));refine Jq (wpAny_seqItems (s:={ s with heap:=h5 }) p5 rfl (Jq (wpAny_newTuple (show wpAny _ _ (Builtin.SmallTypes.ownedTupleHandOut _ (.ref h5.objs.size) >>= _) _ _ _ from Jq ?_))))
   unfold Builtin.SmallTypes.ownedTupleHandOut;refine Jq (wpAny_setField_rec (Heap.get?_push_of_some _ g5.1) (by simp) fun h7 z7 s7=>wpAny_setField_rec z7 (by simp) fun h8 z8 s8=>Jt ?_)
   have nz:h5.objs.size≠n+4:=X9 (Heap.lt_size g5.1);have x8:Heap.ExtBut (n+4) h5 h8:=fun c o c1 e=>s8.extBut _ _ c1 (s7.extBut _ _ c1 (Heap.get?_push_of_some _ e))
   have g8:zAw (rawInt h5.objs.size) k1 k2 l1 l2 n (j+1) (j+1) h8:=g5.fld z8 x8;have t8:IsPair h8 h5.objs.size x y:=s8.extBut _ _ nz (s7.extBut _ _ nz (Heap.get?_push_size _ rfl));rw[sz] at g8 t8;show Q (.done (.ret (.ref h5.objs.size))) _
   rw[sz];exact go x y q1 q2 h8 g8 t8 (k5'.then (.eb x8 (.inl rfl)))
def zTe{k1 k2:Bool}{n l1 l2:Jc}{j:Nat}{xs ys:Array Ja}{Q:Option Ja->Jb->Prop}(hh:A.handled=none)(b1:l1<n)(b2:l2<n)(g:zAw .none k1 k2 l1 l2 n j j s.heap)(d1:vL k1 s.heap l1 xs)(d2:vL k2 s.heap l2 ys)
  (go:∀ x y,xs[j]?=some x->ys[j]?=some y->∀ h2,zAw (rawInt s.heap.objs.size) k1 k2 l1 l2 n (j+1) (j+1) h2->IsPair h2 s.heap.objs.size x y->qU n s.heap h2->Q (some (.ref s.heap.objs.size)) { s with heap:=h2 })
  (stop:xs[j]?=none∨ys[j]?=none->∀ h2,qU n s.heap h2->Q none { s with heap:=h2 }):wpAny (model prog w) A (pyNext (.ref (n+4))) Q E s:=by
 have ty:s.TypeIs (.ref (n+4)) "zip" := ⟨_,g.1,rfl⟩;unfold pyNext
 refine Jq (wpAny_attempt (wpAny_callSpecial?_slot (name:=Str.ofString "__next__") ty F.slot_zip_next (wpAny_call_entry F.slot_zip_next ty F.entry_zip_next
  (zTP hh b1 b2 g d1 d2 (fun x y q1 q2 h2 a1 a2 a3=>⟨_,rfl,Jt (go x y q1 q2 h2 a1 a2 a3)⟩) fun q h2 e k he=>?_) (F.args_zip_next_1 _))))
 obtain⟨o,eo,co⟩:=he;exact Jq (wpAny_isInstance (T := "StopIteration") (b:=true) ⟨o,eo,co⟩ isSubtype_stop (Jt (stop q h2 k)))
end
abbrev zO(k:Bool)(l:Jc):Obj:={ cls:=.type (itN k),data:=.fields #[.ref l,.int 0 0] }
abbrev zH2(k1 k2:Bool)(h:Jd)(l1 l2:Jc):Jd:=(h.push (zO k1 l1)).push (zO k2 l2)
abbrev zH3(k1 k2:Bool)(h:Jd)(l1 l2:Jc):Jd:=(zH2 k1 k2 h l1 l2).push { cls:=.type "tuple", data:=.seq #[.ref h.objs.size,.ref (h.push (zO k1 l1)).objs.size] }
abbrev zH4(k1 k2:Bool)(h:Jd)(l1 l2:Jc):Jd:=(zH3 k1 k2 h l1 l2).push { cls:=.type "tuple", data:=.seq #[.none,.none] }
abbrev zH5(k1 k2:Bool)(h:Jd)(l1 l2:Jc):Jd:=(zH4 k1 k2 h l1 l2).push { cls:=.type "zip", data:=.fields #[.none,.bool false,.bool false,.ref (zH2 k1 k2 h l1 l2).objs.size,.ref (zH3 k1 k2 h l1 l2).objs.size] }
def zKD(k1 k2:Bool)(l1 l2:Jc)(xs ys:Array Ja):Meets (Builtin.«zip.__new__» ⟨[.type "zip", .ref l1,.ref l2],[]⟩) (fun _ R s=>vL k1 s.heap l1 xs/\vL k2 s.heap l2 ys/\
  R (.ok (.ret (.ref (zH4 k1 k2 s.heap l1 l2).objs.size))) { s with heap:=zH5 k1 k2 s.heap l1 l2 }):=
 .of_wp fun prog w A R s h=>by
  obtain⟨hp,g,d,tk,os⟩:=s;obtain⟨hl1,hl2,h⟩:=h;have hsub:=sub_zip;have d1:vL k1 (Shared.heap ⟨hp,g,d,tk,os⟩) l1 xs:=hl1;have d2:vL k2 (Shared.heap ⟨hp.push { cls:=.type (itN k1),data:=.fields #[.ref l1,.int 0 0] },g,d,tk,os⟩) l2 ys:=hl2.go fun o e=>Heap.get?_push_of_some _ e
  wp_walk using zAT d1,zAT d2
  exact⟨_,rfl,h⟩
section
variable{prog:Je}{w:Jf}{A:Jg}{E:Ja->Jb->Prop}{s:Jb}
def zLW{k1 k2:Bool}{l1 l2:Jc}{xs ys:Array Ja}{Q:Ja->Jb->Prop}(d1:vL k1 s.heap l1 xs)(d2:vL k2 s.heap l2 ys)
  (h:∀ h2,zAw .none k1 k2 l1 l2 s.heap.objs.size 0 0 h2->(∀ c o,s.heap.get? c=some o->h2.get? c=some o)->Q (.ref (s.heap.objs.size+4)) { s with heap:=h2 }):wpAny (model prog w) A (call (.type "zip") [.ref l1,.ref l2]) Q E s:=by
 refine callType_new F.called_zip (by decide) (F.typeCall_zip_2 _ _) (F.newCall_zip_2 _ _) (fun obj=>F.args_object_init_3 obj _ _) F.entry_zip_new (zKD k1 k2 l1 l2 xs ys) ⟨d1,d2,?_⟩
 have up:∀ {h:Jd} {a:Jc} {o ob:Obj},h.get? a=some o->(h.push ob).get? a=some o:=fun e=>Heap.get?_push_of_some _ e
 have m1:(s.heap.push (zO k1 l1)).objs.size=s.heap.objs.size+1:=Heap.size_push ..;have m2:(zH2 k1 k2 s.heap l1 l2).objs.size=s.heap.objs.size+2:=(Heap.size_push ..).trans (congrArg (·+1) m1);have m3:(zH3 k1 k2 s.heap l1 l2).objs.size=s.heap.objs.size+3:=(Heap.size_push ..).trans (congrArg (·+1) m2);have m4:(zH4 k1 k2 s.heap l1 l2).objs.size=s.heap.objs.size+4:=(Heap.size_push ..).trans (congrArg (·+1) m3);have r0:(zH5 k1 k2 s.heap l1 l2).get? s.heap.objs.size=some (zO k1 l1):=up (up (up (up (Heap.get?_push_size _ rfl))));have r1:(zH5 k1 k2 s.heap l1 l2).get? (s.heap.push (zO k1 l1)).objs.size=some (zO k2 l2):=up (up (up (Heap.get?_push_size _ rfl)));have r2:(zH5 k1 k2 s.heap l1 l2).get? (zH2 k1 k2 s.heap l1 l2).objs.size=some _:=up (up (Heap.get?_push_size _ rfl));have r3:(zH5 k1 k2 s.heap l1 l2).get? (zH3 k1 k2 s.heap l1 l2).objs.size=some _:=up (Heap.get?_push_size _ rfl);have r4:(zH5 k1 k2 s.heap l1 l2).get? (zH4 k1 k2 s.heap l1 l2).objs.size=some _:=Heap.get?_push_size _ rfl;rw[m1] at r1;rw[m1,m2] at r2;rw[m3] at r3;rw[m2,m3,m4] at r4;show _/\_
 rw[m4];exact⟨⟨_,r4,rfl⟩,h _ ⟨r4,r2,⟨_,_,r3⟩,.mk r0 rfl rfl,.mk r1 rfl rfl⟩ fun c o x=>up (up (up (up (up x))))⟩
end
section
variable{X:Cx}{Md:List (Jc×Obj)}{a:St}{H:Hp}{s:Jb}{h':Jd}{fp:List Jc}
def zHW{t':Nat}{p:Jc}{xs:List V}{us:List Ja}(I:Inv X Md a H s)(hf:∀ b∈fp,vP X Md H b)(k:∀ b o,b∉fp->s.heap.get? b=some o->h'.get? b=some o)
  (hp:s.heap.objs.size<=p) (ht:IsTup h' p us.toArray) (hv:eV xs us) (hz:xs.length<=sizeLine):Inv X Md a (upd H p (.tup xs)) { s with heap:=h',toks:=t' }:=by
 have hn:H p=none:=I.hok.fresh hp;have nf:∀ b u,H b=some u->b∉fp:=fun b u e z=>by rw[(hf b z).1] at e;cases e
 have np:∀ b u,H b=some u->upd H p (.tup xs) b=some u:=fun b u e=>by rw[bE (bJ e hn)];exact e
 refine I.step (g':=s.gens) (d':=s.drawn) (ch:=fp) (fun b hb=>⟨(hf b hb).2.2.2.1,(hf b hb).2.1,(hf b hb).2.2.2.2.1,(hf b hb).2.2.2.2.2⟩) (fun b o _ _ hc e _=>k b o hc e) (fun b o _ _ hc e _=>⟨o.slots,k b o hc e⟩) (fun b o _ e n=>?_)
  (fun b o hc e=>⟨o,k b o hc e⟩) (fun b xs e=>np _ _ e) (fun b o u e=>np _ _ e) (fun b ps e=>⟨#[],by rw[np _ _ e];simp⟩) (fun m hm=>?_) (fun b u e=>?_) I.bare
 ·rw[bE (Qo (Qm (Heap.lt_size e) hp))];exact n
 ·obtain⟨o,es,ep,ho,r⟩:=hm
  exact⟨o,es,ep,k _ o (fun z=>(hf _ z).2.1 rfl) ho,r⟩
 ·by_cases hb:b=p
  ·subst hb
   rw[bA] at e;cases e
   exact⟨hz,us,hv,ht⟩
  ·rw[bE hb] at e
   refine(I.hok b u e).stay (fun c v hc q=>k c v ?_ q) (fun _ q=>np _ _ q) fun _ _ q=>np _ _ q
   rcases hc with z | z
   ·rw[z];exact nf b u e
   ·exact nf c _ z
def zIB{t':Nat}(I:Inv X Md a H s)(hf:∀ b∈fp,vP X Md H b)(k:∀ b o,b∉fp->s.heap.get? b=some o->h'.get? b=some o):Inv X Md a H { s with heap:=h',toks:=t' }:=by
 have nf:∀ b u,H b=some u->b∉fp:=fun b u e z=>by rw[(hf b z).1] at e;cases e
 refine I.step (g':=s.gens) (d':=s.drawn) (ch:=fp) (fun b hb=>⟨(hf b hb).2.2.2.1,(hf b hb).2.1,(hf b hb).2.2.2.2.1,(hf b hb).2.2.2.2.2⟩) (fun b o _ _ hc e _=>k b o hc e) (fun b o _ _ hc e _=>⟨o.slots,k b o hc e⟩) (fun b o _ e n=>n)
  (fun b o hc e=>⟨o,k b o hc e⟩) (fun b xs e=>e) (fun b o u e=>e) (fun b ps e=>⟨#[],by rw[e];simp⟩) (fun m hm=>?_) (fun b u e=>?_) I.bare
 ·obtain⟨o,es,ep,ho,r⟩:=hm
  exact⟨o,es,ep,k _ o (fun z=>(hf _ z).2.1 rfl) ho,r⟩
 ·refine(I.hok b u e).stay (fun c v hc q=>k c v ?_ q) (fun _ q=>q) fun _ _ q=>q
  rcases hc with z | z
  ·rw[z];exact nf b u e
  ·exact nf c _ z
end
def SqK(k:Bool)(K:PySem.W.Frag)(H:Hp)(a:Jc)(xs:List V):Prop:=if k then SqL K H a xs else SqT K H a xs
def sI{k:Bool}{K:Fg_}{H H':Hp}(e:Same H H'){a:Jc}{xs:List V}(h:SqK k K H a xs):SqK k K H' a xs:=by
 cases k
 ·exact cK e h
 ·exact dF e h
section
variable{X:Cx}{Md:List (Jc×Obj)}{r:St}{H:Hp}{s:Jb}{k:Bool}{a:Jc}{xs ys:List V}
def sqI(I:Inv X Md r H s)(h:SqK k X.K H a xs):∃ its:List Ja,eV xs its/\vL k s.heap a its.toArray/\xs.length<=sizeLine:=by
 cases k
 ·obtain⟨its,rv,p,hz⟩:=I.tuple h
  exact⟨its,rv,p,hz⟩
 ·obtain⟨its,rv,p,hz⟩:=I.list h
  exact⟨its,rv,p.isList,hz⟩
def zEY(I:Inv X Md r H s)(h:SqK k X.K H a xs)(h':SqK k X.K H a ys):xs=ys:=by
 cases k
 ·exact I.tuple_inj h h'
 ·exact I.list_inj h h'
def vL.lt{h:Jd}{l:Jc}{xs:Array Ja}(x:vL k h l xs):l<h.objs.size:=by
 cases k<;>(obtain⟨o,e,_⟩:=x;exact Heap.lt_size e)
end
def Itz(K:PySem.W.Frag)(k1 k2:Bool)(a1 a2:Jc):It:=
  ⟨fun i H=>∃ xs ys x y,SqK k1 K H a1 xs/\SqK k2 K H a2 ys/\xs[i]?=some x/\ys[i]?=some y,
   fun i H v H'=>∃ p x y,v=.ref p/\H p=none/\H'=upd H p (.tup [x,y])/\(∀ xs,SqK k1 K H a1 xs->xs[i]?=some x)/\∀ ys,SqK k2 K H a2 ys->ys[i]?=some y,
   fun i H=>∃ xs ys,SqK k1 K H a1 xs/\SqK k2 K H a2 ys/\(xs.length<=i∨ys.length<=i)⟩
def zTD(k1 k2:Bool)(a1 a2 n:Jc)(i:Nat)(h:Jd):Prop:=zAw .none k1 k2 a1 a2 n i i h
def qQ{h:Jd}{b:Jc}{o:Obj}{d:Data}(e:h.get? b=some o)(hd:o.data=d)(nd:∀ v,d≠.cell v):∃ o,h.get? b=some o/\∀ v,o.data≠.cell v:=⟨o,e,fun v z=>nd v (hd.symm.trans z)⟩
def zKF{P:Je}{w:Jf}{K:Fg_}{elts:List Expr}{x1:Nat}{tp:Pos}(k1 k2:Bool)(a1 a2 n:Jc)(l1:a1<n)(l2:a2<n):
  Turn P w K (.Tuple elts x1 tp) (Itz K k1 k2 a1 a2) [n+4,n+2,n+3,n,n+1] (n+4) (zTD k1 k2 a1 a2 n) where
 mem:=by simp
 obj:=fun i h st b hb=>by
  obtain⟨t1,t2,⟨a,b',t3⟩,t4,t5⟩:=st;obtain⟨o4,e4,_,d4⟩:=t4.get;obtain⟨o5,e5,_,d5⟩:=t5.get;simp only[Qc,Q0,or_false] at hb;rcases hb with rfl | rfl | rfl | rfl | rfl
  ·exact qQ t1 rfl fun v z=>by cases z
  ·exact qQ t2 rfl fun v z=>by cases z
  ·exact qQ t3 rfl fun v z=>by cases z
  ·exact qQ e4 d4 fun v z=>by cases z
  ·exact qQ e5 d5 fun v z=>by cases z
 keep:=fun i h h' st k=>by
  obtain⟨t1,t2,⟨a,b',t3⟩,t4,t5⟩:=st;exact⟨k _ (by simp) _ t1,k _ (by simp) _ t2,⟨a,b',k _ (by simp) _ t3⟩,t4.go fun o e=>k _ (by simp) o e,t5.go fun o e=>k _ (by simp) o e⟩
 item:=by
  intro X hP hw hK hc i Md s r H E I hf st hg;subst hP hw hK;obtain⟨xs,ys,x,y,q1,q2,hx,hy⟩:=hg;obtain⟨us,r1,s1,z1⟩:=sqI I q1;obtain⟨ws,r2,s2,z2⟩:=sqI I q2;obtain⟨u,hu,ru⟩:=r1.get hx;obtain⟨v,hv,rv⟩:=r2.get hy;have hu':us.toArray[i]?=some u:=by simpa using hu
  have hv':ws.toArray[i]?=some v:=by simpa using hv
  have st':=st;obtain⟨t1,t2,⟨a,b,t3⟩,t4,t5⟩:=st;refine zTe (I.ok.hd hc) l1 l2 st' s1 s2 (fun x' y' f1 f2 h' g' p' kz=>?_) (fun q=>?_)
  rotate_left
  ·rw[hu',hv'] at q;rcases q with q | q<;>cases q
  rw[hu'] at f1;cases f1
  rw[hv'] at f2;cases f2
  refine⟨_,rfl,wpAny_letOwnedTupleGo_zip (s:={ s with heap:=h' }) g'.1 fun h'' c1 c2=>?_⟩
  have zl:s.heap.objs.size≠n+4:=X9 (Heap.lt_size t1);have np:H s.heap.objs.size=none:=I.hok.fresh (Qb _)
  have I1:Inv X Md r (upd H s.heap.objs.size (.tup [x,y])) { s with heap:=h'',toks:=s.toks }:=zHW (us:=[u,v]) I hf (fun b o hb e=>by
    simp only[Qc,Q0,or_false,not_or] at hb
    exact c2.extBut b o hb.1 (kz b o hb.1 hb.2.2.1 hb.2.2.2.1 hb.2.2.2.2 e)) (Qb _) ⟨_,c2.extBut _ _ zl p',rfl,_,rfl⟩ (.cons ru (.cons rv .nil)) (show 2<=sizeLine by decide)
  refine⟨.ref s.heap.objs.size,_,I1,rfl,⟨_,x,y,rfl,np,rfl,fun zs hz=>by rw[zEY I hz q1];exact hx,fun zs hz=>by rw[zEY I hz q2];exact hy⟩,g'.fld c1 c2.extBut,fun b hb=>?_⟩
  ·obtain⟨o,e,_⟩:∃ o,s.heap.get? b=some o/\True:=by
    obtain⟨o4,e4,_⟩:=t4.get;obtain⟨o5,e5,_⟩:=t5.get;simp only[Qc,Q0,or_false] at hb;rcases hb with rfl | rfl | rfl | rfl | rfl
    ·exact⟨_,t1,trivial⟩
    ·exact⟨_,t2,trivial⟩
    ·exact⟨_,t3,trivial⟩
    ·exact⟨_,e4,trivial⟩
    ·exact⟨_,e5,trivial⟩
   rw[bE (Qo (Heap.lt_size e))];exact(hf b hb).1
 done:=by
  intro X hP hw hK hc i Md s r H E I hf st hg;subst hP hw hK;obtain⟨xs,ys,q1,q2,hl⟩:=hg;obtain⟨us,r1,s1,z1⟩:=sqI I q1;obtain⟨ws,r2,s2,z2⟩:=sqI I q2;have st':=st;obtain⟨t1,t2,⟨a,b,t3⟩,t4,t5⟩:=st;have e1:=r1.length;have e2:=r2.length;refine zTe (I.ok.hd hc) l1 l2 st' s1 s2 (fun x y f1 f2=>?_) fun _ h' b7=>⟨rfl,zIB (t':=s.toks) I hf fun b o hb e=>?_⟩
  ·have m1:=(Wz.mp f1).1
   have m2:=(Wz.mp f2).1;rw[Qh] at m1 m2;omega
  ·simp only[Qc,Q0,or_false,not_or] at hb
   exact b7 b o hb.1 hb.2.2.1 hb.2.2.2.1 hb.2.2.2.2 e
 self:=fun _ _ _ _ _ st h=>wpAny_pyIter_zip st.1 h
abbrev eO(n:Jc):Obj:={ cls:=.type "enumerate", data:=.fields #[.none,.bool false,.ref n,rawInt 0,.none,.none] }
def zJU(k:Bool)(l:Jc)(xs:Array Ja):Meets (Builtin.«enumerate.__new__» ⟨[.type "enumerate", .ref l],[]⟩) (fun _ R s=>vL k s.heap l xs/\
  R (.ok (.ret (.ref (s.heap.push (zO k l)).objs.size))) { s with heap:=(s.heap.push (zO k l)).push (eO s.heap.objs.size) }):=
 .of_wp fun prog w A R s h=>by
  cases s with | mk hp g d tk os=>
  have d1:vL k (Shared.heap ⟨hp,g,d,tk,os⟩) l xs:=h.1;have fin:=h.2;have hsub:=sub_enumerate;obtain⟨ob,ho⟩:∃ ob,hp.get? l=some ob:=by cases k<;>(obtain⟨o,e,_⟩:=d1;exact⟨o,e⟩)
  clear h;wp_walk using AutoSeq1.wpAny_loadPart' ho
  refine wpAny_stack_any fun st=>Jt ?_
  split
  ·rename_i c _ _ _ _ _
   cases (c==Value.type "enumerate")<;>(wp_walk using AutoSeq1.wpAny_loadPart' ho,zAT d1;exact⟨_,rfl,fin⟩)
  ·wp_walk using AutoSeq1.wpAny_loadPart' ho,zAT d1
   exact⟨_,rfl,fin⟩
def zKd{prog:Je}{w:Jf}{A:Jg}{E:Ja->Jb->Prop}{s:Jb}{k:Bool}{l:Jc}{xs:Array Ja}{Q:Ja->Jb->Prop}(sq:vL k s.heap l xs)
  (h:∀ h2,IsEnum h2 (s.heap.objs.size+1) s.heap.objs.size 0 .none->zDT k h2 s.heap.objs.size l 0->(∀ c o,s.heap.get? c=some o->h2.get? c=some o)->Q (.ref (s.heap.objs.size+1)) { s with heap:=h2 }):
  wpAny (model prog w) A (call (.type "enumerate") [.ref l]) Q E s:=by
 refine callType_new F.called_enumerate (by decide) (F.typeCall_enumerate_1 _) (F.newCall_enumerate_1 _) (fun obj=>F.args_object_init_2 obj _) F.entry_enumerate_new (zJU k l xs) ⟨sq,?_⟩
 have m1:(s.heap.push (zO k l)).objs.size=s.heap.objs.size+1:=Heap.size_push ..;have r0:((s.heap.push (zO k l)).push (eO s.heap.objs.size)).get? s.heap.objs.size=some (zO k l):=Heap.get?_push_of_some _ (Heap.get?_push_size _ rfl);have r1:((s.heap.push (zO k l)).push (eO s.heap.objs.size)).get? (s.heap.push (zO k l)).objs.size=some (eO s.heap.objs.size):=Heap.get?_push_size _ rfl;show _/\_
 rw[m1] at r1 ⊢
 exact⟨⟨_,r1,rfl⟩,h _ r1 (.mk r0 rfl rfl) fun c o x=>Heap.get?_push_of_some _ (Heap.get?_push_of_some _ x)⟩
def Ite(K:PySem.W.Frag)(k:Bool)(a:Jc):It:=
  ⟨fun i H=>∃ xs x,SqK k K H a xs/\xs[i]?=some x,
   fun i H v H'=>∃ p x,v=.ref p/\H p=none/\H'=upd H p (.tup [.int i,x])/\∀ xs,SqK k K H a xs->xs[i]?=some x,
   fun i H=>∃ xs,SqK k K H a xs/\xs.length<=i⟩
def EnS(k:Bool)(a n:Jc)(i:Nat)(h:Jd):Prop:=(∃ old,IsEnum h (n+1) n i old)/\zDT k h n a i
def zIK{P:Je}{w:Jf}{K:Fg_}{elts:List Expr}{x1:Nat}{tp:Pos}(k:Bool)(a n:Jc)(l1:a<n):
  Turn P w K (.Tuple elts x1 tp) (Ite K k a) [n+1,n] (n+1) (EnS k a n) where
 mem:=by simp
 obj:=fun i h st b hb=>by
  obtain⟨⟨old,t1⟩,t2⟩:=st;obtain⟨o4,e4,_,d4⟩:=t2.get;simp only[Qc,Q0,or_false] at hb;rcases hb with rfl | rfl
  ·exact qQ t1 rfl fun v z=>by cases z
  ·exact qQ e4 d4 fun v z=>by cases z
 keep:=fun i h h' st k=>by
  obtain⟨⟨old,t1⟩,t2⟩:=st;exact⟨⟨old,k _ (by simp) _ t1⟩,t2.go fun o e=>k _ (by simp) o e⟩
 item:=by
  intro X hP hw hK hc i Md s r H E I hf st hg;subst hP hw hK;obtain⟨xs,x,q1,hx⟩:=hg;obtain⟨us,r1,s1,z1⟩:=sqI I q1;obtain⟨u,hu,ru⟩:=r1.get hx;obtain⟨⟨old,t1⟩,t2⟩:=st;have hi:i<us.toArray.size:=by simpa using (Qy.mp hu).1
  have en:n+1∉[n,a]:=fun z=>by
   rcases Qc.mp z with z | z
   ·exact U5 n z
   ·exact X9 (Xd l1) (Qx.mp z)
  have D:=zPc (prog:=X.prog) (w:=X.w) (A:=X.A.in1) (k:=k) (I.ok.hd hc) n a (Qo l1) us.toArray;refine wpAny_pyNext_enum_itemD D t1 ⟨t2,s1⟩ hi (U5 n) en fun v h' tk b0 b1 b2 b3 _ b7=>⟨_,rfl,wpAny_letOwnedTupleGo_enum (s:={ s with heap:=h',toks:=tk+1 }) b1 fun h'' c1 c2=>?_⟩
  have hv:v=u:=by
   have:us.toArray[i]?=some u:=by simpa using hu
   rw[this] at b0;cases b0;rfl
  subst hv;have zl:s.heap.objs.size≠n+1:=X9 (Heap.lt_size t1);have np:H s.heap.objs.size=none:=I.hok.fresh (Qb _)
  have I1:Inv X Md r (upd H s.heap.objs.size (.tup [.int i,x])) { s with heap:=h'',toks:=tk+1 }:=zHW (us:=[.int i tk,v]) I hf (fun b o hb e=>by
    simp only[Qc,Q0,or_false,not_or] at hb
    exact c2.extBut b o hb.1 (b7 b o hb.1 hb.2 e)) (Qb _) ⟨_,c2.extBut _ _ zl b3,rfl,_,rfl⟩ (.cons ⟨_,rfl⟩ (.cons ru .nil)) (show 2<=sizeLine by decide)
  refine⟨.ref s.heap.objs.size,_,I1,rfl,⟨_,x,rfl,np,rfl,fun zs hz=>by rw[zEY I hz q1];exact hx⟩,⟨⟨v,by simpa using c1⟩,b2.1.go fun o e=>c2.extBut _ o (Qo (Xp n)) e⟩,fun b hb=>?_⟩
  obtain⟨o,e,_⟩:∃ o,s.heap.get? b=some o/\True:=by
   obtain⟨o4,e4,_⟩:=t2.get;simp only[Qc,Q0,or_false] at hb;rcases hb with rfl | rfl
   ·exact⟨_,t1,trivial⟩
   ·exact⟨_,e4,trivial⟩
  rw[bE (Qo (Heap.lt_size e))];exact(hf b hb).1
 done:=by
  intro X hP hw hK hc i Md s r H E I hf st hg;subst hP hw hK;obtain⟨xs,q1,hl⟩:=hg;obtain⟨us,r1,s1,z1⟩:=sqI I q1;obtain⟨⟨old,t1⟩,t2⟩:=st;have e1:=r1.length;have hT:s.TypeIs (.ref (n+1)) "enumerate" := ⟨_,t1,rfl⟩;unfold pyNext;refine Jq (wpAny_attempt (wpAny_callSpecial?_slot (name:=Str.ofString "__next__") hT F.slot_enumerate_next (wpAny_call_entry F.slot_enumerate_next hT F.entry_enumerate_next ?_ (F.args_enumerate_next_1 _))))
  show wpAny _ _ (field (.ref (n+1)) 2 >>= _) _ _ _
  refine Jq (wpAny_field t1 rfl (x:=.ref n) rfl ?_)
  refine Jq (zFA (I.ok.hd hc) t2 s1 (by simp;omega) fun h' x he' hx'=>?_)
  obtain⟨o,ho,hc⟩:=hx';refine Jq (wpAny_isInstance (T := "StopIteration") (b:=true) ⟨o,ho,hc⟩ isSubtype_stop ?_)
  refine Jt ⟨rfl,zIB (t':=s.toks) I hf fun b o hb e=>?_⟩
  simp only[Qc,Q0,or_false,not_or] at hb;exact he' b o hb.2 e
 self:=fun _ _ _ _ _ st h=>J9 st.1.choose_spec h
section
unseal PEd PEf PTd PWd PAd PSd eQ POd PGd iM PId PSx lF PTs PCd PCf
variable{X:Cx}{G:Gx}{fs:Fv}{f:Ev}
def iZp(K:PySem.W.Frag)(ta:TA):TI:=fun c H R=>ta c H fun vs H1=>∃ k1 k2 a1 a2 xs ys,vs=[.ref a1,.ref a2]/\SqK k1 K H1 a1 xs/\SqK k2 K H1 a2 ys/\R (Itz K k1 k2 a1 a2) H1
def zPg{a b:Expr}{ta:TA}{p pos:Pos}{elts:List Expr}{x1:Nat}{tp:Pos}(hg:Gl X "zip")(hm:X.mg "zip" = none)(ha:PA X [a,b] ta)
  (hs:starEach [a,b] X.env=[(false,eval a X.env),(false,eval b X.env)]:=by rfl) (hs2:starEach [b] X.env=[(false,eval b X.env)]:=by rfl):PI X (.Tuple elts x1 tp) (.Call (.Name "zip" p) [a,b] [] pos) (iZp X.K ta):=by
 intro Md s c H R I h;refine Call_ (pY I hg hm boot_zip (Yc (thn (ha pos Md s c H _ I h) fun us s1 ⟨vs,H1,I1,r1,q1⟩=>?_) (by rw[hs,hs2]) (by rw[hs2];rfl)))
 obtain⟨k1,k2,a1,a2,xs,ys,rfl,h1,h2,q⟩:=q1
 cases r1 with
 | cons r rr=>
  cases rr with
  | cons r' rr=>
   cases rr;cases r;cases r'
   obtain⟨us,rv,p1,z1⟩:=sqI I1 h1;obtain⟨ws,rw_,p2,z2⟩:=sqI I1 h2;refine zLW p1 p2 fun h' b1 b6=>wpAny_pyIter_zip (s:={ s1 with heap:=h' }) b1.1 ?_
   refine⟨s1.heap.objs.size+4,_,_,_,H1,rfl,I1.kept (t':=s1.toks) b6,zKF k1 k2 a1 a2 s1.heap.objs.size p1.lt p2.lt,b1,fun b hb=>?_,q⟩
   have hb':s1.heap.objs.size<=b:=by
    simp only[Qc,Q0,or_false] at hb;rcases hb with rfl | rfl | rfl | rfl | rfl<;>omega
   exact I1.fpOk hb' (I1.hok.fresh hb')
def zCO:∀(xs ys:List D)(i:Nat)(d:D),(nO xs ys)[i]?=some d->∃ a b,xs[i]?=some a/\ys[i]?=some b/\d=.tup [a,b]
 | a::r,b::q,0,d,h=>by cases h;exact⟨a,b,rfl,rfl,rfl⟩
 | a::r,b::q,i+1,d,h=>zCO r q i d h
 | [],_,i,d,h=>by cases i<;>cases h
 | a::r,[],i,d,h=>by cases i<;>cases h
def zCg:∀(xs ys:List D),(nO xs ys).length=min xs.length ys.length
 | a::r,b::q=>by
  have:=zCg r q
  simp only[nO,Qk,this];omega
 | [],_=>by simp[nO]
 | a::r,[]=>by simp[nO]
def zHS{K:Fg_}{Hi:Hp}{k1 k2:Bool}{a1 a2:Jc}{xs ys:List V}{ds es:List D}(h1:SqK k1 K Hi a1 xs)(h2:IsDs K Hi xs ds)(h3:SqK k2 K Hi a2 ys)(h4:IsDs K Hi ys es):
  zH K Hi (Itz K k1 k2 a1 a2) (nO ds es):=fun Hi1 H1 s1 s2 i=>by
 have g1:=sI (s1.trans s2) h1;have g3:=sI (s1.trans s2) h3;refine⟨fun hl=>⟨xs,ys,g1,g3,?_⟩,fun d hd=>?_⟩
 ·rw[zCg] at hl
  have e1:=h2.length;have e2:=h4.length;omega
 ·obtain⟨a,b,ha,hb,rfl⟩:=zCO ds es i d hd
  obtain⟨v,hv,rv⟩:=h2.at ha;obtain⟨w,hw,rw_⟩:=h4.at hb;refine⟨⟨xs,ys,v,w,g1,g3,hv,hw⟩,fun x H2 y=>?_⟩
  obtain⟨p,x',y',rfl,hp,rfl,y1,y2⟩:=y;have e1:=y1 xs g1;have e2:=y2 ys g3;rw[hv] at e1;cases e1
  rw[hw] at e2;cases e2
  have hi:=s2.none hp;have sm:=cT hi (.tup [v,w]);exact⟨upd Hi1 p (.tup [v,w]),Ext.new s2 hp,.tup (.inl (.inl bA)) (.cons ((rv.mono s1).mono sm) (.cons ((rw_.mono s1).mono sm) .nil))⟩
def zTf{K:Fg_}{H:Hp}{v:V}{d:D}{ds:List D}(h:IsD K H v d)(e:zKx d=some ds):∃ k a xs,v=.ref a/\SqK k K H a xs/\IsDs K H xs ds:=by
 cases d with
 | lst es=>cases e;obtain⟨a,xs,rfl,h1,h2⟩:=h.lstI;exact⟨true,a,xs,rfl,h1,h2⟩
 | tup es=>cases e;obtain⟨a,xs,rfl,h1,h2⟩:=h.tupI;exact⟨false,a,xs,rfl,h1,h2⟩
 | _=>cases e
def zNY{a b:Expr}{p pos:Pos}{elts:List Expr}{x1:Nat}{tp:Pos}(hg:Gl X "zip")(hm:X.mg "zip" = none)(ha:PAd X G [a,b] fs)
  (hs:starEach [a,b] X.env=[(false,eval a X.env),(false,eval b X.env)]:=by rfl) (hs2:starEach [b] X.env=[(false,eval b X.env)]:=by rfl):
  PId X G (.Tuple elts x1 tp) (.Call (.Name "zip" p) [a,b] [] pos) (zOW fs):=PI.wk (zPg hg hm ha hs hs2) fun c H Q q=>by
 obtain⟨ρ,Hi,R,ou⟩:=q;refine zKt R ou fun vs ds Hi1 H1 e1 R1 r1 o1=>?_
 split at o1
 ·rename_i x y
  obtain⟨v,w,rfl,h,h'⟩:=r1.two;split at o1
  ·rename_i ds es q1 q2
   obtain⟨k1,a1,xs,rfl,g1,g2⟩:=zTf h q1;obtain⟨k2,a2,ys,rfl,g3,g4⟩:=zTf h' q2;exact⟨k1,k2,a1,a2,xs,ys,rfl,sI R1.s g1,sI R1.s g3,o1.here R1.s _ (zHS g1 g2 g3 g4)⟩
  ·exact o1.elim
 ·exact o1.elim
def iEn(K:PySem.W.Frag)(ta:TA):TI:=fun c H R=>ta c H fun vs H1=>∃ k a xs,vs=[.ref a]/\SqK k K H1 a xs/\R (Ite K k a) H1
def zNt{a:Expr}{ta:TA}{p pos:Pos}{elts:List Expr}{x1:Nat}{tp:Pos}(hg:Gl X "enumerate")(hm:X.mg "enumerate" = none)(ha:PA X [a] ta)(hs:starEach [a] X.env=[(false,eval a X.env)]:=by rfl):
  PI X (.Tuple elts x1 tp) (.Call (.Name "enumerate" p) [a] [] pos) (iEn X.K ta):=by
 intro Md s c H R I h;refine Call_ (pY I hg hm boot_enumerate (Yc (thn (ha pos Md s c H _ I h) fun us s1 ⟨vs,H1,I1,r1,q1⟩=>?_) hs rfl))
 obtain⟨k,t,xs,rfl,hq,q⟩:=q1
 cases r1 with
 | cons r rr=>
  cases rr;cases r;obtain⟨its,rv,pt,hz⟩:=sqI I1 hq;refine zKd pt fun h' b1 b2 b6=>J9 (s:={ s1 with heap:=h' }) b1 ?_
  refine⟨s1.heap.objs.size+1,_,_,_,H1,rfl,I1.kept (t':=s1.toks) b6,zIK k t s1.heap.objs.size pt.lt,⟨⟨_,b1⟩,b2⟩,fun b hb=>?_,q⟩
  have hb':s1.heap.objs.size<=b:=by
   simp only[Qc,Q0,or_false] at hb;rcases hb with rfl | rfl<;>omega
  exact I1.fpOk hb' (I1.hok.fresh hb')
def zCI:∀(xs:List D)(n i:Nat)(d:D),(lZ n xs)[i]?=some d->∃ a,xs[i]?=some a/\d=.tup [.int ((n+i:Nat):Int),a]
 | a::r,n,0,d,h=>by cases h;exact⟨a,rfl,rfl⟩
 | a::r,n,i+1,d,h=>by
  obtain⟨b,h1,h2⟩:=zCI r (n+1) i d h;exact⟨b,h1,by rw[h2];congr 4;omega⟩
 | [],n,i,d,h=>by cases i<;>cases h
def zDA:∀(xs:List D)(n:Nat),(lZ n xs).length=xs.length
 | a::r,n=>by simp only[lZ,Qk,zDA r (n+1)]
 | [],n=>rfl
def zAB{K:Fg_}{Hi:Hp}{k:Bool}{a:Jc}{xs:List V}{ds:List D}(h1:SqK k K Hi a xs)(h2:IsDs K Hi xs ds):zH K Hi (Ite K k a) (lZ 0 ds):=fun Hi1 H1 s1 s2 i=>by
 have g1:=sI (s1.trans s2) h1;refine⟨fun hl=>⟨xs,g1,?_⟩,fun d hd=>?_⟩
 ·rw[zDA] at hl
  rw[h2.length];exact hl
 ·obtain⟨a,ha,rfl⟩:=zCI ds 0 i d hd
  obtain⟨v,hv,rv⟩:=h2.at ha;refine⟨⟨xs,v,g1,hv⟩,fun x H2 y=>?_⟩
  obtain⟨p,x',rfl,hp,rfl,y1⟩:=y;have e1:=y1 xs g1;rw[hv] at e1;cases e1
  have hi:=s2.none hp;rw[Q8];exact⟨upd Hi1 p (.tup [.int i,v]),Ext.new s2 hp,.tup (.inl (.inl bA)) (.cons (.int _) (.cons ((rv.mono s1).mono (cT hi _)) .nil))⟩
def zMI{a:Expr}{p pos:Pos}{elts:List Expr}{x1:Nat}{tp:Pos}(hg:Gl X "enumerate")(hm:X.mg "enumerate" = none)(ha:PEd X G a f)(hst:starEach [a] X.env=[(false,eval a X.env)]:=by rfl):
  PId X G (.Tuple elts x1 tp) (.Call (.Name "enumerate" p) [a] [] pos) (zJt f):=PI.wk (zNt hg hm (lX ha rK (by rw[hst];rfl)) hst) fun c H Q q=>by
 obtain⟨ρ,Hi,R,ou⟩:=q;refine vX R ou fun v d Hi1 H1 e1 R1 r1 o1=>?_
 cases d with
 | lst ds=>
  obtain⟨a,xs,rfl,h1,h2⟩:=r1.lstI;exact⟨true,a,xs,rfl,dF R1.s h1,o1.here R1.s _ (zAB (k:=true) h1 h2)⟩
 | tup ds=>
  obtain⟨a,xs,rfl,h1,h2⟩:=r1.tupI;exact⟨false,a,xs,rfl,cK R1.s h1,o1.here R1.s _ (zAB (k:=false) h1 h2)⟩
 | _=>exact o1.elim
end
end L3
namespace L3
open PySem PySem.Spec PyProof.Rows L2
unseal PEd PEf PTd PWd PAd PSd eQ POd PGd iM PId PSx lF PTs PCd PCf
structure BlkOk2 (X:Cx) (xs:List Str) (scope:Scope):Prop where
 kind:scope.kind=.function
 cell:∀ y∈scope.names,y.2≠.cell
 loc:∀ x∈xs,scope.names.lookup x=some .local
 names:∀ y∈scope.names,y.2=.local->scope.names.lookup y.1=some .local
 fre:∀ p∈scope.names,p.2=.free->X.env.kindOf p.1=some .cell∨X.env.kindOf p.1=some .free
 oth:∀ y∈X.N,scope.names.lookup y≠some .local
def zDU(X:Cx)(xs:List Str)(scope:Scope)(C:Jc)(s₂:Jb)(H₂:Hp)(fp:List Jc):Cx:=
  { prog:=X.prog,w:=X.w,K:=X.K,mg:=X.mg,base:=X.base,A:=X.A,N:=X.N++xs,s₀:=s₂,H₀:=H₂,env:=compEnvC scope (zFl X.env scope.names []) C X.env,outer:=X.stack,stack:=X.stack,
    ex:=fp,fn:=fun _=>false,calm:=X.calm,pn:=X.pn,xe:=fun _ _=>False }
section
variable{X:Cx}{Md:List (Jc×Obj)}{r:St}{H:Hp}{s₂:Jb}{xs:List Str}{scope:Scope}{fp:List Jc}{D C:Jc}{h₁:Jd}
def BlkOk2.cl(B:BlkOk2 X xs scope)(I:Inv X Md r H s₂):∀ p∈scope.names,p.2=.free->∃ c,X.env.cells.lookup p.1=some c:=fun p hp e=>I.ok.has p.1 (B.fre p hp e)
def zRA(I:Inv X Md r H s₂)(B:BlkOk2 X xs scope)(hfp:∀ b∈fp,vP X Md H b)(hfl:∀ b∈fp,b<s₂.heap.objs.size)(hD:s₂.heap.objs.size<=D)(hC:s₂.heap.objs.size<=C)(hDC:D≠C)
  (old:∀ b o,s₂.heap.get? b=some o->h₁.get? b=some o) {n:Nat} (hacc:h₁.get? D=some { cls:=.type "list", data:=.seq ([]:List Ja).toArray n }) {m:Str->Option Ja} (hns:h₁.Ns C m) (t:Nat):
  Inv (zDU X xs scope C s₂ H fp) Md (r++xs.map fun _=>none) (upd H D (.lst [])) { s₂ with heap:=h₁,toks:=t }:=by
 have sub:=yI scope.names [] (B.cl I) (fun y c e=>nomatch e)
 have old_lt:∀ {b:Jc} {o:Obj},s₂.heap.get? b=some o->b≠D/\b≠C:=fun e=>⟨Qo (Qm (Heap.lt_size e) hD),Qo (Qm (Heap.lt_size e) hC)⟩
 have free:∀ {b:Jc},b≠D->H b=none->upd H D (.lst []) b=none:=fun n e=>by rw[bE n];exact e
 refine⟨⟨I.ok.mod,B.kind,I.ok.glob,I.ok.blt,hC,fun y z c e1 e2=>I.ok.inj y z c (sub y c e1) (sub z c e2),fun y hy=>?_,fun y c e=>(nomatch e),I.ok.hd,I.ok.frames,.inl rfl,fun b hb=>⟨Qo (Qm (hfl b hb) hC),fun y c e=>(hfp b hb).2.2.2.2.1 y c (sub y c e)⟩,
  I.bs,Qp I.ok.bsz I.sz,fun b o e hb=>?_,fun b hb z=>?_,I.stack,I.stkFree⟩,rfl,I.bare,Un.laid old hD (I.hok.fresh hD),⟨m,hns,fun i y v e1 e2 e3=>?_⟩,fun y c e=>?_,free (Ne.symm hDC) (I.hok.fresh hC),fun y c e=>?_,fun p hp=>?_,I.hok.laid old hD ⟨Vo _,[],n,.nil,hacc⟩,?_⟩
 ·have:∃ k,(k=NameKind.cell∨k=NameKind.free)/\((relabel scope X.env).names).lookup y=some k:=hy.elim (fun h=>⟨_,.inl rfl,h⟩) fun h=>⟨_,.inr rfl,h⟩
  obtain⟨k,hk,e⟩:=this
  have e':(y,NameKind.free)∈scope.names:=by
   rcases dE e with z | ⟨_,z⟩
   ·rcases hk with rfl | rfl
    ·exact absurd rfl (B.cell _ (cN z))
    ·exact cN z
   ·exact cN z
  exact xV scope.names [] y e'
 ·rcases (hfp b hb).2.2.2.1 with z | z
  ·exact I.ok.noex b o e z
  ·exact absurd (Qm (Heap.lt_size e) (Qp I.ok.bsz z)) (Vr _)
 ·rcases Qc.mp (I.stkSub b z) with w | w
  ·exact(hfp b hb).2.1 w
  ·exact(hfp b hb).2.2.1 w
 ·
  have hi:i<r.length:=by
   by_cases hi:i<r.length
   ·exact hi
   ·exfalso
    rw[Vw (by omega),Qq] at e2
    cases q:xs[i-r.length]? with
    | none=>rw[q] at e2;cases e2
    | some z=>rw[q] at e2;cases e2
  rw[Vl hi] at e2;have e1':(X.N++xs)[i]?=some y:=e1;rw[Vl (by rw[<-I.len];exact hi)] at e1'
  cases q:X.N[i]? with
  | none=>rw[q] at e1';cases e1'
  | some z=>
   rw[q] at e1';have hy:z=y:=Ve e1';have hz:z∈X.N:=Qf q;subst hy
   have fr:(z,NameKind.free)∈scope.names:=by
    rcases e3 with h | h | h
    ·rcases dE h with h | ⟨h,_⟩
     ·exact absurd h (B.oth z hz)
     ·cases h
    ·rcases dE h with h | ⟨_,h⟩
     ·exact absurd rfl (B.cell _ (cN h))
     ·exact cN h
    ·rcases dE h with h | ⟨h,_⟩
     ·exact cN h
     ·cases h
   have kd:=B.fre _ fr rfl;obtain⟨m0,hn0,hl⟩:=I.loc;obtain⟨u,ru,lk⟩:=hl i z v q e2 (kd.elim (fun h=>.inr (.inl h)) fun h=>.inr (.inr h))
   refine⟨u,ru,.inr ⟨?_,?_⟩⟩
   ·rcases e3 with h | h | h
    ·rcases dE h with h | ⟨h,_⟩
     ·exact absurd h (B.oth z hz)
     ·cases h
    ·exact .inl h
    ·exact .inr h
   ·rcases lk with⟨k1,_⟩ | ⟨_,c,hc,hcell⟩
    ·rcases kd with kd | kd<;>(rw[kd] at k1;cases k1)
    ·obtain⟨c',hc'⟩:=xV (env:=X.env) scope.names [] z fr
     have:=sub z c' hc'
     rw[hc] at this;cases this;obtain⟨o,ho,hd⟩:=hcell;exact⟨c,hc',o,old _ _ ho,hd⟩
 ·obtain⟨v,o,ho,hd⟩:=I.cell y c (sub y c e)
  exact⟨v,o,old _ _ ho,hd⟩
 ·obtain⟨v,o,ho,hd⟩:=I.cell y c (sub y c e)
  exact free (old_lt ho).1 (I.freeC y c (sub y c e))
 ·obtain⟨e,n,ne,nf,d⟩:=I.pin p hp
  refine⟨old _ _ e,free (old_lt e).1 n,(old_lt e).2,fun z=>?_,d⟩
  rcases Qc.mp (I.stkSub _ z) with w | w
  ·exact ne w
  ·exact nf w
 ·show(r++xs.map fun _=>none).length=(X.N++xs).length
  rw[Ql,Ql,Qi,I.len]
end
def zFp{f:Ev}{ρ:Rho}{d:D}{ds es:List D}(h:hG f ρ (d::ds)=.ok es):
  ∃ a b e es',d=.tup [a,b]/\f (ρ++[.val a,.val b])=.ok e/\hG f ρ ds=.ok es'/\es=e::es':=by
 unfold hG at h;split at h
 ·cases ‹_=[]›
 ·rename_i a b ds' q
  cases q
  cases hf:noErr (f (ρ++[.val a,.val b])) with
  | no=>rw[hf] at h;cases h
  | err c=>rw[hf] at h;cases h
  | ok e=>
   rw[hf] at h
   cases hr:hG f ρ ds with
   | no=>simp only[Res.bind,hr] at h;cases h
   | err c=>simp only[Res.bind,hr] at h;cases h
   | ok es'=>
    simp only[Res.bind,hr] at h;cases h;exact⟨a,b,e,es',rfl,zBc hf,rfl,rfl⟩
 ·cases h
def zCP{f:Ev}{ρ:Rho}{c:Str}:∀ {ds:List D},hG f ρ ds≠.err c
 | []=>fun h=>by cases h
 | d::ds=>fun h=>by
  unfold hG at h;split at h
  ·cases ‹_=[]›
  ·rename_i a b ds' q
   cases q
   cases hf:noErr (f (ρ++[.val a,.val b])) with
   | no=>rw[hf] at h;cases h
   | err c=>cases q:f (ρ++[.val a,.val b])<;>(rw[q] at hf;cases hf)
   | ok e=>
    rw[hf] at h
    cases hr:hG f ρ ds with
    | no=>simp only[Res.bind,hr] at h;cases h
    | err c'=>exact zCP hr
    | ok es'=>simp only[Res.bind,hr] at h;cases h
  ·cases h
section
variable{X:Cx}{G:Gx}{elt iter:Expr}{xa xb:Str}{pa pb tp pos:Pos}{x1:Nat}{scope:Scope}{it:Fv}{f:Ev}{k:Nat}
def zGH(hc:X.calm=true/\TB X.K X.mg G.Bi G.B)(hr:Room k X.A)(Bk:BlkOk2 X [xa,xb] scope)(hN:(X.N++[xa,xb]).Nodup)(hi:PId X G (.Tuple [.Name xa pa,.Name xb pb] x1 tp) iter it)
  (hb:∀(C:Jc)(s₂:Jb)(H₂:Hp)(fp:List Jc)(G':Gx),Good (zDU X [xa,xb] scope C s₂ H₂ fp) G' k->PEd (zDU X [xa,xb] scope C s₂ H₂ fp) G' elt f)
  (hs:∀ x,foldedSetIterable iter X.env x=pure x:=by intro _;rfl)
  {Md:List (Jc×Obj)} {s:Jb} {g:St} {H Hi:Hp} {ρ:Rho} {use:Option (Ja->Sem Unit)} {Q':Ja->Jb->Prop} {Qa:Jc->Hp->Prop} {cpos:Pos} (I:Inv X Md g H s) (R:nG X G Hi H g ρ)
  (ou:Out G Hi H ((zAf it f) ρ) fun ds Hi' H'=>∀ a,zKL X.K H Hi' H' a ds->Qa a H') (hend:zSU X Md g use Q' Qa):
  wpAny (model X.prog X.w) X.A (comprehension (.ListComp elt [⟨.Tuple [.Name xa pa,.Name xb pb] x1 tp,iter,[],0⟩] scope pos) scope X.env cpos (newList []) false (eval iter X.env) use) Q' X.xe s:=by
 refine J6 (use:=use) rfl hs (zMd (Bk.cl I)) Bk.kind Bk.names ?_
 refine thn (hi Md s g H (fun J H2=>∃ ds Hi2,Ext Hi H Hi2 H2/\zH X.K Hi2 J ds/\Out G Hi2 H2 (if ds.length<=16777215 then hG f ρ ds else .no) fun ds Hi' H'=>∀ a,zKL X.K H Hi' H' a ds->Qa a H') I
  ⟨ρ,Hi,R,(Out.bind ou).imp fun ds Hi2 H2 e2 o2 J gv=>⟨ds,Hi2,e2,gv,o2⟩⟩) fun v s1 h1=>thn h1 fun itv s2 h2=>?_
 obtain⟨itA,fp,tn,J,H2,rfl,I2,T,st2,f2,ds,Hi2,e2,gv,ou2⟩:=h2
 have hlen:ds.length<=16777215:=by
  by_cases hlen:ds.length<=16777215
  ·exact hlen
  ·rw[Jk hlen] at ou2;exact ou2.elim
 rw[Jj hlen] at ou2
 cases hes:hG f ρ ds with
 | no=>rw[hes] at ou2;exact ou2.elim
 | err c=>exact absurd hes zCP
 | ok es=>
  rw[hes] at ou2;have R2:nG X G Hi2 H2 g ρ:=R.grow e2;refine wpAny_newObj_type (wpAny_newFunctionEnv Bk.cell (by intro y hy;simp at hy) (fun h₁ hns₁ hsb₁=>?_) Bk.kind)
  dsimp only at hns₁ hsb₁ ⊢
  generalize hH2:s2.heap.push { cls:=.type "list", dict:=none,data:=.seq ([]:List Ja).toArray }=HP at hns₁ hsb₁ ⊢;have hC:HP.objs.size=s2.heap.objs.size+1:=by rw[<-hH2,Heap.size_push]
  have hDC:s2.heap.objs.size≠HP.objs.size:=by rw[hC];omega
  have ltC:∀ {b:Jc} {o:Obj},s2.heap.get? b=some o->b≠HP.objs.size:=fun e=>by rw[hC];exact Qo (Xd (Heap.lt_size e))
  have old:∀ b o,s2.heap.get? b=some o->h₁.get? b=some o:=fun b o e=>hsb₁.extBut b o (ltC e) (Heap.get?_push_of_some _ (hH2 ▸ Heap.get?_push_of_some _ e))
  have hacc:h₁.get? s2.heap.objs.size=some { cls:=.type "list", data:=.seq ([]:List Ja).toArray 0 }:=hsb₁.extBut _ _ hDC (Heap.get?_push_of_some _ (hH2 ▸ Heap.get?_push_size _ rfl));have hfl:∀ b∈fp,b<s2.heap.objs.size:=fun b hb=>by obtain⟨o,e,_⟩:=T.obj _ _ st2 b hb;exact Heap.lt_size e
  have IE:=zRA (t:=s2.toks+([]:List (Str×Ja)).length) I2 Bk f2 hfl (Qb _) (by rw[hC];omega) hDC old hacc hns₁
  have sub:=yI scope.names [] (Bk.cl I2) (fun y c e=>nomatch e)
  have H2D:H2 s2.heap.objs.size=none:=I2.hok.fresh (Qb _);have HD:H s2.heap.objs.size=none:=e2.h.none H2D;have Hi2D:Hi2 s2.heap.objs.size=none:=e2.s.none H2D;generalize hX:zDU X [xa,xb] scope HP.objs.size s2 H2 fp=Y at IE
  have GY:Good Y ⟨G.B,G.Bi,fun _ _=>False⟩ k:=by
   subst hX;exact⟨hc.1,hr,fun Md g H s e s' _ h=>by obtain⟨_,_,_,_,_,c,_,z⟩:=h;exact z.elim,PassesOwn.never,hc.2⟩
  have hel:=(hX ▸ hb HP.objs.size s2 H2 fp ⟨G.B,G.Bi,fun _ _=>False⟩ (hX.symm ▸ GY):PEd Y ⟨G.B,G.Bi,fun _ _=>False⟩ elt f)
  have stat:∀ {H':Hp},(∀ b∈fp,H' b=none)->∀ b∈fp,vP Y Md H' b:=fun hn b hb=>by
   subst hX;refine⟨hn b hb,?_,fun z=>?_,.inl hb,fun y c e=>(f2 b hb).2.2.2.2.1 y c (sub y c e),(f2 b hb).2.2.2.2.2⟩
   ·show b≠HP.objs.size
    rw[hC];exact Qo (Xd (hfl b hb))
   ·rcases Qc.mp (I2.stkSub b z) with w | w
    ·exact(f2 b hb).2.1 w
    ·exact(f2 b hb).2.2.1 w
  have YN:Y.N.Nodup:=by subst hX;exact hN
  have Ya:Y.N[g.length]?=some xa:=by
   subst hX;show(X.N++[xa,xb])[g.length]?=some xa
   rw[Vw (by rw[I2.len];omega),I2.len,Yk];rfl
  have Yb:Y.N[g.length+1]?=some xb:=by
   subst hX;show(X.N++[xa,xb])[g.length+1]?=some xb
   rw[Vw (by rw[I2.len];omega),I2.len,W3];rfl
  have Yla:Y.env.scope.names.lookup xa=some .local:=by subst hX;exact J7 (Bk.loc xa (by simp))
  have Ylb:Y.env.scope.names.lookup xb=some .local:=by subst hX;exact J7 (Bk.loc xb (by simp))
  have asg:PG Y (.Tuple [.Name xa pa,.Name xb pb] x1 tp) (L2.zCc Y.K 2 (L2.fT (L2.gName g.length) (L2.fT (L2.gName (g.length+1)) L2.zCd))):=
   zMv (by subst hX;exact hc.1) (zBh (zEQ YN Ya (.inl Yla) (.inr Yla)) (zBh (zEQ YN Yb (.inl Ylb) (.inr Ylb)) zIR))
  have Ye:Y.env=compEnvC scope (zFl X.env scope.names []) HP.objs.size X.env:=by subst hX;rfl
  have Yxe:∀ e s,¬ Y.xe e s:=by subst hX;exact fun _ _ h=>h
  have tn1:tn 0 h₁:=T.keep _ _ _ st2 fun b _ o e=>old b o e
  have loop:∀ s3:Jb,s3={ s2 with heap:=h₁,toks:=s2.toks+([]:List (Str×Ja)).length }->
    codeAny (model X.prog X.w) X.A (.compLoop (.ListComp elt [⟨.Tuple [.Name xa pa,.Name xb pb] x1 tp,iter,[],0⟩] scope pos) 0 (.ref itA) (.ref s2.heap.objs.size) Y.env) (compPost (model X.prog X.w) X.A X.xe use Q' (.ref s2.heap.objs.size) HP.objs.size) s3:=by
   rintro s3 rfl
   subst hX
   have fr0:∀ b∈fp,upd H2 s2.heap.objs.size (.lst []) b=none:=fun b hb=>by
    rw[bE (Qo (hfl b hb))];exact(f2 b hb).1
   refine PyProof.Rows.LCp.codeAny_compLoop_pair (fun n s'=>∃ c:CW,n=ds.length-c.i/\CS (zDU X [xa,xb] scope HP.objs.size s2 H2 fp) Md g tn fp Hi2 H2 s2.heap.objs.size 2 (fun i=>hG f ρ (ds.drop i)) es c s') ?_ ds.length
    ⟨⟨0,[none,none],_,Hi2,[],[],es⟩,rfl,⟨IE,rfl,tn1,fr0,(Ext.refl e2.s).trans (Ext.newF e2.s H2D),bA,Hi2D,.nil,Qb _,hes,rfl⟩⟩
   ·rintro n s3 ⟨⟨i,vv,H3,Hi3,ys,done,rest⟩,rfl,I3,wd3,st3,fr3,e3,hD3,hiD3,rd3,hl3,hr3,hes3⟩
    dsimp only at I3 wd3 st3 fr3 e3 hD3 hiD3 rd3 hl3 hr3 hes3 ⊢
    obtain⟨v,v',rfl⟩:∃ v v',vv=[v,v']:=by
     match vv,wd3 with
     | [v,v'],_=>exact⟨v,v',rfl⟩
    obtain⟨w1,w2⟩:=gv Hi3 H3 e3.i e3.s i;have lift:∀ {j:Type} {m:Sem j} {Q':j->Jb->Prop} {E:Ja->Jb->Prop} {s':Jb},wpAny (model X.prog X.w) X.A m Q' (zDU X [xa,xb] scope HP.objs.size s2 H2 fp).xe s'->wpAny (model X.prog X.w) X.A m Q' E s':=fun h=>wpAny_mono h (fun _ _ z=>z) fun e s z=>(Yxe e s z).elim
    by_cases hlt:i<ds.length
    ·obtain⟨d,hd⟩:∃ d,ds[i]?=some d:=⟨_,Qj hlt⟩
     obtain⟨go,yl⟩:=w2 d hd
     have e4:ds.drop i=d::ds.drop (i+1):=by
      rw[Qj hlt] at hd;cases hd;exact U2 hlt
     rw[e4] at hr3;refine thn (T.item (zDU X [xa,xb] scope HP.objs.size s2 H2 fp) rfl rfl rfl hc.1 i Md s3 _ H3 _ I3 (stat fr3) st3 go) fun r s4 ⟨u,hru,h4⟩=>?_
     subst hru;refine thn h4 fun _ s5 h5=>?_
     obtain⟨xv,H5,I5,r5,y5,st5,fr5⟩:=h5;obtain⟨Hi5,e5,rd5⟩:=yl xv H5 y5;have I5':=I5.pinned (stat fr5) (T.obj _ _ st5);obtain⟨a,b,e,es',rfl,hf,hr4,hee⟩:=zFp hr3;obtain⟨pa',ps,rfl,hq,hps⟩:=rd5.tupI;obtain⟨va,vb,rfl,ra,rb⟩:=hps.two;refine lift (thn (asg _ s5 _ H5 _ u (fun g' H'=>g'=g++[some va,some vb]/\H'=H5) I5' r5 ⟨pa',_,rfl,cK (e3.trans e5).s hq,rfl,va,_,rfl,vb,_,rfl,rfl,?_,rfl⟩) fun _ s6 h6=>?_)
     ·rw[U3 _ _ (Qb _),Yk,U3 _ _ (Nat.le_succ _),Nat.succ_sub (Qb _),Yk];rfl
     obtain⟨g6,H6,I6,rfl,rfl⟩:=h6;have E5:Ext Hi2 H2 Hi5 H6:=e3.trans e5
     have R5:nG (zDU X [xa,xb] scope HP.objs.size s2 H2 fp) ⟨G.B,G.Bi,fun _ _=>False⟩ Hi5 H6 (g++[some va,some vb]) (ρ++[.val a,.val b]):=by
      have:=Rel.snoc (Rel.snoc (R2.grow E5) ra) rb
      rw[V5,V5] at this;exact this
     obtain⟨hD5,hiD5⟩:=e5.out hD3 hiD3;have rd5':=rd3.mono e5.i
     have again:∀ {H8 Hi8:Hp} {ys':List V} {done' rest':List D} {s8:Jb},Inv (zDU X [xa,xb] scope HP.objs.size s2 H2 fp) (Md++xQ fp s5.heap) (g++[some va,some vb]) H8 s8->Ext Hi2 H2 Hi8 H8->H8 s2.heap.objs.size=some (.lst ys')->Hi8 s2.heap.objs.size=none->IsDs X.K Hi8 ys' done'->done'.length<=i+1->
       hG f ρ (ds.drop (i+1))=.ok rest'->es=done'++rest'->∃ m,m<ds.length-i/\∃ c:CW,m=ds.length-c.i/\CS (zDU X [xa,xb] scope HP.objs.size s2 H2 fp) Md g tn fp Hi2 H2 s2.heap.objs.size 2 (fun i=>hG f ρ (ds.drop i)) es c s8:=fun {H8 Hi8 ys' done' rest' s8} I8 E8 a1 a2 a3 a4 a5 a6=>by
      refine⟨ds.length-(i+1),by omega,⟨i+1,[some va,some vb],H8,Hi8,ys',done',rest'⟩,rfl,⟨I8.unpinned,rfl,T.keep _ _ _ st5 fun b hb o e=>(I8.pin (b,o) (Qw _ (Qw _ (gA hb e)))).1,fun b hb=>?_,E8,a1,a2,a3,a4,a5,a6⟩⟩
      obtain⟨o,e,_⟩:=T.obj _ _ st5 b hb;exact(I8.pin (b,o) (Qw _ (Qw _ (gA hb e)))).2.1
     refine lift (thn (hel _ s6 _ H6 (fun w H'=>∃ Hi',Ext Hi5 H6 Hi' H'/\IsD X.K Hi' w e) I6 ⟨_,Hi5,R5,by rw[hf];exact fun Hi' H' ee w hw=>⟨Hi',ee,hw⟩⟩) fun u8 s8 h8=>?_)
     obtain⟨w8,H8,I8,r8,Hi8,e8,rw8⟩:=h8;obtain⟨hD8,hiD8⟩:=e8.out hD5 hiD5;have rdy:IsDs X.K Hi8 ys done:=rd5'.mono e8.i;refine lift (thn (wO (X:=(zDU X [xa,xb] scope HP.objs.size s2 H2 fp)) _ s8 _ H8 (.ref s2.heap.objs.size) [w8] (.ref s2.heap.objs.size) [u8] (fun _ H'=>H'=upd H8 s2.heap.objs.size (.lst (ys++[w8]))) I8 rfl (.cons r8 .nil) ⟨_,ys,w8,rfl,rfl,hD8,?_,rfl⟩) fun _ s9 h9=>?_)
     ·rw[rdy.length]
      exact V7 hl3 (Qm hlt (Qp hlen (by decide)))
     ·obtain⟨_,H9,I9,_,rfl⟩:=h9
      refine again I9 (Ext.rewrite (E5.trans e8) H2D hiD8 ⟨_,hD8⟩) bA hiD8 (rdy.snoc rw8) (by rw[Ql];exact Xn hl3) hr4 ?_
      rw[hes3,hee,V5];rfl
    ·rw[Yt (by omega),hG] at hr3
     cases hr3;refine thn (T.done (zDU X [xa,xb] scope HP.objs.size s2 H2 fp) rfl rfl rfl hc.1 i Md s3 _ H3 _ I3 (stat fr3) st3 (w1 (by omega))) fun r s4 ⟨hrn,I4⟩=>?_
     subst hrn;obtain⟨m4,hn4,_⟩:=I4.loc;have fC:H3 HP.objs.size=none:=I4.free;have nC:∀ b u,H3 b=some u->b≠HP.objs.size:=fun b u e z=>by rw[z,fC] at e;cases e
     have U4:=I4.base;refine hend HP.objs.size s2.heap.objs.size m4 s4 H3 hn4 (fun h' hs'=>?_) (I2.fpOk (by rw[hC];omega) fC) ?_
     ·have kp:∀ b o,b≠HP.objs.size->s4.heap.get? b=some o->h'.get? b=some o:=fun b o hb e=>hs'.extBut b o hb e
      refine Inv.call' I2 (ch:=fp) I4.os ⟨fun b o e n hb hx=>kp b o (ltC e) (U4.keep b o e n hb hx),fun b o e n hb hx=>?_,U4.free,fun b o e hx=>?_,U4.tups,U4.frzs,U4.tbls⟩ (fun b u e=>?_) I4.bare (fun b hb=>⟨(f2 b hb).2.2.2.1,(f2 b hb).2.1,(f2 b hb).2.2.2.2.1,(f2 b hb).2.2.2.2.2⟩)
      ·obtain⟨sl,q⟩:=U4.slot b o e n hb hx
       exact⟨sl,kp b _ (ltC e) q⟩
      ·obtain⟨o',q⟩:=U4.there b o e hx
       exact⟨o',kp b _ (ltC e) q⟩
      ·refine(I4.hok b u e).stay (fun c v hc q=>kp c v ?_ q) (fun _ q=>q) fun _ _ q=>q
       rcases hc with z | z
       ·rw[z];exact nC b u e
       ·exact nC c _ z
     ·refine ou2 Hi3 H3 e3 _ ⟨HD,hiD3,ys,hD3,?_⟩
      rw[hes3,Vs];exact rd3
  rw[Ye] at loop;exact J8 (loop _ rfl) (T.self _ 0 _ _ _ tn1 (loop _ rfl))
def zLc(hc:X.calm=true/\TB X.K X.mg G.Bi G.B)(hr:Room k X.A)(Bk:BlkOk2 X [xa,xb] scope)(hN:(X.N++[xa,xb]).Nodup)(hi:PId X G (.Tuple [.Name xa pa,.Name xb pb] x1 tp) iter it)
  (hb:∀(C:Jc)(s₂:Jb)(H₂:Hp)(fp:List Jc)(G':Gx),Good (zDU X [xa,xb] scope C s₂ H₂ fp) G' k->PEd (zDU X [xa,xb] scope C s₂ H₂ fp) G' elt f)
  (hs:∀ x,foldedSetIterable iter X.env x=pure x:=by intro _;rfl):PEf X G (.ListComp elt [⟨.Tuple [.Name xa pa,.Name xb pb] x1 tp,iter,[],0⟩] scope pos) (zAf it f):=by
 intro Md s g H Q I w;obtain⟨ρ,Hi,R,ou⟩:=w;rw[eval_ListComp];refine zGH hc hr Bk hN hi hb hs (use:=none) (Qa:=fun a H'=>Q (.ref a) H') I R ou fun C A m s4 H3 hn hI _ q=>?_
 exact⟨m,hn,fun h' hs'=>⟨.ref A,H3,hI h' hs',rfl,q⟩⟩
def zOf(sc:Scope)(N:List Str)(xs:List Str)(scope:Scope):Bool:=
 scope.names.all (fun y=>y.2 != .cell) && xs.all (fun x=>scope.names.lookup x==some .local) && scope.names.all (fun y=>y.2 != .local || scope.names.lookup y.1==some .local)
  && scope.names.all (fun p=>p.2 != .free || (sc.names.lookup p.1==some .cell || sc.names.lookup p.1==some .free)) && N.all (fun y=>scope.names.lookup y != some .local)
def zOz{sc:Scope}{N xs:List Str}(hk:scope.kind=.function)(hsc:X.env.scope=sc)(hN:X.N=N)(h:zOf sc N xs scope=true):BlkOk2 X xs scope:=by
 unfold zOf at h;simp only[Vg] at h;obtain⟨⟨⟨⟨h1,h2⟩,h3⟩,h4⟩,h5⟩:=h;subst hN hsc;refine⟨hk,fun y hy e=>?_,fun x hx=>?_,fun y hy e=>?_,fun p hp e=>?_,fun y hy e=>?_⟩
 ·have:=V9.mp h1 y hy
  rw[e] at this;cases this
 ·exact beq_iff_eq.mp (V9.mp h2 x hx)
 ·have:=V9.mp h3 y hy
  rw[e] at this;simpa using this
 ·have:=V9.mp h4 p hp
  rw[e] at this;have q:X.env.scope.names.lookup p.1=some .cell∨X.env.scope.names.lookup p.1=some .free:=by simpa using this
  exact q
 ·have:=V9.mp h5 y hy
  rw[e] at this;cases this
def zCK{sc:Scope}{N:List Str}(W:Good X G k)(hnd:(N++[xa,xb]).Nodup)(hk:scope.kind=.function)(hsc:X.env.scope=sc)(hN:X.N=N)(h:zOf sc N [xa,xb] scope=true)(hi:PId X G (.Tuple [.Name xa pa,.Name xb pb] x1 tp) iter it)
  (hb:∀(C:Jc)(s₂:Jb)(H₂:Hp)(fp:List Jc)(G':Gx),Good (zDU X [xa,xb] scope C s₂ H₂ fp) G' k->PEd (zDU X [xa,xb] scope C s₂ H₂ fp) G' elt f)
  (hs:∀ x,foldedSetIterable iter X.env x=pure x:=by intro _;rfl):PEf X G (.ListComp elt [⟨.Tuple [.Name xa pa,.Name xb pb] x1 tp,iter,[],0⟩] scope pos) (zAf it f):=
 zLc ⟨W.calm,W.tb⟩ W.room (zOz hk hsc hN h) (hN ▸ hnd) hi hb hs
end
end L3
namespace L3
open PySem PySem.Spec PyProof.Rows L2
section
variable{prog:Je}{w:Jf}{A:Jg}{E:Ja->Jb->Prop}{s:Jb}
def zJC{t sl:Jc}{its:Array Ja}{vl vu:Ja}{lo hi:Option Int}{Q:Ja->Jb->Prop}(a:IsTup s.heap t its)(b:s.heap.IsSliceOf sl vl vu .none)(pl:IsPart vl lo)(pu:IsPart vu hi)
  (c:HT.sIx its.size 0 lo=0/\HT.sIx its.size its.size hi=its.size) (q:Q (.ref t) s):wpAny (model prog w) A (getItem (.ref t) (.ref sl)) Q E s:=by
 obtain⟨os,e1,e2,_⟩:=id b;have ty:s.TypeIs (.ref sl) "slice" := ⟨os,e1,e2⟩;unfold getItem;try with_reducible refine wpAny_holding ?_
 first | refine Jq (Jt ?_) | skip
 refine Jq (wpAny_sequenceKey a.typeIs (by decide) (Jq (wpAny_callSpecial?_slot (name:=Str.ofString "__getitem__") a.typeIs Y3 (wpAny_call_entry Y3 a.typeIs J1 ?_ (args_tuple_getitem _ _)))))
 refine show wpAny _ _ (Builtin.Tuple.tupleItemsOf (.ref t) >>= _) _ _ s from Jq (tupleItemsOf_ a (Jq (wpAny_typeOf ty ?_)))
 rw[Jj (by decide)];refine Jq (HT.sliceApplied_gen b pl pu ?_)
 show wpAny _ _ (if (((HT.sIx its.size 0 lo:Nat):Int)==0 && (1:Int)==1 && (HT.sIx its.size its.size hi-HT.sIx its.size 0 lo)==its.size)=true then _ else _) _ _ s
 rw[c.1,c.2,Jj (by simp)];refine Jq ?_
 unfold Builtin.Tuple.tupleIsExact
 first
  | refine Jq (wpAny_typeOf a.typeIs (Jt ?_))
  | refine Jq (wpAny_load a.choose_spec.1 (Jt ?_))
 rw[Jj (by first | decide | rfl)];exact Jq (wpAny_rule (Jt ⟨_,rfl,Jt q⟩))
end
section
variable{X:Cx}{G:Gx}{fs:Fv}{f:Ev}
def zTy(K:PySem.W.Frag):V->Option Int->Option Int->Hp->VK->Prop:=fun x lo hi H Q=>∃ a xs,x=.ref a/\SqT K H a xs/\(HT.sIx xs.length 0 lo=0/\HT.sIx xs.length xs.length hi=xs.length)/\Q (.ref a) H
def zKN:SlR X (zTy X.K):=by
 intro Md s b H x v vl vu lo hi sl Q I rx hs pl pu h;obtain⟨a,xs,rfl,hx,hw,q⟩:=h;cases rx;obtain⟨its,r,ht,hz⟩:=I.tuple hx;have hlen:its.toArray.size=xs.length:=by rw[Qh];exact r.length.symm
 exact⟨"tuple", _,PyProof.Rows.slot_tuple_getitem.lookup,ht.typeIs,zJC ht hs pl pu (by rw[hlen];exact hw) ⟨.ref a,H,I,rfl,q⟩⟩
unseal PEd PEf PTd PWd PAd PSd eQ POd PGd iM PId PSx lF PTs PCd PCf
def zJO{e:Expr}{pos:Pos}{lo hi:Option Expr}{l h:Ov}{p2:Pos}(he:PEd X G e f)(hl:POd X G lo l)(hu:POd X G hi h):PEd X G (.Subscript e (.Slice lo hi none p2) pos) (zSN f l h):=
 PE.wk (zFP (SlR.or zJx (SlR.or zQh zKN)) he hl hu) fun b H Q q=>by
 obtain⟨ρ,Hi,R,ou⟩:=q;refine vX R ou fun v d Hi1 H1 e1 R1 r1 o1=>?_
 refine zRP R1 o1 fun i Hi2 H2 e2 R2 o2=>?_
 refine zRP R2 o2 fun j Hi3 H3 e3 R3 o3=>?_
 have eh:=e1.h.trans (e2.h.trans e3.h);have ei:=e2.i.trans e3.i
 cases d with
 | lst ds=>
  obtain⟨a,xs,rfl,h1,h2⟩:=r1.lstI;refine .inl ⟨a,xs,rfl,dF (ei.trans R3.s) h1,fun p hp=>?_⟩
  exact o3 _ _ (Ext.new R3.s hp) (.ref p) (.lst (SqL.of bA) (((h2.cut i j).mono ei).mono (cT (R3.s.none hp) _)))
 | tup ds=>
  obtain⟨a,xs,rfl,h1,h2⟩:=r1.tupI;by_cases z:HT.sIx xs.length 0 i=0/\HT.sIx xs.length xs.length j=xs.length
  ·refine .inr (.inr ⟨a,xs,rfl,cK (ei.trans R3.s) h1,z,?_⟩)
   have hc:=h2.cut i j
   have ew:zKu xs i j=xs:=by
    unfold zKu;rw[z.1,z.2,List.drop_zero,U7,Xe]
   rw[ew] at hc;exact o3.here R3.s (.ref a) (.tup (cK ei h1) (hc.mono ei))
  ·refine .inr (.inl ⟨a,xs,rfl,cK (ei.trans R3.s) h1,z,fun p hp=>?_⟩)
   exact o3 _ _ (Ext.new R3.s hp) (.ref p) (.tup (SqT.of bA) (((h2.cut i j).mono ei).mono (cT (R3.s.none hp) _)))
 | _=>exact o3.elim
end
end L3
namespace L3
open PySem PySem.Spec PyProof.Rows L2
unseal PEd PEf PTd PWd PAd PSd eQ POd PGd iM PId PSx lF PTs PCd PCf
end L3
namespace L3
open PySem PySem.Spec PyProof.Rows L2
local macro_rules | `(⋯)=>`(by omega)
def Iv(xs:Array Keyed)(i:Nat):Int:=match xs[i]? with
 | some p=>numOf p.2
 | none=>0
def zKm{xs ys:Array Keyed}{i j:Nat}(h:xs[i]?=ys[j]?):Iv xs i=Iv ys j:=by unfold Iv;rw[h]
def zPo{xs:Array Keyed}{a d:Nat}(ha:a<xs.size)(hd:d<=a)(k:Nat):Iv (bubble xs a d) k=if k=a-d then Iv xs a else if a-d<k/\k<=a then Iv xs (k-1) else Iv xs k:=by
 have e:=getElem?_bubble ha d hd k;by_cases c1:k=a-d
 ·rw[Jj c1] at e ⊢;exact zKm e
 ·rw[Jk c1] at e ⊢
  by_cases c2:a-d<k/\k<=a
  ·rw[Jj c2] at e ⊢;exact zKm e
  ·rw[Jk c2] at e ⊢;exact zKm e
def xH{xs:Array Keyed}{a b:Nat}(hb:b<=xs.size)(k:Nat):Iv (mirror xs a b ((b-a) / 2)) k=if a<=k/\k<b then Iv xs (a+b-1-k) else Iv xs k:=by
 have e:=getElem?_mirror_all (i:=a) hb k;by_cases c:a<=k/\k<b
 ·rw[Jj c] at e ⊢;exact zKm e
 ·rw[Jk c] at e ⊢;exact zKm e
structure Up (N:Nat) (xs:Array Keyed) (m:Nat):Prop where
 so:∀ i j,i<j->j<m->K xs i<K xs j∨K xs i=K xs j/\Iv xs i<Iv xs j
 lo:∀ i,i<m->Iv xs i<m
 hi:∀ i,m<=i->i<N->Iv xs i=i
def Up.le{N m:Nat}{xs:Array Keyed}(u:Up N xs m){i j:Nat}(h:i<=j)(hj:j<m):K xs i<=K xs j:=by
 by_cases c:i=j
 ·subst c;exact Ym _
 ·rcases u.so i j ⋯ hj with z | z
  ·exact Xl z
  ·exact Int.le_of_eq z.1
def Up.on{N m n:Nat}{xs:Array Keyed}(u:Up N xs m)(hn:n<=N)(hm:m<=n)(s:SortedTo xs n):Up N xs n where
 so i j l hj:=by
  by_cases c:j<m
  ·exact u.so i j l c
  ·have e:=u.hi j ⋯ ⋯
   have z:=s i j ⋯ hj
   have t:Iv xs i<Iv xs j:=by
    by_cases c2:i<m
    ·have:=u.lo i c2;omega
    ·have:=u.hi i ⋯ ⋯;omega
   rcases Int.lt_or_eq_of_le z with z | z
   ·exact .inl z
   ·exact .inr ⟨z,t⟩
 lo i hi:=by
  by_cases c:i<m
  ·have:=u.lo i c;omega
  ·have:=u.hi i ⋯ ⋯;omega
 hi i h1 h2:=u.hi i ⋯ h2
structure Dw (N:Nat) (xs:Array Keyed) (b:Nat):Prop where
 so:∀ i j,i<j->j<b->K xs j<K xs i∨K xs j=K xs i/\Iv xs j<Iv xs i
 lo:∀ i,i<b->Iv xs i<b
 hi:∀ i,b<=i->i<N->Iv xs i=i
structure Dq (N:Nat) (xs:Array Keyed) (b x:Nat):Prop extends Dw N xs b where
 bx:b<x
 eq:∀ i,b<=i->i<x->K xs i=K xs (x-1)
 gt:∀ i,i<b->K xs (x-1)<K xs i
def Dq.turn{N:Nat}{xs ys:Array Keyed}{b x:Nat}(d:Dq N xs b x)(hx:x<=N)(hk:∀ i,K ys i=K xs i)(hv:∀ i,Iv ys i=if b<=i/\i<x then Iv xs (b+x-1-i) else Iv xs i):Dw N ys x where
 so i j l hj:=by
  rw[hk,hk,hv,hv];by_cases c:j<b
  ·rw[Jk ⋯,Jk ⋯];exact d.so i j l c
  ·rw[d.eq j ⋯ hj,Jj ⋯,d.hi _ ⋯ ⋯]
   by_cases c2:i<b
   ·exact .inl (d.gt i c2)
   ·rw[d.eq i ⋯ ⋯,Jj ⋯,d.hi _ ⋯ ⋯]
    exact .inr ⟨rfl,by omega⟩
 lo i hi:=by
  rw[hv];split
  ·rw[d.hi _ ⋯ ⋯];omega
  ·have:=d.lo i ⋯;have:=d.bx;omega
 hi i h1 h2:=by rw[hv,Jk ⋯];exact d.hi i (by have:=d.bx;omega) h2
def Dw.next{N:Nat}{xs:Array Keyed}{x:Nat}(d:Dw N xs x)(hx:x<N)(h1:0<x)(h:∀ i,i<x->K xs x<K xs i):Dq N xs x (x+1) where
 toDw:=d
 bx:=by omega
 eq i a b:=by rw[show i=x+1-1 by omega]
 gt i hi:=by rw[show x+1-1=x by omega];exact h i hi
section
variable{prog:Je}{w:Jf}{A:Jg}{E:Ja->Jb->Prop}{s:Jb}{a₀:Array Keyed}
def zJV{st:SortSt}{n r:Nat}{Q:Option Nat->SortSt->Prop}(ik:IntKeys a₀)(hr:r<=a₀.size)(h1:1<=n)(hn:n<=r)(sb:SBase a₀ st)(d:Dw a₀.size (arrOf st) n)
  (h:∀ m st',SBase a₀ st'->1<=m->m<=r->Up a₀.size (arrOf st') m->Q (some m) st'):wpS (model prog w) A E s (tail3 n r) Q st:=by
 unfold tail3;have sz:n<=(arrOf st).size:=by rw[sb.size];omega
 refine Ma (wpS_reverse ?_)
 have sb2:SBase a₀ (setArr st (mirror (arrOf st) 0 n ((n-0) / 2))):=sb.setArr (mirror_perm ..)
 have up:Up a₀.size (mirror (arrOf st) 0 n ((n-0) / 2)) n:=by
  refine⟨fun i j l hj=>?_,fun i hi=>?_,fun i p q=>?_⟩
  ·rw[K_mirror sz,K_mirror sz,xH sz,xH sz,Jj ⋯,Jj ⋯,Jj ⋯,Jj ⋯]
   exact d.so _ _ ⋯ ⋯
  ·rw[xH sz,Jj ⋯];exact d.lo _ ⋯
  ·rw[xH sz,Jk ⋯];exact d.hi i p q
 exact Ma (wpS_ascLoop ik hr h1 hn sb2 (fun i j l hj=>up.le l hj) fun m m1 m2 sm _=>wpS_pure (h m _ sb2 ⋯ m2 (up.on ⋯ m1 sm)))
def zNR{st:SortSt}{b n r:Nat}{Q:DescSt->SortSt->Prop}(ik:IntKeys a₀)(hr:r<=a₀.size)(hn:n<=r)(hb:b+1=n)(sb:SBase a₀ st)(d:Dq a₀.size (arrOf st) b n)
  (h:∀ m q st',SBase a₀ st'->m<=r->q<m->Dq a₀.size (arrOf st') (m-(q+1)) m->Q (none,m,q) st'):wpS (model prog w) A E s (descLoop n r) Q st:=by
 unfold descLoop;refine wpS_forRange (I:=fun x c st'=>∃ q,c=(none,x,q)/\SBase a₀ st'/\q<x/\Dq a₀.size (arrOf st') (x-(q+1)) x) ?step ?fin ⟨0,rfl,sb,by omega,by rw[show n-(0+1)=b by omega];exact d⟩
 case fin=>
  rintro c st' ⟨q,rfl,sb',hq,d'⟩
  rw[show max n r=r by omega] at hq d' ⊢
  exact h r q st' sb' (Qb _) hq d'
 case step=>
  rintro x c st' nx xr ⟨q,rfl,sb',hq,d'⟩
  dsimp only
  have sz:x<=(arrOf st').size:=by rw[sb'.size];omega
  refine Ma (wpS_ltK sb' ik (show x<_ by omega) (show x-1<_ by omega) ?_)
  by_cases c1:K (arrOf st') x<K (arrOf st') (x-1)
  ·have all:∀ i,i<x->K (arrOf st') x<K (arrOf st') i:=fun i hi=>by
    by_cases c2:i<x-(q+1)
    ·exact Int.lt_trans c1 (d'.gt i c2)
    ·rw[d'.eq i ⋯ hi];exact c1
   rw[J5 c1];dsimp only
   rw[Jj rfl];by_cases c3:q > 0
   ·rw[Jj c3]
    have kk:=K_mirror_equal (i:=x-(q+1)) sz (fun k p1 p2=>d'.eq k p1 p2)
    refine Ma (wpS_reverse (wpS_pure ⟨0,rfl,sb'.setArr (mirror_perm ..),by omega,?_⟩))
    have dw:Dw a₀.size (mirror (arrOf st') (x-(q+1)) x ((x-(x-(q+1))) / 2)) x:=d'.turn ⋯ kk (xH sz)
    exact dw.next ⋯ ⋯ fun i hi=>by rw[kk,kk];exact all i hi
   ·rw[Jk c3]
    have q0:q=0:=by omega
    subst q0
    have dw:Dw a₀.size (arrOf st') x:=d'.turn ⋯ (fun _=>rfl) fun i=>by
     split
     ·rw[show x-(0+1)+x-1-i=i by omega]
     ·rfl
    exact wpS_pure ⟨0,rfl,sb',by omega,dw.next ⋯ ⋯ all⟩
  ·rw[Ji c1]
   dsimp only
   rw[Jk (by decide)];refine Ma (wpS_ltK sb' ik (show x-1<_ by omega) (show x<_ by omega) ?_)
   by_cases c4:K (arrOf st') (x-1)<K (arrOf st') x
   ·rw[J5 c4]
    dsimp only
    rw[Jj rfl];exact wpS_pure (h x q st' sb' ⋯ hq d')
   ·rw[Ji c4]
    dsimp only
    rw[Jk (by decide)];have ee:K (arrOf st') x=K (arrOf st') (x-1):=by omega
    refine wpS_pure ⟨q+1,rfl,sb',by omega,?_⟩
    rw[show x+1-(q+1+1)=x-(q+1) by omega];refine⟨d'.toDw,by omega,fun i p1 p2=>?_,fun i p1=>?_⟩
    ·rw[show x+1-1=x by omega]
     by_cases c5:i=x
     ·rw[c5]
     ·rw[ee];exact d'.eq i p1 ⋯
    ·rw[show x+1-1=x by omega,ee];exact d'.gt i p1
def zId{st:SortSt}{n r:Nat}{Q:Option Nat->SortSt->Prop}(ik:IntKeys a₀)(hr:r<=a₀.size)(hn:n+1<=r)(sb:SBase a₀ st)(d:Dq a₀.size (arrOf st) n (n+1))
  (h:∀ m st',SBase a₀ st'->1<=m->m<=r->Up a₀.size (arrOf st') m->Q (some m) st'):wpS (model prog w) A E s (descPart n r) Q st:=by
 unfold descPart;refine Ma (wpS_lift (wpAny_rule ⟨rfl,?_⟩))
 refine Ma (zNR ik hr hn rfl sb d fun m q st' sb' mr hq d'=>?_)
 dsimp only
 have sz:m<=(arrOf st').size:=by rw[sb'.size];omega
 by_cases c:q > 0
 ·rw[Jj c]
  exact Ma (wpS_reverse (zJV ik hr ⋯ mr (sb'.setArr (mirror_perm ..)) (d'.turn ⋯ (K_mirror_equal sz fun k p1 p2=>d'.eq k p1 p2) (xH sz)) h))
 ·rw[Jk c]
  have q0:q=0:=by omega
  subst q0;refine zJV ik hr ⋯ mr sb' (d'.turn ⋯ (fun _=>rfl) fun i=>?_) h
  split
  ·rw[show m-(0+1)+m-1-i=i by omega]
  ·rfl
def zRx{st:SortSt}{r:Nat}{Q:Option Nat->SortSt->Prop}(ik:IntKeys a₀)(hr:r<=a₀.size)(h1:1<=r)(sb:SBase a₀ st)(h0:∀ i,i<a₀.size->Iv (arrOf st) i=i)
  (h:∀ m st',SBase a₀ st'->1<=m->m<=r->Up a₀.size (arrOf st') m->Q (some m) st'):wpS (model prog w) A E s (countRun' 0 r) Q st:=by
 have u1:Up a₀.size (arrOf st) 1:=⟨fun i j l hj=>by omega,fun i hi=>by have:=h0 i ⋯;omega,fun i _ z=>h0 i z⟩
 rw[countRun0_eq];refine Ma (wpS_ascLoop ik hr (Qb 1) h1 sb (fun i j l hj=>u1.le l hj) fun n n1 n2 sn no=>?_)
 have un:=u1.on (show n<=_ by omega) n1 sn
 dsimp only
 by_cases c:n=r
 ·rw[Jj (by simpa using c)]
  exact wpS_pure (h n st sb n1 n2 un)
 ·rw[Jk (by simpa using c)]
  have fl:K (arrOf st) n<K (arrOf st) (n-1):=no.resolve_left c;by_cases c2:n > 1
  ·rw[Jj c2]
   refine Ma (wpS_ltK sb ik (show 0<_ by omega) (show n-1<_ by omega) ?_)
   by_cases c3:K (arrOf st) 0<K (arrOf st) (n-1)
   ·rw[J5 c3]
    dsimp only
    rw[Jj rfl];exact wpS_pure (h n st sb n1 n2 un)
   ·rw[Ji c3]
    dsimp only
    rw[Jk (by decide)];have sz:n<=(arrOf st).size:=by rw[sb.size];omega
    have al:∀ k,0<=k->k<n->K (arrOf st) k=K (arrOf st) (n-1):=fun k _ hk=>by
     have p1:=sn 0 k ⋯ hk
     have p2:=sn k (n-1) ⋯ ⋯
     omega
    have kk:=K_mirror_equal (i:=0) sz al;have dq:Dq a₀.size (arrOf st) 0 n:=⟨⟨fun i j l hj=>by omega,fun i hi=>by omega,fun i _ z=>h0 i z⟩,by omega,fun i p1 p2=>al i p1 p2,fun i hi=>by omega⟩
    have dw:Dw a₀.size (mirror (arrOf st) 0 n ((n-0) / 2)) n:=dq.turn ⋯ kk (xH sz)
    refine Ma (wpS_reverse (zId ik hr ⋯ (sb.setArr (mirror_perm ..)) (dw.next ⋯ ⋯ fun i hi=>?_) h))
    rw[kk,kk,al i ⋯ hi];exact fl
  ·rw[Jk c2]
   have n0:n=1:=by omega
   subst n0;have dw:Dw a₀.size (arrOf st) 1:=⟨fun i j l hj=>by omega,fun i hi=>by have:=h0 i ⋯;omega,fun i _ z=>h0 i z⟩
   refine zId ik hr ⋯ sb (dw.next ⋯ ⋯ fun i hi=>?_) h
   rw[show i=1-1 by omega];exact fl
def zPu{st:SortSt}{n m:Nat}{Q:Bool->SortSt->Prop}(ik:IntKeys a₀)(hn:n<=a₀.size)(h1:1<=m)(hm:m<=n)(sb:SBase a₀ st)(u:Up a₀.size (arrOf st) m)
  (h:∀ st',SBase a₀ st'->Up a₀.size (arrOf st') n->Q true st'):wpS (model prog w) A E s (binarySort' 0 n m) Q st:=by
 rw[binarySort'_eq];simp only[Q8];refine Ma (wpS_mono (wpS_forRange (I:=fun k c st'=>c=(none,())/\SBase a₀ st'/\Up a₀.size (arrOf st') (min k n)) (Q:=fun c st'=>c=(none,())/\SBase a₀ st'/\Up a₀.size (arrOf st') n) ?step ?fin ⟨rfl,sb,by rw[show min (max m 1) n=m by omega];exact u⟩) ?post)
 case post=>
  rintro c st' ⟨rfl,sb',u'⟩
  exact wpS_pure (h st' sb' u')
 case fin=>
  rintro c st' ⟨hc,sb',u'⟩
  rw[show min (max (max m 1) n) n=n by omega] at u';exact⟨hc,sb',u'⟩
 case step=>
  rintro k c st' mk kn ⟨rfl,sb',u'⟩
  rw[show min k n=k by omega] at u';have ka:k<a₀.size:=by omega
  refine Ma (wpS_mono (wpS_forRange
   (I:=fun x c st2=>st2=st'/\∃ l r,c=(none,l,r)/\l<=r/\r<=k/\r-l<=k-x/\(∀ i,i<l->K (arrOf st') i<=K (arrOf st') k)/\∀ i,r<=i->i<k->K (arrOf st') k<K (arrOf st') i)
   (Q:=fun c st2=>st2=st'/\∃ l r,c=(none,l,r)/\l<=k/\(∀ i,i<l->K (arrOf st') i<=K (arrOf st') k)/\∀ i,l<=i->i<k->K (arrOf st') k<K (arrOf st') i) ?js ?jf ?ji) ?jp)
  case ji=>exact⟨rfl,0,k,rfl,by omega,by omega,by omega,fun i z=>by omega,fun i y z=>by omega⟩
  case jf=>
   rintro c st2 ⟨rfl,l,r,rfl,lr,rk,lx,f1,f2⟩
   have:l=r:=by omega
   subst this;exact⟨rfl,l,l,rfl,rk,f1,f2⟩
  case js=>
   rintro x c st2 _ xk ⟨rfl,l,r,rfl,lr,rk,lx,f1,f2⟩
   dsimp only
   by_cases c1:l ≥ r
   ·rw[Jj c1]
    have:l=r:=by omega
    subst this;exact wpS_pure ⟨rfl,l,l,rfl,rk,f1,f2⟩
   ·rw[Jk c1]
    refine Ma (wpS_ltK sb' ik ka (show(l+r) / 2<_ by omega) ?_)
    by_cases c2:K (arrOf st2) k<K (arrOf st2) ((l+r) / 2)
    ·rw[J5 c2]
     dsimp only
     rw[Jj rfl];exact wpS_pure ⟨rfl,l,(l+r) / 2,rfl,by omega,by omega,by omega,f1,fun i y z=>Int.lt_of_lt_of_le c2 (u'.le y z)⟩
    ·rw[Ji c2]
     dsimp only
     rw[Jk (by decide)];exact wpS_pure ⟨rfl,(l+r) / 2+1,r,rfl,by omega,by omega,by omega,fun i y=>Xo (u'.le (show i<=(l+r) / 2 by omega) ⋯) (Int.not_lt.mp c2),f2⟩
  case jp=>
   rintro c st2 ⟨rfl,l,r,rfl,lk,f1,f2⟩
   show wpS _ _ _ _ (do moveDown' k l;pure (ForInStep.yield (none,()))) _ _
   rw[moveDown'_eq];refine Ma (wpS_modify (wpS_pure ⟨rfl,sb'.setArr (bubble_perm ..),?_⟩))
   rw[show min (k+1) n=k+1 by omega];have sz:k<(arrOf st2).size:=by rw[sb'.size];exact ka
   have ik2:=u'.hi k (Qb _) ka;show Up a₀.size (bubble (arrOf st2) k (k-l)) (k+1)
   have kb:=fun i=>K_bubble sz (show k-l<=k by omega) i
   have vb:=fun i=>zPo sz (show k-l<=k by omega) i
   rw[show k-(k-l)=l by omega] at kb vb;refine⟨fun i j ij jk=>?_,fun i z=>?_,fun i y z=>?_⟩
   ·rw[kb,kb,vb,vb]
    by_cases e1:i=l
    ·rw[Jj e1,Jk (show j≠l by omega),Jj (show l<j/\j<=k by omega),Jj e1]
     exact .inl (f2 _ ⋯ ⋯)
    ·by_cases e2:j=l
     ·rw[Jk e1,Jk (show ¬ (l<i/\i<=k) by omega),Jj e2,Jk e1,Jk (show ¬ (l<i/\i<=k) by omega),Jj e2]
      have t:=u'.lo i ⋯
      rcases Int.lt_or_eq_of_le (f1 i ⋯) with z | z
      ·exact .inl z
      ·exact .inr ⟨z,by omega⟩
     ·rw[Jk e1,Jk e2,Jk e1,Jk e2]
      by_cases g1:l<i/\i<=k
      ·rw[Jj g1,Jj g1,Jj (show l<j/\j<=k by omega),Jj (show l<j/\j<=k by omega)]
       exact u'.so _ _ ⋯ ⋯
      ·rw[Jk g1,Jk g1]
       by_cases g2:l<j/\j<=k
       ·rw[Jj g2,Jj g2];exact u'.so _ _ ⋯ ⋯
       ·rw[Jk g2,Jk g2];exact u'.so _ _ ij ⋯
   ·rw[vb]
    split
    ·omega
    ·split
     ·have:=u'.lo (i-1) ⋯;omega
     ·have:=u'.lo i ⋯;omega
   ·rw[vb,Jk ⋯,Jk ⋯];exact u'.hi i ⋯ z
def zOD{st:SortSt}{Q:Unit->SortSt->Prop}(ik:IntKeys a₀)(sb:SBase a₀ st)(h2:2<=a₀.size)(h64:a₀.size<64)(h0:∀ i,i<a₀.size->Iv (arrOf st) i=i)
  (h:∀ st',(arrOf st').Perm a₀->failedOf st'=none->Up a₀.size (arrOf st') a₀.size->Q () st'):wpS (model prog w) A E s sortRuns' Q st:=by
 rw[sortRuns'_eq];refine Ma (wpS_get ?_)
 dsimp only
 have mr:minRun' a₀.size a₀.size 0=a₀.size:=by
  obtain⟨f,hf⟩:∃ f,a₀.size=f+1:=⟨a₀.size-1,by omega⟩
  have z:minRun' (f+1) a₀.size 0=a₀.size:=by rw[minRun'_succ,Jj h64,Nat.add_zero]
  rw[<-hf] at z;exact z
 have fin:∀ st':SortSt,SBase a₀ st'->Up a₀.size (arrOf st') a₀.size->(fun st=>(arrOf st).Perm a₀/\failedOf st=none/\pendingOf st=#[(0,a₀.size,0)]/\Up a₀.size (arrOf st) a₀.size) (setPending st' ((pendingOf st').push (0,a₀.size,0))):=fun st' b u=>
  ⟨b.perm,b.failed,by show(pendingOf st').push _=_;rw[b.pend];rfl,u⟩
 simp only[sb.size,mr]
 refine Ma (wpS_mono (wpS_forRange
  (I:=fun x c st'=>(x=0/\c=(none,0)/\st'=st)∨(1<=x/\c=(none,a₀.size)/\(arrOf st').Perm a₀/\failedOf st'=none/\pendingOf st'=#[(0,a₀.size,0)]/\Up a₀.size (arrOf st') a₀.size))
  (Q:=fun c st'=>c=(none,a₀.size)/\(arrOf st').Perm a₀/\failedOf st'=none/\pendingOf st'=#[(0,a₀.size,0)]/\Up a₀.size (arrOf st') a₀.size) ?step ?fin (.inl ⟨rfl,rfl,rfl⟩)) ?post)
 case fin=>
  rintro c st' (⟨z,_,_⟩ | ⟨_,r⟩)
  ·omega
  ·exact r
 case step=>
  rintro x c st' _ hx (⟨rfl,rfl,rfl⟩ | ⟨_,rfl,r⟩)
  ·dsimp only
   rw[Jk ⋯];simp only[U7,Yi,Q8];refine Ma (zRx ik (Qb _) ⋯ sb h0 fun m st2 sb2 m1 m2 u2=>?_)
   dsimp only
   by_cases c:m<a₀.size
   ·rw[Jj c]
    refine Ma (wpS_lift (wpAny_rule ⟨rfl,?_⟩))
    refine Ma (zPu ik (Qb _) m1 m2 sb2 u2 fun st3 sb3 u3=>?_)
    rw[Bool.not_true,Jk X8];refine Ma (wpS_get ?_)
    rw[show(pendingOf st3).back?=none by rw[sb3.pend];rfl];dsimp only
    exact Ma (wpS_modify (wpS_pure (.inr ⟨by omega,rfl,fin st3 sb3 u3⟩)))
   ·rw[Jk c]
    have mm:m=a₀.size:=by omega
    subst mm;refine Ma (wpS_get ?_)
    rw[show(pendingOf st2).back?=none by rw[sb2.pend];rfl];dsimp only
    exact Ma (wpS_modify (wpS_pure (.inr ⟨by omega,rfl,fin st2 sb2 u2⟩)))
  ·dsimp only
   rw[Jj (Qb _)];exact wpS_pure ⟨rfl,r⟩
 case post=>
  rintro c st' ⟨rfl,p1,p2,p3,p4⟩
  dsimp only
  refine Ma (wpS_mono (wpS_forRange (I:=fun _ c st2=>st2=st'/\c=(none,())) (Q:=fun c st2=>st2=st'/\c=(none,())) ?_ (fun _ _ z=>z) ⟨rfl,rfl⟩) ?_)
  ·rintro x c st2 _ _ ⟨rfl,rfl⟩
   refine Ma (wpS_get ?_)
   rw[Jj (by rw[p3];exact Qb 1)];exact wpS_pure ⟨rfl,rfl⟩
  ·rintro c st2 ⟨rfl,rfl⟩
   exact wpS_pure (h _ p1 p2 p4)
end
end L3
namespace L3
open PySem PySem.Spec PyProof.Rows L2
unseal PEd PEf PTd PWd PAd PSd eQ POd PGd iM PId PSx lF PTs PCd PCf
local macro_rules | `(⋯)=>`(by omega)
section
variable{prog:Je}{w:Jf}{A:Jg}{E:Ja->Jb->Prop}{s:Jb}
def zAZ{r:Jc}{a b c:Int}{t u v:Tok}{n:Nat}{R:List Ja->Jb->Prop}(hh:A.handled=none)(hr:IsRange s.heap r a b c t u v)(hsmall:Builtin.Range.small a b c=true)(hn:Builtin.Range.rangeSize a b c=n)(hlen:n<=2^24)
  (h:∀ h' tk acc,(∀ b o,s.heap.get? b=some o->h'.get? b=some o)->s.heap.objs.size<=h'.objs.size->ItemsOf (fun i v=>∃ t,v=.int (a+i*c) t) acc n->R acc.toList { s with heap:=h',toks:=tk }):
  wpAny (model prog w) A (collect (.ref r)) R E s:=by
 unfold collect;refine Jq (wpAny_runValue (codeAny_builtin entry_proto_collect' ?_))
 rw[Around.under_plainId PySem.F.plain_proto_collect _];show wpAny _ A.in1 (newList [] >>= fun l=>again (.builtin "list.__iadd__" ⟨[l,.ref r],[]⟩)) _ _ s
 refine Jq (wpAny_newObj_type ?_)
 refine Jt ⟨plainId_quiet W4 _,codeAny_builtin entry_list_iadd' ?_⟩
 rw[Around.under_plainId W4 _];have hS₁:(s.heap.push { cls:=.type "list", data:=.seq ([]:List Ja).toArray }).get? s.heap.objs.size=some { cls:=.type "list", data:=.seq #[] }:=Heap.get?_push_size _ rfl;show wpAny _ A.in1 (Builtin.List.listExtendWith (.ref s.heap.objs.size) (.ref r) (.ref s.heap.objs.size)) _ _ _
 have key:=wpAny_extend_range (prog:=prog) (w:=w) (A:=A) (s:={ s with heap:=s.heap.push { cls:=.type "list", data:=.seq ([]:List Ja).toArray } })
  (R:=fun(q:Result) (s':Jb)=>∃(h':Jd)(tk:Nat)(acc':Array Ja)(c':Nat),q=.ok (.ret (.ref s.heap.objs.size))/\s'={ s with heap:=h',toks:=tk }/\
   (∀ b o,s.heap.get? b=some o->h'.get? b=some o)/\h'.get? s.heap.objs.size=some { cls:=.type "list", dict:=none,data:=.seq acc' c',slots:=#[] }/\ItemsOf (fun i v=>∃ t,v=.int (a+i*c) t) acc' n)
  hh (Heap.get?_push_of_some _ hr) hsmall hn hlen s.heap.objs.size (.ref s.heap.objs.size) 0 hS₁
  (fun h' tk acc' c' hk hS' hacc=>⟨h',tk,acc',c',rfl,rfl,fun b o e=>hk b o (Qo (Heap.lt_size e)) (Heap.get?_push_of_some _ e),hS',hacc⟩)
 refine wpAny_mono key (fun fin s' x=>?_) fun e s' x=>?_
 ·cases fin with
  | done f=>
   obtain⟨h',tk,acc',c',e,rfl,hk,hS',hacc⟩:=x;cases e;show wpAny _ A (load s.heap.objs.size >>= _) _ _ _
   refine Jq (wpAny_load hS' ?_)
   exact Jt (h h' tk acc' hk (Xw (Heap.lt_size hS')) hacc)
  | again c₁=>
   refine⟨x.1,codeAny_mono x.2 fun q s₂ y=>?_⟩
   obtain⟨h',tk,acc',c',rfl,rfl,hk,hS',hacc⟩:=y;show wpAny _ A (load s.heap.objs.size >>= _) _ _ _
   refine Jq (wpAny_load hS' ?_)
   exact Jt (h h' tk acc' hk (Xw (Heap.lt_size hS')) hacc)
 ·obtain⟨_,_,_,_,e',_⟩:=x
  cases e'
end
section
variable{X:Cx}{Md:List (Jc×Obj)}{σ:St}{H:Hp}{s:Jb}{A:Jg}{E:Ja->Jb->Prop}{a kS:Jc}{vs:List Ja}{kz:List Int}{keys:Array Ja}{e e1:Nat}{P:PySem.Fin->Jb->Prop}
def rV{h':Jd}{tk:Nat}(f:vP X Md H a)(I:Inv X Md σ H s)(sb:Heap.SameBut a s.heap h'):Inv X Md σ H { s with heap:=h',toks:=tk }:=by
 obtain⟨f0,f1,f2,f3,f4,f5⟩:=f;exact I.turned (fun b o hb e=>(sb.2 b hb).trans e) f0 f1 f3 f4 f5
def KsS(kz:List Int)(vs out:List Ja):Prop:=∃ ps:List (Int×Ja),ps.Perm (kz.zip vs)/\out=ps.map Prod.snd/\ps.Pairwise fun p q=>p.1<q.1∨p.1=q.1/\numOf p.2<numOf q.2
def zOg{xs:Array Keyed}{n:Nat}(hk:IntsAre keys.toList kz)(hp:xs.Perm (keys.zip vs.toArray))(up:Up n xs xs.size):KsS kz vs (xs.map (·.2)).toList:=by
 have hl:xs.toList.Perm (keys.toList.zip vs):=by
  have z:=Array.perm_iff_toList_perm.mp hp;rwa [Array.toList_zip,U8] at z
 refine⟨xs.toList.map fun p=>(numOf p.1,p.2),?_,?_,?_⟩
 ·have z:=hl.map (fun p=>(numOf p.1,p.2))
  rw[<-hk.nums,List.zip_map_left];exact z
 ·rw[Array.toList_map,Q4];rfl
 ·rw[U9,List.pairwise_iff_getElem]
  intro i j hi hj hij;rw[Xi] at hi hj;have z:=up.so i j hij hj;rw[K_eq hi,K_eq hj] at z;have iv:∀ k (h:k<xs.size),Iv xs k=numOf xs[k].2:=fun k h=>by unfold Iv;rw[getElem?_pos xs k h]
  rw[iv i hi,iv j hj] at z;exact z
def zMF(hsz:keys.size=vs.length)(hv:∀ (j:Nat) (v:Ja),vs[j]?=some v->∃ t,v=.int j t)(i:Nat)(hi:i<(keys.zip vs.toArray).size):Iv (keys.zip vs.toArray) i=i:=by
 have h2:i<vs.length:=by rw[Wa,hsz,Qh,Yi] at hi;exact hi
 obtain⟨t,ht⟩:=hv i _ (Qj h2);unfold Iv;rw[getElem?_pos _ i hi];show numOf ((keys.zip vs.toArray)[i]).2=_
 rw[Array.getElem_zip];show numOf (vs.toArray[i])=_
 rw[List.getElem_toArray,ht];rfl
def zHK{st:SortSt}(I:Inv X Md σ H s)(fa:vP X Md H a)(fk:vP X Md H kS)(hka:kS≠a)(nk:s.heap.get? kS=some (seqObj "list" keys e))(na:s.heap.get? a=some (seqObj "list" #[] e1))
  (hk:IntsAre keys.toList kz) (hlen:kz.length=vs.length) (h64:vs.length<64) (hp:(arrOf st).Perm (keys.zip vs.toArray)) {n:Nat} (hs:Up n (arrOf st) (arrOf st).size) (hfl:failedOf st=none)
  (h:∀ s' out c,Inv X Md σ H s'->s'.heap.get? a=some (seqObj "list" out c)->KsS kz vs out.toList->P (.done (.ret .none)) s'):
  wpAny (model X.prog X.w) A (ksk_tail a false e1 (.ref kS) st) P E s:=by
 have hsz:keys.size=vs.length:=by
  have h1:=hk.length;rw[Xi] at h1;omega
 have hsz2:(arrOf st).size=vs.length:=by rw[hp.size_eq,Wa,hsz,Qh,Yi]
 have hout:((arrOf st).map (·.2)).size=vs.length:=by rw[Array.size_map];exact hsz2
 have s1:=Heap.SameBut.update s.heap kS (Obj.mapSeq fun _=>(#[]:Array Ja))
 have na1:(s.heap.update kS (Obj.mapSeq fun _=>(#[]:Array Ja))).get? a=some (seqObj "list" #[] e1):=(s1.2 a hka.symm).trans na
 have s2:=Heap.SameBut.update (s.heap.update kS (Obj.mapSeq fun _=>(#[]:Array Ja))) a (Obj.mapSeq fun _=>(arrOf st).map (·.2))
 obtain⟨c2,hc2⟩:∃ c2,((s.heap.update kS (Obj.mapSeq fun _=>(#[]:Array Ja))).update a (Obj.mapSeq fun _=>(arrOf st).map (·.2))).get? a=some (seqObj "list" ((arrOf st).map (·.2)) c2):=
  ⟨_,get?_update_seq na1 fun _=>(arrOf st).map (·.2)⟩
 unfold ksk_tail;try dsimp only
 refine Jq (listUpdate_at nk rfl ?_ (by rw[hsz,Jv];omega) (Vo _))
 refine Jq (wpAny_letGo ?_)
 refine Jq (seqEpoch_at na1 rfl ?_)
 refine Jq (listUpdate_at na1 rfl ?_ (Vo _) (by simp only[Xc,if_false];exact Qp (X1 hout) (by rw[Jv];omega)))
 rw[hfl];simp only[bne_self_eq_false,Xc,if_false];have I1:Inv X Md σ H { s with heap:=s.heap.update kS (Obj.mapSeq fun _=>(#[]:Array Ja)) }:=rV fk (tk:=s.toks) I s1
 have I2:Inv X Md σ H { s with heap:=(s.heap.update kS (Obj.mapSeq fun _=>(#[]:Array Ja))).update a (Obj.mapSeq fun _=>(arrOf st).map (·.2)) }:=(by have z:=rV (tk:=s.toks) fa I1 s2;exact z)
 exact Jt (h _ _ c2 I2 hc2 (zOg hk hp hs))
def zQE(I:Inv X Md σ H s)(fa:vP X Md H a)(fk:vP X Md H kS)(hka:kS≠a)(nk:s.heap.get? kS=some (seqObj "list" keys e))(na:s.heap.get? a=some (seqObj "list" #[] e1))
  (hk:IntsAre keys.toList kz) (hlen:kz.length=vs.length) (h64:vs.length<64)
  (hv:∀(j:Nat)(v:Ja),vs[j]?=some v->∃ t,v=.int j t)
  (h:∀ s' out c,Inv X Md σ H s'->s'.heap.get? a=some (seqObj "list" out c)->KsS kz vs out.toList->P (.done (.ret .none)) s'):
  wpAny (model X.prog X.w) A (ksk_end a false vs.toArray e1 (.ref kS) keys) P E s:=by
 have hsz:keys.size=vs.length:=by
  have h1:=hk.length;rw[Xi] at h1;omega
 have hzs:(keys.zip vs.toArray).size=vs.length:=by rw[Wa,hsz,Qh,Yi]
 unfold ksk_end;try dsimp only
 simp only[Xc,if_false];by_cases h2:vs.toArray.size<2
 ·rw[Jj h2,Jj h2]
  refine Jq (Jt ?_)
  rw[StateT.run_pure];refine Jq (Jt ?_)
  try dsimp only
  rw[Qh] at h2;refine zHK (st:=SortSt.mk' general' (keys.zip vs.toArray) #[] 7 none) (n:=0) I fa fk hka nk na hk hlen h64 (Array.Perm.refl _) ⟨fun i j l hj=>?_,fun i hi=>?_,fun i _ z=>by omega⟩ rfl h
  ·have hj2:j<(keys.zip vs.toArray).size:=hj
   rw[hzs] at hj2;omega
  ·have z:=zMF hsz hv i hi
   show Iv (keys.zip vs.toArray) i<_
   rw[z];exact_mod_cast hi
 ·rw[Jk h2,Jk h2]
  rw[Qh] at h2;rw[ksk_kind hk (by rw[hsz];omega)];refine Jq (Jt ?_)
  refine Jq (wpAny_mono (zOD (a₀:=keys.zip vs.toArray) (st:=SortSt.mk' oneType' (keys.zip vs.toArray) #[] 7 none)
   (Q:=fun _ st'=>(arrOf st').Perm (keys.zip vs.toArray)/\failedOf st'=none/\Up (keys.zip vs.toArray).size (arrOf st') (keys.zip vs.toArray).size)
   (ksk_intKeys hk) ⟨Array.Perm.refl _,rfl,rfl,rfl⟩ (by rw[hzs];omega) (by rw[hzs];exact h64) (zMF hsz hv) fun st' a1 a2 a3=>⟨a1,a2,a3⟩) ?_ fun _ _ e=>e)
  rintro⟨⟨⟩,st'⟩ s' ⟨rfl,hp,hf,hs⟩
  try dsimp only
  exact zHK (n:=(keys.zip vs.toArray).size) I fa fk hka nk na hk hlen h64 hp (by rw[hp.size_eq];exact hs) hf h
def zOA{f:Ja}{e0:Nat}(I:Inv X Md σ H s)(fa:vP X Md H a)(fk:vP X Md H kS)(hka:kS≠a)(nk:s.heap.get? kS=some (seqObj "list" #[] e0))(na:s.heap.get? a=some (seqObj "list" #[] e1))
  (hlen:kz.length=vs.length) (h64:vs.length<64)
  (hv:∀(j:Nat)(v:Ja),vs[j]?=some v->∃ t,v=.int j t)
  (turn:∀(i:Nat)(v:Ja)(k:Int),vs[i]?=some v->kz[i]?=some k->∀(s':Jb)(pl:List (Jc×Obj)),Inv X (Md++pl) σ H s'->
   wpAny (model X.prog X.w) A (call f [v]) (fun u s''=>(∃ t,u=.int k t)/\Inv X (Md++pl) σ H s'') (fun _ _=>False) s')
  (h:∀ s' out c,Inv X Md σ H s'->s'.heap.get? a=some (seqObj "list" out c)->KsS kz vs out.toList->P (.done (.ret .none)) s'):
  wpAny (model X.prog X.w) A (ksk_rest a f false vs.toArray e1 (.ref kS)) P E s:=by
 unfold ksk_rest;refine Jq (wpAny_rule ?_)
 first
  | rw[List.forIn_toArray]
  | (rw[<-Array.forIn_toList];simp only[U8])
  | rw[<-Array.forIn_toList]
 refine Jq (ksk_fold (fun i s'=>∃ kA e,Inv X Md σ H s'/\s'.heap.get? kS=some (seqObj "list" kA e)/\s'.heap.get? a=some (seqObj "list" #[] e1)/\IntsAre kA.toList (kz.take i)) vs 0 s
  ⟨#[],e0,I,nk,na,by simpa using IntsAre.nil⟩ ?step ?done)
 case step=>
  rintro j x s' hx ⟨kA,e,I',nk',na',hk⟩
  simp only[Q8] at hk ⊢
  have hj:j<vs.length:=(Qy.mp hx).1;obtain⟨k,hkj⟩:∃ k,kz[j]?=some k:=⟨_,Qj ⋯⟩
  have hz:kA.size<=vs.length:=by
   have h1:=hk.length;rw[Xi,V4] at h1;omega
  have pin:∀ b∈[kS,a],∃ o,s'.heap.get? b=some o/\∀ v,o.data≠.cell v:=fun b hb=>by
   rcases Qc.mp hb with rfl | hb
   ·exact⟨_,nk',fun v z=>by have z':Data.seq _ _=Data.cell v:=z;cases z'⟩
   ·rw[Qx.mp hb];exact⟨_,na',fun v z=>by have z':Data.seq _ _=Data.cell v:=z;cases z'⟩
  have Ip:Inv X (Md++xQ [kS,a] s'.heap) σ H s':=I'.pinned (fun b hb=>by
   rcases Qc.mp hb with rfl | hb
   ·exact fk
   ·rw[Qx.mp hb];exact fa) pin
  refine Jq (wpAny_attempt (wpAny_mono (turn j x k hx hkj s' _ Ip) (fun v s'' he=>?_) fun _ _ hF=>hF.elim))
  obtain⟨⟨t2,rfl⟩,I2p⟩:=he;try dsimp only
  have nk2:s''.heap.get? kS=some (seqObj "list" kA e):=(I2p.pin _ (Qw _ (Qw _ (gA (b:=kS) (by simp) nk')))).1
  have na2:s''.heap.get? a=some (seqObj "list" #[] e1):=(I2p.pin _ (Qw _ (Qw _ (gA (b:=a) (by simp) na')))).1
  have I2:Inv X Md σ H s'':=I2p.unpinned;have s1:=Heap.SameBut.update s''.heap kS (Obj.mapSeq (·.push (.int k t2)));obtain⟨c2,hc2⟩:∃ c2,(s''.heap.update kS (Obj.mapSeq (·.push (.int k t2)))).get? kS=some (seqObj "list" (kA.push (.int k t2)) c2):=⟨_,get?_update_seq nk2 (·.push (.int k t2))⟩;have ek:kz.take (j+1)=kz.take j++[k]:=by rw[List.take_add_one,hkj];simp
  have ea:(kA.push (Value.int k t2)).toList=kA.toList++[Value.int k t2]:=by simp
  refine Jq (listUpdate_at nk2 rfl ?_ (by rw[Jv];omega) (Qp (X1 (Array.size_push ..)) (by rw[Jv];omega)))
  exact Jt ⟨rfl,kA.push (.int k t2),c2,rV fk (tk:=s''.toks) I2 s1,hc2,(s1.2 a hka.symm).trans na2,by rw[ea,ek];exact ksk_snoc hk⟩
 case done=>
  rintro s' ⟨kA,e,I',nk',na',hk⟩
  have hk':IntsAre kA.toList kz:=by
   have e3:kz.take (0+vs.length)=kz:=Y7 ⋯
   rw[e3] at hk;exact hk
  try dsimp only
  refine Jq (listItems_at nk' rfl ?_)
  exact zQE I' fa fk hka nk' na' hk' hlen h64 hv h
def qS(v:Ja):Nat:=(numOf v).toNat
def zNS{out:List Ja}(hlen:kz.length=vs.length)(hv:∀ (j:Nat) (v:Ja),vs[j]?=some v->∃ t,v=.int j t)(h:KsS kz vs out):jZ kz (out.map qS)/\eV ((out.map qS).map fun i:Nat=>V.int (i:Int)) out:=by
 obtain⟨ps,hp,ho,hs⟩:=h
 have at':∀ p,p∈kz.zip vs->∃(j:Nat)(t:Tok),p.2=.int j t/\kz[j]?=some p.1:=fun p hm=>by
  obtain⟨j,hj,e⟩:=W5.mp hm;rw[Wb] at hj;rw[List.getElem_zip] at e;obtain⟨t,ht⟩:=hv j (vs[j]'⋯) (Qj _)
  refine⟨j,t,by rw[<-e];exact ht,by rw[<-e];exact Qj _⟩
 have n1:∀(j:Nat)(t:Tok),qS (.int j t)=j:=fun j t=>by unfold qS;show(Int.toNat (j:Int))=j;rfl
 have hvs:vs.map qS=List.range kz.length:=by
  refine Yw fun j=>?_
  rw[Qq];by_cases hj:j<vs.length
  ·obtain⟨t,ht⟩:=hv j _ (Qj hj)
   rw[Qj hj,ht,V8 ⋯];show some (qS _)=_
   rw[n1]
  ·rw[Qz ⋯,Qz (by rw[Vd];omega)];rfl
 subst ho;refine⟨⟨?_,?_,?_⟩,?_⟩
 ·have h1:((ps.map Prod.snd).map qS).Perm (((kz.zip vs).map Prod.snd).map qS):=(hp.map _).map _
  rw[List.map_snd_zip ⋯,hvs] at h1;exact h1
 ·rw[Q4,U9]
  refine Wc (fun {p q} hm hq hr=>?_) hs
  have hr':p.1<=q.1:=by rcases hr with z | z<;>omega
  obtain⟨i,t,e1,e2⟩:=at' p (hp.mem_iff.mp hm);obtain⟨j,u,e3,e4⟩:=at' q (hp.mem_iff.mp hq);show kz.getD (qS p.2) 0<=kz.getD (qS q.2) 0
  rw[e1,e3,n1,n1,Qs,Qs,e2,e4];exact hr'
 ·rw[Q4,U9]
  refine Wc (fun {p q} hm hq hr=>?_) hs
  obtain⟨i,t,e1,e2⟩:=at' p (hp.mem_iff.mp hm);obtain⟨j,u,e3,e4⟩:=at' q (hp.mem_iff.mp hq);show kz.getD (qS p.2) 0=kz.getD (qS q.2) 0->qS p.2<qS q.2
  rw[e1,e3] at hr ⊢
  rw[n1,n1,Qs,Qs,e2,e4];intro z;have z':p.1=q.1:=z;rcases hr with y | y
  ·omega
  ·have:((i:Nat):Int)<(j:Nat):=y.2
   omega
 ·have go:∀ l:List Ja,(∀ v∈l,∃(j:Nat)(t:Tok),v=.int j t)->eV ((l.map qS).map fun i:Nat=>V.int (i:Int)) l:=by
   intro l
   induction l with
   | nil=>intro _;exact .nil
   | cons v r ih=>
    intro hl;obtain⟨j,t,rfl⟩:=hl v (.head _);exact .cons ⟨t,by rw[n1]⟩ (ih fun u hu=>hl u (.tail _ hu))
  refine go _ fun v hv'=>?_
  obtain⟨p,hm,rfl⟩:=Vh.mp hv';obtain⟨j,t,e1,_⟩:=at' p (hp.mem_iff.mp hm);exact⟨j,t,e1⟩
def zJm{r q:Jc}{n:Nat}{t u v:Tok}{Q:Ja->Jb->Prop}(hc:X.calm=true)(I:Inv X Md σ H s)(hr:IsRange s.heap r 0 n 1 t u v)(h64:n<64)(hkz:kz.length=n)
  (turn:∀(j:Nat)(tk:Tok)(k:Int),kz[j]?=some k->∀(s':Jb)(pl:List (Jc×Obj)),Inv X (Md++pl) σ H s'->
   wpAny (model X.prog X.w) X.A.in1.in1 (call (.ref q) [.int j tk]) (fun u s''=>(∃ t,u=.int k t)/\Inv X (Md++pl) σ H s'') (fun _ _=>False) s')
  (h:∀ D s' out c π,Inv X Md σ H s'->vP X Md H D->s.heap.objs.size<=D->s'.heap.get? D=some (seqObj "list" out c)->jZ kz π->eV (π.map fun i:Nat=>V.int (i:Int)) out.toList->Q (.ref D) s'):
  wpAny (model X.prog X.w) X.A (call (.builtin "sorted") [.ref r] [(Str.ofString "key", .ref q)]) Q E s:=by
 refine call_function_entry_kw kind_sorted plain_sorted entry_sorted (ksk_s1 _ _) ?_
 unfold Builtin.«sorted»
 refine Jq (m:=checkCount "sorted" 1 1 _) (Jt ?_)
 refine Jq (zAZ (n:=n) (A:=X.A.in1) (I.ok.hd hc) hr (small_one ⋯ ⋯ ⋯ ⋯) (by rw[rangeSize_one];split<;>omega) ⋯ fun h1 tk acc hk hsz hacc=>?_)
 have hl:acc.toList.length=n:=by rw[Xi];exact hacc.1
 refine Jq (wpAny_newList ?_ (by rw[hl,Jv];omega))
 have I1:Inv X Md σ H { s with heap:=h1,toks:=tk }:=I.kept hk;have fa:vP X Md H h1.objs.size:=I1.fpOk (Qb _) (I1.hok.fresh (Qb _));have I2:Inv X Md σ H { s with heap:=h1.push (seqObj "list" acc.toList.toArray 0),toks:=tk }:=I1.kept (t':=tk) fun b o e=>Heap.get?_push_of_some _ e
 have hoL:(h1.push (seqObj "list" acc.toList.toArray 0)).get? h1.objs.size=some (seqObj "list" acc.toList.toArray 0):=Heap.get?_push_size _ rfl;show wpAny _ _ _ _ _ { s with heap:=h1.push (seqObj "list" acc.toList.toArray 0),toks:=tk }
 refine Jq (wpAny_holding (wpAny_call_entry_kw slot_list_sort ⟨_,hoL,rfl⟩ entry_list_sort ?body (ksk_l1 _ _)))
 case body=>
  show wpAny (model X.prog X.w) X.A.in1.in1 (Builtin.«list.sort» ⟨[.ref h1.objs.size],[(Str.ofString "key", .ref q)]⟩) _ _ _
  rw[ksk_t1];have s3:=Heap.SameBut.update (h1.push (seqObj "list" acc.toList.toArray 0)) h1.objs.size (Obj.mapSeq fun _=>(#[]:Array Ja))
  obtain⟨e1,ho1⟩:∃ e1,((h1.push (seqObj "list" acc.toList.toArray 0)).update h1.objs.size (Obj.mapSeq fun _=>(#[]:Array Ja))).get? h1.objs.size=some (seqObj "list" #[] e1):=⟨_,get?_update_seq hoL fun _=>#[]⟩
  have I3:Inv X Md σ H { s with heap:=(h1.push (seqObj "list" acc.toList.toArray 0)).update h1.objs.size (Obj.mapSeq fun _=>(#[]:Array Ja)),toks:=tk }:=(by have z:=rV (tk:=tk) fa I2 s3;exact z)
  generalize hg3:(h1.push (seqObj "list" acc.toList.toArray 0)).update h1.objs.size (Obj.mapSeq fun _=>(#[]:Array Ja))=h3 at s3 ho1 I3
  unfold ksk_tree;refine Jq (listItems_at hoL rfl ?_)
  refine Jq (listUpdate_at hoL rfl ?_ (by rw[Qh,Jv];omega) (Vo _))
  show wpAny _ _ _ _ _ { s with heap:=(h1.push (seqObj "list" acc.toList.toArray 0)).update h1.objs.size (Obj.mapSeq fun _=>(#[]:Array Ja)),toks:=tk }
  rw[hg3];refine Jq (seqEpoch_at ho1 rfl ?_)
  refine Jq (wpAny_newTuple ?_ (by show acc.toList.toArray.toList.length<=_;rw[Jv,U8];omega))
  refine Jq (wpAny_newList ?_ (Vo _))
  refine wpAny_holding ?_
  have I4:Inv X Md σ H { s with heap:=h3.push (seqObj "tuple" acc.toList.toArray 0),toks:=tk }:=I3.kept (t':=tk) fun b o e=>Heap.get?_push_of_some _ e
  have fk:vP X Md H (h3.push (seqObj "tuple" acc.toList.toArray 0)).objs.size:=I4.fpOk (Qb _) (I4.hok.fresh (Qb _));have I5:Inv X Md σ H { s with heap:=(h3.push (seqObj "tuple" acc.toList.toArray 0)).push (seqObj "list" #[] 0),toks:=tk }:=I4.kept (t':=tk) fun b o e=>Heap.get?_push_of_some _ e
  have ho4:(h3.push (seqObj "tuple" acc.toList.toArray 0)).get? h1.objs.size=some (seqObj "list" #[] e1):=Heap.get?_push_of_some _ ho1
  have hvv:∀(j:Nat)(v:Ja),acc.toList[j]?=some v->∃ t,v=.int j t:=fun j v' hj=>by
   obtain⟨tk',rfl⟩:=hacc.2 j v' (by rw[<-W6];exact hj)
   exact⟨tk',by congr 1;omega⟩
  refine zOA (vs:=acc.toList) (kz:=kz) (e0:=0) I5 fa fk (X9 (Heap.lt_size ho4)) (Heap.get?_push_size _ rfl) (Heap.get?_push_of_some _ ho4) (by rw[hkz,hl]) (by rw[hl];exact h64) hvv (fun i v' k hi hk' s' pl Ip=>?_) fun s' out c I' ho' ko=>?_
  ·obtain⟨tk',rfl⟩:=hacc.2 i v' (by rw[<-W6];exact hi)
   have e3:(0:Int)+(i:Int)*1=(i:Int):=by omega
   rw[e3];exact turn i tk' k hk' s' pl Ip
  ·obtain⟨hπ,hV⟩:=zNS (by rw[hkz,hl]) hvv ko
   exact⟨_,rfl,Jt ⟨_,rfl,h _ s' out c _ I' fa hsz ho' hπ hV⟩⟩
end
end L3
namespace L3
open PySem PySem.Spec PyProof.Rows L2 PySem.W
unseal PEd PEf PTd PWd PAd PSd eQ POd PGd iM PId PSx lF PTs PCd PCf
def zTN:CXT:=fun _ _ _ _ _ _=>False
def cxL(P:Je)(w:Jf)(K:PySem.W.Frag)(mg:Str->Option Ja)(base:Jd)(N:List Str)(qual:Str)(scope:Scope)(f:Jc)(cd:Ja)(cl:List (Str×Jc))(A:Jg)(outer:List Env)(s:Jb)(H:Hp):Cx where
 prog:=P
 w:=w
 K:=K
 mg:=mg
 base:=base
 A:=A.deeper (envX qual scope s.heap.objs.size f cd cl)
 N:=N
 s₀:=s
 H₀:=H
 env:=envX qual scope s.heap.objs.size f cd cl
 outer:=outer
 stack:=envX qual scope s.heap.objs.size f cd cl::outer
 ex:=[]
 fn:=fun _=>false
 calm:=true
 pn:=[]
 xe:=fun _ _=>False
def zMX{P:Je}{w:Jf}{K:Fg_}{mg:Str->Option Ja}{base:Jd}{N:List Str}{qual name:Str}{scope:Scope}{f c':Jc}{cl:List (Str×Jc)}{A:Jg}{outer:List Env}{s:Jb}{H:Hp}{params:Arguments}{body:Expr}{pm ctv u:Ja}{p:Str}{σ:St}{Q:VK}{E:XK}{t:TE}
  (hd:A.handled=none) (hdp:A.depth<recursionLimit) (e0:Env0 P w K mg base A outer s H) (ho:s.heap.get? f=some (kla_obj name qual params body scope cl pm c' ctv)) (hcd:s.heap.CodeRec (.ref c') qual)
  (hbind:bindArgs (kla_fn name qual params body scope cl pm (.ref c') ctv) ⟨[u],[]⟩=pure [(p,u)]) (hloc:scope.names.lookup p=some .local)
  (hco:scope.isCoroutine=false) (hgen:scope.isGenerator=false) (hk:scope.kind=.function) (hcell:∀ x∈scope.names,x.2≠.cell)
  (hfree:∀ x,scope.names.lookup x=some .free->∃ c,cl.lookup x=some c) (hinj:∀ x y c,cl.lookup x=some c->cl.lookup y=some c->x=y)
  (hcl:∀ x c,cl.lookup x=some c->(∃ v,s.heap.IsCell c v)/\H c=none) (hlen:σ.length=N.length)
  (hσ:∀(i:Nat)(x:Str)(v:V),N[i]?=some x->σ[i]?=some (some v)->(x=p/\dZ v u)∨(scope.names.lookup x=some .free/\∃ c u',cl.lookup x=some c/\s.heap.IsCell c (some u')/\dZ v u'))
  (hb:PE (cxL P w K mg base N qual scope f (.ref c') cl A outer s H) body t) (hq:t σ H Q):
  codeAny (model P w) A (.call (.ref f) ⟨[u],[]⟩) (CR zTN outer P w H s Q E) s:=by
 have lim:s.heap.NoLimit:=e0.mod.nolimit.keeps fun b o e=>(e0.bs b o e).1
 refine kla_callFunE hdp ho rfl hco hgen rfl hcd ?_
 rw[hbind];refine Jt (wpAny_newFunctionEnv hcell (fun y hy=>by rw[Qx.mp hy];exact hloc) (fun h₁ hns hsb=>⟨lim.fresh _ hsb,?_⟩) hk)
 have hk₁:∀ b o,s.heap.get? b=some o->h₁.get? b=some o:=fun b o e=>hsb.extBut b o (Qo (Heap.lt_size e)) (Heap.get?_push_of_some _ e)
 have noA:∀ b:Jc,b∉(cxL P w K mg base N qual scope f (.ref c') cl A outer s H).ex:=fun b z=>absurd (show b∈([]:List Jc) from z) (by simp)
 have I:Inv (cxL P w K mg base N qual scope f (.ref c') cl A outer s H) [] σ H { s with heap:=h₁,toks:=s.toks+1 }:=by
  refine⟨⟨e0.mod,hk,rfl,rfl,Qb _,hinj,fun y hy=>?_,fun y c z _=>?_,fun _=>hd,Around.frames_deeper e0.frames,.inr ⟨rfl,rfl⟩,fun b z=>absurd z (noA b),e0.bs,e0.bsz,fun b _ _=>noA b,fun b z=>absurd z (noA b),e0.funs,e0.frf⟩,
   rfl,e0.bare,Un.kept hk₁,⟨_,hns,fun i y v h1 h2 h3=>?_⟩,fun y c h=>?_,e0.hok.fresh (Qb _),fun y c h=>(hcl y c h).2,fun p hp=>absurd (show p∈([]:List (Jc×Obj)) from hp) (by simp),e0.hok.kept hk₁,hlen⟩
  ·have hy:scope.names.lookup y=some .cell∨scope.names.lookup y=some .free:=hy
   rcases hy with hy | hy
   ·exact absurd rfl (hcell _ (Xj hy))
   ·exact hfree y hy
  ·cases z
  ·rcases hσ i y v h1 h2 with⟨rfl,r⟩ | ⟨hf,c,u',h4,⟨o,h5,h6⟩,r⟩
   ·exact⟨u,r,.inl ⟨hloc,by simp[List.lookup]⟩⟩
   ·exact⟨u',r,.inr ⟨.inr hf,c,h4,o,hk₁ _ _ h5,h6⟩⟩
  ·obtain⟨⟨v,o,h5,h6⟩,_⟩:=hcl y c h
   exact⟨v,o,hk₁ _ _ h5,h6⟩
 refine kla_codeExpr (wpAny_mono (hb [] _ σ H Q I hq) (fun v s' z=>?_) fun e s' z=>False.elim z)
 obtain⟨x,H',J,r,q⟩:=z;exact⟨x,H',J.os,J.bare,J.base,J.hok,r,q⟩
def zLP{l:List Ja}{a b:Int}{c:Ja}(h:TriplesOk l):TriplesOk (l++[rawInt a,rawInt b,c]):=TriplesOk_snoc a b c l h
def zHo{pos q:Pos}{c x:Ja}(l:List Ja)(h:TriplesOk l)(e:codeAmong q (l++[rawInt pos.line,rawInt pos.col,c])=some x):codeAmong q l=some x∨x=c:=by
 fun_induction TriplesOk l with
 | case1=>
  simp only[Y4,codeAmong,rawInt] at e;split at e
  ·exact .inr (Ve e).symm
  ·cases e
 | case2 a t b u y rest ih=>
  simp only[Y9,codeAmong] at e ⊢
  split at e
  ·rename_i hc;rw[Jj hc];exact .inl e
  ·rename_i hc;rw[Jk hc];exact ih h e
 | case3 l h1 h2=>exact h.elim
def BMn(base:Jd)(mg:Str->Option Ja):Prop:=∃ bm ob,mg "__builtins__" = some (.ref bm)/\bm≠builtinsNs/\base.get? bm=some ob/\ob.cls=.type "module" /\ ob.dict=some builtinsNs/\ob.data=.plain
section
variable{X:Cx}{Md:List (Jc×Obj)}{r:St}{H:Hp}{s:Jb}{P c c':Jc}
def zMa{ps more:Array Ja}{h':Jd}{tk:Nat}{oc:Obj}(I:Inv X Md r H s)(hP:H P=some (.tbl ps))(hx:Heap.ExtBut P s.heap h')(hge:s.heap.objs.size<=c')(hc:h'.get? c'=some oc)(hP':h'.get? P=some { cls:=.none,data:=.fields (ps++more) }):
  Inv X Md r (upd (upd H P (.tbl (ps++more))) c' (.frz oc (.own 0))) { s with heap:=h',toks:=tk }:=by
 have nP:∀ {b:Jc},H b=none->b≠P:=fun e z=>by rw[z,hP] at e;cases e
 have cF:H c'=none:=I.hok.fresh hge;have nc:∀ {b:Jc} {o:Obj},s.heap.get? b=some o->b≠c':=fun e=>Qo (Qm (Heap.lt_size e) hge)
 have hPc:P≠c':=bJ hP cF;have up:∀ {b:Jc},b≠P->b≠c'->upd (upd H P (.tbl (ps++more))) c' (.frz oc (.own 0)) b=H b:=fun h1 h2=>by rw[bE h2,bE h1]
 have upP:upd (upd H P (.tbl (ps++more))) c' (.frz oc (.own 0)) P=some (.tbl (ps++more)):=by rw[bE hPc,bA]
 have kd:∀ {b:Jc} {o:HO},H b=some o->(∀ qs,o≠.tbl qs)->upd (upd H P (.tbl (ps++more))) c' (.frz oc (.own 0)) b=some o:=fun {b o} e hn=>by
  rw[up (fun z=>by rw[z,hP] at e;exact hn ps (Ve e).symm) (bJ e cF)];exact e
 refine I.un ⟨fun b o e n _ _=>hx b o (nP n) e,fun b o e n _ _=>⟨o.slots,hx b o (nP n) e⟩,fun b o e n _=>by rw[up (nP n) (nc e)];exact n,fun b o e _=>?_,fun b xs e=>kd e fun qs z=>(by cases z),fun b o u e=>kd e fun qs z=>(by cases z),fun b qs e=>?_⟩ fun b u e=>?_
 ·by_cases hb:b=P
  ·subst hb;exact⟨_,hP'⟩
  ·exact⟨o,hx b o hb e⟩
 ·by_cases hb:b=P
  ·subst hb
   rw[hP] at e;cases e
   exact⟨more,upP⟩
  ·exact⟨#[],by rw[up hb (bJ e cF),e];simp⟩
 ·by_cases h2:b=c'
  ·subst h2
   rw[bA] at e;cases e
   exact⟨hc,oc,hc⟩
  ·by_cases h1:b=P
   ·subst h1
    rw[upP] at e;cases e
    exact hP'
   ·rw[up h1 h2] at e
    refine(I.hok b u e).stay (fun d v hd q=>hx d v (fun z=>?_) q) (fun d q=>kd q fun qs z=>(by cases z)) fun d xs q=>kd q fun qs z=>(by cases z)
    rcases hd with rfl | hd
    ·exact h1 z
    ·rw[z,hP] at hd;cases hd
def zHV{ps:Array Ja}{oc:Obj}{pos:Pos}{vs:Array Ja}{t:Tok}(hP:H P=some (.tbl ps))(cF:H c'=none)(hd:oc.data=.fields vs)(hv:vs[1]?=some (.str vE t)):
  Keep H (upd (upd H P (.tbl (ps++#[rawInt pos.line,rawInt pos.col,.ref c']))) c' (.frz oc (.own 0))):=by
 have hPc:P≠c':=bJ hP cF;have upP:upd (upd H P (.tbl (ps++#[rawInt pos.line,rawInt pos.col,.ref c']))) c' (.frz oc (.own 0)) P=some (.tbl (ps++#[rawInt pos.line,rawInt pos.col,.ref c'])):=by rw[bE hPc,bA]
 have kd:∀ {b:Jc} {o:HO},H b=some o->b≠P->upd (upd H P (.tbl (ps++#[rawInt pos.line,rawInt pos.col,.ref c']))) c' (.frz oc (.own 0)) b=some o:=fun {b o} e hn=>by
  rw[bE (bJ e cF),bE hn];exact e
 refine⟨fun b o e=>?_,fun Q T=>?_⟩
 ·by_cases hb:b=P
  ·subst hb
   rw[hP] at e;cases e
   exact .inr ⟨_,_,rfl,upP⟩
  ·exact .inl (kd e hb)
 ·obtain⟨qs,e,ht,k⟩:=T
  have old:∀(q:Pos)(cv:Ja),codeAmong q qs.toList=some cv->∃ c oc' vs t u,cv=.ref c/\upd (upd H P (.tbl (ps++#[rawInt pos.line,rawInt pos.col,.ref c']))) c' (.frz oc (.own 0)) c=some (.frz oc' u)/\oc'.data=.fields vs/\vs[1]?=some (.str vE t):=fun q cv z=>by
   obtain⟨c,oc',vs',t',u,r1,r2,r3⟩:=k q cv z;exact⟨c,oc',vs',t',u,r1,kd r2 (fun w=>by rw[w,hP] at r2;cases r2),r3⟩
  by_cases hb:Q=P
  ·subst hb
   rw[hP] at e;cases e
   have el:(ps++#[rawInt pos.line,rawInt pos.col,.ref c']).toList=ps.toList++[rawInt pos.line,rawInt pos.col,.ref c']:=by simp
   refine⟨_,upP,by rw[el];exact zLP ht,fun q cv z=>?_⟩
   rw[el] at z;rcases zHo _ ht z with z | z
   ·exact old q cv z
   ·exact⟨c',oc,vs,t,_,z,bA,hd,hv⟩
  ·exact⟨qs,kd e hb,ht,old⟩
def zLj{params:Arguments}{body:Expr}{scope:Scope}{pos:Pos}{clos:List (Str×Jc)}{M:Model}{A:Jg}{E:Ja->Jb->Prop}{Q:Ja->Jb->Prop}(I:Inv X Md r H s)(tb:zCn P H)(hC:∀ h,X.K.In h->CodeHd h c P)(hcode:X.env.code=.ref c)(hq:X.env.qual ++ "<lambda>" = vE)(hB:BMn X.base X.mg)
  (hcl:closureFor scope X.env=pure clos) (hdef:defaultsOf params X.env=([],[]))
  (h:∀ f c' ctv oc vs t u H' s',Inv X Md r H' s'->Keep H H'->(∀ b o,H b=some o->b≠P->H' b=some o)->vP X Md H' f->s.heap.objs.size<=f->s'.heap.get? f=some (kla_obj "<lambda>" vE params body scope clos ((X.mg "__name__").getD .none) c' ctv)->
   H' c'=some (.frz oc u)->oc.data=.fields vs->vs[1]?=some (.str vE t)->Q (.ref f) s'):
  wpAny M A (eval (.Lambda params body scope pos) X.env) Q E s:=by
 obtain⟨ps,hP,ht,hk⟩:=id tb;have hPo:s.heap.get? P=some (tabObj ps):=I.hok P _ hP;have hg:s.heap.Ns mainGlobals X.mg:=I.mod.glob.keeps I.bk
 have hgP:mainGlobals≠P:=fun z=>by
  obtain⟨o,es,ep,e,_⟩:=I.mod.glob;have:=(I.bs _ _ e).2
  rw[z,hP] at this;cases this
 have hb:s.heap.BuiltinsAt X.mg P:=by
  obtain⟨bm,ob,b1,b2,b3,b4,b5,b6⟩:=hB;refine⟨bm,ob,b1,b2,fun z=>?_,fun z=>?_,(I.bs _ _ b3).1,b4,b5,b6⟩
  ·obtain⟨o,es,ep,e,d,_⟩:=I.mod.glob
   rw[z,e] at b3;cases b3;rw[d] at b6;cases b6
  ·have:=(I.bs _ _ b3).2
   rw[z,hP] at this;cases this
 refine kla_eval hdef ?_
 rw[hq]
 cases hf:codeAmong pos ps.toList with
 | some cv=>
  obtain⟨c',oc,vs,t,u,rfl,r1,r2,r3⟩:=hk pos cv hf;refine kla_makeFunctionHit hcl I.ok.glob hg hcode (hC _ I.kIn) hPo ht hf hb fun ctv h' tk hkk hsz=>?_
  have I1:Inv X Md r H { s with heap:=h',toks:=tk }:=I.kept hkk;have I2:Inv X Md r H { s with heap:=h'.push (kla_obj "<lambda>" vE params body scope clos ((X.mg "__name__").getD .none) c' ctv),toks:=tk }:=I1.kept (t':=tk) fun b o e=>Heap.get?_push_of_some _ e
  exact h _ c' ctv oc vs t u H _ I2 (Keep.refl _) (fun b o e _=>e) (I1.fpOk (Qb _) (I1.hok.fresh (Qb _))) hsz (Heap.get?_push_size _ rfl) r1 r2 r3
 | none=>
  refine kla_makeFunction hcl I.ok.glob hg hcode (hC _ I.kIn) hPo ht hf hgP hb fun c' ctv h' tk hx hge hlt hrec htb=>?_
  obtain⟨c₂,oc,vs,t,e2,hoc,hd,hv⟩:=hrec;cases e2;have I1:=zMa (tk:=tk) I hP hx hge hoc htb;have I2:=I1.kept (t':=tk) (h':=h'.push (kla_obj "<lambda>" vE params body scope clos ((X.mg "__name__").getD .none) c' ctv)) fun b o e=>Heap.get?_push_of_some _ e
  have cF:H c'=none:=I.hok.fresh hge;exact h _ c' ctv oc vs t _ _ _ I2 (zHV hP cF hd hv) (fun b o e hb=>by rw[bE (bJ e cF),bE hb];exact e) (I1.fpOk (Qb _) (I1.hok.fresh (Qb _))) (Xw (V7 hge hlt)) (Heap.get?_push_size _ rfl) bA hd hv
end
def zCL{K:Fg_}{H:Hp}:∀ r:List Nat,IsDs K H (r.map fun i:Nat=>V.int (i:Int)) (oK r)
 | []=>.nil
 | n::ns=>.cons (.int n) (zCL ns)
def zFo(p:Pos):Arguments:={ posonlyargs:=[],args:=[{ arg := "spot", annotation:=none,pos:=p }],vararg:=none,kwonlyargs:=[],kw_defaults:=[],kwarg:=none,defaults:=[] }
def mJ:Scope:={ kind:=.function,names:=[(PySem.Str.ofString "spot", .local),(PySem.Str.ofString "bottom", .free),(PySem.Str.ofString "some", .free)],isGenerator:=false,isCoroutine:=false,more:=[] }
section
variable{X:Cx}{p1 p2 p3 p4 p5 p6 p7 p8 p9 pa pb pc pd pe pf pg ph pi pj:Pos}
def zKE{b k:Int}{a:Jc}{xs:List V}{rows:List D}{d:D}{j:Nat}{Hi H:Hp}{Q:VK}{σ:St}(hN:X.N=(["spot","some","bottom"]:List Str))(hsc:X.env.scope=mJ){pz:Pos}
  (hσ:σ=[some (.int j),some (.ref a),some (.int b)]) (hq:SqL X.K Hi a xs∨SqT X.K Hi a xs) (hs:IsDs X.K Hi xs rows) (sm:Same Hi H) (hd:rows[j]?=some d) (hk:zKq b d=.ok k) (q:Q (.int k) H):
  ∃ t,PE X (.BinOp (.Subscript (.Subscript (.Name "some" p1) (.Name "spot" p2) p3) (.Constant (.int 0) 0 p4) p5) .Mult
   (.BinOp (.Name "bottom" p6) .FloorDiv (.Subscript (.Subscript (.Name "some" p7) (.Name "spot" p8) p9) (.Constant (.int 1) 0 pa) pb) pc) pz) t/\t σ H Q:=by
 have v0:PE X (.Name "spot" p2) (zHc 0):=xP (by rw[hN];rfl) (by rw[hsc];exact .inl (by decide +kernel))
 have v0':PE X (.Name "spot" p8) (zHc 0):=xP (by rw[hN];rfl) (by rw[hsc];exact .inl (by decide +kernel))
 have v1:PE X (.Name "some" p1) (zHc 1):=xP (by rw[hN];rfl) (by rw[hsc];exact .inr (.inr (by decide +kernel)))
 have v1':PE X (.Name "some" p7) (zHc 1):=xP (by rw[hN];rfl) (by rw[hsc];exact .inr (.inr (by decide +kernel)))
 have v2:PE X (.Name "bottom" p6) (zHc 2):=xP (by rw[hN];rfl) (by rw[hsc];exact .inr (.inr (by decide +kernel)))
 refine⟨_,zIT bT (zGX eS (zGX eS v1 v0 (fun _ _=>rfl)) zIC (fun _ _=>rfl)) (zIT bN v2 (zGX eS (zGX eS v1' v0' (fun _ _=>rfl)) zIC (fun _ _=>rfl))),?_⟩
 obtain⟨t,c,rfl,h1,h2,rfl⟩:=zNf hk;obtain⟨v,hv,r⟩:=hs.at hd;obtain⟨ra,ys,rfl,h3,h4⟩:=r.tupI;obtain⟨u1,u2,rfl,r1,r2⟩:=h4.two;have e1:=r1.intI;have e2:=r2.intI;subst e1 e2;have S3:=cK sm h3;subst hσ
 have row:∀ Q':VK,Q' (.ref ra) H->(zRE X.K (.ref a) (.int j) H Q'∨zRM X.K (.ref a) (.int j) H Q'):=fun Q' q'=>by
  rcases hq with hq | hq
  ·exact .inl ⟨a,xs,j,.ref ra,rfl,rfl,dF sm hq,zFg hv,q'⟩
  ·exact .inr ⟨a,xs,j,.ref ra,rfl,rfl,cK sm hq,zFg hv,q'⟩
 refine⟨.ref a,rfl,.int j,rfl,row _ (.inr ⟨ra,_,0,.int t,rfl,rfl,S3,rfl,?_⟩)⟩
 refine⟨.int b,rfl,.ref a,rfl,.int j,rfl,row _ (.inr ⟨ra,_,1,.int c,rfl,rfl,S3,rfl,?_⟩)⟩
 exact⟨b,c,rfl,rfl,h1,t,b.fdiv c,rfl,rfl,h2,q⟩
def zQU{a:Expr}{ta:TA}{p pos:Pos}(hg:Gl X "range")(hm:X.mg "range" = none)(ha:PA X [a] ta)(hs:starEach [a] X.env=[(false,eval a X.env)]:=by rfl):
  PE X (.Call (.Name "range" p) [a] [] pos) (fun σ H Q=>ta σ H fun vs H1=>∃ n:Nat,vs=[.int n]/\∀ r,H1 r=none->Q (.ref r) (upd H1 r (.rng 0 n))):=by
 intro Md s σ H Q I h;refine Jx (pY I hg hm Ju (Yc (thn (ha pos Md s σ H _ I h) fun us s1 ⟨vs,H1,I1,r1,q1⟩=>?_) hs rfl))
 obtain⟨n,e,q⟩:=q1;subst e;obtain⟨u,rfl,t,rfl⟩:=zEG r1;refine call_range_1 ⟨.ref s1.heap.objs.size,_,I1.laid (fun b o e=>Heap.get?_push_of_some _ e) (Qb _) ?_,rfl,q _ I1.fresh⟩
 exact⟨_,_,_,Heap.get?_push_size _ rfl⟩
structure RankCx (X:Cx) (P c:Jc):Prop where
 calm:X.calm=true
 dp:X.A.depth<recursionLimit
 n0:X.N[0]?=some ("some" : Str)
 n1:X.N[1]?=some ("bottom" : Str)
 k0:X.env.kindOf "some" = some .cell
 k1:X.env.kindOf "bottom" = some .cell
 code:X.env.code=.ref c
 hd:∀ h,X.K.In h->CodeHd h c P
 qual:X.env.qual ++ "<lambda>" = vE
 bm:BMn X.base X.mg
 clo:∃ cs cb,closureFor mJ X.env=pure [(("some" : Str),cs),(("bottom" : Str),cb)]/\X.env.cells.lookup ("some" : Str)=some cs/\X.env.cells.lookup ("bottom" : Str)=some cb
 gS:Gl X "sorted"
 mS:X.mg "sorted" = none
 gR:Gl X "range"
 mR:X.mg "range" = none
 gL:Gl X "len"
 mL:X.mg "len" = none
def zRu(X:Cx)(P:Jc):TE:=fun σ H Q=>∃ Hi a xs rows b kz,σ[0]?=some (some (.ref a))/\σ[1]?=some (some (.int b))/\(SqL X.K Hi a xs∨SqT X.K Hi a xs)/\IsDs X.K Hi xs rows/\Same Hi H/\qT b rows=.ok kz/\kz.length<64/\zCn P H/\Hi P=none/\
 ∀ π r Hi' H',jZ kz π->Ext Hi H Hi' H'->zKL X.K H Hi' H' r (oK π)->Q (.ref r) H'
def zGr{Md:List (Jc×Obj)}{σ:St}{H:Hp}{s:Jb}{i:Nat}{x:Str}{v:V}{c:Jc}(I:Inv X Md σ H s)(hi:X.N[i]?=some x)(hv:σ[i]?=some (some v))(hk:X.env.kindOf x=some .cell)(hc:X.env.cells.lookup x=some c):∃ u,dZ v u/\s.heap.IsCell c (some u):=by
 obtain⟨m,hn,hl⟩:=I.loc;obtain⟨u,r,l⟩:=hl i x v hi hv (.inr (.inl hk));refine⟨u,r,?_⟩
 rcases l with⟨z,_⟩ | ⟨_,c',z,q⟩
 ·rw[hk] at z;cases z
 ·rw[hc] at z;cases z;exact q
def zNV{P c:Jc}(R:RankCx X P c){pk pl pm pn:Pos}(hs1:starEach [.Name "some" p3] X.env=(false,eval (.Name "some" p3) X.env)::starEach [] X.env:=by rfl)
  (hs2:starEach [.Call (.Name "len" p2) [.Name "some" p3] [] p4] X.env=[(false,eval (.Call (.Name "len" p2) [.Name "some" p3] [] p4) X.env)]:=by rfl)
  (hs3:starEach [.Call (.Name "range" p1) [.Call (.Name "len" p2) [.Name "some" p3] [] p4] [] p5] X.env=(false,eval (.Call (.Name "range" p1) [.Call (.Name "len" p2) [.Name "some" p3] [] p4] [] p5) X.env)::starEach [] X.env:=by rfl):
  PE X (.Call (.Name "sorted" pk) [.Call (.Name "range" p1) [.Call (.Name "len" p2) [.Name "some" p3] [] p4] [] p5] [⟨some "key", .Lambda (zFo p6) (.BinOp (.Subscript (.Subscript (.Name "some" p7) (.Name "spot" p8) p9) (.Constant (.int 0) 0 pa) pb) .Mult
   (.BinOp (.Name "bottom" pc) .FloorDiv (.Subscript (.Subscript (.Name "some" pd) (.Name "spot" pe) pf) (.Constant (.int 1) 0 pg) ph) pi) pj) mJ pl,pm⟩] pn) (zRu X P):=by
 intro Md s σ H Q I h;obtain⟨Hi,a,xs,rows,b,kz,e0,e1,hq,hds,sm,hkz,h64,tb,hiP,q⟩:=h;obtain⟨hl1,hl2⟩:=zAC hkz;have hlen:xs.length=kz.length:=by rw[hds.length,hl1]
 refine Jx (pY I R.gS R.mS boot_sorted ?_ (by decide) (by decide))
 have vS:PE X (.Name "some" p3) (zHc 0):=xP R.n0 (.inr (.inl R.k0));have pR:=zQU (p:=p1) (pos:=p5) R.gR R.mR (lX (zBl (p:=p2) (pos:=p4) aP R.gL R.mL boot_len (lX vS rK hs1) (by decide) (by decide) hs1) rK (by rw[hs2];rfl)) hs2
 refine callWith_kw (thn ((lX pR rK hs3) pn Md s σ H (fun vs H1=>∃ r,vs=[.ref r]/\H r=none/\H1=upd H r (.rng 0 kz.length)) I ?reads) fun us s1 ⟨vs,H1,I1,r1,q1⟩=>?_) (by rw[hs3];rfl) (by rw[hs3];rfl)
 case reads=>
  refine⟨.ref a,e0,a,xs,rfl,hq.imp (dF sm) (cK sm),xs.length,rfl,fun r hr=>⟨r,rfl,hr,by rw[hlen]⟩⟩
 obtain⟨r,rfl,hr,rfl⟩:=q1;obtain⟨u,rfl,ru⟩:=zEG r1;cases ru;obtain⟨cs,cb,hcl,hcs,hcb⟩:=R.clo;have x1:Ext Hi H Hi (upd H r (.rng 0 kz.length)):=Ext.newF sm hr;refine kws_cons (zLj I1 (x1.h.t P tb) R.hd R.code R.qual R.bm hcl rfl fun f c' ctv oc vs t u H3 s3 I3 hkeep hsame hf hfs hfo hc1 hc2 hc3=>kws_nil ?_)
 have x2:Ext Hi H Hi H3:=x1.trans ⟨Same.refl _,hkeep,fun b o e=>hsame b o (x1.s _ _ e) (fun z=>by rw[z,hiP] at e;cases e),fun b e z=>absurd e z⟩
 have hr3:H3 r=some (.rng 0 kz.length):=hkeep.at bA;obtain⟨t1,t2,t3,hrg⟩:=I3.hok r _ hr3
 have I3p:Inv X (Md++[(f,kla_obj "<lambda>" vE (zFo p6) _ mJ [("some", cs),("bottom", cb)] ((X.mg "__name__").getD .none) c' ctv)]) σ H3 s3:=I3.pins_of fun p hp=>by
  rcases Xh.mp hp with hp | hp
  ·exact I3.pin p (Qw _ hp)
  ·rw[Qx.mp hp]
   exact⟨hfo,hf.1,hf.2.1,hf.2.2.1,fun v z=>by have z':Data.func _=Data.cell v:=z;cases z'⟩
 refine zJm (kz:=kz) R.calm I3p hrg h64 rfl (fun j tk k hj s' pl Ip=>?_) fun D s' out c2 π I' fD hDs hD hπ hV=>?_
 ·obtain⟨d,hd,hk⟩:=hl2 j k hj
  have hfo':=(Ip.pin _ (Qw _ (Yq _ (Qw _ (Qx.mpr rfl))))).1;obtain⟨u0,r0,ce0⟩:=zGr Ip R.n0 e0 R.k0 hcs;obtain⟨u1,r1,ce1⟩:=zGr Ip R.n1 e1 R.k1 hcb
  have look:∀ {x:Str} {c:Jc},List.lookup x [(("some" : Str),cs),(("bottom" : Str),cb)]=some c->(x = "some" /\ c=cs)∨(x = "bottom" /\ c=cb):=fun {x c} z=>by
   have z':=Xj z;rcases Qc.mp z' with z' | z'
   ·cases z';exact .inl ⟨rfl,rfl⟩
   ·cases Qx.mp z';exact .inr ⟨rfl,rfl⟩
  have hne:cs≠cb:=fun z=>by
   have:=Ip.ok.inj _ _ _ hcs (z ▸ hcb)
   exact absurd this (by decide)
  have lam:∃ t,PE (cxL X.prog X.w X.K X.mg X.base ["spot","some","bottom"] vE mJ f (.ref c') [("some", cs),("bottom", cb)] X.A.in1.in1 X.stack s' H3) _ t/\t [some (.int j),some (.ref a),some (.int b)] H3 (fun v H'=>v=.int k/\H'=H3):=
   zKE (p1:=p7) (p2:=p8) (p3:=p9) (p4:=pa) (p5:=pb) (p6:=pc) (p7:=pd) (p8:=pe) (p9:=pf) (pa:=pg) (pb:=ph) (pc:=pi) (pz:=pj) rfl rfl rfl hq hds x2.s hd hk ⟨rfl,rfl⟩
  obtain⟨tt,hb,hqq⟩:=lam;refine Jw (codeAny_mono (zMX (E:=fun _ _ _=>False) (p := "spot") (Ip.ok.hd R.calm) R.dp Ip.env0.in1.in1 hfo' ⟨c',oc,vs,t,rfl,(Ip.hok c' _ hc1).1,hc2,hc3⟩ rfl (by decide +kernel) rfl rfl rfl (by decide +kernel) (fun x hx=>?_) (fun x y c z1 z2=>?_) (fun x c z=>?_) rfl (fun i x v z1 z2=>?_) hb hqq) fun res s'' hres=>?_)
  ·have hx':=Xj hx
   rcases Qc.mp hx' with z | hx'
   ·cases z
   ·rcases Qc.mp hx' with z | hx'
    ·cases z;exact⟨cb,rfl⟩
    ·cases Qx.mp hx';exact⟨cs,rfl⟩
  ·rcases look z1 with⟨rfl,rfl⟩ | ⟨rfl,rfl⟩<;>rcases look z2 with⟨rfl,w⟩ | ⟨rfl,w⟩
   ·rfl
   ·exact absurd w hne
   ·exact absurd w.symm hne
   ·rfl
  ·rcases look z with⟨rfl,rfl⟩ | ⟨rfl,rfl⟩
   ·exact⟨⟨_,ce0⟩,Ip.freeC _ _ hcs⟩
   ·exact⟨⟨_,ce1⟩,Ip.freeC _ _ hcb⟩
  ·match i,z1,z2 with
   | 0,z1,z2=>cases z1;cases z2;exact .inl ⟨rfl,tk,rfl⟩
   | 1,z1,z2=>cases z1;cases z2;exact .inr ⟨by decide +kernel,cs,u0,rfl,ce0,r0⟩
   | 2,z1,z2=>cases z1;cases z2;exact .inr ⟨by decide +kernel,cb,u1,rfl,ce1,r1⟩
   | i+3,z1,z2=>simp at z2
  ·cases res with
   | error ev=>exact False.elim hres
   | ok fl=>
    cases fl with
    | ret u=>
     obtain⟨v,H',J,rv,rfl,rfl⟩:=Ip.after hres;obtain⟨t',rfl⟩:=rv;exact⟨⟨t',rfl⟩,J⟩
    | next=>exact False.elim hres
    | brk=>exact False.elim hres
    | cont=>exact False.elim hres
 ·have I'':Inv X Md σ H3 s':=I'.unpinned
  obtain⟨f0,f1,f2,f3,f4,f5⟩:=fD;have h0:X.s₀.heap.get? D=none:=Heap.get?_none_of_le (Qp I3.sz hDs);have hl:=hV.length
  have okL:nQ X.prog X.w (upd H3 D (.lst (π.map fun i:Nat=>V.int (i:Int)))) s'.heap D (.lst (π.map fun i:Nat=>V.int (i:Int))):=by
   refine⟨?_,out.toList,c2,hV,by rw[Array.toArray_toList];exact hD⟩
   rw[Qi,hπ.1.length_eq,Vd,Jv];omega
  have I4:=I''.track f0 h0 f1 f4 (fun p hp=>f5 p (by
   rcases Xh.mp hp with hp | hp
   ·exact Yq _ hp
   ·exact Qw _ (Yq _ hp))) okL
  refine⟨.ref D,_,I4,rfl,q π D Hi _ hπ (x2.trans (Ext.newF x2.s f0)) ⟨x2.h.none f0,x2.s.none f0,_,bA,zCL π⟩⟩
end
def spR(K:PySem.W.Frag)(mg:Str->Option Ja)(kf:List D->Res (List Int)):Sp:=fun vs H Q _=>vs.length=1/\∃ Bi ds,TB K mg Bi H/\Same Bi H/\IsDs K Bi vs ds/\match kf ds with
 | .ok kz=>∀ r a Hi' H',jZ kz r->Ext Bi H Hi' H'->zKL K H Hi' H' a (oK r)->Q (.ref a) H'
 | _=>False
structure CanR (P:Je) (w:Jf) (K:PySem.W.Frag) (mg:Str->Option Ja) (base:Jd) (k:Nat) (kf:List D->Res (List Int)):Prop where
 ex:∃ f fd,FnOk P w K mg base (CX1 P w) k f fd ["some"] (spR K mg kf)/\zDB K fd ["some"] []/\PySem.W.keepIn K (.ref f)=true/\mg "ranked" = some (.ref f)
def CanR.mono{P:Je}{w:Jf}{K:Fg_}{mg:Str->Option Ja}{base:Jd}{j k:Nat}{kf:List D->Res (List Int)}(c:CanR P w K mg base j kf)(h:j<=k):CanR P w K mg base k kf:=by
 obtain⟨f,fd,F,r⟩:=c.ex;exact⟨⟨f,fd,F.mono h,r⟩⟩
structure RankDef (st:Jh):Prop where
 k0:(aH st).names.lookup ("some" : Str)=some .cell
 k1:(aH st).names.lookup ("bottom" : Str)=some .cell
 gS:(aH st).names.lookup ("sorted" : Str)=some .globalImplicit
 gR:(aH st).names.lookup ("range" : Str)=some .globalImplicit
 gL:(aH st).names.lookup ("len" : Str)=some .globalImplicit
 clo:∀ L f cdv,∃ cs cb,closureFor mJ (envOfC "ranked" (aH st) L f cdv)=pure [(("some" : Str),cs),(("bottom" : Str),cb)]/\(envOfC "ranked" (aH st) L f cdv).cells.lookup ("some" : Str)=some cs/\(envOfC "ranked" (aH st) L f cdv).cells.lookup ("bottom" : Str)=some cb
section
variable{P:Je}{w:Jf}{K:Fg_}{mg:Str->Option Ja}{base:Jd}{st s1 s2:Jh}{f:Jc}{fd:FuncData}{k:Nat}{sa sb:Sv}{p1 p2 p3 p4 p5 p6 p7 p8 p9 pa pb pc pd pe pf pg ph pi pj pk pl pm pn po:Pos}
def zOj{T:Jc}(F:Fn K mg "ranked" st ["some"] f fd)(S:FnScope ["some","bottom","each"] ["some"] (aH st))(D:RankDef st)(hT:sR K mg T)(hB:BMn base mg)(mS:mg "sorted" = none)(mR:mg "range" = none)(mL:mg "len" = none)
  (hbody:fU st=[s1,s2,.Return (some (.Call (.Name "sorted" pk) [.Call (.Name "range" p1) [.Call (.Name "len" p2) [.Name "some" p3] [] p4] [] p5] [⟨some "key", .Lambda (zFo p6) (.BinOp (.Subscript (.Subscript (.Name "some" p7) (.Name "spot" p8) p9) (.Constant (.int 0) 0 pa) pb) .Mult
   (.BinOp (.Name "bottom" pc) .FloorDiv (.Subscript (.Subscript (.Name "some" pd) (.Name "spot" pe) pf) (.Constant (.int 1) 0 pg) ph) pi) pj) mJ pl,pm⟩] pn)) po])
  (h:∀(cdv:Ja)(A:Jg)(outer:List Env)(s:Jb)(H:Hp)(E:XK)(G:Gx),Good (BX P w K mg base ["some","bottom","each"] "ranked" st f cdv A outer s H E) G k->zGR (BX P w K mg base ["some","bottom","each"] "ranked" st f cdv A outer s H E) G->
   PSd (BX P w K mg base ["some","bottom","each"] "ranked" st f cdv A outer s H E) G s1 sa/\PSd (BX P w K mg base ["some","bottom","each"] "ranked" st f cdv A outer s H E) G s2 sb):
  CanR P w K mg base (k+1) (zBe sa sb):=by
 refine⟨f,fd,?_,F.bd,F.kp,F.mg⟩
 obtain⟨f',oc',od',fd',osl',c,t1,t2,t3,t4⟩:=id hT;have ef:f'=f:=by have:=t1.symm.trans F.mg;exact Value.ref.inj (Ve this)
 subst ef;obtain⟨oc,od,kV,doc,pm',an,cdv,ct,osl,rfl,lk,hcd⟩:=F.fn.ex
 have efd:cdv=.ref c:=by
  rw[lk] at t2;cases t2;exact t3
 subst efd;refine zPn lk hcd S (fun vs H Q E h=>h.1) fun A outer s H vs Q E hr hsp=>?_
 obtain⟨hl,Bi,ds,tb,sm,hd,hq⟩:=hsp;have hg:=zHF (P:=P) (w:=w) (K:=K) (mg:=mg) (base:=base) (N:=["some","bottom","each"]) (outer:=outer) (H:=H) (Bi:=Bi) (E:=E) hr tb;obtain⟨h1,h2⟩:=h (.ref c) A outer s H E _ hg zFZ
 have RC:RankCx (BX P w K mg base ["some","bottom","each"] "ranked" st f' (.ref c) A outer s H E) T c:=
  ⟨rfl,hr.depth,rfl,rfl,D.k0,D.k1,rfl,t4,by show(("ranked" : Str) ++ ".<locals>.") ++ "<lambda>" = vE;decide +kernel,hB,D.clo _ _ _,D.gS,mS,D.gR,mR,D.gL,mL⟩
 have body:∀ G,PSs (BX P w K mg base ["some","bottom","each"] "ranked" st f' (.ref c) A outer s H E) [s1] (tS (BX P w K mg base ["some","bottom","each"] "ranked" st f' (.ref c) A outer s H E) G sa)->PS (BX P w K mg base ["some","bottom","each"] "ranked" st f' (.ref c) A outer s H E) s1 (tS (BX P w K mg base ["some","bottom","each"] "ranked" st f' (.ref c) A outer s H E) G sa)->PS (BX P w K mg base ["some","bottom","each"] "ranked" st f' (.ref c) A outer s H E) s2 (tS (BX P w K mg base ["some","bottom","each"] "ranked" st f' (.ref c) A outer s H E) G sb)->
   PSs (BX P w K mg base ["some","bottom","each"] "ranked" st f' (.ref c) A outer s H E) (fU st) (zSe (tS (BX P w K mg base ["some","bottom","each"] "ranked" st f' (.ref c) A outer s H E) G sa) (zSe (tS (BX P w K mg base ["some","bottom","each"] "ranked" st f' (.ref c) A outer s H E) G sb) (zTg (zRu (BX P w K mg base ["some","bottom","each"] "ranked" st f' (.ref c) A outer s H E) T)))):=fun G _ h1 h2=>by
  rw[hbody];exact wD h1 (wD h2 (zEN (zFT (zNV RC))))
 refine⟨_,body _ (zEN h1) h1 h2,?_⟩
 cases ek:zBe sa sb ds with
 | no=>rw[ek] at hq;exact hq.elim
 | err c=>rw[ek] at hq;exact hq.elim
 | ok kz=>
  rw[ek] at hq;unfold zBe at ek;split at ek
  case isFalse=>cases ek
  split at ek
  case h_2=>cases ek
  rename_i ρ1 e1
  split at ek
  case h_2=>cases ek
  rename_i ρ2 e2
  refine⟨L3.start 3 ds,Bi,zDq (N:=["some","bottom","each"]) sm hd,?_⟩
  rw[e1];intro a1 Hi1 H1 sm1 R1;refine⟨ρ1,Hi1,R1,?_⟩
  rw[e2];intro a2 Hi2 H2 sm2 R2;unfold zFD at ek;split at ek
  case h_2=>cases ek
  rename_i rows b z0 z1
  split at ek
  case isFalse=>cases ek
  rename_i h64
  obtain⟨v,q0,r0⟩:=R2.slot 0 _ z0;obtain⟨v1,q1,r1⟩:=R2.slot 1 _ z1;obtain⟨a,xs,rfl,g1,g2⟩:=r0.lstI;have r1':=r1.intI;subst r1';obtain⟨tb2,n2⟩:=hg.tb.ext R2.ext T hT;exact⟨Hi2,a,xs,rows,b,kz,q0,q1,.inl g1,g2,R2.s,ek,by rw[(zAC ek).1];exact h64,tb2,n2,fun π r Hi' H' hπ x nl=>hq π r Hi' H' hπ (R2.ext.trans x) ⟨R2.ext.h.none nl.1,nl.2⟩⟩
end
section
variable{X:Cx}{G:Gx}{e:Expr}{es:List Expr}{pos p:Pos}{fs:Fv}{k:Nat}{kf:List D->Res (List Int)}{tg:Expr}{body rest:List Jh}{g:Gv}{sa sb:Sv}
def tIr(X:Cx)(G:Gx)(fs:Fv)(kf:List D->Res (List Int)):TI:=fun r H R=>∃ ρ Hi,nG X G Hi H r ρ/\Out G Hi H ((fs ρ).bind kf) fun kz Hi' H'=>∀ π J,jZ kz π->zH X.K Hi' J (oK π)->R J H'
def zNC(W:Good X G k)(c:CanR X.prog X.w X.K X.mg X.base k kf)(hkf:∀ ds c,kf ds≠.err c)(hk1:∀ ds,kf ds≠.no->ds.length=1)(hg:Gl X "ranked")(ha:PAd X G [e] fs)(he:starEach [e] X.env=(false,eval e X.env)::starEach [] X.env:=by rfl):
  PI X tg (.Call (.Name "ranked" p) [e] [] pos) (tIr X G fs kf):=by
 obtain⟨f,fd,F,b,kp,hm⟩:=c.ex;refine PI.wk (zOQ (zEM F W.room hg hm kp b .nil W.pass ha (by decide) he rfl)) fun r H R q=>?_
 obtain⟨ρ,Hi,Rl,ou⟩:=q;refine zKt Rl ou fun vs ds Hi1 H1 e1 R1 r1 o1=>?_
 rw[Vs];have hno:kf ds≠.no:=fun z=>by rw[z] at o1;exact o1
 refine⟨by rw[r1.length];exact hk1 ds hno,Hi1,ds,W.tb.ext R1.ext,R1.s,r1,?_⟩
 cases z:kf ds with
 | no=>exact absurd z hno
 | err c=>exact absurd z (hkf ds c)
 | ok kz=>
  rw[z] at o1;intro π a Hi2 H2 hπ e2 n;obtain⟨n1,n2,xs,n3,n4⟩:=n;have x3:=e2.hold n1 n3 n2;refine⟨a,rfl,⟨xs,SqL.of n3⟩,o1 _ _ x3 π _ hπ (zCs (SqL.of bA) (n4.mono (cT n2 _)))⟩
def zOG(W:Good X G k)(c:CanR X.prog X.w X.K X.mg X.base k kf)(hkf:∀ ds c,kf ds≠.err c)(hk1:∀ ds,kf ds≠.no->ds.length=1)(hg:Gl X "ranked")(ha:PAd X G [e] fs)(hgt:PGd X G tg g)(hge:∀ d ρ c,g d ρ≠.err c)(hb:eQ X G body sa)(hr:eQ X G rest sb)
  (he:starEach [e] X.env=(false,eval e X.env)::starEach [] X.env:=by rfl) {pf:Pos} (hs:∀ x,foldedSetIterable (.Call (.Name "ranked" p) [e] [] pos) X.env x=pure x:=by intro _;rfl):
  eQ X G (.For tg (.Call (.Name "ranked" p) [e] [] pos) body [] pf::rest) (zKV fs kf g sa sb):=by
 refine PSs.wk (wD (zMK W.own W.calm (zNC W c hkf hk1 hg ha he) hgt hb hs) hr) fun E r H q=>?_
 obtain⟨ρ,Hi,R,h⟩:=q;refine⟨ρ,Hi,R,oO R h fun kz Hi1 H1 _ e1 h1 π J hπ gv=>?_⟩
 have hn:qJ kz (fun π=>aW (fun ρ=>loop g sa (oK π) ρ) sb ρ)≠.no:=fun z=>by rw[z] at h1;exact h1
 rw[<-zHf hn hπ] at h1;exact zMo hge (R.grow e1) (zRC (sa:=fun ρ=>loop g sa (oK π) ρ) h1) gv
end
def zQC(K:PySem.W.Frag)(mg:Str->Option Ja):Sp:=fun vs H Q _=>∃(a:Jc)(ns:List Int)(Bi:Hp),vs=[.ref a]/\TB K mg Bi H/\Same Bi H/\SqL K Bi a (ns.map V.int)/\ns.length<=63/\(∃ m,m<=1048576/\∀ n∈ns,n.natAbs<2^m)/\∀ H',Q (.bl true) H'
def zNs{P:Je}{w:Jf}{K:Fg_}{mg:Str->Option Ja}{base:Jd}{k:Nat}{m:Mir}{f:Jc}{fd:FuncData}(F:FnOk P w K mg base (CX1 P w) k f fd ["script"] (spM K mg 1 m))
  (h:∀ ns:List Int,ns.length<=63->(∃ m,m<=1048576/\∀ n∈ns,n.natAbs<2^m)->m [.lst (ns.map D.int)]=.ok (.v (.bl true))):FnOk P w K mg base (CX1 P w) k f fd ["script"] (zQC K mg):=by
 refine F.imp fun vs H Q E q=>?_
 obtain⟨a,ns,Bi,rfl,tb,sm,hS,hl,hbg,q⟩:=q;refine⟨rfl,Bi,[.lst (ns.map D.int)],tb,sm,.cons (.lst hS (zCC ns)) .nil,?_⟩
 rw[h ns hl hbg];intro v Hi' H' e r;rw[r.blI];exact q H'
def zNl{P:Je}{w:Jf}{K:Fg_}{mg:Str->Option Ja}{base:Jd}{k:Nat}{m:Mir}{f:Jc}{fd:FuncData}(F:FnOk P w K mg base (CX1 P w) k f fd ["script"] (spM K mg 1 m))
  (h:∀ ns:List Int,ns.length<=63->m [.lst (ns.map D.int)]=.ok (.v (.bl true))):FnOk P w K mg base (CX1 P w) k f fd ["script"] (zQC K mg):=zNs F fun ns hl _=>h ns hl
def zLR{K:Fg_}{mg:Str->Option Ja}{h:Jd}{T T':Jc}(X:K.In h)(a:sR K mg T)(b:sR K mg T'):T'=T:=by
 obtain⟨f,oc,od,fd,osl,c,a1,a2,a3,a4⟩:=a;obtain⟨f',oc',od',fd',osl',c',b1,b2,b3,b4⟩:=b;rw[a1] at b1;cases b1
 rw[a2] at b2;cases b2
 rw[a3] at b3;cases b3
 obtain⟨o,vs,_,_,_,_,_,_,_,e1,_,e3,e4,_⟩:=a4 h X;obtain⟨o',vs',_,_,_,_,_,_,_,f1,_,f3,f4,_⟩:=b4 h X;rw[e1] at f1;cases f1
 rw[e3] at f3;cases f3
 rw[e4] at f4;cases f4
 rfl
def zJf{P:Je}{w:Jf}{K:Fg_}{mg mb:Str->Option Ja}{CX:CXT}{k:Nat}{fa a T:Jc}{fd:FuncData}{x:Str}{s₁:Jb}{vs:List Ja}{ns:List Int}
  (KX:K.In s₁.heap) (hns:s₁.heap.Ns mainGlobals mg) (hb:s₁.heap.Ns builtinsNs mb) (hbb:∀ x:Str,x ≠ "__name__" -> mb x=bootBuiltins x) (hlim:s₁.heap.NoLimit) (hg:s₁.gens=#[]) (hbm:BMn s₁.heap mg) (hT:s₁.heap.get? T=some (tabObj #[])) (hKT:K.lookup T=none) (hP:sR K mg T)
  (ha:s₁.heap.get? a=some { cls:=.type "list", data:=.seq vs.toArray }) (hi:IntsAre vs ns) (hl:ns.length<=63) (hbg:∃ m,m<=1048576/\∀ n∈ns,n.natAbs<2^m) (hr:Room k callerA)
  (F:∀ base:Jd,K.In base->base.Ns mainGlobals mg->BMn base mg->FnOk P w K mg base CX k fa fd [x] (zQC K mg)) (hbind:∀(s:Jb)(u:Ja),BindsTo s fd ⟨[u],[]⟩ [(x,u)])
  (hCX:∀ H e s',CX [] H s₁ (fun _ _ _=>False) e s'->False):
  codeAny (model P w) callerA (.call (.ref fa) ⟨[.ref a],[]⟩) (fun r s'=>r=.ok (.ret (.bool true))/\OldK s₁.heap s'.heap/\s'.os=s₁.os/\AllBare s'.gens) s₁:=by
 have rv:=zCB hi;have lenV:=hi.length;have haT:a≠T:=fun z=>by rw[z,hT] at ha;cases ha
 have core:∀ Bi:Hp,zTC Bi->SqL K Bi a (ns.map V.int)->HOk P w Bi s₁.heap->(∀ b,Bi b≠none->b=a)->(Bi a≠none->K.lookup a=none)->
   codeAny (model P w) callerA (.call (.ref fa) ⟨[.ref a],[]⟩) (fun r s'=>r=.ok (.ret (.bool true))/\OldK s₁.heap s'.heap/\s'.os=s₁.os/\AllBare s'.gens) s₁:=by
  intro Bi hO hS hokB hA hK
  have hBT:Bi T=none:=by
   cases q:Bi T with
   | none=>rfl
   | some u=>exact absurd (hA T (by rw[q];simp)).symm haT
  generalize hHdef:upd Bi T (.tbl #[])=H;have HT:H T=some (.tbl #[]):=by rw[<-hHdef,bA]
  have Hne:∀ {b},b≠T->H b=Bi b:=fun z=>by rw[<-hHdef,bE z]
  have sm:Same Bi H:=fun b o e=>by rw[Hne (bJ e hBT)];exact e
  have hok:HOk P w H s₁.heap:=fun b u e=>by
   by_cases hb:b=T
   ·subst hb;rw[HT] at e;cases e;exact hT
   ·rw[Hne hb] at e
    exact(hokB b u e).stay (fun c v _ q=>q) (fun c q=>sm _ _ q) fun c xs q=>sm _ _ q
  have only:∀ {b:Jc} {o:Obj},s₁.heap.get? b=some o->(∀ xs n,o.data≠.seq xs n)->(∀ vs,o.data≠.fields vs)->H b=none:=fun {b o} e d1 d2=>by
   by_cases hb:b=T
   ·subst hb;rw[hT] at e;cases e;exact absurd rfl (d2 #[])
   ·rw[Hne hb]
    cases q:Bi b with
    | none=>rfl
    | some u=>
     have e':b=a:=hA b (by rw[q];simp)
     subst e';rw[ha] at e;cases e
     exact absurd rfl (d1 _ _)
  have base_of:∀ {b:Jc} {o:Obj},s₁.heap.get? b=some o->H b=none->(zKs s₁.heap H).get? b=some o:=fun e n=>zLA e n
  have nsK:∀ {b:Jc} {m:Str->Option Ja},s₁.heap.Ns b m->(zKs s₁.heap H).Ns b m:=fun {b m} ⟨o,es,ep,e,d,r⟩=>⟨o,es,ep,base_of e (only e (fun xs n z=>by rw[d] at z;cases z) (fun vs z=>by rw[d] at z;cases z)),d,r⟩
  have hKb:K.In (zKs s₁.heap H):=fun b o e=>base_of (KX b o e) (by
   by_cases hb:b=T
   ·subst hb;rw[hKT] at e;cases e
   ·rw[Hne hb]
    cases q:Bi b with
    | none=>rfl
    | some u=>
     have e':b=a:=hA b (by rw[q];simp)
     subst e'
     rw[hK (by rw[q];simp)] at e;cases e)
  have hBb:BMn (zKs s₁.heap H) mg:=by
   obtain⟨bm,ob,b1,b2,b3,b4,b5,b6⟩:=hbm;exact⟨bm,ob,b1,b2,base_of b3 (only b3 (fun xs n z=>by rw[b6] at z;cases z) (fun vs z=>by rw[b6] at z;cases z)),b4,b5,b6⟩
  have hM:Mod K mg (zKs s₁.heap H):=⟨hKb,nsK hns,⟨mb,nsK hb,hbb⟩,let ⟨mc,h1,h2⟩:=hlim;⟨mc,nsK h1,h2⟩⟩;have e0:Env0 P w K mg (zKs s₁.heap H) callerA [] s₁ H:=⟨rfl,hM,fun b o e=>zOC e,X1 (zIN _ _),trivial,fun b hb=>absurd (show b∈([]:List Jc) from hb) (by simp),hok,.of_eq hg⟩
  have htb:TB K mg Bi H:=fun T' h'=>by
   have e':=zLR KX hP h';subst e';exact⟨⟨#[],HT,trivial,fun pos cv z=>by cases z⟩,hBT⟩
  refine codeAny_mono ((F _ hKb (nsK hns) hBb).run callerA [] s₁ H ⟨[.ref a],[]⟩ [.ref a] [.ref a] (fun v _=>v=.bl true) (fun _ _ _=>False) hr e0 (hbind s₁ (.ref a)) (.cons rfl .nil) ⟨a,ns,Bi,rfl,htb,sm,hS,hl,hbg,fun _=>rfl⟩) fun r s' h=>?_
  cases r with
  | error e=>exact(hCX H e s' h).elim
  | ok fl=>
   cases fl with
   | next=>exact False.elim h
   | brk=>exact False.elim h
   | cont=>exact False.elim h
   | ret u=>
    obtain⟨v,H',os,bare,un,hok',r',q⟩:=h;have q':v=.bl true:=q;subst q';obtain rfl:u=Value.bool true:=r';refine⟨rfl,⟨fun b o e=>?_,fun b o e=>un.there b o e (by simp)⟩,os,bare⟩
    by_cases hbT:b=T
    ·subst hbT
     obtain⟨more,z⟩:=un.tbls b _ HT;have z2:s'.heap.get? b=some { cls:=.none,data:=.fields (#[]++more) }:=hok' b _ z;rw[hT] at e;cases e
     obtain⟨f,oc,od,fd',osl,c,a1,a2,a3,a4⟩:=hP;obtain⟨o,vs,_,_,_,_,_,_,_,e1,e2,e3,e4,_⟩:=a4 _ KX;exact .inr (.inl ⟨⟨c,o,vs,e1,e2,e3,e4⟩,rfl,#[],more,rfl,z2⟩)
    ·refine .inl ?_
     cases q:H b with
     | none=>exact un.keep b o e q (by intro z;exact absurd (show b∈([]:List Jc) from z) (by simp)) (by simp)
     | some u=>
      rw[Hne hbT] at q;rcases hO b with z | ⟨ob,xs,z⟩
      ·rw[q] at z;cases z
      ·have z2:=un.frzs b ob _ (by rw[Hne hbT];exact z)
       obtain⟨e1,_⟩:=hokB b _ z;obtain⟨e2,_⟩:=hok' b _ z2;rw[e] at e1;cases e1
       exact e2
 cases hk:K.lookup a with
 | some o=>
  have e:=KX a o hk;rw[ha] at e;cases e;refine core (fun _=>none) (fun _=>.inl rfl) (.inr ⟨_,vs.toArray,_,hk,rfl,rfl,rfl,by rw[Qh,lenV,Jv];omega,by simpa using rv⟩) (fun b u z=>by have z':(none:Option HO)=some u:=z;cases z') (fun b z=>absurd rfl z) fun z=>absurd rfl z
 | none=>
  refine core (fun b=>if b=a then some (.frz { cls:=.type "list", data:=.seq vs.toArray } (.lst (ns.map V.int))) else none) (fun b=>?_) (.inl (.inr ⟨{ cls:=.type "list", data:=.seq vs.toArray },Jj rfl⟩)) (fun b u z=>?_) (fun b z=>?_) fun _=>hk
  ·by_cases hb:b=a
   ·exact .inr ⟨_,_,Jj hb⟩
   ·exact .inl (Jk hb)
  ·by_cases hb:b=a
   ·have z':=(Jj hb).symm.trans z
    cases z'
    subst hb;exact⟨ha,by rw[Qi,Jv];omega,vs,_,rv,ha⟩
   ·have z':=(Jk hb).symm.trans z
    cases z'
  ·by_cases hb:b=a
   ·exact hb
   ·exact absurd (Jk hb) z
def zMc:∀ {ns:List Int} {n:Int},n∈ns->(WData.int n).weight<=WData.weightAll (ns.map WData.int)
 | a::r,n,h=>by
  rw[Qg,WData.weightAll];rcases Qc.mp h with rfl | h
  ·omega
  ·have:=zMc h
   omega
def zOI{ns:List Int}(h:WData.layableAll [WData.list (ns.map WData.int)]=true):(∃ m,m<=1048576/\∀ n∈ns,n.natAbs<2^m):=by
 refine⟨1048576,Qb _,fun n hn=>?_⟩
 have w:WData.weightAll (ns.map WData.int)<=2^20:=by
  unfold WData.layableAll WData.layable at h;simp only[List.all_cons,List.all_nil,Wd,Vg,decide_eq_true_eq] at h;have:=h.2
  rw[WData.weight] at this;exact this
 have a:=zMc hn;rw[WData.weight] at a;by_cases z:n=0
 ·subst z
  exact Nat.two_pow_pos _
 ·rw[Jk (by simpa using z)] at a
  exact Qm Nat.lt_log2_self (Vt (by decide) (by omega))
open PySem.Calls in
def zCz{l:OpenLaw}{n:Nat}{q:Je}{loose:List Str}{XP:(Str->Option Ja)->Jd->Prop}{YP:Jf->Jd->Prop}{d:DefRec}
  (hn:l.most=some n) (hdf:d.params.defaults=[])
  (call:∀(w:Jf)(s₀ s₁:Jb)(mg mb:Str->Option Ja)(fa:Jc)(o:Obj)(pm cd doc:Ja)(a:Jc)(vs:List Ja)(ns:List Int),(∃ m,m<=1048576/\∀ n∈ns,n.natAbs<2^m)->
   Ground q loose [] XP w s₀ mg mb s₁.heap->YP w s₁.heap->
   s₁.heap.get? fa=some o->o.data=.func (docDef d.name d.params d.body d.scope pm cd doc)->s₁.heap.CodeRec cd d.name->mg d.name=some (.ref fa)->
   s₁.heap.get? a=some { cls:=.type "list", data:=.seq vs.toArray }->IntsAre vs ns->ns.length<=n->s₁.gens=#[]->
   codeAny (model l.prog w) callerA (.call (.ref fa) ⟨[.ref a],[]⟩) (fun r s'=>r=.ok (.ret (.bool true))/\OldK s₁.heap s'.heap/\s'.os=s₁.os/\AllBare s'.gens) s₁):
  WalkO q loose XP YP l.row.toRowW d [] (fun f vs=>PySem.call f vs):=by
 intro w s₀ s₁ mg mb G Y fa o pm cd doc dV kV ho hd hcd hD hmg hg args vals as hpre hlay hrd hwl hlo;obtain rfl:dV=.none:=Dflts.none hD hdf;obtain rfl:kV=.none:=Dflts.noKw hD;obtain⟨a,vs,ns,rfl,rfl,hobj,hints,hlen⟩:=Att.script_of hn hpre hwl;refine enter_call (codeAny_mono (call w s₀ s₁ mg mb fa o pm cd doc a vs ns (zOI hlay) G Y ho (fd_plain hd) hcd hmg hobj hints hlen hg) fun r s' hq=>?_)
 obtain⟨rfl,h2,h3,h4⟩:=hq;exact⟨.inl ⟨.bool true,.bool true,[],rfl,fun _=>rfl,.bool true,Att.post_true l _,fun _=>⟨List.Pairwise.nil,fun _ hm=>(nomatch hm)⟩⟩,h2,h3,h4⟩
def zSs{l:PySem.W.OpenLaw}{k:Nat}{q:Je}{loose:List Str}{XP:(Str->Option Ja)->Jd->Prop}{YP:Jf->Jd->Prop}{d:DefRec}{K:Params->PySem.W.Frag}{T:Jc}(hn:l.most=some 63)(hdf:d.params.defaults=[])(hr:Room k callerA)
  (hY:∀(w:Jf)(h:Jd),YP w h->(K w.params).In h) (hT:∀(w:Jf)(h:Jd),YP w h->h.get? T=some (tabObj #[]))
  (F:∀(w:Jf)(mg:Str->Option Ja)(fa:Jc)(h:Jd),(K w.params).In h->h.Ns mainGlobals mg->mg d.name=some (.ref fa)->
   (K w.params).lookup T=none/\sR (K w.params) mg T/\∃ fd:FuncData,(∀(s:Jb)(u:Ja),BindsTo s fd ⟨[u],[]⟩ [("script", u)])/\∀ base:Jd,(K w.params).In base->base.Ns mainGlobals mg->BMn base mg->FnOk l.prog w (K w.params) mg base (CX1 l.prog w) k fa fd ["script"] (zQC (K w.params) mg)):
  PySem.W.WalkO q loose XP YP l.row.toRowW d [] (fun f vs=>PySem.call f vs):=by
 refine zCz hn hdf fun w s₀ s₁ mg mb fa o pm cd doc a vs ns hbg G Y ho hd hcd hmg hobj hints hlen hg=>?_
 have KX:=hY w _ Y;obtain⟨h1,h2,fd,hb,hF⟩:=F w mg fa _ KX G.T.g hmg
 exact zJf KX G.T.g G.T.b G.T.builtins G.T.nolimit hg G.T.bmain (hT w _ Y) h1 h2 hobj hints hlen hbg hr hF hb fun _ _ _ z=>by
  obtain⟨_,_,_,_,_,z⟩:=z;exact z
section
variable{X:Cx}{G:Gx}
def aX{i:Int}{j pos}:PEd X G (.Constant (.int i) j pos) (eC (.int i)):=iE zIC fun _=>.int _
def aL(i:Nat){x:Str}{pos:Pos}(hN:X.N[i]?=some x:=by rfl)(hv:Vis X.env.scope x:=by first | exact Or.inl rfl | exact Or.inr (Or.inl rfl) | exact Or.inr (Or.inr rfl))(hd:(x==("__debug__" : Str))=false:=by decide)
  (hcd:(x==("__classdict__" : Str))=false:=by decide):PEd X G (.Name x pos) (aE i):=zQM i (pv i hN hv hd hcd)
def cB(n:Nat){x:Str}{pos p2:Pos}{i:Int}{j p1}(hN:X.N[n]?=some x:=by rfl)(hv:Vis X.env.scope x:=by first | exact Or.inl rfl | exact Or.inr (Or.inl rfl) | exact Or.inr (Or.inr rfl))(hd:(x==("__debug__" : Str))=false:=by decide)
  (hcd:(x==("__classdict__" : Str))=false:=by decide):PEd X G (.Subscript (.Name x pos) (.Constant (.int i) j p1) p2) (eOp oIx (aE n) (eC (.int i))):=rH eS zFL (aL n hN hv hd hcd) aX (fun _ _=>rfl)
end
section
variable{X:Cx}{G:Gx}{a:Expr}{f:Ev}
def zOX{i:Int}{j p1 p2}(h:PEd X G a f):PEd X G (.Subscript a (.Constant (.int i) j p1) p2) (eOp oIx f (eC (.int i))):=rH eS zFL h aX (fun _ _=>rfl)
def pI(h:PEd X G a f)(n:Nat){x:Str}{pos p2:Pos}(hN:X.N[n]?=some x:=by rfl)(hv:Vis X.env.scope x:=by first | exact Or.inl rfl | exact Or.inr (Or.inl rfl) | exact Or.inr (Or.inr rfl))(hd:(x==("__debug__" : Str))=false:=by decide)
  (hcd:(x==("__classdict__" : Str))=false:=by decide):PEd X G (.Subscript a (.Name x pos) p2) (eOp oIx f (aE n)):=rH eS zFL h (aL n hN hv hd hcd) (fun _ _=>rfl)
def bP(n:Nat){x:Str}{pos:Pos}(hN:X.N[n]?=some x:=by rfl)(hv:Vis X.env.scope x:=by first | exact Or.inl rfl | exact Or.inr (Or.inl rfl) | exact Or.inr (Or.inr rfl))(hd:(x==("__debug__" : Str))=false:=by decide)
  (hcd:(x==("__classdict__" : Str))=false:=by decide):PAd X G [.Name x pos] (aB (aE n) aNil):=aA (aL n hN hv hd hcd) aI aG
def s_z(i:Nat){x:Str}{pos pos':Pos}(hN:X.N.Nodup)(he:PEd X G a f)(hi:X.N[i]?=some x:=by rfl)(hx:Loc X.env.scope x:=by first | exact Or.inl rfl | exact Or.inr rfl)(hs:swapsWith a (some (.Name x pos')) pos.line X.env=pure false:=by rfl)
  (hf:X.fn x=true∨X.env.scope.names.lookup x=some .local:=by first | exact .inl rfl | exact .inr rfl | assumption):PSd X G (.Assign [.Name x pos'] a pos) (cQ i f):=zSb hN hi hx he hs hf
def g_z(i:Nat){x:Str}{pos:Pos}(hN:X.N.Nodup)(hi:X.N[i]?=some x:=by rfl)(hx:Loc X.env.scope x:=by first | exact Or.inl rfl | exact Or.inr rfl)(hf:X.fn x=true∨X.env.scope.names.lookup x=some .local:=by first | exact .inl rfl | exact .inr rfl | assumption):PGd X G (.Name x pos) (gName i):=zQn hN hi hx hf
def zHx{s j p}:PAd X G [.Constant (.str s) j p] (aB (eC (.str s)) aNil):=aA (iE cY fun _=>.str _) aI bK
end
section
variable{P:Je}{w:Jf}{K:Fg_}{mg:Str->Option Ja}{base:Jd}{k:Nat}{x:Str}{st:Jh}{ps N:List Str}{f:Jc}{fd:FuncData}{b:Sv}
def fK(F:Fn K mg x st ps f fd)(S:FnScope N ps (aH st))
  (h:∀ {cdv:Ja} {A:Jg} {outer:List Env} {s:Jb} {H:Hp} {E:XK} {G:Gx},Good (BX P w K mg base N x st f cdv A outer s H E) G k->zGR (BX P w K mg base N x st f cdv A outer s H E) G->eQ (BX P w K mg base N x st f cdv A outer s H E) G (fU st) b):
  CanM P w K mg base (k+1) x ps (fn ps.length N.length b):=qR F S fun _ _ _ _ _ _ _ W R=>h W R
end
end L3
namespace L3
open PySem PySem.Spec PyProof.Rows L2
section
unseal PEd PEf PTd PWd PAd PSd eQ POd PGd iM PId PSx lF PTs PCd PCf
variable{X:Cx}{G:Gx}{fs:Fv}{f:Ev}
end
end L3
namespace L3
open PySem PySem.Spec PyProof.Rows L2 PySem.W
unseal PEd PEf PTd PWd PAd PSd eQ POd PGd iM PId PSx lF
section
variable{X:Cx}{G:Gx}{k:Nat}{fb fh:Sv}{body suite:List Jh}{b₀:Jh}{ce:Str}{np hpos pos:Pos}
def Good.nox(W:Good X G k):Good X.nox (G0 G) k:=⟨W.calm,W.room,fun _ _ _ _ _ _ _ h=>by
 obtain⟨_,_,_,_,_,_,_,h⟩:=h
 exact h.elim,PassesOwn.never,W.tb⟩
def zMM(W:Good X G k)(O:Own X)(hT:Cat X.K X.mg ce ce)(hg:Gl X ce)
  (hb:lF X G body fb) (hh:∀ ea,GoodH (pC X ea)->eQ (pC X ea) (G0 G) (b₀::suite) fh) (hd:(ce==("__debug__" : Str))=false:=by decide):
  PSd X G (.Try body [.ExceptHandler (some (.Name ce np)) none (b₀::suite) hpos] [] [] pos) (zGW ce fb fh):=by
 intro Md s p H E I q;obtain⟨ρ,Hi,R,h⟩:=q;unfold zGW at h;have hno:fb ρ≠.no:=fun z=>by rw[z] at h;exact h
 refine wpAny_Try_except ?_
 refine wpAny_mono (hb Md s p H E ρ Hi _ I R hno ?_ ?_) (fun f s1 q=>?_) fun _ _ z=>z
 ·cases z:fb ρ with
  | no=>exact absurd z hno
  | err c=>trivial
  | ok f=>rw[z] at h;exact h
 ·rintro c ev s' z ⟨s1,H1,ea,cls,Hi',H',rfl,I1,hc,F,e1,sm⟩
  rw[z] at h
  have h2:Fin X G Hi E (if (c==ce)=true then zOY (fh ρ) else .no):=by
   have e:(if (c==ce)=true then zOY (fh ρ) else .no)=(if (c==ce)=true then (match fh ρ with
    | .ok (.ret r)=>Res.ok (Fl.ret r)
    | _=>.no) else .no):=by congr 1
   rw[e];exact h
  clear h;by_cases htb:(c==ce)=true
  ·rw[Jj htb] at h2
   have hcc:c=ce:=eq_of_beq htb;subst hcc;obtain⟨C,CE,m1,m2,T1,T2,T3⟩:=hT;rw[m1] at hc;cases hc;obtain⟨B,a0,hf,cov⟩:=F.fly;have hst:X.stack=X.env::X.outer:=O.stk;have hfr:X.A.frames=some (X.env::X.outer):=by rw[I1.ok.frames,hst]
   have hf1:=hf;rw[hst] at hf1;refine wpAny_looks_onW hfr O.fr hf1 fun h4 held4 up4=>?_
   refine wpAny_landsW held4 fun h5 fly5 up5=>?_
   have up5':=up4.trans up5;have fly5':Heap.FlyingW B X.stack ea (.ref C) a0 h5:=by rw[hst];exact fly5
   have I5:=Fly.stay I1 F hf cov fly5' up5' (t':=s'.toks);have tyAt:∀ {h6:Jd},Heap.FlyingW B X.stack ea (.ref C) a0 h6->zRK ea C h6:=fun z=>z.there
   refine wpAny_handleBy_cons (codeAny_handlers_test (xB (X:=pC X ea) (I5.clause ea) hg m2 ?_ hd)) (by intro q;cases q)
   refine zJw T2 T3 I5.kIn (tyAt fly5') ?_
   refine codeAny_handlers_suite ?_
   refine lands_againW fly5' fun h6 fly6 up6=>?_
   have I6:=Fly.stay I1 F hf cov fly6 (up5'.trans up6) (t':=s'.toks);have R7:=R.grow e1;have WH:GoodH (pC X ea):=⟨W.u⟩
   have hfin:∃ r,fh ρ=.ok (.ret r)/\Fin X G Hi E (.ok (.ret r)):=by
    cases zz:fh ρ with
    | no=>rw[zz] at h2;exact h2.elim
    | err c'=>rw[zz] at h2;exact h2.elim
    | ok fl=>
     rw[zz] at h2
     cases fl with
     | nx ρ'=>exact h2.elim
     | brk ρ'=>exact h2.elim
     | ctn ρ'=>exact h2.elim
     | ret r=>exact⟨r,rfl,h2⟩
   obtain⟨r,zf,hend⟩:=hfin
   have hE:=hh ea WH Md _ p _ { nx:=fun _ _=>False,rt:=E.rt } (I6.clause ea) ⟨ρ,Hi',R7,by
    rw[zf]
    cases r with
    | v d=>exact hend
    | f ds=>exact hend⟩
   refine wpAny_mono hE (fun fl s8 q=>?_) fun _ _ z=>False.elim z
   cases fl with
   | next=>obtain⟨_,_,_,q⟩:=q;exact q.elim
   | ret v=>
    obtain⟨v',p2,H2,I9,r9,q⟩:=q;exact⟨v',p2,H2,Inv.unclause I.ok I9,r9,q⟩
   | brk=>obtain⟨_,_,_,q⟩:=q;exact q.elim
   | cont=>obtain⟨_,_,_,q⟩:=q;exact q.elim
  ·rw[Jk htb] at h2;exact h2.elim
 ·cases f with
  | next=>exact Jn q
  | ret v=>exact q
  | brk=>exact q
  | cont=>exact q
end
end L3
namespace L3
open PySem PySem.Spec PyProof.Rows L2 PySem.W
unseal PEd PEf PTd PWd PAd PSd eQ POd PGd iM PId PSx lF PTs PCd PCf
section
variable{X:Cx}{G:Gx}{a b c d:Expr}{f g h q:Ev}{pos:Pos}
abbrev zJS(r r1 r2:R2)(ta tb tc td:TE):TE:=fun p H Q=>ta p H fun x H1=>tb p H1 fun y H2=>r x y H2 fun z H3=>∃ k,z=.bl k/\
 (if k=true then tc p H3 fun w' H4=>r1 y w' H4 fun z2 H5=>∃ k2,z2=.bl k2/\(if k2=true then td p H5 fun w2 H6=>r2 w' w2 H6 Q else Q (.bl false) H5) else Q (.bl false) H3)
def zIP{ta tb tc td:TE}{op op1 op2:CmpOp}{r r1 r2:R2}(ho:OpR X (compareOp op) r)(ho1:OpR X (compareOp op1) r1)(ho2:OpR X (compareOp op2) r2)(ha:PE X a ta)(hb:PE X b tb)(hc:PE X c tc)(hd:PE X d td)
  (hm:lastMarks [op,op1,op2] [b,c,d]=false:=by with_unfolding_all rfl):PT X (.Compare a [op,op1,op2] [b,c,d] pos) (zMb (zJS r r1 r2 ta tb tc td)):=by
 intro Md s p H Q I h
 refine isTrue_chain (thn (ha Md s p H _ I h) fun v s1 ⟨x,H1,I1,r1,q1⟩=>test_link (thn (hb Md s1 p H1 _ I1 q1) fun u s2 ⟨y,H2,I2,r2,q2⟩=>
  thn (ho Md s2 p H2 x y v u _ I2 r1 r2 q2) fun d s3 ⟨z,H3,I3,r3,k,e,q3⟩=>?_)) hm
 subst e;cases r3;refine wpAny_truthy_bool ?_
 cases k with
 | false=>
  obtain⟨k',e',q'⟩:=q3;cases e'
  exact ite_ff ⟨H3,I3,q'⟩
 | true=>
  refine ite_tt (test_link (thn (hc Md s3 p H3 _ I3 q3) fun w' s4 ⟨z',H4,I4,r4,q4⟩=>thn (ho1 Md s4 p H4 y z' u w' _ I4 r2 r4 q4) fun d' s5 ⟨z2,H5,I5,r5,k2,e2,q5⟩=>?_))
  subst e2;cases r5;refine wpAny_truthy_bool ?_
  cases k2 with
  | false=>
   obtain⟨k',e',q'⟩:=q5;cases e'
   exact ite_ff ⟨H5,I5,q'⟩
  | true=>
   refine ite_tt (test_last (thn (hd Md s5 p H5 _ I5 q5) fun w2 s6 ⟨z3,H6,I6,r6,q6⟩=>thn (ho2 Md s6 p H6 z' z3 w' w2 _ I6 r4 r6 q6) fun d' s7 ⟨z4,H7,I7,r7,k3,e3,q7⟩=>?_))
   subst e3;cases r7;exact wpAny_truthy_bool ⟨H7,I7,q7⟩
def zQZ{r r1 r2:R2}{o o1 o2:Op2}(k:OpK X r o)(k1:OpK X r1 o1)(k2:OpK X r2 o2):∀ p H Q,tD X G (tQ o o1 o2 f g h q) p H Q->zJS r r1 r2 (tD X G f) (tD X G g) (tD X G h) (tD X G q) p H Q:=fun p H Q qq=>by
 obtain⟨ρ,Hi,R,ou⟩:=qq;refine vX R ou fun v d Hi1 H1 e1 R1 r1 o1'=>?_
 refine vX R1 o1' fun w d' Hi2 H2 e2 R2 r2 o2'=>?_
 cases z:o d d' with
 | no=>rw[z] at o2';exact o2'.elim
 | err c=>exact absurd z (k.1 d d' c)
 | ok y=>
  rw[z] at o2';refine k.2 Hi2 H2 v w d d' y _ R2.s (r1.mono e2.i) r2 z fun v3 Hi3 H3 e3 r3=>?_
  have o3:Out G Hi3 H3 (zSz o1 o2 h q ρ d' y) _:=Out.grow o2' e3;have R3:=R2.grow e3
  cases y with
  | bl b=>
   refine⟨b,r3.blI,?_⟩
   cases b with
   | true=>
    rw[Jj rfl];refine vX R3 o3 fun w2 d2 Hi4 H4 e4 R4 r4 o4=>?_
    cases z':o1 d' d2 with
    | no=>rw[z'] at o4;exact o4.elim
    | err c=>exact absurd z' (k1.1 d' d2 c)
    | ok y'=>
     rw[z'] at o4;refine k1.2 Hi4 H4 w w2 d' d2 y' _ R4.s ((r2.mono e3.i).mono e4.i) r4 z' fun v5 Hi5 H5 e5 r5=>?_
     have o5:Out G Hi5 H5 (zMr o2 q ρ d2 y') _:=Out.grow o4 e5;have R5:=R4.grow e5
     cases y' with
     | bl b'=>
      refine⟨b',r5.blI,?_⟩
      cases b' with
      | true=>
       rw[Jj rfl];refine vX R5 o5 fun w6 d6 Hi6 H6 e6 R6 r6 o6=>?_
       cases z6:o2 d2 d6 with
       | no=>rw[z6] at o6;exact o6.elim
       | err c=>exact absurd z6 (k2.1 d2 d6 c)
       | ok y6=>
        rw[z6] at o6;exact k2.2 Hi6 H6 w2 w6 d2 d6 y6 _ R6.s ((r4.mono e5.i).mono e6.i) r6 z6 fun v7 Hi7 H7 e7 r7=>o6 Hi7 H7 e7 v7 r7
      | false=>
       rw[Jk (by decide)];exact o5.here R5.s _ (.bl _)
     | _=>exact o5.elim
   | false=>
    rw[Jk (by decide)];exact o3.here R3.s _ (.bl _)
  | _=>exact o3.elim
def zHd{op op1 op2:CmpOp}{r r1 r2:R2}{o o1 o2:Op2}(ho:OpR X (compareOp op) r)(k:OpK X r o)(ho1:OpR X (compareOp op1) r1)(k1:OpK X r1 o1)(ho2:OpR X (compareOp op2) r2)(k2:OpK X r2 o2)(ha:PEd X G a f)(hb:PEd X G b g)(hc:PEd X G c h)(hd:PEd X G d q)
  (hm:lastMarks [op,op1,op2] [b,c,d]=false:=by with_unfolding_all rfl):PTd X G (.Compare a [op,op1,op2] [b,c,d] pos) (cX (tQ o o1 o2 f g h q)):=
 PT.wk (zIP ho ho1 ho2 ha hb hc hd hm) fun p H Q qq=>by
  obtain⟨ρ,Hi,R,ou⟩:=qq;refine zQZ k k1 k2 p H _ ⟨ρ,Hi,R,ou.bind.imp fun d Hi' H' e o v r=>?_⟩
  cases d with
  | bl c=>rw[r.blI];exact⟨c,rfl,o.here e.s⟩
  | _=>exact o.elim
end
open Classical in
def zRZ(H:Hp)(a:Jc):Hp:=fun b=>if b=a then none else H b
end L3
namespace PySem.W.Fast
def tw10031583131896849784:=0
def tw10089870936399432910:=0
def tw10133806012335306088:=0
def tw10200385843833522443:=0
def tw10332666237864845970:=0
def tw10342941480699395720:=0
def tw10372716996546423:=0
def tw10693865886786318839:=0
def tw10710908978630256865:=0
def tw10762064036458562387:=0
def tw10918710940162282854:=0
def tw10961022877683909158:=0
def tw11001238216090423953:=0
def tw1107523609594023398:=0
def tw11102004574574775187:=0
def tw11110612313424191303:=0
def tw11128304322721451026:=0
def tw11213797915034887211:=0
def tw11237481414613017230:=0
def tw1135266051671262445:=0
def tw11365521466938388917:=0
def tw1138701911523238848:=0
def tw11405354865558681160:=0
def tw11413659423927178610:=0
def tw11459643263408563405:=0
def tw114996899731418796:=0
def tw11564666860971188071:=0
def tw11648594826498541331:=0
def tw11697766284878639111:=0
def tw1171225431084097638:=0
def tw11738771659964777803:=0
def tw11799060305807653402:=0
def tw11962828573298397109:=0
def tw1196733708812753474:=0
def tw12001227072639870510:=0
def tw12011476962690036616:=0
def tw12083608529184482568:=0
def tw12126848235004168307:=0
def tw12207997646799927034:=0
def tw12244620443534475954:=0
def tw12260770610200496347:=0
def tw12303517977242302088:=0
def tw12327773051435696314:=0
def tw12341423090572736449:=0
def tw12401927147201667640:=0
def tw12488832524997309224:=0
def tw12493995184809466759:=0
def tw12556241933083159211:=0
def tw12560469332190121626:=0
def tw12645660707353721546:=0
def tw12670932034657020333:=0
def tw12719338104756213224:=0
def tw12837291663614220721:=0
def tw1288190071659053738:=0
def tw13034893304873479744:=0
def tw13051732741148054391:=0
def tw13098432802851608994:=0
def tw13231299813828084615:=0
def tw13331921918377675983:=0
def tw13343932743050651065:=0
def tw13458885815883905655:=0
def tw13480827907168398526:=0
def tw13522437561710488107:=0
def tw13580277885422705228:=0
def tw13619784614135010461:=0
def tw13629970329814040941:=0
def tw1366703730322021378:=0
def tw13672699283955308940:=0
def tw13712279785771643246:=0
def tw13712739233696849913:=0
def tw13765784505423775021:=0
def tw13893893409037166287:=0
def tw13905312536384659254:=0
def tw13965717657299780211:=0
def tw13976653015211556837:=0
def tw14045668366288907020:=0
def tw14149015672013177021:=0
def tw1428045150026152444:=0
def tw14320342380279461739:=0
def tw14348273399724390268:=0
def tw14390414602364690375:=0
def tw14413768083662093238:=0
def tw14426320178766782376:=0
def tw14432274067022984636:=0
def tw14537994954546787525:=0
def tw14556337335753399684:=0
def tw14584313711342676753:=0
def tw14621251553326728264:=0
def tw14663274182507851713:=0
def tw14738035364813104528:=0
def tw1482977682211508128:=0
def tw149081720804382170:=0
def tw14908838111160893090:=0
def tw14911412689005317080:=0
def tw14913452604929154156:=0
def tw14964177256706723733:=0
def tw14972301419411823911:=0
def tw15047354701992242495:=0
def tw15158620001232028883:=0
def tw15178726250707067029:=0
def tw15216906411379973970:=0
def tw1523044625353276725:=0
def tw15263500131523360051:=0
def tw15267229214475059854:=0
def tw15309397934200994685:=0
def tw15371825590040374807:=0
def tw15396097723067598060:=0
def tw15418049446791289807:=0
def tw15428706231756209751:=0
def tw15534983348865483376:=0
def tw15543001014146233092:=0
def tw15555663307017279026:=0
def tw15630124867770721491:=0
def tw15646816438392735652:=0
def tw15653947032054835258:=0
def tw15703676181613489504:=0
def tw15710305270965808379:=0
def tw1577605996094496709:=0
def tw15783119306474812304:=0
def tw15841451381198614139:=0
def tw16267499360501255074:=0
def tw16305402492405217258:=0
def tw16323545578674477826:=0
def tw16403875291198417382:=0
def tw16427855682308866010:=0
def tw16611620708146220810:=0
def tw16683442369302033091:=0
def tw16701702371636360030:=0
def tw16794617401527069614:=0
def tw16834967127582653543:=0
def tw1683798936207787924:=0
def tw16862995950000075472:=0
def tw16866782639679461466:=0
def tw16873932763715525889:=0
def tw16898788324083821735:=0
def tw17001132864156412222:=0
def tw17027179992454412961:=0
def tw17110624922226363097:=0
def tw17190533322267815809:=0
def tw17205120932515105378:=0
def tw1721044757576464711:=0
def tw17230832183554987065:=0
def tw1723171328409257049:=0
def tw17396503147533327027:=0
def tw17492638289701049747:=0
def tw17621022982428515622:=0
def tw17631118671163604567:=0
def tw17699269676509518539:=0
def tw17709317289268758801:=0
def tw17897735310312586977:=0
def tw17908962228062946343:=0
def tw17972612904120201217:=0
def tw18029215442844604412:=0
def tw18086832430035206676:=0
def tw18093988206167501727:=0
def tw18145715565602400649:=0
def tw1816114187777388492:=0
def tw1836988739974252763:=0
def tw18393844774824465453:=0
def tw1867638581063524689:=0
def tw1980148758079707717:=0
def tw2075345436239755317:=0
def tw2123824236908653074:=0
def tw2141820986151970251:=0
def tw2211943438423872718:=0
def tw2232069577729616665:=0
def tw2234970780623872342:=0
def tw2327452028795122294:=0
def tw2340704781792136273:=0
def tw234604442944140146:=0
def tw2427956544404825554:=0
def tw2461138814448037255:=0
def tw2463886929999754989:=0
def tw2481836256135921710:=0
def tw2515362126051930055:=0
def tw261317077377556940:=0
def tw263966313362531676:=0
def tw2665137998271940320:=0
def tw2795953309252644414:=0
def tw2913022466465444805:=0
def tw2925841109352805083:=0
def tw2973284083096961349:=0
def tw303095599393576597:=0
def tw3051952273267569778:=0
def tw3158137009788983640:=0
def tw3240906264807920671:=0
def tw3407336514373778866:=0
def tw347683729407575373:=0
def tw3489730052654005085:=0
def tw3504236466604173463:=0
def tw3526876678800422264:=0
def tw3569412762287375025:=0
def tw3601534641959622523:=0
def tw3616743866306424895:=0
def tw3625722968661897484:=0
def tw3652872934414500603:=0
def tw3718052579340950962:=0
def tw3738731880820651655:=0
def tw3752299105329671363:=0
def tw384255111875395595:=0
def tw3850852914310335143:=0
def tw387986960891312433:=0
def tw4051454050006603824:=0
def tw4058760226226976410:=0
def tw4131015746154953838:=0
def tw4190738060394393038:=0
def tw4199173756703698391:=0
def tw4244706009384431814:=0
def tw4282294322367536927:=0
def tw4538707994955401975:=0
def tw4594899578748599436:=0
def tw4597405191590115330:=0
def tw4598848428695899351:=0
def tw4660244593672020265:=0
def tw4710323638284687169:=0
def tw4765172204969056906:=0
def tw4833794851269907093:=0
def tw4943943439334442545:=0
def tw4969857479399544228:=0
def tw5043649790261308242:=0
def tw5188240584133258740:=0
def tw5284968556131697340:=0
def tw5291897577011422515:=0
def tw5342028454702881962:=0
def tw5454989993473509696:=0
def tw5524652173036966836:=0
def tw5530989398428739535:=0
def tw5639961252058554781:=0
def tw5704818229780748611:=0
def tw5842801056781251155:=0
def tw5923551309127002700:=0
def tw5998424499708230208:=0
def tw6028338201953530843:=0
def tw6154668104265141074:=0
def tw6270886605124836027:=0
def tw6279105245451728845:=0
def tw6391392207076493749:=0
def tw6406109882799715954:=0
def tw6432681647593725513:=0
def tw6468725984079520635:=0
def tw6476885504783427304:=0
def tw6478814566824114508:=0
def tw6557942317529134649:=0
def tw657805691594563229:=0
def tw6581913263686875363:=0
def tw6641268122067108869:=0
def tw6680800522923170626:=0
def tw6772747670541070652:=0
def tw6977858277824691717:=0
def tw7028903063773101351:=0
def tw7156246347778579868:=0
def tw7194015290687308227:=0
def tw7199585127048759078:=0
def tw7205973490980184644:=0
def tw7289567852666969730:=0
def tw7376770659757057973:=0
def tw7411846596518595825:=0
def tw7485167241658287253:=0
def tw7629028259422302793:=0
def tw768477348892242834:=0
def tw7688788529512895215:=0
def tw7780502339556482050:=0
def tw7834609478287259873:=0
def tw7967055343576680908:=0
def tw8078892264045964198:=0
def tw8135501530331045926:=0
def tw8190478348697887800:=0
def tw8213264630444986233:=0
def tw8258122566980312517:=0
def tw8333490385015797917:=0
def tw8348579514307690037:=0
def tw8407700947694939304:=0
def tw8427245759996917774:=0
def tw8500421698588379936:=0
def tw8510372183449904454:=0
def tw8562597637889726273:=0
def tw856587090455350219:=0
def tw8622794360031771371:=0
def tw898541623109885066:=0
def tw9055432423006737272:=0
def tw9114053339690066417:=0
def tw9341164594135333516:=0
def tw9349039828945385002:=0
def tw9349541586962485431:=0
def tw9352972118419234405:=0
def tw9359619453919020634:=0
def tw9360397206265365015:=0
def tw9373647494078419613:=0
def tw9407801422840582643:=0
def tw9453839549878237680:=0
def tw9459531261959448809:=0
def tw9578370797481790666:=0
def tw9603891632137908338:=0
def tw9765829943169869855:=0
def tw9896394829530627148:=0
def tw9906841306589463457:=0
def tw9969187208113457991:=0
def tw9984678758409891750:=0
def tw998577628235609680:=0
def tw9986295276146514839:=0
end PySem.W.Fast
namespace Lw
open L3 PySem
def tbT:List Str:=[]
def zTU:List (Str×List Str):=[]
def pL:D:=(.tup [(.int 0),(.int 1)])
def bM:List (Str×Str):=[("row","back"),("back","row"),("even","lack"),("lack","even"),("part","part"),("half","half")]
def d_WEIGHTED:D:=(.tup [(.str "even"),(.str "lack")])
def d_HALF:D:=(.tup [(.int 1),(.int 2)])
def d_BOAT:D:=(.str "boat")
def d_MOST_BOATS:D:=(.int 12)
def d_DEEPEST:D:=(.int 8)
def d_CATCH:D:=(.str "catch")
def d_OVER:D:=(.str "over")
def d_PAIR:D:=(.str "pair")
abbrev sM:Sv:=(cQ 1 (aE 2))
abbrev rR:Sv:=(aW (cQ 0 (aE 1)) sM)
abbrev rM:Sv:=(aW (cQ 2 (eOp iY (aE 0) (aE 1))) rR)
abbrev sQ:Sv:=(dM (aE 0))
abbrev rL:Sv:=(aW (gW (cX (eOp oNe (aE 1) (eC (.int 0)))) rM) sQ)
abbrev sA:Sv:=(aW (cQ 1 (eB zNJ (aB (aE 1) aNil))) rL)
def eN:Mir:=fn 2 3 (aW (cQ 0 (eB zNJ (aB (aE 0) aNil))) sA)
def cJ:Mir:=fn 1 1 (dM (jU (aB (aE 0) (aB (eC (.int 1)) aNil))))
def oB:Mir:=fn 2 2 (dM (eOp oLt (eOp mG (eOp oIx (aE 0) (eC (.int 0))) (eOp oIx (aE 1) (eC (.int 1)))) (eOp mG (eOp oIx (aE 1) (eC (.int 0))) (eOp oIx (aE 0) (eC (.int 1))))))
abbrev zAq:Sv:=(cQ 1 (eOp mG (aE 1) (eOp oIx (aE 2) (eC (.int 1)))))
abbrev zDJ:Sv:=(cQ 1 (eC (.int 1)))
abbrev xL:Sv:=(tV (vC (aE 0)) (gName 2) zAq)
def pF:List D->Res (List Int):=zBe zDJ xL
def dO:Mir:=fn 1 1 (sIf (cX (eUn (uA bM) (aE 0))) (mF "BadWay" (aB (eC (.str "no such way")) aNil)) sNext)
abbrev sZ:Sv:=(sIf (cX (eOp oLt (aE 1) (eC (.int 0)))) (mF "BadClaim" (aB (eC (.str "a claim is below nought")) aNil)) sNext)
abbrev tU:Sv:=(tV (vC (aE 0)) (gName 1) sZ)
def fB:Mir:=fn 1 2 (aW (sIf (cX (eOp oEq (eB kU (aB (aE 0) aNil)) (eC (.int 0)))) (mF "BadClaim" (aB (eC (.str "there is no claim")) aNil)) sNext) tU)
abbrev sC:Sv:=(sIf (zAz (cX (eOp oLt (aE 4) (eC (.int 1)))) (cX (eOp oGt (aE 4) (eOp zDV (eC (.int 10)) (eC (.int 6)))))) (mF "BadWeights" (aB (eC (.str "a weight is not from 1 to 10 ** 6")) aNil)) sNext)
abbrev gP:Sv:=(tV (vC (aE 1)) (gName 4) sC)
abbrev kY:Sv:=(aW (sIf (cX (eOp oNe (eB kU (aB (aE 1) aNil)) (aE 3))) (mF "BadWeights" (aB (eC (.str "more or fewer weights than are due")) aNil)) sNext) gP)
def bI:Mir:=fn 3 5 (aW (cQ 3 (eIf (cX (eOp oIn (aE 0) (eC d_WEIGHTED))) (aE 2) (eC (.int 0)))) kY)
abbrev zLi:Sv:=(dM (jU (aB (eC d_BOAT) (aB (aE 0) aNil))))
def zDm:Mir:=fn 1 1 (aW (sIf (zAz (cX (eOp oLt (aE 0) (eC (.int 0)))) (cX (eOp oGt (aE 0) (eOp zDV (eC (.int 10)) (eC (.int 9)))))) (mF "BadClaim" (aB (eC (.str "a boat's claim is not from 0 to 10 ** 9")) aNil)) sNext) zLi)
def cU:Mir:=fn 1 1 (dM (eOp oEq (eOp oIx (aE 0) (eC (.int 0))) (eC d_BOAT)))
def lH:Mir:=fn 1 1 (dM (eOp oIx (aE 0) (eC (.int 0))))
def eG:Mir:=fn 1 1 (dM (eOp oIx (aE 0) (eC (.int 1))))
abbrev wH:Sv:=(dM (eC (.int 0)))
def dB:Mir:=fn 2 2 (aW (sIf (cX (eOp oLt (aE 1) (eB kU (aB (aE 0) aNil)))) (dM (eOp oIx (aE 0) (aE 1))) sNext) wH)
abbrev yR:Sv:=(cQ 1 (aE 2))
abbrev zU:Sv:=(aW (cQ 0 (aE 1)) yR)
abbrev zX:Sv:=(aW (cQ 2 (eOp iY (aE 0) (aE 1))) zU)
abbrev qG:Sv:=(dM (aE 0))
def iX:Mir:=fn 2 3 (aW (gW (cX (eOp oGt (aE 1) (eC (.int 0)))) zX) qG)
def bV:Mir:=fn 2 2 (dM (eOp oLt (eOp mG (eOp oIx (aE 0) (eC (.int 0))) (eOp oIx (aE 1) (eC (.int 1)))) (eOp mG (eOp oIx (aE 1) (eC (.int 0))) (eOp oIx (aE 0) (eC (.int 1))))))
abbrev zBm:Sv:=(dM (eOp oIx (aE 2) (eOp iY (eOp pG (aE 1) (eOp kT (eOp iY (aE 0) (eC (.int 7))) (eC (.int 5)))) (eC (.int 4)))))
def kC:Mir:=fn 2 3 (aW (cQ 2 (eF (mH (aB (eOp iY (eOp kT (aE 0) (eC (.int 7))) (eC (.int 13))) (aB (eOp iY (eOp kT (aE 0) (eC (.int 7))) (eC (.int 4))) (aB (eOp iY (eOp kT (aE 0) (eC (.int 7))) (eOp pG (eOp zDV (eC (.int 10)) (eC (.int 9))) (eC (.int 1)))) (aB (eOp mG (eOp iY (eOp kT (aE 0) (eC (.int 91))) (eC (.int 60))) (eOp zDV (eC (.int 10)) (eC (.int 6)))) aNil))))))) zBm)
abbrev wR:Sv:=(dM (jU aNil))
def fG:Mir:=fn 1 1 (aW (sIf (cX (eOp oEq (eOp oIx (aE 0) (eC (.int 0))) (eC (.str "pair")))) (dM (eOp oIx (aE 0) (eC (.int 1)))) sNext) wR)
abbrev zLX:Sv:=(dM (jU (aB (eOp kT (aE 0) (aE 2)) (aB (eOp kT (aE 1) (aE 2)) aNil))))
abbrev zLs:Sv:=(aW (sIf (cX (eOp oLt (aE 1) (eC (.int 0)))) (cQ 2 (eUn zRp (aE 2))) sNext) zLX)
abbrev zLS:Sv:=(aW (cQ 2 (aN eN (aB (aE 0) (aB (aE 1) aNil)))) zLs)
def kF:Mir:=fn 2 3 (aW (sIf (cX (eOp oEq (aE 1) (eC (.int 0)))) (mF "NoFraction" (aB (eC (.str "the bottom is nought")) aNil)) sNext) zLS)
def nA:Mir:=fn 2 2 (dM (eIf (cX (aN oB (aB (aE 0) (aB (aE 1) aNil)))) (aE 0) (aE 1)))
def cC:Mir:=fn 2 2 (dM (eOr (aN oB (aB (aE 0) (aB (eC pL) aNil))) (aN oB (aB (aE 1) (aB (aE 0) aNil)))))
abbrev zHe:Sv:=(vI (aN bI (aB (aE 0) (aB (aE 1) (aB (eB kU (aB (aE 2) aNil)) aNil)))))
abbrev zGY:Sv:=(aW (vI (aN fB (aB (aE 2) aNil))) zHe)
def rC:Mir:=fn 3 3 (aW (vI (aN dO (aB (aE 0) aNil))) zGY)
def aT:Mir:=fn 1 1 (dM (eIf (cX (aN cU (aB (aE 0) aNil))) (jU aNil) (eOp oIx (aE 0) (eC (.int 2)))))
abbrev zCv:Sv:=(dM (jU (aB (eOp kT (aE 0) (aE 2)) (aB (eOp kT (aE 1) (aE 2)) aNil))))
def bS:Mir:=fn 2 3 (aW (cQ 2 (aN iX (aB (eB zNJ (aB (aE 0) aNil)) (aB (aE 1) aNil)))) zCv)
def nL:Mir:=fn 2 2 (dM (aN kF (aB (eOp pG (eOp mG (eOp oIx (aE 0) (eC (.int 0))) (eOp oIx (aE 1) (eC (.int 1)))) (eOp mG (eOp oIx (aE 1) (eC (.int 0))) (eOp oIx (aE 0) (eC (.int 1))))) (aB (eOp mG (eOp oIx (aE 0) (eC (.int 1))) (eOp oIx (aE 1) (eC (.int 1)))) aNil))))
def kP:Mir:=fn 2 2 (dM (aN kF (aB (eOp vU (eOp mG (eOp oIx (aE 0) (eC (.int 0))) (eOp oIx (aE 1) (eC (.int 1)))) (eOp mG (eOp oIx (aE 1) (eC (.int 0))) (eOp oIx (aE 0) (eC (.int 1))))) (aB (eOp mG (eOp oIx (aE 0) (eC (.int 1))) (eOp oIx (aE 1) (eC (.int 1)))) aNil))))
def mW:Mir:=fn 2 2 (dM (aN kF (aB (eOp mG (eOp oIx (aE 0) (eC (.int 0))) (eOp oIx (aE 1) (eC (.int 0)))) (aB (eOp mG (eOp oIx (aE 0) (eC (.int 1))) (eOp oIx (aE 1) (eC (.int 1)))) aNil))))
def wU:Mir:=fn 2 2 (dM (aN kF (aB (eOp mG (eOp oIx (aE 0) (eC (.int 0))) (eOp oIx (aE 1) (eC (.int 1)))) (aB (eOp mG (eOp oIx (aE 0) (eC (.int 1))) (eOp oIx (aE 1) (eC (.int 0)))) aNil))))
def bY:Mir:=fn 2 2 (sIf (cX (aN cC (aB (aE 0) (aB (aE 1) aNil)))) (mF "Outside" (aB (eC (.str "below nought, or more than there can be")) aNil)) sNext)
def iA:Mir:=fn 2 2 (pO (zAf (zOW (aB (aE 1) (aB (aE 0) aNil))) (aN kF (aB (aE 2) (aB (aE 3) aNil)))))
abbrev zGN:Sv:=(cQ 0 (eOp oIx (aE 3) (aE 2)))
abbrev zHq:Sv:=(aW (sIf (zAz (cX (eOp oLt (aE 2) (eC (.int 0)))) (cX (eOp oGe (aE 2) (eB kU (aB (aE 3) aNil))))) (mF "Outside" (aB (eC (.str "there is no such kid")) aNil)) sNext) zGN)
abbrev fI:Sv:=(aW (cQ 3 (aN aT (aB (aE 0) aNil))) zHq)
abbrev zAu:Sv:=(dM (aE 0))
def gU:Mir:=fn 2 4 (aW (tV (vC (aE 1)) (gName 2) fI) zAu)
def bF:Mir:=fn 2 2 (dM (aN bS (aB (eOp pG (eOp mG (eOp oIx (aE 0) (eC (.int 0))) (eOp oIx (aE 1) (eC (.int 1)))) (eOp mG (eOp oIx (aE 1) (eC (.int 0))) (eOp oIx (aE 0) (eC (.int 1))))) (aB (eOp mG (eOp oIx (aE 0) (eC (.int 1))) (eOp oIx (aE 1) (eC (.int 1)))) aNil))))
abbrev zBp:Sv:=(dM (aN bS (aB (eOp iY (eOp kT (aE 1) (eC (.int 485))) (eOp pG (eOp mG (aE 0) (aE 2)) (eC (.int 1)))) (aB (aE 2) aNil))))
abbrev zBk:Sv:=(aW (cQ 2 (eOp oIx (eF (mH (aB (eC (.int 1)) (aB (eC (.int 1)) (aB (eC (.int 2)) (aB (eC (.int 12)) (aB (eOp pG (eC (.int 1)) (eOp iY (eOp kT (aE 1) (eC (.int 5))) (eC (.int 97)))) aNil))))))) (eOp iY (aE 1) (eC (.int 5))))) zBp)
def dX:Mir:=fn 2 3 (aW (cQ 1 (eOp iY (aE 1) (eOp zDV (eC (.int 10)) (eC (.int 40))))) zBk)
abbrev jH:Sv:=(dM (eOr (eOp oEq (aE 1) (aE 4)) (zRO (eOp oEq (aE 1) (jU (aB (eOp oIx (aE 2) (eC (.int 1))) (aB (eC (.int 1)) aNil)))) (aN bV (aB (aE 1) (aB (aE 4) aNil))))))
abbrev vF:Sv:=(dM (eUn zLn (aN bV (aB (aE 4) (aB (jU (aB (eOp oIx (aE 2) (eC (.int 0))) (aB (eC (.int 1)) aNil))) aNil)))))
abbrev vR:Sv:=(dM (eC (.bl true)))
abbrev fQ:Sv:=(aW (sIf (cX (aN bV (aB (aE 1) (aB (jU (aB (eOp oIx (aE 2) (eC (.int 1))) (aB (eC (.int 1)) aNil))) aNil)))) (aW (cQ 4 (aN bS (aB (eOp mG (eOp oIx (aE 1) (eC (.int 0))) (eOp oIx (aE 3) (eC (.int 0)))) (aB (eOp mG (eOp oIx (aE 1) (eC (.int 1))) (eOp oIx (aE 3) (eC (.int 1)))) aNil)))) vF) sNext) vR)
def bX:Mir:=fn 4 5 (aW (sIf (cX (aN bV (aB (aE 0) (aB (jU (aB (eOp oIx (aE 2) (eC (.int 0))) (aB (eC (.int 1)) aNil))) aNil)))) (aW (cQ 4 (aN bS (aB (eOp mG (eOp oIx (aE 0) (eC (.int 0))) (eOp oIx (aE 3) (eC (.int 1)))) (aB (eOp mG (eOp oIx (aE 0) (eC (.int 1))) (eOp oIx (aE 3) (eC (.int 0)))) aNil)))) jH) sNext) fQ)
abbrev zIX:Sv:=(cQ 1 (aN nL (aB (aE 1) (aB (aE 2) aNil))))
abbrev zDG:Sv:=(dM (aE 1))
abbrev zIi:Sv:=(aW (tV (vC (aE 0)) (gName 2) zIX) zDG)
def mV:Mir:=fn 1 3 (aW (cQ 1 (eC pL)) zIi)
abbrev zBj:Sv:=(cQ 2 (aN kP (aB (aE 2) (aB (aE 5) aNil))))
abbrev zBE:Sv:=(aW (zCo 3 (aE 5)) zBj)
abbrev rT:Sv:=(aW (cQ 5 (aN nA (aB (aE 2) (aB (aN cJ (aB (aE 4) aNil)) aNil)))) zBE)
abbrev zBB:Sv:=(jG 3)
abbrev zAH:Sv:=(aW (tV (vC (aE 0)) (gName 4) rT) zBB)
abbrev zAX:Sv:=(aW (zFY 3 (mH aNil)) zAH)
def iC:Mir:=fn 2 6 (aW (cQ 2 (aE 1)) zAX)
abbrev zN:Sv:=(zPk 4 vU (eOp oIx (aE 0) (aE 6)))
abbrev zC:Sv:=(aW (cQ 3 (zGs (aN kP (aB (aE 3) (aB (eOp oIx (aE 5) (aE 6)) aNil))))) zN)
abbrev yX:Sv:=(aW (zGE 5 (aE 6) (aN nA (aB (aE 7) (aB (aN cJ (aB (eOp oIx (aE 1) (aE 6)) aNil)) aNil)))) zC)
abbrev cS:Sv:=(aW (cQ 7 (aN wU (aB (aN mW (aB (aE 3) (aB (aN cJ (aB (eOp oIx (aE 0) (aE 6)) aNil)) aNil))) (aB (aN cJ (aB (aE 4) aNil)) aNil)))) yX)
abbrev lR:Sv:=(jG 5)
abbrev qE:Sv:=(zKV (aB (eF (fE iA (aB (aE 0) (aB (aE 1) aNil)))) aNil) pF (gName 6) cS lR)
abbrev zAb:Sv:=(aW (zFY 5 (zOV (mH (aB (eC pL) aNil)) (eB kU (aB (aE 1) aNil)))) qE)
abbrev zR:Sv:=(aW (cQ 4 (eB zCe (aB (aE 0) aNil))) zAb)
def eE:Mir:=fn 3 8 (aW (cQ 3 (aE 2)) zR)
abbrev zAa:Sv:=(pO (yC (vC (aE 0)) uC (aN mW (aB (aE 3) (aB (aN cJ (aB (aE 4) aNil)) aNil)))))
abbrev zG:Sv:=(aW (cQ 3 (aN wU (aB (aE 1) (aB (aN cJ (aB (aE 2) aNil)) aNil)))) zAa)
abbrev yW:Sv:=(aW (sIf (cX (eOp oEq (aE 2) (eC (.int 0)))) (pO (zOV (mH (aB (eC pL) aNil)) (eB kU (aB (aE 0) aNil)))) sNext) zG)
def gI:Mir:=fn 2 4 (aW (cQ 2 (eB zCe (aB (aE 0) aNil))) yW)
abbrev zEu:Sv:=(cQ 1 (aN bF (aB (aE 1) (aB (aE 2) aNil))))
abbrev xG:Sv:=(dM (aE 1))
abbrev zEn:Sv:=(aW (tV (vC (aE 0)) (gName 2) zEu) xG)
def fL:Mir:=fn 1 3 (aW (cQ 1 (jU (aB (eC (.int 0)) (aB (eC (.int 1)) aNil)))) zEn)
abbrev iH:Sv:=(sIf (cX (aN bV (aB (jU (aB (eOp oIx (aE 2) (aE 4)) (aB (eC (.int 1)) aNil))) (aB (eOp oIx (aE 3) (aE 4)) aNil)))) (dM (eC (.bl false))) sNext)
abbrev iD:Sv:=(dM (aN bX (aB (eOp oIx (aE 3) (eC (.int 0))) (aB (eOp oIx (aE 3) (eC (.int 1))) (aB (aE 2) (aB (eF (mH (aB (eC (.int 1)) (aB (eC (.int 1)) aNil)))) aNil))))))
abbrev tT:Sv:=(aW (tV (zDu (aB (eC (.int 2)) aNil)) (gName 4) iH) iD)
def cH:Mir:=fn 3 5 (aW (cQ 3 (eF (mH (aB (aN bS (aB (eOp mG (eC (.int 2)) (eOp oIx (aE 0) (eC (.int 0)))) (aB (eOp oIx (aE 0) (eC (.int 1))) aNil))) (aB (aN bS (aB (eOp mG (eC (.int 2)) (eOp oIx (aE 1) (eC (.int 0)))) (aB (eOp oIx (aE 1) (eC (.int 1))) aNil))) aNil))))) tT)
abbrev zY:Sv:=(pO (yC (vC (eF (fE eE (aB (aE 2) (aB (aE 0) (aB (aN nL (aB (aE 1) (aB (aE 1) aNil))) aNil)))))) uC (aN mW (aB (aE 3) (aB (eC d_HALF) aNil)))))
def gJ:Mir:=fn 2 3 (aW (cQ 2 (eF (zOV (mH (aB (eC (.int 1)) aNil)) (eB kU (aB (aE 0) aNil))))) zY)
abbrev gX:Sv:=(sIf (cX (eOp oLt (eOp oIx (aE 6) (eC (.int 0))) (eC (.int 0)))) (dM (eC (.bl false))) sNext)
abbrev qM:Sv:=(dM (aN cH (aB (eOp oIx (aE 5) (eC (.int 0))) (aB (eOp oIx (aE 5) (eC (.int 1))) (aB (aE 2) aNil)))))
abbrev eI:Sv:=(aW (sIf (cX (eOp oLe (eOp mG (eC (.int 2)) (eOp oIx (aE 7) (eC (.int 0)))) (eOp mG (eOp pG (eOp oIx (aE 2) (eC (.int 0))) (eOp oIx (aE 2) (eC (.int 1)))) (eOp oIx (aE 7) (eC (.int 1)))))) (dM (aN cH (aB (aE 3) (aB (aE 4) (aB (aE 2) aNil))))) sNext) qM)
abbrev kJ:Sv:=(aW (cQ 7 (aN bF (aB (aE 3) (aB (aE 4) aNil)))) eI)
abbrev kK:Sv:=(aW (sIf (cX (eOp oEq (aE 0) (eC (.str "lack")))) (dM (aN bX (aB (eOp oIx (aE 5) (eC (.int 0))) (aB (eOp oIx (aE 5) (eC (.int 1))) (aB (aE 2) (aB (aE 1) aNil)))))) sNext) kJ)
abbrev jX:Sv:=(aW (sIf (cX (eOp oEq (aE 0) (eC (.str "even")))) (dM (aN bX (aB (aE 3) (aB (aE 4) (aB (aE 2) (aB (aE 1) aNil)))))) sNext) kK)
abbrev lJ:Sv:=(aW (sIf (cX (eOp oEq (aE 0) (eC (.str "part")))) (dM (eOp oEq (eOp mG (eOp mG (eOp oIx (aE 3) (eC (.int 0))) (eOp oIx (aE 4) (eC (.int 1)))) (eOp oIx (aE 2) (eC (.int 1)))) (eOp mG (eOp mG (eOp oIx (aE 4) (eC (.int 0))) (eOp oIx (aE 3) (eC (.int 1)))) (eOp oIx (aE 2) (eC (.int 0)))))) sNext) jX)
abbrev lM:Sv:=(aW (sIf (cX (eOp oEq (aE 0) (eC (.str "back")))) (dM (eOr (eOp oEq (eOp oIx (eOp oIx (aE 5) (eC (.int 1))) (eC (.int 0))) (eC (.int 0))) (eOp oEq (eOp oIx (aE 3) (eC (.int 0))) (eC (.int 0))))) sNext) lJ)
abbrev bB:Sv:=(aW (sIf (cX (eOp oEq (aE 0) (eC (.str "row")))) (dM (eOr (eOp oEq (eOp oIx (eOp oIx (aE 5) (eC (.int 0))) (eC (.int 0))) (eC (.int 0))) (eOp oEq (eOp oIx (aE 4) (eC (.int 0))) (eC (.int 0))))) sNext) lM)
abbrev rS:Sv:=(aW (tV (vC (eF (zOU (eF (mH (aB (aE 3) (aB (aE 4) aNil)))) (aE 5)))) (gName 6) gX) bB)
def dI:Mir:=fn 5 8 (aW (cQ 5 (eF (mH (aB (aN bF (aB (jU (aB (eOp oIx (aE 2) (eC (.int 0))) (aB (eC (.int 1)) aNil))) (aB (jU (aB (eOp vU (eC (.int 0)) (eOp oIx (aE 3) (eC (.int 0)))) (aB (eOp oIx (aE 3) (eC (.int 1))) aNil))) aNil))) (aB (aN bF (aB (jU (aB (eOp oIx (aE 2) (eC (.int 1))) (aB (eC (.int 1)) aNil))) (aB (jU (aB (eOp vU (eC (.int 0)) (eOp oIx (aE 4) (eC (.int 0)))) (aB (eOp oIx (aE 4) (eC (.int 1))) aNil))) aNil))) aNil))))) rS)
abbrev rX(r:Mir):Sv:=(pO (zAf (zOW (aB (aE 2) (aB (aE 5) aNil))) (aN kP (aB (aN cJ (aB (aE 6) aNil)) (aB (aE 7) aNil)))))
abbrev rN(r:Mir):Sv:=(aW (cQ 5 (eF (fE r (aB (eUn (zDD bM) (aE 0)) (aB (aE 1) (aB (aE 2) (aB (aN kP (aB (aE 4) (aB (aE 3) aNil))) aNil))))))) (rX r))
abbrev uI(r:Mir):Sv:=(aW (sIf (zJr (cX (eOp oEq (aE 0) (eC (.str "half")))) (zDM (cX (aN oB (aB (aE 4) (aB (aN nL (aB (aE 3) (aB (aE 3) aNil))) aNil)))))) (pO (fE gJ (aB (aE 2) (aB (aE 3) aNil)))) sNext) (rN r))
abbrev uB(r:Mir):Sv:=(aW (sIf (cX (eOp oEq (aE 0) (eC (.str "part")))) (pO (fE gI (aB (aE 2) (aB (aE 3) aNil)))) sNext) (uI r))
abbrev tO(r:Mir):Sv:=(aW (sIf (cX (eOp oEq (aE 0) (eC (.str "even")))) (pO (fE eE (aB (aE 1) (aB (aE 2) (aB (aE 3) aNil))))) sNext) (uB r))
abbrev tG(r:Mir):Sv:=(aW (sIf (cX (eOp oEq (aE 0) (eC (.str "row")))) (pO (fE iC (aB (aE 2) (aB (aE 3) aNil)))) sNext) (tO r))
def aY(r:Mir):Mir:=fn 4 6 (aW (cQ 4 (aN cJ (aB (eB zCe (aB (aE 2) aNil)) aNil))) (tG r))
def aR:Nat->Mir
 | 0=>fn 4 6 sNo
 | n+1=>aY (aR n)
abbrev zJP:Sv:=(pO (fE (aR 2) (aB (aE 0) (aB (aE 1) (aB (aE 2) (aB (aE 3) aNil))))))
abbrev zIZ:Sv:=(aW (vI (aN bY (aB (aE 3) (aB (aN cJ (aB (eB zCe (aB (aE 2) aNil)) aNil)) aNil)))) zJP)
def lQ:Mir:=fn 4 4 (aW (vI (aN rC (aB (aE 0) (aB (aE 1) (aB (aE 2) aNil))))) zIZ)
abbrev zI(r:Mir):Sv:=(cQ 1 (eF (zOU (aE 1) (aN r (aB (aE 2) aNil)))))
abbrev zQ(r:Mir):Sv:=(dM (aE 1))
abbrev zK(r:Mir):Sv:=(aW (tV (vC (eOp oIx (aE 0) (eC (.int 2)))) (gName 2) (zI r)) (zQ r))
abbrev zF(r:Mir):Sv:=(aW (cQ 1 (eF (mH aNil))) (zK r))
def lO(r:Mir):Mir:=fn 1 3 (aW (sIf (cX (eOp oEq (eOp oIx (aE 0) (eC (.int 0))) (eC (.str "boat")))) (dM (eF (mH (aB (eOp oIx (aE 0) (eC (.int 1))) aNil)))) sNext) (zF r))
def bH:Nat->Mir
 | 0=>fn 1 3 sNo
 | n+1=>lO (bH n)
abbrev eT:Sv:=(dM (eUn zLn (aN dI (aB (aE 4) (aB (aE 8) (aB (aE 7) (aB (eOp oIx (aE 1) (aE 2)) (aB (eOp oIx (aE 1) (aE 3)) aNil))))))))
abbrev dN:Sv:=(aW (sIf (cX (eOp oGt (eB kU (aB (aE 5) aNil)) (eC (.int 0)))) (cQ 8 (eF (mH (aB (eOp oIx (aE 5) (aE 2)) (aB (eOp oIx (aE 5) (aE 3)) aNil))))) sNext) eT)
abbrev lE:Sv:=(aW (cQ 8 (eF (mH (aB (eC (.int 1)) (aB (eC (.int 1)) aNil))))) dN)
abbrev kZ:Sv:=(aW (cQ 7 (eF (mH (aB (eB zCe (aB (aN (bH 10) (aB (eOp oIx (aE 6) (aE 2)) aNil)) aNil)) (aB (eB zCe (aB (aN (bH 10) (aB (eOp oIx (aE 6) (aE 3)) aNil)) aNil)) aNil))))) lE)
def eK:Mir:=fn 4 9 (aW (zSK (zCc (fT (gName 4) (fT (gName 5) (fT (gName 6) zCd)))) (aE 0)) kZ)
abbrev zBJ:Sv:=(cQ 3 (eOp pG (aE 3) (aE 5)))
abbrev zBO:Sv:=(aW (zCo 2 (eF (fSl (aE 1) (oS (aE 3)) (oS (eOp pG (aE 3) (aE 5)))))) zBJ)
abbrev sJ:Sv:=(aW (cQ 5 (eB kU (aB (aN (bH 10) (aB (aE 4) aNil)) aNil))) zBO)
abbrev zBW:Sv:=(jG 2)
abbrev zAO:Sv:=(aW (tV (vC (eOp oIx (aE 0) (eC (.int 2)))) (gName 4) sJ) zBW)
abbrev zBD:Sv:=(aW (cQ 3 (eC (.int 0))) zAO)
def fX:Mir:=fn 2 6 (aW (zFY 2 (mH aNil)) zBD)
abbrev kL:Sv:=(sIf (cX (zAn oLe oLt (eC (.int 0)) (aE 8) (aE 7))) (cQ 5 (eOp oIx (eOp oIx (aE 5) (eC (.int 2))) (aE 8))) sNext)
abbrev oW:Sv:=(aW (cQ 4 (eOp kT (aE 4) (eOp pG (aE 7) (eC (.int 1))))) kL)
abbrev qB:Sv:=(aW (zCo 3 (aE 8)) oW)
abbrev qH:Sv:=(aW (cQ 8 (eOp vU (eOp iY (aE 4) (eOp pG (aE 7) (eC (.int 1)))) (eOp kT (eOp iY (eOp kT (aE 4) (eC (.int 50))) (eC (.int 6))) (eC (.int 5))))) qB)
abbrev lP:Sv:=(sIf (cX (eOp oNe (eOp oIx (aE 5) (eC (.int 0))) (eC (.str "boat")))) (aW (cQ 7 (eB kU (aB (eOp oIx (aE 5) (eC (.int 2))) aNil))) qH) sNext)
abbrev wV:Sv:=(jG 9)
abbrev xK:Sv:=(aW (zCo 9 (jU (aB (eC (.str "pair")) (aB (jU aNil) (aB (eOp oIx (eF (mH (aB (eC (.int 0)) (aB (aE 10) aNil)))) (eOp iY (eOp kT (aE 2) (eC (.int 3))) (eC (.int 2)))) (aB (eOp oIx (eF (mH (aB (aE 10) (aB (eC (.int 1)) aNil)))) (eOp iY (eOp kT (aE 2) (eC (.int 3))) (eC (.int 2)))) aNil)))))) wV)
abbrev yH:Sv:=(aW (zCo 9 (jU (aB (eC (.str "pair")) (aB (jU (aB (aE 10) aNil)) (aB (eC (.int 0)) (aB (eC (.int 1)) aNil)))))) xK)
abbrev wT:Sv:=(aW (zCo 9 (jU (aB (eC (.str "over")) (aB (aE 10) aNil)))) yH)
abbrev yB:Sv:=(aW (cQ 10 (eOp mG (eOp oIx (eF (mH (aB (eC (.int 1)) (aB (eOp vU (eC (.int 0)) (eC (.int 1))) aNil)))) (eOp iY (aE 2) (eC (.int 2)))) (eOp pG (eOp iY (eOp kT (aE 2) (eC (.int 7))) (eOp zDV (eC (.int 10)) (eC (.int 59)))) (eC (.int 7))))) wT)
abbrev wP:Sv:=(aW (zCo 9 (jU (aB (eC (.str "pair")) (aB (jU aNil) (aB (eOp iY (aE 4) (eC (.int 5))) (aB (eOp pG (eC (.int 1)) (eOp iY (eOp kT (aE 4) (eC (.int 5))) (eC (.int 5)))) aNil)))))) yB)
abbrev yP:Sv:=(aW (zCo 9 (jU (aB (eC (.str "pair")) (aB (eB zKr (aB (aE 3) aNil)) (aB (eC (.int 0)) (aB (eOp pG (eC (.int 1)) (eOp iY (aE 4) (eC (.int 3)))) aNil)))))) wP)
abbrev xC:Sv:=(aW (zCo 9 (jU (aB (eC (.str "pair")) (aB (aE 3) (aB (eOp vU (eOp iY (aE 4) (eC (.int 6))) (eC (.int 1))) (aB (eOp vU (eOp iY (eOp kT (aE 4) (eC (.int 6))) (eC (.int 6))) (eC (.int 1))) aNil)))))) yP)
abbrev xS:Sv:=(aW (zCo 9 (jU (aB (eC (.str "catch")) (aB (aN bF (aB (aN fL (aB (aE 1) aNil)) (aB (aN bS (aB (eOp vU (eOp iY (eOp kT (aE 2) (eC (.int 5))) (eC (.int 5))) (eC (.int 2))) (aB (eC (.int 3)) aNil))) aNil))) aNil)))) xC)
abbrev yD:Sv:=(aW (zFY 9 (mH (aB (jU (aB (eC (.str "over")) (aB (eOp vU (eOp iY (eOp kT (aE 2) (eC (.int 3))) (eOp pG (aE 7) (eC (.int 2)))) (eC (.int 1))) aNil))) (aB (jU (aB (eC (.str "catch")) (aB (aN fL (aB (aE 1) aNil)) aNil))) (aB (jU (aB (eC (.str "catch")) (aB (jU (aB (eOp vU (eC (.int 0)) (eC (.int 1))) (aB (eC (.int 3)) aNil))) aNil))) aNil))))) xS)
abbrev oP:Sv:=(sFrzAt 3 (aW (cQ 7 (eB kU (aB (aN (bH 10) (aB (aE 0) aNil)) aNil))) yD))
abbrev pQ:Sv:=(aW (tV (zDu (aB (eOp iY (aE 2) (eC (.int 5))) aNil)) (gName 6) lP) oP)
abbrev pZ:Sv:=(aW (cQ 5 (aE 0)) pQ)
abbrev qC:Sv:=(aW (cQ 4 (eOp kT (aE 2) (eC (.int 9)))) pZ)
abbrev pU:Sv:=(aW (zFY 3 (mH aNil)) qC)
def iS:Mir:=fn 3 11 (aW (cQ 2 (eOp iY (aE 2) (eOp zDV (eC (.int 10)) (eC (.int 45))))) pU)
abbrev zBf(r:Mir):Sv:=(zOT 1 (fE r (aB (aE 2) aNil)))
abbrev zBz(r:Mir):Sv:=(jG 1)
abbrev zAG(r:Mir):Sv:=(aW (tV (vC (aN aT (aB (aE 0) aNil))) (gName 2) (zBf r)) (zBz r))
abbrev zAD(r:Mir):Sv:=(aW (zFY 1 (mH aNil)) (zAG r))
def mI(r:Mir):Mir:=fn 1 3 (aW (sIf (cX (aN cU (aB (aE 0) aNil))) (pO (mH (aB (eOp oIx (aE 0) (eC (.int 1))) aNil))) sNext) (zAD r))
def bU:Nat->Mir
 | 0=>fn 1 3 sNo
 | n+1=>mI (bU n)
def sG(r:Mir):Mir:=fn 1 1 (dM (eOp pG (eC (.int 1)) (eOp (fun x y=>zFm [x,y]) (eF (yC (vC (aN aT (aB (aE 0) aNil))) uC (aN r (aB (aE 1) aNil)))) (eC (.int 0)))))
def kM:Nat->Mir
 | 0=>fn 1 1 sNo
 | n+1=>sG (kM n)
abbrev zEZ:Sv:=(cQ 0 (eOp oIx (eOp oIx (aE 0) (eC (.int 2))) (aE 3)))
abbrev zEd:Sv:=(aW (cQ 1 (eOp oIx (eF (fE fX (aB (aE 0) (aB (aE 1) aNil)))) (aE 3))) zEZ)
abbrev eU:Sv:=(aW (sIf (zAz (cX (eOp oEq (eOp oIx (aE 0) (eC (.int 0))) (eC (.str "boat")))) (zDM (cX (zAn oLe oLt (eC (.int 0)) (aE 3) (eB kU (aB (eOp oIx (aE 0) (eC (.int 2))) aNil)))))) (dM (eC .non)) sNext) zEd)
abbrev yJ:Sv:=(dM (jU (aB (aE 0) (aB (aE 1) aNil))))
def kI:Mir:=fn 3 4 (aW (tV (vC (aE 2)) (gName 3) eU) yJ)
abbrev zLC:Sv:=(dM (aE 3))
abbrev zKP:Sv:=(aW (sIf (zAz (cX (eOp oEq (eB kU (aB (aE 2) aNil)) (eC (.int 0)))) (zAz (cX (eOp oGt (eB kU (aB (eF (fE (bU 10) (aB (aE 3) aNil))) aNil)) (eC d_MOST_BOATS))) (cX (eOp oGt (aN (kM 10) (aB (aE 3) aNil)) (eC d_DEEPEST))))) (mF "TooMany" (aB (eC (.str "no kid, or too many boats, or too deep")) aNil)) sNext) zLC)
abbrev zLI:Sv:=(aW (cQ 3 (jU (aB (aE 0) (aB (eB zKr (aB (aE 1) aNil)) (aB (eB zKr (aB (aE 2) aNil)) aNil))))) zKP)
abbrev zLJ:Sv:=(aW (vI (aN bI (aB (aE 0) (aB (aE 1) (aB (eB kU (aB (aE 2) aNil)) aNil))))) zLI)
def zCh:Mir:=fn 3 4 (aW (vI (aN dO (aB (aE 0) aNil))) zLJ)
def dH:Mir:=fn 1 1 (dM (eB zCe (aB (eF (fE (bU 10) (aB (aE 0) aNil))) aNil)))
abbrev zHy:Sv:=(cQ 3 (aE 5))
abbrev zGA:Sv:=(aW (zCo 2 (zSN (aE 1) (oS (aE 3)) (oS (aE 5)))) zHy)
abbrev zAg:Sv:=(aW (cQ 5 (eOp pG (aE 3) (eB kU (aB (eF (fE (bU 10) (aB (aE 4) aNil))) aNil)))) zGA)
abbrev zHu:Sv:=(jG 2)
abbrev zHr:Sv:=(aW (tV (vC (aN aT (aB (aE 0) aNil))) (gName 4) zAg) zHu)
abbrev zHh:Sv:=(aW (cQ 3 (eC (.int 0))) zHr)
def iL:Mir:=fn 2 6 (aW (zFY 2 (mH aNil)) zHh)
def bQ:Mir:=fn 2 2 (sIf (cX (eOp oNe (eB kU (aB (aE 1) aNil)) (eB kU (aB (eF (fE (bU 10) (aB (aE 0) aNil))) aNil)))) (mF "Unlike" (aB (eC (.str "not as many amounts as boats")) aNil)) sNext)
abbrev zEO:Sv:=(dM (aN cC (aB (eOp oIx (aE 1) (aE 2)) (aB (aN cJ (aB (eOp oIx (eF (fE (bU 10) (aB (aE 0) aNil))) (aE 2)) aNil)) aNil))))
def kG:Mir:=fn 3 3 (aW (sIf (zAz (cX (eOp oLt (aE 2) (eC (.int 0)))) (cX (eOp oGe (aE 2) (eB kU (aB (aE 1) aNil))))) (dM (eC (.bl false))) sNext) zEO)
def gF:Mir:=fn 1 1 (pO (yC (vC (aN aT (aB (aE 0) aNil))) uC (aN dH (aB (aE 1) aNil))))
abbrev zB:Sv:=(cQ 0 (eOp oIx (aN aT (aB (aE 0) aNil)) (aE 3)))
abbrev fN:Sv:=(aW (cQ 1 (eOp oIx (eF (fE iL (aB (aE 0) (aB (aE 1) aNil)))) (aE 3))) zB)
abbrev qF:Sv:=(dM (aE 1))
def dS:Mir:=fn 3 4 (aW (tV (vC (aE 2)) (gName 3) fN) qF)
abbrev zBA:Sv:=(dM (eOp oNe (aE 9) (aE 5)))
abbrev iQ:Sv:=(aW (zGW "Outside" (zPf 9 lQ (aB (aN lH (aB (aE 0) aNil)) (aB (aE 8) (aB (aE 7) (aB (aN nL (aB (eOp oIx (aE 5) (eC (.int 0))) (aB (eOp oIx (aE 5) (eC (.int 1))) aNil))) aNil))))) (dM (eC (.bl true)))) zBA)
abbrev iW:Sv:=(aW (sIf (cX (eOp oGt (eB kU (aB (aE 8) aNil)) (eC (.int 0)))) (cQ 8 (eF (mH (aB (eOp oIx (aE 8) (aE 2)) (aB (eOp oIx (aE 8) (aE 3)) aNil))))) sNext) iQ)
abbrev uS:Sv:=(aW (cQ 8 (aN eG (aB (aE 0) aNil))) iW)
abbrev uK:Sv:=(aW (cQ 7 (eF (mH (aB (aN dH (aB (eOp oIx (aE 6) (aE 2)) aNil)) (aB (aN dH (aB (eOp oIx (aE 6) (aE 3)) aNil)) aNil))))) uS)
abbrev uW:Sv:=(aW (cQ 6 (aN aT (aB (aE 0) aNil))) uK)
abbrev uO:Sv:=(aW (cQ 5 (eF (mH (aB (aN mV (aB (eOp oIx (aE 4) (aE 2)) aNil)) (aB (aN mV (aB (eOp oIx (aE 4) (aE 3)) aNil)) aNil))))) uW)
def fH:Mir:=fn 4 10 (aW (cQ 4 (eF (fE iL (aB (aE 0) (aB (aE 1) aNil))))) uO)
abbrev zDd:Sv:=(cQ 5 (eOp kT (aE 5) (eC (.int 3))))
abbrev zDp:Sv:=(aW (zCo 3 (eOp pG (eC (.int 1)) (eOp iY (aE 5) (aE 4)))) zDd)
abbrev zCD:Sv:=(tV (vC (aE 1)) (gName 6) zDp)
abbrev zCV:Sv:=(aW (cQ 5 (eOp kT (aE 0) (eC (.int 24)))) zCD)
abbrev oZ:Sv:=(sFrzAt 3 (dM (aN zCh (aB (aE 2) (aB (aE 3) (aB (aE 1) aNil))))))
abbrev uR:Sv:=(aW (sIf (cX (eOp oIn (aE 2) (jU (aB (eC (.str "even")) (aB (eC (.str "lack")) aNil))))) (aW (cQ 4 (eOp oIx (eF (mH (aB (eC (.int 3)) (aB (eC (.int 3)) (aB (eC (.int 3)) (aB (eOp zDV (eC (.int 10)) (eC (.int 6))) aNil)))))) (eOp iY (eOp kT (aE 0) (eC (.int 6))) (eC (.int 4))))) zCV) sNext) oZ)
abbrev uP:Sv:=(aW (zFY 3 (mH aNil)) uR)
def iG:Mir:=fn 2 7 (aW (cQ 2 (eOp oIx (eF (mH (aB (eC (.str "even")) (aB (eC (.str "row")) (aB (eC (.str "lack")) (aB (eC (.str "half")) (aB (eC (.str "part")) (aB (eC (.str "back")) aNil)))))))) (eOp iY (aE 0) (eC (.int 6))))) uP)
abbrev zDs:Sv:=(dM (aN fH (aB (aE 6) (aB (aN dS (aB (aE 0) (aB (aE 1) (aB (aE 3) aNil)))) (aB (aE 4) (aB (aE 5) aNil))))))
abbrev zEs:Sv:=(aW (sIf (zAz (cX (eOp oLt (aE 4) (eC (.int 0)))) (zAz (cX (eOp oGe (aE 4) (aE 5))) (cX (eOp oGe (aE 5) (eB kU (aB (aN aT (aB (aE 6) aNil)) aNil)))))) (dM (eC (.bl false))) sNext) zDs)
abbrev zEA:Sv:=(aW (zGW "Outside" (zPf 6 gU (aB (aE 0) (aB (aE 3) aNil))) (dM (eC (.bl false)))) zEs)
abbrev zFf:Sv:=(aW (cQ 5 (eOp oIx (aE 2) (eC (.int 3)))) zEA)
abbrev zEh:Sv:=(aW (cQ 4 (eOp oIx (aE 2) (eC (.int 2)))) zFf)
def eA:Mir:=fn 3 7 (aW (cQ 3 (eOp oIx (aE 2) (eC (.int 1)))) zEh)
abbrev oA:Sv:=(sIf (cX (aN fH (aB (aE 0) (aB (aE 1) (aB (aE 4) (aB (aE 5) aNil)))))) (dM (jU (aB (eC d_PAIR) (aB (aE 2) (aB (aE 4) (aB (aE 5) aNil)))))) sNext)
abbrev gH:Sv:=(tV (zJb (aB (eOp pG (aE 4) (eC (.int 1))) (aB (aE 3) aNil))) (gName 5) oA)
abbrev uQ:Sv:=(dM (eC .non))
abbrev zDo:Sv:=(aW (tV (zDu (aB (aE 3) aNil)) (gName 4) gH) uQ)
def fZ:Mir:=fn 3 6 (aW (cQ 3 (eB kU (aB (aN aT (aB (aE 0) aNil)) aNil))) zDo)
abbrev yA:Sv:=(zFY 2 (zRF (zOU (eF (fSl (aE 2) oN (oS (eUn zRp (aE 8))))) (eF (mH (aB (aN iG (aB (eOp kT (aE 7) (eC (.int 12))) (aB (eF (fSl (aE 2) (oS (eUn zRp (aE 8))) oN)) aNil))) aNil))))))
abbrev xM:Sv:=(aW (cQ 8 (zGs (eOp pG (eC (.int 1)) (eOp iY (eOp kT (aE 7) (eC (.int 3))) (eB zRd (aB (eC (.int 4)) (aB (eB kU (aB (aE 2) aNil)) aNil))))))) yA)
abbrev xR:Sv:=(sIf (zJr (cX (eOp oEq (eOp iY (aE 7) (eC (.int 3))) (eC (.int 1)))) (cX (eOp oLt (aE 3) (eC (.int 5))))) (aW (cQ 3 (eOp pG (aE 3) (eC (.int 1)))) xM) sNext)
abbrev yE:Sv:=(aW (cQ 7 (eOp iY (aN dB (aB (aE 0) (aB (eOp pG (eC (.int 7)) (aE 5)) aNil))) (eOp zDV (eC (.int 10)) (eC (.int 30))))) xR)
abbrev zJ:Sv:=(aW (zCo 2 (aN zDm (aB (aN kC (aB (aE 6) (aB (eOp iY (eOp kT (aE 1) (eC (.int 6))) (eC (.int 3))) aNil))) aNil))) yE)
abbrev lV:Sv:=(aW (cQ 6 (eOp iY (aN dB (aB (aE 0) (aB (eOp pG (eC (.int 1)) (aE 5)) aNil))) (eOp zDV (eC (.int 10)) (eC (.int 30))))) zJ)
abbrev yL:Sv:=(dM (eOp oIx (aE 2) (eC (.int 0))))
abbrev oM:Sv:=(sFrzAt 2 (aW (sIf (zAz (cX (eOp oGt (eB kU (aB (aE 2) aNil)) (eC (.int 1)))) (cX (eOp oGt (eOp iY (eOp kT (aE 1) (eC (.int 18))) (eC (.int 4))) (eC (.int 0))))) (dM (aN iG (aB (eOp kT (aE 1) (eC (.int 72))) (aB (aE 2) aNil)))) sNext) yL))
abbrev iI:Sv:=(aW (tV (zDu (aB (aE 4) aNil)) (gName 5) lV) oM)
abbrev pX:Sv:=(aW (sIf (cX (eOp oEq (eOp iY (eOp kT (aE 1) (eC (.int 90))) (eC (.int 8))) (eC (.int 1)))) (cQ 4 (eOp pG (aE 4) (eC (.int 6)))) sNext) iI)
abbrev qD:Sv:=(aW (cQ 4 (eOp pG (eC (.int 1)) (eOp iY (aE 1) (eC (.int 6))))) pX)
abbrev pS:Sv:=(aW (cQ 3 (eC (.int 0))) qD)
abbrev pT:Sv:=(aW (zFY 2 (mH aNil)) pS)
def iT:Mir:=fn 1 9 (aW (cQ 1 (eOp iY (aN dB (aB (aE 0) (aB (eC (.int 0)) aNil))) (eOp zDV (eC (.int 10)) (eC (.int 30))))) pT)
abbrev uN(r:Mir):Sv:=(zOT 3 (fE r (aB (aE 4) (aB (aE 5) aNil))))
abbrev zDe(r:Mir):Sv:=(jG 3)
abbrev zDw(r:Mir):Sv:=(aW (tV (zOW (aB (aN aT (aB (aE 0) aNil)) (aB (aE 2) aNil))) (zCc (fT (gName 4) (fT (gName 5) zCd))) (uN r)) (zDe r))
abbrev zCS(r:Mir):Sv:=(aW (zFY 3 (mH aNil)) (zDw r))
abbrev zDb(r:Mir):Sv:=(aW (cQ 2 (eF (fE lQ (aB (aN lH (aB (aE 0) aNil)) (aB (aN eG (aB (aE 0) aNil)) (aB (eF (fE gF (aB (aE 0) aNil))) (aB (aE 1) aNil))))))) (zCS r))
def jW(r:Mir):Mir:=fn 2 6 (aW (sIf (cX (aN cU (aB (aE 0) aNil))) (pO (mH (aB (aE 1) aNil))) sNext) (zDb r))
def gC:Nat->Mir
 | 0=>fn 2 6 sNo
 | n+1=>jW (gC n)
abbrev zGI:Sv:=(pO (fE (gC 10) (aB (aE 0) (aB (aE 1) aNil))))
def jR:Mir:=fn 2 2 (aW (vI (aN bY (aB (aE 1) (aB (aN cJ (aB (aN dH (aB (aE 0) aNil)) aNil)) aNil)))) zGI)
abbrev zS(r:Mir):Sv:=(sIf (cX (zHi (aE 3))) (dM (aE 3)) sNext)
abbrev fM(r:Mir):Sv:=(aW (cQ 3 (aN r (aB (aE 6) (aB (eOp oIx (aE 4) (aE 5)) (aB (eOp pG (aE 2) (jU (aB (aE 5) aNil))) aNil))))) (zS r))
abbrev kE(r:Mir):Sv:=(dM (eC .non))
abbrev zV(r:Mir):Sv:=(aW (tV (zJt (aN aT (aB (aE 0) aNil))) (zCc (fT (gName 5) (fT (gName 6) zCd))) (fM r)) (kE r))
abbrev zE(r:Mir):Sv:=(aW (cQ 4 (eF (fE iL (aB (aE 0) (aB (aE 1) aNil))))) (zV r))
abbrev zAc(r:Mir):Sv:=(aW (sIf (cX (zHi (aE 3))) (dM (aE 3)) sNext) (zE r))
abbrev yS(r:Mir):Sv:=(aW (cQ 3 (aN fZ (aB (aE 0) (aB (aE 1) (aB (aE 2) aNil))))) (zAc r))
def bR(r:Mir):Mir:=fn 3 7 (aW (sIf (cX (aN cU (aB (aE 0) aNil))) (dM (eC .non)) sNext) (yS r))
def aU:Nat->Mir
 | 0=>fn 3 7 sNo
 | n+1=>bR (aU n)
abbrev lW:Sv:=(sIf (cX (aN cC (aB (eOp oIx (aE 1) (aE 2)) (aB (aN cJ (aB (aE 3) aNil)) aNil)))) (dM (jU (aB (eC d_OVER) (aB (aE 2) aNil)))) sNext)
abbrev zZ:Sv:=(dM (jU (aB (eC d_CATCH) (aB (aN mV (aB (aE 1) aNil)) aNil))))
abbrev zA:Sv:=(aW (sIf (cX (zHi (aE 4))) (dM (aE 4)) sNext) zZ)
abbrev iJ:Sv:=(aW (cQ 4 (aN (aU 10) (aB (aE 0) (aB (aE 1) (aB (jU aNil) aNil))))) zA)
abbrev yZ:Sv:=(aW (tV (zJt (eF (fE (bU 10) (aB (aE 0) aNil)))) (zCc (fT (gName 2) (fT (gName 3) zCd))) lW) iJ)
def dQ:Mir:=fn 2 5 (aW (vI (aN bQ (aB (aE 0) (aB (aE 1) aNil)))) yZ)
abbrev zCQ:Sv:=(dM (eOp oEq (eF (fE jR (aB (aE 0) (aB (aE 2) aNil)))) (eF (zBI (aB (aE 1) aNil)))))
def gG:Mir:=fn 3 3 (aW (sIf (cX (aN cC (aB (aE 2) (aB (aN cJ (aB (aN dH (aB (aE 0) aNil)) aNil)) aNil)))) (dM (eC (.bl false))) sNext) zCQ)
abbrev nK:Sv:=(zGE 3 (aE 6) (zGs (aN bF (aB (eOp oIx (aE 3) (aE 6)) (aB (jU (aB (eOp vU (eC (.int 0)) (eOp oIx (aE 7) (eC (.int 0)))) (aB (eOp oIx (aE 7) (eC (.int 1))) aNil))) aNil)))))
abbrev vD:Sv:=(jG 3)
abbrev eP:Sv:=(aW (sIf (cX (eOp oEq (aE 4) (eC (.int 7)))) (zGE 3 (aE 5) (zGs (aN bF (aB (eOp oIx (aE 3) (aE 5)) (aB (jU (aB (eOp mG (eOp oIx (aE 2) (aE 5)) (eOp oIx (eF (mH (aB (eC (.int 1)) (aB (eOp vU (eC (.int 0)) (eC (.int 1))) aNil)))) (eOp iY (eOp kT (aE 1) (eC (.int 19))) (eC (.int 2))))) (aB (eC (.int 1)) aNil))) aNil))))) sNext) vD)
abbrev dJ:Sv:=(aW (sIf (cX (eOp oEq (aE 4) (eC (.int 6)))) (zGE 3 (aE 5) (aN dX (aB (eOp oIx (aE 2) (aE 5)) (aB (eOp kT (aE 1) (eC (.int 17))) aNil)))) sNext) eP)
abbrev eZ:Sv:=(aW (sIf (cX (eOp oGt (aE 4) (eC (.int 3)))) (aW (zGE 3 (aE 5) (zGs (aN bF (aB (eOp oIx (aE 3) (aE 5)) (aB (aE 7) aNil))))) nK) sNext) dJ)
abbrev oF:Sv:=(aW (cQ 7 (aN bS (aB (eOp pG (eC (.int 1)) (eOp iY (eOp kT (aE 1) (eC (.int 11))) (eC (.int 3)))) (aB (eOp pG (eC (.int 1)) (eOp iY (eOp kT (aE 1) (eC (.int 13))) (eC (.int 5)))) aNil)))) eZ)
abbrev nS:Sv:=(aW (cQ 6 (eOp iY (eOp kT (aE 1) (eC (.int 336))) (eB kU (aB (aE 2) aNil)))) oF)
abbrev pA:Sv:=(aW (cQ 5 (eOp iY (eOp kT (aE 1) (eC (.int 56))) (eB kU (aB (aE 2) aNil)))) nS)
abbrev nU:Sv:=(aW (cQ 4 (eOp iY (aE 1) (eC (.int 8)))) pA)
abbrev oQ:Sv:=(aW (zFY 3 (fE jR (aB (aE 0) (aB (aN dX (aB (eB zCe (aB (aE 2) aNil)) (aB (eOp kT (aE 1) (eC (.int 8))) aNil))) aNil)))) nU)
abbrev oC:Sv:=(aW (cQ 2 (aN (bH 10) (aB (aE 0) aNil))) oQ)
def gO:Mir:=fn 2 8 (aW (cQ 1 (eOp iY (aE 1) (eOp zDV (eC (.int 10)) (eC (.int 45))))) oC)
abbrev zBy:Sv:=(dM (eOp oEq (eF (zBI (aB (aE 1) aNil))) (eF (fE jR (aB (aE 0) (aB (eOp oIx (aE 2) (eC (.int 1))) aNil))))))
abbrev zBd:Sv:=(dM (eOr (eOp oLt (eOp oIx (eOp oIx (aE 1) (eOp oIx (aE 2) (eC (.int 1)))) (eC (.int 0))) (eC (.int 0))) (aN bV (aB (jU (aB (eOp oIx (aE 3) (eOp oIx (aE 2) (eC (.int 1)))) (aB (eC (.int 1)) aNil))) (aB (eOp oIx (aE 1) (eOp oIx (aE 2) (eC (.int 1)))) aNil)))))
abbrev zP:Sv:=(dM (aN eK (aB (eOp oIx (aE 4) (eC (.int 0))) (aB (aE 5) (aB (eOp oIx (aE 2) (eC (.int 2))) (aB (eOp oIx (aE 2) (eC (.int 3))) aNil))))))
abbrev iN:Sv:=(aW (cQ 5 (eF (yC (vC (eF (fE fX (aB (eOp oIx (aE 4) (eC (.int 0))) (aB (eOp oIx (aE 4) (eC (.int 1))) aNil))))) uC (aN fL (aB (aE 6) aNil))))) zP)
abbrev dW:Sv:=(aW (sIf (zAz (cX (zPl (aE 4))) (zAz (cX (eOp oEq (eOp oIx (eOp oIx (aE 4) (eC (.int 0))) (eC (.int 0))) (eC (.str "boat")))) (zDM (cX (tQ oLe oLt oLt (eC (.int 0)) (eOp oIx (aE 2) (eC (.int 2))) (eOp oIx (aE 2) (eC (.int 3))) (eB kU (aB (eOp oIx (eOp oIx (aE 4) (eC (.int 0))) (eC (.int 2))) aNil))))))) (dM (eC (.bl false))) sNext) iN)
abbrev qA:Sv:=(aW (cQ 4 (aN kI (aB (aE 0) (aB (aE 1) (aB (eOp oIx (aE 2) (eC (.int 1))) aNil))))) dW)
abbrev rQ:Sv:=(aW (sIf (cX (eOp oEq (eOp oIx (aE 2) (eC (.int 0))) (eC (.str "over")))) (aW (sIf (zDM (cX (zAn oLe oLt (eC (.int 0)) (eOp oIx (aE 2) (eC (.int 1))) (eB kU (aB (aE 3) aNil))))) (dM (eC (.bl false))) sNext) zBd) sNext) qA)
abbrev sB:Sv:=(aW (sIf (cX (eOp oEq (eOp oIx (aE 2) (eC (.int 0))) (eC (.str "catch")))) (aW (sIf (zAz (cX (eOp oLt (eOp oIx (eOp oIx (aE 2) (eC (.int 1))) (eC (.int 0))) (eC (.int 0)))) (cX (aN bV (aB (jU (aB (eB zCe (aB (aE 3) aNil)) (aB (eC (.int 1)) aNil))) (aB (eOp oIx (aE 2) (eC (.int 1))) aNil))))) (dM (eC (.bl false))) sNext) zBy) sNext) rQ)
def cW:Mir:=fn 3 6 (aW (cQ 3 (aN (bH 10) (aB (aE 0) aNil))) sB)
abbrev zHR:Sv:=(dM (aN eA (aB (aE 0) (aB (aE 1) (aB (aE 2) aNil)))))
abbrev zIh:Sv:=(aW (sIf (cX (eOp oEq (eOp oIx (aE 2) (eC (.int 0))) (eC d_OVER))) (dM (aN kG (aB (aE 0) (aB (aE 1) (aB (eOp oIx (aE 2) (eC (.int 1))) aNil))))) sNext) zHR)
abbrev zJA:Sv:=(aW (sIf (cX (eOp oEq (eOp oIx (aE 2) (eC (.int 0))) (eC d_CATCH))) (dM (aN gG (aB (aE 0) (aB (aE 1) (aB (eOp oIx (aE 2) (eC (.int 1))) aNil))))) sNext) zIh)
def fV:Mir:=fn 3 3 (aW (vI (aN bQ (aB (aE 0) (aB (aE 1) aNil)))) zJA)
abbrev zLF:Sv:=(sIf (cX (eOp oNe (aN fV (aB (aE 1) (aB (eB zKr (aB (aE 3) aNil)) (aB (aE 4) aNil)))) (aE 7))) (dM (eC (.bl false))) sNext)
abbrev zLL:Sv:=(aW (sIf (zAz (cX (eOp oNe (aE 5) (aE 3))) (cX (eOp oNe (eF (zBI (aB (aN fG (aB (aE 4) aNil)) aNil))) (aE 6)))) (dM (eC (.bl false))) sNext) zLF)
abbrev zLM:Sv:=(aW (sIf (zAz (zDM (cX (zSH "bool" (aE 7)))) (cX (eOp oNe (aE 7) (aN cW (aB (aE 1) (aB (aE 3) (aB (aE 4) aNil))))))) (dM (eC (.bl false))) sNext) zLL)
abbrev zNQ:Sv:=(aW (cQ 7 (aN fV (aB (aE 1) (aB (aE 5) (aB (aE 4) aNil))))) zLM)
abbrev zOv:Sv:=(aW (cQ 6 (eF (zBI (aB (aN fG (aB (aE 4) aNil)) aNil)))) zNQ)
abbrev zBY:Sv:=(aW (cQ 5 (eF (zBI (aB (aE 3) aNil)))) zOv)
abbrev zIg:Sv:=(tV (vC (eF (fE iS (aB (aE 1) (aB (aE 3) (aB (aE 2) aNil)))))) (gName 4) zBY)
abbrev zJc:Sv:=(aW (sIf (cX (eUn zLn (aN fV (aB (aE 1) (aB (eF (zBI (aB (aE 3) aNil))) (aB (aN dQ (aB (aE 1) (aB (eF (zBI (aB (aE 3) aNil))) aNil))) aNil)))))) (dM (eC (.bl false))) sNext) zIg)
abbrev zEg:Sv:=(aW (cQ 3 (eF (fE gO (aB (aE 1) (aB (aE 2) aNil))))) zJc)
abbrev zFx:Sv:=(dM (eC (.bl true)))
abbrev zKn:Sv:=(aW (tV (vC (eF (zOU (eF (mH (aB (aN dB (aB (aE 0) (aB (eC (.int 13)) aNil))) aNil))) (eF (fSl (aE 0) (oS (eC (.int 13))) (oS (eC (.int 25)))))))) (gName 2) zEg) zFx)
def zNx:Mir:=fn 1 8 (aW (cQ 1 (aN iT (aB (aE 0) aNil))) zKn)
end Lw
namespace Lw
open L3 PySem Fr Fq Ln
local macro_rules | `(⋯)=>`(by omega)
local macro_rules | `(∅)=>`(by decide)
local macro_rules | `(tactic| erw[$r,*])=>do
 let t<-r.getElems.mapM fun x=>`(tactic| (symm;rw[$x:rwRule]))
 `(tactic| ($[$t]*))
def c_NOUGHT:pL=dq 0:=rfl
local macro_rules | `(tactic| symm)=>do
 let ids:Array (Lean.TSyntax `term):=(("c_NOUGHT d_WEIGHTED d_HALF d_BOAT d_MOST_BOATS d_DEEPEST d_CATCH d_OVER d_PAIR fn_at eSlQ_at slQF slQE_at slQG_l slQG_t enumF_t iZip_at sTryN_at tryN_ok retO_r iEnum_at enumF_l fComp2_at eChain_at chA chB chnF_t chnF_f chO_s oEq_s oNe_s oTabNot_s L3.start sSeq_at seqF_nx seqF_ret sSet_at setF sOwn_at ownF sRet_at retF sRetF_at retFF sRetOwn_at retS sRetN sIf_at ifF_t ifF_f sNext sNo sDrop_at dropF dropG eVar_at varS eC eOp_at opF eUn eCall_at callF rtF eB eTup_at tupF aCons_at consF consG aNil tVal_at blF tNotB_at notF tAndB_at tandF_t tandF_f tOrB_at torF_t torF_f eAnd_at andF_t andF_f eOr_at orF_t orF_f eIf_at eifF_t eifF_f eF_at efF fLst_at fLstF fCall_at fcallF rtFF fList_at fListF_l fListF_t fComp_at fRep_at repF fCat_at catF catG eFrz_at frzF fFrz_at fFrzF oN oS_at oSF fSl_at fSlF fSlG fSlH eIsN_at isNF eNotN_at notNF isNon sApp_at appS appF sExt_at extS extF sAug_at augS augF xSet_at xsetF setG sUnp_at unpF nxF bSum_l bSum_t gTup_at gtF_t gCons_at gNil_at gName sFor_at forF iSeq_at seqD_l seqD_t iRng1_at iRng2_at sFrz sFrzAt frzAt okb erb Rt.d fin oAdd_i oSub_i oMul_i oDiv_i oMod_i oPow_i oEq_i oNe_i oLt_i oLe_i oGt_i oGe_i oIx_tc dp_mk ty_dp len_dp ix_dp0 ix_dp1 dep_dp noL_dp oEq_dp oNe_dp noLs_dps oNeg_i oNot_b bAbs_i bLen_t bLen_l bMin_i bTup_t bTup_l eIsT_at isTF isT ty_i ty_t ty_l ty_b ty_s ty_n ofO_some atD sRaise_at raiseF Sl.frz noErr dep depS noL noLs Qg Vy Y9 Y4 Vs List.replicate Qk Xb List.getElem?_cons_zero List.getElem?_cons_succ List.set_cons_zero List.set_cons_succ Nat.reduceAdd Nat.reduceSub Nat.reduceLeDiff Nat.reduceEqDiff Q8 Yk Nat.max_self Vo if_true ite_true ite_false if_false Xc Bool.not_true Bool.not_false reduceIte ite_self Int.toNat_zero Int.reduceToNat Int.reduceLE Int.reduceLT Ym decide_true decide_false Bool.or_true Bool.or_false Bool.true_or Bool.false_or Wd Bool.true_and Bool.and_false Bool.false_and String.reduceBEq String.reduceEq beq_self_eq_true ix_dq0 ix_dq1 ty_dq dep_dq noL_dq len_dq eq_dq oEq_dq oNe_dq Qi okDiv_lit okMul_litr okMul_litl okp9 okp30 okp59 okp40 p10 fdiv_pos fmod_pos Int.reduceEq Int.reduceNeg p10ne p10ne2 p10pos2 Int.reduceMul Int.reduceAdd Int.reduceSub Int.reduceDiv Int.reduceMod eqD Nat.reduceLT Nat.reducePow ne_eq not_true_eq_false not_false_eq_true".splitOn " ").map fun s=>⟨Lean.mkIdent s.toName⟩).toArray
 `(tactic| simp only[$[$ids:term],*])
def vO(t b:Int):eN [.int t,.int b]=.ok (.v (.int (Int.gcd t b:Int))):=by
 unfold eN;symm
 refine zMj (fun ρ=>∃(x y:Int)(r:Sl),ρ=[.val (.int x),.val (.int y),r]/\0<=x/\0<=y/\Int.gcd x y=Int.gcd t b) (fun ρ=>(slI 1 ρ).toNat)
  (fun r=>(r.bind (yQ (dM (aE 0)))).bind fin=.ok (.v (.int (Int.gcd t b:Int)))) ⟨_,_,_,rfl,⋯,⋯,by simp[Int.gcd]⟩ ?_
 rintro ρ ⟨x,y,r,rfl,hx,hy,hg⟩
 by_cases h:y=0
 ·subst h
  refine .inl ⟨rfl,?_⟩
  have e:x=(Int.gcd t b:Int):=by
   rw[Int.gcd_zero_right] at hg;omega
  rw[<-e];rfl
 ·refine .inr ⟨?_,[.val (.int y),.val (.int (x.fmod y)),.val (.int (x.fmod y))],?_,⟨y,x.fmod y,_,rfl,hy,?_,?_⟩,?_⟩
  ·symm
   rw[Ji h];rfl
  ·symm
   rw[oMod_i h];symm
  ·rw[zEU _ hy];exact Qv _ h
  ·rw[zEU _ hy];exact(Fq.zFR hx ⋯).trans hg
  ·have:=Q5 x (show 0<y by omega)
   rw[zEU _ hy];show(x % y).toNat<y.toNat
   omega
def zQp{t b:Int}(hb:b≠0):(dv t b).natAbs<=b.natAbs:=Nat.le_of_dvd ⋯ (Int.natAbs_dvd_natAbs.mpr (zGl t b))
def zCM{t b:Int}{n:Nat}(hb:b≠0)(hn:b.natAbs<2^n)(h:n<=8999):kF [.int t,.int b]=.ok (.v (dq (Rat.divInt t b))):=by
 have hd:nN (dv t b)=true:=rD (zRk hb) (V7 (zQp hb) hn) h;have e0:decide (b=0)=false:=Ji hb;unfold kF;erw[e0,vO];symm;by_cases c:b<0
 ·have e:-(Int.gcd t b:Int)=dv t b:=by unfold dv;rw[Jj c]
  rw[J5 c];symm;rw[e,oDiv_i hd];erw[oDiv_i hd];symm;rw[zDy hb,zDN hb];rfl
 ·have e:(Int.gcd t b:Int)=dv t b:=by unfold dv;rw[Jk c]
  rw[Ji c];symm;rw[e,oDiv_i hd];erw[oDiv_i hd];symm;rw[zDy hb,zDN hb];rfl
def zSL(t:Int):kF [.int t,.int 0]=.err "NoFraction" := by
 unfold kF;symm
def zAe{p q:Rat}{m n:Nat}(hp:Sz m p)(hq:Sz n q)(h:m+n<=8999):nL [dq p,dq q]=.ok (.v (dq (p+q))):=by
 unfold nL;erw[oMul_i (bO hp.1 hq.d ⋯),oMul_i (bO hq.1 hp.d ⋯),oMul_i (bO hp.d hq.d ⋯)];symm;rw[zCM (Xm (hJ p) (hJ q)) (gZ hp.d hq.d) h,zKg];symm
def oV{p q:Rat}{m n:Nat}(hp:Sz m p)(hq:Sz n q)(h:m+n<=8999):kP [dq p,dq q]=.ok (.v (dq (p-q))):=by
 unfold kP;erw[oMul_i (bO hp.1 hq.d ⋯),oMul_i (bO hq.1 hp.d ⋯),oMul_i (bO hp.d hq.d ⋯)];symm;rw[zCM (Xm (hJ p) (hJ q)) (gZ hp.d hq.d) h,zMp];symm
def zFh{p q:Rat}{m n:Nat}(hp:Sz m p)(hq:Sz n q)(h:m+n<=8999):mW [dq p,dq q]=.ok (.v (dq (p*q))):=by
 unfold mW;erw[oMul_i (bO hp.1 hq.1 ⋯),oMul_i (bO hp.d hq.d ⋯)];symm;rw[zCM (Xm (hJ p) (hJ q)) (gZ hp.d hq.d) h,zMt];symm
def zMR{p q:Rat}{m n:Nat}(hp:Sz m p)(hq:Sz n q)(h0:q≠0)(h:m+n<=8999):wU [dq p,dq q]=.ok (.v (dq (p / q))):=by
 unfold wU;erw[oMul_i (bO hp.1 hq.d ⋯),oMul_i (bO hp.d hq.1 ⋯)];symm;rw[zCM (Xm (hJ p) (zML.mpr h0)) (gZ hp.d hq.1) h,zIL];symm
def xX{p q:Rat}{m n:Nat}(hp:Sz m p)(hq:Sz n q)(h:m+n<=99999):oB [dq p,dq q]=.ok (.v (.bl (decide (p<q)))):=by
 unfold oB;erw[oMul_i (bO hp.1 hq.d ⋯),oMul_i (bO hq.1 hp.d ⋯)];symm;simp only[lt_iff]
def mn(a b:Rat):Rat:=if a<b then a else b
def ps0(x:Rat):Rat:=if x<0 then 0 else x
def kH:List Int->Int->Rat->List Rat
 | [],_,_=>[]
 | c::r,a,q=>mn (ps0 (q-(a:Rat))) (c:Rat)::kH r (a+c) q
def zCw:∀(cs:List Int)(a:Int)(q:Rat),(kH cs a q).length=cs.length
 | [],_,_=>rfl
 | c::r,a,q=>by simp only[kH,Qk,zCw r]
def zOb{q:Rat}{a c:Int}(h:0<=c):ps0 (q-(a:Rat))-mn (ps0 (q-(a:Rat))) (c:Rat)=ps0 (q-((a+c:Int):Rat)):=by
 have h':(0:Rat)<=(c:Rat):=by exact_mod_cast h
 rw[Q6];unfold ps0 mn;grind
def eD{n:Nat}{k:Int}(h:k.natAbs<2^n)(h0:0<n):Sz n (k:Rat):=by
 refine⟨h,?_⟩
 show 1<2^n
 exact Nat.one_lt_two_pow ⋯
def zRy{n:Nat}{q:Rat}(h:Sz n q)(h0:0<n):Sz n (ps0 q):=by
 unfold ps0;split
 ·exact eD (k:=0) (Nat.two_pow_pos n) h0
 ·exact h
def zOu{n:Nat}{p q:Rat}(h:Sz n p)(h':Sz n q):Sz n (mn p q):=by
 unfold mn;split
 ·exact h
 ·exact h'
def cZ(k:Int):cJ [.int k]=.ok (.v (dq (k:Rat))):=by
 unfold cJ;erw[zPT]
def zFr{p q:Rat}{m n:Nat}(hp:Sz m p)(hq:Sz n q)(h:m+n<=99999):nA [dq p,dq q]=.ok (.v (dq (mn p q))):=by
 unfold nA;erw[xX hp hq h];symm;unfold mn;by_cases c:p<q
 ·rw[J5 c,Jj c]
  symm
 ·rw[Ji c,Jk c]
  symm
structure Cl (cs:List Int):Prop where
 nn:∀ c∈cs,0<=c
 up:∀ c∈cs,c<10^30
 lo:1<=cs.length
 hi:cs.length<=12
def zMe:∀ {cs:List Int},(∀ c∈cs,0<=c)->(∀ c∈cs,c<10^30)->0<=cs.sum/\cs.sum<=cs.length*10^30
 | [],_,_=>∅
 | c::r,h,h'=>by
  have ih:=zMe (fun x hx=>h x (Qd _ hx)) fun x hx=>h' x (Qd _ hx)
  have a:=h c Qe;have b:=h' c Qe;rw[Qn,Qk];refine⟨⋯,?_⟩
  have:((r.length+1:Nat):Int)*10^30=(r.length:Int)*10^30+10^30:=by rw[Xq,X2];rfl
  omega
def Cl.sum{cs:List Int}(h:Cl cs):0<=cs.sum/\cs.sum<2^104:=by
 have a:=zMe h.nn h.up;have b:=h.hi;refine⟨a.1,?_⟩
 omega
structure Haul (m:Nat) (q:Rat) (W:Int):Prop where
 nn:0<=q
 up:q<=(W:Rat)
 sz:Sz m q
def zFM{d:D}{q:Rat}{m:Nat}(hm:m<=3000)(hq:Sz m q):∀(cs:List Int)(a:Int)(acc:List D)(s t:Sl),(∀ c∈cs,0<=c)->(∀ c∈cs,c<10^30)->0<=a->a+cs.length*10^30<2^110->acc.length+cs.length<=100->
  ∃ l' s' t',loop (gName 4) rT (cs.map D.int) [.val d,.val (dq q),.val (dq (ps0 (q-(a:Rat)))),.own acc,s,t]=.ok (.nx [.val d,.val (dq q),l',.own (acc++(kH cs a q).map dq),s',t'])
 | [],a,acc,s,t,_,_,_,_,_=>⟨.val (dq (ps0 (q-(a:Rat)))),s,t,by rw[Vy,loop];simp[kH]⟩
 | c::r,a,acc,s,t,h1,h2,h3,h4,h5=>by
  have c0:=h1 c Qe;have c1:=h2 c Qe;rw[Qk] at h4 h5;have e4:((r.length+1:Nat):Int)*10^30=(r.length:Int)*10^30+10^30:=by rw[Xq,X2];rfl
  have r0:0<=(r.length:Int)*10^30:=Ua ⋯ ∅
  have zl:Sz (m+111) (ps0 (q-(a:Rat))):=zRy (hq.sub (eD (n:=110) ⋯ ∅)) ⋯
  have zc:Sz (m+111) (c:Rat):=Sz.mono (m:=110) (eD ⋯ ∅) ⋯
  obtain⟨l',s',t',e⟩:=zFM hm hq r (a+c) (acc++[dq (mn (ps0 (q-(a:Rat))) (c:Rat))]) (.val (.int c)) (.val (dq (mn (ps0 (q-(a:Rat))) (c:Rat)))) (fun x hx=>h1 x (Qd _ hx)) (fun x hx=>h2 x (Qd _ hx)) ⋯ ⋯ (by rw[Ql,X0];omega)
  refine⟨l',s',t',?_⟩
  rw[Qg,cD (ρ1:=[.val d,.val (dq q),.val (dq (ps0 (q-(a:Rat)))),.own acc,.val (.int c),t]) rfl,e]
  ·rw[kH,Qg,V5];rfl
  ·symm
   rw[cZ];erw[zFr zl zc ⋯,Jj ⋯,oV zl (zOu zl zc) ⋯,zOb c0]
def zEP{d:D}{cs:List Int}{q:Rat}(hd:d=.lst (cs.map D.int)∨d=.tup (cs.map D.int)){m:Nat}(hm:m<=3000)(hc:Cl cs)(hq:Sz m q)(h0:0<=q):iC [d,dq q]=.ok (.f ((kH cs 0 q).map dq)):=by
 have sq:zKv d=.ok (cs.map D.int):=by rcases hd with rfl | rfl<;>rfl
 have:=hc.hi
 obtain⟨l',s',t',e⟩:=zFM (d:=d) hm hq cs 0 [] .un .un hc.nn hc.up ∅ ⋯ (by rw[Xb];omega)
 have z:ps0 (q-((0:Int):Rat))=q:=by
  unfold ps0;rw[show((0:Int):Rat)=0 from rfl];grind
 rw[z] at e;unfold iC;erw[sq,e];rfl
def zAW(cs:List Int)(q:Rat):List Rat:=cs.map fun c=>Rat.divInt (c*q.num) (max 1 cs.sum*q.den)
def zJR{q:Rat}{c W:Int}(h:0<W):q / (W:Rat)*(c:Rat)=Rat.divInt (c*q.num) (W*q.den):=by
 have hW:(W:Rat)≠0:=by
  intro z;have:W=0:=by exact_mod_cast z
  omega
 rw[<-zIL q (W:Rat)];show Rat.divInt (q.num*((1:Nat):Int)) (q.den*W)*(c:Rat)=_
 rw[show((1:Nat):Int)=1 from rfl,Vv,<-V6 (c:Rat),Uy];show Rat.divInt (q.num*c) (q.den*W*((1:Nat):Int))=_
 rw[show((1:Nat):Int)=1 from rfl,Vv,X3 q.num,X3 (q.den:Int)]
def pN:∀ {cs:List Int},(∀ c∈cs,0<=c)->cs.sum=0->∀ c∈cs,c=0
 | [],_,_,c,h=>by cases h
 | d::r,h,e,c,hc=>by
  rw[Qn] at e;have h0:=h d Qe
  have hr:0<=r.sum:=by
   have:∀ l:List Int,(∀ c∈l,0<=c)->0<=l.sum:=by
    intro l
    induction l with
    | nil=>intro _;decide
    | cons a l ih=>intro hl;rw[Qn];have:=hl a Qe;have:=ih fun x hx=>hl x (Qd _ hx);omega
   exact this r fun x hx=>h x (Qd _ hx)
  rcases Qc.mp hc with rfl | hc
  ·omega
  ·exact pN (fun x hx=>h x (Qd _ hx)) ⋯ c hc
def zDS{d:D}{cs:List Int}{q:Rat}(hd:d=.lst (cs.map D.int)∨d=.tup (cs.map D.int)){m:Nat}(hm:m<=3000)(hc:Cl cs)(hq:Sz m q):gI [d,dq q]=.ok (.f ((zAW cs q).map dq)):=by
 have sm:=hc.sum;have hi:=hc.hi;have sq:zKv d=.ok (cs.map D.int):=by rcases hd with rfl | rfl<;>rfl
 have su:zCe [d]=.ok (.int cs.sum):=by rcases hd with rfl | rfl;exact bSum_l;exact bSum_t
 have ln:kU [d]=.ok (.int cs.length):=by rcases hd with rfl | rfl<;>(symm)
 unfold gI;erw[su];symm;by_cases c0:cs.sum=0
 ·rw[J5 c0]
  erw[ln,zJd ⋯];symm
  have e:(zAW cs q).map dq=List.replicate cs.length (dq 0):=by
   unfold zAW;rw[Q4,<-List.map_const'];refine Xa fun c h=>?_
   have c0:=pN hc.nn c0 c h;subst c0;show dq (Rat.divInt (0*q.num) _)=dq 0
   rw[Int.zero_mul,Rat.zero_divInt]
  rw[e]
 ·rw[Ji c0]
  symm;have W0:0<cs.sum:=⋯
  have zW:Sz 110 (cs.sum:Rat):=eD ⋯ ∅
  have nW:(cs.sum:Rat)≠0:=by
   intro z;have:cs.sum=0:=by exact_mod_cast z
   omega
  rw[cZ];erw[zMR hq zW nW ⋯,sq];symm
  rw[wE (u:=D.int) (g:=fun c=>dq (Rat.divInt (c*q.num) (max 1 cs.sum*q.den))) ⋯ (fun c h=>by
   have c0:=hc.nn c h;have c1:=hc.up c h;erw[cZ,zFh (hq.div zW nW) (eD (n:=110) (k:=c) ⋯ ∅) ⋯];symm
   rw[zJR W0,Int.max_eq_right ⋯])]
  symm;unfold zAW;rw[Q4];rfl
def qW(f:Nat->Rat)(l:List Nat):Rat:=(l.map f).sum
def cG(f:Nat->Rat)(i:Nat)(l:List Nat):qW f (i::l)=f i+qW f l:=by unfold qW;rw[Qg,Qn]
def rE(f:Nat->Rat):qW f []=0:=rfl
def zFd{f g:Nat->Rat}:∀ {l:List Nat},(∀ i∈l,f i<=g i)->qW f l<=qW g l
 | [],_=>Vi
 | i::l,h=>by
  rw[cG,cG];have a:=h i Qe;have b:=zFd fun j hj=>h j (Qd _ hj)
  grind
def zAN{f g:Nat->Rat}:∀ {l:List Nat},(∀ i∈l,f i<=g i)->qW f l=qW g l->∀ i∈l,f i=g i
 | [],_,_,i,hi=>by cases hi
 | j::l,h,e,i,hi=>by
  rw[cG,cG] at e;have a:=h j Qe;have hb:∀ i∈l,f i<=g i:=fun k hk=>h k (Qd _ hk)
  have b:=zFd hb;rcases Qc.mp hi with rfl | hi
  ·grind
  ·exact zAN hb (by grind) i hi
def zCX{f:Nat->Rat}{l m:List Nat}(h:l.Perm m):qW f l=qW f m:=by
 induction h with
 | nil=>rfl
 | cons x _ ih=>rw[cG,cG,ih]
 | swap x y l=>rw[cG,cG,cG,cG];grind
 | trans _ _ h1 h2=>rw[h1,h2]
def mD{w:Nat->Rat}{t:Rat}:∀ {l:List Nat},qW (fun i=>w i*t) l=t*qW w l
 | []=>by rw[rE,rE];grind
 | i::l=>by rw[cG,cG,mD];grind
def zAt{f g:Nat->Rat}{l:List Nat}(h:∀ i∈l,f i=g i):qW f l=qW g l:=by unfold qW;rw[Xa h]
def zLa{w:Nat->Rat}:∀ {l:List Nat},(∀ i∈l,0<w i)->0<=qW w l
 | [],_=>Vi
 | i::l,h=>by
  rw[cG];have a:=h i Qe;have b:=zLa fun j hj=>h j (Qd _ hj)
  grind
def dY(c w:Nat->Rat)(t:Rat)(i:Nat):Rat:=mn (w i*t) (c i)
def zRV{a b c d:Rat}(h:a<=c)(h':b<=d):mn a b<=mn c d:=by unfold mn;grind
def sF{c w:Nat->Rat}{t u:Rat}{i:Nat}(hw:0<w i)(h:t<=u):dY c w t i<=dY c w u i:=
 zRV (Yz h (Vu hw)) Vi
def zAI{c w:Nat->Rat}{t u:Rat}{l:List Nat}(hw:∀ i∈l,0<w i)(h:qW (dY c w t) l=qW (dY c w u) l):∀ i∈l,dY c w t i=dY c w u i:=by
 rcases Ub (a:=t) (b:=u) with g | g
 ·exact zAN (fun i hi=>sF (hw i hi) g) h
 ·exact fun i hi=>(zAN (fun i hi=>sF (hw i hi) g) h.symm i hi).symm
def zJJ{L W w c:Rat}(hW:0<W)(h:L*w / W<c):mn (L*w / W) c=mn (w*(L / W)) c/\mn (w*(L / W)) c=w*(L / W):=by
 have e:L*w / W=w*(L / W):=by grind
 rw[e] at h ⊢
 exact⟨rfl,Jj h⟩
def zJh{r W w c:Rat}(hW:W≠0)(h:w*r<=c):mn (r*W*w / W) c=w*r:=by
 have e:r*W*w / W=w*r:=by grind
 rw[e];unfold mn;grind
def zIy{ci wi cj wj r:Rat}(h1:0<wi)(h2:0<wj)(h:ci*wj<=cj*wi)(hr:wi*r<=ci):wj*r<=cj:=by
 have a:wi*r*wj<=ci*wj:=Xr hr (Vu h2)
 have b:wj*r*wi<=cj*wi:=by
  have:wj*r*wi=wi*r*wj:=by grind
  rw[this];exact Uc a h
 exact Yn b h1
def zGP{L W w c b:Rat}(hw:0<w)(h:¬ L*w / W<c)(hW:0<W)(hb:b*W<=L):∃ b',b<=b'/\c<=w*b'/\b' * (W-w)<=L-c:=by
 have h1:c*W<=L*w:=by
  have h':=Qr.mp h;have:=Xr h' (Vu hW)
  rwa [Xf (by grind)] at this
 have e1:w*(c / w)=c:=by grind
 have e2:c / w*(W-w)=c*W / w-c:=by grind
 have e3:c*W / w<=L:=by
  have a:c*W / w*w<=L*w:=by rw[Xf (by grind)];exact h1
  exact Yn a hw
 rcases Ub (a:=b) (b:=c / w) with g | g
 ·exact⟨c / w,g,by rw[e1];exact Vi,by rw[e2];grind⟩
 ·refine⟨b,Vi,?_,?_⟩
  ·have:=Yz g (Vu hw)
   rwa [e1] at this
  ·have:=Yz g (Vu hw)
   rw[e1] at this;grind
structure Wt (ws cs:List Int):Prop where
 len:ws.length=cs.length
 lo:∀ w∈ws,1<=w
 up:∀ w∈ws,w<=10^6
def cR(cs:List Int)(i:Nat):Rat:=((cs.getD i 0:Int):Rat)
def rY:List (Nat×Rat)->List D->List D
 | [],am=>am
 | p::r,am=>rY r (am.set p.1 (dq p.2))
def wS(ws:List Int)(r:List Nat):Int:=(r.map fun i=>ws.getD i 0).sum
def sU(ws:List Int)(i:Nat)(r:List Nat):wS ws (i::r)=ws.getD i 0+wS ws r:=by unfold wS;rw[Qg,Qn]
def aZ{l:List Int}{i:Nat}(h:i<l.length):l[i]?=some (l.getD i 0):=by rw[Qs,Qj h];rfl
def zPb{i:Nat}{k e:Ev}{ρ:Rho}{ds:List D}{d:D}{j:Nat}(h1:e ρ=.ok d)(h2:ρ[i]?=some (.own ds))(h3:k ρ=.ok (.int (j:Int)))(h4:j<ds.length):zGE i k e ρ=.ok (.nx (ρ.set i (.own (ds.set j d)))):=by
 unfold zGE;rw[h1];show(match ρ[i]? with | some (.own ds)=>_ | _=>_)=_
 rw[h2];show(k ρ).bind _=_
 rw[h3];exact Jj ⟨Q2 j,⋯⟩
def zQw{ds:List D}{d:D}{i:Nat}(h:i<ds.length):oIx (.lst (ds.set i d)) (.int (i:Int))=.ok d:=by
 have e:=nH (f:=id) (l:=ds.set i d) (i:=(i:Int)) (a:=d) (Q2 i) (show(ds.set i d)[i]?=some d from Vk h)
 rwa [List.map_id] at e
def Wt.at{ws cs:List Int}(h:Wt ws cs){i:Nat}(hi:i<cs.length):1<=ws.getD i 0/\ws.getD i 0<=10^6:=by
 have:=aZ (l:=ws) (i:=i) (by rw[h.len];exact hi)
 exact⟨h.lo _ (Qf this),h.up _ (Qf this)⟩
def Wt.sum{ws cs:List Int}(h:Wt ws cs):∀ {r:List Nat},(∀ i∈r,i<cs.length)->(r.length:Int)<=wS ws r/\wS ws r<=r.length*10^6
 | [],_=>⟨Ym _,Ym _⟩
 | i::r,hi=>by
  have a:=h.at (hi i Qe);have b:=h.sum fun j hj=>hi j (Qd _ hj)
  rw[sU,Qk];omega
def Sq(d:D)(l:List Int):Prop:=d=.lst (l.map D.int)∨d=.tup (l.map D.int)
def Sq.ix{d:D}{l:List Int}(h:Sq d l){i:Nat}(hi:i<l.length):oIx d (.int (i:Int))=.ok (.int (l.getD i 0)):=by
 rcases h with rfl | rfl
 ·exact nH (Q2 i) (aZ hi)
 ·exact qK (Q2 i) (aZ hi)
def Sq.sum{d:D}{l:List Int}(h:Sq d l):zCe [d]=.ok (.int l.sum):=by
 rcases h with rfl | rfl
 ·exact bSum_l
 ·exact bSum_t
def Sq.len{d:D}{l:List Int}(h:Sq d l):kU [d]=.ok (.int l.length):=by
 rcases h with rfl | rfl
 ·rw[bLen_l,Qi]
 ·rw[bLen_t,Qi]
def Sq.seq{d:D}{l:List Int}(h:Sq d l):zKv d=.ok (l.map D.int):=by
 rcases h with rfl | rfl<;>rfl
def Sq.seqo{d:D}{l:List Int}(h:Sq d l):zKx d=some (l.map D.int):=by
 rcases h with rfl | rfl<;>rfl
def zHH{ws cs:List Int}{wd cd:D}(sw:Sq wd ws)(sc:Sq cd cs){qv s7:Sl}{L:Rat}{W:Int}{i:Nat}{am:List D}(hW:Wt ws cs)(hc:∀ c∈cs,0<=c/\c<10^30){m:Nat}(hm:m<=3000)(hL:Sz (m+250) L)(W0:0<W)(W1:W<=12*10^6)(hi:i<cs.length)(ha:am.length=cs.length){a:Rat}(ea:mn (L*cR ws i / (W:Rat)) (cR cs i)=a):
  cS [.val wd,.val cd,qv,.val (dq L),.val (.int W),.own am,.val (.int (i:Nat)),s7]=
   .ok (.nx [.val wd,.val cd,qv,.val (dq (L-a)),.val (.int (W-ws.getD i 0)),.own (am.set i (dq a)),.val (.int (i:Nat)),.val (dq (L*cR ws i / (W:Rat)))]):=by
 have hiw:i<ws.length:=by rw[hW.len];exact hi
 obtain⟨w1,w2⟩:=hW.at hi;obtain⟨c1,c2⟩:=hc _ (Qf (aZ hi));have zW:Sz 24 (W:Rat):=eD ⋯ ∅
 have zw:Sz 20 (cR ws i):=eD ⋯ ∅
 have zc:Sz (m+294) (cR cs i):=Sz.mono (m:=100) (eD ⋯ ∅) ⋯
 have nW:(W:Rat)≠0:=by
  intro z;have:W=0:=by exact_mod_cast z
  omega
 have fw:cJ [.int (ws.getD i 0)]=.ok (.v (dq (cR ws i))):=cZ _;have fc:cJ [.int (cs.getD i 0)]=.ok (.v (dq (cR cs i))):=cZ _;have zx:Sz (m+294) (L*cR ws i / (W:Rat)):=((hL.mul zw).div zW nW).mono ⋯
 erw[sw.ix hiw,fw,zFh hL zw ⋯,cZ,zMR (hL.mul zw) zW nW ⋯];symm
 rw[zPb (j:=i) (d:=dq a) (ds:=am) (by
  erw[sc.ix hi,fc];symm;rw[zFr zx zc ⋯,ea]
  symm) rfl rfl ⋯]
 erw[zQw ⋯,oV hL (ea ▸ zOu zx zc) ⋯,sw.ix hiw];symm
def tH(ws:List Int):∀ r:List Nat,qW (cR ws) r=(wS ws r:Rat)
 | []=>rfl
 | i::r=>by rw[cG,tH ws r,sU,Q6];rfl
def zCx{ws cs:List Int}{wd cd:D}(sw:Sq wd ws)(sc:Sq cd cs){qv:Sl}{r:Rat}{m:Nat}(hm:m<=3000)(hW:Wt ws cs)(hc:∀ c∈cs,0<=c/\c<10^30)(hr:Sz (m+150) r):∀(s:List Nat)(am:List D)(s6 s7:Sl),(∀ i∈s,i<cs.length)->(∀ i∈s,cR ws i*r<=cR cs i)->s.length<=12->am.length=cs.length->
  ∃ l' W' s' t',loop (gName 6) cS (oK s) [.val wd,.val cd,qv,.val (dq (r*(wS ws s:Rat))),.val (.int (wS ws s)),.own am,s6,s7]=
   .ok (.nx [.val wd,.val cd,qv,l',W',.own (rY (s.map fun i=>(i,cR ws i*r)) am),s',t'])
 | [],am,s6,s7,_,_,_,_=>⟨_,_,_,_,rfl⟩
 | i::s,am,s6,s7,h1,h2,h4,h5=>by
  have hi:=h1 i Qe;obtain⟨W1,W2⟩:=hW.sum h1;rw[Qk] at h4 W1 W2;have zW:Sz 24 (wS ws (i::s):Rat):=eD ⋯ ∅
  have nW:(wS ws (i::s):Rat)≠0:=by
   intro z;have:wS ws (i::s)=0:=by exact_mod_cast z
   omega
  have e1:wS ws (i::s)-ws.getD i 0=wS ws s:=by rw[sU];omega
  have e2:r*(wS ws (i::s):Rat)-cR ws i*r=r*(wS ws s:Rat):=by
   rw[sU,Q6];show r*(cR ws i+(wS ws s:Rat))-cR ws i*r=_
   grind
  have tn:=zHH sw sc (qv:=qv) (s7:=s7) (W:=wS ws (i::s)) (am:=am) hW hc hm ((hr.mul zW).mono ⋯) ⋯ ⋯ hi h5 (zJh nW (h2 i Qe))
  rw[e1,e2] at tn;obtain⟨l',W',s',t',e⟩:=zCx sw sc hm hW hc hr s (am.set i (dq (cR ws i*r))) _ _ (fun j hj=>h1 j (Qd _ hj)) (fun j hj=>h2 j (Qd _ hj)) ⋯ (by rw[Va];exact h5)
  refine⟨l',W',s',t',?_⟩
  show loop _ _ (.int (i:Nat)::oK s) _=_
  rw[cD rfl tn,e];rfl
def zDt{ws cs:List Int}{wd cd:D}(sw:Sq wd ws)(sc:Sq cd cs){qv:Sl}{q:Rat}{m:Nat}(hm:m<=3000)(hW:Wt ws cs)(hc:∀ c∈cs,0<=c/\c<10^30)(hq:Sz m q):∀(s:List Nat)(k:Int)(b:Rat)(am:List D)(s6 s7:Sl),(∀ i∈s,i<cs.length)->s.Pairwise (fun i j=>cR cs i*cR ws j<=cR cs j*cR ws i)->s.length<=12->am.length=cs.length->
  0<=k->k+s.length*10^30<2^110->0<=q-(k:Rat)->q-(k:Rat)<=qW (cR cs) s->b*(wS ws s:Rat)<=q-(k:Rat)->
  ∃ t,b<=t/\qW (dY (cR cs) (cR ws) t) s=q-(k:Rat)/\(∀ i∈s,Sz (m+155) (dY (cR cs) (cR ws) t i))/\∃ l' W' s' t',loop (gName 6) cS (oK s) [.val wd,.val cd,qv,.val (dq (q-(k:Rat))),.val (.int (wS ws s)),.own am,s6,s7]=
   .ok (.nx [.val wd,.val cd,qv,l',W',.own (rY (s.map fun i=>(i,dY (cR cs) (cR ws) t i)) am),s',t'])
 | [],k,b,am,s6,s7,_,_,_,_,_,_,h6,h7,_=>⟨b,Vi,by rw[rE] at h7 ⊢;grind,fun i h=>by(cases h),_,_,_,_,rfl⟩
 | i::s,k,b,am,s6,s7,h1,h2,h3,h4,h5,h5',h6,h7,h8=>by
  have hi:=h1 i Qe;have h1':∀ j∈s,j<cs.length:=fun j hj=>h1 j (Qd _ hj)
  obtain⟨W1,W2⟩:=hW.sum h1;obtain⟨V1,V2⟩:=hW.sum h1';obtain⟨w1,w2⟩:=hW.at hi;obtain⟨c1,c2⟩:=hc _ (Qf (aZ hi));obtain⟨p1,p2⟩:=List.pairwise_cons.mp h2;rw[Qk] at h3 h5' W1 W2;have ek:((s.length+1:Nat):Int)*10^30=(s.length:Int)*10^30+10^30:=by rw[Xq,X2];rfl
  have k0:0<=(s.length:Int)*10^30:=Ua ⋯ ∅
  have zW:Sz 24 (wS ws (i::s):Rat):=eD ⋯ ∅
  have zk:Sz 110 (k:Rat):=eD ⋯ ∅
  have zL:Sz (m+111) (q-(k:Rat)):=(hq.sub zk).mono ⋯
  have pW:(0:Rat)<(wS ws (i::s):Rat):=by exact_mod_cast (show 0<wS ws (i::s) by omega)
  have nW:(wS ws (i::s):Rat)≠0:=fun z=>by rw[z] at pW;exact absurd pW ∅
  have pw:∀ j,j<cs.length->0<cR ws j:=fun j hj=>by
   have:=(hW.at hj).1
   unfold cR;exact_mod_cast (show 0<ws.getD j 0 by omega)
  have e1:wS ws (i::s)-ws.getD i 0=wS ws s:=by rw[sU];omega
  have eW:(wS ws (i::s):Rat)=cR ws i+(wS ws s:Rat):=by rw[sU,Q6];rfl
  have pV:(0:Rat)<=(wS ws s:Rat):=by exact_mod_cast (show 0<=wS ws s by omega)
  generalize hL:q-(k:Rat)=L at h6 h7 h8 zL ⊢
  have loop1:∀ {a:Rat} {l' W' s' t':Sl} {am':List D},mn (L*cR ws i / (wS ws (i::s):Rat)) (cR cs i)=a->loop (gName 6) cS (oK s) [.val wd,.val cd,qv,.val (dq (L-a)),.val (.int (wS ws s)),.own (am.set i (dq a)),.val (.int (i:Nat)),.val (dq (L*cR ws i / (wS ws (i::s):Rat)))]=.ok (.nx [.val wd,.val cd,qv,l',W',.own am',s',t'])->
    loop (gName 6) cS (oK (i::s)) [.val wd,.val cd,qv,.val (dq L),.val (.int (wS ws (i::s))),.own am,s6,s7]=.ok (.nx [.val wd,.val cd,qv,l',W',.own am',s',t']):=fun {a l' W' s' t' am'} ea e=>by
   have tn:=zHH sw sc (qv:=qv) (s7:=s7) (W:=wS ws (i::s)) (am:=am) hW hc hm (zL.mono ⋯) ⋯ ⋯ hi h4 ea
   rw[e1] at tn;show loop _ _ (.int (i:Nat)::oK s) _=_
   rw[cD rfl tn];exact e
  by_cases hx:L*cR ws i / (wS ws (i::s):Rat)<cR cs i
  ·obtain⟨x1,x2⟩:=zJJ pW hx
   generalize hr:L / (wS ws (i::s):Rat)=r at x1 x2;have zr:Sz (m+135) r:=hr ▸ (zL.div zW nW).mono ⋯
   have eL:L=r*(wS ws (i::s):Rat):=by rw[<-hr,Xf nW]
   have wr:cR ws i*r<=cR cs i:=by
    have e:L*cR ws i / (wS ws (i::s):Rat)=cR ws i*r:=by rw[<-hr];grind
    rw[e] at hx;exact Vu hx
   have later:∀ j∈s,cR ws j*r<=cR cs j:=fun j hj=>zIy (pw i hi) (pw j (h1' j hj)) (p1 j hj) wr
   have gj:∀ j∈i::s,dY (cR cs) (cR ws) r j=cR ws j*r:=fun j hj=>by
    have:cR ws j*r<=cR cs j:=by
     rcases Qc.mp hj with rfl | hj
     ·exact wr
     ·exact later j hj
    unfold dY mn;grind
   have e2:L-cR ws i*r=r*(wS ws s:Rat):=by rw[eL,eW];grind
   obtain⟨l',W',s',t',e⟩:=zCx sw sc (qv:=qv) hm hW hc (zr.mono ⋯) s (am.set i (dq (cR ws i*r))) (.val (.int (i:Nat))) (.val (dq (L*cR ws i / (wS ws (i::s):Rat)))) h1' later ⋯ (by rw[Va];exact h4)
   refine⟨r,Yn (by rw[<-eL];exact h8) pW,?_,fun j hj=>?_,l',W',s',t',loop1 (a:=cR ws i*r) (x1.trans x2) ?_⟩
   ·rw[zAt gj,mD,tH,<-eL]
   ·rw[gj j hj]
    have v:=hW.at (h1 j hj);exact(Sz.mul (m:=20) (n:=m+135) (eD ⋯ ∅) zr).mono ⋯
   ·rw[e2,e,Qg,rY,gj i Qe]
    rw[Xa (g:=fun j=>(j,dY (cR cs) (cR ws) r j)) fun j hj=>by rw[gj j (Qd _ hj)]]
  ·have ea:mn (L*cR ws i / (wS ws (i::s):Rat)) (cR cs i)=cR cs i:=Jk hx
   obtain⟨b',g1,g2,g3⟩:=zGP (pw i hi) hx pW h8;have ek2:q-((k+cs.getD i 0:Int):Rat)=L-cR cs i:=by rw[Q6,<-hL];show q-((k:Rat)+cR cs i)=_;grind
   have c0:0<=cR cs i:=by unfold cR;exact_mod_cast c1
   have cL:cR cs i<=L:=by
    have y:=Xr (Qr.mp hx) (Vu pW);rw[Xf nW] at y;have y2:L*cR ws i<=L*(wS ws (i::s):Rat):=Yz (by rw[eW];grind) h6
    exact Yn (Uc y y2) pW
   rw[cG] at h7
   have g3':b' * (wS ws s:Rat)<=L-cR cs i:=by
    rw[eW] at g3;have:cR ws i+(wS ws s:Rat)-cR ws i=(wS ws s:Rat):=by grind
    rw[this] at g3;exact g3
   obtain⟨t,t1,t2,tz,l',W',s',t',e⟩:=zDt sw sc (qv:=qv) hm hW hc hq s (k+cs.getD i 0) b' (am.set i (dq (cR cs i))) (.val (.int (i:Nat))) (.val (dq (L*cR ws i / (wS ws (i::s):Rat)))) h1' p2 ⋯ (by rw[Va];exact h4) ⋯ ⋯ (by rw[ek2];grind) (by rw[ek2];grind) (by rw[ek2];exact g3')
   have gi:dY (cR cs) (cR ws) t i=cR cs i:=by
    have:=Yz t1 (Vu (pw i hi))
    unfold dY mn;grind
   rw[ek2] at e t2;refine⟨t,Uc g1 t1,?_,fun j hj=>?_,l',W',s',t',loop1 ea ?_⟩
   ·rw[cG,gi,t2];grind
   ·rcases Qc.mp hj with rfl | hj
    ·rw[gi];exact Sz.mono (m:=100) (eD ⋯ ∅) ⋯
    ·exact tz j hj
   ·rw[e,Qg,rY,gi]
def zAp{g:Nat->Rat}:∀(r:List Nat)(am:List D)(j:Nat),(rY (r.map fun i=>(i,g i)) am)[j]?=if j∈r then (if j<am.length then some (dq (g j)) else none) else am[j]?
 | [],am,j=>by simp[rY]
 | i::r,am,j=>by
  rw[Qg,rY,zAp r,Va];by_cases h1:j∈r
  ·rw[Jj h1,Jj (Qd _ h1)]
  ·rw[Jk h1]
   by_cases h2:j=i
   ·subst h2
    rw[Jj Qe];by_cases h3:j<am.length
    ·rw[Jj h3];exact Vk h3
    ·rw[Jk h3,Qz (by rw[Va];omega)]
   ·rw[Jk (by simp[h1,h2]),Vf (fun z=>h2 z.symm)]
def zGB{g:Nat->Rat}{r:List Nat}{n:Nat}(h:r.Perm (List.range n)):rY (r.map fun i=>(i,g i)) (List.replicate n (dq 0))=((List.range n).map g).map dq:=by
 refine Yw fun j=>?_
 rw[zAp,Qq,Qq,Xy];by_cases hj:j<n
 ·rw[Jj (h.mem_iff.mpr (Q7.mpr hj)),Jj hj,V8 hj];rfl
 ·rw[Jk (fun z=>hj (Q7.mp (h.mem_iff.mp z))),Qz (by rw[Xy];omega),Qz (by rw[Vd];omega)];rfl
def zIc(kz:List Int):∃ r,jZ kz r:=⟨_,zHP kz⟩
def zOF{fs:Fv}{kf:List D->Res (List Int)}{g:Gv}{b r:Sv}{ρ:Rho}{kz:List Int}{x:Res Fl}(h1:(fs ρ).bind kf=.ok kz)(h:∀ π,jZ kz π->aW (fun ρ=>loop g b (oK π) ρ) r ρ=x):zKV fs kf g b r ρ=x:=by
 obtain⟨π,hπ⟩:=zIc kz;unfold zKV;rw[h1];exact zHg hπ h
def zAl:List Rat->Int
 | []=>1
 | x::r=>x.den*zAl r
def zMf(B:Int)(x:Rat):Int:=x.num*B.fdiv x.den
def zFO:∀ {l:List Rat} {x:Rat},x∈l->(x.den:Int) ∣ zAl l
 | y::r,x,h=>by
  rcases Qc.mp h with rfl | h
  ·exact⟨zAl r,rfl⟩
  ·exact Int.dvd_trans (zFO h) ⟨y.den,X3 _ _⟩
def zFE:∀ l:List Rat,0<zAl l
 | []=>∅
 | x::r=>Vm (dA x) (zFE r)
def zQN{l:List Rat}{x:Rat}(h:x∈l):((zMf (zAl l) x:Int):Rat)=x*(zAl l:Rat):=by
 obtain⟨k,hk⟩:=zFO h;have d0:=dA x;unfold zMf;rw[fdiv_pos _ d0,hk,Int.mul_ediv_cancel_left _ ⋯,Qu,Qu]
 have e:x*((x.den:Int):Rat)=(x.num:Rat):=by
  have h1:=V6 x;rw[X4] at h1
  have h2:((x.den:Int):Rat)≠0:=fun z=>by
   have:(x.den:Int)=0:=by exact_mod_cast z
   omega
  rw[<-Xf (a:=(x.num:Rat)) h2,h1]
 rw[<-e];grind
def zCj{a:Sl}:∀(l:List Rat)(B:Int)(s:Sl)(m:Nat),(∀ x∈l,(x.den:Int)<=10^6)->B.natAbs<2^m->m+20*l.length<=1000->
  ∃ s',loop (gName 2) zAq (l.map dq) [a,.val (.int B),s]=.ok (.nx [a,.val (.int (B*zAl l)),s'])/\(B*zAl l).natAbs<2^(m+20*l.length)
 | [],B,s,m,_,h2,_=>⟨s,by rw[Vy,loop,zAl,Vv],by rw[zAl,Vv];exact h2⟩
 | x::r,B,s,m,h1,h2,h3=>by
  have d1:=h1 x Qe;have d0:=dA x;rw[Qk] at h3;have hx:((x.den:Int)).natAbs<2^20:=⋯
  obtain⟨s',e,hb⟩:=zCj r (B*x.den) (.val (dq x)) (m+20) (fun y hy=>h1 y (Qd _ hy)) (gZ h2 hx) ⋯
  have ed:B*zAl (x::r)=B*x.den*zAl r:=by rw[zAl,Xs]
  refine⟨s',?_,by rw[ed,Qk,show m+20*(r.length+1)=m+20+20*r.length by omega];exact hb⟩
  rw[ed,<-e,Qg];refine cD (ρ1:=[a,.val (.int B),.val (dq x)]) rfl ?_
  erw[oMul_i (bO (m:=m) (n:=20) h2 hx ⋯)];symm
def zGu{B:Int}(hB:B.natAbs<2^1000):∀ {l:List Rat},(∀ x∈l,(x.den:Int)<=10^6/\Sz 500 x)->qT B (l.map dq)=.ok (l.map (zMf B))
 | [],_=>rfl
 | x::r,h=>by
  obtain⟨d1,z⟩:=h x Qe;have d0:=dA x;have e1:nN (x.den:Int)=true:=rD (m:=20) ⋯ ⋯ ∅
  have e2:iP x.num (B.fdiv x.den)=true:=by
   rw[fdiv_pos _ d0];refine bO (m:=500) (n:=1000) z.1 (V7 ?_ hB) ∅
   exact Int.natAbs_ediv_le_natAbs _ _
  have k1:zKq B (dq x)=.ok (zMf B x):=by
   show(if (nN (x.den:Int) && iP x.num (B.fdiv x.den))=true then Res.ok _ else .no)=_
   rw[e1,e2];rfl
  rw[Qg,qT,k1];show((qT B (r.map dq)).bind fun ks=>Res.ok (zMf B x::ks))=_
  rw[zGu hB fun y hy=>h y (Qd _ hy)];rfl
def zGG{l:List Rat}(h:∀ x∈l,(x.den:Int)<=10^6/\Sz 500 x)(hl:l.length<=12):pF [.lst (l.map dq)]=.ok (l.map (zMf (zAl l))):=by
 obtain⟨s',e,hb⟩:=zCj (a:=.val (.lst (l.map dq))) l 1 .un 1 (fun x hx=>(h x hx).1) ∅ ⋯
 rw[Ux] at e hb;have r1:zDJ (start 3 [.lst (l.map dq)])=.ok (.nx [.val (.lst (l.map dq)),.val (.int 1),.un]):=rfl
 have r2:xL [.val (.lst (l.map dq)),.val (.int 1),.un]=.ok (.nx [.val (.lst (l.map dq)),.val (.int (zAl l)),s']):=by
  symm;exact e
 unfold pF zBe;rw[Jj (show [D.lst (l.map dq)].length=1 from rfl),r1];show(match xL [.val (.lst (l.map dq)),.val (.int 1),.un] with | .ok (.nx r')=>zFD r' | _=>.no)=_
 rw[r2];show(if (l.map dq).length<64 then qT (zAl l) (l.map dq) else .no)=_
 rw[Jj (by rw[Qi];omega)];exact zGu (Qm hb (Vt ∅ ⋯)) h
def lvs(ws cs:List Int):List Rat:=(cs.zip ws).map fun p=>Rat.divInt p.1 p.2
def zIj{ws cs:List Int}(h:ws.length=cs.length):(lvs ws cs).length=cs.length:=by unfold lvs;rw[Qi,Wb,h,Yi]
def zPP{ws cs:List Int}{i:Nat}(h:ws.length=cs.length)(hi:i<cs.length):(lvs ws cs)[i]?=some (cR cs i / cR ws i):=by
 unfold lvs;rw[Qq]
 have:(cs.zip ws)[i]?=some (cs.getD i 0,ws.getD i 0):=by
  rw[W7];exact⟨aZ hi,aZ ⋯⟩
 rw[this];show some (Rat.divInt _ _)=_
 rw[X4];rfl
def zFQ{t b:Int}(hb:0<b):((Rat.divInt t b).den:Int)<=b:=by
 have e:=zDN (t:=t) (b:=b) ⋯
 have d0:0<=dv t b:=by unfold dv;rw[Jk ⋯];exact Q2 _
 rw[<-e,zOp _ d0];exact Int.ediv_le_self _ ⋯
def zPY{ws cs:List Int}(hW:Wt ws cs)(hc:∀ c∈cs,0<=c/\c<10^30):∀ x∈lvs ws cs,(x.den:Int)<=10^6/\Sz 500 x:=fun x hx=>by
 obtain⟨p,hp,rfl⟩:=Vh.mp hx;obtain⟨h1,h2⟩:=Yd hp;have c:=hc _ h1;have w1:=hW.lo _ h2;have w2:=hW.up _ h2;have d:=zFQ (t:=p.1) (b:=p.2) ⋯
 exact⟨⋯,Sz.of ⋯ ⋯ ⋯⟩
def zEo{ws cs:List Int}{wd cd:D}(sw:Sq wd ws)(sc:Sq cd cs)(hW:Wt ws cs)(hl:cs.length<=12):iA [wd,cd]=.ok (.f ((lvs ws cs).map dq)):=by
 have hw:=hW.len;unfold iA;erw[xD sc.seqo sw.seqo];symm
 rw[rJ (u:=D.int) (v:=D.int) (g:=fun c w=>dq (Rat.divInt c w)) ⋯ (fun p hp=>by
  have h2:=(Yd hp).2;have w1:=hW.lo _ h2;have w2:=hW.up _ h2;erw[zCM (n:=20) ⋯ ⋯ ∅]
  symm)]
 symm;unfold lvs;rw[Q4];rfl
def zBG(ws:List Int):∀ n,n<=ws.length->wS ws (List.range n)=(ws.take n).sum
 | 0,_=>rfl
 | n+1,h=>by
  have e:wS ws (List.range n++[n])=wS ws (List.range n)+ws.getD n 0:=by unfold wS;rw[Q9,Xg];simp
  rw[Yv,e,zBG ws n ⋯,Ys,Xg,aZ (show n<ws.length by omega)];simp
def zKe{ws:List Int}{r:List Nat}(h:r.Perm (List.range ws.length)):wS ws r=ws.sum:=by
 have e:=tH ws r;rw[zCX h,tH,zBG ws _ (Qb _),Xe] at e;have:=Rat.intCast_inj.mp e
 omega
def zRi{a b:Sv}{ρ ρ':Rho}(h:a ρ=.ok (.nx ρ')):aW a b ρ=b ρ':=by unfold aW;rw[h];rfl
def evs(ws cs:List Int)(t:Rat):List Rat:=(List.range cs.length).map (dY (cR cs) (cR ws) t)
def uL{ws cs:List Int}{wd cd:D}(sw:Sq wd ws)(sc:Sq cd cs){q:Rat}{m:Nat}(hmm:m<=3000)(hW:Wt ws cs)(hc:Cl cs)(hq:Sz m q)(h0:0<=q)(h1:q<=(cs.sum:Rat)):∃ t,0<=t/\eE [wd,cd,dq q]=.ok (.f ((evs ws cs t).map dq))/\(evs ws cs t).sum=q/\∀ i,i<cs.length->Sz (m+155) (dY (cR cs) (cR ws) t i):=by
 have hcc:∀ c∈cs,0<=c/\c<10^30:=fun c h=>⟨hc.nn c h,hc.up c h⟩
 have hi:=hc.hi;have hw:=hW.len;have hkr:=zGG (zPY hW hcc) (by rw[zIj hw];exact hi)
 generalize hkz:(lvs ws cs).map (zMf (zAl (lvs ws cs)))=kz at hkr;have lz:kz.length=cs.length:=by rw[<-hkz,Qi,zIj hw]
 have pw:∀ j,j<cs.length->0<cR ws j:=fun j hj=>by
  have:=(hW.at hj).1
  unfold cR;exact_mod_cast (show 0<ws.getD j 0 by omega)
 have one:∀ π,jZ kz π->∃ t,0<=t/\qW (dY (cR cs) (cR ws) t) (List.range cs.length)=q/\(∀ i,i<cs.length->Sz (m+155) (dY (cR cs) (cR ws) t i))/\aW (fun ρ=>loop (gName 6) cS (oK π) ρ) lR [.val wd,.val cd,.val (dq q),.val (dq q),.val (.int ws.sum),.own (List.replicate cs.length (dq 0)),.un,.un]=.ok (.ret (.f ((evs ws cs t).map dq))):=by
  intro π hπ;obtain⟨hp,ho,_⟩:=hπ;rw[lz] at hp;have hm:∀ i∈π,i<cs.length:=fun i h=>Q7.mp (hp.mem_iff.mp h)
  have hl:π.length=cs.length:=by rw[hp.length_eq,Vd]
  have B0:=zFE (lvs ws cs);have B0':(0:Rat)<(zAl (lvs ws cs):Rat):=by exact_mod_cast B0
  have kat:∀ i,i<cs.length->((kz.getD i 0:Int):Rat)=cR cs i / cR ws i*(zAl (lvs ws cs):Rat):=fun i h=>by
   have e:=zPP hw h;have e2:kz.getD i 0=zMf (zAl (lvs ws cs)) (cR cs i / cR ws i):=by rw[<-hkz,Qs,Qq,e];rfl
   rw[e2];exact zQN (Qf e)
  have ord:π.Pairwise (fun i j=>cR cs i*cR ws j<=cR cs j*cR ws i):=by
   refine Wc (fun {i j} h1 h2 h3=>?_) ho
   have h4:((kz.getD i 0:Int):Rat)<=((kz.getD j 0:Int):Rat):=Vj.mpr h3;rw[kat i (hm i h1),kat j (hm j h2)] at h4;have h5:=Yn h4 B0';have wi:=pw i (hm i h1);have wj:=pw j (hm j h2);have h6:=Xr h5 (Vu (Rat.mul_pos wi wj));have e1:cR cs i / cR ws i*(cR ws i*cR ws j)=cR cs i*cR ws j:=by grind
   have e2:cR cs j / cR ws j*(cR ws i*cR ws j)=cR cs j*cR ws i:=by grind
   rwa [e1,e2] at h6
  have hW':wS ws π=ws.sum:=zKe (by rw[hw];exact hp)
  have hC':qW (cR cs) π=(cs.sum:Rat):=by rw[tH,zKe hp]
  have z0:q-((0:Int):Rat)=q:=by rw[show((0:Int):Rat)=0 from rfl];grind
  obtain⟨t,t1,t2,tz,l',W',s',t',e⟩:=zDt sw sc (qv:=.val (dq q)) hmm hW hcc hq π 0 0 (List.replicate cs.length (dq 0)) .un .un hm ord ⋯ (by rw[Xy]) ∅ (by rw[hl];omega) (by rw[z0];exact h0) (by rw[z0,hC'];exact h1) (by rw[z0];grind)
  rw[z0,hW'] at e;rw[z0] at t2;refine⟨t,t1,by rw[<-zCX hp];exact t2,fun i h=>tz i (hp.mem_iff.mpr (Q7.mpr h)),?_⟩
  refine(zRi (a:=fun ρ=>loop (gName 6) cS (oK π) ρ) e).trans ?_
  rw[zGB hp];rfl
 obtain⟨π0,hπ0⟩:=zIc kz;obtain⟨t,t1,t2,tz,e0⟩:=one π0 hπ0;have pw':∀ i∈List.range cs.length,0<cR ws i:=fun i h=>pw i (Q7.mp h)
 refine⟨t,t1,?_,t2,tz⟩
 unfold eE;erw[sw.sum,sc.len,zJd ⋯];symm
 have hfs:Res.bind ((aB (eF (fE iA (aB (aE 0) (aB (aE 1) aNil)))) aNil) [.val wd,.val cd,.val (dq q),.val (dq q),.val (.int ws.sum),.own (List.replicate cs.length (dq 0)),.un,.un]) pF=.ok kz:=by
  erw[zEo sw sc hW hi];symm;exact hkr
 have hall:∀ π,jZ kz π->aW (fun ρ=>loop (gName 6) cS (oK π) ρ) lR [.val wd,.val cd,.val (dq q),.val (dq q),.val (.int ws.sum),.own (List.replicate cs.length (dq 0)),.un,.un]=.ok (.ret (.f ((evs ws cs t).map dq))):=fun π hπ=>by
  obtain⟨u,_,u2,_,eu⟩:=one π hπ;rw[eu];unfold evs;rw[Xa (zAI pw' (u2.trans t2.symm))]
 unfold qE;rw[zOF hfs hall];rfl
def ones(cs:List Int):List Int:=List.replicate cs.length 1
def qV(cs:List Int):Wt (ones cs) cs:=⟨Xy,fun w h=>by rw[(List.mem_replicate.mp h).2];decide,fun w h=>by rw[(List.mem_replicate.mp h).2];decide⟩
def hf:Rat:=Rat.divInt 1 2
def zDE:hf=1 / 2:=by unfold hf;rw[X4];rfl
def zRW:d_HALF=dq hf:=zRz (b:=2) ∅
def zNe:Sz 2 hf:=Sz.of ∅ ∅ ∅
def dbl(q:Rat):q+q=q*((2:Int):Rat):=by rw[show((2:Int):Rat)=2 from rfl];grind
def zHT{q:Rat}{n:Nat}(h:Sz n q):Sz (n+2) (q+q):=by rw[dbl];exact h.mul (eD ∅ ∅)
def hvs(cs:List Int)(t:Rat):List Rat:=(List.range cs.length).map fun i=>dY (cR cs) (cR (ones cs)) t i*hf
structure Lvl (M:Nat) (ws cs:List Int) (q t:Rat):Prop where
 nn:0<=t
 sum:(evs ws cs t).sum=q
 sz:∀ i,i<cs.length->Sz M (dY (cR cs) (cR ws) t i)
def zCU{cs:List Int}{cd:D}(sc:Sq cd cs){q:Rat}{m:Nat}(hm:m<=2990)(hc:Cl cs)(hq:Sz m q)(h0:0<=q)(h1:q+q<=(cs.sum:Rat)):∃ t,Lvl (m+157) (ones cs) cs (q+q) t/\gJ [cd,dq q]=.ok (.f ((hvs cs t).map dq)):=by
 have hi:=hc.hi;obtain⟨t,t1,e,t2,tz⟩:=uL (wd:=.lst ((ones cs).map D.int)) (.inl rfl) sc (m:=m+2) ⋯ (qV cs) hc (zHT hq) (by grind) h1
 refine⟨t,⟨t1,t2,fun i h=>(tz i h).mono ⋯⟩,?_⟩
 have eo:(ones cs).map D.int=List.replicate cs.length (.int 1):=by unfold ones;rw[List.map_replicate]
 rw[eo] at e;have hh:=zRW;unfold d_HALF at hh;unfold gJ;erw[sc.len,zJd ⋯,zAe hq hq ⋯,e,show(evs (ones cs) cs t).map dq=(List.range cs.length).map (fun i=>dq (dY (cR cs) (cR (ones cs)) t i)) by unfold evs;rw[Q4];rfl]
 rw[wE (u:=fun i=>dq (dY (cR cs) (cR (ones cs)) t i)) (g:=fun i=>dq (dY (cR cs) (cR (ones cs)) t i*hf)) (by rw[Vd];omega) (fun i h=>by
  have hil:=Q7.mp h;symm;rw[hh,zFh (tz i hil) zNe ⋯]
  symm)]
 symm;unfold hvs;rw[Q4];rfl
def Lvl.mono{M M':Nat}{ws cs:List Int}{q t:Rat}(h:Lvl M ws cs q t)(l:M<=M'):Lvl M' ws cs q t:=⟨h.nn,h.sum,fun i hi=>(h.sz i hi).mono l⟩
def zEV{w v:Str}(h:bM.lookup w=some v):dO [.str w]=.ok (.v .non):=by
 unfold dO;erw[h];rfl
def xN{cs:List Int}{cd:D}(sc:Sq cd cs)(hc:Cl cs):fB [cd]=.ok (.v .non):=by
 have lo:=hc.lo;unfold fB;erw[sc.len,Ji ⋯,sc.seq];symm;refine zEp (Q:=fun r=>r=(.ok (.v .non):Res Rt)) (fun ρ=>∃ a,ρ=[.val cd,a]) ⟨_,rfl⟩ ?_ ?_
 ·rintro e ρ he ⟨a,rfl⟩
  obtain⟨c,h,rfl⟩:=Vh.mp he;have:=hc.nn c h
  refine⟨_,?_,.val (.int c),rfl⟩
  erw[Ji ⋯];symm
 ·rintro ρ ⟨a,rfl⟩
  rfl
def nF{q:Rat}{W:Int}{m:Nat}(hm:m<=3000)(h:Haul m q W)(hW:W.natAbs<2^110):bY [dq q,dq (W:Rat)]=.ok (.v .non):=by
 have z0:Sz 1 (0:Rat):=⟨∅,∅⟩
 have zW:Sz 110 (W:Rat):=eD hW ∅
 have n1:¬ q<0:=Qr.mpr h.nn;have n2:¬ (W:Rat)<q:=Qr.mpr h.up
 have io:cC [dq q,dq (W:Rat)]=.ok (.v (.bl false)):=by
  unfold cC;symm;rw[xX h.sz z0 ⋯,Ji n1];symm;rw[xX zW h.sz ⋯,Ji n2];symm
 unfold bY;erw[io];symm
def nZ{r s:Type}(l:List r)(f:Nat->s)(d:r):l.zip ((List.range l.length).map f)=(List.range l.length).map fun i=>(l.getD i d,f i):=by
 refine Yw fun i=>?_
 rw[Qq];by_cases h:i<l.length
 ·rw[V8 h]
  refine W7.mpr ⟨?_,by rw[Qq,V8 h];rfl⟩
  show l[i]?=some (l.getD i d)
  rw[Qs,Qj h];rfl
 ·rw[Qz (by rw[Wb];omega),Qz (by rw[Vd];omega)];rfl
def lK{w:Str}{d:D}{n:Int}(hd:d=.lst []∨d=.tup [])(hw:oIn (.str w) d_WEIGHTED=.ok (.bl false)):bI [.str w,d,.int n]=.ok (.v .non):=by
 have sq:zKv d=.ok []:=by rcases hd with rfl | rfl<;>rfl
 have ln:kU [d]=.ok (.int 0):=by rcases hd with rfl | rfl<;>rfl
 unfold d_WEIGHTED at hw;unfold bI;erw[hw,ln,sq];rfl
def zTS:rA 10 6=true:=∅
def sO{w:Str}{ws cs:List Int}{wd:D}(sw:Sq wd ws)(hW:Wt ws cs)(hw:oIn (.str w) d_WEIGHTED=.ok (.bl true)):bI [.str w,wd,.int cs.length]=.ok (.v .non):=by
 have hl:=hW.len;unfold d_WEIGHTED at hw;unfold bI;erw[hw,sw.len];symm;rw[hl,J5 rfl];erw[sw.seq];symm;refine zEp (Q:=fun r=>r=(.ok (.v .non):Res Rt)) (fun ρ=>∃ a,ρ=[.val (.str w),.val wd,.val (.int cs.length),.val (.int cs.length),a]) ⟨_,rfl⟩ ?_ ?_
 ·rintro e ρ he ⟨a,rfl⟩
  obtain⟨c,h,rfl⟩:=Vh.mp he;have h1:=hW.lo c h;have h2:=hW.up c h;refine⟨_,?_,.val (.int c),rfl⟩
  erw[Ji ⋯,oPow_i zTS,Ji ⋯];symm
 ·rintro ρ ⟨a,rfl⟩
  rfl
def zTE:(Str.ofString "even" == Str.ofString "row")=false:=∅
def zTB:(Str.ofString "lack" == Str.ofString "row")=false:=∅
def zTx:(Str.ofString "lack" == Str.ofString "even")=false:=∅
def zTq:(Str.ofString "lack" == Str.ofString "part")=false:=∅
def zTu:(Str.ofString "lack" == Str.ofString "half")=false:=∅
def zKC:(bM.lookup (Str.ofString "even"))=some (Str.ofString "lack"):=∅
def zGy:(bM.lookup (Str.ofString "lack"))=some (Str.ofString "even"):=∅
def zMn{n:Nat}{ws cs:List Int}{wd cd:D}(sw:Sq wd ws)(sc:Sq cd cs){q:Rat}{m:Nat}(hm:m<=3000)(hW:Wt ws cs)(hc:Cl cs)(hq:Sz m q)(h0:0<=q)(h1:q<=(cs.sum:Rat)):∃ t,Lvl (m+155) ws cs q t/\aR (n+1) [.str (Str.ofString "even"),wd,cd,dq q]=.ok (.f ((evs ws cs t).map dq)):=by
 obtain⟨t,t1,e,t2,tz⟩:=uL sw sc hm hW hc hq h0 h1;refine⟨t,⟨t1,t2,tz⟩,?_⟩
 show aY (aR n) _=_
 unfold aY;erw[sc.sum,cZ,zTE,e];symm
def lks(ws cs:List Int)(t:Rat):List Rat:=(cs.zip (evs ws cs t)).map fun p=>(p.1:Rat)-p.2
def zQA(ws cs:List Int)(t:Rat):lks ws cs t=(List.range cs.length).map fun i=>cR cs i-dY (cR cs) (cR ws) t i:=by
 unfold lks evs;rw[nZ cs _ 0,Q4];rfl
def zQu{n:Nat}{ws cs:List Int}{wd cd:D}(sw:Sq wd ws)(sc:Sq cd cs){q:Rat}{m:Nat}(hm:m<=2890)(hW:Wt ws cs)(hc:Cl cs)(hq:Haul m q cs.sum):∃ t,Lvl (m+261) ws cs ((cs.sum:Rat)-q) t/\aR (n+2) [.str (Str.ofString "lack"),wd,cd,dq q]=.ok (.f ((lks ws cs t).map dq)):=by
 have sm:=hc.sum;have hi:=hc.hi;have zW:Sz 105 (cs.sum:Rat):=eD ⋯ ∅
 have zT:Sz (m+106) ((cs.sum:Rat)-q):=(zW.sub hq.sz).mono ⋯
 have u:=hq.up;have u':=hq.nn;obtain⟨t,tl,e⟩:=zMn sw sc (n:=n) (m:=m+106) ⋯ hW hc zT (by grind) (by grind)
 refine⟨t,tl,?_⟩
 show aY (aR (n+1)) _=_
 unfold aY;erw[sc.sum,cZ,zTB,zTx,zTq,zTu,show zDD bM (.str (Str.ofString "lack"))=.ok (.str (Str.ofString "even")) by show zPq (bM.lookup (Str.ofString "lack"))=_;rw[zGy];rfl,oV zW hq.sz ⋯,e,xD sc.seqo rfl];symm
 rw[rJ (u:=D.int) (v:=dq) (g:=fun c l=>dq ((c:Rat)-l)) ⋯ (fun p hp=>by
  have hp':=hp;unfold evs at hp';rw[nZ cs _ 0] at hp';obtain⟨i,hir,rfl⟩:=Vh.mp hp';have hil:=Q7.mp hir;have c1:=hc.nn _ (Qf (aZ hil));have c2:=hc.up _ (Qf (aZ hil));erw[cZ,oV (m:=100) (n:=m+261) (eD ⋯ ∅) (tl.sz i hil) ⋯]
  symm)]
 symm;unfold lks;rw[Q4];rfl
def zTa:(Str.ofString "half" == Str.ofString "row")=false:=∅
def zSY:(Str.ofString "half" == Str.ofString "even")=false:=∅
def zSZ:(Str.ofString "half" == Str.ofString "part")=false:=∅
def zGz:(bM.lookup (Str.ofString "half"))=some (Str.ofString "half"):=∅
def zHM{n:Nat}{e:D}{cs:List Int}{cd:D}(sc:Sq cd cs){q:Rat}{m:Nat}(hm:m<=2990)(hc:Cl cs)(hq:Sz m q)(h0:0<=q)(h1:q+q<=(cs.sum:Rat)):∃ t,Lvl (m+157) (ones cs) cs (q+q) t/\aR (n+1) [.str (Str.ofString "half"),e,cd,dq q]=.ok (.f ((hvs cs t).map dq)):=by
 have sm:=hc.sum;have zW:Sz 105 (cs.sum:Rat):=eD ⋯ ∅
 obtain⟨t,tl,ee⟩:=zCU sc hm hc hq h0 h1;refine⟨t,tl,?_⟩
 show aY (aR n) _=_
 unfold aY;erw[sc.sum,cZ,zTa,zSY,zSZ,zAe hq hq ⋯];symm;rw[xX zW (zHT hq) ⋯,Ji (Qr.mpr h1)];erw[ee];symm
def lhs(cs:List Int)(t:Rat):List Rat:=(List.range cs.length).map fun i=>cR cs i-dY (cR cs) (cR (ones cs)) t i*hf
def zOe{n:Nat}{e:D}{cs:List Int}{cd:D}(sc:Sq cd cs){q:Rat}{m:Nat}(hm:m<=2880)(hc:Cl cs)(hq:Haul m q cs.sum)(h1:(cs.sum:Rat)<q+q):∃ t,Lvl (m+263) (ones cs) cs (((cs.sum:Rat)-q)+((cs.sum:Rat)-q)) t/\aR (n+2) [.str (Str.ofString "half"),e,cd,dq q]=.ok (.f ((lhs cs t).map dq)):=by
 have sm:=hc.sum;have hi:=hc.hi;have zW:Sz 105 (cs.sum:Rat):=eD ⋯ ∅
 have zT:Sz (m+106) ((cs.sum:Rat)-q):=(zW.sub hq.sz).mono ⋯
 have u:=hq.up;obtain⟨t,tl,ee⟩:=zHM sc (n:=n) (e:=e) (m:=m+106) ⋯ hc zT (by grind) (by grind)
 refine⟨t,tl,?_⟩
 show aY (aR (n+1)) _=_
 unfold aY;erw[sc.sum,cZ,zTa,zSY,zSZ,zAe hq.sz hq.sz ⋯];symm;rw[xX zW (zHT hq.sz) ⋯,J5 h1];erw[show zDD bM (.str (Str.ofString "half"))=.ok (.str (Str.ofString "half")) by show zPq (bM.lookup (Str.ofString "half"))=_;rw[zGz];rfl,oV zW hq.sz ⋯,ee,xD sc.seqo rfl];symm
 rw[rJ (u:=D.int) (v:=dq) (g:=fun c l=>dq ((c:Rat)-l)) ⋯ (fun p hp=>by
  have hp':=hp;unfold hvs at hp';rw[nZ cs _ 0] at hp';obtain⟨i,hir,rfl⟩:=Vh.mp hp';have hil:=Q7.mp hir;have c1:=hc.nn _ (Qf (aZ hil));have c2:=hc.up _ (Qf (aZ hil));erw[cZ,oV (m:=100) (n:=m+263+2) (eD ⋯ ∅) ((tl.sz i hil).mul zNe) ⋯]
  symm)]
 symm;unfold hvs lhs;rw[nZ cs _ 0,Q4,Q4];rfl
def zTl:(Str.ofString "back" == Str.ofString "row")=false:=∅
def zTL:(Str.ofString "back" == Str.ofString "even")=false:=∅
def zTw:(Str.ofString "back" == Str.ofString "part")=false:=∅
def zTF:(Str.ofString "back" == Str.ofString "half")=false:=∅
def zTt:(Str.ofString "part" == Str.ofString "row")=false:=∅
def zTs:(Str.ofString "part" == Str.ofString "even")=false:=∅
def zNX:(bM.lookup (Str.ofString "row"))=some (Str.ofString "back"):=∅
def zFB:(bM.lookup (Str.ofString "back"))=some (Str.ofString "row"):=∅
def zLT:(bM.lookup (Str.ofString "part"))=some (Str.ofString "part"):=∅
def zRe{n:Nat}{d e:D}{cs:List Int}{q:Rat}(hd:d=.lst (cs.map D.int)∨d=.tup (cs.map D.int)){m:Nat}(hm:m<=3000)(hc:Cl cs)(hq:Sz m q)(h0:0<=q):aR (n+1) [.str (Str.ofString "row"),e,d,dq q]=.ok (.f ((kH cs 0 q).map dq)):=by
 have su:zCe [d]=.ok (.int cs.sum):=by rcases hd with rfl | rfl;exact bSum_l;exact bSum_t
 show aY (aR n) _=_
 unfold aY;erw[su,cZ,zEP hd hm hc hq h0];symm
def zPU{n:Nat}{d e:D}{cs:List Int}{q:Rat}(hd:d=.lst (cs.map D.int)∨d=.tup (cs.map D.int)){m:Nat}(hm:m<=3000)(hc:Cl cs)(hq:Sz m q):aR (n+1) [.str (Str.ofString "part"),e,d,dq q]=.ok (.f ((zAW cs q).map dq)):=by
 have su:zCe [d]=.ok (.int cs.sum):=by rcases hd with rfl | rfl;exact bSum_l;exact bSum_t
 show aY (aR n) _=_
 unfold aY;erw[su,cZ,zTt,zTs,zDS hd hm hc hq];symm
def zMD(f g:Nat->Rat):∀ n:Nat,((List.range n).map fun i=>f i-g i).sum=((List.range n).map f).sum-((List.range n).map g).sum
 | 0=>by simp only[List.range_zero,Vy,Vp];grind
 | n+1=>by
  rw[Yv,Q9,Q9,Q9,Xg,Xg,Xg,zMD f g n];simp only[Qg,Vy,Qn,Vp];grind
def zJF(cs:List Int):((List.range cs.length).map (cR cs)).sum=(cs.sum:Rat):=by
 have e:=tH cs (List.range cs.length);rw[zBG cs _ (Qb _),Xe] at e;exact e
def tI{ws cs:List Int}{t:Rat}(hW:Wt ws cs)(hc:Cl cs)(h0:0<=t){i:Nat}(hi:i<cs.length):0<=dY (cR cs) (cR ws) t i/\dY (cR cs) (cR ws) t i<=cR cs i:=by
 have w:=(hW.at hi).1;have c:=hc.nn _ (Qf (aZ hi));have w':(0:Rat)<=cR ws i:=by unfold cR;exact_mod_cast (show 0<=ws.getD i 0 by omega)
 have c':(0:Rat)<=cR cs i:=by unfold cR;exact_mod_cast c
 have:=Ud w' h0
 unfold dY mn;grind
def uM(x:Rat):(x.num:Rat)=x*((x.den:Int):Rat):=by
 have d0:=dA x
 have nd:((x.den:Int):Rat)≠0:=fun z=>by
  have:(x.den:Int)=0:=by exact_mod_cast z
  omega
 have h1:=V6 x;rw[X4] at h1;rw[<-Xf (a:=(x.num:Rat)) nd,h1]
def zIq{l:List Rat}{n:Nat}(h:l.length=n):l=(List.range n).map fun i=>l.getD i 0:=by
 refine Yw fun i=>?_
 rw[Qq];by_cases hi:i<n
 ·rw[V8 hi,Qj ⋯]
  show _=some (l.getD i 0)
  rw[Qs,Qj ⋯];rfl
 ·rw[Qz ⋯,Qz (by rw[Vd];omega)];rfl
def zAi(cs:List Int)(q:Rat)(i:Nat):Rat:=(kH cs 0 q).getD i 0
def zHU:∀(cs:List Int)(a:Int)(q:Rat)(i:Nat),(∀ c∈cs,0<=c)->i<cs.length->0<=(kH cs a q).getD i 0/\(kH cs a q).getD i 0<=cR cs i
 | c::r,a,q,0,h,_=>by
  have c0:(0:Rat)<=(c:Rat):=by exact_mod_cast h c Qe
  show 0<=mn (ps0 (q-(a:Rat))) (c:Rat)/\mn (ps0 (q-(a:Rat))) (c:Rat)<=(c:Rat)
  unfold mn ps0;grind
 | c::r,a,q,i+1,h,hi=>zHU r (a+c) q i (fun x hx=>h x (Qd _ hx)) (by rw[Qk] at hi;omega)
def xZ:∀(cs:List Int)(a:Int){q q':Rat}(i:Nat),q<=q'->(kH cs a q).getD i 0<=(kH cs a q').getD i 0
 | [],_,_,_,_,_=>Vi
 | c::r,a,q,q',0,h=>by
  show mn (ps0 (q-(a:Rat))) (c:Rat)<=mn (ps0 (q' - (a:Rat))) (c:Rat)
  unfold mn ps0;grind
 | c::r,a,q,q',i+1,h=>xZ r (a+c) i h
def zGa:∀(cs:List Int)(a:Int)(q:Rat),(∀ c∈cs,0<=c)->0<=cs.sum/\(kH cs a q).sum=mn (ps0 (q-(a:Rat))) (cs.sum:Rat)
 | [],a,q,_=>⟨Ym _,by show(0:Rat)=mn (ps0 _) ((0:Int):Rat);rw[show((0:Int):Rat)=0 from rfl];unfold mn ps0;grind⟩
 | c::r,a,q,h=>by
  have c0:=h c Qe;obtain⟨s0,e⟩:=zGa r (a+c) q fun x hx=>h x (Qd _ hx)
  have c0':(0:Rat)<=(c:Rat):=by exact_mod_cast c0
  have s0':(0:Rat)<=(r.sum:Rat):=by exact_mod_cast s0
  rw[Qn];refine⟨⋯,?_⟩
  rw[kH,Qn,e,Q6,Q6];unfold mn ps0;grind
def zJz{q:Rat}{m:Nat}(hq:Sz m q):∀(cs:List Int)(a:Int),(∀ c∈cs,0<=c)->(∀ c∈cs,c<10^30)->0<=a->a+cs.length*10^30<2^110->∀ x∈kH cs a q,Sz (m+111) x
 | [],_,_,_,_,_,x,hx=>by cases hx
 | c::r,a,h1,h2,h3,h4,x,hx=>by
  have c0:=h1 c Qe;have c1:=h2 c Qe;rw[Qk] at h4;have e4:((r.length+1:Nat):Int)*10^30=(r.length:Int)*10^30+10^30:=by rw[Xq,X2];rfl
  have r0:0<=(r.length:Int)*10^30:=Ua ⋯ ∅
  rw[kH] at hx;rcases Qc.mp hx with rfl | hx
  ·exact zOu (zRy (hq.sub (eD (n:=110) ⋯ ∅)) ⋯) (Sz.mono (m:=100) (eD ⋯ ∅) ⋯)
  ·exact zJz hq r (a+c) (fun x hx=>h1 x (Qd _ hx)) (fun x hx=>h2 x (Qd _ hx)) ⋯ ⋯ x hx
def zDX{cs:List Int}{q:Rat}{m:Nat}(hc:Cl cs)(hq:Sz m q)(h0:0<=q)(h1:q<=(cs.sum:Rat)):(kH cs 0 q=(List.range cs.length).map (zAi cs q))/\(kH cs 0 q).sum=q/\∀ x∈kH cs 0 q,Sz (m+111) x:=by
 have hi:=hc.hi;refine⟨zIq (zCw _ _ _),?_,zJz hq cs 0 hc.nn hc.up ∅ ⋯⟩
 rw[(zGa cs 0 q hc.nn).2,show((0:Int):Rat)=0 from rfl];unfold mn ps0;grind
def zRq{n:Nat}{e:D}{cs:List Int}{cd:D}(sc:Sq cd cs){q:Rat}{m:Nat}(hm:m<=2890)(hc:Cl cs)(hq:Haul m q cs.sum):aR (n+2) [.str (Str.ofString "back"),e,cd,dq q]=.ok (.f (((List.range cs.length).map fun i=>cR cs i-zAi cs ((cs.sum:Rat)-q) i).map dq)):=by
 have sm:=hc.sum;have hi:=hc.hi;have zW:Sz 105 (cs.sum:Rat):=eD ⋯ ∅
 have zT:Sz (m+106) ((cs.sum:Rat)-q):=(zW.sub hq.sz).mono ⋯
 have u:=hq.up;have u':=hq.nn;obtain⟨r1,r2,r3⟩:=zDX hc zT (by grind) (by grind)
 have ee:=zRe (n:=n) (e:=e) sc (m:=m+106) ⋯ hc zT (by grind)
 show aY (aR (n+1)) _=_
 unfold aY;erw[sc.sum,cZ,zTl,zTL,zTw,zTF,show zDD bM (.str (Str.ofString "back"))=.ok (.str (Str.ofString "row")) by show zPq (bM.lookup (Str.ofString "back"))=_;rw[zFB];rfl,oV zW hq.sz ⋯,ee,xD sc.seqo rfl];symm
 rw[rJ (u:=D.int) (v:=dq) (g:=fun c l=>dq ((c:Rat)-l)) ⋯ (fun p hp=>by
  obtain⟨p1,p2⟩:=Yd hp;have c1:=hc.nn _ p1;have c2:=hc.up _ p1;erw[cZ,oV (m:=100) (n:=m+106+111) (eD ⋯ ∅) (r3 _ p2) ⋯]
  symm)]
 symm;rw[r1,nZ cs _ 0,Q4,Q4];rfl
def vN(cs:List Int)(q:Rat)(i:Nat):Rat:=(zAW cs q).getD i 0
def zFw{cs:List Int}{q:Rat}{i:Nat}(hi:i<cs.length):vN cs q i=Rat.divInt (cs.getD i 0*q.num) (max 1 cs.sum*q.den):=by
 unfold vN zAW;rw[Qs,Qq,aZ hi];rfl
def fS{cs:List Int}{q:Rat}(hc:Cl cs){i:Nat}(hi:i<cs.length):vN cs q i*(cs.sum:Rat)=q*cR cs i/\(cs.sum=0->vN cs q i=0):=by
 have sm:=hc.sum;have e:=zFw (q:=q) hi;by_cases z:cs.sum=0
 ·have c0:=pN hc.nn z _ (Qf (aZ hi))
  have p0:vN cs q i=0:=by rw[e,c0,Int.zero_mul,Rat.zero_divInt]
  refine⟨?_,fun _=>p0⟩
  rw[p0];unfold cR;rw[c0,show((0:Int):Rat)=0 from rfl];grind
 ·have W0:0<cs.sum:=⋯
  have nW:(cs.sum:Rat)≠0:=fun y=>by
   have:cs.sum=0:=by exact_mod_cast y
   omega
  refine⟨?_,fun y=>absurd y z⟩
  rw[e,Int.max_eq_right ⋯,<-zJR W0];show q / (cs.sum:Rat)*cR cs i*(cs.sum:Rat)=_
  grind
def zIz{cs:List Int}{q:Rat}{m:Nat}(hc:Cl cs)(hq:Sz m q){i:Nat}(hi:i<cs.length):Sz (m+370) (vN cs q i):=by
 have sm:=hc.sum;have c1:=hc.nn _ (Qf (aZ hi));have c2:=hc.up _ (Qf (aZ hi));rw[zFw hi];have d0:=dA q;have p:=Vm (show 0<max 1 cs.sum by omega) d0
 exact Sz.of ⋯ (Qm (gZ (m:=100) (n:=m) ⋯ hq.1) (Vt ∅ ⋯)) (Qm (gZ (m:=110) (n:=m) ⋯ hq.d) (Vt ∅ ⋯))
inductive Wy where
 | row | back | even | lack | part | half
def Wy.s:Wy->Str
 | .row=>Str.ofString "row"
 | .back=>Str.ofString "back"
 | .even=>Str.ofString "even"
 | .lack=>Str.ofString "lack"
 | .part=>Str.ofString "part"
 | .half=>Str.ofString "half"
def Wy.due(w:Wy)(ws cs:List Int):Prop:=match w with
 | .even=>Wt ws cs
 | .lack=>Wt ws cs
 | _=>ws=[]
def Al(M:Nat)(ws cs:List Int)(q:Rat)(f:Nat->Rat):Wy->Prop
 | .row=>∀ i,i<cs.length->f i=zAi cs q i
 | .back=>∀ i,i<cs.length->f i=cR cs i-zAi cs ((cs.sum:Rat)-q) i
 | .even=>∃ t,Lvl M ws cs q t/\∀ i,i<cs.length->f i=dY (cR cs) (cR ws) t i
 | .lack=>∃ t,Lvl M ws cs ((cs.sum:Rat)-q) t/\∀ i,i<cs.length->f i=cR cs i-dY (cR cs) (cR ws) t i
 | .part=>∀ i,i<cs.length->f i=vN cs q i
 | .half=>∃ t,(q+q<=(cs.sum:Rat)/\Lvl M (ones cs) cs (q+q) t/\∀ i,i<cs.length->f i=dY (cR cs) (cR (ones cs)) t i*hf)∨((cs.sum:Rat)<q+q/\Lvl M (ones cs) cs (((cs.sum:Rat)-q)+((cs.sum:Rat)-q)) t/\∀ i,i<cs.length->f i=cR cs i-dY (cR cs) (cR (ones cs)) t i*hf)
def yN{w:Wy}{ws cs:List Int}{wd cd:D}(sw:Sq wd ws)(sc:Sq cd cs){q:Rat}{m:Nat}(hm:m<=2880)(hw:w.due ws cs)(hc:Cl cs)(hq:Haul m q cs.sum):∃ f,aR 2 [.str w.s,wd,cd,dq q]=.ok (.f (((List.range cs.length).map f).map dq))/\Al (m+263) ws cs q f w:=by
 have z:=hq.sz
 cases w with
 | row=>exact⟨zAi cs q,by rw[<-(zDX hc z hq.nn hq.up).1];exact zRe sc ⋯ hc z hq.nn,fun i _=>rfl⟩
 | back=>exact⟨_,zRq sc ⋯ hc hq,fun i _=>rfl⟩
 | even=>
  obtain⟨t,tl,e⟩:=zMn sw sc (n:=1) ⋯ hw hc z hq.nn hq.up
  exact⟨_,e,t,tl.mono ⋯,fun i _=>rfl⟩
 | lack=>
  obtain⟨t,tl,e⟩:=zQu sw sc (n:=0) ⋯ hw hc hq
  rw[zQA] at e;exact⟨_,e,t,tl.mono ⋯,fun i _=>rfl⟩
 | part=>
  refine⟨vN cs q,?_,fun i _=>rfl⟩
  have e:zAW cs q=(List.range cs.length).map (vN cs q):=zIq (by unfold zAW;rw[Qi])
  rw[<-e];exact zPU sc ⋯ hc z
 | half=>
  by_cases h:(cs.sum:Rat)<q+q
  ·obtain⟨t,tl,e⟩:=zOe sc (n:=0) (e:=wd) ⋯ hc hq h
   exact⟨_,e,t,.inr ⟨h,tl,fun i _=>rfl⟩⟩
  ·obtain⟨t,tl,e⟩:=zHM sc (n:=1) (e:=wd) ⋯ hc z hq.nn (Qr.mp h)
   exact⟨_,e,t,.inl ⟨Qr.mp h,tl.mono ⋯,fun i _=>rfl⟩⟩
def zNo(w:Wy):∃ v,bM.lookup w.s=some v:=by
 cases w
 ·exact⟨_,zNX⟩
 ·exact⟨_,zFB⟩
 ·exact⟨_,zKC⟩
 ·exact⟨_,zGy⟩
 ·exact⟨_,zLT⟩
 ·exact⟨_,zGz⟩
def zFW{w:Wy}{ws cs:List Int}{wd cd:D}(sw:Sq wd ws)(sc:Sq cd cs)(hw:w.due ws cs)(hc:Cl cs):rC [.str w.s,wd,cd]=.ok (.v .non):=by
 have rw':bI [.str w.s,wd,.int cs.length]=.ok (.v .non):=by
  cases w with
  | even=>exact sO sw hw rfl
  | lack=>exact sO sw hw rfl
  | row=>have e:ws=[]:=hw;rw[e] at sw;exact lK sw rfl
  | back=>have e:ws=[]:=hw;rw[e] at sw;exact lK sw rfl
  | part=>have e:ws=[]:=hw;rw[e] at sw;exact lK sw rfl
  | half=>have e:ws=[]:=hw;rw[e] at sw;exact lK sw rfl
 obtain⟨v,hv⟩:=zNo w;unfold rC;erw[zEV hv,xN sc hc,sc.len,rw'];symm
def zIw{w:Wy}{ws cs:List Int}{wd cd:D}(sw:Sq wd ws)(sc:Sq cd cs){q:Rat}{m:Nat}(hm:m<=2880)(hw:w.due ws cs)(hc:Cl cs)(hq:Haul m q cs.sum):∃ f,lQ [.str w.s,wd,cd,dq q]=.ok (.f (((List.range cs.length).map f).map dq))/\Al (m+263) ws cs q f w:=by
 obtain⟨f,rd,al⟩:=yN sw sc hm hw hc hq;have sm:=hc.sum;refine⟨f,?_,al⟩
 unfold lQ;erw[zFW sw sc hw hc,sc.sum,cZ,nF ⋯ hq ⋯,rd];symm
structure Dl (M:Nat) (cs:List Int) (q:Rat) (f:Nat->Rat):Prop where
 bd:∀ i,i<cs.length->0<=f i/\f i<=cR cs i/\Sz M (f i)
 sum:((List.range cs.length).map f).sum=q
def zCu{f g:Nat->Rat}{n:Nat}(h:∀ i,i<n->f i=g i):((List.range n).map f).sum=((List.range n).map g).sum:=by rw[Xa fun i hi=>h i (Q7.mp hi)]
def Dl.congr{M:Nat}{cs:List Int}{q:Rat}{f g:Nat->Rat}(d:Dl M cs q g)(h:∀ i,i<cs.length->f i=g i):Dl M cs q f:=⟨fun i hi=>by rw[h i hi];exact d.bd i hi,by rw[zCu h];exact d.sum⟩
def Dl.mono{M M':Nat}{cs:List Int}{q:Rat}{f:Nat->Rat}(d:Dl M cs q f)(h:M<=M'):Dl M' cs q f:=⟨fun i hi=>⟨(d.bd i hi).1,(d.bd i hi).2.1,(d.bd i hi).2.2.mono h⟩,d.sum⟩
def zPD{cs:List Int}(hc:Cl cs){i:Nat}(hi:i<cs.length):0<=cR cs i/\Sz 100 (cR cs i):=by
 have c1:=hc.nn _ (Qf (aZ hi));have c2:=hc.up _ (Qf (aZ hi));exact⟨by unfold cR;exact_mod_cast c1,eD ⋯ ∅⟩
def Dl.dual{M:Nat}{cs:List Int}{q q':Rat}{g:Nat->Rat}(hc:Cl cs)(d:Dl M cs q' g)(h:q'=(cs.sum:Rat)-q):Dl (100+M+1) cs q (fun i=>cR cs i-g i):=by
 refine⟨fun i hi=>?_,?_⟩
 ·obtain⟨b1,b2,b3⟩:=d.bd i hi
  exact⟨by grind,by grind,(zPD hc hi).2.sub b3⟩
 ·rw[zMD,zJF,d.sum]
  grind
def zMN{m:Nat}{cs:List Int}{q:Rat}(hc:Cl cs)(hq:Sz m q)(h0:0<=q)(h1:q<=(cs.sum:Rat)):Dl (m+111) cs q (zAi cs q):=by
 obtain⟨e,s,z⟩:=zDX hc hq h0 h1;refine⟨fun i hi=>?_,by rw[<-e];exact s⟩
 obtain⟨b1,b2⟩:=zHU cs 0 q i hc.nn hi;exact⟨b1,b2,z _ (by rw[e];exact Vh.mpr ⟨i,Q7.mpr hi,rfl⟩)⟩
def zMA{M:Nat}{ws cs:List Int}{q t:Rat}(hW:Wt ws cs)(hc:Cl cs)(tl:Lvl M ws cs q t):Dl M cs q (dY (cR cs) (cR ws) t):=
 ⟨fun i hi=>⟨(tI hW hc tl.nn hi).1,(tI hW hc tl.nn hi).2,tl.sz i hi⟩,tl.sum⟩
def zIx{M:Nat}{cs:List Int}{q t:Rat}(hc:Cl cs)(tl:Lvl M (ones cs) cs (q+q) t):Dl (M+2) cs q (fun i=>dY (cR cs) (cR (ones cs)) t i*hf):=by
 refine⟨fun i h=>?_,?_⟩
 ·obtain⟨b1,b2⟩:=tI (qV cs) hc tl.nn h
  exact⟨by rw[zDE];grind,by rw[zDE];grind,(tl.sz i h).mul zNe⟩
 ·have e:=tl.sum
  have e2:=mD (w:=dY (cR cs) (cR (ones cs)) t) (t:=hf) (l:=List.range cs.length);unfold evs at e;unfold qW at e2;rw[e2,e,zDE];grind
def mO{a b s:Rat}(hs:s≠0)(h:a*s=b*s):a=b:=by
 have e1:a*s / s=a:=by grind
 have e2:b*s / s=b:=by grind
 rw[<-e1,<-e2,h]
def zIE{a b s:Rat}(hs:0<s)(h:a*s<=b*s):a<=b:=Yn h hs
def zNL{m:Nat}{cs:List Int}{q:Rat}(hc:Cl cs)(hq:Sz m q)(h0:0<=q)(h1:q<=(cs.sum:Rat)):Dl (m+370) cs q (vN cs q):=by
 have sm:=hc.sum;have cn:∀ i,i<cs.length->0<=cR cs i:=fun i hi=>(zPD hc hi).1
 have sc:qW (fun i=>vN cs q i*(cs.sum:Rat)) (List.range cs.length)=q*(cs.sum:Rat):=by
  rw[zAt (g:=fun i=>cR cs i*q) fun i hi=>by rw[(fS hc (Q7.mp hi)).1];grind];rw[mD,show qW (cR cs) (List.range cs.length)=(cs.sum:Rat) from zJF cs]
 rw[mD] at sc;by_cases z:cs.sum=0
 ·have p0:∀ i,i<cs.length->vN cs q i=cR cs i:=fun i hi=>by
   have c0:=pN hc.nn z _ (Qf (aZ hi));rw[(fS hc hi).2 z];unfold cR;rw[c0];rfl
  refine⟨fun i hi=>⟨by rw[p0 i hi];exact cn i hi,by rw[p0 i hi];exact Vi,zIz hc hq hi⟩,?_⟩
  rw[zCu p0,zJF];have:(cs.sum:Rat)=0:=by rw[z];rfl
  grind
 ·have W:(0:Rat)<(cs.sum:Rat):=by exact_mod_cast (show 0<cs.sum by omega)
  refine⟨fun i hi=>?_,?_⟩
  ·have e:=(fS (q:=q) hc hi).1
   have c0:=cn i hi;refine⟨zIE W (by rw[e];have:=Ud h0 c0;grind),zIE W ?_,zIz hc hq hi⟩
   rw[e];have:=Xr h1 c0
   grind
  ·exact mO (s:=(cs.sum:Rat)) (by grind) (by rw[Rat.mul_comm];exact sc)
def zOy{m:Nat}{w:Wy}{ws cs:List Int}{q:Rat}{f:Nat->Rat}(hw:w.due ws cs)(hc:Cl cs)(hq:Haul m q cs.sum)(al:Al (m+263) ws cs q f w):Dl (m+370) cs q f:=by
 have sm:=hc.sum;have zW:Sz 105 (cs.sum:Rat):=eD ⋯ ∅
 have z:=hq.sz;have z':Sz (m+106) ((cs.sum:Rat)-q):=(zW.sub hq.sz).mono ⋯
 have n:=hq.nn;have u:=hq.up
 cases w with
 | row=>exact((zMN hc z n u).mono ⋯).congr al
 | back=>exact((Dl.dual hc (zMN hc z' (by grind) (by grind)) rfl).mono ⋯).congr al
 | even=>
  obtain⟨t,tl,e⟩:=al;exact((zMA hw hc tl).mono ⋯).congr e
 | lack=>
  obtain⟨t,tl,e⟩:=al;exact((Dl.dual hc (zMA hw hc tl) rfl).mono ⋯).congr e
 | part=>exact(zNL hc z n u).congr al
 | half=>
  obtain⟨t,⟨c,tl,e⟩ | ⟨c,tl,e⟩⟩:=al
  ·exact((zIx hc tl).mono ⋯).congr e
  ·exact((Dl.dual hc (zIx hc tl) rfl).mono ⋯).congr e
def zAV:∀(cs:List Int)(a:Int)(q:Rat)(i:Nat),i<cs.length->(kH cs a q).getD i 0=mn (ps0 (q-((a+(cs.take i).sum:Int):Rat))) (cR cs i)
 | c::r,a,q,0,_=>by simp[kH,cR]
 | c::r,a,q,i+1,h=>by
  have ih:=zAV r (a+c) q i (by simpa using h)
  rw[Ue,Qn,<-Int.add_assoc];show(kH r (a+c) q).getD i 0=_
  rw[ih];rfl
def Dn(B:Int)(x:Rat):Prop:=∃ k:Int,x*(B:Rat)=(k:Rat)
def Dn.add{B:Int}{x y:Rat}(hx:Dn B x)(hy:Dn B y):Dn B (x+y):=by
 obtain⟨a,ha⟩:=hx;obtain⟨b,hb⟩:=hy;exact⟨a+b,by rw[Q6,<-ha,<-hb];grind⟩
def Dn.sub{B:Int}{x y:Rat}(hx:Dn B x)(hy:Dn B y):Dn B (x-y):=by
 obtain⟨a,ha⟩:=hx;obtain⟨b,hb⟩:=hy;exact⟨a-b,by rw[Rat.intCast_sub,<-ha,<-hb];grind⟩
def Dn.int(B c:Int):Dn B (c:Rat):=⟨c*B,by rw[Qu]⟩
def Dn.zero(B:Int):Dn B 0:=Dn.int B 0
def Dn.mul{B:Int}{x:Rat}(h:Dn B x)(E:Int):Dn (B*E) x:=by
 obtain⟨a,ha⟩:=h;exact⟨a*E,by rw[Qu,Qu,<-ha];grind⟩
def Dn.mn{B:Int}{x y:Rat}(hx:Dn B x)(hy:Dn B y):Dn B (Lw.mn x y):=by
 unfold Lw.mn;split
 ·exact hx
 ·exact hy
def Dn.ps{B:Int}{x:Rat}(hx:Dn B x):Dn B (ps0 x):=by
 unfold ps0;split
 ·exact Dn.zero B
 ·exact hx
def Dn.den(x:Rat):Dn (x.den:Int) x:=⟨x.num,(uM x).symm⟩
def Dn.le{B:Int}{x:Rat}(h:Dn B x)(hB:0<B):(x.den:Int)<=B:=by
 obtain⟨a,ha⟩:=h
 have nB:(B:Rat)≠0:=fun z=>by
  have:B=0:=by exact_mod_cast z
  omega
 have e:x=Rat.divInt a B:=by
  rw[X4,<-ha];grind
 rw[e];exact zFQ hB
def Dn.sz{B c:Int}{x:Rat}{a b:Nat}(h:Dn B x)(hB:0<B)(hb:B<2^b)(h0:0<=x)(h1:x<=(c:Rat))(hc:c<2^a):Sz (a+b) x:=by
 have le:=h.le hB;have d0:=dA x;have n0:0<=x.num:=Y0.mpr h0
 have c0:0<=c:=by
  have:((0:Int):Rat)<=(c:Rat):=Uc (by rw[show((0:Int):Rat)=0 from rfl];exact h0) h1
  exact Vj.mp this
 have n1:x.num<=c*x.den:=by
  have:((x.num:Int):Rat)<=((c*x.den:Int):Rat):=by
   rw[Qu,uM];exact Xr h1 (by have z:(0:Int)<=x.den:=⋯;exact_mod_cast z)
  exact Vj.mp this
 have hb':(x.den:Int).natAbs<2^b:=by
  have:((2:Nat)^b:Nat)=((2:Int)^b):=by rw[Int.natCast_pow];rfl
  omega
 have ha':c.natAbs<2^a:=by
  have:((2:Nat)^a:Nat)=((2:Int)^a):=by rw[Int.natCast_pow];rfl
  omega
 have m:=gZ ha' hb';refine⟨⋯,?_⟩
 have:2^b<=2^(a+b):=Vt ∅ ⋯
 omega
def zCy{c w:Nat->Rat}{ci wi:Nat->Int}{t:Rat}(hc:∀ i,c i=(ci i:Rat))(hw:∀ i,w i=(wi i:Rat)):∀ l:List Nat,(∀ i∈l,1<=wi i/\wi i<=10^6)->∃ F W:Int,qW (dY c w t) l=(W:Rat)*t+(F:Rat)/\0<=W/\W<=l.length*10^6/\(W=0->∀ i∈l,dY c w t i=c i)
 | [],_=>⟨0,0,by rw[rE,show((0:Int):Rat)=0 from rfl];grind,∅,∅,fun _ i h=>by cases h⟩
 | i::l,h=>by
  obtain⟨F,W,e,w0,w1,f⟩:=zCy (t:=t) hc hw l fun j hj=>h j (Qd _ hj)
  have hi:=h i Qe;have ek:((l.length+1:Nat):Int)*10^6=(l.length:Int)*10^6+10^6:=by rw[Xq,X2];rfl
  rw[cG,Qk];by_cases z:w i*t<c i
  ·have g:dY c w t i=w i*t:=Jj z
   refine⟨F,W+wi i,?_,⋯,⋯,fun z=>⋯⟩
   rw[g,e,Q6,hw];grind
  ·have g:dY c w t i=c i:=Jk z
   refine⟨F+ci i,W,?_,w0,⋯,fun z j hj=>?_⟩
   ·rw[g,e,Q6,hc]
    grind
   ·rcases Qc.mp hj with rfl | hj
    ·exact g
    ·exact f z j hj
def zFI{M:Nat}{ws cs:List Int}{q t:Rat}{B:Int}(hW:Wt ws cs)(hl:cs.length<=12)(tl:Lvl M ws cs q t)(hq:Dn B q):∃ E:Int,0<E/\E<=12*10^6/\∀ i,i<cs.length->Dn (B*E) (dY (cR cs) (cR ws) t i):=by
 obtain⟨F,W,e,w0,w1,f⟩:=zCy (c:=cR cs) (w:=cR ws) (ci:=fun i=>cs.getD i 0) (wi:=fun i=>ws.getD i 0) (t:=t) (fun _=>rfl) (fun _=>rfl) (List.range cs.length) fun i hi=>hW.at (Q7.mp hi)
 have s:qW (dY (cR cs) (cR ws) t) (List.range cs.length)=q:=tl.sum;rw[Vd] at w1;by_cases z:W=0
 ·refine⟨1,∅,∅,fun i hi=>?_⟩
  rw[f z i (Q7.mpr hi)];exact Dn.int _ _
 ·refine⟨W,⋯,⋯,fun i hi=>?_⟩
  unfold dY;refine Dn.mn ?_ (Dn.int _ _)
  obtain⟨k,hk⟩:=hq.sub (Dn.int B F);refine⟨ws.getD i 0*k,?_⟩
  rw[Qu,Qu,<-hk,<-s,e];show cR ws i*t*_=cR ws i*_
  grind
def zQD{B:Int}{x:Rat}(h:Dn B x):Dn (B*2) (x*hf):=by
 obtain⟨k,hk⟩:=h;refine⟨k,?_⟩
 rw[<-hk,Qu,zDE,show((2:Int):Rat)=2 from rfl];grind
def zMB{cs:List Int}{q:Rat}{B:Int}(h:Dn B q){i:Nat}(hi:i<cs.length):Dn B (zAi cs q i):=by
 unfold zAi;rw[zAV cs 0 q i hi];exact Dn.mn (Dn.ps (h.sub (Dn.int _ _))) (Dn.int _ _)
def zQm{M:Nat}{w:Wy}{ws cs:List Int}{q:Rat}{f:Nat->Rat}{B:Int}(hw:w.due ws cs)(hc:Cl cs)(hS:cs.sum<2^34)(al:Al M ws cs q f w)(hq:Dn B q):∃ E:Int,0<E/\E<2^34/\∀ i,i<cs.length->Dn (B*E) (f i):=by
 have hi:=hc.hi;have sm:=hc.sum;have hq':Dn B ((cs.sum:Rat)-q):=(Dn.int B cs.sum).sub hq
 cases w with
 | row=>exact⟨1,∅,∅,fun i hi=>by rw[al i hi,Vv];exact zMB hq hi⟩
 | back=>exact⟨1,∅,∅,fun i hi=>by rw[al i hi,Vv];exact(Dn.int _ _).sub (zMB hq' hi)⟩
 | even=>
  obtain⟨t,tl,e⟩:=al;obtain⟨E,e0,e1,e2⟩:=zFI hw hi tl hq;exact⟨E,e0,⋯,fun i hi=>by rw[e i hi];exact e2 i hi⟩
 | lack=>
  obtain⟨t,tl,e⟩:=al;obtain⟨E,e0,e1,e2⟩:=zFI hw hi tl hq';exact⟨E,e0,⋯,fun i hi=>by rw[e i hi];exact(Dn.int _ _).sub (e2 i hi)⟩
 | part=>
  by_cases z:cs.sum=0
  ·exact⟨1,∅,∅,fun i hi=>by rw[al i hi,(fS hc hi).2 z];exact Dn.zero _⟩
  ·refine⟨cs.sum,⋯,hS,fun i hi=>?_⟩
   have p:=(fS (q:=q) hc hi).1;rw[<-al i hi] at p;obtain⟨k,hk⟩:=hq;refine⟨k*cs.getD i 0,?_⟩
   rw[Qu,Qu,<-hk];show f i*((B:Rat)*(cs.sum:Rat))=q*(B:Rat)*cR cs i
   generalize (cs.sum:Rat)=S at *;generalize cR cs i=x at *;generalize f i=y at *;grind
 | half=>
  obtain⟨t,⟨c,tl,e⟩ | ⟨c,tl,e⟩⟩:=al
  ·obtain⟨E,e0,e1,e2⟩:=zFI (qV cs) hi tl (hq.add hq)
   exact⟨E*2,⋯,⋯,fun i hi=>by rw[e i hi,<-Xs];exact zQD (e2 i hi)⟩
  ·obtain⟨E,e0,e1,e2⟩:=zFI (qV cs) hi tl (hq'.add hq')
   exact⟨E*2,⋯,⋯,fun i hi=>by rw[e i hi,<-Xs];exact(Dn.int _ _).sub (zQD (e2 i hi))⟩
def Al.mono{M M':Nat}{w:Wy}{ws cs:List Int}{q:Rat}{f:Nat->Rat}(h:Al M ws cs q f w)(l:M<=M'):Al M' ws cs q f w:=by
 cases w with
 | row=>exact h
 | back=>exact h
 | part=>exact h
 | even=>obtain⟨t,tl,e⟩:=h;exact⟨t,tl.mono l,e⟩
 | lack=>obtain⟨t,tl,e⟩:=h;exact⟨t,tl.mono l,e⟩
 | half=>
  obtain⟨t,⟨c,tl,e⟩ | ⟨c,tl,e⟩⟩:=h
  ·exact⟨t,.inl ⟨c,tl.mono l,e⟩⟩
  ·exact⟨t,.inr ⟨c,tl.mono l,e⟩⟩
def zRa(q:Rat):Sz (q.num.natAbs+q.den) q:=⟨Qm W8 (Vt ∅ ⋯),Qm W8 (Vt ∅ ⋯)⟩
def zLY{M:Nat}{w:Wy}{ws cs:List Int}{q:Rat}{f:Nat->Rat}(hw:w.due ws cs)(hc:Cl cs)(q0:0<=q)(q1:q<=(cs.sum:Rat))(al:Al M ws cs q f w):(∀ i,i<cs.length->0<=f i/\f i<=cR cs i)/\((List.range cs.length).map f).sum=q:=by
 have d:=zOy (m:=q.num.natAbs+q.den+M) hw hc ⟨q0,q1,(zRa q).mono ⋯⟩ (al.mono ⋯)
 exact⟨fun i hi=>⟨(d.bd i hi).1,(d.bd i hi).2.1⟩,d.sum⟩
def zAK{M M':Nat}{ws cs:List Int}{q q' t t':Rat}(hW:Wt ws cs)(a:Lvl M ws cs q t)(b:Lvl M' ws cs q' t')(h:q=q'){i:Nat}(hi:i<cs.length):dY (cR cs) (cR ws) t i=dY (cR cs) (cR ws) t' i:=by
 have pw:∀ j∈List.range cs.length,0<cR ws j:=fun j hj=>by
  have:=(hW.at (Q7.mp hj)).1
  unfold cR;exact_mod_cast (show 0<ws.getD j 0 by omega)
 exact zAI (c:=cR cs) (w:=cR ws) pw (by show(evs ws cs t).sum=(evs ws cs t').sum;rw[a.sum,b.sum,h]) i (Q7.mpr hi)
def zMW{M M':Nat}{w:Wy}{ws cs:List Int}{q:Rat}{f g:Nat->Rat}(hw:w.due ws cs)(a:Al M ws cs q f w)(b:Al M' ws cs q g w){i:Nat}(hi:i<cs.length):f i=g i:=by
 cases w with
 | row=>rw[a i hi,b i hi]
 | back=>rw[a i hi,b i hi]
 | part=>rw[a i hi,b i hi]
 | even=>
  obtain⟨t,tl,e⟩:=a;obtain⟨t',tl',e'⟩:=b;rw[e i hi,e' i hi,zAK hw tl tl' rfl hi]
 | lack=>
  obtain⟨t,tl,e⟩:=a;obtain⟨t',tl',e'⟩:=b;rw[e i hi,e' i hi,zAK hw tl tl' rfl hi]
 | half=>
  have W:=qV cs;obtain⟨t,⟨c,tl,e⟩ | ⟨c,tl,e⟩⟩:=a
  ·obtain⟨t',⟨c',tl',e'⟩ | ⟨c',tl',e'⟩⟩:=b
   ·rw[e i hi,e' i hi,zAK W tl tl' rfl hi]
   ·exact absurd c' (Qr.mpr c)
  ·obtain⟨t',⟨c',tl',e'⟩ | ⟨c',tl',e'⟩⟩:=b
   ·exact absurd c (Qr.mpr c')
   ·rw[e i hi,e' i hi,zAK W tl tl' rfl hi]
def zIG:∀ {cs:List Int} {i j:Nat},(∀ c∈cs,0<=c)->i<j->j<=cs.length->(cs.take i).sum+cs.getD i 0<=(cs.take j).sum/\0<=(cs.take i).sum
 | [],i,j,_,h,h'=>by simp at h';omega
 | c::r,i,0,_,h,_=>⋯
 | c::r,0,j+1,hn,_,_=>by
  have hr:∀ l:List Int,(∀ c∈l,0<=c)->0<=l.sum:=by
   intro l
   induction l with
   | nil=>intro _;decide
   | cons a l ih=>intro hl;rw[Qn];have:=hl a Qe;have:=ih fun x hx=>hl x (Qd _ hx);omega
  have:=hr (r.take j) fun x hx=>hn x (Qd _ (Uf hx))
  rw[Ue,Qn];simp
  omega
 | c::r,i+1,j+1,hn,h,h'=>by
  have ih:=zIG (cs:=r) (i:=i) (j:=j) (fun x hx=>hn x (Qd _ hx)) ⋯ (by simpa using h')
  have:=hn c Qe
  rw[Ue,Qn,Ue,Qn];show c+_+r.getD i 0<=_/\_
  omega
def wB{cs:List Int}{q:Rat}(hn:∀ c∈cs,0<=c){i j:Nat}(h:i<j)(hj:j<cs.length):zAi cs q j=0∨zAi cs q i=cR cs i:=by
 unfold zAi;rw[zAV cs 0 q j hj,zAV cs 0 q i ⋯];have tu:=(zIG hn h (Xw hj)).1
 have c0:(0:Rat)<=cR cs j:=by
  unfold cR;exact_mod_cast hn _ (Qf (aZ hj))
 have tu':((0+(cs.take i).sum:Int):Rat)+cR cs i<=((0+(cs.take j).sum:Int):Rat):=by
  unfold cR;rw[<-Q6];exact_mod_cast (show 0+(cs.take i).sum+cs.getD i 0<=0+(cs.take j).sum by omega)
 generalize ((0+(cs.take i).sum:Int):Rat)=A at *;generalize ((0+(cs.take j).sum:Int):Rat)=B at *;generalize cR cs i=x at *;generalize cR cs j=y at *;unfold mn ps0;by_cases z:q<=B
 ·left;grind
 ·right;grind
def zBr{a b:Int}{x y:Rat}(h0:0<=x)(h1:x<=(a:Rat))(h2:0<=y)(h3:y<=(b:Rat))(h:y=0∨x=(a:Rat)):zAi [a,b] (x+y) 0=x/\zAi [a,b] (x+y) 1=y:=by
 have e0:zAi [a,b] (x+y) 0=mn (ps0 (x+y-((0:Int):Rat))) (a:Rat):=rfl;have e1:zAi [a,b] (x+y) 1=mn (ps0 (x+y-((0+a:Int):Rat))) (b:Rat):=rfl;rw[e0,e1,Int.zero_add,show((0:Int):Rat)=0 from rfl];unfold mn ps0;generalize (a:Rat)=A at *;generalize (b:Rat)=B at *;rcases h with h | h<;>subst h<;>grind
def sY{M:Nat}{ws cs:List Int}{i j:Nat}{t t':Rat}(hi:0<cR ws i)(hj:0<cR ws j)(h:Lvl M [ws.getD i 0,ws.getD j 0] [cs.getD i 0,cs.getD j 0] (dY (cR cs) (cR ws) t i+dY (cR cs) (cR ws) t j) t'):
  dY (cR [cs.getD i 0,cs.getD j 0]) (cR [ws.getD i 0,ws.getD j 0]) t' 0=dY (cR cs) (cR ws) t i/\dY (cR [cs.getD i 0,cs.getD j 0]) (cR [ws.getD i 0,ws.getD j 0]) t' 1=dY (cR cs) (cR ws) t j:=by
 have s:=h.sum
 have k:=zAI (c:=cR [cs.getD i 0,cs.getD j 0]) (w:=cR [ws.getD i 0,ws.getD j 0]) (t:=t') (u:=t) (l:=[0,1]) (by
  intro k hk;rcases Qc.mp hk with rfl | hk
  ·exact hi
  ·rw[Qx.mp hk];exact hj) (by
  have e1:qW (dY (cR [cs.getD i 0,cs.getD j 0]) (cR [ws.getD i 0,ws.getD j 0]) t') [0,1]=(evs [ws.getD i 0,ws.getD j 0] [cs.getD i 0,cs.getD j 0] t').sum:=rfl;rw[e1,s,cG,cG,rE,Xt]
  rfl)
 exact⟨k 0 Qe,k 1 (Qd _ Qe)⟩
def zET(a b:Int):(([a,b]:List Int).sum:Rat)=(a:Rat)+(b:Rat):=by
 rw[Qn,Qn,Vp,Int.add_zero,Q6]
def w2(ws:List Int)(i j:Nat):List Int:=if ws=[] then [] else [ws.getD i 0,ws.getD j 0]
def rW(x:Rat):x*hf+x*hf=x:=by rw[zDE];grind
def zMO{M M' N:Nat}{w:Wy}{ws cs:List Int}{q:Rat}{f g:Nat->Rat}(hw:w.due ws cs)(hc:Cl cs)(a:Al M ws cs q f w)(d:Dl N cs q f){i j:Nat}(hij:i<j)(hj:j<cs.length)
  (b:Al M' (w2 ws i j) [cs.getD i 0,cs.getD j 0] (f i+f j) g w):g 0=f i/\g 1=f j:=by
 have hi:i<cs.length:=⋯
 have bi:=d.bd i hi;have bj:=d.bd j hj;have ci:cR cs i=((cs.getD i 0:Int):Rat):=rfl;have cj:cR cs j=((cs.getD j 0:Int):Rat):=rfl;have z0:(0:Nat) < [cs.getD i 0,cs.getD j 0].length:=Ug _;have z1:(1:Nat) < [cs.getD i 0,cs.getD j 0].length:=Xp _;have k0:cR [cs.getD i 0,cs.getD j 0] 0=cR cs i:=rfl;have k1:cR [cs.getD i 0,cs.getD j 0] 1=cR cs j:=rfl;have sm:=zET (cs.getD i 0) (cs.getD j 0);rw[<-ci,<-cj] at sm
 have wpos:Wt ws cs->0<cR ws i/\0<cR ws j/\w2 ws i j=[ws.getD i 0,ws.getD j 0]:=fun hW=>by
  have a1:=(hW.at hi).1;have a2:=(hW.at hj).1;refine⟨by unfold cR;exact_mod_cast (show 0<ws.getD i 0 by omega),by unfold cR;exact_mod_cast (show 0<ws.getD j 0 by omega),?_⟩
  unfold w2;rw[Jk];intro e;have:=hW.len
  rw[e] at this;simp at this
  omega
 cases w with
 | row=>
  rw[b 0 z0,b 1 z1];exact zBr bi.1 bi.2.1 bj.1 bj.2.1 (by rw[a j hj,a i hi];exact wB hc.nn hij hj)
 | back=>
  have ai:=a i hi;have aj:=a j hj;have b0:=b 0 z0;have b1:=b 1 z1;rw[sm,k0] at b0;rw[sm,k1] at b1;have key:=zBr (a:=cs.getD i 0) (b:=cs.getD j 0) (x:=zAi cs ((cs.sum:Rat)-q) i) (y:=zAi cs ((cs.sum:Rat)-q) j) (by grind) (by rw[<-ci];grind) (by grind) (by rw[<-cj];grind) (wB hc.nn hij hj)
  rw[show cR cs i+cR cs j-(f i+f j)=zAi cs ((cs.sum:Rat)-q) i+zAi cs ((cs.sum:Rat)-q) j by rw[ai,aj];grind] at b0 b1;rw[key.1] at b0;rw[key.2] at b1;exact⟨by rw[b0,ai],by rw[b1,aj]⟩
 | even=>
  obtain⟨p1,p2,p3⟩:=wpos hw;obtain⟨t,tl,e⟩:=a;obtain⟨t',tl',e'⟩:=b;rw[p3] at tl' e';rw[e i hi,e j hj] at tl' ⊢
  obtain⟨r0,r1⟩:=sY p1 p2 tl';exact⟨by rw[e' 0 z0,r0],by rw[e' 1 z1,r1]⟩
 | lack=>
  obtain⟨p1,p2,p3⟩:=wpos hw;obtain⟨t,tl,e⟩:=a;obtain⟨t',tl',e'⟩:=b;rw[p3] at tl' e';rw[sm,e i hi,e j hj,show cR cs i+cR cs j-(cR cs i-dY (cR cs) (cR ws) t i+(cR cs j-dY (cR cs) (cR ws) t j))=dY (cR cs) (cR ws) t i+dY (cR cs) (cR ws) t j by grind] at tl';obtain⟨r0,r1⟩:=sY p1 p2 tl';exact⟨by rw[e' 0 z0,r0,e i hi];rfl,by rw[e' 1 z1,r1,e j hj];rfl⟩
 | part=>
  have ai:=a i hi;have aj:=a j hj;have b0:=b 0 z0;have b1:=b 1 z1
  have c2:Cl [cs.getD i 0,cs.getD j 0]:=⟨fun c h=>by
   rcases Qc.mp h with rfl | h
   ·exact hc.nn _ (Qf (aZ hi))
   ·rw[Qx.mp h];exact hc.nn _ (Qf (aZ hj)),fun c h=>by
   rcases Qc.mp h with rfl | h
   ·exact hc.up _ (Qf (aZ hi))
   ·rw[Qx.mp h];exact hc.up _ (Qf (aZ hj)),Xn (Vo _),by show 2<=12;decide⟩
  have P0:=fS (q:=f i+f j) c2 z0;have P1:=fS (q:=f i+f j) c2 z1;have Pi:=fS (q:=q) hc hi;have Pj:=fS (q:=q) hc hj;rw[<-b0,sm,k0] at P0;rw[<-b1,sm,k1] at P1;rw[<-ai] at Pi;rw[<-aj] at Pj;have ni:(0:Rat)<=cR cs i:=by have:=bi.1;have:=bi.2.1;grind
  have nj:(0:Rat)<=cR cs j:=by have:=bj.1;have:=bj.2.1;grind
  by_cases z:cR cs i+cR cs j=0
  ·have y0:cR cs i=0:=by grind
   have y1:cR cs j=0:=by grind
   have zi:[cs.getD i 0,cs.getD j 0].sum=0:=by
    have:(([cs.getD i 0,cs.getD j 0].sum:Int):Rat)=((0:Int):Rat):=by rw[sm,z];rfl
    exact_mod_cast this
   have q0:=P0.2 zi;have q1:=P1.2 zi;have:=bi.1;have:=bi.2.1;have:=bj.1;have:=bj.2.1
   exact⟨by grind,by grind⟩
  ·by_cases zs:cs.sum=0
   ·have e1:=pN hc.nn zs _ (Qf (aZ hi))
    have e2:=pN hc.nn zs _ (Qf (aZ hj));refine absurd ?_ z
    rw[ci,cj,e1,e2,show((0:Int):Rat)=0 from rfl,Xt]
   ·have S0:(cs.sum:Rat)≠0:=by
     intro e;have e':(cs.sum:Rat)=((0:Int):Rat):=e;exact zs (by exact_mod_cast e')
    have p0:=P0.1;have p1:=P1.1;have pi:=Pi.1;have pj:=Pj.1;generalize (cs.sum:Rat)=S at *;refine⟨mO (s:=cR cs i+cR cs j) z (mO (s:=S) S0 ?_),mO (s:=cR cs i+cR cs j) z (mO (s:=S) S0 ?_)⟩
    ·rw[p0];grind
    ·rw[p1];grind
 | half=>
  have W:=qV cs
  have u1:(0:Rat)<cR (ones cs) i:=by
   have:=(W.at hi).1
   unfold cR;exact_mod_cast (show 0<(ones cs).getD i 0 by omega)
  have u2:(0:Rat)<cR (ones cs) j:=by
   have:=(W.at hj).1
   unfold cR;exact_mod_cast (show 0<(ones cs).getD j 0 by omega)
  have o2:ones [cs.getD i 0,cs.getD j 0]=[(ones cs).getD i 0,(ones cs).getD j 0]:=by
   unfold ones;simp[List.getD,hi,hj]
  have G:∀ {t:Rat} {k:Nat},0<=t->k<cs.length->0<=dY (cR cs) (cR (ones cs)) t k/\dY (cR cs) (cR (ones cs)) t k<=cR cs k:=fun h0 hk=>tI W hc h0 hk
  obtain⟨t,ha⟩:=a;obtain⟨t',hb⟩:=b;rw[sm,o2] at hb;have h2:=rW;rcases ha with⟨h1,tl,e⟩ | ⟨h1,tl,e⟩
  ·have gi:=G tl.nn hi
   have gj:=G tl.nn hj;have xi:=h2 (dY (cR cs) (cR (ones cs)) t i);have xj:=h2 (dY (cR cs) (cR (ones cs)) t j);rcases hb with⟨h3,tl',e'⟩ | ⟨h3,tl',e'⟩
   ·have s2:f i+f j+(f i+f j)=dY (cR cs) (cR (ones cs)) t i+dY (cR cs) (cR (ones cs)) t j:=by rw[e i hi,e j hj];grind
    rw[s2] at tl';obtain⟨r0,r1⟩:=sY u1 u2 tl';exact⟨by rw[e' 0 z0,r0,e i hi],by rw[e' 1 z1,r1,e j hj]⟩
   ·exfalso
    rw[e i hi,e j hj] at h3;grind
  ·have gi:=G tl.nn hi
   have gj:=G tl.nn hj;have xi:=h2 (dY (cR cs) (cR (ones cs)) t i);have xj:=h2 (dY (cR cs) (cR (ones cs)) t j);rcases hb with⟨h3,tl',e'⟩ | ⟨h3,tl',e'⟩
   ·have fi:=e i hi
    have fj:=e j hj
    have full:dY (cR cs) (cR (ones cs)) t i=cR cs i/\dY (cR cs) (cR (ones cs)) t j=cR cs j:=by
     rw[fi,fj] at h3;exact⟨by grind,by grind⟩
    have s2:f i+f j+(f i+f j)=dY (cR cs) (cR (ones cs)) t i+dY (cR cs) (cR (ones cs)) t j:=by rw[fi,fj];grind
    rw[s2] at tl';obtain⟨r0,r1⟩:=sY u1 u2 tl';exact⟨by rw[e' 0 z0,r0,fi];grind,by rw[e' 1 z1,r1,fj];grind⟩
   ·have s2:cR cs i+cR cs j-(f i+f j)+(cR cs i+cR cs j-(f i+f j))=dY (cR cs) (cR (ones cs)) t i+dY (cR cs) (cR (ones cs)) t j:=by rw[e i hi,e j hj];grind
    rw[s2] at tl';obtain⟨r0,r1⟩:=sY u1 u2 tl';exact⟨by rw[e' 0 z0,r0,e i hi];rfl,by rw[e' 1 z1,r1,e j hj];rfl⟩
def wys:List Str:=["row","back","even","lack","part","half"]
def wOK(w:Str)(ws:List Int)(m:Nat):Prop:=(w = "even" ∨ w = "lack")/\ws.length=m/\(∀ x∈ws,1<=x/\x<=10^6)∨¬ (w = "even" ∨ w = "lack")/\ws=[]
def IsC:Nat->D->Prop
 | 0,_=>False
 | n+1,d=>(∃ c:Int,d=.tup [.str "boat", .int c])∨∃(w:Str)(ws:List Int)(ks:List D),d=.tup [.str w,.tup (ws.map D.int),.tup ks]/\(w == "boat")=false/\0<ks.length/\ks.length<=100/\ws.length<=100/\(w∈wys/\wOK w ws ks.length)/\∀ k∈ks,IsC n k
def clm:Nat->D->List Int
 | 0,_=>[]
 | n+1,d=>match d with
  | .tup [_,.int c]=>[c]
  | .tup [_,_,.tup ks]=>ks.flatMap (clm n)
  | _=>[]
def dpt:Nat->D->Int
 | 0,_=>0
 | n+1,d=>match d with
  | .tup [_,_,.tup ks]=>1+mx0 (ks.map (dpt n))
  | _=>1
def mE{c:Int}:cU [.tup [.str "boat", .int c]]=.ok (.v (.bl true)):=by
 unfold cU;symm
def hZ{w:Str}{a b:D}(h:(w == "boat")=false):cU [.tup [.str w,a,b]]=.ok (.v (.bl false)):=by
 unfold cU;erw[h]
def zGL{c:Int}:aT [.tup [.str "boat", .int c]]=.ok (.v (.tup [])):=by
 unfold aT;erw[mE];symm
def cM{w:Str}{a b:D}(h:(w == "boat")=false):aT [.tup [.str w,a,b]]=.ok (.v b):=by
 unfold aT;erw[hZ h];symm
def zMC{ks:List D}{n i:Nat}:((ks.take i).flatMap (clm n)).length<=(ks.flatMap (clm n)).length:=by
 conv=>rhs;rw[<-Yo i ks,Xu,Ql]
 exact Nat.le_add_right _ _
def zLk{ks:List D}{n:Nat}{k:D}(h:k∈ks):(clm n k).length<=(ks.flatMap (clm n)).length:=by
 obtain⟨a,b,rfl⟩:=List.append_of_mem h;rw[Xu,V0,Ql,Ql];omega
def kB:∀(n:Nat)(d:D),IsC n d->(clm n d).length<=1000->bU n [d]=.ok (.f ((clm n d).map D.int))
 | 0,d,h,_=>h.elim
 | n+1,d,h,hl=>by
  show mI (bU n) [d]=_
  unfold mI;symm;rcases h with⟨c,rfl⟩ | ⟨w,ws,ks,rfl,hw,k0,k1,w1,hy,hk⟩
  ·rw[mE]
   symm;rfl
  ·rw[hZ hw]
   erw[cM hw];symm;refine oY (Q:=fun r=>r.bind fin=.ok (.f ((ks.flatMap (clm n)).map D.int))) (fun i ρ=>∃ a,ρ=[.val (.tup [.str w,.tup (ws.map D.int),.tup ks]),.own (((ks.take i).flatMap (clm n)).map D.int),a]) ⟨_,rfl⟩ ?_ ?_
   ·rintro i e ρ he ⟨a,rfl⟩
    have hm:=Qf he;have hl':(ks.flatMap (clm n)).length<=1000:=hl;have l1:=zLk (n:=n) hm;have l2:=zMC (ks:=ks) (n:=n) (i:=i);erw[kB n e (hk e hm) ⋯,Jj ⋯];refine⟨_,rfl,.val e,?_⟩
    rw[zAA he,Xu,Q9];simp[List.flatMap]
   ·rintro ρ' ⟨a,rfl⟩
    erw[Xe]
def iO:∀(n:Nat)(d:D),IsC n d->(clm n d).length<=1000->bH n [d]=.ok (.v (.lst ((clm n d).map D.int)))
 | 0,d,h,_=>h.elim
 | n+1,d,h,hl=>by
  show lO (bH n) [d]=_
  unfold lO;symm;rcases h with⟨c,rfl⟩ | ⟨w,ws,ks,rfl,hw,k0,k1,w1,hy,hk⟩
  ·symm
   rfl
  ·symm
   rw[hw];symm;refine oY (Q:=fun r=>r.bind fin=.ok (.v (.lst ((ks.flatMap (clm n)).map D.int)))) (fun i ρ=>∃ a,ρ=[.val (.tup [.str w,.tup (ws.map D.int),.tup ks]),.val (.lst (((ks.take i).flatMap (clm n)).map D.int)),a]) ⟨_,rfl⟩ ?_ ?_
   ·rintro i e ρ he ⟨a,rfl⟩
    have hm:=Qf he;have hl':(ks.flatMap (clm n)).length<=1000:=hl;have l1:=zLk (n:=n) hm;have l2:=zMC (ks:=ks) (n:=n) (i:=i);erw[iO n e (hk e hm) ⋯,Jj ⋯];symm;refine⟨_,rfl,.val e,?_⟩
    rw[zAA he,Xu,Q9];simp[List.flatMap]
   ·rintro ρ' ⟨a,rfl⟩
    erw[Xe]
def zCJ:∀(n:Nat)(d:D),IsC n d->kM n [d]=.ok (.v (.int (dpt n d)))
 | 0,d,h=>h.elim
 | n+1,d,h=>by
  show sG (kM n) [d]=_
  unfold sG;symm;rcases h with⟨c,rfl⟩ | ⟨w,ws,ks,rfl,hw,k0,k1,w1,hy,hk⟩
  ·rw[zGL]
   symm;rfl
  ·rw[cM hw]
   symm
   have e:=wE (u:=fun k=>k) (g:=fun k=>.int (dpt n k)) (l:=ks) (f:=aN (kM n) (aB (aE 1) aNil)) (ρ:=[.val (.tup [.str w,.tup (ws.map D.int),.tup ks])]) ⋯ (fun k hm=>by
    erw[zCJ n k (hk k hm)]
    symm)
   rw[Uh] at e;rw[e];erw[zIS];symm;rfl
def dOK:Nat->D->Prop
 | 0,_=>False
 | n+1,d=>(∃ i,d=.int i)∨(∃ x,d=.str x)∨∃ ds,d=.tup ds/\ds.length<=1000/\∀ e∈ds,dOK n e
def zKR:∀ {n m:Nat} {d:D},dOK n d->n<=m->dOK m d
 | 0,_,_,h,_=>h.elim
 | n+1,0,_,_,l=>absurd l ⋯
 | n+1,m+1,d,h,l=>by
  rcases h with h | h | ⟨ds,rfl,hl,he⟩
  ·exact .inl h
  ·exact .inr (.inl h)
  ·exact .inr (.inr ⟨ds,rfl,hl,fun e h=>zKR (he e h) ⋯⟩)
def zIO:∀(n:Nat)(d:D),IsC n d->dOK (2*n+1) d
 | 0,d,h=>h.elim
 | n+1,d,h=>by
  rcases h with⟨c,rfl⟩ | ⟨w,ws,ks,rfl,hw,k0,k1,w1,hy,hk⟩
  ·refine .inr (.inr ⟨_,rfl,by simp,fun e he=>?_⟩)
   rcases Qc.mp he with rfl | he
   ·exact .inr (.inl ⟨_,rfl⟩)
   ·rw[Qx.mp he];exact .inl ⟨_,rfl⟩
  ·refine .inr (.inr ⟨_,rfl,by simp,fun e he=>?_⟩)
   rcases Qc.mp he with rfl | he
   ·exact .inr (.inl ⟨_,rfl⟩)
   ·rcases Qc.mp he with rfl | he
    ·refine .inr (.inr ⟨_,rfl,by rw[Qi];omega,fun x hx=>?_⟩)
     obtain⟨i,_,rfl⟩:=Vh.mp hx;exact .inl ⟨_,rfl⟩
    ·rw[Qx.mp he]
     exact .inr (.inr ⟨_,rfl,⋯,fun x hx=>zIO n x (hk x hx)⟩)
def zEi:∀(n:Nat)(d:D),dOK n d->noL d=true
 | 0,d,h=>h.elim
 | n+1,d,h=>by
  rcases h with⟨i,rfl⟩ | ⟨x,rfl⟩ | ⟨ds,rfl,hl,he⟩
  ·simp[noL]
  ·simp[noL]
  ·rw[noL]
   clear hl
   induction ds with
   | nil=>rfl
   | cons a r ih=>rw[noLs,zEi n a (he a Qe),ih fun e h=>he e (Qd _ h)];rfl
def fP:∀ {n m:Nat} {d:D},IsC n d->n<=m->IsC m d
 | 0,_,_,h,_=>h.elim
 | n+1,0,_,_,l=>absurd l ⋯
 | n+1,m+1,d,h,l=>by
  rcases h with h | ⟨w,ws,ks,rfl,hw,k0,k1,w1,hy,hk⟩
  ·exact .inl h
  ·exact .inr ⟨w,ws,ks,rfl,hw,k0,k1,w1,hy,fun k h=>fP (hk k h) ⋯⟩
def dR:∀ {n m:Nat} {d:D},IsC n d->n<=m->clm m d=clm n d
 | 0,_,_,h,_=>h.elim
 | n+1,0,_,_,l=>absurd l ⋯
 | n+1,m+1,d,h,l=>by
  rcases h with⟨c,rfl⟩ | ⟨w,ws,ks,rfl,hw,k0,k1,w1,hy,hk⟩
  ·rfl
  ·show ks.flatMap (clm m)=ks.flatMap (clm n)
   rw[Ui,Ui];congr 1
   exact Xa fun k h=>dR (hk k h) ⋯
def zGm:∀ {n m:Nat} {d:D},IsC n d->n<=m->dpt m d=dpt n d
 | 0,_,_,h,_=>h.elim
 | n+1,0,_,_,l=>absurd l ⋯
 | n+1,m+1,d,h,l=>by
  rcases h with⟨c,rfl⟩ | ⟨w,ws,ks,rfl,hw,k0,k1,w1,hy,hk⟩
  ·rfl
  ·show 1+mx0 (ks.map (dpt m))=1+mx0 (ks.map (dpt n))
   rw[Xa fun k h=>zGm (hk k h) ⋯]
def zQG:∀ {l:List Int} {b:Int},0<=b->(∀ x∈l,x<=b)->mx0 l<=b
 | [],b,h,_=>h
 | a::r,b,_,h=>by
  have key:∀(r:List Int)(a:Int),a<=b->(∀ x∈r,x<=b)->zBo a r<=b:=by
   intro r
   induction r with
   | nil=>intro a ha _;exact ha
   | cons c r ih=>
    intro a ha hr;rw[zBo];refine ih _ ?_ fun x hx=>hr x (Qd _ hx)
    split
    ·exact hr c Qe
    ·exact ha
  exact key r a (h a Qe) fun x hx=>h x (Qd _ hx)
def zQa:∀ {l:List Int} {x:Int},x∈l->x<=mx0 l
 | [],_,h=>by cases h
 | a::r,x,h=>by
  have key:∀(r:List Int)(a:Int),a<=zBo a r/\∀ x∈r,x<=zBo a r:=by
   intro r
   induction r with
   | nil=>intro a;exact⟨Ym _,fun x h=>by cases h⟩
   | cons c r ih=>
    intro a;rw[zBo];have h1:=ih (if c > a then c else a);refine⟨Xo ?_ h1.1,fun x hx=>?_⟩
    ·split<;>omega
    ·rcases Qc.mp hx with rfl | hx
     ·refine Xo ?_ h1.1;split<;>omega
     ·exact h1.2 x hx
  rcases Qc.mp h with rfl | h
  ·exact(key r x).1
  ·exact(key r a).2 x h
def zIl:∀ {n:Nat} {d:D},IsC n d->1<=dpt n d/\dpt n d<=n
 | 0,_,h=>h.elim
 | n+1,d,h=>by
  rcases h with⟨c,rfl⟩ | ⟨w,ws,ks,rfl,hw,k0,k1,w1,hy,hk⟩
  ·exact⟨by show(1:Int)<=1;omega,by show(1:Int)<=_;omega⟩
  ·have h1:mx0 (ks.map (dpt n))<=n:=zQG ⋯ fun x hx=>by
    obtain⟨k,hk',rfl⟩:=Vh.mp hx;exact(zIl (hk k hk')).2
   have h2:0<=mx0 (ks.map (dpt n)):=by
    cases ks with
    | nil=>cases k0
    | cons k r=>exact Xo (by have:=(zIl (hk k Qe)).1;omega) (zQa (x:=dpt n k) (by simp))
   exact⟨by show 1<=1+mx0 (ks.map (dpt n));omega,by show 1+mx0 (ks.map (dpt n))<=((n+1:Nat):Int);omega⟩
def zHN{w:Str}(h:w∈wys):(bM.lookup w).isSome=true/\(w == "boat")=false:=by
 simp only[wys,Qc,Q0,or_false] at h;rcases h with rfl | rfl | rfl | rfl | rfl | rfl<;>decide
def zDF{w:Str}(h:w∈wys):dO [.str w]=.ok (.v .non):=by
 unfold dO;erw[(zHN h).1];symm
def zQc{w:Str}:oIn (.str w) (.tup [.str "even", .str "lack"])=.ok (.bl (decide (w = "even" ∨ w = "lack"))):=by
 show(if depS [D.str "even", D.str "lack"]<=50 then Res.ok (D.bl (((Str.ofString "even")==w) || (((Str.ofString "lack")==w) || false))) else .no)=_
 rw[Jj ∅,Bool.or_false];congr 2
 by_cases h1:w = "even"
 ·subst h1;decide
 ·by_cases h2:w = "lack"
  ·subst h2;decide
  ·rw[Ji (fun h=>h.elim h1 h2),beq_eq_false_iff_ne.mpr (Ne.symm h1),beq_eq_false_iff_ne.mpr (Ne.symm h2)];rfl
def vH{w:Str}{ws:List Int}{m:Nat}{d:D}(hd:d=.lst (ws.map D.int)∨d=.tup (ws.map D.int))(h:wOK w ws m):bI [.str w,d,.int m]=.ok (.v .non):=by
 have sq:zKv d=.ok (ws.map D.int):=by rcases hd with rfl | rfl<;>rfl
 have ln:kU [d]=.ok (.int (ws.length:Int)):=by rcases hd with rfl | rfl<;>simp[bLen_l,bLen_t]
 have fine:∀ x∈ws,1<=x/\x<=10^6:=by
  rcases h with⟨_,_,h⟩ | ⟨_,rfl⟩
  ·exact h
  ·intro x hx;cases hx
 have rest:∀ a:Sl,(gP [.val (.str w),.val d,.val (.int m),a,.un]).bind fin=.ok (.v .non):=by
  intro a;erw[sq];symm;refine zEp (Q:=fun r:Res Rt=>r=.ok (.v .non)) (fun ρ=>∃ b,ρ=[.val (.str w),.val d,.val (.int m),a,b]) ⟨_,rfl⟩ ?_ ?_
  ·rintro e ρ he ⟨b,rfl⟩
   obtain⟨x,hx,rfl⟩:=Vh.mp he;have hf:=fine x hx;erw[Ji ⋯,oPow_i ∅,Ji ⋯];symm;exact⟨_,rfl,_,rfl⟩
  ·rintro ρ' ⟨b,rfl⟩
   rfl
 unfold bI;erw[zQc];unfold kY;generalize (gP:Sv)=K at rest ⊢;rcases h with⟨hw,hl,_⟩ | ⟨hw,rfl⟩
 ·rw[J5 hw]
  erw[ln,hl];symm;exact rest _
 ·rw[Ji hw]
  erw[ln,show decide (((0:Nat):Int)=0)=true from rfl];symm;exact rest _
def zPw{c:Int}(h0:0<=c)(h1:c<=10^9):zDm [.int c]=.ok (.v (.tup [.str "boat", .int c])):=by
 unfold zDm;erw[Ji ⋯,Ji ⋯];symm
def zPC{w:Str}{ws:List Int}{ks:List D}{n:Nat}{wd:D}(hd:wd=.lst (ws.map D.int)∨wd=.tup (ws.map D.int))(hw:w∈wys)(hs:wOK w ws ks.length)(l1:ws.length<=100)(k0:0<ks.length)(k1:ks.length<=100)(hn:n<=7)(hk:∀ k∈ks,IsC n k)(hc:(ks.flatMap (clm n)).length<=12):
  zCh [.str w,wd,.lst ks]=.ok (.v (.tup [.str w,.tup (ws.map D.int),.tup ks]))/\IsC (n+1) (.tup [.str w,.tup (ws.map D.int),.tup ks]):=by
 have bt:zKr [wd]=.ok (.tup (ws.map D.int)):=by rcases hd with rfl | rfl<;>rfl
 have ic:IsC (n+1) (.tup [.str w,.tup (ws.map D.int),.tup ks]):=.inr ⟨w,ws,ks,rfl,(zHN hw).2,k0,k1,l1,⟨hw,hs⟩,hk⟩;have ic':=fP ic (show n+1<=10 by omega)
 have ec:=dR ic (show n+1<=10 by omega)
 have lc:(clm 10 (.tup [.str w,.tup (ws.map D.int),.tup ks])).length<=12:=by rw[ec];exact hc
 have dd:dpt 10 (.tup [.str w,.tup (ws.map D.int),.tup ks])<=8:=by
  rw[zGm ic (show n+1<=10 by omega)];have:=(zIl ic).2
  omega
 refine⟨?_,ic⟩
 unfold zCh;erw[zDF hw,vH hd hs,bt,Ji ⋯,kB 10 _ ic' ⋯,Ji ⋯,zCJ 10 _ ic',Ji ⋯];symm
structure Pl (L:List (D×Int)) (boats:Int):Prop where
 each:∀ p∈L,1<=p.2/\p.2<=7/\IsC p.2.toNat p.1
 few:((L.flatMap fun p=>clm 7 p.1).length:Int)<=boats
 most:boats<=12
 rng:∀ c∈(L.flatMap fun p=>clm 7 p.1),0<=c/\c<=10^9
def zIY:∀ {l:List D},(∀ d∈l,noL d=true)->noLs l=true
 | [],_=>rfl
 | a::r,h=>by rw[noLs,h a Qe,zIY fun d hd=>h d (Qd _ hd)];rfl
def Pl.noL{L:List (D×Int)}{b:Int}(h:Pl L b):∀ d∈L.map Prod.fst,noL d=true:=fun d hd=>by
 obtain⟨p,hp,rfl⟩:=Vh.mp hd;exact zEi _ _ (zIO _ _ (h.each p hp).2.2)
def zMH:∀ {n:Nat} {d:D},dOK n d->dep d<=n
 | 0,_,h=>h.elim
 | n+1,d,h=>by
  rcases h with⟨i,rfl⟩ | ⟨x,rfl⟩ | ⟨ds,rfl,hl,he⟩
  ·simp[dep]
  ·simp[dep]
  ·rw[dep]
   clear hl
   have:depS ds<=n:=by
    induction ds with
    | nil=>simp[depS]
    | cons a r ih=>
     rw[depS];exact Nat.max_le.mpr ⟨zMH (he a Qe),ih fun e h=>he e (Qd _ h)⟩
   omega
def zOx{n:Nat}:∀ {ds:List D},(∀ d∈ds,dOK n d)->depS ds<=n
 | [],_=>by simp[depS]
 | a::r,h=>by rw[depS];exact Nat.max_le.mpr ⟨zMH (h a Qe),zOx fun e he=>h e (Qd _ he)⟩
def zCY{w:Str}(h:w∈wys):∃ v:Wy,v.s=w:=by
 unfold wys at h;rcases Qc.mp h with rfl | h
 ·exact⟨.row,rfl⟩
 rcases Qc.mp h with rfl | h
 ·exact⟨.back,rfl⟩
 rcases Qc.mp h with rfl | h
 ·exact⟨.even,rfl⟩
 rcases Qc.mp h with rfl | h
 ·exact⟨.lack,rfl⟩
 rcases Qc.mp h with rfl | h
 ·exact⟨.part,rfl⟩
 ·rw[Qx.mp h];exact⟨.half,rfl⟩
def zDa{v:Wy}{ws cs:List Int}(h:wOK v.s ws cs.length):v.due ws cs:=by
 have k:¬ (v.s = "even" ∨ v.s = "lack")->ws=[]:=fun hn=>by
  rcases h with⟨a,_⟩ | ⟨_,b⟩
  ·exact absurd a hn
  ·exact b
 have k2:(v.s = "even" ∨ v.s = "lack")->Wt ws cs:=fun hy=>by
  rcases h with⟨_,b,c⟩ | ⟨a,_⟩
  ·exact⟨b,fun x hx=>(c x hx).1,fun x hx=>(c x hx).2⟩
  ·exact absurd hy a
 cases v with
 | even=>exact k2 (.inl rfl)
 | lack=>exact k2 (.inr rfl)
 | row=>exact k ∅
 | back=>exact k ∅
 | part=>exact k ∅
 | half=>exact k ∅
def Gc(n:Nat)(d:D):Prop:=IsC n d/\(clm n d).length<=12/\∀ c∈clm n d,0<=c/\c<=10^9
def zMU:∀ {l:List Int},(∀ c∈l,0<=c/\c<=10^9)->0<=l.sum/\l.sum<=l.length*10^9
 | [],_=>∅
 | c::r,h=>by
  have ih:=zMU fun x hx=>h x (Qd _ hx)
  have a:=h c Qe;rw[Qn,Qk];have:((r.length+1:Nat):Int)*10^9=(r.length:Int)*10^9+10^9:=by rw[Xq,X2];rfl
  omega
def Gc.sum{n:Nat}{d:D}(h:Gc n d):0<=(clm n d).sum/\(clm n d).sum<=12*10^9:=by
 have:=zMU h.2.2
 have:=h.2.1
 omega
def zAh{n:Nat}:∀ ks:List D,(ks.map fun k=>(clm n k).sum).sum=(ks.flatMap (clm n)).sum
 | []=>rfl
 | k::r=>by rw[Qg,Qn,zAh r,V0,Xg]
def zFi:∀ {n:Nat} {d:D},IsC n d->1<=(clm n d).length
 | 0,_,h=>h.elim
 | n+1,d,h=>by
  rcases h with⟨c,rfl⟩ | ⟨w,ws,ks,rfl,hw,k0,k1,w1,hy,hk⟩
  ·exact Qb 1
  ·cases ks with
   | nil=>simp at k0
   | cons k r=>
    have:=zFi (hk k Qe)
    show 1<=((k::r).flatMap (clm n)).length
    rw[V0,Ql];omega
def oE{n:Nat}:∀ {ks:List D},(∀ k∈ks,IsC n k)->ks.length<=(ks.flatMap (clm n)).length
 | [],_=>Vo _
 | k::r,h=>by
  have a:=zFi (h k Qe);have b:=oE fun x hx=>h x (Qd _ hx)
  rw[Qk,V0,Ql];omega
def zPL{n:Nat}{ks:List D}{k:D}(hk:k∈ks){c:Int}(hc:c∈clm n k):c∈ks.flatMap (clm n):=We.mpr ⟨k,hk,hc⟩
def Gc.kid{n:Nat}{w:D}{a ks:List D}(h:Gc (n+1) (.tup [w,.tup a,.tup ks]))(hi:∀ k∈ks,IsC n k){k:D}(hk:k∈ks):Gc n k:=
 ⟨hi k hk,Qp (zLk hk) h.2.1,fun c hc=>h.2.2 c (zPL hk hc)⟩
def kcl(n:Nat)(ks:List D):List Int:=ks.map fun k=>(clm n k).sum
def eR(n:Nat)(ks:List D):(kcl n ks).length=ks.length:=Qi ..
def Gc.cl{n:Nat}{w:D}{a ks:List D}(h:Gc (n+1) (.tup [w,.tup a,.tup ks]))(hi:∀ k∈ks,IsC n k)(h0:0<ks.length):Cl (kcl n ks):=by
 have b:∀ c∈kcl n ks,0<=c/\c<=12*10^9:=fun c hc=>by
  obtain⟨k,hk,rfl⟩:=Vh.mp hc;exact(h.kid hi hk).sum
 have l:(ks.flatMap (clm n)).length<=12:=h.2.1;have:=oE hi
 exact⟨fun c hc=>(b c hc).1,fun c hc=>by have:=(b c hc).2;omega,by rw[eR];omega,by rw[eR];omega⟩
def ShL(P:D->Rat->List Rat->Prop):List D->(Nat->Rat)->Nat->List Rat->Prop
 | [],_,_,xs=>xs=[]
 | k::ks,f,i,xs=>∃ a b,xs=a++b/\P k (f i) a/\ShL P ks f (i+1) b
def Sh:Nat->D->Rat->List Rat->Prop
 | 0,_,_,_=>False
 | n+1,d,q,xs=>(∃ c:Int,d=.tup [.str "boat", .int c]/\xs=[q])∨∃(v:Wy)(ws:List Int)(ks:List D)(f:Nat->Rat),d=.tup [.str v.s,.tup (ws.map D.int),.tup ks]/\v.due ws (kcl n ks)/\Al 3000 ws (kcl n ks) q f v/\ShL (Sh n) ks f 0 xs
def zKh{P:D->Rat->List Rat->Prop}{n:Nat}{f:Nat->Rat}:∀ {ks:List D} {i:Nat} {xs:List Rat},(∀ k∈ks,∀ q xs,P k q xs->xs.length=(clm n k).length)->ShL P ks f i xs->xs.length=(ks.flatMap (clm n)).length
 | [],i,xs,_,h=>by rw[show xs=[] from h];rfl
 | k::r,i,xs,hp,h=>by
  obtain⟨a,b,rfl,ha,hb⟩:=h;rw[Ql,hp k Qe _ _ ha,zKh (fun x hx=>hp x (Qd _ hx)) hb,V0,Ql]
def zCi:∀ {n:Nat} {d:D} {q:Rat} {xs:List Rat},Sh n d q xs->xs.length=(clm n d).length
 | 0,_,_,_,h=>h.elim
 | n+1,d,q,xs,h=>by
  rcases h with⟨c,rfl,rfl⟩ | ⟨v,ws,ks,f,rfl,hd,al,hs⟩
  ·rfl
  ·exact zKh (fun k _ q xs h=>zCi h) hs
def zBV{a:D}{l:List D}:lH [.tup (a::l)]=.ok (.v a):=by
 unfold lH;symm
def uX{a b:D}{l:List D}:eG [.tup (a::b::l)]=.ok (.v b):=by
 unfold eG;symm
def jV{n:Nat}{d:D}(h:IsC n d)(hn:n<=10)(hl:(clm n d).length<=1000):dH [d]=.ok (.v (.int (clm n d).sum)):=by
 have e:=dR h hn;unfold dH;erw[kB 10 d (fP h hn) (by rw[e];exact hl),e]
def zDz{n:Nat}{w:Str}{a:D}{ks:List D}(hw:(w == "boat")=false)(hi:∀ k∈ks,IsC n k)(hn:n<=10)(hl:(ks.flatMap (clm n)).length<=1000):gF [.tup [.str w,a,.tup ks]]=.ok (.f ((kcl n ks).map D.int)):=by
 unfold gF;erw[cM hw];symm
 rw[zJl (h:=fun k=>D.int (clm n k).sum) (by have:=oE hi;omega) (fun k hk=>by
  erw[jV (hi k hk) hn (Qp (zLk hk) hl)]
  symm)]
 symm;unfold kcl;rw[Q4];rfl
def dU(v:Wy):(v.s == "boat")=false:=by cases v<;>decide
def zQQ(cs:List Int):Sq (.lst (cs.map D.int)) cs:=.inl rfl
def zAk:∀(n N m:Nat)(d:D)(q:Rat),Gc n d->n<=N->n<=9->0<=q->q<=((clm n d).sum:Rat)->(q.den:Int)<2^m->m+34*n<=2000->∃ xs,gC N [d,dq q]=.ok (.f (xs.map dq))/\Sh n d q xs
 | 0,_,_,_,_,h,_,_,_,_,_,_=>h.1.elim
 | n+1,0,_,_,_,_,hN,_,_,_,_,_=>⋯
 | n+1,N+1,m,d,q,g,hN,hn,q0,q1,qd,hm=>by
  rcases g.1 with⟨c,rfl⟩ | ⟨w,ws,ks,rfl,hw,k0,k1,w1,hy,hk⟩
  ·refine⟨[q],?_,.inl ⟨c,rfl,rfl⟩⟩
   show jW (gC N) _=_
   unfold jW;erw[mE];symm
  ·obtain⟨v,rfl⟩:=zCY hy.1
   have cl:=g.cl hk k0;have l12:(ks.flatMap (clm n)).length<=12:=g.2.1;have hs:(kcl n ks).sum=(clm (n+1) (.tup [.str v.s,.tup (ws.map D.int),.tup ks])).sum:=zAh ks;have gs:=g.sum;have due:v.due ws (kcl n ks):=zDa (by rw[eR];exact hy.2)
   have sq:Sz (34+m) q:=(Dn.den q).sz (dA q) qd q0 q1 ⋯
   have hl:Haul (34+m) q (kcl n ks).sum:=⟨q0,by rw[hs];exact q1,sq⟩
   obtain⟨f,ef,af⟩:=zIw (wd:=.tup (ws.map D.int)) (.inr rfl) (zQQ (kcl n ks)) ⋯ due cl hl
   have df:=zOy due cl hl af;have hS:(kcl n ks).sum<2^34:=by rw[hs];omega
   obtain⟨E,e0,e1,e2⟩:=zQm due cl hS af (Dn.den q)
   have dk:∀ i,i<ks.length->((f i).den:Int)<2^(m+34):=fun i hi=>by
    have a:=(e2 i (by rw[eR];exact hi)).le (Vm (dA q) e0)
    have b:(q.den:Int)*E<2^m*2^34:=Int.mul_lt_mul qd (Xl e1) e0 (Xl (Yr ∅))
    rw[Wf];omega
   have loopOk:∀(js:List D)(i:Nat)(acc:List Rat)(s t:Sl),(∀ k∈js,k∈ks)->i+js.length=ks.length->ks.drop i=js->acc.length+(js.flatMap (clm n)).length<=12->∃ xs s' t',ShL (Sh n) js f i xs/\
     loop (zCc (fT (gName 4) (fT (gName 5) zCd))) (uN (gC N)) (nO js ((List.range' i js.length).map fun j=>dq (f j))) [.val (.tup [.str v.s,.tup (ws.map D.int),.tup ks]),.val (dq q),.val (.lst (((List.range (kcl n ks).length).map f).map dq)),.own (acc.map dq),s,t]=
      .ok (.nx [.val (.tup [.str v.s,.tup (ws.map D.int),.tup ks]),.val (dq q),.val (.lst (((List.range (kcl n ks).length).map f).map dq)),.own ((acc++xs).map dq),s',t']):=by
    intro js
    induction js with
    | nil=>intro i acc s t _ _ _ _;exact⟨[],s,t,rfl,by rw[Vs];rfl⟩
    | cons k r ih=>
     intro i acc s t hm' hl' hd' ha;have hik:i<ks.length:=by rw[Qk] at hl';omega
     have ik:k∈ks:=hm' k Qe;have gk:=g.kid hk ik;have fk:=df.bd i (by rw[eR];exact hik)
     have ck:cR (kcl n ks) i=((clm n k).sum:Rat):=by
      unfold cR kcl
      have:ks[i]?=some k:=by
       have:=List.getElem?_drop (xs:=ks) (i:=i) (j:=0)
       rw[hd'] at this;simpa using this.symm
      rw[Qs,Qq,this];rfl
     obtain⟨xs,ex,sx⟩:=zAk n N (m+34) k (f i) gk ⋯ ⋯ fk.1 (by rw[<-ck];exact fk.2.1) (dk i hik) ⋯
     have lx:=zCi sx;rw[V0,Ql] at ha;obtain⟨ys,s',t',sy,ey⟩:=ih (i+1) (acc++xs) (.val k) (.val (dq (f i))) (fun x hx=>hm' x (Qd _ hx)) (by rw[Qk] at hl';omega) (by rw[<-Wg,hd'];rfl) (by rw[Ql];omega)
     refine⟨xs++ys,s',t',⟨xs,ys,rfl,sx,sy⟩,?_⟩
     rw[Qk,List.range'_succ,Qg,show nO (k::r) (dq (f i)::(List.range' (i+1) r.length).map fun j=>dq (f j))=.tup [k,dq (f i)]::nO r ((List.range' (i+1) r.length).map fun j=>dq (f j)) from rfl]
     rw[cD (ρ1:=[.val (.tup [.str v.s,.tup (ws.map D.int),.tup ks]),.val (dq q),.val (.lst (((List.range (kcl n ks).length).map f).map dq)),.own (acc.map dq),.val k,.val (dq (f i))]) (ρ2:=[.val (.tup [.str v.s,.tup (ws.map D.int),.tup ks]),.val (dq q),.val (.lst (((List.range (kcl n ks).length).map f).map dq)),.own ((acc++xs).map dq),.val k,.val (dq (f i))]) (by symm) (by
      erw[ex];symm
      rw[Jj ⋯,Q9]),ey,V5]
   obtain⟨xs,s',t',sx,ex⟩:=loopOk ks 0 [] .un .un (fun k h=>h) ⋯ rfl (by rw[Xb];omega)
   refine⟨xs,?_,.inr ⟨v,ws,ks,f,rfl,due,af.mono ⋯,sx⟩⟩
   show jW (gC N) _=_
   unfold jW;erw[hZ hw,zBV,uX,zDz hw hk ⋯ ⋯,ef,cM hw];symm;rw[xD rfl rfl,show((List.range (kcl n ks).length).map f).map dq=(List.range' 0 ks.length).map fun j=>dq (f j) by rw[Q4,eR,Wh];rfl];symm;rw[show((List.range (kcl n ks).length).map f).map dq=(List.range' 0 ks.length).map fun j=>dq (f j) by rw[Q4,eR,Wh];rfl] at ex;rw[Vy] at ex;rw[ex];rfl
def zBw{n m:Nat}{d:D}{q:Rat}(g:Gc n d)(hn:n<=9)(q0:0<=q)(q1:q<=((clm n d).sum:Rat))(qd:(q.den:Int)<2^m)(hm:m+34*n<=2000):∃ xs,jR [d,dq q]=.ok (.f (xs.map dq))/\Sh n d q xs:=by
 have gs:=g.sum;obtain⟨xs,ex,sx⟩:=zAk n 10 m d q g ⋯ hn q0 q1 qd hm
 refine⟨xs,?_,sx⟩
 have sq:Sz (34+m) q:=(Dn.den q).sz (dA q) qd q0 q1 ⋯
 unfold jR;erw[jV g.1 ⋯ (by have:=g.2.1;omega),cZ,nF ⋯ ⟨q0,q1,sq⟩ ⋯,ex];symm
def A2{r s:Type}(R:r->s->Prop):List r->List s->Prop
 | [],[]=>True
 | a::l,b::k=>R a b/\A2 R l k
 | _,_=>False
def A2.app{r s:Type}{R:r->s->Prop}:∀ {l l':List r} {k k':List s},A2 R l k->A2 R l' k'->A2 R (l++l') (k++k')
 | [],_,[],_,_,h=>h
 | _::l,_,_::k,_,h,h'=>⟨h.1,A2.app h.2 h'⟩
def A2.len{r s:Type}{R:r->s->Prop}:∀ {l:List r} {k:List s},A2 R l k->l.length=k.length
 | [],[],_=>rfl
 | _::l,_::k,h=>by rw[Qk,Qk,A2.len h.2]
def A2.at{r s:Type}{R:r->s->Prop}{a:r}{b:s}:∀ {l:List r} {k:List s} {i:Nat},A2 R l k->i<l.length->R (l.getD i a) (k.getD i b)
 | _::l,_::k,0,h,_=>h.1
 | _::l,_::k,i+1,h,hi=>A2.at (i:=i) h.2 (by simpa using hi)
def A2.mem{s p:Type}{R:s->p->Prop}:∀ {l:List s} {k:List p} {x:s},A2 R l k->x∈l->∃ y∈k,R x y
 | a::l,b::k,x,h,hx=>by
  rcases Qc.mp hx with rfl | hx
  ·exact⟨b,Qe,h.1⟩
  ·obtain⟨y,hy,r⟩:=A2.mem h.2 hx
   exact⟨y,Qd _ hy,r⟩
def Bc(x:Rat)(c:Int):Prop:=0<=x/\x<=(c:Rat)
def eY(l k:List Rat):(l++k).sum=l.sum+k.sum:=by
 induction l with
 | nil=>rw[Y4,Vp,Rat.zero_add]
 | cons a l ih=>rw[Y9,Qn,Qn,ih];grind
def zMu{P:D->Rat->List Rat->Prop}{n:Nat}{f:Nat->Rat}:∀ {ks:List D} {i:Nat} {xs:List Rat},(∀ k∈ks,∀ q xs,P k q xs->0<=q->q<=((clm n k).sum:Rat)->A2 Bc xs (clm n k)/\xs.sum=q)->(∀ j k,ks[j]?=some k->0<=f (i+j)/\f (i+j)<=((clm n k).sum:Rat))->ShL P ks f i xs->A2 Bc xs (ks.flatMap (clm n))/\xs.sum=((List.range' i ks.length).map f).sum
 | [],i,xs,_,_,h=>by rw[show xs=[] from h];exact⟨trivial,rfl⟩
 | k::r,i,xs,hp,hf,h=>by
  obtain⟨a,b,rfl,ha,hb⟩:=h;have f0:=hf 0 k rfl;obtain⟨a1,a2⟩:=hp k Qe _ _ ha f0.1 f0.2
  obtain⟨b1,b2⟩:=zMu (fun x hx=>hp x (Qd _ hx)) (fun j k' hj=>by
   have:=hf (j+1) k' (by simpa using hj)
   rw[show i+1+j=i+(j+1) by omega];exact this) hb
  refine⟨by rw[V0];exact a1.app b1,?_⟩
  rw[eY,a2,b2,Qk,List.range'_succ,Qg,Qn]
def zAS{n:Nat}{ks:List D}{j:Nat}{k:D}(h:ks[j]?=some k):j<(kcl n ks).length/\cR (kcl n ks) j=((clm n k).sum:Rat):=by
 refine⟨by rw[eR];exact(Qy.mp h).1,?_⟩
 unfold cR kcl;rw[Qs,Qq,h];rfl
def zLV:∀ {n:Nat} {d:D} {q:Rat} {xs:List Rat},Gc n d->Sh n d q xs->0<=q->q<=((clm n d).sum:Rat)->A2 Bc xs (clm n d)/\xs.sum=q
 | 0,_,_,_,g,_,_,_=>g.1.elim
 | n+1,d,q,xs,g,h,q0,q1=>by
  rcases h with⟨c,rfl,rfl⟩ | ⟨v,ws,ks,f,rfl,hd,al,hs⟩
  ·refine⟨⟨⟨q0,?_⟩,trivial⟩,by rw[Qn,Vp,Xt]⟩
   have e:((clm (n+1) (.tup [.str "boat", .int c])).sum:Int)=c:=by show([c]:List Int).sum=c;simp
   rw[e] at q1;exact q1
  ·rcases g.1 with⟨c,e⟩ | ⟨w,ws',ks',e,hw,k0,k1,w1,hy,hk⟩
   ·simp at e
   ·simp only[D.tup.injEq,Xv,and_true] at e
    obtain⟨e1,e2,rfl⟩:=e;have cl:=g.cl hk k0;have e:(kcl n ks).sum=(clm (n+1) (.tup [.str v.s,.tup (ws.map D.int),.tup ks])).sum:=zAh ks;obtain⟨b,s⟩:=zLY hd cl q0 (by rw[e];exact q1) al
    obtain⟨r1,r2⟩:=zMu (P:=Sh n) (n:=n) (f:=f) (i:=0) (fun k hk' q xs h0 h1 h2=>zLV (g.kid hk hk') h0 h1 h2) (fun j k hj=>by
     obtain⟨j1,j2⟩:=zAS (n:=n) hj;rw[Q8,<-j2]
     exact b j j1) hs
    refine⟨r1,?_⟩
    rw[r2,<-Wh,<-eR n ks];exact s
def kn:Nat->D->Nat
 | 0,_=>0
 | n+1,d=>match d with
  | .tup [_,_,.tup ks]=>1+(ks.map (kn n)).sum
  | _=>0
def zQW{n:Nat}:∀ {ks:List D},(∀ k∈ks,kn n k<=(n-1)*(clm n k).length)->(ks.map (kn n)).sum<=(n-1)*(ks.flatMap (clm n)).length
 | [],_=>Vo _
 | k::r,h=>by
  have a:=h k Qe;have b:=zQW fun x hx=>h x (Qd _ hx)
  rw[Qg,Qn,V0,Ql,Wj];omega
def zSc:∀ {n:Nat} {d:D},IsC n d->kn n d<=(n-1)*(clm n d).length
 | 0,_,h=>h.elim
 | n+1,d,h=>by
  rcases h with⟨c,rfl⟩ | ⟨w,ws,ks,rfl,hw,k0,k1,w1,hy,hk⟩
  ·exact Vo _
  ·have a:=zQW fun k h=>zSc (hk k h)
   have b:=oE hk;show 1+(ks.map (kn n)).sum<=(n+1-1)*(ks.flatMap (clm n)).length
   rw[U6]
   cases n with
   | zero=>obtain⟨k,r,rfl⟩:=List.exists_cons_of_length_pos k0;exact(hk k Qe).elim
   | succ n=>
    rw[U6] at a;rw[Nat.add_mul,Nat.one_mul];omega
def sV{a b:Int}{m n:Nat}(a0:0<a)(b0:0<b)(ha:a<=2^m)(hb:b<=2^n):a*b<=2^(m+n):=by
 rw[Wf];exact Int.mul_le_mul ha hb ⋯ (Xl (Yr ∅))
def zMx{P:D->Rat->List Rat->Prop}{n:Nat}{f:Nat->Rat}{B:Int}:∀ {ks:List D} {i:Nat} {xs:List Rat},(∀ k∈ks,∀ q xs B,P k q xs->0<=q->q<=((clm n k).sum:Rat)->Dn B q->∃ E:Int,0<E/\E<=2^(34*kn n k)/\∀ x∈xs,Dn (B*E) x)->(∀ j k,ks[j]?=some k->Dn B (f (i+j))/\0<=f (i+j)/\f (i+j)<=((clm n k).sum:Rat))->ShL P ks f i xs->∃ E:Int,0<E/\E<=2^(34*(ks.map (kn n)).sum)/\∀ x∈xs,Dn (B*E) x
 | [],i,xs,_,_,h=>⟨1,∅,by show(1:Int)<=2^(34*0);decide,fun x hx=>by rw[show xs=[] from h] at hx;cases hx⟩
 | k::r,i,xs,hp,hf,h=>by
  obtain⟨a,b,rfl,ha,hb⟩:=h;have f0:=hf 0 k rfl;obtain⟨E,e0,e1,e2⟩:=hp k Qe _ _ B ha f0.2.1 f0.2.2 f0.1
  obtain⟨E',e0',e1',e2'⟩:=zMx (B:=B) (fun x hx=>hp x (Qd _ hx)) (fun j k' hj=>by
   have:=hf (j+1) k' (by simpa using hj)
   rw[show i+1+j=i+(j+1) by omega];exact this) hb
  refine⟨E*E',Vm e0 e0',?_,fun x hx=>?_⟩
  ·rw[Qg,Qn,Wj]
   exact sV e0 e0' e1 e1'
  ·rcases Xh.mp hx with hx | hx
   ·rw[<-Xs];exact(e2 x hx).mul E'
   ·rw[X3 E,<-Xs];exact(e2' x hx).mul E
def zPt:∀ {n:Nat} {d:D} {q:Rat} {xs:List Rat} {B:Int},Gc n d->Sh n d q xs->0<=q->q<=((clm n d).sum:Rat)->Dn B q->∃ E:Int,0<E/\E<=2^(34*kn n d)/\∀ x∈xs,Dn (B*E) x
 | 0,_,_,_,_,g,_,_,_,_=>g.1.elim
 | n+1,d,q,xs,B,g,h,q0,q1,hB=>by
  rcases h with⟨c,rfl,rfl⟩ | ⟨v,ws,ks,f,rfl,hd,al,hs⟩
  ·exact⟨1,∅,by show(1:Int)<=2^(34*0);decide,fun x hx=>by rw[Qx.mp hx,Vv];exact hB⟩
  ·rcases g.1 with⟨c,e⟩ | ⟨w,ws',ks',e,hw,k0,k1,w1,hy,hk⟩
   ·simp at e
   ·simp only[D.tup.injEq,Xv,and_true] at e
    obtain⟨e1,e2,rfl⟩:=e;have cl:=g.cl hk k0;have gs:=g.sum;have e:(kcl n ks).sum=(clm (n+1) (.tup [.str v.s,.tup (ws.map D.int),.tup ks])).sum:=zAh ks;obtain⟨b,s⟩:=zLY hd cl q0 (by rw[e];exact q1) al
    obtain⟨E,e0,e1,e2⟩:=zQm hd cl (by rw[e];omega) al hB
    obtain⟨E',e0',e1',e2'⟩:=zMx (P:=Sh n) (n:=n) (f:=f) (i:=0) (B:=B*E) (fun k hk' q xs B h0 h1 h2 h3=>zPt (g.kid hk hk') h0 h1 h2 h3) (fun j k hj=>by
     obtain⟨j1,j2⟩:=zAS (n:=n) hj;rw[Q8,<-j2]
     exact⟨e2 j j1,b j j1⟩) hs
    refine⟨E*E',Vm e0 e0',?_,fun x hx=>by rw[<-Xs];exact e2' x hx⟩
    show E*E'<=2^(34*(1+(ks.map (kn n)).sum))
    rw[Wj];exact sV e0 e0' (Xl e1) e1'
def vW{M M':Nat}{ws cs:List Int}{q q' t t':Rat}(hW:Wt ws cs)(a:Lvl M ws cs q t)(b:Lvl M' ws cs q' t')(h:q<=q'){i:Nat}(hi:i<cs.length):dY (cR cs) (cR ws) t i<=dY (cR cs) (cR ws) t' i:=by
 have pw:∀ j∈List.range cs.length,0<cR ws j:=fun j hj=>by
  have:=(hW.at (Q7.mp hj)).1
  unfold cR;exact_mod_cast (show 0<ws.getD j 0 by omega)
 rcases Ub (a:=t) (b:=t') with g | g
 ·exact sF (pw i (Q7.mpr hi)) g
 ·have le:∀ j∈List.range cs.length,dY (cR cs) (cR ws) t' j<=dY (cR cs) (cR ws) t j:=fun j hj=>sF (pw j hj) g
  have s1:qW (dY (cR cs) (cR ws) t') (List.range cs.length)=q':=b.sum;have s2:qW (dY (cR cs) (cR ws) t) (List.range cs.length)=q:=a.sum;have s3:=zFd le;rw[zAN le (by rw[s1,s2];rw[s1,s2] at s3;grind) i (Q7.mpr hi)];exact Vi
def wW{M M':Nat}{w:Wy}{ws cs:List Int}{q q':Rat}{f g:Nat->Rat}(hw:w.due ws cs)(hc:Cl cs)(a:Al M ws cs q f w)(b:Al M' ws cs q' g w)(h:q<=q'){i:Nat}(hi:i<cs.length):f i<=g i:=by
 have sm:=hc.sum
 cases w with
 | row=>rw[a i hi,b i hi];exact xZ cs 0 i h
 | back=>
  rw[a i hi,b i hi];have:=xZ cs 0 (q:=(cs.sum:Rat)-q') (q':=(cs.sum:Rat)-q) i (by grind)
  unfold zAi;grind
 | even=>
  obtain⟨t,tl,e⟩:=a;obtain⟨t',tl',e'⟩:=b;rw[e i hi,e' i hi];exact vW hw tl tl' h hi
 | lack=>
  obtain⟨t,tl,e⟩:=a;obtain⟨t',tl',e'⟩:=b;rw[e i hi,e' i hi];have:=vW hw tl' tl (by grind) hi
  grind
 | part=>
  rw[a i hi,b i hi];have c0:0<=cR cs i:=by unfold cR;exact_mod_cast hc.nn _ (Qf (aZ hi))
  obtain⟨p1,p2⟩:=fS (q:=q) hc hi;obtain⟨r1,r2⟩:=fS (q:=q') hc hi;by_cases z:cs.sum=0
  ·rw[p2 z,r2 z];exact Vi
  ·have W:(0:Rat)<(cs.sum:Rat):=by exact_mod_cast (show 0<cs.sum by omega)
   exact zIE W (by rw[p1,r1];exact Xr h c0)
 | half=>
  have ow:=qV cs;obtain⟨t,⟨c,tl,e⟩ | ⟨c,tl,e⟩⟩:=a
  ·have b1:=(tI ow hc tl.nn hi).2
   obtain⟨t',⟨c',tl',e'⟩ | ⟨c',tl',e'⟩⟩:=b
   ·have:=vW ow tl tl' (by grind) hi
    rw[e i hi,e' i hi,zDE];grind
   ·have b2:=(tI ow hc tl'.nn hi).2
    rw[e i hi,e' i hi,zDE];grind
  ·obtain⟨t',⟨c',tl',e'⟩ | ⟨c',tl',e'⟩⟩:=b
   ·exfalso;grind
   ·have:=vW ow tl' tl (by grind) hi
    rw[e i hi,e' i hi,zDE];grind
def zFJ:∀ {l k:List Int},l.map D.int=k.map D.int->l=k
 | [],[],_=>rfl
 | [],_::_,h=>by cases h
 | _::_,[],h=>by cases h
 | a::l,b::k,h=>by
  rw[Qg,Qg,Xv,D.int.injEq] at h;rw[h.1,zFJ h.2]
def A2.refl{r:Type}{R:r->r->Prop}(h:∀ a,R a a):∀ l:List r,A2 R l l
 | []=>trivial
 | a::l=>⟨h a,A2.refl h l⟩
def zFG{P:D->Rat->List Rat->Prop}{f g:Nat->Rat}:∀ {ks:List D} {i:Nat} {xs ys:List Rat},(∀ k∈ks,∀ q q' xs ys,P k q xs->P k q' ys->q<=q'->A2 (·<=·) xs ys)->(∀ j,j<ks.length->f (i+j)<=g (i+j))->ShL P ks f i xs->ShL P ks g i ys->A2 (·<=·) xs ys
 | [],i,xs,ys,_,_,h,h'=>by rw[show xs=[] from h,show ys=[] from h'];trivial
 | k::r,i,xs,ys,hp,hf,h,h'=>by
  obtain⟨a,b,rfl,ha,hb⟩:=h;obtain⟨a',b',rfl,ha',hb'⟩:=h'
  exact(hp k Qe _ _ _ _ ha ha' (hf 0 (by simp))).app (zFG (fun x hx=>hp x (Qd _ hx)) (fun j hj=>by
   have:=hf (j+1) (by simpa using hj)
   rw[show i+1+j=i+(j+1) by omega];exact this) hb hb')
def zFc:∀ {n:Nat} {d:D} {q q':Rat} {xs ys:List Rat},Gc n d->Sh n d q xs->Sh n d q' ys->q<=q'->A2 (·<=·) xs ys
 | 0,_,_,_,_,_,g,_,_,_=>g.1.elim
 | n+1,d,q,q',xs,ys,g,h,h',le=>by
  rcases h with⟨c,rfl,rfl⟩ | ⟨v,ws,ks,f,rfl,hd,al,hs⟩
  ·rcases h' with⟨c',e',rfl⟩ | ⟨v',ws',ks',f',e',hd',al',hs'⟩
   ·exact⟨le,trivial⟩
   ·simp at e'
  ·rcases g.1 with⟨c,e⟩ | ⟨w,ws',ks',e,hw,k0,k1,w1,hy,hk⟩
   ·simp at e
   simp only[D.tup.injEq,Xv,and_true] at e;obtain⟨e1,e2,rfl⟩:=e;have cl:=g.cl hk k0;rcases h' with⟨c',e',rfl⟩ | ⟨v',ws2,ks',f',e',hd',al',hs'⟩
   ·simp at e'
   simp only[D.tup.injEq,Xv,and_true,D.str.injEq] at e';obtain⟨e3,e4,rfl⟩:=e';have ev:v=v':=by cases v<;>cases v'<;>first | rfl | exact absurd e3 ∅
   subst ev;have ew:ws=ws2:=zFJ e4;subst ew;exact zFG (fun k hk' q q' xs ys h1 h2 h3=>zFc (g.kid hk hk') h1 h2 h3) (fun j hj=>by rw[Q8];exact wW hd cl al al' le (by rw[eR];exact hj)) hs hs'
def zQV:∀ {xs ys:List Rat},A2 (·<=·) xs ys->A2 (·<=·) ys xs->xs=ys
 | [],[],_,_=>rfl
 | x::l,y::k,h,h'=>by
  have a:=h.1;have b:=h'.1;rw[zQV h.2 h'.2,show x=y by grind]
def zMw{n:Nat}{d:D}{q:Rat}{xs ys:List Rat}(g:Gc n d)(h:Sh n d q xs)(h':Sh n d q ys):xs=ys:=zQV (zFc g h h' Vi) (zFc g h' h Vi)
def sN{x l:Rat}{m n:Nat}(hx:Sz m x)(hl:Sz n l)(h:m+n<=99990):cC [dq x,dq l]=.ok (.v (.bl (decide (x<0) || decide (l<x)))):=by
 unfold cC;erw[xX (n:=1) hx ⟨∅,∅⟩ ⋯];symm;by_cases c:x<0
 ·rw[J5 c]
  symm
 ·rw[Ji c]
  erw[xX hl hx ⋯];symm
def zJX{x l:Rat}{m n:Nat}(hx:Sz m x)(hl:Sz n l)(h:m+n<=99990)(hb:x<0∨l<x):bY [dq x,dq l]=.err "Outside" := by
 unfold bY;symm;rw[sN hx hl h,show(decide (x<0) || decide (l<x))=true by rcases hb with h | h<;>simp[h]];symm
def gM{p q:Rat}{m n:Nat}(hp:Sz m p)(hq:Sz n q)(h:m+n<=99999):bV [dq p,dq q]=.ok (.v (.bl (decide (p<q)))):=by
 unfold bV;erw[oMul_i (bO hp.1 hq.d ⋯),oMul_i (bO hq.1 hp.d ⋯)];symm;simp only[lt_iff]
def jP(ns:List Int)(k:Int)(h:0<=k):dB [.lst (ns.map D.int),.int k]=.ok (.v (.int (ns.getD k.toNat 0))):=by
 unfold dB;symm;by_cases c:k<(ns.length:Int)
 ·rw[J5 c]
  symm;have hk:k.toNat<ns.length:=⋯
  rw[nH h (Qj hk),Qs,Qj hk];rfl
 ·rw[Ji c]
  symm;rw[Qs,Qz ⋯];rfl
def wA:∀ {ds:List D} {n i:Nat} {d:D},(lZ n ds)[i]?=some d->∃ a,ds[i]?=some a/\d=.tup [.int ((n+i:Nat):Int),a]
 | a::r,n,0,d,h=>by cases h;exact⟨a,rfl,rfl⟩
 | a::r,n,i+1,d,h=>by
  obtain⟨b,h1,h2⟩:=wA (ds:=r) (n:=n+1) (i:=i) h;exact⟨b,h1,by rw[h2];congr 4;omega⟩
 | [],n,i,d,h=>by cases i<;>cases h
def sE:∀(ds:List D)(n:Nat),(lZ n ds).length=ds.length
 | a::r,n=>by simp only[lZ,Qk,sE r (n+1)]
 | [],n=>rfl
def mkA(kd:Bool)(l:List Rat):D:=if kd then .lst (l.map dq) else .tup (l.map dq)
def zEk(kd:Bool)(l:List Rat):kU [mkA kd l]=.ok (.int (l.length:Int)):=by
 cases kd
 ·show kU [.tup (l.map dq)]=_
  rw[bLen_t,Qi]
 ·show kU [.lst (l.map dq)]=_
  rw[bLen_l,Qi]
def zGv{kd:Bool}{l:List Rat}{i:Nat}(h:i<l.length):oIx (mkA kd l) (.int (i:Int))=.ok (dq (l.getD i 0)):=by
 have e:l[(i:Int).toNat]?=some (l.getD i 0):=by rw[Vb,Qs,Qj h];rfl
 cases kd
 ·exact qK (Q2 i) e
 ·exact nH (Q2 i) e
def zOo(kd:Bool)(l:List Rat):zKv (mkA kd l)=.ok (l.map dq):=by cases kd<;>rfl
def uE(m:D->Nat):List D->List Rat->List (List Rat)
 | [],_=>[]
 | k::r,xs=>xs.take (m k)::uE m r (xs.drop (m k))
def iK{m:D->Nat}:∀(ks:List D)(xs:List Rat),(uE m ks xs).length=ks.length
 | [],_=>rfl
 | k::r,xs=>by rw[uE,Qk,iK r,Qk]
def zBu{m:D->Nat}:∀ {ks:List D} {xs ys:List Rat} {x:Rat},ys∈uE m ks xs->x∈ys->x∈xs
 | [],xs,ys,x,h,_=>by cases h
 | k::r,xs,ys,x,h,hx=>by
  rw[uE] at h;rcases Qc.mp h with rfl | h
  ·exact Uf hx
  ·exact Wk (zBu h hx)
def zOa{m:D->Nat}:∀ {ks:List D} {xs:List Rat} {i:Nat} {k:D},(ks.map m).sum<=xs.length->ks[i]?=some k->((uE m ks xs).getD i []).length=m k
 | c::r,xs,0,k,hl,h=>by
  cases h;rw[Qg,Qn] at hl;show(xs.take (m c)).length=m c
  rw[V4];omega
 | c::r,xs,i+1,k,hl,h=>by
  rw[Qg,Qn] at hl;exact zOa (ks:=r) (xs:=xs.drop (m c)) (by rw[Vx];omega) (by simpa using h)
def zQB{kd:Bool}{xs:List Rat}{a b:Nat}:zOS (mkA kd xs) (some (a:Int)) (some ((a+b:Nat):Int))=.ok (mkA kd ((xs.drop a).take b)):=by
 have e:gD (xs.map dq) (some (a:Int)) (some ((a+b:Nat):Int))=((xs.drop a).take b).map dq:=by
  rw[xA ⋯ ⋯,<-Wl,<-Wm,Vb,Vb,W3]
 cases kd
 ·show zOS (.tup (xs.map dq)) _ _=.ok (.tup _)
  rw[slQG_t,e]
 ·show zOS (.lst (xs.map dq)) _ _=.ok (.lst _)
  rw[slQG_l,e]
def zFS{n:Nat}{d:D}{kd:Bool}{xs:List Rat}(hn:n<=8):∀(ks:List D)(st:Nat)(acc:List D)(a b:Sl),(∀ k∈ks,IsC n k)->(ks.flatMap (clm n)).length<=12->acc.length+ks.length<=1000->
  ∃ s' a' b',loop (gName 4) zAg ks [.val d,.val (mkA kd xs),.own acc,.val (.int (st:Int)),a,b]=.ok (.nx [.val d,.val (mkA kd xs),.own (acc++(uE (fun k=>(clm n k).length) ks (xs.drop st)).map (mkA kd)),s',a',b'])
 | [],st,acc,a,b,_,_,_=>⟨.val (.int (st:Int)),a,b,by rw[loop];simp[uE]⟩
 | k::r,st,acc,a,b,h,hl,hz=>by
  rw[V0,Ql] at hl;rw[Qk] at hz;have ick:=h k Qe;have cl:=kB 10 k (fP ick ⋯) (by rw[dR ick (show n<=10 by omega)];omega)
  rw[dR ick (show n<=10 by omega)] at cl;obtain⟨s',a',b',e⟩:=zFS (d:=d) (kd:=kd) (xs:=xs) hn r (st+(clm n k).length) (acc++[mkA kd ((xs.drop st).take (clm n k).length)]) (.val k) (.val (.int ((st+(clm n k).length:Nat):Int))) (fun x hx=>h x (Qd _ hx)) ⋯ (by rw[Ql,X0];omega)
  refine⟨s',a',b',?_⟩
  rw[cD (ρ1:=[.val d,.val (mkA kd xs),.own acc,.val (.int (st:Int)),.val k,b]) (ρ2:=[.val d,.val (mkA kd xs),.own (acc++[mkA kd ((xs.drop st).take (clm n k).length)]),.val (.int ((st+(clm n k).length:Nat):Int)),.val k,.val (.int ((st+(clm n k).length:Nat):Int))]) rfl,e]
  ·rw[uE,Qg,V5,Wg];rfl
  ·symm
   rw[cl];symm;rw[<-Xq,zQB];erw[Jj ⋯];symm
def rF{n:Nat}{w:Str}{x:D}{ks:List D}{kd:Bool}{xs:List Rat}(hw:(w == "boat")=false)(hn:n<=8)(hk:∀ k∈ks,IsC n k)(hl:(ks.flatMap (clm n)).length<=12):
  iL [.tup [.str w,x,.tup ks],mkA kd xs]=.ok (.f ((uE (fun k=>(clm n k).length) ks xs).map (mkA kd))):=by
 have kl:=oE hk;obtain⟨s',a',b',e⟩:=zFS (d:=.tup [.str w,x,.tup ks]) (kd:=kd) (xs:=xs) hn ks 0 [] .un .un hk hl (by rw[Xb];omega)
 unfold iL;erw[cM hw];symm;rw[show(0:Int)=((0:Nat):Int) from rfl,e];rfl
def zCF{kd:Bool}{ps:List (List Rat)}{i:Nat}(h:i<ps.length):oIx (.lst (ps.map (mkA kd))) (.int (i:Int))=.ok (mkA kd (ps.getD i [])):=
 nH (Q2 i) (by rw[Vb,Qs,Qj h];rfl)
def zKW{kd:Bool}{xs:List Rat}{m n:Nat}(hp:∀ j,Sz m (xs.take j).sum)(hx:∀ x∈xs,Sz n x)(h:m+n<=8999):mV [mkA kd xs]=.ok (.v (dq xs.sum)):=by
 unfold mV;erw[zOo,show dq 0=dq ((xs.take 0).sum) from rfl];refine oY (Q:=fun r=>r.bind fin=.ok (.v (dq xs.sum))) (k:=yQ zDG) (fun i ρ=>∃ a,ρ=[.val (mkA kd xs),.val (dq ((xs.take i).sum)),a]) ⟨_,rfl⟩ ?_ ?_
 ·rintro i d ρ hd ⟨a,rfl⟩
  have hi:i<xs.length:=by have:=(Qy.mp hd).1;rwa [Qi] at this
  rw[Qq,Qj hi] at hd;cases hd;refine⟨[.val (mkA kd xs),.val (dq ((xs.take (i+1)).sum)),.val (dq xs[i])],?_,_,rfl⟩
  have e:(xs.take (i+1)).sum=(xs.take i).sum+xs[i]:=by
   rw[Ys,Qj hi];show(xs.take i++[xs[i]]).sum=_
   rw[eY,Qn,Vp,Xt]
  symm;rw[zAe (hp i) (hx _ (V3 hi)) h,e];symm
 ·rintro ρ ⟨a,rfl⟩
  rw[Qi,Xe];rfl
def Dn.szA{B c:Int}{x:Rat}{a b:Nat}(h:Dn B x)(hB:0<B)(hb:B<2^b)(h0:-(c:Rat)<=x)(h1:x<=(c:Rat))(hc:c<2^a):Sz (a+b) x:=by
 by_cases z:0<=x
 ·exact h.sz hB hb z h1 hc
 ·have hn:Dn B (-x):=by
   obtain⟨k,e⟩:=h;exact⟨-k,by rw[Rat.neg_mul,e,Rat.intCast_neg]⟩
  have s:=hn.sz hB hb (by grind) (by grind) hc (c:=c)
  have e1:(-x).num=-x.num:=rfl;have e2:(-x).den=x.den:=rfl;refine⟨?_,?_⟩
  ·have:=s.1;rw[e1,Uj] at this;exact this
  ·have:=s.2;rw[e2] at this;exact this
structure Am (b:Nat) (xs:List Rat):Prop where
 len:xs.length<=12
 dn:∃ B:Int,0<B/\B<2^b/\∀ x∈xs,Dn B x
 bd:∀ x∈xs,-(2^36:Int)<=x/\x<=(2^36:Int)
def Am.sub{b:Nat}{xs ys:List Rat}(h:Am b xs)(hl:ys.length<=12)(hs:∀ y∈ys,y∈xs):Am b ys:=by
 obtain⟨B,b0,b1,b2⟩:=h.dn;exact⟨hl,⟨B,b0,b1,fun x hx=>b2 x (hs x hx)⟩,fun x hx=>h.bd x (hs x hx)⟩
def zEL{B:Int}:∀ {xs:List Rat},(∀ x∈xs,Dn B x)->Dn B xs.sum
 | [],_=>Dn.zero B
 | x::r,h=>by rw[Qn];exact(h x Qe).add (zEL fun y hy=>h y (Qd _ hy))
def zIV{c:Int}:∀ {xs:List Rat},(∀ x∈xs,-(c:Rat)<=x/\x<=(c:Rat))->-(((xs.length*c:Int):Rat))<=xs.sum/\xs.sum<=((xs.length*c:Int):Rat)
 | [],_=>by
  have e:((([]:List Rat).length*c:Int):Rat)=0:=by rw[Xb];simp
  rw[e,Vp];constructor<;>grind
 | x::r,h=>by
  have a:=h x Qe;have b:=zIV fun y hy=>h y (Qd _ hy)
  have e:(((x::r).length*c:Int):Rat)=((r.length*c:Int):Rat)+(c:Rat):=by
   rw[Qk,Int.natCast_succ,X2,Ux,Q6]
  rw[e,Qn];constructor<;>grind
def Am.sum{b:Nat}{xs:List Rat}(h:Am b xs):Sz (41+b) xs.sum/\-(2^40:Int)<=xs.sum/\xs.sum<=(2^40:Int)/\∀ B,(∀ x∈xs,Dn B x)->Dn B xs.sum:=by
 obtain⟨B,b0,b1,b2⟩:=h.dn;have s:=zIV (c:=2^36) h.bd;have l:=h.len;have e:((xs.length*2^36:Int):Rat)<=((2^40:Int):Rat):=Vj.mpr ⋯
 have u:-(2^40:Int)<=xs.sum:=by grind
 have v:xs.sum<=(2^40:Int):=by grind
 exact⟨(zEL b2).szA b0 b1 (c:=2^40) u v ∅,u,v,fun B h=>zEL h⟩
def Am.each{b:Nat}{xs:List Rat}(h:Am b xs){x:Rat}(hx:x∈xs):Sz (37+b) x:=by
 obtain⟨B,b0,b1,b2⟩:=h.dn;exact(b2 x hx).szA b0 b1 (c:=2^36) (h.bd x hx).1 (h.bd x hx).2 ∅
def Am.take{b:Nat}{xs:List Rat}(h:Am b xs)(j:Nat):Am b (xs.take j):=h.sub (by rw[V4];have:=h.len;omega) fun y hy=>Uf hy
def Am.tot{b:Nat}{kd:Bool}{xs:List Rat}(h:Am b xs)(hb:b<=4000):mV [mkA kd xs]=.ok (.v (dq xs.sum)):=zKW (m:=41+b) (n:=37+b) (fun j=>(h.take j).sum.1) (fun _ hx=>h.each hx) ⋯
def zEw{w:Wy}{ws cs:List Int}{wd cd:D}(sw:Sq wd ws)(sc:Sq cd cs){q:Rat}{m:Nat}(hm:m<=5000)(hw:w.due ws cs)(hc:Cl cs)(zq:Sz m q)(hb:q<0∨(cs.sum:Rat)<q):lQ [.str w.s,wd,cd,dq q]=.err "Outside" := by
 have sm:=hc.sum;unfold lQ;erw[zFW sw sc hw hc,sc.sum,cZ,zJX zq (n:=120) ⟨by show cs.sum.natAbs<2^120;omega,by show 1<2^120;decide⟩ ⋯ hb];symm
def zMQ(a b:Rat):eqD (dq a) (dq b)=decide (a=b):=eq_dq a b
def zPe{a b c d:Rat}:oNe (.lst [dq a,dq b]) (.lst [dq c,dq d])=.ok (.bl (!(decide (a=c) && decide (b=d)))):=by
 unfold oNe;rw[Jj (by simp only[dep,depS,dep_dq];decide)];show Res.ok (D.bl (!(eqD (dq a) (dq c) && (eqD (dq b) (dq d) && uZ [] []))))=_
 rw[zMQ,zMQ];show Res.ok (D.bl (!(decide (a=c) && (decide (b=d) && true))))=_
 rw[Wd]
def two(ws:List Int)(i j:Nat):List Int:=if ws=[] then [] else [ws.getD i 0,ws.getD j 0]
def pcs(n:Nat)(ks:List D)(xs:List Rat):List (List Rat):=uE (fun k=>(clm n k).length) ks xs
def Rt2(v:Wy)(ws:List Int)(cs:List Int)(i j:Nat)(a b:Rat):Prop:=0<=a+b/\a+b<=cR cs i+cR cs j/\∃(M:Nat)(f:Nat->Rat),Al M (two ws i j) [cs.getD i 0,cs.getD j 0] (a+b) f v/\f 0=a/\f 1=b
def zEb{v:Wy}{ws cs:List Int}{i j:Nat}(h:v.due ws cs)(hi:i<cs.length)(hj:j<cs.length):v.due (two ws i j) [cs.getD i 0,cs.getD j 0]:=by
 have wt:Wt ws cs->Wt (two ws i j) [cs.getD i 0,cs.getD j 0]:=fun w=>by
  have ne:ws≠[]:=fun z=>by have:=w.len;rw[z] at this;simp at this;omega
  unfold two;rw[Jk ne];have li:i<ws.length:=by rw[w.len];exact hi
  have lj:j<ws.length:=by rw[w.len];exact hj
  refine⟨rfl,fun x hx=>?_,fun x hx=>?_⟩
  ·simp only[Qc,Q0,or_false] at hx
   rcases hx with rfl | rfl
   ·exact w.lo _ (Qf (aZ li))
   ·exact w.lo _ (Qf (aZ lj))
  ·simp only[Qc,Q0,or_false] at hx
   rcases hx with rfl | rfl
   ·exact w.up _ (Qf (aZ li))
   ·exact w.up _ (Qf (aZ lj))
 have nl:ws=[]->two ws i j=[]:=fun z=>Jj z
 cases v with
 | even=>exact wt h
 | lack=>exact wt h
 | row=>exact nl h
 | back=>exact nl h
 | part=>exact nl h
 | half=>exact nl h
def Al2(v:Wy)(ws:List Int)(cs:List Int)(i j:Nat)(a b:Rat)(r:Bool):Prop:=0<=a+b->a+b<=cR cs i+cR cs j->(∀(M:Nat)(g:Nat->Rat),Al M (two ws i j) [cs.getD i 0,cs.getD j 0] (a+b) g v->g 0=a/\g 1=b)->r=false
def zBK{n:Nat}{kd:Bool}{v:Wy}{ws:List Int}{ks:List D}{xs:List Rat}{i j b:Nat}(g:Gc (n+1) (.tup [.str v.s,.tup (ws.map D.int),.tup ks]))(hn:n<=8)(hk:∀ k∈ks,IsC n k)(k0:0<ks.length)(due:v.due ws (kcl n ks))(am:Am b xs)(hb:b<=1200)(hi:i<ks.length)(hj:j<ks.length):
  ∃ r:Bool,fH [.tup [.str v.s,.tup (ws.map D.int),.tup ks],mkA kd xs,.int (i:Int),.int (j:Int)]=.ok (.v (.bl r))/\(r=false ↔ Rt2 v ws (kcl n ks) i j ((pcs n ks xs).getD i []).sum ((pcs n ks xs).getD j []).sum)/\Al2 v ws (kcl n ks) i j ((pcs n ks xs).getD i []).sum ((pcs n ks xs).getD j []).sum r:=by
 have l12:(ks.flatMap (clm n)).length<=12:=g.2.1;have gs:=g.sum;have cl:=g.cl hk k0;have wb:=dU v;have pl:(pcs n ks xs).length=ks.length:=iK ks xs
 have amp:∀ l,l<ks.length->Am b ((pcs n ks xs).getD l []):=fun l hl=>by
  have m:(pcs n ks xs).getD l []∈pcs n ks xs:=by
   rw[Qs,Qj ⋯];exact V3 _
  refine am.sub ?_ fun y hy=>zBu m hy
  have:∀(ks:List D)(xs:List Rat)(ys:List Rat),ys∈uE (fun k=>(clm n k).length) ks xs->ys.length<=xs.length:=by
   intro ks
   induction ks with
   | nil=>intro xs ys h;cases h
   | cons k r ih=>
    intro xs ys h;rw[uE] at h;rcases Qc.mp h with rfl | h
    ·rw[V4];omega
    ·have:=ih _ _ h;rw[Vx] at this;omega
  have:=this _ _ _ m
  have:=am.len
  omega
 have ai:=amp i hi;have aj:=amp j hj;have kl:(kcl n ks).length=ks.length:=eR n ks
 have at':∀ l:Nat,l<ks.length->∃ k,ks[l]?=some k/\oIx (.tup ks) (.int (l:Int))=.ok k/\k∈ks/\(kcl n ks).getD l 0=(clm n k).sum:=fun l hl=>by
  have e:ks[l]?=some ks[l]:=Qj hl;refine⟨ks[l],e,?_,V3 hl,?_⟩
  ·have:=qK (f:=fun d:D=>d) (l:=ks) (i:=(l:Int)) (a:=ks[l]) (Q2 l) (by rw[Vb];exact e)
   rwa [Uh] at this
  ·unfold kcl
   rw[Qs,Qq,e];rfl
 obtain⟨ki,_,xi,mi,ci⟩:=at' i hi;obtain⟨kj,_,xj,mj,cj⟩:=at' j hj;have cdi:0<=(kcl n ks).getD i 0/\(kcl n ks).getD i 0<=12*10^9:=by rw[ci];exact(g.kid hk mi).sum
 have cdj:0<=(kcl n ks).getD j 0/\(kcl n ks).getD j 0<=12*10^9:=by rw[cj];exact(g.kid hk mj).sum
 have eci:=jV (hk ki mi) ⋯ (by have:=(g.kid hk mi).2.1;omega)
 have ecj:=jV (hk kj mj) ⋯ (by have:=(g.kid hk mj).2.1;omega)
 rw[<-ci] at eci;rw[<-cj] at ecj;have d2:=zEb due (by rw[kl];exact hi) (by rw[kl];exact hj)
 have c2:Cl [(kcl n ks).getD i 0,(kcl n ks).getD j 0]:=⟨fun c hc=>by
   simp only[Qc,Q0,or_false] at hc;rcases hc with rfl | rfl<;>omega,fun c hc=>by
   simp only[Qc,Q0,or_false] at hc;rcases hc with rfl | rfl<;>omega,by show 1<=2;decide,by show 2<=12;decide⟩
 have s2:([(kcl n ks).getD i 0,(kcl n ks).getD j 0]:List Int).sum=(kcl n ks).getD i 0+(kcl n ks).getD j 0:=by simp
 have sc:Sq (.lst [.int ((kcl n ks).getD i 0),.int ((kcl n ks).getD j 0)]) [(kcl n ks).getD i 0,(kcl n ks).getD j 0]:=.inl rfl
 obtain⟨wd,sw,ew⟩:∃ wd:D,Sq wd (two ws i j)/\∀(a4 a5 a6 a7 a9:Sl),iW [.val (.tup [.str v.s,.tup (ws.map D.int),.tup ks]),.val (mkA kd xs),.val (.int (i:Int)),.val (.int (j:Int)),a4,a5,a6,a7,.val (.tup (ws.map D.int)),a9]=iQ [.val (.tup [.str v.s,.tup (ws.map D.int),.tup ks]),.val (mkA kd xs),.val (.int (i:Int)),.val (.int (j:Int)),a4,a5,a6,a7,.val wd,a9]:=by
  by_cases z:ws=[]
  ·refine⟨.tup [],.inr (by unfold two;rw[Jj z];rfl),fun a4 a5 a6 a7 a9=>?_⟩
   subst z;unfold iW;generalize hK:(iQ:Sv)=K;erw[show decide ((0:Int)<((0:Nat):Int))=false from rfl];symm
  ·have w0:0<ws.length:=W9.mpr z
   have wl:ws.length=ks.length:=by
    have wt:Wt ws (kcl n ks)->ws.length=ks.length:=fun w=>by rw[w.len,kl]
    cases v with
    | even=>exact wt due
    | lack=>exact wt due
    | row=>exact absurd due z
    | back=>exact absurd due z
    | part=>exact absurd due z
    | half=>exact absurd due z
   refine⟨.lst [.int (ws.getD i 0),.int (ws.getD j 0)],.inl (by unfold two;rw[Jk z];rfl),fun a4 a5 a6 a7 a9=>?_⟩
   have iw:∀ l:Nat,l<ks.length->oIx (.tup (ws.map D.int)) (.int (l:Int))=.ok (.int (ws.getD l 0)):=fun l hl=>qK (Q2 l) (aZ ⋯)
   unfold iW;generalize hK:(iQ:Sv)=K;erw[J5 ⋯,iw i hi,iw j hj];symm
 have zi:=ai.sum;have zj:=aj.sum;generalize hA:((pcs n ks xs).getD i []).sum=A at zi;generalize hB:((pcs n ks xs).getD j []).sum=B' at zj;have zq:Sz (2*b+83) (A+B'):=(zi.1.add zj.1).mono ⋯
 have ti:=ai.tot (kd:=kd) ⋯
 have tj:=aj.tot (kd:=kd) ⋯
 rw[hA] at ti;rw[hB] at tj
 have fin8:∃ r:Bool,(iQ [.val (.tup [.str v.s,.tup (ws.map D.int),.tup ks]),.val (mkA kd xs),.val (.int (i:Int)),.val (.int (j:Int)),.val (.lst ((pcs n ks xs).map (mkA kd))),.val (.lst [dq A,dq B']),.val (.tup ks),.val (.lst [.int ((kcl n ks).getD i 0),.int ((kcl n ks).getD j 0)]),.val wd,.un]).bind fin=.ok (.v (.bl r))/\(r=false ↔ Rt2 v ws (kcl n ks) i j A B')/\Al2 v ws (kcl n ks) i j A B' r:=by
  by_cases rg:0<=A+B'/\A+B'<=cR (kcl n ks) i+cR (kcl n ks) j
  ·have hq:Haul (2*b+83) (A+B') ([(kcl n ks).getD i 0,(kcl n ks).getD j 0]:List Int).sum:=⟨rg.1,by rw[s2,Q6];exact rg.2,zq⟩
   obtain⟨f,ef,al⟩:=zIw sw sc ⋯ d2 c2 hq
   refine⟨!(decide (f 0=A) && decide (f 1=B')),?_,?_,fun _ _ h=>by obtain⟨h1,h2⟩:=h _ f al;rw[h1,h2];simp⟩
   ·symm
    rw[zBV];erw[show oIx (.lst [dq A,dq B']) (.int 0)=.ok (dq A) from rfl,show oIx (.lst [dq A,dq B']) (.int 1)=.ok (dq B') from rfl,zAe zi.1 zj.1 ⋯,ef];symm;rw[show((List.range 2).map f).map dq=[dq (f 0),dq (f 1)] from rfl,zPe];rfl
   ·constructor
    ·intro h
     have h':(decide (f 0=A) && decide (f 1=B'))=true:=by
      cases hh:(decide (f 0=A) && decide (f 1=B')) with
      | true=>rfl
      | false=>rw[hh] at h;cases h
     rw[Vg,decide_eq_true_iff,decide_eq_true_iff] at h';exact⟨rg.1,rg.2,_,f,al,h'.1,h'.2⟩
    ·rintro⟨_,_,M,f',al',e0,e1⟩
     have o0:=zMW d2 al al' (i:=0) (by show 0<2;decide)
     have o1:=zMW d2 al al' (i:=1) (by show 1<2;decide)
     rw[o0,e0,o1,e1];simp
  ·refine⟨true,?_,?_,fun h1 h2 _=>absurd ⟨h1,h2⟩ rg⟩
   ·have hbad:A+B' < 0∨((([(kcl n ks).getD i 0,(kcl n ks).getD j 0]:List Int).sum:Int):Rat)<A+B':=by
     rw[s2,Q6];by_cases q:0<=A+B'
     ·exact .inr (Q3.mp fun z=>rg ⟨q,z⟩)
     ·exact .inl (Q3.mp q)
    erw[zBV,show oIx (.lst [dq A,dq B']) (.int 0)=.ok (dq A) from rfl,show oIx (.lst [dq A,dq B']) (.int 1)=.ok (dq B') from rfl,zAe zi.1 zj.1 ⋯,zEw sw sc ⋯ d2 c2 zq hbad,zGp];symm
   ·constructor
    ·intro h;cases h
    ·rintro⟨r1,r2,_⟩;exact absurd ⟨r1,r2⟩ rg
 obtain⟨r,e8,hr⟩:=fin8;refine⟨r,?_,hr⟩
 unfold fH uO uW uK uS;generalize hK:(iW:Sv)=K at ew ⊢;erw[rF wb hn hk l12,zCF (by rw[iK];exact hi)];symm;rw[show uE (fun k=>(clm n k).length) ks xs=pcs n ks xs from rfl,ti];erw[zCF (by rw[pl];exact hj),tj,cM wb,xi,eci,xj,ecj,uX,ew];exact e8
def wQ{g:Gv}{b:Sv}{ds:List D}{ρ:Rho}(P:Nat->Rho->Prop)(R:Nat->Rt->Prop)(h0:P 0 ρ)
  (st:∀ i d ρ,ds[i]?=some d->P i ρ->(∃ ρ1 ρ2,g d ρ=.ok ρ1/\b ρ1=.ok (.nx ρ2)/\P (i+1) ρ2)∨∃ ρ1 r,g d ρ=.ok ρ1/\b ρ1=.ok (.ret r)/\R i r):
  (∃ ρ',loop g b ds ρ=.ok (.nx ρ')/\P ds.length ρ')∨∃ i r,i<ds.length/\loop g b ds ρ=.ok (.ret r)/\R i r:=by
 suffices h:∀(ds:List D)(j:Nat)(ρ:Rho),P j ρ->(∀ i d ρ,ds[i]?=some d->P (j+i) ρ->(∃ ρ1 ρ2,g d ρ=.ok ρ1/\b ρ1=.ok (.nx ρ2)/\P (j+i+1) ρ2)∨∃ ρ1 r,g d ρ=.ok ρ1/\b ρ1=.ok (.ret r)/\R (j+i) r)->(∃ ρ',loop g b ds ρ=.ok (.nx ρ')/\P (j+ds.length) ρ')∨∃ i r,i<ds.length/\loop g b ds ρ=.ok (.ret r)/\R (j+i) r by
  have:=h ds 0 ρ h0 (fun i d ρ hd hp=>by rw[Q8] at hp ⊢;exact st i d ρ hd hp)
  rw[Q8] at this;rcases this with h | ⟨i,r,h1,h2,h3⟩
  ·exact .inl h
  ·exact .inr ⟨i,r,h1,h2,by rw[Q8] at h3;exact h3⟩
 intro ds
 induction ds with
 | nil=>intro j ρ hp _;exact .inl ⟨ρ,rfl,hp⟩
 | cons d ds ih=>
  intro j ρ hp st;rcases st 0 d ρ rfl hp with⟨ρ1,ρ2,e1,e2,hp2⟩ | ⟨ρ1,r,e1,e2,hr⟩
  ·rw[cD e1 e2]
   rcases ih (j+1) ρ2 hp2 (fun i d' ρ' hd hp=>by
    have:=st (i+1) d' ρ' (by simpa using hd) (by rw[show j+(i+1)=j+1+i by omega];exact hp)
    rw[show j+(i+1)=j+1+i by omega] at this
    exact this) with⟨ρ',h1,h2⟩ | ⟨i,r,h1,h2,h3⟩
   ·exact .inl ⟨ρ',h1,by rw[Qk,show j+(ds.length+1)=j+1+ds.length by omega];exact h2⟩
   ·exact .inr ⟨i+1,r,by rw[Qk];omega,h2,by rw[show j+(i+1)=j+1+i by omega];exact h3⟩
  ·exact .inr ⟨0,r,Yy _,gT e1 e2,hr⟩
def sK(n:Nat)(ks:List D)(xs:List Rat)(l:Nat):Rat:=((pcs n ks xs).getD l []).sum
def Rt3(n:Nat)(v:Wy)(ws:List Int)(ks:List D)(xs:List Rat)(i j:Nat):Prop:=Rt2 v ws (kcl n ks) i j (sK n ks xs i) (sK n ks xs j)
def iU(P:List D)(i j:Nat):D:=.tup [.str "pair", .tup P,.int (i:Int),.int (j:Int)]
def zAd{n:Nat}{kd:Bool}{v:Wy}{ws:List Int}{ks P:List D}{xs:List Rat}{b:Nat}(g:Gc (n+1) (.tup [.str v.s,.tup (ws.map D.int),.tup ks]))(hn:n<=8)(hk:∀ k∈ks,IsC n k)(k0:0<ks.length)(due:v.due ws (kcl n ks))(am:Am b xs)(hb:b<=1200):
  (fZ [.tup [.str v.s,.tup (ws.map D.int),.tup ks],mkA kd xs,.tup P]=.ok (.v .non)/\∀ i j,i<j->j<ks.length->Rt3 n v ws ks xs i j)∨
  ∃ i j,i<j/\j<ks.length/\fZ [.tup [.str v.s,.tup (ws.map D.int),.tup ks],mkA kd xs,.tup P]=.ok (.v (iU P i j))/\¬ Rt3 n v ws ks xs i j/\∀ i' j',i' < j'->j' < ks.length->(i' < i∨i'=i/\j' < j)->Rt3 n v ws ks xs i' j':=by
 have kl:=oE hk;have l12:(ks.flatMap (clm n)).length<=12:=g.2.1;generalize hd:D.tup [.str v.s,.tup (ws.map D.int),.tup ks]=d at g ⊢;have wr:=fun(i j:Nat) (hi:i<ks.length) (hj:j<ks.length)=>zBK (kd:=kd) (i:=i) (j:=j) (by rw[hd];exact g) hn hk k0 due am hb hi hj
 rw[hd] at wr
 have head:∀ r:Res Fl,(fZ [d,mkA kd xs,.tup P]=((loop (gName 4) gH (rng 0 ks.length 1) [.val d,.val (mkA kd xs),.val (.tup P),.val (.int (ks.length:Int)),.un,.un]).bind (yQ uQ)).bind fin):=fun _=>by
  rw[<-hd];unfold fZ;erw[cM (dU v)];symm;rw[zAL ⋯ ⋯,Vb];symm
 have inner:∀(i:Nat)(a5:Sl),i<ks.length->(∃ a5',gH [.val d,.val (mkA kd xs),.val (.tup P),.val (.int (ks.length:Int)),.val (.int (i:Int)),a5]=.ok (.nx [.val d,.val (mkA kd xs),.val (.tup P),.val (.int (ks.length:Int)),.val (.int (i:Int)),a5'])/\∀ j,i<j->j<ks.length->Rt3 n v ws ks xs i j)∨
   ∃ j,i<j/\j<ks.length/\gH [.val d,.val (mkA kd xs),.val (.tup P),.val (.int (ks.length:Int)),.val (.int (i:Int)),a5]=.ok (.ret (.v (iU P i j)))/\¬ Rt3 n v ws ks xs i j/\∀ j',i<j'->j' < j->Rt3 n v ws ks xs i j':=by
  intro i a5 hi
  have e:gH [.val d,.val (mkA kd xs),.val (.tup P),.val (.int (ks.length:Int)),.val (.int (i:Int)),a5]=loop (gName 5) oA (rng ((i:Int)+1) ((ks.length:Int)-((i:Int)+1)).toNat 1) [.val d,.val (mkA kd xs),.val (.tup P),.val (.int (ks.length:Int)),.val (.int (i:Int)),a5]:=by
   erw[zOL ⋯ ⋯ ⋯ ⋯];symm
  rw[e];have ll:(rng ((i:Int)+1) ((ks.length:Int)-((i:Int)+1)).toNat 1).length=ks.length-(i+1):=by unfold rng;rw[Qi,Vd];omega
  rcases wQ (g:=gName 5) (b:=oA) (ds:=rng ((i:Int)+1) ((ks.length:Int)-((i:Int)+1)).toNat 1) (ρ:=[.val d,.val (mkA kd xs),.val (.tup P),.val (.int (ks.length:Int)),.val (.int (i:Int)),a5])
   (fun l ρ=>∃ a5',ρ=[.val d,.val (mkA kd xs),.val (.tup P),.val (.int (ks.length:Int)),.val (.int (i:Int)),a5']/\∀ j,i<j->j<i+1+l->Rt3 n v ws ks xs i j)
   (fun l r=>r=.v (iU P i (i+1+l))/\¬ Rt3 n v ws ks xs i (i+1+l)/\∀ j',i<j'->j' < i+1+l->Rt3 n v ws ks xs i j') ⟨_,rfl,fun j h1 h2=>absurd h1 ⋯⟩ (by
   rintro l e ρ he ⟨a5',rfl,hp⟩
   obtain⟨hl,rfl⟩:=zFv he;have lj:i+1+l<ks.length:=⋯
   obtain⟨r,er,hr,_⟩:=wr i (i+1+l) hi lj;rw[show((i:Int)+1)+(l:Int)*1=((i+1+l:Nat):Int) by omega]
   cases r with
   | false=>
    refine .inl ⟨[.val d,.val (mkA kd xs),.val (.tup P),.val (.int (ks.length:Int)),.val (.int (i:Int)),.val (.int ((i+1+l:Nat):Int))],[.val d,.val (mkA kd xs),.val (.tup P),.val (.int (ks.length:Int)),.val (.int (i:Int)),.val (.int ((i+1+l:Nat):Int))],rfl,?_,_,rfl,fun j h1 h2=>?_⟩
    rotate_left
    ·rcases X5 (show j<=i+1+l by omega) with z | z
     ·exact hp j h1 z
     ·rw[z];exact hr.mp rfl
    ·symm
     rw[er];symm
   | true=>
    refine .inr ⟨[.val d,.val (mkA kd xs),.val (.tup P),.val (.int (ks.length:Int)),.val (.int (i:Int)),.val (.int ((i+1+l:Nat):Int))],_,rfl,?_,rfl,fun z=>(by have:=hr.mpr z;cases this),hp⟩
    erw[er];symm
    rfl) with⟨ρ',e',a5',rfl,hp⟩ | ⟨l,r,hl,e',rfl,h1,h2⟩
  ·exact .inl ⟨a5',e',fun j h1 h2=>hp j h1 (by rw[ll];omega)⟩
  ·rw[ll] at hl
   exact .inr ⟨i+1+l,⋯,⋯,e',h1,h2⟩
 rw[head .no];have ll:(rng 0 ks.length 1).length=ks.length:=by unfold rng;rw[Qi,Vd]
 rcases wQ (g:=gName 4) (b:=gH) (ds:=rng 0 ks.length 1) (ρ:=[.val d,.val (mkA kd xs),.val (.tup P),.val (.int (ks.length:Int)),.un,.un])
  (fun l ρ=>∃ a4 a5,ρ=[.val d,.val (mkA kd xs),.val (.tup P),.val (.int (ks.length:Int)),a4,a5]/\∀ i j,i<j->j<ks.length->i<l->Rt3 n v ws ks xs i j)
  (fun l r=>∃ j,l<j/\j<ks.length/\r=.v (iU P l j)/\¬ Rt3 n v ws ks xs l j/\(∀ j',l<j'->j' < j->Rt3 n v ws ks xs l j')/\∀ i j,i<j->j<ks.length->i<l->Rt3 n v ws ks xs i j) ⟨_,_,rfl,fun i j _ _ h=>absurd h (Yp _)⟩ (by
  rintro l e ρ he ⟨a4,a5,rfl,hp⟩
  obtain⟨hl,rfl⟩:=zFv he;rw[show(0:Int)+(l:Int)*1=(l:Int) by omega];rcases inner l a5 hl with⟨a5',e1,h1⟩ | ⟨j,j1,j2,e1,h1,h2⟩
  ·refine .inl ⟨_,_,rfl,e1,_,_,rfl,fun i j hij hj hi=>?_⟩
   rcases X5 (show i<=l by omega) with z | z
   ·exact hp i j hij hj z
   ·subst z;exact h1 j hij hj
  ·exact .inr ⟨_,_,rfl,e1,j,j1,j2,rfl,h1,h2,hp⟩) with⟨ρ',e',a4,a5,rfl,hp⟩ | ⟨l,r,hl,e',j,j1,j2,rfl,h1,h2,h3⟩
 ·rw[e']
  refine .inl ⟨rfl,fun i j hij hj=>hp i j hij hj (by rw[ll];omega)⟩
 ·rw[e']
  refine .inr ⟨l,j,j1,j2,rfl,h1,fun i' j' a b c=>?_⟩
  rcases c with c | ⟨rfl,c⟩
  ·exact h3 i' j' a b c
  ·exact h2 j' a c
def AR:Nat->D->List Rat->Prop
 | 0,_,_=>True
 | n+1,d,xs=>∀(v:Wy)(ws:List Int)(ks:List D),d=.tup [.str v.s,.tup (ws.map D.int),.tup ks]->(∀ i j,i<j->j<ks.length->Rt3 n v ws ks xs i j)/\∀ l k,ks[l]?=some k->AR n k ((pcs n ks xs).getD l [])
def Am.pc{b n:Nat}{ks:List D}{xs:List Rat}(am:Am b xs)(l:Nat):Am b ((pcs n ks xs).getD l []):=by
 have hl:∀(ks:List D)(xs:List Rat)(ys:List Rat),ys∈uE (fun k=>(clm n k).length) ks xs->ys.length<=xs.length:=by
  intro ks
  induction ks with
  | nil=>intro xs ys h;cases h
  | cons k r ih=>
   intro xs ys h;rw[uE] at h;rcases Qc.mp h with rfl | h
   ·rw[V4];omega
   ·have:=ih _ _ h;rw[Vx] at this;omega
 by_cases c:l<(pcs n ks xs).length
 ·have m:(pcs n ks xs).getD l []∈pcs n ks xs:=by
   rw[Qs,Qj c];exact V3 _
  refine am.sub ?_ fun y hy=>zBu m hy
  have:=hl _ _ _ m
  have:=am.len
  omega
 ·rw[Qs,Qz ⋯]
  exact am.sub (by show 0<=12;decide) fun y hy=>by cases hy
def zMk{v v':Wy}(h:v.s=v'.s):v=v':=by cases v<;>cases v'<;>first | rfl | exact absurd h ∅
def xY:∀ {a b:List Int},a.map D.int=b.map D.int->a=b
 | [],[],_=>rfl
 | x::a,y::b,h=>by
  rw[Qg,Qg] at h;injection h with h1 h2
  injection h1 with h1
  rw[h1,xY h2]
def oG{n:Nat}{v:Wy}{ws:List Int}{ks:List D}{xs:List Rat}:AR (n+1) (.tup [.str v.s,.tup (ws.map D.int),.tup ks]) xs ↔ (∀ i j,i<j->j<ks.length->Rt3 n v ws ks xs i j)/\∀ l k,ks[l]?=some k->AR n k ((pcs n ks xs).getD l []):=by
 constructor
 ·intro h;exact h v ws ks rfl
 ·intro h v' ws' ks' e
  simp only[D.tup.injEq,Xv,and_true,D.str.injEq] at e;obtain⟨e1,e2,rfl⟩:=e;have:=zMk e1
  have:=xY e2
  subst_vars
  exact h
def zDi{kd:Bool}{b:Nat}(hb:b<=1200):∀(n N:Nat)(d:D)(xs:List Rat)(P:List Int),Gc n d->n<=N->n<=9->Am b xs->P.length+n<=1000->
  (aU N [d,mkA kd xs,.tup (P.map D.int)]=.ok (.v .non)/\AR n d xs)∨∃(Q:List Int)(i j:Nat),aU N [d,mkA kd xs,.tup (P.map D.int)]=.ok (.v (iU (Q.map D.int) i j))/\¬ AR n d xs
 | 0,_,_,_,_,g,_,_,_,_=>g.1.elim
 | n+1,0,_,_,_,_,h,_,_,_=>absurd h ⋯
 | n+1,N+1,d,xs,P,g,hN,h9,am,hP=>by
  rcases g.1 with⟨c,rfl⟩ | ⟨w,ws,ks,rfl,hw,k0,k1,w1,hy,hk⟩
  ·refine .inl ⟨?_,fun v ws ks e=>by simp at e⟩
   show bR (aU N) _=_
   unfold bR;erw[mE];symm
  ·obtain⟨v,rfl⟩:=zCY hy.1
   have due:v.due ws (kcl n ks):=zDa (by rw[eR];exact hy.2)
   have l12:(ks.flatMap (clm n)).length<=12:=g.2.1;have kl:=oE hk;have pl:(pcs n ks xs).length=ks.length:=iK ks xs;show(bR (aU N) _=_/\_)∨∃(Q:List Int)(i j:Nat),bR (aU N) _=_/\_
   rcases zAd (kd:=kd) (P:=P.map D.int) g ⋯ hk k0 due am hb with⟨eo,ho⟩ | ⟨i,j,ij,jk,eo,no,_⟩
   ·have gk0:=fun k (mk:k∈ks)=>g.kid (n:=n) hk mk
    generalize hd:D.tup [.str v.s,.tup (ws.map D.int),.tup ks]=d at *
    have lp:=wQ (g:=zCc (fT (gName 5) (fT (gName 6) zCd))) (b:=fM (aU N)) (ds:=lZ 0 ks) (ρ:=[.val d,.val (mkA kd xs),.val (.tup (P.map D.int)),.val .non,.val (.lst ((pcs n ks xs).map (mkA kd))),.un,.un])
     (fun l ρ=>∃ a3 a5 a6,ρ=[.val d,.val (mkA kd xs),.val (.tup (P.map D.int)),a3,.val (.lst ((pcs n ks xs).map (mkA kd))),a5,a6]/\∀ l' k,l' < l->ks[l']?=some k->AR n k ((pcs n ks xs).getD l' []))
     (fun l r=>∃(Q:List Int)(i j:Nat)(k:D),r=.v (iU (Q.map D.int) i j)/\ks[l]?=some k/\¬ AR n k ((pcs n ks xs).getD l [])) ⟨_,_,_,rfl,fun l' k h=>absurd h (Yp _)⟩ (by
     rintro l e ρ he ⟨a3,a5,a6,rfl,hp⟩
     obtain⟨k,hk',rfl⟩:=wA he;have hl:l<ks.length:=(Qy.mp hk').1;have mk:k∈ks:=Qf hk';rw[Q8]
     have ap:pG (.tup (P.map D.int)) (.tup [.int (l:Int)])=.ok (.tup ((P++[(l:Int)]).map D.int)):=by
      rw[Q9];exact Jj (by rw[Qi];show P.length+1<=16777216;omega)
     have gk:=gk0 k mk;rcases zDi hb n N k ((pcs n ks xs).getD l []) (P++[(l:Int)]) gk ⋯ ⋯ (am.pc l) (by rw[Ql,X0];omega) with⟨er,ar⟩ | ⟨Q,i,j,er,nr⟩
     ·refine .inl ⟨[.val d,.val (mkA kd xs),.val (.tup (P.map D.int)),a3,.val (.lst ((pcs n ks xs).map (mkA kd))),.val (.int (l:Int)),.val k],[.val d,.val (mkA kd xs),.val (.tup (P.map D.int)),.val .non,.val (.lst ((pcs n ks xs).map (mkA kd))),.val (.int (l:Int)),.val k],?_,?_,_,_,_,rfl,fun l' k' h1 h2=>?_⟩
      ·symm
      ·symm
       rw[zCF ⋯];erw[ap,er];symm
      ·rcases X5 (show l'<=l by omega) with z | z
       ·exact hp l' k' z h2
       ·subst z;rw[hk'] at h2;cases h2;exact ar
     ·refine .inr ⟨[.val d,.val (mkA kd xs),.val (.tup (P.map D.int)),a3,.val (.lst ((pcs n ks xs).map (mkA kd))),.val (.int (l:Int)),.val k],_,?_,?_,Q,i,j,k,rfl,hk',nr⟩
      ·symm
      ·symm
       rw[zCF ⋯];erw[ap,er];symm;unfold iU
       symm)
    have head:bR (aU N) [d,mkA kd xs,.tup (P.map D.int)]=((loop (zCc (fT (gName 5) (fT (gName 6) zCd))) (fM (aU N)) (lZ 0 ks) [.val d,.val (mkA kd xs),.val (.tup (P.map D.int)),.val .non,.val (.lst ((pcs n ks xs).map (mkA kd))),.un,.un]).bind (yQ (kE (aU N)))).bind fin:=by
     unfold bR;symm;rw[<-hd,hZ (dU v),hd];erw[eo];symm;rw[<-hd,rF (dU v) ⋯ hk l12,hd];symm;rw[<-hd,cM (dU v),hd];symm;rfl
    rw[head];rcases lp with⟨ρ',e',a3,a5,a6,rfl,hp⟩ | ⟨l,r,hl,e',Q,i,j,k,rfl,hk',nr⟩
    ·rw[e']
     refine .inl ⟨rfl,?_⟩
     rw[<-hd,oG];refine⟨ho,fun l k h=>hp l k ?_ h⟩
     rw[sE];exact(Qy.mp h).1
    ·rw[e']
     refine .inr ⟨Q,i,j,rfl,fun z=>nr ?_⟩
     rw[<-hd,oG] at z;exact z.2 l k hk'
   ·refine .inr ⟨P,i,j,?_,fun z=>no ((oG.mp z).1 i j ij jk)⟩
    unfold bR;erw[hZ (dU v),eo];symm;unfold iU;symm
def tN{n:Nat}{d:D}(g:Gc n d)(hn:n<=10):bU 10 [d]=.ok (.f ((clm n d).map D.int)):=by
 have:=kB 10 d (fP g.1 hn) (by rw[dR g.1 hn];have:=g.2.1;omega)
 rwa [dR g.1 hn] at this
def zGb{n:Nat}{d:D}{kd:Bool}{xs:List Rat}(g:Gc n d)(hn:n<=10):bQ [d,mkA kd xs]=if xs.length=(clm n d).length then .ok (.v .non) else .err "Unlike" := by
 unfold bQ;erw[zEk,tN g hn];symm;by_cases c:xs.length=(clm n d).length
 ·rw[Jj c,c]
  symm
 ·rw[Jk c,Ji ⋯]
  symm
def Wi(cs:List Int)(xs:List Rat):Prop:=∀ i,i<cs.length->0<=xs.getD i 0/\xs.getD i 0<=cR cs i
def zHw{n b:Nat}{d:D}{kd:Bool}{xs:List Rat}{q:Rat}{m:Nat}(g:Gc n d)(hn:n<=9)(zq:Sz m q)(hm:m+34*n<=2000)(hl:xs.length<=100000):
  ∃ r:Bool,gG [d,mkA kd xs,dq q]=.ok (.v (.bl r))/\(r=true ↔ 0<=q/\q<=((clm n d).sum:Rat)/\Sh n d q xs):=by
 have gs:=g.sum;have io:=sN zq (n:=34) (l:=(((clm n d).sum:Int):Rat)) ⟨by show((clm n d).sum).natAbs<2^34;omega,by show 1<2^34;decide⟩ ⋯
 by_cases c:0<=q/\q<=((clm n d).sum:Rat)
 ·obtain⟨ys,ey,sy⟩:=zBw (m:=m) g hn c.1 c.2 (by have:=zq.2;exact_mod_cast this) hm
  have el:zCN [mkA kd xs]=.ok (xs.map dq):=by cases kd<;>rfl
  have ee:∃ r:Bool,oEq (.lst (ys.map dq)) (.lst (xs.map dq))=.ok (.bl r)/\(r=true ↔ ys=xs):=by
   refine⟨decide (ys=xs),?_,by rw[decide_eq_true_iff]⟩
   have:∀ a b:List Rat,uZ (a.map dq) (b.map dq)=decide (a=b):=by
    intro a
    induction a with
    | nil=>intro b;cases b with
     | nil=>simp[uZ]
     | cons y b=>simp[uZ]
    | cons x a ih=>intro b;cases b with
     | nil=>simp[uZ]
     | cons y b=>
      rw[Qg,Qg,uZ,ih,eq_dq];by_cases h1:x=y<;>by_cases h2:a=b<;>simp[h1,h2]
   have dp:dep (.lst (ys.map dq))<=50:=by
    have:∀ l:List Rat,depS (l.map dq)<=10:=by
     intro l
     induction l with
     | nil=>simp[depS]
     | cons x l ih=>rw[Qg,depS,dep_dq];omega
    have:=this ys
    rw[dep];omega
   unfold oEq;rw[Jj dp];show Res.ok (D.bl (uZ (ys.map dq) (xs.map dq)))=_
   rw[this]
  obtain⟨r,er,hr⟩:=ee;refine⟨r,?_,?_⟩
  ·unfold gG
   erw[jV g.1 ⋯ (by have:=g.2.1;omega),cZ];symm;rw[io,Ji (Qr.mpr c.1),Ji (Qr.mpr c.2)];erw[ey,el,er];symm
  ·rw[hr]
   constructor
   ·rintro rfl;exact⟨c.1,c.2,sy⟩
   ·rintro⟨_,_,sx⟩
    exact zMw g sy sx
 ·refine⟨false,?_,⟨fun h=>(by cases h),fun h=>absurd ⟨h.1,h.2.1⟩ c⟩⟩
  have bad:(decide (q<0) || decide (((clm n d).sum:Rat)<q))=true:=by
   rw[Vn,decide_eq_true_iff,decide_eq_true_iff];by_cases z:0<=q
   ·exact .inr (Q3.mp fun y=>c ⟨z,y⟩)
   ·exact .inl (Q3.mp z)
  unfold gG;erw[jV g.1 ⋯ (by have:=g.2.1;omega),cZ];symm;rw[io,bad];symm
def Clm(cs:List Int):Prop:=∀ c∈cs,0<=c/\c<=10^9
def zIQ{n:Nat}{ks:List D}(h:∀ k∈ks,IsC n k):ks.length<=(ks.flatMap (clm n)).length:=oE h
def zGJ{ds:List D}{m:Nat}(h0:0<m)(h:m<=ds.length):gD ds none (some (-(m:Int)))=ds.take (ds.length-m):=by
 unfold gD cut;simp only[show ¬ (0<=-(m:Int)) by omega,if_false,List.drop_zero,U7];rw[show((ds.length:Int)+-(m:Int)).toNat=ds.length-m by omega]
def zGU{ds:List D}{m:Nat}(h0:0<m)(h:m<=ds.length):gD ds (some (-(m:Int))) none=ds.drop (ds.length-m):=by
 unfold gD cut;simp only[show ¬ (0<=-(m:Int)) by omega,if_false];rw[show((ds.length:Int)+-(m:Int)).toNat=ds.length-m by omega,Y7 (by rw[Vx];omega)]
def zOs{x m:Int}(h:0<m)(hm:m<=10^9+1):0<=x % m/\x % m<=10^9:=by
 have a:=Qv x (Wn h);have b:=Q5 x h;omega
def zEe{cell kind:Int}(h:0<=cell)(hk:0<=kind):∃ c:Int,kC [.int cell,.int kind]=.ok (.v (.int c))/\0<=c/\c<=10^9:=by
 have d0:0<=cell / 91 % 60*10^6/\cell / 91 % 60*10^6<=10^9:=by
  have a:=Qv (cell / 91) (show(60:Int)≠0 by decide)
  have b:=Q5 (cell / 91) (show(0:Int)<60 by decide)
  omega
 have i0:0<=(kind+cell % 7 / 5) % 4:=Qv _ ∅
 have i1:(kind+cell % 7 / 5) % 4<4:=Q5 _ ∅
 have hi:((kind+cell % 7 / 5) % 4).toNat < [cell / 7 % 13,cell / 7 % 4,cell / 7 % (10^9+1),cell / 91 % 60*10^6].length:=(Int.toNat_lt i0).mpr i1
 have all:∀ x∈[cell / 7 % 13,cell / 7 % 4,cell / 7 % (10^9+1),cell / 91 % 60*10^6],0<=x/\x<=10^9:=fun x hx=>by
  simp only[Qc,Q0,or_false] at hx;rcases hx with rfl | rfl | rfl | rfl
  ·exact zOs ∅ ∅
  ·exact zOs ∅ ∅
  ·exact zOs ∅ ∅
  ·exact d0
 have ix:=nH (f:=D.int) i0 (Qj hi);have bd:=all _ (V3 hi);generalize ([cell / 7 % 13,cell / 7 % 4,cell / 7 % (10^9+1),cell / 91 % 60*10^6])[((kind+cell % 7 / 5) % 4).toNat]=c at ix bd;unfold kC;symm;rw[oMod_i ∅,fmod_pos _ ∅];erw[oPow_i ∅,oMul_i (okMul_litr ∅ ∅)];symm;refine⟨c,?_,bd⟩
 rw[show oIx (.lst [.int (cell / 7 % 13),.int (cell / 7 % 4),.int (cell / 7 % (10^9+1)),.int (cell / 91 % 60*10^6)]) (.int ((kind+cell % 7 / 5) % 4))=.ok (.int c) from ix];symm
def zRD:List Str:=[Str.ofString "even", Str.ofString "row", Str.ofString "lack", Str.ofString "half", Str.ofString "part", Str.ofString "back"]
def zQF{k:Int}(h0:0<=k)(h1:k<6):∃ w∈wys,oIx (.lst [.str "even", .str "row", .str "lack", .str "half", .str "part", .str "back"]) (.int k)=.ok (.str w):=by
 have hk:k.toNat<zRD.length:=(Int.toNat_lt h0).mpr h1;have all:∀ x∈zRD,x∈wys:=∅
 exact⟨zRD[k.toNat],all _ (V3 hk),nH (f:=D.str) (l:=zRD) h0 (Qj hk)⟩
def fm8{n:Nat}{ks:List D}(hk:∀ k∈ks,IsC n k)(hn:n<=8):ks.flatMap (clm 8)=ks.flatMap (clm n):=by
 rw[Ui,Xa fun p hp=>dR (hk p hp) hn,<-Ui]
def zEK:∀ {n m:Nat} {d:D},IsC n d->n<=m->kn m d=kn n d
 | 0,_,_,h,_=>h.elim
 | n+1,0,_,_,l=>absurd l ⋯
 | n+1,m+1,d,h,l=>by
  rcases h with⟨c,rfl⟩ | ⟨w,ws,ks,rfl,hw,k0,k1,w1,hy,hk⟩
  ·rfl
  ·show 1+(ks.map (kn m)).sum=1+(ks.map (kn n)).sum
   rw[Xa fun k hk'=>zEK (hk k hk') ⋯]
def zOM{n:Nat}{ks:List D}(hk:∀ k∈ks,IsC n k)(hn:n<=7):(ks.map (kn 7)).sum=(ks.map (kn 8)).sum:=by
 rw[Xa fun k hk'=>(show kn 7 k=kn 8 k by rw[zEK (hk k hk') hn,zEK (hk k hk') (show n<=8 by omega)])]
def zNU{w a:D}{ks:List D}:kn 8 (.tup [w,a,.tup ks])=1+(ks.map (kn 7)).sum:=rfl
def zNr{c:Int}:kn 8 (.tup [.str "boat", .int c])=0:=rfl
def zAr{cell:Int}{ks:List D}{n:Nat}(h0:0<=cell)(k0:0<ks.length)(hn:n<=7)(hk:∀ k∈ks,IsC n k)(hc:(ks.flatMap (clm 8)).length<=12):
  ∃ d,iG [.int cell,.lst ks]=.ok (.v d)/\IsC (n+1) d/\clm 8 d=ks.flatMap (clm 8)/\kn 8 d<=1+(ks.map (kn 8)).sum:=by
 rw[fm8 hk ⋯] at hc ⊢
 have kl:=zIQ hk;obtain⟨w,hw,ew⟩:=zQF (k:=cell % 6) (Qv _ ∅) (Q5 _ ∅)
 have fin':∀(ws:List Int)(a4 a5 a6:Sl),wOK w ws ks.length->ws.length<=100->∃ d,(oZ [.val (.int cell),.val (.lst ks),.val (.str w),.own (ws.map D.int),a4,a5,a6]).bind fin=.ok (.v d)/\IsC (n+1) d/\clm 8 d=ks.flatMap (clm n)/\kn 8 d<=1+(ks.map (kn 8)).sum:=by
  intro ws a4 a5 a6 hs hl;obtain⟨e,ic⟩:=zPC (wd:=.lst (ws.map D.int)) (.inl rfl) hw hs hl k0 ⋯ hn hk hc
  refine⟨_,?_,ic,?_,?_⟩
  rotate_left
  ·rw[dR ic ⋯];rfl
  ·rw[zNU,zOM hk hn]
   exact Qb _
  ·symm
   rw[e];symm
 unfold iG uP uR;generalize hK:(oZ:Sv)=K at fin';erw[ew,zQc];by_cases iw:w = "even" ∨ w = "lack"
 ·rw[J5 iw]
  symm;have q0:0<=cell / 6 % 4:=Qv _ ∅
  have q1:cell / 6 % 4<4:=Q5 _ ∅
  rw[oPow_i ∅];symm
  obtain⟨most,em,m0,m1⟩:∃ most:Int,oIx (.lst [.int 3,.int 3,.int 3,.int (10^6)]) (.int (cell / 6 % 4))=.ok (.int most)/\1<=most/\most<=10^6:=by
   generalize cell / 6 % 4=k at q0 q1;rcases (show k=0∨k=1∨k=2∨k=3 by omega) with rfl | rfl | rfl | rfl<;>exact⟨_,rfl,∅,∅⟩
  rw[em];symm
  refine oY (Q:=fun r=>∃ d,r.bind fin=.ok (.v d)/\IsC (n+1) d/\clm 8 d=ks.flatMap (clm n)/\kn 8 d<=1+(ks.map (kn 8)).sum) (k:=yQ K)
   (fun i ρ=>∃(ws:List Int)(rest:Int)(a:Sl),ρ=[.val (.int cell),.val (.lst ks),.val (.str w),.own (ws.map D.int),.val (.int most),.val (.int rest),a]/\ws.length=i/\(∀ x∈ws,1<=x/\x<=10^6)/\0<=rest) ⟨[],cell / 24,.un,rfl,rfl,(fun x h=>by cases h),Uk h0 ∅⟩ ?_ ?_
  ·rintro i d ρ hd ⟨ws,rest,a,rfl,hl,hx,r0⟩
   have hi:=(Qy.mp hd).1;have b0:=Qv rest (show most≠0 by omega)
   have b1:=Q5 rest (show 0<most by omega)
   refine⟨_,?_,ws++[1+rest % most],rest / 3,.val d,rfl,by rw[Ql,hl];rfl,fun x hx'=>?_,Uk r0 ∅⟩
   ·symm
    rw[oMod_i (show most≠0 by omega),fmod_pos _ (show 0<most by omega)];erw[Jj ⋯,Q9];rfl
   ·rcases Xh.mp hx' with h | h
    ·exact hx x h
    ·rw[Qx.mp h];omega
  ·rintro ρ ⟨ws,rest,a,rfl,hl,hx,r0⟩
   exact fin' ws _ _ _ (.inl ⟨iw,hl,hx⟩) ⋯
 ·rw[Ji iw]
  symm;exact fin' [] _ _ _ (.inr ⟨iw,rfl⟩) ∅
def zMY{q:Nat}{c:Int}(h:0<=c/\c<=10^9):IsC (q+1) (.tup [.str "boat", .int c])/\Clm (clm 8 (.tup [.str "boat", .int c])):=⟨.inl ⟨c,rfl⟩,fun x hx=>by rw[Qx.mp (show x∈[c] from hx)];exact h⟩
def zGK(L:List D)(q i:Nat):Prop:=(q<=5/\(L.map (kn 8)).sum<=q)/\(∀ d∈L,IsC (q+1) d/\Clm (clm 8 d))/\(L.flatMap (clm 8)).length=i
def zGK.len{L:List D}{q i:Nat}(h:zGK L q i):L.length<=i:=by
 have:=zIQ (n:=q+1) (fun d hd=>(h.2.1 d hd).1)
 rw[<-fm8 (fun d hd=>(h.2.1 d hd).1) (by have:=h.1;omega),h.2.2] at this;exact this
def zGK.boat{L:List D}{q i:Nat}{c:Int}(h:zGK L q i)(hc:0<=c/\c<=10^9):zGK (L++[.tup [.str "boat", .int c]]) q (i+1):=by
 refine⟨⟨h.1.1,by rw[Q9,Xg,Qg,Vy,Qn,Vp,zNr];exact h.1.2⟩,fun d hd=>?_,?_⟩
 ·rcases Xh.mp hd with hd | hd
  ·exact h.2.1 d hd
  ·rw[Qx.mp hd];exact zMY hc
 ·rw[Xu,Ql,h.2.2];rfl
def zGK.noL{L:List D}{q i:Nat}(h:zGK L q i):∀ d∈L,noL d=true:=fun d hd=>zEi _ _ (zIO _ _ (h.2.1 d hd).1)
def zGK.knot{L:List D}{q i m:Nat}{d:D}(h:zGK L q i)(hq:q<5)(hd:IsC (q+2) d)(hc:clm 8 d=(L.drop m).flatMap (clm 8))(hkn:kn 8 d<=1+((L.drop m).map (kn 8)).sum):zGK (L.take m++[d]) (q+1) i:=by
 refine⟨⟨⋯,by
  have e:=h.1.2;rw[<-Yo m L,Q9,Xg] at e;rw[Q9,Xg,Qg,Vy,Qn,Vp]
  omega⟩,fun e he=>?_,?_⟩
 ·rcases Xh.mp he with he | he
  ·have:=h.2.1 e (Uf he)
   exact⟨fP this.1 ⋯,this.2⟩
  ·rw[Qx.mp he]
   refine⟨hd,fun c hx=>?_⟩
   rw[hc] at hx;obtain⟨k,hk,hx⟩:=We.mp hx;exact(h.2.1 k (Wk hk)).2 c hx
 ·have e:=h.2.2
  rw[<-Yo m L,Xu,Ql] at e;rw[Xu,Ql,show [d].flatMap (clm 8)=clm 8 d by simp[List.flatMap],hc];exact e
def zLO{n:Nat}(h:0<n):(0:Int)<min 4 (n:Int):=⋯
def zOn{n:Nat}{x:Int}(mp:(0:Int)<min 4 (n:Int)):∃ m:Nat,1+x % min 4 (n:Int)=(m:Int)/\0<m/\m<=n:=by
 have a:=Qv x (Wn mp);have b:=Q5 x mp;exact⟨(1+x % min 4 (n:Int)).toNat,⋯,⋯,⋯⟩
def zDH(ns:List Int):∃ d:D,iT [.lst (ns.map D.int)]=.ok (.v d)/\IsC 8 d/\Clm (clm 8 d)/\(clm 8 d).length<=12/\kn 8 d<=6:=by
 have h0:0<=ns.getD 0 0 % 10^30:=Qv _ ∅
 have turn:∀(head boats:Int)(L:List D)(q i:Nat)(a6 a7 a8:Sl),0<=head->i<12->zGK L q i->∃(L':List D)(q':Nat)(b6 b7 b8:Sl),zGK L' q' (i+1)/\
   lV [.val (.lst (ns.map D.int)),.val (.int head),.own L,.val (.int (q:Int)),.val (.int boats),.val (.int (i:Int)),a6,a7,a8]=.ok (.nx [.val (.lst (ns.map D.int)),.val (.int head),.own L',.val (.int (q':Int)),.val (.int boats),.val (.int (i:Int)),b6,b7,b8]):=by
  intro head boats L q i a6 a7 a8 hh hi pl;have c0:0<=ns.getD (1+(i:Int)).toNat 0 % 10^30:=Qv _ ∅
  have t0:0<=ns.getD (7+(i:Int)).toNat 0 % 10^30:=Qv _ ∅
  obtain⟨c,ec,c1⟩:=zEe (cell:=ns.getD (1+(i:Int)).toNat 0 % 10^30) (kind:=head / 6 % 3) c0 (Qv _ ∅)
  have pb:=pl.boat c1;have ll:=pl.len;have lb:=pb.len;have ln:(L++[D.tup [.str "boat", .int c]]).length=L.length+1:=by rw[Ql];rfl
  erw[jP ns (1+(i:Int)) (Int.add_nonneg ∅ (Q2 _)),ec,zPw c1.1 c1.2,Jj (V7 ll (Nat.lt_trans hi ∅)),jP ns (7+(i:Int)) (Int.add_nonneg ∅ (Q2 _))];symm;generalize ns.getD (7+(i:Int)).toNat 0 % 10^30=tn at t0;generalize hL:L++[D.tup [.str "boat", .int c]]=L1 at pb lb ln;by_cases z1:tn % 3=1
  ·rw[J5 z1]
   symm;by_cases z2:(q:Int)<5
   ·rw[J5 z2]
    symm;have mp:=zLO (n:=L1.length) (by rw[ln];exact Yy _)
    rw[oMod_i (Wn mp),fmod_pos _ mp];symm;obtain⟨m,em,k0,k1⟩:=zOn (x:=tn / 3) mp;rw[em];have q4:q<5:=Int.ofNat_lt.mp z2
    obtain⟨d,ed,icd,ecd,kcd⟩:=zAr (cell:=tn / 12) (ks:=L1.drop (L1.length-m)) (n:=q+1) (Uk t0 ∅) (by rw[Vx,Nat.sub_sub_self k1];exact k0) (Qp (Nat.succ_le_of_lt q4) (show 5<=7 by decide)) (fun k hk=>(pb.2.1 k (Wk hk)).1) (by
     have e:=pb.2.2;rw[<-Yo (L1.length-m) L1,Xu,Ql] at e
     exact Qp (Nat.le_add_left _ _) (Qp (X1 e) hi))
    have pk:=pb.knot q4 icd ecd kcd;have nl:noLs (L1.take (L1.length-m)++[d])=true:=zIY pk.noL;rw[zGJ k0 k1,zGU k0 k1,ed];erw[Jj (Qp (by rw[V4];exact Nat.min_le_right _ _) (Qp lb (Qp hi (show 12<=16777215 by decide)))),nl];symm;exact⟨_,q+1,_,_,_,pk,rfl⟩
   ·rw[Ji z2]
    symm;exact⟨L1,q,_,_,_,pb,rfl⟩
  ·rw[Ji z1]
   symm;exact⟨L1,q,_,_,_,pb,rfl⟩
 have rest:∀(head:Int)(b:Nat),0<=head->0<b->b<=12->∃ d:D,(iI [.val (.lst (ns.map D.int)),.val (.int head),.own [],.val (.int 0),.val (.int (b:Int)),.un,.un,.un,.un]).bind fin=.ok (.v d)/\IsC 8 d/\Clm (clm 8 d)/\(clm 8 d).length<=12/\kn 8 d<=6:=by
  intro head b hh b0 b1;unfold iI;generalize hK:(lV:Sv)=K at turn;erw[zAL (Xo ∅ (Q2 b)) (Wo (Int.ofNat_le.mpr b1) ∅)];symm
  refine oY (Q:=fun r=>∃ d:D,r.bind fin=.ok (.v d)/\IsC 8 d/\Clm (clm 8 d)/\(clm 8 d).length<=12/\kn 8 d<=6) (k:=yQ oM)
   (fun i ρ=>∃(L:List D)(q:Nat)(a5 a6 a7 a8:Sl),ρ=[.val (.lst (ns.map D.int)),.val (.int head),.own L,.val (.int (q:Int)),.val (.int (b:Int)),a5,a6,a7,a8]/\zGK L q i) ⟨[],0,_,_,_,_,rfl,⟨Vo _,Qb _⟩,(fun d hd=>by cases hd),rfl⟩ ?_ ?_
  ·rintro i d ρ hd ⟨L,q,a5,a6,a7,a8,rfl,pl⟩
   obtain⟨hi,rfl⟩:=zFv hd;rw[show(0+(i:Int)*1)=(i:Int) by rw[Int.zero_add,Vv]];obtain⟨L',q',b6,b7,b8,pl',e⟩:=turn head b L q i a6 a7 a8 hh (by rw[Vb] at hi;exact Qm hi b1) pl
   exact⟨_,e,L',q',_,_,_,_,rfl,pl'⟩
  ·rintro ρ ⟨L,q,a5,a6,a7,a8,rfl,pl⟩
   rw[zMG,Vb] at pl;have q5:=pl.1.1;have q6:=pl.1.2;have lf:=pl.2.2
   have cs:Clm (L.flatMap (clm 8)):=fun c hc=>by
    obtain⟨k,hk,hx⟩:=We.mp hc;exact(pl.2.1 k hk).2 c hx
   have L0:0<L.length:=by
    cases L with
    | nil=>simp at lf;omega
    | cons a r=>exact Yy _
   obtain⟨d,ed,icd,ecd,kcd⟩:=zAr (cell:=head / 72) (ks:=L) (n:=q+1) (Uk hh ∅) L0 (Qp (Xn q5) ∅) (fun k hk=>(pl.2.1 k hk).1) (Qp (X1 lf) b1)
   have isk:∃ d:D,((iG [.int (head / 72),.lst L]).bind rtF).bind retF=.ok (.ret (.v d))/\IsC 8 d/\Clm (clm 8 d)/\(clm 8 d).length<=12/\kn 8 d<=6:=⟨d,by rw[ed];rfl,fP icd (Qp (Xn (Xn q5)) ∅),by rw[ecd];exact cs,by rw[ecd];exact Qp (X1 lf) b1,⋯⟩
   obtain⟨d',ed',r'⟩:=isk;symm;by_cases z1:(1:Int)<(L.length:Int)
   ·rw[J5 z1]
    erw[ed'];symm;exact⟨d',rfl,r'⟩
   ·rw[Ji z1]
    symm;by_cases z2:(0:Int)<head / 18 % 4
    ·rw[J5 z2]
     erw[ed'];symm;exact⟨d',rfl,r'⟩
    ·rw[Ji z2]
     symm
     match L,L0,z1,pl,lf with
     | [p],_,_,pl,lf=>
      rw[show oIx (.lst [p]) (.int 0)=.ok p from rfl];symm;have h:=pl.2.1 p Qe;refine⟨p,rfl,fP h.1 (Qp (Xn q5) ∅),h.2,?_,?_⟩
      ·simp[List.flatMap] at lf
       omega
      ·have e:([p].map (kn 8)).sum=kn 8 p:=by simp
       have:=pl.1.2
       omega
     | p::p'::r,_,z1,_,_=>exact absurd (by simp only[Qk];omega) z1
 unfold iT pT pS qD pX;generalize hK:(iI:Sv)=K at rest;erw[jP ns 0 ∅];symm;generalize ns.getD 0 0 % 10^30=head at h0;have e0:0<=head % 6:=Qv _ ∅
 have e1:head % 6<6:=Q5 _ ∅
 obtain⟨b,eb⟩:∃ b:Nat,1+head % 6=(b:Int):=⟨(1+head % 6).toNat,⋯⟩
 rw[eb];by_cases z:head / 90 % 8=1
 ·rw[J5 z]
  symm;have:=rest head (b+6) h0 ⋯ ⋯
  rw[Xq] at this;exact this
 ·rw[Ji z]
  symm;exact rest head b h0 ⋯ ⋯
def zDI{t b:Int}(ht:0<=t)(hb:0<b):iX [.int t,.int b]=.ok (.v (.int (Int.gcd t b:Int))):=by
 unfold iX;symm
 refine zMj (fun ρ=>∃(x y:Int)(r:Sl),ρ=[.val (.int x),.val (.int y),r]/\0<=x/\0<=y/\Int.gcd x y=Int.gcd t b) (fun ρ=>(slI 1 ρ).toNat)
  (fun r=>(r.bind (yQ qG)).bind fin=.ok (.v (.int (Int.gcd t b:Int)))) ⟨_,_,_,rfl,ht,⋯,rfl⟩ ?_
 rintro ρ ⟨x,y,r,rfl,hx,hy,hg⟩
 by_cases c:y=0
 ·subst c
  refine .inl ⟨rfl,?_⟩
  have e2:x=(Int.gcd t b:Int):=by
   rw[Int.gcd_zero_right] at hg;omega
  erw[<-e2]
 ·have hp:0<y:=⋯
  refine .inr ⟨?_,[.val (.int y),.val (.int (x % y)),.val (.int (x % y))],?_,⟨y,x % y,_,rfl,hy,Qv _ c,(zFR hx hp).trans hg⟩,?_⟩
  ·symm
   rw[J5 hp]
  ·symm
   rw[oMod_i c,fmod_pos _ hp];symm
  ·have:=Q5 x hp
   show(x % y).toNat<y.toNat
   omega
def hU{t b:Int}{n:Nat}(hb:0<b)(hn:b.natAbs<2^n)(h:n<=8999):bS [.int t,.int b]=.ok (.v (dq (Rat.divInt t b))):=by
 have hb0:b≠0:=⋯
 have hd:nN (dv t b)=true:=rD (zRk hb0) (V7 (zQp hb0) hn) h;have e:(Int.gcd t b:Int)=dv t b:=by unfold dv;rw[Jk ⋯]
 have e2:Int.gcd (t.natAbs:Int) b=Int.gcd t b:=by simp[Int.gcd]
 unfold bS;symm;rw[zDI ⋯ hb,e2,e];erw[oDiv_i hd,oDiv_i hd];symm;rw[zDy hb0,zDN hb0];rfl
def gK{p q:Rat}{m n:Nat}(hp:Sz m p)(hq:Sz n q)(h:m+n<=8999):bF [dq p,dq q]=.ok (.v (dq (p+q))):=by
 have pp:=dA p;have pq:=dA q;unfold bF;erw[oMul_i (bO hp.1 hq.d ⋯),oMul_i (bO hq.1 hp.d ⋯),oMul_i (bO hp.d hq.d ⋯)];symm;rw[hU (n:=m+n) (Vm pp pq) (by rw[Yf,Yg];exact Yh hp.d hq.d) h,zKg];symm
def zMJ(f:Nat->Rat):∀ n:Nat,∃ N,∀ i,i<n->Sz N (f i)
 | 0=>⟨0,fun i h=>absurd h (Yp _)⟩
 | n+1=>by
  obtain⟨N,h⟩:=zMJ f n;refine⟨N+((f n).num.natAbs+(f n).den),fun i hi=>?_⟩
  rcases X5 (show i<=n by omega) with z | z
  ·exact(h i z).mono ⋯
  ·subst z;exact(zRa (f i)).mono ⋯
def zKf{P:D->Rat->List Rat->Prop}{m:D->Nat}{f:Nat->Rat}:∀ {ks:List D} {i:Nat} {xs:List Rat} {l:Nat} {k:D},(∀ k∈ks,∀ q xs,P k q xs->xs.length=m k)->ShL P ks f i xs->ks[l]?=some k->P k (f (i+l)) ((uE m ks xs).getD l [])
 | c::r,i,xs,l,k,hp,h,hl=>by
  obtain⟨a,b,rfl,ha,hb⟩:=h;have la:=hp c Qe _ _ ha;rw[uE]
  cases l with
  | zero=>
   cases hl;show P c (f (i+0)) ((a++b).take (m c))
   rw[<-la,List.take_left,Nat.add_zero];exact ha
  | succ l=>
   show P k (f (i+(l+1))) ((uE m r ((a++b).drop (m c))).getD l [])
   rw[<-la,List.drop_left,show i+(l+1)=i+1+l by omega];exact zKf (fun x hx=>hp x (Qd _ hx)) hb (by simpa using hl)
def zLm{b:Nat}(hb:b<=1200):∀ {n:Nat} {d:D} {q:Rat} {xs:List Rat},n<=9->Gc n d->Sh n d q xs->0<=q->q<=((clm n d).sum:Rat)->Am b xs->AR n d xs
 | 0,_,_,_,_,g,_,_,_,_=>g.1.elim
 | n+1,d,q,xs,h9,g,h,q0,q1,am=>by
  rcases h with⟨c,rfl,rfl⟩ | ⟨v,ws,ks,f,rfl,hd,al,hs⟩
  ·intro v ws ks e;simp at e
  ·rcases g.1 with⟨c,e⟩ | ⟨w,ws',ks',e,hw,k0,k1,w1,hy,hk⟩
   ·simp at e
   simp only[D.tup.injEq,Xv,and_true] at e;obtain⟨e1,e2,rfl⟩:=e;have cl:=g.cl hk k0;have es:(kcl n ks).sum=(clm (n+1) (.tup [.str v.s,.tup (ws.map D.int),.tup ks])).sum:=zAh ks;obtain⟨bd,sm⟩:=zLY hd cl q0 (by rw[es];exact q1) al
   have kl:(kcl n ks).length=ks.length:=eR n ks
   have cut:∀ l k,ks[l]?=some k->Sh n k (f l) ((pcs n ks xs).getD l []):=fun l k hl=>by
    have:=zKf (P:=Sh n) (m:=fun k=>(clm n k).length) (fun k _ q xs h=>zCi h) hs hl
    rw[Q8] at this;exact this
   have fb:∀ l k,ks[l]?=some k->0<=f l/\f l<=((clm n k).sum:Rat):=fun l k hl=>by
    obtain⟨j1,j2⟩:=zAS (n:=n) hl;rw[<-j2];exact bd l j1
   have sk:∀ l k,ks[l]?=some k->sK n ks xs l=f l:=fun l k hl=>(zLV (g.kid hk (Qf hl)) (cut l k hl) (fb l k hl).1 (fb l k hl).2).2
   obtain⟨N,hN⟩:=zMJ f (kcl n ks).length;have dl:Dl N (kcl n ks) q f:=⟨fun i hi=>⟨(bd i hi).1,(bd i hi).2,hN i hi⟩,sm⟩
   rw[oG];refine⟨fun i j hij hj=>?_,fun l k hl=>zLm hb ⋯ (g.kid hk (Qf hl)) (cut l k hl) (fb l k hl).1 (fb l k hl).2 (am.pc l)⟩
   have hi:i<ks.length:=⋯
   obtain⟨r,_,hr,h2⟩:=zBK (kd:=true) (i:=i) (j:=j) g ⋯ hk k0 hd am hb hi hj
   have si:=sk i _ (Qj hi);have sj:=sk j _ (Qj hj);have bi:=bd i ⋯
   have bj:=bd j ⋯
   refine hr.mp (h2 ?_ ?_ ?_)
   ·show 0<=sK n ks xs i+sK n ks xs j
    rw[si,sj];grind
   ·show sK n ks xs i+sK n ks xs j<=_
    rw[si,sj];grind
   ·intro M g' al'
    have al'':Al M (w2 ws i j) [(kcl n ks).getD i 0,(kcl n ks).getD j 0] (sK n ks xs i+sK n ks xs j) g' v:=al';rw[si,sj] at al'';have:=zMO hd cl al dl hij ⋯ al''
    show g' 0=sK n ks xs i/\g' 1=sK n ks xs j
    rw[si,sj];exact this
def zLw{d:D}{q:Rat}{xs:List Rat}(g:Gc 8 d)(hkn:kn 8 d<=6)(h:Sh 8 d q xs)(q0:0<=q)(q1:q<=((clm 8 d).sum:Rat))(qd:(q.den:Int)<=2^20):Am 225 xs:=by
 obtain⟨bd,sm⟩:=zLV g h q0 q1;obtain⟨E,e0,e1,e2⟩:=zPt g h q0 q1 (Dn.den q);have l12:=g.2.1;refine⟨by rw[zCi h];exact l12,⟨(q.den:Int)*E,Vm (dA q) e0,?_,e2⟩,fun x hx=>?_⟩
 ·have a:E<=2^204:=Xo e1 (by
   rw[show(2:Int)^204=2^(34*kn 8 d)*2^(204-34*kn 8 d) by rw[<-Wf];congr 1;omega];have u:(0:Int)<2^(34*kn 8 d):=Yr ∅
   have v:(0:Int)<2^(204-34*kn 8 d):=Yr ∅
   have w:=Qaa (show(1:Int)<=2^(204-34*kn 8 d) by omega) (Xl u)
   rw[Vv] at w
   exact w)
  exact Wo (sV (dA q) e0 qd a) ∅
 ·obtain⟨y,hy,w⟩:=bd.mem hx
  have:=g.2.2 y hy
  have u:(y:Rat)<=((2^36:Int):Rat):=Vj.mpr ⋯
  have z:((0:Int):Rat)<=((2^36:Int):Rat):=Vj.mpr ∅
  have z0:((0:Int):Rat)=0:=rfl;exact⟨by have:=w.1;grind,by have:=w.2;grind⟩
def dvm(t:Int){b:Int}(hb:0<b):Rat.divInt t b*(b:Rat)=(t:Rat):=by
 have bp:(0:Rat)<(b:Rat):=by exact_mod_cast hb
 rw[X4,Xf (Ul bp)]
def wM{S c:Int}(h0:0<=S)(h1:S<=12*10^9):∃ q:Rat,dX [.int S,.int c]=.ok (.v (dq q))/\0<=q/\q<=(S:Rat)/\∃ b:Int,1<=b/\b<=97/\Dn b q:=by
 unfold dX;symm;have c0:=Qv c (show(10:Int)^40≠0 by decide)
 generalize c % 10^40=cell at c0;have k0:=Qv cell (show(5:Int)≠0 by decide)
 have k1:=Q5 cell (show(0:Int)<5 by decide)
 have e0:=Qv (cell / 5) (show(97:Int)≠0 by decide)
 have e1:=Q5 (cell / 5) (show(0:Int)<97 by decide)
 obtain⟨b,eb,b1,b2⟩:∃ b:Int,oIx (.lst [.int 1,.int 1,.int 2,.int 12,.int (1+cell / 5 % 97)]) (.int (cell % 5))=.ok (.int b)/\1<=b/\b<=97:=by
  generalize cell % 5=k at k0 k1;rcases (show k=0∨k=1∨k=2∨k=3∨k=4 by omega) with rfl | rfl | rfl | rfl | rfl
  ·exact⟨_,rfl,⋯,⋯⟩
  ·exact⟨_,rfl,⋯,⋯⟩
  ·exact⟨_,rfl,⋯,⋯⟩
  ·exact⟨_,rfl,⋯,⋯⟩
  ·exact⟨_,rfl,⋯,⋯⟩
 rw[eb];symm;have sb:0<=S*b:=Ua h0 ⋯
 have om:iP S b=true:=bO (m:=40) (n:=10) ⋯ ⋯ ∅
 rw[oMul_i om];symm;rw[oMod_i (show S*b+1≠0 by omega),fmod_pos _ (show 0<S*b+1 by omega)];symm;have t0:=Qv (cell / 485) (show S*b+1≠0 by omega)
 have t1:=Q5 (cell / 485) (show 0<S*b+1 by omega)
 generalize cell / 485 % (S*b+1)=t at t0 t1;rw[hU (n:=10) ⋯ ⋯ ∅];symm;have bp:(0:Rat)<(b:Rat):=by exact_mod_cast (show 0<b by omega)
 have e:Rat.divInt t b*(b:Rat)=(t:Rat):=by
  rw[X4,Xf (Ul bp)]
 refine⟨_,rfl,?_,?_,b,b1,b2,t,e⟩
 ·refine Qr.mp fun z=>?_
  have:=X6 bp |>.mpr z
  rw[e,Wp] at this;have t0':(0:Rat)<=(t:Rat):=by exact_mod_cast t0
  grind
 ·refine Qr.mp fun z=>?_
  have:=X6 bp |>.mpr z
  rw[e,<-Qu] at this;have:=Qab.mp this
  omega
structure Aw (B K:Int) (n:Nat) (xs:List Rat):Prop where
 len:xs.length=n
 all:∀ x∈xs,Dn B x/\-(K:Rat)<=x/\x<=(K:Rat)
def Aw.set{B K:Int}{n i:Nat}{xs:List Rat}{y:Rat}(h:Aw B K n xs)(d:Dn B y)(l:-(K:Rat)<=y)(u:y<=(K:Rat)):Aw B K n (xs.set i y):=
 ⟨by rw[Va];exact h.len,fun x hx=>by
  rcases List.mem_or_eq_of_mem_set hx with hx | rfl
  ·exact h.all x hx
  ·exact⟨d,l,u⟩⟩
def Aw.up{B K K':Int}{n:Nat}{xs:List Rat}(h:Aw B K n xs)(hk:K<=K'):Aw B K' n xs:=
 ⟨h.len,fun x hx=>by
  have a:=h.all x hx;have:(K:Rat)<=(K':Rat):=Vj.mpr hk
  exact⟨a.1,by have:=a.2.1;grind,by have:=a.2.2;grind⟩⟩
def Aw.at{B K:Int}{n i:Nat}{xs:List Rat}(h:Aw B K n xs)(hi:i<n):Dn B (xs.getD i 0)/\-(K:Rat)<=xs.getD i 0/\xs.getD i 0<=(K:Rat):=by
 have l:i<xs.length:=by rw[h.len];exact hi
 exact h.all _ (by rw[Qs,Qj l];exact V3 l)
def zKS{i j:Nat}{k e:Ev}{ρ:Rho}{xs:List Rat}{y:Rat}(h1:e ρ=.ok (dq y))(h2:ρ[i]?=some (.own (xs.map dq)))(h3:k ρ=.ok (.int (j:Int)))(h4:j<xs.length):zGE i k e ρ=.ok (.nx (ρ.set i (.own ((xs.set j y).map dq)))):=by
 rw[zPb h1 h2 h3 (by rw[Qi];exact h4),List.map_set]
def zJB(q:Rat):D.tup [.int (0-q.num),.int (q.den:Int)]=dq (-q):=by
 rw[Int.zero_sub];rfl
abbrev RA(d:D)(cell:Int)(cs:List Int)(xs:List Rat)(way:Int)(i j:Nat)(s:Rat):Rho:=[.val d,.val (.int cell),.val (.lst (cs.map D.int)),.own (xs.map dq),.val (.int way),.val (.int (i:Int)),.val (.int (j:Int)),.val (dq s)]
def zFt{xs:List Rat}{i:Nat}(h:i<xs.length):oIx (.lst (xs.map dq)) (.int (i:Int))=.ok (dq (xs.getD i 0)):=zGv (kd:=true) h
def zPZ{d:D}{cell way:Int}{cs:List Int}{xs:List Rat}{i j:Nat}{s:Rat}{B:Int}(hB:0<B)(hb:B<2^260)(h:Aw B (10^9+6) cs.length xs)(hi:i<cs.length)(hc:∀ c∈cs,0<=c/\c<=10^9):
  ∃ ys,(eP (RA d cell cs xs way i j s)).bind fin=.ok (.f (ys.map dq))/\Aw B (2^36) cs.length ys:=by
 by_cases w:way=7
 ·have a:=h.at hi
  have c:=hc _ (Qf (aZ hi));have ix:oIx (.lst (xs.map dq)) (.int (i:Int))=.ok (dq (xs.getD i 0)):=zFt (by rw[h.len];exact hi)
  have ic:oIx (.lst (cs.map D.int)) (.int (i:Int))=.ok (.int (cs.getD i 0)):=nH (Q2 i) (aZ hi);have m0:=Qv (cell / 19) (show(2:Int)≠0 by decide)
  have m1:=Q5 (cell / 19) (show(0:Int)<2 by decide)
  obtain⟨t,et,ht⟩:∃ t:Int,oIx (.lst [.int 1,.int (0-1)]) (.int (cell / 19 % 2))=.ok (.int t)/\(t=1∨t=-1):=by
   rcases (show cell / 19 % 2=0∨cell / 19 % 2=1 by omega) with z | z
   ·rw[z];exact⟨1,rfl,.inl rfl⟩
   ·rw[z];exact⟨-1,rfl,.inr rfl⟩
  obtain⟨u,hu⟩:∃ u,u=cs.getD i 0*t:=⟨_,rfl⟩;have tb:-(10^9)<=u/\u<=10^9:=by rw[hu];rcases ht with rfl | rfl<;>omega
  have zx:=(a.1).szA hB hb (c:=10^9+6) a.2.1 a.2.2 (a:=34) ∅
  have zt:Sz 40 (u:Rat):=⟨by show u.natAbs<2^40;omega,by show 1<2^40;decide⟩
  have pp:=gK zx zt ∅
  have e:(zGs (aN bF (aB (eOp oIx (aE 3) (aE 5)) (aB (jU (aB (eOp mG (eOp oIx (aE 2) (aE 5)) (eOp oIx (eF (mH (aB (eC (.int 1)) (aB (eOp vU (eC (.int 0)) (eC (.int 1))) aNil)))) (eOp iY (eOp kT (aE 1) (eC (.int 19))) (eC (.int 2))))) (aB (eC (.int 1)) aNil))) aNil)))) (RA d cell cs xs way i j s)=.ok (dq (xs.getD i 0+(u:Rat))):=by
   erw[ix,ic,show oIx (.lst [.int 1,.int (-1)]) (.int (cell / 19 % 2))=.ok (.int t) from et];symm;rw[oMul_i (bO (m:=40) (n:=2) ⋯ ⋯ ∅),<-hu];erw[show bF [dq (xs.getD i 0),.tup [.int u,.int 1]]=.ok (.v (dq (xs.getD i 0+(u:Rat)))) from pp];symm
  have p:=zKS (i:=3) (j:=i) (k:=aE 5) (xs:=xs) e rfl rfl (by rw[h.len];exact hi)
  have r1:-(((10^9:Int)):Rat)<=(u:Rat):=by rw[<-Rat.intCast_neg];exact Vj.mpr tb.1
  have r2:(u:Rat)<=((10^9:Int):Rat):=Vj.mpr tb.2;have k1:(((10^9+6:Int)):Rat)+((10^9:Int):Rat)<=((2^36:Int):Rat):=by rw[<-Q6];exact Vj.mpr ∅
  refine⟨xs.set i (xs.getD i 0+(u:Rat)),?_,(h.up ∅).set (a.1.add (Dn.int B _)) (by have:=a.2.1;grind) (by have:=a.2.2;grind)⟩
  unfold eP;generalize hK:zGE 3 (aE 5) (zGs (aN bF (aB (eOp oIx (aE 3) (aE 5)) (aB (jU (aB (eOp mG (eOp oIx (aE 2) (aE 5)) (eOp oIx (eF (mH (aB (eC (.int 1)) (aB (eOp vU (eC (.int 0)) (eC (.int 1))) aNil)))) (eOp iY (eOp kT (aE 1) (eC (.int 19))) (eC (.int 2))))) (aB (eC (.int 1)) aNil))) aNil))))=F at p;erw[J5 w,p];symm
 ·refine⟨xs,?_,h.up ∅⟩
  erw[Ji w];symm
def zRj{d:D}{cell way:Int}{cs:List Int}{xs:List Rat}{i j:Nat}{s:Rat}{B:Int}(hB:0<B)(hb:B<2^260)(h:Aw B (10^9+6) cs.length xs)(hi:i<cs.length)(hc:∀ c∈cs,0<=c/\c<=10^9)(q:Rat)(eq:dX [.int (cs.getD i 0),.int (cell / 17)]=.ok (.v (dq q)))(q0:0<=q)(q1:q<=(cs.getD i 0:Rat))(dq':Dn B q):
  ∃ ys,(dJ (RA d cell cs xs way i j s)).bind fin=.ok (.f (ys.map dq))/\Aw B (2^36) cs.length ys:=by
 have c:=hc _ (Qf (aZ hi));have ic:oIx (.lst (cs.map D.int)) (.int (i:Int))=.ok (.int (cs.getD i 0)):=nH (Q2 i) (aZ hi);by_cases w:way=6
 ·have e:(aN dX (aB (eOp oIx (aE 2) (aE 5)) (aB (eOp kT (aE 1) (eC (.int 17))) aNil))) (RA d cell cs xs way i j s)=.ok (dq q):=by
   erw[ic,eq];symm
  have p:=zKS (i:=3) (j:=i) (k:=aE 5) (xs:=xs) e rfl rfl (by rw[h.len];exact hi)
  have k1:((cs.getD i 0:Int):Rat)<=((10^9+6:Int):Rat):=Vj.mpr ⋯
  have h':=h.set (i:=i) dq' (by have:((0:Int):Rat)<=((10^9+6:Int):Rat):=Vj.mpr ∅;have z0:((0:Int):Rat)=0:=rfl;grind) (by grind)
  obtain⟨ys,ey,hy⟩:=zPZ (d:=d) (cell:=cell) (way:=way) (j:=j) (s:=s) hB hb h' hi hc;refine⟨ys,?_,hy⟩
  rw[<-ey];unfold dJ;generalize hK:zGE 3 (aE 5) (aN dX (aB (eOp oIx (aE 2) (aE 5)) (aB (eOp kT (aE 1) (eC (.int 17))) aNil)))=F at p;generalize hL:(eP:Sv)=L;erw[J5 w,p];symm
 ·obtain⟨ys,ey,hy⟩:=zPZ (d:=d) (cell:=cell) (way:=way) (j:=j) (s:=s) hB hb h hi hc
  refine⟨ys,?_,hy⟩
  rw[<-ey];unfold dJ;generalize hL:(eP:Sv)=L;erw[Ji w];symm
def zTm{d:D}{cell way:Int}{cs:List Int}{xs:List Rat}{i j:Nat}{s:Rat}{B:Int}(hB:0<B)(hb:B<2^260)(h:Aw B (10^9) cs.length xs)(hi:i<cs.length)(hj:j<cs.length)(hc:∀ c∈cs,0<=c/\c<=10^9)(s0:0<=s)(s1:s<=3)(zs:Sz 5 s)(ds:Dn B s)(q:Rat)(eq:dX [.int (cs.getD i 0),.int (cell / 17)]=.ok (.v (dq q)))(q0:0<=q)(q1:q<=(cs.getD i 0:Rat))(dq':Dn B q):
  ∃ ys,(eZ (RA d cell cs xs way i j s)).bind fin=.ok (.f (ys.map dq))/\Aw B (2^36) cs.length ys:=by
 have e3:((3:Int):Rat)=3:=rfl;have ka:((10^9:Int):Rat)+3=((10^9+3:Int):Rat):=by rw[Q6,e3]
 have kb:((10^9+3:Int):Rat)+3=((10^9+6:Int):Rat):=by rw[<-e3,<-Q6];rfl
 by_cases w:3<way
 ·have li:i<xs.length:=by rw[h.len];exact hi
  have a:=h.at hi;have zx:=(a.1).szA hB hb (c:=10^9) a.2.1 a.2.2 (a:=34) ∅
  have pp:=gK zx zs ∅
  have ix:=zFt li
  have e:(zGs (aN bF (aB (eOp oIx (aE 3) (aE 5)) (aB (aE 7) aNil)))) (RA d cell cs xs way i j s)=.ok (dq (xs.getD i 0+s)):=by
   erw[ix,pp];symm
  have p:=zKS (i:=3) (j:=i) (k:=aE 5) (xs:=xs) e rfl rfl li;have h1:Aw B (10^9+3) cs.length (xs.set i (xs.getD i 0+s)):=(h.up ∅).set (a.1.add ds) (by have:=a.2.1;grind) (by have:=a.2.2;grind)
  generalize xs.set i (xs.getD i 0+s)=ys at p h1;have lj:j<ys.length:=by rw[h1.len];exact hj
  have b:=h1.at hj;have zy:=(b.1).szA hB hb (c:=10^9+3) b.2.1 b.2.2 (a:=34) ∅
  have zn:Sz 5 (-s):=⟨by show(-s.num).natAbs<2^5;rw[Uj];exact zs.1,zs.2⟩
  have pq:=gK zy zn ∅
  have iy:=zFt lj
  have e2:(zGs (aN bF (aB (eOp oIx (aE 3) (aE 6)) (aB (jU (aB (eOp vU (eC (.int 0)) (eOp oIx (aE 7) (eC (.int 0)))) (aB (eOp oIx (aE 7) (eC (.int 1))) aNil))) aNil)))) (RA d cell cs ys way i j s)=.ok (dq (ys.getD j 0+-s)):=by
   erw[iy];symm;rw[zJB,pq];symm
  have p2:=zKS (i:=3) (j:=j) (k:=aE 6) (xs:=ys) e2 rfl rfl lj
  have dn:Dn B (-s):=by
   have:=(Dn.zero B).sub ds
   rwa [show(0:Rat)-s=-s by grind] at this
  have h2:Aw B (10^9+6) cs.length (ys.set j (ys.getD j 0+-s)):=(h1.up ∅).set (b.1.add dn) (by have:=b.2.1;grind) (by have:=b.2.2;grind)
  obtain⟨zs',ez,hz⟩:=zRj (d:=d) (cell:=cell) (way:=way) (j:=j) (s:=s) hB hb h2 hi hc q eq q0 q1 dq';refine⟨zs',?_,hz⟩
  rw[<-ez];unfold eZ nK;generalize hF:zGE 3 (aE 5) (zGs (aN bF (aB (eOp oIx (aE 3) (aE 5)) (aB (aE 7) aNil))))=F at p;generalize hE:zGE 3 (aE 6) (zGs (aN bF (aB (eOp oIx (aE 3) (aE 6)) (aB (jU (aB (eOp vU (eC (.int 0)) (eOp oIx (aE 7) (eC (.int 0)))) (aB (eOp oIx (aE 7) (eC (.int 1))) aNil))) aNil))))=E at p2;generalize hL:(dJ:Sv)=L;erw[J5 w,p,show E [.val d,.val (.int cell),.val (.lst (cs.map D.int)),.own (ys.map dq),.val (.int way),.val (.int (i:Int)),.val (.int (j:Int)),.val (dq s)]=_ from p2];symm
 ·obtain⟨zs',ez,hz⟩:=zRj (d:=d) (cell:=cell) (way:=way) (j:=j) (s:=s) hB hb (h.up ∅) hi hc q eq q0 q1 dq'
  refine⟨zs',?_,hz⟩
  rw[<-ez];unfold eZ;generalize hL:(dJ:Sv)=L;erw[Ji w];symm
def zHD{d:D}(g:Gc 8 d)(hkn:kn 8 d<=6)(cell:Int):∃ xs:List Rat,gO [d,.int cell]=.ok (.f (xs.map dq))/\Am 260 xs/\xs.length=(clm 8 d).length:=by
 have gs:=g.sum;have l12:=g.2.1;have one:=zFi g.1;have hc:=g.2.2;have lc:=iO 10 d (fP g.1 ∅) (by rw[dR g.1 ∅];omega)
 rw[dR g.1 (show 8<=10 by decide)] at lc;unfold gO oC oQ nU pA nS oF;generalize hL:(eZ:Sv)=L;erw[oPow_i ∅];symm;generalize cell % 10^45=c;rw[lc];symm;obtain⟨q,eq,q0,q1,b,b1,b2,db⟩:=wM (S:=(clm 8 d).sum) (c:=c / 8) gs.1 gs.2;rw[eq];symm;have qd:(q.den:Int)<=2^20:=Xo (db.le ⋯) ⋯
 obtain⟨xs,ex,sx⟩:=zBw (m:=21) g ∅ q0 q1 (Wo qd ∅) ∅
 have am:=zLw g hkn sx q0 q1 qd;obtain⟨bd,_⟩:=zLV g sx q0 q1;have ln:=zCi sx;rw[ex];symm;have L0:((clm 8 d).length:Int)≠0:=⋯
 have Lp:0<((clm 8 d).length:Int):=⋯
 rw[oMod_i L0,fmod_pos _ Lp];symm;rw[oMod_i L0,fmod_pos _ Lp];symm;have i0:=Qv (c / 56) L0;have i1:=Q5 (c / 56) Lp;have j0:=Qv (c / 336) L0;have j1:=Q5 (c / 336) Lp;obtain⟨i,ei⟩:=Y6 i0;obtain⟨j,ej⟩:=Y6 j0;rw[ei] at i1 ⊢
 rw[ej] at j1 ⊢
 have t0:=Qv (c / 11) (show(3:Int)≠0 by decide)
 have t1:=Q5 (c / 11) (show(0:Int)<3 by decide)
 have u0:=Qv (c / 13) (show(5:Int)≠0 by decide)
 have u1:=Q5 (c / 13) (show(0:Int)<5 by decide)
 generalize ht:1+c / 11 % 3=t;generalize hu:1+c / 13 % 5=u;rw[hU (n:=4) ⋯ ⋯ ∅];symm;have du:Rat.divInt t u*(u:Rat)=(t:Rat):=dvm t ⋯
 have up:(0:Rat)<(u:Rat):=by exact_mod_cast (show 0<u by omega)
 have s0:0<=Rat.divInt t u:=Qr.mp fun z=>by
  have:=X6 up |>.mpr z
  rw[du,Wp] at this;have:(0:Rat)<=(t:Rat):=by exact_mod_cast (show 0<=t by omega)
  grind
 have s1:Rat.divInt t u<=3:=Qr.mp fun z=>by
  have:=X6 up |>.mpr z
  rw[du] at this;have e1:(t:Rat)<=3:=by exact_mod_cast (show t<=3 by omega)
  have e2:(1:Rat)<=(u:Rat):=by exact_mod_cast (show 1<=u by omega)
  grind
 have dsu:Dn u (Rat.divInt t u):=⟨t,du⟩
 have zs:Sz 5 (Rat.divInt t u):=by
  have:=dsu.sz ⋯ (a:=2) (b:=3) ⋯ s0 (c:=3) s1 ∅
  exact this
 obtain⟨q',eq',q0',q1',b',b1',b2',db'⟩:=wM (S:=(clm 8 d).getD i 0) (c:=c / 17) (hc _ (Qf (aZ (show i<(clm 8 d).length by omega)))).1 (by have:=(hc _ (Qf (aZ (show i<(clm 8 d).length by omega)))).2;omega)
 obtain⟨B,B0,B1,B2⟩:=am.dn
 have aw:Aw (B*(u*b')) (10^9) (clm 8 d).length xs:=⟨ln,fun x hx=>by
  obtain⟨y,hy,w⟩:=bd.mem hx;have:=hc y hy
  have k1:((y:Int):Rat)<=((10^9:Int):Rat):=Vj.mpr this.2;have k2:((0:Int):Rat)<=((10^9:Int):Rat):=Vj.mpr ∅
  have z0:((0:Int):Rat)=0:=rfl
  exact⟨(B2 x hx).mul _,by have:=w.1;grind,by have:=w.2;grind⟩⟩
 have ub:0<u*b':=Vm ⋯ ⋯
 have ub2:u*b' < 2^10:=by
  have:=Int.mul_le_mul (show u<=5 by omega) b2' ⋯ ⋯
  omega
 have BB:B*(u*b')<2^260:=by
  have:=Int.mul_lt_mul B1 (Xl ub2) ub ∅
  exact Int.lt_trans this ∅
 obtain⟨ys,ey,hy⟩:=zTm (d:=d) (cell:=c) (way:=c % 8) (j:=j) (s:=Rat.divInt t u) (Vm B0 ub) BB aw (show i<_ by omega) (show j<_ by omega) hc s0 s1 zs (by rw[X3 u b',<-Xs,X3];exact dsu.mul _) q' eq' q0' q1' (by rw[<-Xs,X3];exact db'.mul _)
 rw[hL] at ey;refine⟨ys,ey,⟨by rw[hy.len];exact l12,⟨_,Vm B0 ub,BB,fun x hx=>(hy.all x hx).1⟩,fun x hx=>(hy.all x hx).2⟩,hy.len⟩
def zBM{x w:Rat}(hw:0<w):∃ t:Rat,w*t=x:=⟨x / w,by rw[Rat.mul_comm,Xf (Ul hw)]⟩
def lT{a b w:Rat}(hw:0<w)(h:a*w=b*w):a=b:=mO (Ul hw) h
def LV(x y a b l l':Rat):Prop:=(x<a->(y=l∨y=b/\y<l))/\(¬ x<a->y<b->¬ l' < a)
def zPA{x y a b w0 w1 l l':Rat}(h0:0<w0)(h1:0<w1)(x0:0<=x)(xa:x<=a)(y0:0<=y)(yb:y<=b)(hl:l*w0=x*w1)(hl':l' * w1=y*w0):LV x y a b l l' ↔ ∃ t,x=mn (w0*t) a/\y=mn (w1*t) b:=by
 constructor
 ·rintro⟨p,q⟩
  by_cases c:x<a
  ·obtain⟨t,ht⟩:=zBM (x:=x) h0
   have e:w1*t=l:=lT h0 (by rw[hl,<-ht];grind)
   refine⟨t,?_,?_⟩
   ·unfold mn;rw[ht,Jj c]
   ·unfold mn;rw[e]
    rcases p c with z | ⟨z,z'⟩
    ·by_cases k:l<b
     ·rw[Jj k];exact z
     ·rw[Jk k];grind
    ·rw[Jk (by grind)];exact z
  ·by_cases c2:y<b
   ·have q2:=q c c2
    obtain⟨t,ht⟩:=zBM (x:=y) h1;have e:w0*t=l':=lT h1 (by rw[hl',<-ht];grind)
    refine⟨t,?_,?_⟩
    ·unfold mn;rw[e,Jk q2];grind
    ·unfold mn;rw[ht,Jj c2]
   ·obtain⟨s,hs⟩:=zBM (x:=a) h0
    obtain⟨u,hu⟩:=zBM (x:=b) h1
    have s0:0<=s:=Qr.mp fun z=>by
     have:=Qac h0 |>.mpr z
     rw[hs,Rat.mul_zero] at this;grind
    have u0:0<=u:=Qr.mp fun z=>by
     have:=Qac h1 |>.mpr z
     rw[hu,Rat.mul_zero] at this;grind
    have k1:=Ud (Vu h0) u0;have k2:=Ud (Vu h1) s0;refine⟨s+u,?_,?_⟩
    ·unfold mn;rw[Rat.mul_add,hs,Jk (by grind)];grind
    ·unfold mn;rw[Rat.mul_add,hu,Jk (by grind)];grind
 ·rintro⟨t,ex,ey⟩
  refine⟨fun c=>?_,fun c c2=>?_⟩
  ·have e1:x=w0*t:=by unfold mn at ex;grind
   have e:l=w1*t:=lT h0 (by rw[hl,e1];grind)
   unfold mn at ey;rw[<-e] at ey;by_cases k:l<b
   ·rw[Jj k] at ey;exact .inl ey
   ·rw[Jk k] at ey
    by_cases k2:y=l
    ·exact .inl k2
    ·exact .inr ⟨ey,by grind⟩
  ·have e1:y=w1*t:=by unfold mn at ey;grind
   have e:l'=w0*t:=lT h1 (by rw[hl',e1];grind)
   rw[e];unfold mn at ex;grind
def PW(v:Wy)(w0 w1:Rat)(a b x y:Rat):Prop:=match v with
 | .row=>x=a∨y=0
 | .back=>y=b∨x=0
 | .part=>x*b=y*a
 | .even=>∃ t,x=mn (w0*t) a/\y=mn (w1*t) b
 | .lack=>∃ t,a-x=mn (w0*t) a/\b-y=mn (w1*t) b
 | .half=>(x+y+(x+y)<=a+b/\∃ t,x+x=mn (1*t) a/\y+y=mn (1*t) b)∨(¬ x+y+(x+y)<=a+b/\∃ t,a-x+(a-x)=mn (1*t) a/\b-y+(b-y)=mn (1*t) b)
def zKK(a b:Int):ones [a,b]=[1,1]:=rfl
def zRw(a b:Int):((([a,b]:List Int).sum:Int):Rat)=(a:Rat)+(b:Rat):=zET a b
def zSj{v:Wy}{w:List Int}{w0 w1 a b:Int}{x y:Rat}(hw:w=[]∨w=[w0,w1])(due:v.due w [a,b])(hc:Cl [a,b])(q0:0<=x+y)(q1:x+y<=(a:Rat)+(b:Rat)){M:Nat}{f:Nat->Rat}(al:Al M w [a,b] (x+y) f v)(f0:f 0=x)(f1:f 1=y):(0<=x/\x<=(a:Rat))/\(0<=y/\y<=(b:Rat))/\PW v (w0:Rat) (w1:Rat) a b x y:=by
 have z0:(0:Nat) < [a,b].length:=Ug _;have z1:(1:Nat) < [a,b].length:=Xp _;have sm:=zRw a b;obtain⟨bd,_⟩:=zLY due hc q0 (by rw[sm];exact q1) al
 have b0:=bd 0 z0;have b1:=bd 1 z1;rw[f0] at b0;rw[f1] at b1;have c0:cR [a,b] 0=(a:Rat):=rfl;have c1:cR [a,b] 1=(b:Rat):=rfl;rw[c0] at b0;rw[c1] at b1;refine⟨b0,b1,?_⟩
 have ww:Wt w [a,b]->w=[w0,w1]:=fun h=>by
  rcases hw with e | e
  ·have:=h.len;rw[e] at this;cases this
  ·exact e
 cases v with
 | row=>
  have k:=wB (cs:=[a,b]) (q:=x+y) hc.nn (i:=0) (j:=1) ∅ z1
  rw[<-al 0 z0,<-al 1 z1,f0,f1,c0] at k;exact k.symm.imp id id
 | back=>
  have k:=wB (cs:=[a,b]) (q:=(([a,b]:List Int).sum:Rat)-(x+y)) hc.nn (i:=0) (j:=1) ∅ z1
  have a0:=al 0 z0;have a1:=al 1 z1;rw[f0,c0] at a0;rw[f1,c1] at a1;rw[c0] at k;rcases k with k | k
  ·exact .inl (by rw[k] at a1;grind)
  ·exact .inr (by rw[k] at a0;grind)
 | part=>
  have a0:=al 0 z0;have a1:=al 1 z1;have P0:=fS (q:=x+y) hc z0;have P1:=fS (q:=x+y) hc z1;rw[<-a0,f0,sm,c0] at P0;rw[<-a1,f1,sm,c1] at P1;show x*(b:Rat)=y*(a:Rat)
  by_cases z:(a:Rat)+(b:Rat)=0
  ·have:(a:Rat)=0:=by grind
   have:(b:Rat)=0:=by grind
   grind
  ·refine mO (s:=(a:Rat)+(b:Rat)) z ?_
   have p0:=P0.1;have p1:=P1.1;grind
 | even=>
  have e:=ww due;subst e;obtain⟨t,_,h⟩:=al;exact⟨t,by rw[<-f0,h 0 z0];rfl,by rw[<-f1,h 1 z1];rfl⟩
 | lack=>
  have e:=ww due;subst e;obtain⟨t,_,h⟩:=al;refine⟨t,?_,?_⟩
  ·have:=h 0 z0
   rw[f0,c0] at this;rw[this];show(a:Rat)-((a:Rat)-mn ((w0:Rat)*t) (a:Rat))=_
   grind
  ·have:=h 1 z1
   rw[f1,c1] at this;rw[this];show(b:Rat)-((b:Rat)-mn ((w1:Rat)*t) (b:Rat))=_
   grind
 | half=>
  obtain⟨t,⟨hq,_,h⟩ | ⟨hq,_,h⟩⟩:=al
  ·rw[sm] at hq
   refine .inl ⟨hq,t,?_,?_⟩
   ·rw[<-f0,h 0 z0,rW];rfl
   ·rw[<-f1,h 1 z1,rW];rfl
  ·rw[sm] at hq
   refine .inr ⟨Q3.mpr hq,t,?_,?_⟩
   ·have e:=h 0 z0
    have d:=rW (dY (cR [a,b]) (cR (ones [a,b])) t 0);rw[f0,c0] at e;have:(a:Rat)-x+((a:Rat)-x)=dY (cR [a,b]) (cR (ones [a,b])) t 0:=by grind
    rw[this];rfl
   ·have e:=h 1 z1
    have d:=rW (dY (cR [a,b]) (cR (ones [a,b])) t 1);rw[f1,c1] at e;have:(b:Rat)-y+((b:Rat)-y)=dY (cR [a,b]) (cR (ones [a,b])) t 1:=by grind
    rw[this];rfl
def zFy{M:Nat}{w0 w1 a b:Int}{x y t t':Rat}(h0:0<w0)(h1:0<w1)(ex:x=mn ((w0:Rat)*t) (a:Rat))(ey:y=mn ((w1:Rat)*t) (b:Rat))(h:Lvl M [w0,w1] [a,b] (x+y) t'):dY (cR [a,b]) (cR [w0,w1]) t' 0=x/\dY (cR [a,b]) (cR [w0,w1]) t' 1=y:=by
 have k0:(0:Rat)<cR [w0,w1] 0:=by show(0:Rat)<((w0:Int):Rat);exact_mod_cast h0
 have k1:(0:Rat)<cR [w0,w1] 1:=by show(0:Rat)<((w1:Int):Rat);exact_mod_cast h1
 have:=sY (ws:=[w0,w1]) (cs:=[a,b]) (i:=0) (j:=1) (t:=t) (t':=t') (M:=M) k0 k1 (by
  have e0:dY (cR [a,b]) (cR [w0,w1]) t 0=x:=ex.symm;have e1:dY (cR [a,b]) (cR [w0,w1]) t 1=y:=ey.symm
  rw[e0,e1];exact h)
 exact⟨this.1.trans ex.symm,this.2.trans ey.symm⟩
def zSh{v:Wy}{w:List Int}{w0 w1 a b:Int}{x y:Rat}(hw:w=[]∨w=[w0,w1])(h0:0<w0)(h1:0<w1)(due:v.due w [a,b])(hc:Cl [a,b])(bx:0<=x/\x<=(a:Rat))(by':0<=y/\y<=(b:Rat))(pw:PW v (w0:Rat) (w1:Rat) a b x y){M:Nat}{g:Nat->Rat}(al:Al M w [a,b] (x+y) g v):g 0=x/\g 1=y:=by
 have z0:(0:Nat) < [a,b].length:=Ug _;have z1:(1:Nat) < [a,b].length:=Xp _;have sm:=zRw a b;have c0:cR [a,b] 0=(a:Rat):=rfl;have c1:cR [a,b] 1=(b:Rat):=rfl
 have ww:Wt w [a,b]->w=[w0,w1]:=fun h=>by
  rcases hw with e | e
  ·have:=h.len;rw[e] at this;cases this
  ·exact e
 cases v with
 | row=>
  rw[al 0 z0,al 1 z1];exact zBr bx.1 bx.2 by'.1 by'.2 pw.symm
 | back=>
  have a0:=al 0 z0;have a1:=al 1 z1;rw[sm,c0] at a0;rw[sm,c1] at a1
  have key:=zBr (a:=a) (b:=b) (x:=(a:Rat)-x) (y:=(b:Rat)-y) (by grind) (by grind) (by grind) (by grind) (by
   rcases pw with p | p
   ·exact .inl (by grind)
   ·exact .inr (by grind))
  rw[show(a:Rat)+(b:Rat)-(x+y)=(a:Rat)-x+((b:Rat)-y) by grind] at a0 a1;rw[key.1] at a0;rw[key.2] at a1;exact⟨by rw[a0];grind,by rw[a1];grind⟩
 | part=>
  have a0:=al 0 z0;have a1:=al 1 z1;have P0:=fS (q:=x+y) hc z0;have P1:=fS (q:=x+y) hc z1;rw[<-a0,sm,c0] at P0;rw[<-a1,sm,c1] at P1;have pw':x*(b:Rat)=y*(a:Rat):=pw;by_cases z:(a:Rat)+(b:Rat)=0
  ·have za:(a:Rat)=0:=by grind
   have zb:(b:Rat)=0:=by grind
   have zi:[a,b].sum=0:=by
    have:(([a,b].sum:Int):Rat)=((0:Int):Rat):=by rw[sm,z];rfl
    exact_mod_cast this
   have q0:=P0.2 zi;have q1:=P1.2 zi;exact⟨by grind,by grind⟩
  ·exact⟨mO (s:=(a:Rat)+(b:Rat)) z (by rw[P0.1];grind),mO (s:=(a:Rat)+(b:Rat)) z (by rw[P1.1];grind)⟩
 | even=>
  have e:=ww due;subst e;obtain⟨t,ex,ey⟩:=pw;obtain⟨t',tl,h⟩:=al;obtain⟨r0,r1⟩:=zFy h0 h1 ex ey tl;exact⟨by rw[h 0 z0,r0],by rw[h 1 z1,r1]⟩
 | lack=>
  have e:=ww due;subst e;obtain⟨t,ex,ey⟩:=pw;obtain⟨t',tl,h⟩:=al;rw[sm,show(a:Rat)+(b:Rat)-(x+y)=(a:Rat)-x+((b:Rat)-y) by grind] at tl;obtain⟨r0,r1⟩:=zFy h0 h1 ex ey tl;exact⟨by rw[h 0 z0,r0,c0];grind,by rw[h 1 z1,r1,c1];grind⟩
 | half=>
  obtain⟨t',⟨hq,tl,h⟩ | ⟨hq,tl,h⟩⟩:=al
  ·rw[sm] at hq
   rcases pw with⟨_,t,ex,ey⟩ | ⟨n,_⟩
   ·rw[show x+y+(x+y)=x+x+(y+y) by grind,zKK] at tl
    obtain⟨r0,r1⟩:=zFy (w0:=1) (w1:=1) ∅ ∅ ex ey tl
    have d0:=rW (dY (cR [a,b]) (cR [1,1]) t' 0);have d1:=rW (dY (cR [a,b]) (cR [1,1]) t' 1);rw[zKK] at h;exact⟨by rw[h 0 z0];grind,by rw[h 1 z1];grind⟩
   ·exact absurd hq n
  ·rw[sm] at hq
   rcases pw with⟨n,_⟩ | ⟨_,t,ex,ey⟩
   ·exact absurd n (Q3.mpr hq)
   ·rw[sm,show(a:Rat)+(b:Rat)-(x+y)+((a:Rat)+(b:Rat)-(x+y))=(a:Rat)-x+((a:Rat)-x)+((b:Rat)-y+((b:Rat)-y)) by grind,zKK] at tl
    obtain⟨r0,r1⟩:=zFy (w0:=1) (w1:=1) ∅ ∅ ex ey tl
    have d0:=rW (dY (cR [a,b]) (cR [1,1]) t' 0);have d1:=rW (dY (cR [a,b]) (cR [1,1]) t' 1);rw[zKK] at h;exact⟨by rw[h 0 z0,c0];grind,by rw[h 1 z1,c1];grind⟩
def ix2(a b:D):oIx (.lst [a,b]) (.int 0)=.ok a/\oIx (.lst [a,b]) (.int 1)=.ok b:=⟨rfl,rfl⟩
def tE{x y:Rat}{a b w0 w1:Int}{wd:D}{m:Nat}(hwd:Sq wd [w0,w1])(zx:Sz m x)(zy:Sz m y)(hm:m<=2000)(za:a.natAbs<2^40)(zb:b.natAbs<2^40)(h0:1<=w0/\w0<=10^6)(h1:1<=w1/\w1<=10^6)(x0:0<=x)(xa:x<=(a:Rat))(y0:0<=y)(yb:y<=(b:Rat)):
  ∃ r:Bool,bX [dq x,dq y,.lst [.int a,.int b],wd]=.ok (.v (.bl r))/\(r=true ↔ ∃ t,x=mn ((w0:Rat)*t) (a:Rat)/\y=mn ((w1:Rat)*t) (b:Rat)):=by
 have za':Sz 40 (a:Rat):=⟨za,by show 1<2^40;decide⟩
 have zb':Sz 40 (b:Rat):=⟨zb,by show 1<2^40;decide⟩
 have p0:(0:Rat)<(w0:Rat):=by exact_mod_cast (show 0<w0 by omega)
 have p1:(0:Rat)<(w1:Rat):=by exact_mod_cast (show 0<w1 by omega)
 have dx:=dA x;have dy:=dA y;have iw0:oIx wd (.int 0)=.ok (.int w0):=hwd.ix (i:=0) (by show 0<2;decide)
 have iw1:oIx wd (.int 1)=.ok (.int w1):=hwd.ix (i:=1) (by show 1<2;decide)
 have hl:Rat.divInt (x.num*w1) (x.den*w0)*(w0:Rat)=x*(w1:Rat):=by
  have e:=dvm (x.num*w1) (b:=x.den*w0) (Vm dx ⋯)
  rw[Qu,Qu,uM] at e;have pd:(0:Rat)<((x.den:Int):Rat):=by exact_mod_cast dx
  exact lT pd (by grind)
 have hl':Rat.divInt (y.num*w0) (y.den*w1)*(w1:Rat)=y*(w0:Rat):=by
  have e:=dvm (y.num*w0) (b:=y.den*w1) (Vm dy ⋯)
  rw[Qu,Qu,uM] at e;have pd:(0:Rat)<((y.den:Int):Rat):=by exact_mod_cast dy
  exact lT pd (by grind)
 have fl:bS [.int (x.num*w1),.int (x.den*w0)]=.ok (.v (dq (Rat.divInt (x.num*w1) (x.den*w0)))):=hU (n:=m+20) (Vm dx ⋯) (by rw[Yf,Yg];exact Yh zx.d ⋯) ⋯
 have fl':bS [.int (y.num*w0),.int (y.den*w1)]=.ok (.v (dq (Rat.divInt (y.num*w0) (y.den*w1)))):=hU (n:=m+20) (Vm dy ⋯) (by rw[Yf,Yg];exact Yh zy.d ⋯) ⋯
 have key:=zPA p0 p1 x0 xa y0 yb hl hl'
 have zq:∀ u w:Int,1<=u/\u<=10^6->1<=w/\w<=10^6->Sz 40 (Rat.divInt u w):=fun u w hu hw=>by
  have e:=dvm u (b:=w) ⋯
  have pw:(0:Rat)<(w:Rat):=by exact_mod_cast (show 0<w by omega)
  have l0:0<=Rat.divInt u w:=Qr.mp fun z=>by
   have:=X6 pw |>.mpr z
   rw[e,Wp] at this;have:(0:Rat)<=(u:Rat):=by exact_mod_cast (show 0<=u by omega)
   grind
  have l1:Rat.divInt u w<=((10^6:Int):Rat):=Qr.mp fun z=>by
   have:=X6 pw |>.mpr z
   rw[e,<-Qu] at this;have:=Qab.mp this
   have:=Qaa (show 1<=w by omega) (show(0:Int)<=10^6 by decide)
   omega
  exact(show Dn w (Rat.divInt u w) from ⟨u,e⟩).sz ⋯ (a:=20) (b:=20) ⋯ l0 l1 ∅
 have zl:Sz (m+40) (Rat.divInt (x.num*w1) (x.den*w0)):=by
  rw[show Rat.divInt (x.num*w1) (x.den*w0)=x*Rat.divInt w1 w0 from lT p0 (by rw[hl,Rat.mul_assoc,dvm w1 ⋯])];exact zx.mul (zq w1 w0 h1 h0)
 have zl':Sz (m+40) (Rat.divInt (y.num*w0) (y.den*w1)):=by
  rw[show Rat.divInt (y.num*w0) (y.den*w1)=y*Rat.divInt w0 w1 from lT p1 (by rw[hl',Rat.mul_assoc,dvm w0 ⋯])];exact zy.mul (zq w0 w1 h0 h1)
 generalize Rat.divInt (x.num*w1) (x.den*w0)=l at *;generalize Rat.divInt (y.num*w0) (y.den*w1)=l' at *;have m1:iP x.num w1=true:=bO (m:=m) (n:=20) zx.1 ⋯ ⋯
 have m2:iP (x.den:Int) w0=true:=bO (m:=m) (n:=20) zx.d ⋯ ⋯
 have m3:iP y.num w0=true:=bO (m:=m) (n:=20) zy.1 ⋯ ⋯
 have m4:iP (y.den:Int) w1=true:=bO (m:=m) (n:=20) zy.d ⋯ ⋯
 have la:=gM zx za' ⋯
 have lb:=gM zy zb' ⋯
 have ll:=gM zy zl ⋯
 have ll':=gM zl' za' ⋯
 have I:=ix2 (.int a) (.int b);rw[<-key];unfold LV;have eqb:oEq (dq y) (.tup [.int b,.int 1])=.ok (.bl (decide (y=(b:Rat)))):=oEq_dq y (b:Rat);have la':bV [dq x,.tup [.int a,.int 1]]=.ok (.v (.bl (decide (x<(a:Rat))))):=la;have lb':bV [dq y,.tup [.int b,.int 1]]=.ok (.v (.bl (decide (y<(b:Rat))))):=lb;have ll'':bV [dq l',.tup [.int a,.int 1]]=.ok (.v (.bl (decide (l' < (a:Rat))))):=ll';by_cases c:x<(a:Rat)
 ·have head:∀ z,((jH [.val (dq x),.val (dq y),.val (.lst [.int a,.int b]),.val wd,.val (dq l)]).bind (yQ fQ)).bind fin=z->bX [dq x,dq y,.lst [.int a,.int b],wd]=z:=fun z h=>by
   rw[<-h];unfold bX;generalize hK:(jH:Sv)=K;erw[I.1];symm;rw[la',J5 c];erw[iw1,oMul_i m1,iw0,oMul_i m2,fl];symm
  by_cases e1:y=l
  ·refine⟨true,head _ ?_,⟨fun _=>⟨fun _=>.inl e1,fun n=>absurd c n⟩,fun _=>rfl⟩⟩
   erw[J5 e1];symm
  ·by_cases e2:y=(b:Rat)
   ·by_cases e3:y<l
    ·refine⟨true,head _ ?_,⟨fun _=>⟨fun _=>.inr ⟨e2,e3⟩,fun n=>absurd c n⟩,fun _=>rfl⟩⟩
     erw[Ji e1,I.2];symm;rw[eqb,J5 e2];symm;rw[ll,J5 e3];symm
    ·refine⟨false,head _ ?_,⟨fun z=>(by cases z),fun z=>absurd (z.1 c) (fun q=>by rcases q with q | q;exact e1 q;exact e3 q.2)⟩⟩
     erw[Ji e1,I.2];symm;rw[eqb,J5 e2];symm;rw[ll,Ji e3];symm
   ·refine⟨false,head _ ?_,⟨fun z=>(by cases z),fun z=>absurd (z.1 c) (fun q=>by rcases q with q | q;exact e1 q;exact e2 q.1)⟩⟩
    erw[Ji e1,I.2];symm;rw[eqb,Ji e2];symm
 ·have head:∀ z,(fQ [.val (dq x),.val (dq y),.val (.lst [.int a,.int b]),.val wd,.un]).bind fin=z->bX [dq x,dq y,.lst [.int a,.int b],wd]=z:=fun z h=>by
   rw[<-h];unfold bX;generalize hK:(fQ:Sv)=K;erw[I.1];symm;rw[la',Ji c];symm
  by_cases e2:y<(b:Rat)
  ·by_cases e3:l' < (a:Rat)
   ·refine⟨false,head _ ?_,⟨fun z=>(by cases z),fun z=>absurd e3 (z.2 c e2)⟩⟩
    erw[I.2];symm;rw[lb',J5 e2];erw[iw0,oMul_i m3,iw1,oMul_i m4,fl',I.1];symm;rw[ll'',J5 e3];symm
   ·refine⟨true,head _ ?_,⟨fun _=>⟨fun z=>absurd z c,fun _ _=>e3⟩,fun _=>rfl⟩⟩
    erw[I.2];symm;rw[lb',J5 e2];erw[iw0,oMul_i m3,iw1,oMul_i m4,fl',I.1];symm;rw[ll'',Ji e3];symm
  ·refine⟨true,head _ ?_,⟨fun _=>⟨fun z=>absurd z c,fun _ z=>absurd z e2⟩,fun _=>rfl⟩⟩
   erw[I.2];symm;rw[lb',Ji e2];symm
def zGf{q:Rat}{m:Nat}(zq:Sz m q)(hm:m<=8000):bS [.int (2*q.num),.int (q.den:Int)]=.ok (.v (dq (q+q))):=by
 have f:=hU (t:=2*q.num) (b:=(q.den:Int)) (n:=m) (dA q) zq.d ⋯
 have e:Rat.divInt (2*q.num) (q.den:Int)=q+q:=by
  have d:=dvm (2*q.num) (dA q);rw[Qu,uM] at d;have pd:(0:Rat)<((q.den:Int):Rat):=by exact_mod_cast dA q
  have e2:((2:Int):Rat)=2:=rfl;exact lT pd (by rw[d,e2];grind)
 rw[e] at f;exact f
def yG{x y:Rat}{a b:Int}{m:Nat}(zx:Sz m x)(zy:Sz m y)(hm:m<=900)(za:a.natAbs<2^40)(zb:b.natAbs<2^40)(x0:0<=x)(y0:0<=y):
  ∃ r:Bool,cH [dq x,dq y,.lst [.int a,.int b]]=.ok (.v (.bl r))/\(r=true ↔ ∃ t,x+x=mn (1*t) (a:Rat)/\y+y=mn (1*t) (b:Rat)):=by
 have za':Sz 40 (a:Rat):=⟨za,by show 1<2^40;decide⟩
 have zb':Sz 40 (b:Rat):=⟨zb,by show 1<2^40;decide⟩
 have z2:=zx.add zx;have z3:=zy.add zy;have l0:=gM za' z2 ⋯
 have l1:=gM zb' z3 ⋯
 have l0':bV [.tup [.int a,.int 1],dq (x+x)]=.ok (.v (.bl (decide ((a:Rat)<x+x)))):=l0;have l1':bV [.tup [.int b,.int 1],dq (y+y)]=.ok (.v (.bl (decide ((b:Rat)<y+y)))):=l1;have I:=ix2 (.int a) (.int b);have T:=ix2 (dq (x+x)) (dq (y+y));have mle:∀ u v:Rat,mn u v<=v:=fun u v=>by unfold mn;grind
 have step:∀(k:Int)(a4:Sl)(c:Int)(q:Rat),oIx (.lst [.int a,.int b]) (.int k)=.ok (.int c)->oIx (.lst [dq (x+x),dq (y+y)]) (.int k)=.ok (dq q)->bV [.tup [.int c,.int 1],dq q]=.ok (.v (.bl (decide ((c:Rat)<q))))->
   iH [.val (dq x),.val (dq y),.val (.lst [.int a,.int b]),.val (.lst [dq (x+x),dq (y+y)]),.val (.int k)]=if (c:Rat)<q then .ok (.ret (.v (.bl false))) else .ok (.nx [.val (dq x),.val (dq y),.val (.lst [.int a,.int b]),.val (.lst [dq (x+x),dq (y+y)]),.val (.int k)]):=fun k a4 c q h1 h2 h3=>by
  erw[h1,h2,h3];symm;by_cases z:(c:Rat)<q
  ·rw[Jj z,J5 z]
   symm
  ·rw[Jk z,Ji z]
   symm
 have s0:=step 0 .un a (x+x) I.1 T.1 l0';have s1:=step 1 .un b (y+y) I.2 T.2 l1'
 have head:cH [dq x,dq y,.lst [.int a,.int b]]=((loop (gName 4) iH [.int 0,.int 1] [.val (dq x),.val (dq y),.val (.lst [.int a,.int b]),.val (.lst [dq (x+x),dq (y+y)]),.un]).bind (yQ iD)).bind fin:=by
  unfold cH;erw[zGf zx ⋯,zGf zy ⋯,zAL ∅ ∅];symm;rfl
 rw[head];by_cases c0:(a:Rat)<x+x
 ·rw[Jj c0] at s0
  rw[gT (ρ1:=[.val (dq x),.val (dq y),.val (.lst [.int a,.int b]),.val (.lst [dq (x+x),dq (y+y)]),.val (.int 0)]) rfl s0];refine⟨false,rfl,⟨fun z=>(by cases z),fun ⟨t,e,_⟩=>?_⟩⟩
  have:=mle (1*t) (a:Rat)
  rw[<-e] at this;exact absurd this (Q3.mpr c0)
 ·rw[Jk c0] at s0
  rw[cD (ρ1:=[.val (dq x),.val (dq y),.val (.lst [.int a,.int b]),.val (.lst [dq (x+x),dq (y+y)]),.val (.int 0)]) rfl s0];by_cases c1:(b:Rat)<y+y
  ·rw[Jj c1] at s1
   rw[gT (ρ1:=[.val (dq x),.val (dq y),.val (.lst [.int a,.int b]),.val (.lst [dq (x+x),dq (y+y)]),.val (.int 1)]) rfl s1];refine⟨false,rfl,⟨fun z=>(by cases z),fun ⟨t,_,e⟩=>?_⟩⟩
   have:=mle (1*t) (b:Rat)
   rw[<-e] at this;exact absurd this (Q3.mpr c1)
  ·rw[Jk c1] at s1
   rw[cD (ρ1:=[.val (dq x),.val (dq y),.val (.lst [.int a,.int b]),.val (.lst [dq (x+x),dq (y+y)]),.val (.int 1)]) rfl s1];obtain⟨r,er,hr⟩:=tE (x:=x+x) (y:=y+y) (a:=a) (b:=b) (w0:=1) (w1:=1) (wd:=.lst [.int 1,.int 1]) (m:=m+m+1) (.inl rfl) z2 z3 ⋯ za zb ∅ ∅ (by grind) (Qr.mp c0) (by grind) (Qr.mp c1)
   refine⟨r,?_,hr⟩
   show(iD _).bind fin=_
   erw[T.1,T.2,er];symm
abbrev RP(w:Str)(wd:D)(a b:Int)(x y lx ly:Rat)(a6:Sl):Rho:=[.val (.str w),.val wd,.val (.lst [.int a,.int b]),.val (dq x),.val (dq y),.val (.lst [dq lx,dq ly]),a6,.un]
def zRL{q:Rat}:q.num=0 ↔ q=0:=Rat.num_eq_zero
def zHA{v:Wy}{w0 w1 a b:Int}{x y:Rat}{wd:D}{a6:Sl}{m:Nat}(hwd:Sq wd [w0,w1])(zx:Sz m x)(zy:Sz m y)(hm:m<=400)(za:a.natAbs<2^40)(zb:b.natAbs<2^40)(h0:1<=w0/\w0<=10^6)(h1:1<=w1/\w1<=10^6)(x0:0<=x)(xa:x<=(a:Rat))(y0:0<=y)(yb:y<=(b:Rat)):
  ∃ r:Bool,(bB (RP v.s wd a b x y ((a:Rat)+-x) ((b:Rat)+-y) a6)).bind fin=.ok (.v (.bl r))/\(r=true ↔ PW v (w0:Rat) (w1:Rat) a b x y):=by
 have za':Sz 40 (a:Rat):=⟨za,by show 1<2^40;decide⟩
 have zb':Sz 40 (b:Rat):=⟨zb,by show 1<2^40;decide⟩
 have zn:∀ q:Rat,Sz m q->Sz m (-q):=fun q z=>⟨by show(-q.num).natAbs<2^m;rw[Uj];exact z.1,z.2⟩
 have zlx:Sz 450 ((a:Rat)+-x):=(za'.add (zn x zx)).mono ⋯
 have zly:Sz 450 ((b:Rat)+-y):=(zb'.add (zn y zy)).mono ⋯
 have lx:(a:Rat)+-x=(a:Rat)-x:=by grind
 have ly:(b:Rat)+-y=(b:Rat)-y:=by grind
 have T:=ix2 (dq ((a:Rat)+-x)) (dq ((b:Rat)+-y));have I:=ix2 (.int a) (.int b);have b1:(Str.ofString "back" == Str.ofString "row")=false:=rfl;have p1:(Str.ofString "part" == Str.ofString "row")=false:=rfl;have p2:(Str.ofString "part" == Str.ofString "back")=false:=rfl;have e1:(Str.ofString "even" == Str.ofString "row")=false:=rfl;have e2:(Str.ofString "even" == Str.ofString "back")=false:=rfl;have e3:(Str.ofString "even" == Str.ofString "part")=false:=rfl;have l1:(Str.ofString "lack" == Str.ofString "row")=false:=rfl;have l2:(Str.ofString "lack" == Str.ofString "back")=false:=rfl;have l3:(Str.ofString "lack" == Str.ofString "part")=false:=rfl;have l4:(Str.ofString "lack" == Str.ofString "even")=false:=rfl;have h1':(Str.ofString "half" == Str.ofString "row")=false:=rfl;have h2':(Str.ofString "half" == Str.ofString "back")=false:=rfl;have h3':(Str.ofString "half" == Str.ofString "part")=false:=rfl;have h4':(Str.ofString "half" == Str.ofString "even")=false:=rfl;have h5':(Str.ofString "half" == Str.ofString "lack")=false:=rfl
 cases v with
 | row=>
  refine⟨decide (((a:Rat)+-x).num=0) || decide (y.num=0),?_,?_⟩
  ·show(bB (RP (Str.ofString "row") wd a b x y ((a:Rat)+-x) ((b:Rat)+-y) a6)).bind fin=_
   erw[T.1];symm;by_cases c:((a:Rat)+-x).num=0
   ·rw[J5 c]
    symm
   ·rw[Ji c]
    symm
  ·rw[Vn,decide_eq_true_iff,decide_eq_true_iff,zRL,zRL]
   show _ ↔ x=(a:Rat)∨y=0
   constructor
   ·rintro (h | h)
    ·exact .inl (by grind)
    ·exact .inr h
   ·rintro (h | h)
    ·exact .inl (by grind)
    ·exact .inr h
 | back=>
  refine⟨decide (((b:Rat)+-y).num=0) || decide (x.num=0),?_,?_⟩
  ·show(bB (RP (Str.ofString "back") wd a b x y ((a:Rat)+-x) ((b:Rat)+-y) a6)).bind fin=_
   erw[b1,T.2];symm;by_cases c:((b:Rat)+-y).num=0
   ·rw[J5 c]
    symm
   ·rw[Ji c]
    symm
  ·rw[Vn,decide_eq_true_iff,decide_eq_true_iff,zRL,zRL]
   show _ ↔ y=(b:Rat)∨x=0
   constructor
   ·rintro (h | h)
    ·exact .inl (by grind)
    ·exact .inr h
   ·rintro (h | h)
    ·exact .inl (by grind)
    ·exact .inr h
 | part=>
  refine⟨decide (x.num*y.den*b=y.num*x.den*a),?_,?_⟩
  ·show(bB (RP (Str.ofString "part") wd a b x y ((a:Rat)+-x) ((b:Rat)+-y) a6)).bind fin=_
   have n1:(x.num*y.den).natAbs<2^(m+m):=by rw[Yf,Yg];exact Yh zx.1 zy.d
   have n2:(y.num*x.den).natAbs<2^(m+m):=by rw[Yf,Yg];exact Yh zy.1 zx.d
   erw[p1,p2,oMul_i (bO zx.1 zy.d ⋯),I.2,oMul_i (bO n1 zb ⋯),oMul_i (bO zy.1 zx.d ⋯),I.1,oMul_i (bO n2 za ⋯)];symm
  ·rw[decide_eq_true_iff]
   show _ ↔ x*(b:Rat)=y*(a:Rat)
   have pd:(0:Rat)<((x.den:Int):Rat)*((y.den:Int):Rat):=Rat.mul_pos (by exact_mod_cast dA x) (by exact_mod_cast dA y)
   have nx:=uM x;have ny:=uM y;constructor
   ·intro h
    have h':((x.num*y.den*b:Int):Rat)=((y.num*x.den*a:Int):Rat):=by rw[h]
    rw[Qu,Qu,Qu,Qu,nx,ny] at h';exact lT pd (by grind)
   ·intro h
    refine Rat.intCast_inj.mp ?_
    rw[Qu,Qu,Qu,Qu,nx,ny];have:x*(b:Rat)*(((x.den:Int):Rat)*((y.den:Int):Rat))=y*(a:Rat)*(((x.den:Int):Rat)*((y.den:Int):Rat)):=by rw[h]
    grind
 | even=>
  obtain⟨r,er,hr⟩:=tE hwd zx zy ⋯ za zb h0 h1 x0 xa y0 yb
  refine⟨r,?_,hr⟩
  show(bB (RP (Str.ofString "even") wd a b x y ((a:Rat)+-x) ((b:Rat)+-y) a6)).bind fin=_
  erw[e1,e2,e3,er];symm
 | lack=>
  obtain⟨r,er,hr⟩:=tE (x:=(a:Rat)+-x) (y:=(b:Rat)+-y) hwd zlx zly ⋯ za zb h0 h1 (by grind) (by grind) (by grind) (by grind)
  refine⟨r,?_,?_⟩
  ·show(bB (RP (Str.ofString "lack") wd a b x y ((a:Rat)+-x) ((b:Rat)+-y) a6)).bind fin=_
   erw[l1,l2,l3,l4,T.1,T.2,er];symm
  ·rw[hr,lx,ly];rfl
 | half=>
  have zq:=(zx.add zy).mono (show m+m+1<=801 by omega)
  have pp:=gK zx zy ⋯
  have go:∀ z,(eI [.val (.str "half"),.val wd,.val (.lst [.int a,.int b]),.val (dq x),.val (dq y),.val (.lst [dq ((a:Rat)+-x),dq ((b:Rat)+-y)]),a6,.val (dq (x+y))]).bind fin=z->(bB (RP Wy.half.s wd a b x y ((a:Rat)+-x) ((b:Rat)+-y) a6)).bind fin=z:=fun z h=>by
   rw[<-h];show(bB (RP (Str.ofString "half") wd a b x y ((a:Rat)+-x) ((b:Rat)+-y) a6)).bind fin=_
   unfold bB lM lJ jX kK kJ;generalize hK:(eI:Sv)=K;erw[h1',h2',h3',h4',h5',pp];symm
  have ab:(a+b).natAbs<2^41:=⋯
  have cmp:2*(x+y).num<=(a+b)*(x+y).den ↔ x+y+(x+y)<=(a:Rat)+(b:Rat):=by
   have pd:(0:Rat)<(((x+y).den:Int):Rat):=by exact_mod_cast dA (x+y)
   have nq:=uM (x+y);rw[<-Vj,Qu,Qu,Q6,nq];have e2:((2:Int):Rat)=2:=rfl;rw[e2,show(2:Rat)*((x+y)*(((x+y).den:Int):Rat))=(x+y+(x+y))*(((x+y).den:Int):Rat) by grind];exact⟨fun h=>Qr.mp fun z=>absurd (X6 pd |>.mpr z) (Qr.mpr h),fun h=>Xr h (Vu pd)⟩
  have wk:∀(c:Bool),decide (2*(x+y).num<=(a+b)*(x+y).den)=c->∀ z,((if c then (cH [dq x,dq y,.lst [.int a,.int b]]) else (cH [dq ((a:Rat)+-x),dq ((b:Rat)+-y),.lst [.int a,.int b]])))=.ok (.v (.bl z))->(eI [.val (.str "half"),.val wd,.val (.lst [.int a,.int b]),.val (dq x),.val (dq y),.val (.lst [dq ((a:Rat)+-x),dq ((b:Rat)+-y)]),a6,.val (dq (x+y))]).bind fin=.ok (.v (.bl z)):=fun c hc z hz=>by
   erw[I.1,I.2,oMul_i (bO ab zq.d ∅),hc]
   cases c with
   | true=>
    rw[Jj rfl] at hz;erw[hz];symm
   | false=>
    rw[Jk ∅] at hz;erw[T.1,T.2,hz];symm
  by_cases c:x+y+(x+y)<=(a:Rat)+(b:Rat)
  ·obtain⟨r,er,hr⟩:=yG zx zy ⋯ za zb x0 y0
   refine⟨r,go _ (wk true (J5 (cmp.mpr c)) r (by rw[Jj rfl];exact er)),?_⟩
   rw[hr];constructor
   ·intro h;exact .inl ⟨c,h⟩
   ·rintro (h | h)
    ·exact h.2
    ·exact absurd c h.1
  ·obtain⟨r,er,hr⟩:=yG zlx zly ⋯ za zb (by grind) (by grind)
   refine⟨r,go _ (wk false (Ji fun z=>c (cmp.mp z)) r (by rw[Jk ∅];exact er)),?_⟩
   rw[hr,lx,ly];constructor
   ·intro h;exact .inr ⟨c,h⟩
   ·rintro (h | h)
    ·exact absurd h.1 c
    ·exact h.2
def zDn{v:Wy}{w0 w1 a b:Int}{x y:Rat}{wd:D}{m:Nat}(hwd:Sq wd [w0,w1])(zx:Sz m x)(zy:Sz m y)(hm:m<=400)(za:a.natAbs<2^40)(zb:b.natAbs<2^40)(h0:1<=w0/\w0<=10^6)(h1:1<=w1/\w1<=10^6):
  ∃ r:Bool,dI [.str v.s,wd,.lst [.int a,.int b],dq x,dq y]=.ok (.v (.bl r))/\(r=true ↔ (0<=x/\x<=(a:Rat))/\(0<=y/\y<=(b:Rat))/\PW v (w0:Rat) (w1:Rat) a b x y):=by
 have za':Sz 40 (a:Rat):=⟨za,by show 1<2^40;decide⟩
 have zb':Sz 40 (b:Rat):=⟨zb,by show 1<2^40;decide⟩
 have zn:∀ q:Rat,Sz m q->Sz m (-q):=fun q z=>⟨by show(-q.num).natAbs<2^m;rw[Uj];exact z.1,z.2⟩
 have pa:=gK za' (zn x zx) ⋯
 have pb:=gK zb' (zn y zy) ⋯
 have pa':bF [.tup [.int a,.int 1],dq (-x)]=.ok (.v (dq ((a:Rat)+-x))):=pa;have pb':bF [.tup [.int b,.int 1],dq (-y)]=.ok (.v (dq ((b:Rat)+-y))):=pb;have I:=ix2 (.int a) (.int b)
 have head:dI [.str v.s,wd,.lst [.int a,.int b],dq x,dq y]=((loop (gName 6) gX [dq x,dq y,dq ((a:Rat)+-x),dq ((b:Rat)+-y)] (RP v.s wd a b x y ((a:Rat)+-x) ((b:Rat)+-y) .un)).bind (yQ bB)).bind fin:=by
  unfold dI;erw[I.1];symm;rw[zJB,pa'];erw[I.2];symm;rw[zJB,pb'];symm
 rw[head]
 have step:∀(q:Rat)(a6:Sl),gName 6 (dq q) (RP v.s wd a b x y ((a:Rat)+-x) ((b:Rat)+-y) a6)=.ok (RP v.s wd a b x y ((a:Rat)+-x) ((b:Rat)+-y) (.val (dq q)))/\gX (RP v.s wd a b x y ((a:Rat)+-x) ((b:Rat)+-y) (.val (dq q)))=if 0<=q then .ok (.nx (RP v.s wd a b x y ((a:Rat)+-x) ((b:Rat)+-y) (.val (dq q)))) else .ok (.ret (.v (.bl false))):=fun q a6=>by
  refine⟨rfl,?_⟩
  symm;by_cases c:0<=q
  ·rw[Jj c,Ji (Int.not_lt.mpr (Y0.mpr c))]
   symm
  ·rw[Jk c,J5 (Int.not_le.mp fun z=>c (Y0.mp z))]
   symm
 have bad:∀(q:Rat),(¬ ((0<=x/\x<=(a:Rat))/\(0<=y/\y<=(b:Rat))))->∃ r:Bool,((Res.ok (Fl.ret (Rt.v (.bl false)))).bind (yQ bB)).bind fin=.ok (.v (.bl r))/\(r=true ↔ (0<=x/\x<=(a:Rat))/\(0<=y/\y<=(b:Rat))/\PW v (w0:Rat) (w1:Rat) a b x y):=fun q n=>⟨false,rfl,⟨fun z=>(by cases z),fun z=>absurd ⟨z.1,z.2.1⟩ n⟩⟩
 obtain⟨g1,s1⟩:=step x .un;by_cases c1:0<=x
 rotate_left
 ·rw[Jk c1] at s1
  rw[gT g1 s1];exact bad x fun z=>c1 z.1.1
 rw[Jj c1] at s1;rw[cD g1 s1];obtain⟨g2,s2⟩:=step y (.val (dq x));by_cases c2:0<=y
 rotate_left
 ·rw[Jk c2] at s2
  rw[gT g2 s2];exact bad x fun z=>c2 z.2.1
 rw[Jj c2] at s2;rw[cD g2 s2];obtain⟨g3,s3⟩:=step ((a:Rat)+-x) (.val (dq y));by_cases c3:0<=(a:Rat)+-x
 rotate_left
 ·rw[Jk c3] at s3
  rw[gT g3 s3];exact bad x fun z=>c3 (by have:=z.1.2;grind)
 rw[Jj c3] at s3;rw[cD g3 s3];obtain⟨g4,s4⟩:=step ((b:Rat)+-y) (.val (dq ((a:Rat)+-x)));by_cases c4:0<=(b:Rat)+-y
 rotate_left
 ·rw[Jk c4] at s4
  rw[gT g4 s4];exact bad x fun z=>c4 (by have:=z.2.2;grind)
 rw[Jj c4] at s4;rw[cD g4 s4];obtain⟨r,er,hr⟩:=zHA (v:=v) (a6:=.val (dq ((b:Rat)+-y))) hwd zx zy hm za zb h0 h1 c1 (by grind) c2 (by grind)
 refine⟨r,er,?_⟩
 rw[hr];exact⟨fun h=>⟨⟨c1,by grind⟩,⟨c2,by grind⟩,h⟩,fun h=>h.2.2⟩
def zCT{n:Nat}{v:Wy}{ws:List Int}{ks:List D}{xs:List Rat}{i j b:Nat}{kd:Bool}(g:Gc (n+1) (.tup [.str v.s,.tup (ws.map D.int),.tup ks]))(hn:n<=8)(hk:∀ k∈ks,IsC n k)(k0:0<ks.length)(due:v.due ws (kcl n ks))(am:Am b xs)(hb:b<=300)(hi:i<ks.length)(hj:j<ks.length):
  ∃ r:Bool,fH [.tup [.str v.s,.tup (ws.map D.int),.tup ks],mkA kd xs,.int (i:Int),.int (j:Int)]=.ok (.v (.bl r))/\eK [.tup [.str v.s,.tup (ws.map D.int),.tup ks],.lst (((List.range ks.length).map (sK n ks xs)).map dq),.int (i:Int),.int (j:Int)]=.ok (.v (.bl r)):=by
 obtain⟨r,er,hr,h2⟩:=zBK (kd:=kd) (i:=i) (j:=j) g hn hk k0 due am ⋯ hi hj
 refine⟨r,er,?_⟩
 have kl:(kcl n ks).length=ks.length:=eR n ks;have cl:=g.cl hk k0;have l12:(ks.flatMap (clm n)).length<=12:=g.2.1
 have at':∀ l:Nat,l<ks.length->∃ k,oIx (.tup ks) (.int (l:Int))=.ok k/\bH 10 [k]=.ok (.v (.lst ((clm n k).map D.int)))/\(kcl n ks).getD l 0=(clm n k).sum/\0<=(kcl n ks).getD l 0/\(kcl n ks).getD l 0<=12*10^9:=fun l hl=>by
  have e:ks[l]?=some ks[l]:=Qj hl;have mem:=V3 hl;have ec:(kcl n ks).getD l 0=(clm n ks[l]).sum:=by unfold kcl;rw[Qs,Qq,e];rfl
  refine⟨ks[l],?_,?_,ec,?_⟩
  ·have:=qK (f:=fun d:D=>d) (l:=ks) (i:=(l:Int)) (a:=ks[l]) (Q2 l) (by rw[Vb];exact e)
   rwa [Uh] at this
  ·have gk:=g.kid hk mem
   have lc:=iO 10 ks[l] (fP gk.1 ⋯) (by rw[dR gk.1 ⋯];have:=gk.2.1;omega)
   rwa [dR gk.1 (show n<=10 by omega)] at lc
  ·rw[ec];exact(g.kid hk mem).sum
 obtain⟨ki,xi,li,ci,bi⟩:=at' i hi;obtain⟨kj,xj,lj,cj,bj⟩:=at' j hj;have si:oIx (.lst (((List.range ks.length).map (sK n ks xs)).map dq)) (.int (i:Int))=.ok (dq (sK n ks xs i)):=nH (Q2 i) (by rw[Vb,Qq,V8 hi];rfl)
 have sj:oIx (.lst (((List.range ks.length).map (sK n ks xs)).map dq)) (.int (j:Int))=.ok (dq (sK n ks xs j)):=nH (Q2 j) (by rw[Vb,Qq,V8 hj];rfl)
 have zi:Sz (41+b) (sK n ks xs i):=(am.pc i).sum.1;have zj:Sz (41+b) (sK n ks xs j):=(am.pc j).sum.1
 have c2:Cl [(kcl n ks).getD i 0,(kcl n ks).getD j 0]:=⟨fun c hc=>by
   simp only[Qc,Q0,or_false] at hc;rcases hc with rfl | rfl<;>omega,fun c hc=>by
   simp only[Qc,Q0,or_false] at hc;rcases hc with rfl | rfl<;>omega,by show 1<=2;decide,by show 2<=12;decide⟩
 have d2:=zEb due (i:=i) (j:=j) (by rw[kl];exact hi) (by rw[kl];exact hj)
 obtain⟨w0,w1,hw,q0,q1,ew⟩:∃ w0 w1:Int,(two ws i j=[]∨two ws i j=[w0,w1])/\(1<=w0/\w0<=10^6)/\(1<=w1/\w1<=10^6)/\∀(a7:Sl),dN [.val (.tup [.str v.s,.tup (ws.map D.int),.tup ks]),.val (.lst (((List.range ks.length).map (sK n ks xs)).map dq)),.val (.int (i:Int)),.val (.int (j:Int)),.val (.str v.s),.val (.tup (ws.map D.int)),.val (.tup ks),a7,.val (.lst [.int 1,.int 1])]=eT [.val (.tup [.str v.s,.tup (ws.map D.int),.tup ks]),.val (.lst (((List.range ks.length).map (sK n ks xs)).map dq)),.val (.int (i:Int)),.val (.int (j:Int)),.val (.str v.s),.val (.tup (ws.map D.int)),.val (.tup ks),a7,.val (.lst [.int w0,.int w1])]:=by
  by_cases z:ws=[]
  ·refine⟨1,1,.inl (Jj z),∅,∅,fun a7=>?_⟩
   subst z;unfold dN;generalize hK:(eT:Sv)=K;erw[show decide ((0:Int)<((0:Nat):Int))=false from rfl];symm
  ·have w0':0<ws.length:=W9.mpr z
   have wt:Wt ws (kcl n ks):=by
    cases v with
    | even=>exact due
    | lack=>exact due
    | row=>exact absurd due z
    | back=>exact absurd due z
    | part=>exact absurd due z
    | half=>exact absurd due z
   have wl:ws.length=ks.length:=by rw[wt.len,kl]
   have iw:∀ l:Nat,l<ks.length->oIx (.tup (ws.map D.int)) (.int (l:Int))=.ok (.int (ws.getD l 0)):=fun l hl=>qK (Q2 l) (aZ ⋯)
   have wb:∀ l:Nat,l<ks.length->1<=ws.getD l 0/\ws.getD l 0<=10^6:=fun l hl=>⟨wt.lo _ (Qf (aZ ⋯)),wt.up _ (Qf (aZ ⋯))⟩
   refine⟨ws.getD i 0,ws.getD j 0,.inr (Jk z),wb i hi,wb j hj,fun a7=>?_⟩
   unfold dN;generalize hK:(eT:Sv)=K;erw[J5 ⋯,iw i hi,iw j hj];symm
 obtain⟨p,ep,hp⟩:=zDn (v:=v) (w0:=w0) (w1:=w1) (a:=(kcl n ks).getD i 0) (b:=(kcl n ks).getD j 0) (x:=sK n ks xs i) (y:=sK n ks xs j) (wd:=.lst [.int w0,.int w1]) (.inl rfl) zi zj ⋯ ⋯ ⋯ q0 q1
 have same:p=!r:=by
  have c0:cR (kcl n ks) i=(((kcl n ks).getD i 0:Int):Rat):=rfl;have c1:cR (kcl n ks) j=(((kcl n ks).getD j 0:Int):Rat):=rfl
  cases r with
  | false=>
   obtain⟨s0,s1,M,f,al,f0,f1⟩:=hr.mp rfl;exact hp.mpr (zSj hw d2 c2 s0 (by rw[<-c0,<-c1];exact s1) al f0 f1)
  | true=>
   cases p with
   | false=>rfl
   | true=>
    obtain⟨bx,by',pw⟩:=hp.mp rfl
    have:=h2 (by show 0<=sK n ks xs i+sK n ks xs j;grind) (by show sK n ks xs i+sK n ks xs j<=_;rw[c0,c1];grind) (fun M g' al'=>zSh hw ⋯ ⋯ d2 c2 bx by' pw al')
    cases this
 unfold eK kZ lE;generalize hK:(dN:Sv)=K at ew;erw[xi,li];symm;rw[<-ci,xj];erw[lj];symm;rw[<-cj,ew];erw[si,sj];symm;rw[ep,same];erw[Bool.not_not]
def zAm{n:Nat}{d:D}{xs:List Rat}(hn:n<=8):∀(ks:List D)(st:Nat)(acc:List D)(a b:Sl),(∀ k∈ks,IsC n k)->(ks.flatMap (clm n)).length<=12->acc.length+ks.length<=1000->
  ∃ s' a' b',loop (gName 4) sJ ks [.val d,.val (.lst (xs.map dq)),.own acc,.val (.int (st:Int)),a,b]=.ok (.nx [.val d,.val (.lst (xs.map dq)),.own (acc++(uE (fun k=>(clm n k).length) ks (xs.drop st)).map (mkA true)),s',a',b'])
 | [],st,acc,a,b,_,_,_=>⟨.val (.int (st:Int)),a,b,by rw[loop];simp[uE]⟩
 | k::r,st,acc,a,b,h,hl,hz=>by
  rw[V0,Ql] at hl;rw[Qk] at hz;have ick:=h k Qe;have cl:=iO 10 k (fP ick ⋯) (by rw[dR ick (show n<=10 by omega)];omega)
  rw[dR ick (show n<=10 by omega)] at cl;obtain⟨s',a',b',e⟩:=zAm (d:=d) (xs:=xs) hn r (st+(clm n k).length) (acc++[mkA true ((xs.drop st).take (clm n k).length)]) (.val k) (.val (.int ((clm n k).length:Int))) (fun x hx=>h x (Qd _ hx)) ⋯ (by rw[Ql,X0];omega)
  refine⟨s',a',b',?_⟩
  have sl:gD (xs.map dq) (some (st:Int)) (some ((st:Int)+((clm n k).length:Int)))=((xs.drop st).take (clm n k).length).map dq:=by
   rw[xA ⋯ ⋯,<-Wl,<-Wm,show((st:Int)+((clm n k).length:Int)).toNat-(st:Int).toNat=(clm n k).length by omega,Vb]
  rw[cD (ρ1:=[.val d,.val (.lst (xs.map dq)),.own acc,.val (.int (st:Int)),.val k,b]) (ρ2:=[.val d,.val (.lst (xs.map dq)),.own (acc++[mkA true ((xs.drop st).take (clm n k).length)]),.val (.int ((st+(clm n k).length:Nat):Int)),.val k,.val (.int ((clm n k).length:Int))]) rfl,e]
  ·rw[uE,Qg,V5,Wg];rfl
  ·symm
   rw[cl];symm;rw[sl,Jj ⋯];symm;rfl
def xF{n:Nat}{w:Str}{x:D}{ks:List D}{xs:List Rat}(hn:n<=8)(hk:∀ k∈ks,IsC n k)(hl:(ks.flatMap (clm n)).length<=12):
  fX [.tup [.str w,x,.tup ks],.lst (xs.map dq)]=.ok (.f ((pcs n ks xs).map (mkA true))):=by
 have kl:=oE hk;obtain⟨s',a',b',e⟩:=zAm (d:=.tup [.str w,x,.tup ks]) (xs:=xs) hn ks 0 [] .un .un hk hl (by rw[Xb];omega)
 unfold fX;symm;rw[show(0:Int)=((0:Nat):Int) from rfl,e];rfl
def zDx{b:Nat}{xs:List Rat}(am:Am b xs)(hb:b<=4000):fL [.lst (xs.map dq)]=.ok (.v (dq xs.sum)):=by
 unfold fL;erw[show D.tup [.int 0,.int 1]=dq ((xs.take 0).sum) from rfl];refine oY (Q:=fun r=>r.bind fin=.ok (.v (dq xs.sum))) (k:=yQ xG) (fun i ρ=>∃ a,ρ=[.val (.lst (xs.map dq)),.val (dq ((xs.take i).sum)),a]) ⟨_,rfl⟩ ?_ ?_
 ·rintro i d ρ hd ⟨a,rfl⟩
  have hi:i<xs.length:=by have:=(Qy.mp hd).1;rwa [Qi] at this
  rw[Qq,Qj hi] at hd;cases hd;refine⟨[.val (.lst (xs.map dq)),.val (dq ((xs.take (i+1)).sum)),.val (dq xs[i])],?_,_,rfl⟩
  have e:(xs.take (i+1)).sum=(xs.take i).sum+xs[i]:=by
   rw[Ys,Qj hi];show(xs.take i++[xs[i]]).sum=_
   rw[eY,Qn,Vp,Xt]
  symm;rw[gK (am.take i).sum.1 (am.each (V3 hi)) ⋯,e];symm
 ·rintro ρ ⟨a,rfl⟩
  rw[Qi,Xe];rfl
def zDP(n:Nat)(ks:List D)(xs:List Rat):pcs n ks xs=(List.range ks.length).map fun l=>(pcs n ks xs).getD l []:=by
 have hl:(pcs n ks xs).length=ks.length:=iK ks xs;refine List.ext_getElem (by rw[Qi,Vd,hl]) fun i h1 h2=>?_
 rw[List.getElem_map,List.getElem_range,Qs,Qj h1];rfl
def zIr{x f:Nat->Rat}:∀ {n:Nat},(∀ i,i<n->x i<=f i)->((List.range n).map x).sum=((List.range n).map f).sum->∀ i,i<n->x i=f i
 | 0,_,_,i,h=>absurd h (Yp _)
 | n+1,hl,hs,i,hi=>by
  rw[Yv,Q9,Q9,eY,eY] at hs;simp only[Qg,Vy,Qn,Vp,Xt] at hs
  have le:∀ m,m<=n->((List.range m).map x).sum<=((List.range m).map f).sum:=by
   intro m
   induction m with
   | zero=>intro _;exact Vi
   | succ m ih=>
    intro hm;rw[Yv,Q9,Q9,eY,eY];simp only[Qg,Vy,Qn,Vp,Xt];have:=ih ⋯
    have:=hl m ⋯
    grind
  have a:=le n (Qb _);have b:=hl n (Xp n);have e1:x n=f n:=by grind
  have e2:((List.range n).map x).sum=((List.range n).map f).sum:=by grind
  rcases X5 (show i<=n by omega) with z | z
  ·exact zIr (fun j hj=>hl j ⋯) e2 i z
  ·rw[z];exact e1
def zSG{v:Wy}{ws cs:List Int}(due:v.due ws cs)(hc:Cl cs){x f:Nat->Rat}{q:Rat}{M:Nat}(hx:∀ i,i<cs.length->0<=x i/\x i<=cR cs i)(pr:∀ i j,i<j->j<cs.length->Rt2 v ws cs i j (x i) (x j))(hq:((List.range cs.length).map x).sum=q)(al:Al M ws cs q f v)(dl:Dl 1400 cs q f):∀ i,i<cs.length->x i=f i:=by
 have two':∀ a b,a<b->b<cs.length->¬ (f a<x a/\x b<f b)/\¬ (x a<f a/\f b<x b):=fun a b hab hb=>by
  have ha:a<cs.length:=⋯
  obtain⟨s0,s1,M1,g,al1,g0,g1⟩:=pr a b hab hb;have fa:=dl.bd a ha;have fb:=dl.bd b hb;have d2:=zEb due (i:=a) (j:=b) ha hb;have na:=hc.nn _ (Qf (aZ ha));have nb:=hc.nn _ (Qf (aZ hb));have ua:=hc.up _ (Qf (aZ ha));have ub:=hc.up _ (Qf (aZ hb))
  have c2:Cl [cs.getD a 0,cs.getD b 0]:=⟨fun c h=>by
    simp only[Qc,Q0,or_false] at h;rcases h with rfl | rfl<;>assumption,fun c h=>by
    simp only[Qc,Q0,or_false] at h;rcases h with rfl | rfl<;>assumption,by show 1<=2;decide,by show 2<=12;decide⟩
  have sm:=zET (cs.getD a 0) (cs.getD b 0);have ca:cR cs a=((cs.getD a 0:Int):Rat):=rfl;have cb:cR cs b=((cs.getD b 0:Int):Rat):=rfl;obtain⟨g',_,al2⟩:=yN (w:=v) (ws:=two ws a b) (cs:=[cs.getD a 0,cs.getD b 0]) (wd:=.lst ((two ws a b).map D.int)) (cd:=.lst ([cs.getD a 0,cs.getD b 0].map D.int)) (.inl rfl) (.inl rfl) (q:=f a+f b) (m:=2801) ∅ d2 c2 ⟨by have:=fa.1;have:=fb.1;grind,by rw[sm,<-ca,<-cb];have:=fa.2.1;have:=fb.2.1;grind,fa.2.2.add fb.2.2⟩
  have al2':Al (2801+263) (w2 ws a b) [cs.getD a 0,cs.getD b 0] (f a+f b) g' v:=al2;obtain⟨h0,h1⟩:=zMO due hc al dl hab hb al2';have z0:(0:Nat) < [cs.getD a 0,cs.getD b 0].length:=Ug _;have z1:(1:Nat) < [cs.getD a 0,cs.getD b 0].length:=Xp _;rcases Ub (a:=x a+x b) (b:=f a+f b) with o | o
  ·have m0:=wW d2 c2 al1 al2 o z0
   have m1:=wW d2 c2 al1 al2 o z1;rw[g0,h0] at m0;rw[g1,h1] at m1;exact⟨fun z=>absurd m0 (Q3.mpr z.1),fun z=>absurd m1 (Q3.mpr z.2)⟩
  ·have m0:=wW d2 c2 al2 al1 o z0
   have m1:=wW d2 c2 al2 al1 o z1;rw[g0,h0] at m0;rw[g1,h1] at m1;exact⟨fun z=>absurd m1 (Q3.mpr z.2),fun z=>absurd m0 (Q3.mpr z.1)⟩
 have sf:=dl.sum;by_cases up:∀ i,i<cs.length->x i<=f i
 ·exact zIr up (by rw[hq,sf])
 ·by_cases dn:∀ i,i<cs.length->f i<=x i
  ·intro i hi
   exact(zIr dn (by rw[hq,sf]) i hi).symm
  ·exfalso
   obtain⟨a,ha⟩:=Qad.mp up;obtain⟨ha,na⟩:=Classical.not_imp.mp ha;obtain⟨b,hb⟩:=Qad.mp dn;obtain⟨hb,nb⟩:=Classical.not_imp.mp hb;have pa:=Q3.mp na;have pb:=Q3.mp nb;rcases Nat.lt_trichotomy a b with z | z | z
   ·exact(two' a b z hb).1 ⟨pa,pb⟩
   ·subst z;exact absurd pa (by grind)
   ·exact(two' b a z ha).2 ⟨pb,pa⟩
def zMT{R:Rat->Int->Prop}:∀ {xs:List Rat} {c1 c2:List Int},A2 R xs (c1++c2)->A2 R (xs.take c1.length) c1/\A2 R (xs.drop c1.length) c2
 | xs,[],c2,h=>⟨trivial,h⟩
 | x::xs,c::c1,c2,h=>by
  have:=zMT (xs:=xs) (c1:=c1) (c2:=c2) h.2
  exact⟨⟨h.1,this.1⟩,this.2⟩
def zRB{R:Rat->Int->Prop}:∀ {xs:List Rat} {cs:List Int},xs.length=cs.length->(∀ i,i<cs.length->R (xs.getD i 0) (cs.getD i 0))->A2 R xs cs
 | [],[],_,_=>trivial
 | x::xs,c::cs,hl,h=>⟨h 0 (Yy _),zRB (by simpa using hl) fun i hi=>h (i+1) (by rw[Qk];omega)⟩
def zLr:∀ {xs:List Rat} {cs:List Int},A2 Bc xs cs->0<=xs.sum/\xs.sum<=((cs.sum:Int):Rat)
 | [],[],_=>⟨Vi,Vi⟩
 | x::xs,c::cs,h=>by
  have:=zLr h.2
  have:=h.1
  rw[Qn,Qn,Q6];unfold Bc at this;constructor<;>grind
def zPr{n:Nat}:∀ {ks:List D} {xs:List Rat},A2 Bc xs (ks.flatMap (clm n))->(∀ l k,ks[l]?=some k->A2 Bc ((uE (fun k=>(clm n k).length) ks xs).getD l []) (clm n k))/\xs.sum=((uE (fun k=>(clm n k).length) ks xs).map List.sum).sum
 | [],xs,h=>by
  have:xs=[]:=by
   cases xs with
   | nil=>rfl
   | cons a r=>exact h.elim
  subst this;exact⟨fun l k hl=>(by cases l<;>cases hl),rfl⟩
 | k::r,xs,h=>by
  rw[V0] at h;obtain⟨h1,h2⟩:=zMT h;obtain⟨i1,i2⟩:=zPr h2;refine⟨fun l k' hl=>?_,?_⟩
  ·cases l with
   | zero=>cases hl;exact h1
   | succ l=>exact i1 l k' (by simpa using hl)
  ·rw[uE,Qg,Qn,<-i2,<-eY,Yo]
def zMV{P:D->Rat->List Rat->Prop}{m:D->Nat}{f:Nat->Rat}:∀ {ks:List D} {i:Nat} {xs:List Rat},xs.length=(ks.map m).sum->(∀ l k,ks[l]?=some k->P k (f (i+l)) ((uE m ks xs).getD l []))->ShL P ks f i xs
 | [],i,xs,hl,_=>by
  show xs=[]
  exact List.length_eq_zero_iff.mp hl
 | k::r,i,xs,hl,h=>by
  rw[Qg,Qn] at hl;refine⟨xs.take (m k),xs.drop (m k),(Yo _ _).symm,h 0 k rfl,zMV (m:=m) (by rw[Vx];omega) fun l k' hl'=>?_⟩
  have:=h (l+1) k' (by simpa using hl')
  rw[show i+(l+1)=i+1+l by omega] at this;exact this
def zJQ{b:Nat}(hb:b<=300):∀ {n:Nat} {d:D} {xs:List Rat},n<=9->Gc n d->AR n d xs->A2 Bc xs (clm n d)->Am b xs->Sh n d xs.sum xs
 | 0,_,_,_,g,_,_,_=>g.1.elim
 | n+1,d,xs,h9,g,ar,bd,am=>by
  rcases g.1 with⟨c,rfl⟩ | ⟨w,ws,ks,rfl,hw,k0,k1,w1,hy,hk⟩
  ·refine .inl ⟨c,rfl,?_⟩
   have ec:clm (n+1) (.tup [.str "boat", .int c])=[c]:=rfl;rw[ec] at bd
   match xs,bd with
   | [x],_=>rw[Qn,Vp,Xt]
  ·obtain⟨v,rfl⟩:=zCY hy.1
   have due:v.due ws (kcl n ks):=zDa (by rw[eR];exact hy.2)
   have cl:=g.cl hk k0;obtain⟨a1,a2⟩:=oG.mp ar;have ec:clm (n+1) (.tup [.str v.s,.tup (ws.map D.int),.tup ks])=ks.flatMap (clm n):=rfl;have es:(kcl n ks).sum=(clm (n+1) (.tup [.str v.s,.tup (ws.map D.int),.tup ks])).sum:=zAh ks;have bs:=zLr bd;rw[<-es] at bs;rw[ec] at bd;obtain⟨p1,p2⟩:=zPr bd;have kl:(kcl n ks).length=ks.length:=eR n ks;have pl:(pcs n ks xs).length=ks.length:=iK ks xs
   have sx:xs.sum=((List.range (kcl n ks).length).map (sK n ks xs)).sum:=by
    rw[p2,kl];have:=zDP n ks xs
    show((pcs n ks xs).map List.sum).sum=_
    rw[this,Q4];rfl
   have zq:=am.sum.1;have gs:=g.sum;have hq:Haul (41+b) xs.sum (kcl n ks).sum:=⟨bs.1,bs.2,zq⟩;obtain⟨f,_,al⟩:=yN (w:=v) (ws:=ws) (cs:=kcl n ks) (wd:=.lst (ws.map D.int)) (cd:=.lst ((kcl n ks).map D.int)) (.inl rfl) (.inl rfl) ⋯ due cl hq
   have dl:=(zOy due cl hq al).mono (show 41+b+370<=1400 by omega)
   have kb:∀ l k,ks[l]?=some k->0<=sK n ks xs l/\sK n ks xs l<=((clm n k).sum:Rat):=fun l k hl=>zLr (p1 l k hl)
   have cv:=zSG due cl (x:=sK n ks xs) (f:=f) (q:=xs.sum) (fun i hi=>by
    have hi':i<ks.length:=⋯
    have e:ks[i]?=some ks[i]:=Qj hi';have:=kb i _ e
    rw[(zAS (n:=n) e).2]
    exact this) (fun i j hij hj=>a1 i j hij ⋯) sx.symm al dl
   refine .inr ⟨v,ws,ks,f,rfl,due,al.mono ⋯,zMV (m:=fun k=>(clm n k).length) ?_ fun l k hl=>?_⟩
   ·have:=bd.len
    rw[this,List.length_flatMap]
   ·have hl':l<ks.length:=(Qy.mp hl).1
    rw[Q8,<-cv l ⋯];exact zJQ hb ⋯ (g.kid hk (Qf hl)) (a2 l k hl) (p1 l k hl) (am.pc l)
inductive Rch:Nat->D->List Rat->List Int->Nat->D->List Rat->Prop
 | here {n:Nat} {d:D} {xs:List Rat}:Rch n d xs [] n d xs
 | step {n m l:Nat} {v:Wy} {ws:List Int} {ks:List D} {k e:D} {xs ys:List Rat} {Q:List Int}:ks[l]?=some k->Rch n k ((pcs n ks xs).getD l []) Q m e ys->Rch (n+1) (.tup [.str v.s,.tup (ws.map D.int),.tup ks]) xs ((l:Int)::Q) m e ys
def tP{n:Nat}{v:Wy}{ws:List Int}{ks:List D}(g:Gc (n+1) (.tup [.str v.s,.tup (ws.map D.int),.tup ks])):(∀ k∈ks,IsC n k)/\0<ks.length/\v.due ws (kcl n ks):=by
 rcases g.1 with⟨c,e⟩ | ⟨w',ws',ks',e,hw,k0,k1,w1,hy,hk⟩
 ·simp at e
 ·simp only[D.tup.injEq,Xv,and_true,D.str.injEq] at e
  obtain⟨e1,e2,rfl⟩:=e;have:=xY e2
  subst this;subst e1;obtain⟨v',e3⟩:=zCY hy.1;have:=zMk e3
  subst this;exact⟨hk,k0,zDa (by rw[eR];exact hy.2)⟩
def Rch.gc{n m:Nat}{d e:D}{xs ys:List Rat}{Q:List Int}(h:Rch n d xs Q m e ys):Gc n d->Gc m e/\m<=n:=by
 induction h with
 | here=>intro g;exact⟨g,Qb _⟩
 | step hk _ ih=>
  intro g;obtain⟨a,b⟩:=ih (g.kid (tP g).1 (Qf hk));exact⟨a,⋯⟩
def Rch.am{b n m:Nat}{d e:D}{xs ys:List Rat}{Q:List Int}(h:Rch n d xs Q m e ys):Am b xs->Am b ys:=by
 induction h with
 | here=>exact id
 | step _ _ ih=>intro am;exact ih (am.pc _)
def Rch.len{n m:Nat}{d e:D}{xs ys:List Rat}{Q:List Int}(h:Rch n d xs Q m e ys):Q.length+m=n:=by
 induction h with
 | here=>exact Q8 _
 | step _ _ ih=>rw[Qk];omega
def zDR{ks:List D}{k:D}{l:Nat}(h:ks[l]?=some k):oIx (.tup ks) (.int (l:Int))=.ok k:=by
 have:=qK (f:=fun d:D=>d) (l:=ks) (i:=(l:Int)) (a:=k) (Q2 l) (by rw[Vb];exact h)
 rwa [Uh] at this
def zGq{n m:Nat}{d e:D}{xs ys:List Rat}{Q:List Int}(h:Rch n d xs Q m e ys):Gc n d->∀(a1 a2 a3:Sl),∃ b2 b3,loop (gName 2) fI (Q.map D.int) [.val d,a1,a2,a3]=.ok (.nx [.val e,a1,b2,b3]):=by
 induction h with
 | here=>intro _ a1 a2 a3;exact⟨a2,a3,rfl⟩
 | @step n m l v ws ks k e xs ys Q hk _ ih=>
  intro g a1 a2 a3;have gk:=tP g;obtain⟨b2,b3,eb⟩:=ih (g.kid gk.1 (Qf hk)) a1 (.val (.int (l:Int))) (.val (.tup ks));have hl:l<ks.length:=(Qy.mp hk).1;have ix:=zDR hk;refine⟨b2,b3,?_⟩
  rw[Qg,cD (ρ1:=[.val (.tup [.str v.s,.tup (ws.map D.int),.tup ks]),a1,.val (.int (l:Int)),a3]) rfl (ρ2:=[.val k,a1,.val (.int (l:Int)),.val (.tup ks)]) ?_,eb];erw[cM (dU v),Ji (show ¬ (l:Int)<0 by omega),Ji (show ¬ (ks.length:Int)<=(l:Int) by omega),ix];symm
def zKZ{n m:Nat}{d e:D}{xs ys:List Rat}{Q:List Int}(h:Rch n d xs Q m e ys)(g:Gc n d):gU [d,.tup (Q.map D.int)]=.ok (.v e):=by
 obtain⟨b2,b3,eb⟩:=zGq h g (.val (.tup (Q.map D.int))) .un .un;unfold gU;generalize hK:(fI:Sv)=K at eb ⊢;erw[eb];rfl
def zIH{kd:Bool}{n m:Nat}{d e:D}{xs ys:List Rat}{Q:List Int}(h:Rch n d xs Q m e ys):Gc n d->n<=9->∀(a2 a3:Sl),∃ b3,loop (gName 3) fN (Q.map D.int) [.val d,.val (mkA kd xs),a2,a3]=.ok (.nx [.val e,.val (mkA kd ys),a2,b3]):=by
 induction h with
 | here=>intro _ _ a2 a3;exact⟨a3,rfl⟩
 | @step n m l v ws ks k e xs ys Q hk _ ih=>
  intro g h9 a2 a3;have gk:=tP g;have l12:(ks.flatMap (clm n)).length<=12:=g.2.1;obtain⟨b3,eb⟩:=ih (g.kid gk.1 (Qf hk)) ⋯ a2 (.val (.int (l:Int)))
  have hl:l<ks.length:=(Qy.mp hk).1;have pl:(pcs n ks xs).length=ks.length:=iK ks xs;have ix:=zDR hk;refine⟨b3,?_⟩
  rw[Qg,cD (ρ1:=[.val (.tup [.str v.s,.tup (ws.map D.int),.tup ks]),.val (mkA kd xs),a2,.val (.int (l:Int))]) rfl (ρ2:=[.val k,.val (mkA kd ((pcs n ks xs).getD l [])),a2,.val (.int (l:Int))]) ?_,eb];erw[rF (dU v) ⋯ gk.1 l12];symm;rw[show uE (fun k=>(clm n k).length) ks xs=pcs n ks xs from rfl,zCF ⋯];erw[cM (dU v),ix];symm
def zCE{kd:Bool}{n m:Nat}{d e:D}{xs ys:List Rat}{Q:List Int}(h:Rch n d xs Q m e ys)(g:Gc n d)(h9:n<=9):dS [d,mkA kd xs,.tup (Q.map D.int)]=.ok (.v (mkA kd ys)):=by
 obtain⟨b3,eb⟩:=zIH (kd:=kd) h g h9 (.val (.tup (Q.map D.int))) .un;unfold dS;generalize hK:(fN:Sv)=K at eb ⊢;erw[eb];rfl
abbrev kt(v:Wy)(ws:List Int)(ks:List D):D:=.tup [.str v.s,.tup (ws.map D.int),.tup ks]
def zJu{kd:Bool}{n m i j b:Nat}{v:Wy}{ws:List Int}{ks:List D}{d:D}{xs ys:List Rat}{Q:List Int}(h:Rch n d xs Q (m+1) (kt v ws ks) ys)(g:Gc n d)(h9:n<=9)(am:Am b xs)(hb:b<=1200)(ij:i<j)(jk:j<ks.length):
  ∃ r:Bool,eA [d,mkA kd xs,iU (Q.map D.int) i j]=.ok (.v (.bl r))/\(r=true ↔ ¬ Rt3 m v ws ks ys i j):=by
 have fk:=zKZ h g;have fa:=zCE (kd:=kd) h g h9;obtain⟨ge,hm⟩:=h.gc g;obtain⟨hk,k0,due⟩:=tP ge;obtain⟨r,er,hr,_⟩:=zBK (kd:=kd) (i:=i) (j:=j) ge ⋯ hk k0 due (h.am am) hb ⋯ jk
 refine⟨r,?_,?_⟩
 ·unfold eA iU
  erw[fk,Ji (show ¬ (i:Int)<0 by omega),Ji (show ¬ (j:Int)<=(i:Int) by omega),cM (dU v),Ji (show ¬ (ks.length:Int)<=(j:Int) by omega),fa,er];symm
 ·constructor
  ·intro h z
   have:=hr.mpr z
   rw[h] at this;cases this
  ·intro z
   cases r with
   | true=>rfl
   | false=>exact absurd (hr.mp rfl) z
def Bad(n:Nat)(d:D)(xs:List Rat)(Q:List Int)(i j:Nat):Prop:=∃(m:Nat)(v:Wy)(ws:List Int)(ks:List D)(ys:List Rat),Rch n d xs Q (m+1) (kt v ws ks) ys/\i<j/\j<ks.length/\¬ Rt3 m v ws ks ys i j
def zTd{n m':Nat}{d e:D}{xs ys:List Rat}{Q:List Int}(h:Rch n d xs Q m' e ys):∀ {m:Nat} {v:Wy} {ws:List Int} {ks:List D} {i j:Nat},AR n d xs->m'=m+1->e=kt v ws ks->i<j->j<ks.length->Rt3 m v ws ks ys i j:=by
 induction h with
 | here=>
  intro m v ws ks i j ar em ee ij jk;subst em;subst ee;exact(oG.mp ar).1 i j ij jk
 | step hk _ ih=>
  intro m v ws ks i j ar em ee ij jk;exact ih ((oG.mp ar).2 _ _ hk) em ee ij jk
def sP{kd:Bool}{b:Nat}(hb:b<=1200):∀(n N:Nat)(d:D)(xs:List Rat)(P:List Int),Gc n d->n<=N->n<=9->Am b xs->P.length+n<=1000->
  (aU N [d,mkA kd xs,.tup (P.map D.int)]=.ok (.v .non)/\AR n d xs)∨∃(Q:List Int)(i j:Nat),aU N [d,mkA kd xs,.tup (P.map D.int)]=.ok (.v (iU ((P++Q).map D.int) i j))/\Bad n d xs Q i j
 | 0,_,_,_,_,g,_,_,_,_=>g.1.elim
 | n+1,0,_,_,_,_,h,_,_,_=>absurd h ⋯
 | n+1,N+1,d,xs,P,g,hN,h9,am,hP=>by
  rcases g.1 with⟨c,rfl⟩ | ⟨w,ws,ks,rfl,hw,k0,k1,w1,hy,hk⟩
  ·refine .inl ⟨?_,fun v ws ks e=>by simp at e⟩
   show bR (aU N) _=_
   unfold bR;erw[mE];symm
  ·obtain⟨v,rfl⟩:=zCY hy.1
   have due:v.due ws (kcl n ks):=zDa (by rw[eR];exact hy.2)
   have l12:(ks.flatMap (clm n)).length<=12:=g.2.1;have kl:=oE hk;have pl:(pcs n ks xs).length=ks.length:=iK ks xs;show(bR (aU N) _=_/\_)∨∃(Q:List Int)(i j:Nat),bR (aU N) _=_/\_
   rcases zAd (kd:=kd) (P:=P.map D.int) g ⋯ hk k0 due am hb with⟨eo,ho⟩ | ⟨i,j,ij,jk,eo,no,_⟩
   ·have gk0:=fun k (mk:k∈ks)=>g.kid (n:=n) hk mk
    generalize hd:D.tup [.str v.s,.tup (ws.map D.int),.tup ks]=d at *
    have lp:=wQ (g:=zCc (fT (gName 5) (fT (gName 6) zCd))) (b:=fM (aU N)) (ds:=lZ 0 ks) (ρ:=[.val d,.val (mkA kd xs),.val (.tup (P.map D.int)),.val .non,.val (.lst ((pcs n ks xs).map (mkA kd))),.un,.un])
     (fun l ρ=>∃ a3 a5 a6,ρ=[.val d,.val (mkA kd xs),.val (.tup (P.map D.int)),a3,.val (.lst ((pcs n ks xs).map (mkA kd))),a5,a6]/\∀ l' k,l' < l->ks[l']?=some k->AR n k ((pcs n ks xs).getD l' []))
     (fun l r=>∃(Q:List Int)(i j:Nat)(k:D),r=.v (iU ((P++[(l:Int)]++Q).map D.int) i j)/\ks[l]?=some k/\Bad n k ((pcs n ks xs).getD l []) Q i j) ⟨_,_,_,rfl,fun l' k h=>absurd h (Yp _)⟩ (by
     rintro l e ρ he ⟨a3,a5,a6,rfl,hp⟩
     obtain⟨k,hk',rfl⟩:=wA he;have hl:l<ks.length:=(Qy.mp hk').1;have mk:k∈ks:=Qf hk';rw[Q8]
     have ap:pG (.tup (P.map D.int)) (.tup [.int (l:Int)])=.ok (.tup ((P++[(l:Int)]).map D.int)):=by
      rw[Q9];exact Jj (by rw[Qi];show P.length+1<=16777216;omega)
     have gk:=gk0 k mk;rcases sP hb n N k ((pcs n ks xs).getD l []) (P++[(l:Int)]) gk ⋯ ⋯ (am.pc l) (by rw[Ql,X0];omega) with⟨er,ar⟩ | ⟨Q,i,j,er,nr⟩
     ·refine .inl ⟨[.val d,.val (mkA kd xs),.val (.tup (P.map D.int)),a3,.val (.lst ((pcs n ks xs).map (mkA kd))),.val (.int (l:Int)),.val k],[.val d,.val (mkA kd xs),.val (.tup (P.map D.int)),.val .non,.val (.lst ((pcs n ks xs).map (mkA kd))),.val (.int (l:Int)),.val k],?_,?_,_,_,_,rfl,fun l' k' h1 h2=>?_⟩
      ·symm
      ·symm
       rw[zCF ⋯];erw[ap,er];symm
      ·rcases X5 (show l'<=l by omega) with z | z
       ·exact hp l' k' z h2
       ·subst z;rw[hk'] at h2;cases h2;exact ar
     ·refine .inr ⟨[.val d,.val (mkA kd xs),.val (.tup (P.map D.int)),a3,.val (.lst ((pcs n ks xs).map (mkA kd))),.val (.int (l:Int)),.val k],_,?_,?_,Q,i,j,k,rfl,hk',nr⟩
      ·symm
      ·symm
       rw[zCF ⋯];erw[ap,er];symm;unfold iU
       symm)
    have head:bR (aU N) [d,mkA kd xs,.tup (P.map D.int)]=((loop (zCc (fT (gName 5) (fT (gName 6) zCd))) (fM (aU N)) (lZ 0 ks) [.val d,.val (mkA kd xs),.val (.tup (P.map D.int)),.val .non,.val (.lst ((pcs n ks xs).map (mkA kd))),.un,.un]).bind (yQ (kE (aU N)))).bind fin:=by
     unfold bR;symm;rw[<-hd,hZ (dU v),hd];erw[eo];symm;rw[<-hd,rF (dU v) ⋯ hk l12,hd];symm;rw[<-hd,cM (dU v),hd];symm;rfl
    rw[head];rcases lp with⟨ρ',e',a3,a5,a6,rfl,hp⟩ | ⟨l,r,hl,e',Q,i,j,k,rfl,hk',nr⟩
    ·rw[e']
     refine .inl ⟨rfl,?_⟩
     rw[<-hd,oG];refine⟨ho,fun l k h=>hp l k ?_ h⟩
     rw[sE];exact(Qy.mp h).1
    ·rw[e']
     refine .inr ⟨(l:Int)::Q,i,j,by rw[V5];rfl,?_⟩
     obtain⟨m,v',ws',ks',ys,r,ij,jk,no⟩:=nr;rw[<-hd];exact⟨m,v',ws',ks',ys,.step hk' r,ij,jk,no⟩
   ·refine .inr ⟨[],i,j,?_,n,v,ws,ks,xs,.here,ij,jk,no⟩
    rw[Vs];unfold bR;erw[hZ (dU v),eo];symm;unfold iU;symm
def zKG{n b:Nat}{d:D}{kd:Bool}{xs:List Rat}(g:Gc n d)(hn:n<=9)(am:Am b xs)(hb:b<=1200)(hl:xs.length=(clm n d).length):
  (∃ k:Nat,dQ [d,mkA kd xs]=.ok (.v (.tup [.str "over", .int (k:Int)]))/\k<(clm n d).length/\¬ (0<=xs.getD k 0/\xs.getD k 0<=cR (clm n d) k)/\∀ i,i<k->0<=xs.getD i 0/\xs.getD i 0<=cR (clm n d) i)∨
  (∃(Q:List Int)(i j:Nat),dQ [d,mkA kd xs]=.ok (.v (iU (Q.map D.int) i j))/\Bad n d xs Q i j/\Wi (clm n d) xs)∨(dQ [d,mkA kd xs]=.ok (.v (.tup [.str "catch", dq xs.sum]))/\AR n d xs/\Wi (clm n d) xs):=by
 have l12:=g.2.1
 have head:dQ [d,mkA kd xs]=((loop (zCc (fT (gName 2) (fT (gName 3) zCd))) lW (lZ 0 ((clm n d).map D.int)) [.val d,.val (mkA kd xs),.un,.un,.un]).bind (yQ iJ)).bind fin:=by
  unfold dQ;symm;rw[zGb g ⋯,Jj hl];erw[tN g ⋯];symm
 rw[head]
 rcases wQ (g:=zCc (fT (gName 2) (fT (gName 3) zCd))) (b:=lW) (ds:=lZ 0 ((clm n d).map D.int)) (ρ:=[.val d,.val (mkA kd xs),.un,.un,.un])
  (fun l ρ=>∃ a2 a3,ρ=[.val d,.val (mkA kd xs),a2,a3,.un]/\∀ i,i<l->0<=xs.getD i 0/\xs.getD i 0<=cR (clm n d) i)
  (fun l r=>r=.v (.tup [.str "over", .int (l:Int)])/\¬ (0<=xs.getD l 0/\xs.getD l 0<=cR (clm n d) l)/\∀ i,i<l->0<=xs.getD i 0/\xs.getD i 0<=cR (clm n d) i) ⟨_,_,rfl,fun i h=>absurd h (Yp _)⟩ (by
  rintro l e ρ he ⟨a2,a3,rfl,hp⟩
  obtain⟨a,ha,rfl⟩:=wA he;have hl':l<(clm n d).length:=by have:=(Qy.mp ha).1;rwa [Qi] at this
  rw[Qq,aZ hl'] at ha;cases ha;have cb:=g.2.2 _ (Qf (aZ hl'));rw[Q8]
  have mx:xs.getD l 0∈xs:=by
   have h:l<xs.length:=⋯
   rw[Qs,Qj h];exact V3 h
  have zx:=am.each mx;have io:=sN zx (n:=34) (l:=(((clm n d).getD l 0:Int):Rat)) ⟨by show((clm n d).getD l 0).natAbs<2^34;omega,by show 1<2^34;decide⟩ ⋯
  by_cases c:0<=xs.getD l 0/\xs.getD l 0<=cR (clm n d) l
  ·refine .inl ⟨[.val d,.val (mkA kd xs),.val (.int (l:Int)),.val (.int ((clm n d).getD l 0)),.un],[.val d,.val (mkA kd xs),.val (.int (l:Int)),.val (.int ((clm n d).getD l 0)),.un],?_,?_,_,_,rfl,fun i hi=>?_⟩
   ·symm
   ·symm
    rw[zGv ⋯];erw[cZ];symm;rw[io,Ji (Qr.mpr c.1),Ji (show ¬ (((clm n d).getD l 0:Int):Rat)<xs.getD l 0 from Qr.mpr c.2)];symm
   ·rcases X5 (show i<=l by omega) with z | z
    ·exact hp i z
    ·rw[z];exact c
  ·refine .inr ⟨[.val d,.val (mkA kd xs),.val (.int (l:Int)),.val (.int ((clm n d).getD l 0)),.un],_,?_,?_,rfl,c,hp⟩
   ·symm
   ·have bad:(decide (xs.getD l 0<0) || decide ((((clm n d).getD l 0:Int):Rat)<xs.getD l 0))=true:=by
     rw[Vn,decide_eq_true_iff,decide_eq_true_iff];by_cases q:0<=xs.getD l 0
     ·exact .inr (Q3.mp fun z=>c ⟨q,z⟩)
     ·exact .inl (Q3.mp q)
    erw[zGv ⋯,cZ];symm;rw[io,bad]
    symm) with⟨ρ',e',a2,a3,rfl,hp⟩ | ⟨l,r,hll,e',rfl,h1,h2⟩
 ·rw[e']
  rw[sE,Qi] at hp;have wi:Wi (clm n d) xs:=hp;refine .inr ?_
  rcases sP (kd:=kd) hb n 10 d xs [] g ⋯ hn am (by show 0+n<=1000;omega) with⟨ef,ar⟩ | ⟨Q,i,j,ef,nr⟩
  ·have ef:aU 10 [d,mkA kd xs,.tup []]=.ok (.v .non):=ef
   refine .inr ⟨?_,ar,wi⟩
   show(iJ _).bind fin=_
   erw[ef,am.tot ⋯];symm
  ·have ef:aU 10 [d,mkA kd xs,.tup []]=.ok (.v (iU (Q.map D.int) i j)):=ef
   refine .inl ⟨Q,i,j,?_,nr,wi⟩
   show(iJ _).bind fin=_
   erw[ef];unfold iU;symm
 ·rw[e']
  rw[sE,Qi] at hll;exact .inl ⟨l,rfl,hll,h1,h2⟩
def mkP(kp:Bool)(Q:List Int):D:=if kp then .lst (Q.map D.int) else .tup (Q.map D.int)
def zEr(kp:Bool)(Q:List Int):zKv (mkP kp Q)=.ok (Q.map D.int):=by cases kp<;>rfl
def xJ(c:Int):aT [.tup [.str "boat", .int c]]=.ok (.v (.tup [])):=by
 unfold aT;symm;first | rfl | (rw[show cU [.tup [.str "boat", .int c]]=.ok (.v (.bl true)) from rfl];rfl)
def zLe{g:Gv}{b:Sv}{d:D}{ds:List D}{ρ ρ1:Rho}{c:Str}(hg:g d ρ=.ok ρ1)(hb:b ρ1=.err c):loop g b (d::ds) ρ=.err c:=by
 rw[loop];simp only[hg,Res.bind,hb]
def zIu{q:Int}{d a1 a2 a3:Sl}{ks:List D}{e:D}(hd:d=.val e)(hk:aT [e]=.ok (.v (.tup ks)))(h:¬ (0<=q/\q<ks.length))(Q:List Int):loop (gName 2) fI ((q::Q).map D.int) [d,a1,a2,a3]=.err "Outside" := by
 subst hd;rw[Qg,zLe (ρ1:=[.val e,a1,.val (.int q),a3]) rfl];erw[hk];symm;by_cases h0:q<0
 ·rw[J5 h0]
  symm
 ·rw[Ji h0]
  erw[J5 (show(ks.length:Int)<=q by omega)];symm
def zLB{q:Int}{l:Nat}{a1 a2 a3:Sl}{ks:List D}{e k:D}(hk:aT [e]=.ok (.v (.tup ks)))(hq:q=(l:Int))(hl:ks[l]?=some k)(Q:List Int):loop (gName 2) fI ((q::Q).map D.int) [.val e,a1,a2,a3]=loop (gName 2) fI (Q.map D.int) [.val k,a1,.val (.int (l:Int)),.val (.tup ks)]:=by
 subst hq;have hl':l<ks.length:=(Qy.mp hl).1;rw[Qg,cD (ρ1:=[.val e,a1,.val (.int (l:Int)),a3]) rfl (ρ2:=[.val k,a1,.val (.int (l:Int)),.val (.tup ks)]) ?_];erw[hk,Ji (show ¬ (l:Int)<0 by omega),Ji (show ¬ (ks.length:Int)<=(l:Int) by omega),zDR hl];symm
def zKQ{v:Wy}{q:Int}{a1 a2 a3:Sl}{ws:List Int}{ks:List D}(h:¬ (0<=q/\q<ks.length))(Q:List Int):loop (gName 3) eU ((q::Q).map D.int) [.val (kt v ws ks),a1,a2,a3]=.ok (.ret (.v .non)):=by
 rw[Qg,gT (ρ1:=[.val (kt v ws ks),a1,a2,.val (.int q)]) rfl];erw[dU v];symm;by_cases h0:0<=q
 ·rw[J5 h0]
  erw[Ji (show ¬ q<(ks.length:Int) by omega)];symm
 ·rw[Ji h0]
  symm
def zGe{n:Nat}{v:Wy}{q:Int}{l:Nat}{a2 a3:Sl}{ws:List Int}{ks:List D}{k:D}{xs:List Rat}(g:Gc (n+1) (kt v ws ks))(h9:n<=8)(hq:q=(l:Int))(hl:ks[l]?=some k)(Q:List Int):loop (gName 3) eU ((q::Q).map D.int) [.val (kt v ws ks),.val (.lst (xs.map dq)),a2,a3]=loop (gName 3) eU (Q.map D.int) [.val k,.val (.lst (((pcs n ks xs).getD l []).map dq)),a2,.val (.int (l:Int))]:=by
 subst hq;have gk:=tP g;have l12:(ks.flatMap (clm n)).length<=12:=g.2.1;have hl':l<ks.length:=(Qy.mp hl).1;have pl:(pcs n ks xs).length=ks.length:=iK ks xs;have ip:oIx (.lst ((pcs n ks xs).map (mkA true))) (.int (l:Int))=.ok (.lst (((pcs n ks xs).getD l []).map dq)):=zCF ⋯
 have lp:=xF (w:=v.s) (x:=.tup (ws.map D.int)) (xs:=xs) h9 gk.1 l12;have ik:=zDR hl;rw[Qg,cD (ρ1:=[.val (kt v ws ks),.val (.lst (xs.map dq)),a2,.val (.int (l:Int))]) rfl (ρ2:=[.val k,.val (.lst (((pcs n ks xs).getD l []).map dq)),a2,.val (.int (l:Int))]) ?_];generalize (pcs n ks xs).map (mkA true)=P at lp ip;erw[dU v,J5 (show(0:Int)<=(l:Int) by omega),J5 (show(l:Int)<(ks.length:Int) by omega),lp,ip,ik];symm
def zMl:∀(Q:List Int){n:Nat}{d:D}{xs:List Rat},Gc n d->n<=9->
  (∃(m:Nat)(e:D)(ys:List Rat),Rch n d xs Q m e ys/\∀ a2 a3:Sl,∃ b3,loop (gName 3) eU (Q.map D.int) [.val d,.val (.lst (xs.map dq)),a2,a3]=.ok (.nx [.val e,.val (.lst (ys.map dq)),a2,b3]))∨
  ((∀ a1 a2 a3:Sl,loop (gName 2) fI (Q.map D.int) [.val d,a1,a2,a3]=.err "Outside")/\∀ a2 a3:Sl,loop (gName 3) eU (Q.map D.int) [.val d,.val (.lst (xs.map dq)),a2,a3]=.ok (.ret (.v .non)))
 | [],n,d,xs,_,_=>.inl ⟨n,d,xs,.here,fun a2 a3=>⟨a3,rfl⟩⟩
 | q::Q,0,d,xs,g,_=>g.1.elim
 | q::Q,n+1,d,xs,g,h9=>by
  have g0:=g;rcases g.1 with⟨c,rfl⟩ | ⟨w,ws,ks,rfl,hw,k0,k1,w1,hy,hk⟩
  ·refine .inr ⟨fun a1 a2 a3=>zIu rfl (xJ c) (by rintro⟨h1,h2⟩;rw[Xb] at h2;omega) Q,fun a2 a3=>?_⟩
   rw[Qg,gT (ρ1:=[.val (.tup [.str "boat", .int c]),.val (.lst (xs.map dq)),a2,.val (.int q)]) rfl];symm
  ·obtain⟨v,rfl⟩:=zCY hy.1
   by_cases h:0<=q/\q<ks.length
   ·obtain⟨l,rfl⟩:∃ l:Nat,q=(l:Int):=⟨q.toNat,(Y1 h.1).symm⟩
    have hl:ks[l]?=some (ks[l]'⋯):=Qj ⋯
    rcases zMl Q (xs:=(pcs n ks xs).getD l []) (g0.kid hk (Qf hl)) ⋯ with⟨m,e,ys,r,lp⟩ | ⟨h1,h2⟩
    ·refine .inl ⟨m,e,ys,.step hl r,fun a2 a3=>?_⟩
     rw[zGe g0 ⋯ rfl hl];exact lp _ _
    ·refine .inr ⟨fun a1 a2 a3=>?_,fun a2 a3=>?_⟩
     ·rw[zLB (cM (dU v)) rfl hl]
      exact h1 _ _ _
     ·rw[zGe g0 ⋯ rfl hl]
      exact h2 _ _
   ·exact .inr ⟨fun a1 a2 a3=>zIu rfl (cM (dU v)) h Q,fun a2 a3=>zKQ h Q⟩
def zKy{f g h k:Ev}{ρ:Rho}{a b c e:Int}(hf:f ρ=.ok (.int a))(hg:g ρ=.ok (.int b))(hh:h ρ=.ok (.int c))(hk:k ρ=.ok (.int e)):tQ oLe oLt oLt f g h k ρ=.ok (.bl (decide (0<=0) && (decide (a<=b) && (decide (b<c) && decide (c<e))))):=by
 unfold tQ;rw[hf];show(g ρ).bind _=_
 rw[hg];show zSz oLt oLt h k ρ (.int b) (.bl (decide (a<=b)))=_
 by_cases p:a<=b
 ·rw[J5 p]
  show(h ρ).bind _=_
  rw[hh];show zMr oLt k ρ (.int c) (.bl (decide (b<c)))=_
  by_cases p2:b<c
  ·rw[J5 p2]
   show(k ρ).bind _=_
   rw[hk];rfl
  ·rw[Ji p2]
   rfl
 ·rw[Ji p]
  rfl
def zFC{d:D}{kp:Bool}{Q:List Int}:gU [d,mkP kp Q]=((loop (gName 2) fI (Q.map D.int) [.val d,.val (mkP kp Q),.un,.un]).bind (yQ zAu)).bind fin:=by
 have e:=zEr kp Q;unfold gU;generalize mkP kp Q=p at e ⊢;generalize hK:(fI:Sv)=K;erw[e];symm
def zCW{d:D}{a:D}{kp:Bool}{Q:List Int}:dS [d,a,mkP kp Q]=((loop (gName 3) fN (Q.map D.int) [.val d,.val a,.val (mkP kp Q),.un]).bind (yQ qF)).bind fin:=by
 have e:=zEr kp Q;unfold dS;generalize mkP kp Q=p at e ⊢;generalize hK:(fN:Sv)=K;erw[e];symm
def zQg{d:D}{a:D}{kp:Bool}{Q:List Int}:kI [d,a,mkP kp Q]=((loop (gName 3) eU (Q.map D.int) [.val d,.val a,.val (mkP kp Q),.un]).bind (yQ yJ)).bind fin:=by
 have e:=zEr kp Q;unfold kI;generalize mkP kp Q=p at e ⊢;generalize hK:(eU:Sv)=K;erw[e];symm
abbrev prD(kp:Bool)(Q:List Int)(i j:Int):D:=.tup [.str "pair", mkP kp Q,.int i,.int j]
def zFa{d a p:D}{i j:Int}(h:gU [d,p]=.err "Outside"):eA [d,a,.tup [.str "pair", p,.int i,.int j]]=.ok (.v (.bl false)):=by
 unfold eA;erw[h,zGp];symm
def zAs{d a p e:D}{ks:List D}{i j:Int}(h:gU [d,p]=.ok (.v e))(hk:aT [e]=.ok (.v (.tup ks)))(n:¬ (0<=i/\i<j/\j<ks.length)):eA [d,a,.tup [.str "pair", p,.int i,.int j]]=.ok (.v (.bl false)):=by
 unfold eA;erw[h];symm;by_cases h0:i<0
 ·rw[J5 h0]
  symm
 ·rw[Ji h0]
  symm;by_cases h1:j<=i
  ·rw[J5 h1]
   symm
  ·rw[Ji h1]
   erw[hk,J5 (show(ks.length:Int)<=j by omega)];symm
def zDW{d a p e x:D}{ks:List D}{i j:Int}{r:Bool}(h:gU [d,p]=.ok (.v e))(hk:aT [e]=.ok (.v (.tup ks)))(n:0<=i/\i<j/\j<ks.length)(ha:dS [d,a,p]=.ok (.v x))(hw:fH [e,x,.int i,.int j]=.ok (.v (.bl r))):eA [d,a,.tup [.str "pair", p,.int i,.int j]]=.ok (.v (.bl r)):=by
 unfold eA;erw[h,Ji (show ¬ i<0 by omega),Ji (show ¬ j<=i by omega),hk,Ji (show ¬ (ks.length:Int)<=j by omega),ha,hw];symm
abbrev RS(d a p:D)(cs:List Int)(x:Sl):Rho:=[.val d,.val a,.val p,.val (.lst (cs.map D.int)),x,.un]
def pM{d a p:D}{cs:List Int}{i j:Int}(h:bH 10 [d]=.ok (.v (.lst (cs.map D.int)))){t:D}(hl:kI [d,a,p]=.ok (.v t)):cW [d,a,.tup [.str "pair", p,.int i,.int j]]=(dW (RS d a (.tup [.str "pair", p,.int i,.int j]) cs (.val t))).bind fin:=by
 unfold cW sB rQ qA;generalize hK:(dW:Sv)=K;erw[h,show(Str.ofString "pair" == Str.ofString "catch")=false from rfl,show(Str.ofString "pair" == Str.ofString "over")=false from rfl,hl];symm
def zIo{d a p:D}{cs:List Int}{i j:Int}:(dW (RS d a (.tup [.str "pair", p,.int i,.int j]) cs (.val .non))).bind fin=.ok (.v (.bl false)):=by
 symm
def zGF{d a p x:D}{cs:List Int}{i j c:Int}:(dW (RS d a (.tup [.str "pair", p,.int i,.int j]) cs (.val (.tup [.tup [.str "boat", .int c],x])))).bind fin=.ok (.v (.bl false)):=by
 symm
def zAj{v:Wy}{d a p x:D}{cs ws:List Int}{ks:List D}{i j:Int}:dW (RS d a (.tup [.str "pair", p,.int i,.int j]) cs (.val (.tup [kt v ws ks,x])))=if 0<=i/\i<j/\j<(ks.length:Int) then iN (RS d a (.tup [.str "pair", p,.int i,.int j]) cs (.val (.tup [kt v ws ks,x]))) else .ok (.ret (.v (.bl false))):=by
 have c3:=zKy (ρ:=RS d a (.tup [.str "pair", p,.int i,.int j]) cs (.val (.tup [kt v ws ks,x]))) (f:=eC (.int 0)) (g:=eOp oIx (aE 2) (eC (.int 2))) (h:=eOp oIx (aE 2) (eC (.int 3))) (k:=eB kU (aB (eOp oIx (eOp oIx (aE 4) (eC (.int 0))) (eC (.int 2))) aNil)) (a:=0) (b:=i) (c:=j) (e:=(ks.length:Int)) rfl rfl rfl rfl;generalize hE:(tQ oLe oLt oLt (eC (.int 0)) (eOp oIx (aE 2) (eC (.int 2))) (eOp oIx (aE 2) (eC (.int 3))) (eB kU (aB (eOp oIx (eOp oIx (aE 4) (eC (.int 0))) (eC (.int 2))) aNil)):Ev)=E at c3;have e11:dW=(aW (sIf (zAz (cX (zPl (aE 4))) (zAz (cX (eOp oEq (eOp oIx (eOp oIx (aE 4) (eC (.int 0))) (eC (.int 0))) (eC (.str "boat")))) (zDM (cX E)))) (dM (eC (.bl false))) sNext) iN):=by rw[<-hE]
 rw[e11];generalize hK:(iN:Sv)=K;erw[dU v];symm;rw[show E [.val d,.val a,.val (.tup [.str "pair", p,.int i,.int j]),.val (.lst (cs.map D.int)),.val (.tup [.tup [.str v.s,.tup (ws.map D.int),.tup ks],x]),.un]=_ from c3];by_cases h0:0<=i
 ·by_cases h1:i<j
  ·by_cases h2:j<(ks.length:Int)
   ·rw[J5 h0,J5 h1,J5 h2,Jj ⟨h0,h1,h2⟩]
    symm
   ·rw[J5 h0,J5 h1,Ji h2,Jk fun z=>h2 z.2.2]
    symm
  ·rw[J5 h0,Ji h1,Jk fun z=>h1 z.2.1]
   symm
 ·rw[Ji h0,Jk fun z=>h0 z.1]
  symm
def zRH{d:D}(g:Gc 8 d):bH 10 [d]=.ok (.v (.lst ((clm 8 d).map D.int))):=by
 have lc:=iO 10 d (fP g.1 ∅) (by rw[dR g.1 ∅];have:=g.2.1;omega)
 rwa [dR g.1 (show 8<=10 by decide)] at lc
def zLv{d:D}{xs:List Rat}(g:Gc 8 d)(am:Am 260 xs)(kp:Bool)(Q:List Int)(i j:Int):∃ r:Bool,(∀ kd,eA [d,mkA kd xs,prD kp Q i j]=.ok (.v (.bl r)))/\cW [d,.lst (xs.map dq),prD kp Q i j]=.ok (.v (.bl r)):=by
 have lc:=zRH g;rcases zMl Q (xs:=xs) g ∅ with⟨m,e,ys,r,lp⟩ | ⟨h1,h2⟩
 ·have ek:gU [d,mkP kp Q]=.ok (.v e):=by
   obtain⟨b2,b3,eb⟩:=zGq r g (.val (mkP kp Q)) .un .un;rw[zFC,eb];rfl
  have el:kI [d,.lst (xs.map dq),mkP kp Q]=.ok (.v (.tup [e,.lst (ys.map dq)])):=by
   obtain⟨b3,eb⟩:=lp (.val (mkP kp Q)) .un;rw[zQg,eb];rfl
  obtain⟨ge,hm⟩:=r.gc g
  cases m with
  | zero=>exact ge.1.elim
  | succ m=>
   have ge0:=ge;rcases ge.1 with⟨c,rfl⟩ | ⟨w,ws,ks,rfl,hw,k0,k1,w1,hy,hk⟩
   ·refine⟨false,fun kd=>zAs ek (xJ c) (by rintro⟨h1,h2,h3⟩;rw[Xb] at h3;omega),?_⟩
    rw[pM lc el];exact zGF
   ·obtain⟨v,rfl⟩:=zCY hy.1
    have kd':aT [kt v ws ks]=.ok (.v (.tup ks)):=cM (dU v);by_cases n:0<=i/\i<j/\j<ks.length
    ·obtain⟨i,rfl⟩:∃ l:Nat,i=(l:Int):=⟨i.toNat,(Y1 n.1).symm⟩
     obtain⟨j,rfl⟩:∃ l:Nat,j=(l:Int):=⟨j.toNat,(Y1 ⋯).symm⟩
     obtain⟨_,_,due⟩:=tP ge0;have ay:=r.am am
     have fa:∀ kd,dS [d,mkA kd xs,mkP kp Q]=.ok (.v (mkA kd ys)):=fun kd=>by
      obtain⟨b3,eb⟩:=zIH (kd:=kd) r g ∅ (.val (mkP kp Q)) .un
      rw[zCW,eb];rfl
     have ps:=fun kd=>zCT (kd:=kd) (i:=i) (j:=j) ge0 ⋯ hk k0 due ay ∅ ⋯ ⋯
     obtain⟨r0,w0,s0⟩:=ps true;have kl:=oE hk;have l12:(ks.flatMap (clm m)).length<=12:=ge0.2.1;have lpt:=xF (w:=v.s) (x:=.tup (ws.map D.int)) (xs:=ys) (show m<=8 by omega) hk l12
     refine⟨r0,fun kd=>?_,?_⟩
     ·obtain⟨r1,w1,s1⟩:=ps kd
      rw[s0] at s1;injection s1 with s1
      injection s1 with s1
      injection s1 with s1
      subst s1;exact zDW ek kd' n (fa kd) w1
     ·rw[pM lc el,zAj,Jj n]
      have sums:∀ a1:Sl,zGM uC (aN fL (aB (aE 6) aNil)) [.val d,a1,.val (prD kp Q i j),.val (.lst ((clm 8 d).map D.int)),.val (.tup [kt v ws ks,.lst (ys.map dq)]),.un] ((pcs m ks ys).map (mkA true))=.ok (((List.range ks.length).map (sK m ks ys)).map dq):=fun a1=>by
       rw[wE (u:=mkA true) (g:=fun p=>dq p.sum) (by rw[show(pcs m ks ys).length=ks.length from iK ks ys];omega) (fun p hp=>by
        have ap:Am 260 p:=by
         obtain⟨l,hl,rfl⟩:=W5.mp hp;have:=ay.pc (n:=m) (ks:=ks) l
         rwa [Qs,Qj hl] at this
        erw[show fL [mkA true p]=.ok (.v (dq p.sum)) from zDx ap ⋯]
        symm)]
       rw[zDP,Q4,Q4];rfl
      have sums:=sums (.val (.lst (xs.map dq)));generalize (pcs m ks ys).map (mkA true)=P at lpt sums;generalize ((List.range ks.length).map (sK m ks ys)).map dq=S at s0 sums;erw[lpt,sums,s0];symm
    ·refine⟨false,fun kd=>zAs ek kd' n,?_⟩
     rw[pM lc el,zAj,Jk n];rfl
 ·refine⟨false,fun kd=>zFa (by rw[zFC,h1];rfl),?_⟩
  rw[pM lc (t:=.non) (by rw[zQg,h2];rfl)];exact zIo
def zIs(q:Rat):decide (q.num<0)=decide (q<0):=by
 by_cases h:q<0
 ·rw[J5 h,J5 (Int.not_le.mp fun z=>absurd (Y0.mp z) (Q3.mpr h))]
 ·rw[Ji h,Ji (Int.not_lt.mpr (Y0.mpr (Qr.mp h)))]
def zGg{d:D}{xs:List Rat}(g:Gc 8 d)(am:Am 260 xs)(lx:xs.length=(clm 8 d).length)(k:Int):∃ r:Bool,(∀ kd,kG [d,mkA kd xs,.int k]=.ok (.v (.bl r)))/\cW [d,.lst (xs.map dq),.tup [.str "over", .int k]]=.ok (.v (.bl r))/\∀ l:Nat,k=(l:Int)->l<(clm 8 d).length->¬ (0<=xs.getD l 0/\xs.getD l 0<=cR (clm 8 d) l)->r=true:=by
 have lc:=zRH g;by_cases h:0<=k/\k<((clm 8 d).length:Int)
 ·obtain⟨l,rfl⟩:∃ l:Nat,k=(l:Int):=⟨k.toNat,(Y1 h.1).symm⟩
  have hk:l<(clm 8 d).length:=⋯
  have cb:=g.2.2 _ (Qf (aZ hk));have hx:l<xs.length:=⋯
  have mx:xs.getD l 0∈xs:=by
   rw[Qs,Qj hx];exact V3 hx
  have zc:Sz 34 (((clm 8 d).getD l 0:Int):Rat):=⟨by show((clm 8 d).getD l 0).natAbs<2^34;omega,by show 1<2^34;decide⟩
  have io:=sN (am.each mx) zc ∅
  have ls:=gM zc (am.each mx) ∅
  have ick:oIx (.lst ((clm 8 d).map D.int)) (.int (l:Int))=.ok (.int ((clm 8 d).getD l 0)):=nH (Q2 l) (aZ hk);refine⟨decide (xs.getD l 0<0) || decide ((((clm 8 d).getD l 0:Int):Rat)<xs.getD l 0),fun kd=>?_,?_,fun l' e hl no=>?_⟩
  ·have ix:oIx (mkA kd xs) (.int (l:Int))=.ok (dq (xs.getD l 0)):=zGv hx
   have ml:=zEk kd xs;generalize mkA kd xs=a at ix ml;unfold kG;erw[Ji (show ¬ (l:Int)<0 by omega),ml,Ji (show ¬ (xs.length:Int)<=(l:Int) by omega),ix,tN g ∅,ick,cZ,io];symm
  ·have ix:oIx (.lst (xs.map dq)) (.int (l:Int))=.ok (dq (xs.getD l 0)):=zFt hx
   unfold cW;erw[lc,show(Str.ofString "over" == Str.ofString "catch")=false from rfl,J5 (show(0:Int)<=(l:Int) by omega),J5 (show(l:Int)<((clm 8 d).length:Int) by omega),ix,zIs];by_cases z:xs.getD l 0<0
   ·rw[J5 z]
    symm
   ·rw[Ji z]
    erw[ick,ix];symm;rw[show D.tup [.int ((clm 8 d).getD l 0),.int 1]=dq (((clm 8 d).getD l 0:Int):Rat) from rfl,ls];symm
  ·have e':l=l':=⋯
   subst e';have ce:cR (clm 8 d) l=(((clm 8 d).getD l 0:Int):Rat):=rfl;rw[Vn,decide_eq_true_iff,decide_eq_true_iff,<-ce];by_cases q:0<=xs.getD l 0
   ·exact .inr (Q3.mp fun y=>no ⟨q,y⟩)
   ·exact .inl (Q3.mp q)
 ·refine⟨false,fun kd=>?_,?_,fun l e hl _=>absurd ⟨⋯,⋯⟩ h⟩
  ·have ml:=zEk kd xs
   generalize mkA kd xs=a at ml;unfold kG;symm;by_cases h0:k<0
   ·rw[J5 h0]
    symm
   ·rw[Ji h0]
    erw[ml,J5 (show(xs.length:Int)<=k by omega)];symm
  ·unfold cW
   erw[lc,show(Str.ofString "over" == Str.ofString "catch")=false from rfl];symm;by_cases h0:0<=k
   ·rw[J5 h0]
    erw[Ji (show ¬ k<((clm 8 d).length:Int) by omega)];symm
   ·rw[Ji h0]
    symm
def zIU(a b:List Rat):oEq (.lst (a.map dq)) (.lst (b.map dq))=.ok (.bl (decide (a=b))):=by
 have e:∀ a b:List Rat,uZ (a.map dq) (b.map dq)=decide (a=b):=by
  intro a
  induction a with
  | nil=>intro b;cases b with
   | nil=>simp[uZ]
   | cons y b=>simp[uZ]
  | cons x a ih=>intro b;cases b with
   | nil=>simp[uZ]
   | cons y b=>
    rw[Qg,Qg,uZ,ih,eq_dq];by_cases h1:x=y<;>by_cases h2:a=b<;>simp[h1,h2]
 have dp:∀ l:List Rat,depS (l.map dq)<=10:=by
  intro l
  induction l with
  | nil=>simp[depS]
  | cons x l ih=>rw[Qg,depS,dep_dq];omega
 unfold oEq;rw[Jj (by rw[dep];have:=dp a;omega)];show Res.ok (D.bl (uZ (a.map dq) (b.map dq)))=_
 rw[e]
def zCr{d:D}{xs:List Rat}{q:Rat}(g:Gc 8 d)(lx:xs.length=(clm 8 d).length)(zq:Sz 400 q):∃ r:Bool,(∀ kd,gG [d,mkA kd xs,dq q]=.ok (.v (.bl r)))/\cW [d,.lst (xs.map dq),.tup [.str "catch", dq q]]=.ok (.v (.bl r))/\(r=true ↔ 0<=q/\q<=((clm 8 d).sum:Rat)/\Sh 8 d q xs):=by
 have lc:=zRH g;have l12:=g.2.1;have gs:=g.sum;have fc:=fun kd=>zHw (kd:=kd) (xs:=xs) (b:=1) g ∅ zq ∅ ⋯
 obtain⟨r,er,hr⟩:=fc true;have zs:Sz 34 (((clm 8 d).sum:Int):Rat):=⟨by show((clm 8 d).sum).natAbs<2^34;omega,by show 1<2^34;decide⟩
 have ls:=gM zs zq ∅
 refine⟨r,fun kd=>?_,?_,hr⟩
 ·obtain⟨r',er',hr'⟩:=fc kd
  rw[er']
  have:r'=r:=by
   cases r<;>cases r'
   ·rfl
   ·exact absurd (hr.mpr (hr'.mp rfl)) ∅
   ·exact absurd (hr'.mpr (hr.mp rfl)) ∅
   ·rfl
  rw[this]
 ·have ne:∀ p:Prop,(r=true ↔ p)->¬ p->r=false:=fun p h n=>by
   cases r
   ·rfl
   ·exact absurd (h.mp rfl) n
  unfold cW;erw[lc,zIs];by_cases z:q<0
  ·rw[J5 z,ne _ hr fun h=>absurd h.1 (Q3.mpr z)]
   symm
  ·rw[Ji z]
   symm;rw[show D.tup [.int (clm 8 d).sum,.int 1]=dq (((clm 8 d).sum:Int):Rat) from rfl,ls];by_cases z2:(((clm 8 d).sum:Int):Rat)<q
   ·rw[J5 z2,ne _ hr fun h=>absurd h.2.1 (Q3.mpr z2)]
    symm
   ·rw[Ji z2]
    symm;obtain⟨ys,ey,sy⟩:=zBw (m:=400) g ∅ (Qr.mp z) (Qr.mp z2) (by have:=zq.2;exact_mod_cast this) ∅
    rw[ey];erw[zIU]
    have:r=decide (xs=ys):=by
     by_cases e:xs=ys
     ·rw[J5 e]
      exact hr.mpr ⟨Qr.mp z,Qr.mp z2,by rw[e];exact sy⟩
     ·rw[Ji e]
      exact ne _ hr fun h=>e (zMw g h.2.2 sy)
    rw[this];symm
def Pap(p:D):Prop:=(∃ k:Int,p=.tup [.str "over", .int k])∨(∃ q:Rat,Sz 400 q/\p=.tup [.str "catch", dq q])∨∃(kp:Bool)(Q:List Int)(i j:Int),Q.length<=1000/\p=prD kp Q i j
def unl{d:D}{xs:List Rat}(g:Gc 8 d)(lx:xs.length=(clm 8 d).length)(kd:Bool):bQ [d,mkA kd xs]=.ok (.v .non):=by
 rw[zGb g ∅,Jj lx]
def zHX{d a:D}{k:Int}(hu:bQ [d,a]=.ok (.v .non)){b:Bool}(h:kG [d,a,.int k]=.ok (.v (.bl b))):fV [d,a,.tup [.str "over", .int k]]=.ok (.v (.bl b)):=by
 unfold fV;erw[hu,show(Str.ofString "over" == Str.ofString "catch")=false from rfl,h];symm
def zJH{d a q:D}(hu:bQ [d,a]=.ok (.v .non)){b:Bool}(h:gG [d,a,q]=.ok (.v (.bl b))):fV [d,a,.tup [.str "catch", q]]=.ok (.v (.bl b)):=by
 unfold fV;erw[hu,h];symm
def zIM{d a p:D}{i j:Int}(hu:bQ [d,a]=.ok (.v .non)){b:Bool}(h:eA [d,a,.tup [.str "pair", p,.int i,.int j]]=.ok (.v (.bl b))):fV [d,a,.tup [.str "pair", p,.int i,.int j]]=.ok (.v (.bl b)):=by
 unfold fV;erw[hu,show(Str.ofString "pair" == Str.ofString "catch")=false from rfl,show(Str.ofString "pair" == Str.ofString "over")=false from rfl,h];symm
def zNT{d p:D}{xs:List Rat}(g:Gc 8 d)(am:Am 260 xs)(lx:xs.length=(clm 8 d).length)(hp:Pap p):∃ r:Bool,(∀ kd,fV [d,mkA kd xs,p]=.ok (.v (.bl r)))/\cW [d,.lst (xs.map dq),p]=.ok (.v (.bl r)):=by
 rcases hp with⟨k,rfl⟩ | ⟨q,zq,rfl⟩ | ⟨kp,Q,i,j,_,rfl⟩
 ·obtain⟨r,h1,h2,_⟩:=zGg g am lx k
  exact⟨r,fun kd=>zHX (unl g lx kd) (h1 kd),h2⟩
 ·obtain⟨r,h1,h2,_⟩:=zCr g lx zq
  exact⟨r,fun kd=>zJH (unl g lx kd) (h1 kd),h2⟩
 ·obtain⟨r,h1,h2⟩:=zLv g am kp Q i j
  exact⟨r,fun kd=>zIM (unl g lx kd) (h1 kd),h2⟩
def zNZ{d:D}{xs:List Rat}(g:Gc 8 d)(am:Am 260 xs)(lx:xs.length=(clm 8 d).length):∃ t,dQ [d,.lst (xs.map dq)]=.ok (.v t)/\fV [d,.lst (xs.map dq),t]=.ok (.v (.bl true)):=by
 have hu:bQ [d,.lst (xs.map dq)]=.ok (.v .non):=unl g lx true;rcases zKG (kd:=true) g ∅ am ∅ lx with⟨k,e,hk,n,_⟩ | ⟨Q,i,j,e,bad,wi⟩ | ⟨e,ar,wi⟩
 ·refine⟨_,e,?_⟩
  obtain⟨r,h1,_,h3⟩:=zGg g am lx (k:Int);have:=h3 k rfl hk n
  subst this;exact zHX hu (h1 true)
 ·refine⟨_,e,?_⟩
  obtain⟨m,v,ws,ks,ys,r,ij,jk,no⟩:=bad;obtain⟨b,eb,hb⟩:=zJu (kd:=true) r g ∅ am ∅ ij jk
  have:=hb.mpr no
  subst this;exact zIM hu eb
 ·refine⟨_,e,?_⟩
  have a2:A2 Bc xs (clm 8 d):=zRB lx fun i hi=>wi i hi
  have bs:=zLr a2;obtain⟨r,h1,_,h3⟩:=zCr (q:=xs.sum) g lx (am.sum.1.mono ∅)
  have:=h3.mpr ⟨bs.1,bs.2,zJQ (b:=260) ∅ ∅ g ar a2 am⟩
  subst this;exact zJH hu (h1 true)
def zNq{ks:List D}{q:Int}(h:0<=q/\q<ks.length):∃ k,ks[q.toNat]?=some k/\oIx (.tup ks) (.int q)=.ok k:=by
 have hl:q.toNat<ks.length:=⋯
 have e:ks[q.toNat]?=some ks[q.toNat]:=Qj hl;refine⟨_,e,?_⟩
 have:=zDR e
 rwa [Y1 h.1] at this
abbrev RPp(d a:D)(c:Int)(P:List Int)(rest:Int)(spot:D)(a6 a7 a8:Sl):Rho:=[.val d,.val a,.val (.int c),.own (P.map D.int),.val (.int rest),.val spot,a6,a7,a8,.un,.un]
def zKk{n:Nat}{d a spot:D}{c rest k:Int}{P:List Int}{a7 a8:Sl}(g:Gc n spot)(hP:P.length<=100):∃(P':List Int)(rest':Int)(spot':D)(n':Nat)(b7 b8:Sl),lP (RPp d a c P rest spot (.val (.int k)) a7 a8)=.ok (.nx (RPp d a c P' rest' spot' (.val (.int k)) b7 b8))/\P'.length<=P.length+1/\Gc n' spot':=by
 cases n with
 | zero=>exact g.1.elim
 | succ n=>
  have g0:=g;rcases g.1 with⟨x,rfl⟩ | ⟨w,ws,ks,rfl,hw,k0,k1,w1,hy,hk⟩
  ·refine⟨P,rest,_,n+1,a7,a8,?_,⋯,g0⟩
   symm
  ·obtain⟨v,rfl⟩:=zCY hy.1
   generalize hat:rest % ((ks.length:Int)+1)-rest / 50 % 6 / 5=at'
   have tail:∃(spot':D)(n':Nat),kL (RPp d a c (P++[at']) (rest / ((ks.length:Int)+1)) (kt v ws ks) (.val (.int k)) (.val (.int (ks.length:Int))) (.val (.int at')))=.ok (.nx (RPp d a c (P++[at']) (rest / ((ks.length:Int)+1)) spot' (.val (.int k)) (.val (.int (ks.length:Int))) (.val (.int at'))))/\Gc n' spot':=by
    by_cases h:0<=at'/\at' < ks.length
    ·obtain⟨e,he,ix⟩:=zNq h
     refine⟨e,n,?_,g0.kid hk (Qf he)⟩
     erw[J5 h.1,J5 h.2,ix];symm
    ·refine⟨kt v ws ks,n+1,?_,g0⟩
     symm;by_cases h0:0<=at'
     ·rw[J5 h0]
      erw[Ji (show ¬ at' < (ks.length:Int) by omega)];symm
     ·rw[Ji h0]
      symm
   obtain⟨spot',n',et,gs⟩:=tail;refine⟨P++[at'],rest / ((ks.length:Int)+1),spot',n',.val (.int (ks.length:Int)),.val (.int at'),?_,by rw[Ql];exact Qb _,gs⟩
   rw[<-et];unfold lP qH qB oW;generalize hK:(kL:Sv)=K;erw[dU v];symm;rw[oMod_i (show(ks.length:Int)+1≠0 by omega),fmod_pos _ (show(0:Int)<(ks.length:Int)+1 by omega)];erw[hat];rw[Jj ⋯];symm;rw[oDiv_i (rD (m:=60) ⋯ ⋯ ∅),fdiv_pos _ (show(0:Int)<(ks.length:Int)+1 by omega)];erw[show List.map D.int P++[D.int at']=(P++[at']).map D.int by rw[Q9];rfl]
def zHz(a b k:Int):∃ y:Int,oIx (.lst [.int a,.int b]) (.int (k % 2))=.ok (.int y)/\(y=a∨y=b):=by
 rcases (show k % 2=0∨k % 2=1 by omega) with h | h<;>rw[h]
 ·exact⟨a,rfl,.inl rfl⟩
 ·exact⟨b,rfl,.inr rfl⟩
def zKI{d:D}{xs:List Rat}(g:Gc 8 d)(am:Am 260 xs)(cell:Int):∃ ps:List D,iS [d,.lst (xs.map dq),.int cell]=.ok (.f ps)/\ps.length<=10/\∀ p∈ps,Pap p:=by
 have lc:=zRH g;have l12:=g.2.1;unfold iS pU qC pZ pQ;generalize hK:(oP:Sv)=K;erw[oPow_i (show rA 10 45=true by decide)];symm;generalize cell % 10^45=c;have m0:0<=c % 5:=Qv _ ∅
 have m1:c % 5<5:=Q5 _ ∅
 rw[zAL ⋯ ⋯];symm;refine oY (Q:=fun r=>∃ ps:List D,r.bind fin=.ok (.f ps)/\ps.length<=10/\∀ p∈ps,Pap p) (k:=yQ K) (fun i ρ=>∃(P:List Int)(rest:Int)(spot:D)(n:Nat)(a6 a7 a8:Sl),ρ=RPp d (.lst (xs.map dq)) c P rest spot a6 a7 a8/\P.length<=i/\Gc n spot) ⟨[],_,d,8,_,_,_,rfl,Qb _,g⟩ ?_ ?_
 ·rintro i e ρ he ⟨P,rest,spot,n,a6,a7,a8,rfl,hP,gs⟩
  obtain⟨hi,rfl⟩:=zFv he;obtain⟨P',rest',spot',n',b7,b8,eb,hP',gs'⟩:=zKk (d:=d) (a:=.lst (xs.map dq)) (c:=c) (rest:=rest) (k:=0+(i:Int)*1) (a7:=a7) (a8:=a8) gs (show P.length<=100 by omega)
  exact⟨_,eb,P',rest',spot',n',_,b7,b8,rfl,⋯,gs'⟩
 ·rintro ρ ⟨P,rest,spot,n,a6,a7,a8,rfl,hP,gs⟩
  rw[zMG] at hP;rw[<-hK];have z1:=am.sum.1;have zt:Sz 4 (Rat.divInt (c / 5 % 5-2) 3):=Sz.of ∅ ⋯ ∅
  have f3:=hU (t:=c / 5 % 5-2) (b:=3) (n:=3) ∅ ∅ ∅
  have fs:=zDx am ∅
  have fp:=gK z1 zt ∅
  erw[lc];symm;rw[oMod_i (show((clm 8 d).length:Int)+2≠0 by omega),fmod_pos _ (show(0:Int)<((clm 8 d).length:Int)+2 by omega)];erw[fs,fs,f3,fp];symm;obtain⟨s,es,hs⟩:=zHz 1 (-1) c;rw[es];symm;have t0:=Qv (c / 7) (show(10:Int)^59≠0 by decide)
  have t1:=Q5 (c / 7) (show(0:Int)<10^59 by decide)
  generalize c / 7 % 10^59=t at t0 t1;rw[oMul_i (bO (m:=2) (n:=200) ⋯ ⋯ ∅)];symm;generalize s*(t+7)=far;obtain⟨y,ey,_⟩:=zHz 0 far (c / 3);obtain⟨z,ez,_⟩:=zHz far 1 (c / 3);rw[ey];erw[ez];symm;refine⟨_,rfl,Qb 10,fun p hp=>?_⟩
  simp only[Qc,Q0,or_false] at hp;rcases hp with rfl | rfl | rfl | rfl | rfl | rfl | rfl | rfl | rfl | rfl
  ·exact .inl ⟨_,rfl⟩
  ·exact .inr (.inl ⟨_,z1.mono ∅,rfl⟩)
  ·exact .inr (.inl ⟨⟨-1,3,∅,∅⟩,⟨∅,∅⟩,rfl⟩)
  ·exact .inr (.inl ⟨_,(z1.add zt).mono ∅,rfl⟩)
  ·exact .inr (.inr ⟨true,P,_,_,⋯,rfl⟩)
  ·exact .inr (.inr ⟨false,P,_,_,⋯,rfl⟩)
  ·exact .inr (.inr ⟨false,[],_,_,∅,rfl⟩)
  ·exact .inl ⟨_,rfl⟩
  ·exact .inr (.inr ⟨false,[far],_,_,by rw[X0];omega,rfl⟩)
  ·exact .inr (.inr ⟨false,[],_,_,∅,rfl⟩)
abbrev R46(ns:List Int)(d:D)(a2 a3 a4 a5 a6 a7:Sl):Rho:=[.val (.lst (ns.map D.int)),.val d,a2,a3,a4,a5,a6,a7]
def zOc(l:List Rat):dep (.lst (l.map dq))<=50:=by
 have dp:∀ l:List Rat,depS (l.map dq)<=10:=by
  intro l
  induction l with
  | nil=>simp[depS]
  | cons x l ih=>rw[Qg,depS,dep_dq];omega
 rw[dep];have:=dp l
 omega
def zLp(l:List Int):dep (.lst (l.map D.int))<=50:=by
 have dp:∀ l:List Int,depS (l.map D.int)<=1:=by
  intro l
  induction l with
  | nil=>simp[depS]
  | cons x l ih=>rw[Qg,depS,show dep (D.int x)=0 from rfl];omega
 rw[dep];have:=dp l
 omega
def zED{x:D}(h:dep x<=50):oNe x x=.ok (.bl false):=by
 unfold oNe;rw[Jj h,wF];rfl
def zIm{p:D}(hp:Pap p):∃(P:D)(Q:List Int),fG [p]=.ok (.v P)/\zCN [P]=.ok (Q.map D.int):=by
 unfold fG;rcases hp with⟨k,rfl⟩ | ⟨q,zq,rfl⟩ | ⟨kp,Q,i,j,hQ,rfl⟩
 ·refine⟨.tup [],[],?_,rfl⟩
  erw[show(Str.ofString "over" == Str.ofString "pair")=false from rfl];symm
 ·refine⟨.tup [],[],?_,rfl⟩
  erw[show(Str.ofString "catch" == Str.ofString "pair")=false from rfl];symm
 ·refine⟨mkP kp Q,Q,?_,by cases kp<;>rfl⟩
  symm
def zLQ{ns:List Int}{d p:D}{xs:List Rat}{a2 a5 a6 a7:Sl}(g:Gc 8 d)(am:Am 260 xs)(lx:xs.length=(clm 8 d).length)(hp:Pap p):∃ b5 b6 b7,zBY (R46 ns d a2 (.val (.lst (xs.map dq))) (.val p) a5 a6 a7)=.ok (.nx (R46 ns d a2 (.val (.lst (xs.map dq))) (.val p) b5 b6 b7)):=by
 obtain⟨r,h1,h2⟩:=zNT g am lx hp;obtain⟨P,Q,e1,e2⟩:=zIm hp;have s1:fV [d,.lst (xs.map dq),p]=.ok (.v (.bl r)):=h1 true;have s2:fV [d,.tup (xs.map dq),p]=.ok (.v (.bl r)):=h1 false;have n1:=zED (zOc xs);have n2:=zED (zLp Q);have n3:oNe (.bl r) (.bl r)=.ok (.bl false):=zED (by show 0<=50;decide)
 refine⟨.val (.lst (xs.map dq)),.val (.lst (Q.map D.int)),.val (.bl r),?_⟩
 clear h1 hp;erw[e1,e2,s1,h2,n3,n1,e1,e2,n2,s2,n3];symm
def zLN{ns:List Int}{d:D}(g:Gc 8 d)(hkn:kn 8 d<=6)(c:Int)(a3 a4 a5 a6 a7:Sl):∃ b3 b4 b5 b6 b7,zEg (R46 ns d (.val (.int c)) a3 a4 a5 a6 a7)=.ok (.nx (R46 ns d (.val (.int c)) b3 b4 b5 b6 b7)):=by
 obtain⟨xs,ex,am,lx⟩:=zHD g hkn c;obtain⟨t,et,st⟩:=zNZ g am lx;obtain⟨ps,ep,lp,hp⟩:=zKI g am c
 have lpp:∃ b4 b5 b6 b7,loop (gName 4) zBY ps (R46 ns d (.val (.int c)) (.val (.lst (xs.map dq))) a4 a5 a6 a7)=.ok (.nx (R46 ns d (.val (.int c)) (.val (.lst (xs.map dq))) b4 b5 b6 b7)):=by
  clear ep lp;revert a4 a5 a6 a7
  induction ps with
  | nil=>intro a4 a5 a6 a7;exact⟨a4,a5,a6,a7,rfl⟩
  | cons p ps ih=>
   intro a4 a5 a6 a7;obtain⟨b5,b6,b7,eb⟩:=zLQ (ns:=ns) (a2:=.val (.int c)) (a5:=a5) (a6:=a6) (a7:=a7) g am lx (hp p (Qe ..));obtain⟨c4,c5,c6,c7,ec⟩:=ih (fun p h=>hp p (Qd _ h)) (.val p) b5 b6 b7
   exact⟨c4,c5,c6,c7,by rw[cD (ρ1:=R46 ns d (.val (.int c)) (.val (.lst (xs.map dq))) (.val p) a5 a6 a7) rfl eb];exact ec⟩
 obtain⟨b4,b5,b6,b7,eb⟩:=lpp;refine⟨.val (.lst (xs.map dq)),b4,b5,b6,b7,?_⟩
 ·unfold zEg zJc zIg
  generalize hK:(zBY:Sv)=K at eb ⊢;erw[ex,et,st,ep];symm;exact eb
def law_true:∀ ns:List Int,ns.length<=63->zNx [.lst (ns.map D.int)]=.ok (.v (.bl true)):=by
 intro ns hl;obtain⟨d,ed,ic,hc,h12,hkn⟩:=zDH ns;have g:Gc 8 d:=⟨ic,h12,hc⟩;unfold zNx zKn;erw[ed,jP ns 13 ∅];symm;rw[xA ∅ ∅,<-Wl,<-Wm];erw[Jj (by rw[V4,Vx];omega),<-Qg];refine oY (Q:=fun r=>r.bind fin=.ok (.v (.bl true))) (k:=yQ zFx) (fun i ρ=>∃ a2 a3 a4 a5 a6 a7:Sl,ρ=R46 ns d a2 a3 a4 a5 a6 a7) ⟨_,_,_,_,_,_,rfl⟩ ?_ ?_
 ·rintro i e ρ he ⟨a2,a3,a4,a5,a6,a7,rfl⟩
  obtain⟨c,_,rfl⟩:=Vh.mp (Qf he);obtain⟨b3,b4,b5,b6,b7,eb⟩:=zLN (ns:=ns) g hkn c a3 a4 a5 a6 a7;exact⟨R46 ns d (.val (.int c)) b3 b4 b5 b6 b7,eb,_,_,_,_,_,_,rfl⟩
 ·rintro ρ ⟨a2,a3,a4,a5,a6,a7,rfl⟩
  rfl
end Lw
namespace Lw
open PySem PySem.Spec PyProof.Rows L2 L3
local macro_rules | `(⋯)=>`(by (intro _ _ _ _ _ _ us hl; first | (obtain ⟨_,e⟩:=L3.ln1 hl;subst e;rfl) | (obtain ⟨_,_,e⟩:=L3.ln2 hl;subst e;rfl) | (obtain ⟨_,_,_,e⟩:=L3.ln3 hl;subst e;rfl) | (obtain ⟨_,_,_,_,e⟩:=L3.ln4 hl;subst e;rfl) | (obtain ⟨_,_,_,_,_,e⟩:=L3.ln5 hl;subst e;rfl)))
def _root_.L3.CanM.mo{P:Je}{w:Jf}{K:Fg_}{mg:Str->Option Ja}{base:Jd}{j k:Nat}{x:Str}{ps:List Str}{m:Mir}(c:CanM P w K mg base j x ps m)(h:j<=k:=by decide):CanM P w K mg base k x ps m:=c.mono h
section
local macro_rules | `(∅)=>`(⟨rfl,rfl,rfl,by decide +kernel,rfl,by decide +kernel,by decide +kernel⟩)
def top(i:Nat):Jh:=PySem.Challenge.pw_catchhall_k46_papers_looked_at.main.body.getD i (.Pass ⟨0,0,0,0⟩)
abbrev jJ:Jh:=top 11
def dD:FnScope ["one","two","rest"] ["one","two"] (aH jJ):=∅
abbrev zIb:Jh:=top 12
def zEE:FnScope ["top","bottom","divisor"] ["top","bottom"] (aH zIb):=∅
abbrev zFe:Jh:=top 13
def zKB:FnScope ["number"] ["number"] (aH zFe):=∅
abbrev zIf:Jh:=top 14
def zNi:FnScope ["one","two"] ["one","two"] (aH zIf):=∅
abbrev zEt:Jh:=top 15
def zKA:FnScope ["one","two"] ["one","two"] (aH zEt):=∅
abbrev zEX:Jh:=top 16
def zLx:FnScope ["one","two"] ["one","two"] (aH zEX):=∅
abbrev zKo:Jh:=top 17
def zNm:FnScope ["one","two"] ["one","two"] (aH zKo):=∅
abbrev zKc:Jh:=top 18
def zNN:FnScope ["one","two"] ["one","two"] (aH zKc):=∅
abbrev zCb:Jh:=top 19
def zJo:FnScope ["one","two"] ["one","two"] (aH zCb):=∅
abbrev nV:Jh:=top 20
def zBt:FnScope ["amount","most"] ["amount","most"] (aH nV):=∅
abbrev jE:Jh:=top 21
def uH:FnScope ["amount","most"] ["amount","most"] (aH jE):=∅
abbrev zEI:Jh:=top 22
def vZ:FnScope ["some","so_far","each"] ["some"] (aH zEI):=∅
abbrev jK:Jh:=top 23
def sT:FnScope ["some","bottom","each"] ["some"] (aH jK):=∅
abbrev zAE:Jh:=top 28
def zIt:FnScope ["way","weights","claims"] ["way","weights","claims"] (aH zAE):=∅
abbrev oI:Jh:=top 29
def zBH:FnScope ["way"] ["way"] (aH oI):=∅
abbrev kO:Jh:=top 30
def nI:FnScope ["claims","claim"] ["claims"] (aH kO):=∅
abbrev jA:Jh:=top 31
def iB:FnScope ["way","weights","many","due","weight"] ["way","weights","many"] (aH jA):=∅
abbrev zEy:Jh:=top 32
def zLl:FnScope ["way","weights","claims","catch"] ["way","weights","claims","catch"] (aH zEy):=∅
abbrev fA:Jh:=top 33
def fO:FnScope ["way","weights","claims","catch","most","lacking"] ["way","weights","claims","catch"] (aH fA):=∅
abbrev qN:Jh:=top 34
def gE:FnScope ["claims","catch","left","amounts","claim","amount"] ["claims","catch"] (aH qN):=∅
abbrev oR:Jh:=top 35
def dL:FnScope ["weights","claims","catch","left","weight","amounts","spot","by_weight"] ["weights","claims","catch"] (aH oR):=∅
abbrev mM:Jh:=top 36
def zCR:FnScope ["weights","claims"] ["weights","claims"] (aH mM):=∅
abbrev lI:Jh:=top 37
def jL:FnScope ["claims","catch","most","part"] ["claims","catch"] (aH lI):=∅
abbrev lA:Jh:=top 38
def mZ:FnScope ["claims","catch","ones"] ["claims","catch"] (aH lA):=∅
abbrev zJL:Jh:=top 43
def zMZ:FnScope ["claim"] ["claim"] (aH zJL):=∅
abbrev zJM:Jh:=top 44
def zKj:FnScope ["way","weights","kids","custom"] ["way","weights","kids"] (aH zJM):=∅
abbrev xO:Jh:=top 45
def zGT:FnScope ["custom"] ["custom"] (aH xO):=∅
abbrev zBX:Jh:=top 46
def zJj:FnScope ["custom"] ["custom"] (aH zBX):=∅
abbrev nT:Jh:=top 47
def zBa:FnScope ["custom"] ["custom"] (aH nT):=∅
abbrev yF:Jh:=top 48
def zHm:FnScope ["custom"] ["custom"] (aH yF):=∅
abbrev mY:Jh:=top 49
def lL:FnScope ["custom","claims","kid"] ["custom"] (aH mY):=∅
abbrev tL:Jh:=top 50
def zEz:FnScope ["custom"] ["custom"] (aH tL):=∅
abbrev lG:Jh:=top 51
def rB:FnScope ["custom"] ["custom"] (aH lG):=∅
abbrev oJ:Jh:=top 52
def tR:FnScope ["custom"] ["custom"] (aH oJ):=∅
abbrev zBn:Jh:=top 53
def rO:FnScope ["custom","path","spot","kids"] ["custom","path"] (aH zBn):=∅
abbrev zAU:Jh:=top 54
def mC:FnScope ["custom","some","pieces","start","kid","end"] ["custom","some"] (aH zAU):=∅
abbrev zBT:Jh:=top 55
def zJN:FnScope ["custom","catch"] ["custom","catch"] (aH zBT):=∅
abbrev pE:Jh:=top 56
def iF:FnScope ["custom","catch","amounts","told","kid","amount"] ["custom","catch"] (aH pE):=∅
abbrev oD:Jh:=top 61
def jM:FnScope ["custom","amounts","number","claim","pair"] ["custom","amounts"] (aH oD):=∅
abbrev zEW:Jh:=top 62
def zKY:FnScope ["custom","amounts","paper"] ["custom","amounts","paper"] (aH zEW):=∅
abbrev kD:Jh:=top 63
def vA:FnScope ["custom","amounts"] ["custom","amounts"] (aH kD):=∅
abbrev tY:Jh:=top 64
def zEj:FnScope ["custom","amounts","catch"] ["custom","amounts","catch"] (aH tY):=∅
abbrev xW:Jh:=top 65
def zHv:FnScope ["custom","amounts","number"] ["custom","amounts","number"] (aH xW):=∅
abbrev xI:Jh:=top 66
def lY:FnScope ["custom","amounts","paper","path","one","other","there"] ["custom","amounts","paper"] (aH xI):=∅
abbrev pB:Jh:=top 67
def jQ:FnScope ["custom","amounts","path","spot"] ["custom","amounts","path"] (aH pB):=∅
abbrev kX:Jh:=top 68
def eH:FnScope ["custom","amounts","path","pair","pieces","spot","kid"] ["custom","amounts","path"] (aH kX):=∅
abbrev sX:Jh:=top 69
def mX:FnScope ["custom","amounts","path","many","one","other"] ["custom","amounts","path"] (aH sX):=∅
abbrev tX:Jh:=top 70
def eX:FnScope ["custom","amounts","one","other","pieces","own","kids","claims","weights","right"] ["custom","amounts","one","other"] (aH tX):=∅
abbrev nE:Jh:=top 72
def yY:FnScope ["script","k"] ["script","k"] (aH nE):=∅
abbrev oX:Jh:=top 74
def jT:FnScope ["one","two","rest"] ["one","two"] (aH oX):=∅
abbrev uD:Jh:=top 75
def wY:FnScope ["top","bottom","shared"] ["top","bottom"] (aH uD):=∅
abbrev tJ:Jh:=top 76
def zEc:FnScope ["one","two"] ["one","two"] (aH tJ):=∅
abbrev yO:Jh:=top 77
def pD:FnScope ["some","much","one"] ["some"] (aH yO):=∅
abbrev uJ:Jh:=top 78
def zEF:FnScope ["one","two"] ["one","two"] (aH uJ):=∅
abbrev qZ:Jh:=top 79
def uV:FnScope ["cell","kind","some"] ["cell","kind"] (aH qZ):=∅
abbrev tK:Jh:=top 80
def fY:FnScope ["cell","kids","way","weights","most","rest","kid"] ["cell","kids"] (aH tK):=∅
abbrev oU:Jh:=top 81
def bZ:FnScope ["script","head","pile","knots","boats","k","cell","turn","many"] ["script"] (aH oU):=∅
abbrev lB:Jh:=top 82
def gN:FnScope ["custom","claims","kid"] ["custom"] (aH lB):=∅
abbrev qY:Jh:=top 83
def oH:FnScope ["claim","cell","bottom"] ["claim","cell"] (aH qY):=∅
abbrev mU:Jh:=top 84
def dC:FnScope ["custom","cell","claims","amounts","way","one","other","step"] ["custom","cell"] (aH mU):=∅
abbrev lU:Jh:=top 85
def kR:FnScope ["x","y","claims","weights","level"] ["x","y","claims","weights"] (aH lU):=∅
abbrev kN:Jh:=top 86
def iZ:FnScope ["x","y","claims","twice","k"] ["x","y","claims"] (aH kN):=∅
abbrev jB:Jh:=top 87
def fJ:FnScope ["way","weights","claims","x","y","lacks","one","much"] ["way","weights","claims","x","y"] (aH jB):=∅
abbrev jF:Jh:=top 88
def cO:FnScope ["custom","sums","one","other","way","weights","kids","claims","some"] ["custom","sums","one","other"] (aH jF):=∅
abbrev qP:Jh:=top 89
def gB:FnScope ["custom","amounts","parts","at","kid","many"] ["custom","amounts"] (aH qP):=∅
abbrev wG:Jh:=top 90
def pK:FnScope ["custom","amounts","path","k"] ["custom","amounts","path"] (aH wG):=∅
abbrev mP:Jh:=top 91
def iV:FnScope ["custom","amounts","paper","claims","spot","sums"] ["custom","amounts","paper"] (aH mP):=∅
abbrev mK:Jh:=top 92
def zD:FnScope ["paper"] ["paper"] (aH mK):=∅
abbrev nY:Jh:=top 93
def bW:FnScope ["custom","amounts","cell","path","rest","spot","k","many","at","papers","far"] ["custom","amounts","cell"] (aH nY):=∅
abbrev xT:Jh:=top 94
def uU:FnScope ["script","custom","cell","amounts","paper","handed","path","told"] ["script"] (aH xT):=∅
end
structure Bt (mg:Str->Option Ja):Prop where
 abs:mg "abs" = none
 sorted:mg "sorted" = none
 range:mg "range" = none
 len:mg "len" = none
 sum:mg "sum" = none
 zip:mg "zip" = none
 tuple:mg "tuple" = none
 max:mg "max" = none
 enumerate:mg "enumerate" = none
 list:mg "list" = none
 min:mg "min" = none
 isinstance:mg "isinstance" = none
 bool:mg "bool" = none
structure Kt (K:PySem.W.Frag):Prop where
 bool:Kit K "bool"
structure Ct (K:PySem.W.Frag) (mg:Str->Option Ja):Prop where
 BOAT:∃ v u,mg "BOAT" = some u/\dZ v u/\IsD K (fun _=>none) v d_BOAT
 CATCH:∃ v u,mg "CATCH" = some u/\dZ v u/\IsD K (fun _=>none) v d_CATCH
 DEEPEST:∃ v u,mg "DEEPEST" = some u/\dZ v u/\IsD K (fun _=>none) v d_DEEPEST
 HALF:∃ v u,mg "HALF" = some u/\dZ v u/\IsD K (fun _=>none) v d_HALF
 MOST_BOATS:∃ v u,mg "MOST_BOATS" = some u/\dZ v u/\IsD K (fun _=>none) v d_MOST_BOATS
 NOUGHT:∃ v u,mg "NOUGHT" = some u/\dZ v u/\IsD K (fun _=>none) v pL
 OVER:∃ v u,mg "OVER" = some u/\dZ v u/\IsD K (fun _=>none) v d_OVER
 PAIR:∃ v u,mg "PAIR" = some u/\dZ v u/\IsD K (fun _=>none) v d_PAIR
 WEIGHTED:∃ v u,mg "WEIGHTED" = some u/\dZ v u/\IsD K (fun _=>none) v d_WEIGHTED
 CONTRARY:∃ a,IsTab K mg "CONTRARY" bM a
structure Rt (K:PySem.W.Frag) (mg:Str->Option Ja):Prop where
 BadClaim:∃ C,Err K mg "BadClaim" C
 BadWay:∃ C,Err K mg "BadWay" C
 BadWeights:∃ C,Err K mg "BadWeights" C
 NoFraction:∃ C,Err K mg "NoFraction" C
 Outside:∃ C,Err K mg "Outside" C
 TooMany:∃ C,Err K mg "TooMany" C
 Unlike:∃ C,Err K mg "Unlike" C
structure Et (K:PySem.W.Frag) (mg:Str->Option Ja):Prop where
 co_Outside:Cat K mg "Outside" "Outside"
def zRU{K:Fg_}{h:Jd}{mg:Str->Option Ja}{t0 t1 t2 t3 t4 t5 t6 t7 t8 t9 t10 t11:Tok}{pHALF0:Jc}{o_pHALF0:Option Jc}{n_pHALF0:Nat}{s_pHALF0:Array (Option Ja)}{pNOUGHT1:Jc}{o_pNOUGHT1:Option Jc}{n_pNOUGHT1:Nat}{s_pNOUGHT1:Array (Option Ja)}{pWEIGHTED2:Jc}{o_pWEIGHTED2:Option Jc}{n_pWEIGHTED2:Nat}{s_pWEIGHTED2:Array (Option Ja)}{a_CONTRARY:Jc}(X:K.In h)(G:h.Ns mainGlobals mg)(n_BOAT:PySem.W.nsIn K mainGlobals "BOAT" = some (some (.str "boat" t0)))(n_CATCH:PySem.W.nsIn K mainGlobals "CATCH" = some (some (.str "catch" t1)))(n_DEEPEST:PySem.W.nsIn K mainGlobals "DEEPEST" = some (some (.int (8) t2)))(n_HALF:PySem.W.nsIn K mainGlobals "HALF" = some (some (.ref pHALF0)))(pHALF0_l:K.lookup pHALF0=some ⟨.type "tuple", o_pHALF0,.seq #[.int (1) t3,.int (2) t4] n_pHALF0,s_pHALF0⟩)(n_MOST_BOATS:PySem.W.nsIn K mainGlobals "MOST_BOATS" = some (some (.int (12) t5)))(n_NOUGHT:PySem.W.nsIn K mainGlobals "NOUGHT" = some (some (.ref pNOUGHT1)))(pNOUGHT1_l:K.lookup pNOUGHT1=some ⟨.type "tuple", o_pNOUGHT1,.seq #[.int (0) t6,.int (1) t7] n_pNOUGHT1,s_pNOUGHT1⟩)(n_OVER:PySem.W.nsIn K mainGlobals "OVER" = some (some (.str "over" t8)))(n_PAIR:PySem.W.nsIn K mainGlobals "PAIR" = some (some (.str "pair" t9)))(n_WEIGHTED:PySem.W.nsIn K mainGlobals "WEIGHTED" = some (some (.ref pWEIGHTED2)))(pWEIGHTED2_l:K.lookup pWEIGHTED2=some ⟨.type "tuple", o_pWEIGHTED2,.seq #[.str "even" t10,.str "lack" t11] n_pWEIGHTED2,s_pWEIGHTED2⟩)(n_CONTRARY:PySem.W.nsIn K mainGlobals "CONTRARY" = some (some (.ref a_CONTRARY)))(bM:PyProof.Rows.KTD.tabLook (PyProof.Rows.KTD.datLooks fun a=>K.lookup a) (fun a=>K.lookup a) a_CONTRARY (zLo Lw.bM)=true):Ct K mg:=⟨⟨.str "boat", _,Vc X G n_BOAT,⟨_,rfl⟩,(.str _)⟩,⟨.str "catch", _,Vc X G n_CATCH,⟨_,rfl⟩,(.str _)⟩,⟨.int (8),_,Vc X G n_DEEPEST,⟨_,rfl⟩,(.int _)⟩,⟨.ref pHALF0,_,Vc X G n_HALF,rfl,(.tup (.inr ⟨_,_,_,pHALF0_l,rfl,rfl,Wq rfl,(.cons (show dZ (.int (1)) _ from ⟨_,rfl⟩) (.cons (show dZ (.int (2)) _ from ⟨_,rfl⟩) .nil))⟩) (.cons (.int _) (.cons (.int _) .nil)))⟩,⟨.int (12),_,Vc X G n_MOST_BOATS,⟨_,rfl⟩,(.int _)⟩,⟨.ref pNOUGHT1,_,Vc X G n_NOUGHT,rfl,(.tup (.inr ⟨_,_,_,pNOUGHT1_l,rfl,rfl,Wq rfl,(.cons (show dZ (.int (0)) _ from ⟨_,rfl⟩) (.cons (show dZ (.int (1)) _ from ⟨_,rfl⟩) .nil))⟩) (.cons (.int _) (.cons (.int _) .nil)))⟩,⟨.str "over", _,Vc X G n_OVER,⟨_,rfl⟩,(.str _)⟩,⟨.str "pair", _,Vc X G n_PAIR,⟨_,rfl⟩,(.str _)⟩,⟨.ref pWEIGHTED2,_,Vc X G n_WEIGHTED,rfl,(.tup (.inr ⟨_,_,_,pWEIGHTED2_l,rfl,rfl,Wq rfl,(.cons (show dZ (.str "even") _ from ⟨_,rfl⟩) (.cons (show dZ (.str "lack") _ from ⟨_,rfl⟩) .nil))⟩) (.cons (.str _) (.cons (.str _) .nil)))⟩,⟨a_CONTRARY,Vc X G n_CONTRARY,fun h X=>PyProof.Rows.KTD.text_of_look X bM⟩⟩
def zRS{K:Fg_}{h:Jd}{mg:Str->Option Ja}{Me:Jc}{Mf:Jc}{Mg:Jc}{Mh:Jc}{Mi:Jc}{Mj:Jc}{Mk:Jc}(X:K.In h)(G:h.Ns mainGlobals mg)(n_BadClaim:PySem.W.nsIn K mainGlobals "BadClaim" = some (some (.ref Me)))(x_BadClaim:PySem.W.excIn K Me [.type "ValueError", .type "Exception", .type "BaseException", .type "object"] "ValueError.__new__" = true)(n_BadWay:PySem.W.nsIn K mainGlobals "BadWay" = some (some (.ref Mf)))(x_BadWay:PySem.W.excIn K Mf [.type "ValueError", .type "Exception", .type "BaseException", .type "object"] "ValueError.__new__" = true)(n_BadWeights:PySem.W.nsIn K mainGlobals "BadWeights" = some (some (.ref Mg)))(x_BadWeights:PySem.W.excIn K Mg [.type "ValueError", .type "Exception", .type "BaseException", .type "object"] "ValueError.__new__" = true)(n_NoFraction:PySem.W.nsIn K mainGlobals "NoFraction" = some (some (.ref Mh)))(x_NoFraction:PySem.W.excIn K Mh [.type "ValueError", .type "Exception", .type "BaseException", .type "object"] "ValueError.__new__" = true)(n_Outside:PySem.W.nsIn K mainGlobals "Outside" = some (some (.ref Mi)))(x_Outside:PySem.W.excIn K Mi [.type "ValueError", .type "Exception", .type "BaseException", .type "object"] "ValueError.__new__" = true)(n_TooMany:PySem.W.nsIn K mainGlobals "TooMany" = some (some (.ref Mj)))(x_TooMany:PySem.W.excIn K Mj [.type "ValueError", .type "Exception", .type "BaseException", .type "object"] "ValueError.__new__" = true)(n_Unlike:PySem.W.nsIn K mainGlobals "Unlike" = some (some (.ref Mk)))(x_Unlike:PySem.W.excIn K Mk [.type "ValueError", .type "Exception", .type "BaseException", .type "object"] "ValueError.__new__" = true):Rt K mg:=⟨wI X G n_BadClaim x_BadClaim X7,wI X G n_BadWay x_BadWay X7,wI X G n_BadWeights x_BadWeights X7,wI X G n_NoFraction x_NoFraction X7,wI X G n_Outside x_Outside X7,wI X G n_TooMany x_TooMany X7,wI X G n_Unlike x_Unlike X7⟩
def zSD{K:Fg_}{h:Jd}{mg:Str->Option Ja}{Mi:Jc}(X:K.In h)(G:h.Ns mainGlobals mg)
  (n_Outside:PySem.W.nsIn K mainGlobals "Outside" = some (some (.ref Mi)))
  (g5:PySem.W.specialIn K (.builtin "object.__class__") "__get__" = some (some (.builtin "getset_descriptor.__get__")))
  (g6:PySem.W.takesIn K (.builtin "object.__class__")=some true)
  (e1_Outside:PySem.W.hasDictIn K Mi=true)
  (e2_Outside:PySem.W.findIn K (.ref Mi) "__getattribute__" = some (some (.builtin "BaseException.__getattribute__")))
  (e3_Outside:PySem.W.findIn K (.ref Mi) "__getattr__" = some none)
  (e4_Outside:PySem.W.findIn K (.ref Mi) "__class__" = some (some (.builtin "object.__class__")))
  (e7_Outside:PySem.W.mroIn K Mi (.type "object")=some true)
  (e8_Outside:PySem.W.mroIn K Mi (.type "BaseException")=some true)
  (cx_Outside:PySem.W.typeIn K (.ref Mi)=some (.type "type"))
  (eo_Outside:PySem.W.mroIn K Mi (.ref Mi)=some true):Et K mg:=by
 refine⟨⟨Mi,Mi,Vc X G n_Outside,Vc X G n_Outside,(zPR e1_Outside e2_Outside e3_Outside e4_Outside g5 g6 e7_Outside e8_Outside),zRn cx_Outside e1_Outside e8_Outside,eo_Outside⟩⟩
section
variable(P:Je)(w:Jf){K:Fg_}{mg:Str->Option Ja}(base:Jd)(k:Nat){f:Jc}{fd:FuncData}
set_option hygiene false in
local macro_rules | `(∅)=>`(CanM P w K mg base)
def zHO:RankDef jK:=⟨rfl,rfl,rfl,rfl,rfl,fun _ _ _=>⟨_,_,rfl,rfl,rfl⟩⟩
section
variable(B:Bt mg)(KT:Kt K)(C:Ct K mg)(R:Rt K mg)(ET:Et K mg)
variable(Qai:∅ k "common_divisor" ["one","two"] eN)(Qb6:∅ k "less" ["one","two"] oB)(Qau:∅ k "refuse_way" ["way"] dO)(Qak:∅ k "refuse_claims" ["claims"] fB)(Qah:∅ k "refuse_weights" ["way","weights","many"] bI)(Qbp:∅ k "is_boat" ["custom"] cU)(Qa3:∅ k "_law_shared" ["one","two"] iX)(Qca:∅ k "made" ["top","bottom"] kF)(Qa1:∅ k "is_outside" ["amount","most"] cC)(Qbr:∅ k "kids_of" ["custom"] aT)(Qbj:∅ k "_law_frac" ["top","bottom"] bS)(Qbd:∅ k "_law_less" ["one","two"] bV)(Qb5:∅ k "plus" ["one","two"] nL)(Qbw:∅ k "lesser" ["one","two"] nA)(Qb0:∅ k "minus" ["one","two"] kP)(Qb1:∅ k "whole" ["number"] cJ)(Qbv:CanR P w K mg base k pF)(Qa8:∅ k "levels_of" ["weights","claims"] iA)(Qb8:∅ k "over" ["one","two"] wU)(Qb4:∅ k "times" ["one","two"] mW)(Qbf:∅ k "_law_plus" ["one","two"] bF)(Qan:∅ k "_law_at_level" ["x","y","claims","weights"] bX)(Qa2:∅ k "even_dealt" ["weights","claims","catch"] eE)(Qaj:∅ k "_law_by_halves" ["x","y","claims"] cH)(Qa6:∅ k "row_dealt" ["claims","catch"] iC)(Qaw:∅ k "part_dealt" ["claims","catch"] gI)(Qat:∅ k "half_dealt" ["claims","catch"] gJ)(Qal:∅ k "rightly_dealt" ["way","weights","claims","catch"] (aR 2))(Qbu:∅ k "looked" ["way","weights","claims"] rC)(Qae:∅ k "refuse_outside" ["amount","most"] bY)(Qa0:∅ k "_law_claims" ["custom"] (bH 10))(Qag:∅ k "_law_pair_right" ["way","weights","claims","x","y"] dI)(Qbn:∅ k "_law_sum" ["some"] fL)(Qa7:∅ k "claims_of" ["custom"] (bU 10))(Qbq:∅ k "deep_of" ["custom"] (kM 10))(Qa5:∅ k "_law_parts" ["custom","amounts"] fX)(Qbh:∅ k "claim_of" ["custom"] dH)(Qby:∅ k "by_kid" ["custom","some"] iL)(Qar:∅ k "weights_of" ["custom"] eG)(Qb2:∅ k "total" ["some"] mV)(Qbz:∅ k "dealt" ["way","weights","claims","catch"] lQ)(Qbs:∅ k "way_of" ["custom"] lH)(Qb9:∅ k "knot" ["way","weights","kids"] zCh)(Qbk:∅ k "is_wrong" ["custom","amounts","one","other"] fH)(Qbt:∅ k "kid_at" ["custom","path"] gU)(Qax:∅ k "amounts_at" ["custom","amounts","path"] dS)(Qaq:∅ k "_law_cell_at" ["script","k"] dB)(Qbg:∅ k "_law_knot" ["cell","kids"] iG)(Qb7:∅ k "boat" ["claim"] zDm)(Qbb:∅ k "_law_claim" ["cell","kind"] kC)(Qav:∅ k "kid_claims" ["custom"] gF)(Qbe:∅ k "dealt_on" ["custom","catch"] (gC 10))(Qbc:∅ k "own_pair" ["custom","amounts","path"] fZ)(Qay:∅ k "first_pair" ["custom","amounts","path"] (aU 10))(Qam:∅ k "refuse_unlike" ["custom","amounts"] bQ)(Qbx:∅ k "shares" ["custom","catch"] jR)(Qa9:∅ k "_law_catch" ["claim","cell"] dX)(Qbm:∅ k "_law_led" ["custom","amounts","path"] kI)(Qaf:∅ k "_law_pair_shown" ["custom","sums","one","other"] eK)(Qbo:∅ k "is_pair" ["custom","amounts","paper"] eA)(Qbi:∅ k "is_catch" ["custom","amounts","catch"] gG)(Qbl:∅ k "is_over" ["custom","amounts","number"] kG)(Qaz:∅ k "_law_custom" ["script"] iT)(Qao:∅ k "_law_amounts" ["custom","cell"] gO)(Qas:∅ k "_law_papers" ["custom","amounts","cell"] iS)(Qb3:∅ k "shows" ["custom","amounts","paper"] fV)(Qa4:∅ k "found_back" ["custom","amounts"] dQ)(Qap:∅ k "_law_path_in" ["paper"] fG)(Qba:∅ k "_law_shown" ["custom","amounts","paper"] cW)
def uF(F:Fn K mg "common_divisor" jJ ["one","two"] f fd):∅ (k+1) "common_divisor" ["one","two"] eN:=
  fK F dD fun W WR=>(aD (s_z 0 dD.nd (aV zBv zIJ rfl B.abs boot_abs (bP 0)))
 (aD (s_z 1 dD.nd (aV zBv zIJ rfl B.abs boot_abs (bP 1)))
 (aD (zHL W.own (tst (neA W.u) zKT (aL 1) aX (aS _)) (aD (s_z 2 dD.nd (aM bD dG (aL 0) (aL 1)))
 (aD (s_z 0 dD.nd (aL 1))
 (aJ (s_z 1 dD.nd (aL 2))))))
 (aJ (bG (aL 0))))))
def zLG(F:Fn K mg "whole" zFe ["number"] f fd):∅ (k+1) "whole" ["number"] cJ:=
 fK F zKB fun W WR=>(aJ (bG (cA (aA (aL 0) (aA aX aI bK) aG))))
def zOB(F:Fn K mg "less" zKc ["one","two"] f fd):∅ (k+1) "less" ["one","two"] oB:=
 fK F zNN fun W WR=>(aJ (bG (lC nD zAR (aM bT fF (cB 0) (cB 1)) (aM bT fF (cB 1) (cB 0)) (aS _))))
def zII(F:Fn K mg "ranked" jK ["some"] f fd){T:Jc}(hT:sR K mg T)(hB:BMn base mg):CanR P w K mg base (k+1) pF:=
 zOj F sT zHO hT hB B.sorted B.range B.len rfl fun cdv A outer s H E G W WR=>⟨(s_z 1 sT.nd aX),(jD W.own W.calm (kW (aL 0)) (g_z 2 sT.nd) bL (aJ (s_z 1 sT.nd (aM bT fF (aL 1) (cB 2)))))⟩
def zBP(F:Fn K mg "refuse_way" oI ["way"] f fd):∅ (k+1) "refuse_way" ["way"] dO:=
 fK F zBH fun W WR=>(aJ (fR (zLb C.CONTRARY.choose_spec rfl (aL 0) (by with_unfolding_all rfl)) (aJ (kQ W WR R.BadWay rfl zHx)) bC))
def vJ(F:Fn K mg "refuse_claims" kO ["claims"] f fd):∅ (k+1) "refuse_claims" ["claims"] fB:=
  fK F nI fun W WR=>(aD (fR (tst (eqA W.u) oT (aV aP dP rfl B.len Qt (bP 0)) aX (aS _)) (aJ (kQ W WR R.BadClaim rfl zHx)) bC)
 (aJ (jD W.own W.calm (kW (aL 0)) (g_z 1 nI.nd) bL (aJ (fR (tst nD zAR (aL 1) aX (aS _)) (aJ (kQ W WR R.BadClaim rfl zHx)) bC)))))
def tM(F:Fn K mg "refuse_weights" jA ["way","weights","many"] f fd):∅ (k+1) "refuse_weights" ["way","weights","many"] bI:=
  fK F iB fun W WR=>(aD (s_z 3 iB.nd (zNb (tst (inA W.u) zTh (aL 0) (fW rfl C.WEIGHTED) (by with_unfolding_all rfl)) (aL 2) aX))
 (aD (fR (tst (neA W.u) zKT (aV aP dP rfl B.len Qt (bP 1)) (aL 3) (aS _)) (aJ (kQ W WR R.BadWeights rfl zHx)) bC)
 (aJ (jD W.own W.calm (kW (aL 1)) (g_z 4 iB.nd) bL (aJ (fR (PWd.pt (zES (tst nD zAR (aL 4) aX (aS _)) (vG (tst yT zKw (aL 4) (aM jI vM aX aX) (aS _))))) (aJ (kQ W WR R.BadWeights rfl zHx)) bC))))))
def zOq(F:Fn K mg "boat" zJL ["claim"] f fd):∅ (k+1) "boat" ["claim"] zDm:=
  fK F zMZ fun W WR=>(aD (fR (PWd.pt (zES (tst nD zAR (aL 0) aX (aS _)) (vG (tst yT zKw (aL 0) (aM jI vM aX aX) (aS _))))) (aJ (kQ W WR R.BadClaim rfl zHx)) bC)
 (aJ (bG (cA (aA (fW rfl C.BOAT) (bP 0) aG)))))
def zGC(F:Fn K mg "is_boat" xO ["custom"] f fd):∅ (k+1) "is_boat" ["custom"] cU:=
 fK F zGT fun W WR=>(aJ (bG (lC (eqA W.u) oT (cB 0) (fW rfl C.BOAT) (aS _))))
def zIe(F:Fn K mg "way_of" zBX ["custom"] f fd):∅ (k+1) "way_of" ["custom"] lH:=
 fK F zJj fun W WR=>(aJ (bG (cB 0)))
def zAJ(F:Fn K mg "weights_of" nT ["custom"] f fd):∅ (k+1) "weights_of" ["custom"] eG:=
 fK F zBa fun W WR=>(aJ (bG (cB 0)))
def yV(F:Fn K mg "_law_cell_at" nE ["script","k"] f fd):∅ (k+1) "_law_cell_at" ["script","k"] dB:=
  fK F yY fun W WR=>(aD (fR (tst nD zAR (aL 1) (aV aP dP rfl B.len Qt (bP 0)) (aS _)) (aJ (bG (pI (aL 0) 1))) bC)
 (aJ (bG aX)))
def zBq(F:Fn K mg "_law_shared" oX ["one","two"] f fd):∅ (k+1) "_law_shared" ["one","two"] iX:=
  fK F jT fun W WR=>(aD (zHL W.own (tst yT zKw (aL 1) aX (aS _)) (aD (s_z 2 jT.nd (aM bD dG (aL 0) (aL 1)))
 (aD (s_z 0 jT.nd (aL 1))
 (aJ (s_z 1 jT.nd (aL 2))))))
 (aJ (bG (aL 0))))
def zEH(F:Fn K mg "_law_less" uJ ["one","two"] f fd):∅ (k+1) "_law_less" ["one","two"] bV:=
 fK F zEF fun W WR=>(aJ (bG (lC nD zAR (aM bT fF (cB 0) (cB 1)) (aM bT fF (cB 1) (cB 0)) (aS _))))
def zDf(F:Fn K mg "_law_claim" qZ ["cell","kind"] f fd):∅ (k+1) "_law_claim" ["cell","kind"] kC:=
  fK F uV fun W WR=>(aD (s_z 2 uV.nd (PEf.d (cP (aA (aM bD dG (aM bN eM (aL 0) aX) aX) (aA (aM bD dG (aM bN eM (aL 0) aX) aX) (aA (aM bD dG (aM bN eM (aL 0) aX) (aM cI gY (aM jI vM aX aX) aX)) (aA (aM bT fF (aM bD dG (aM bN eM (aL 0) aX) aX) (aM jI vM aX aX)) aI aQ) aQ) aQ) aQ))))
 (aJ (bG (rH eS zFL (aL 2) (aM bD dG (aM cI gY (aL 1) (aM bN eM (aM bD dG (aL 0) aX) aX)) aX) (fun _ _=>rfl)))))
def yU(F:Fn K mg "_law_path_in" mK ["paper"] f fd):∅ (k+1) "_law_path_in" ["paper"] fG:=
  fK F zD fun W WR=>(aD (fR (tst (eqA W.u) oT (cB 0) (iE cY fun _=>.str _) (aS _)) (aJ (bG (cB 0))) bC)
 (aJ (bG (cA aI))))
def zON(F:Fn K mg "made" zIb ["top","bottom"] f fd):∅ (k+1) "made" ["top","bottom"] kF:=
  fK F zEE fun W WR=>(aD (fR (tst (eqA W.u) oT (aL 1) aX (aS _)) (aJ (kQ W WR R.NoFraction rfl zHx)) bC)
 (aD (s_z 2 zEE.nd (aF W Qai rfl (aA (aL 0) (bP 1) aG)))
 (aD (fR (tst nD zAR (aL 1) aX (aS _)) (aJ (s_z 2 zEE.nd (zIn (aL 2)))) bC)
 (aJ (bG (cA (aA (aM bN eM (aL 0) (aL 2)) (aA (aM bN eM (aL 1) (aL 2)) aI aQ) aQ)))))))
def zJi(F:Fn K mg "lesser" zCb ["one","two"] f fd):∅ (k+1) "lesser" ["one","two"] nA:=
 fK F zJo fun W WR=>(aJ (bG (zNb (zEJ (aF W Qb6 rfl (aA (aL 0) (bP 1) aG))) (aL 0) (aL 1))))
def zBi(F:Fn K mg "is_outside" nV ["amount","most"] f fd):∅ (k+1) "is_outside" ["amount","most"] cC:=
 fK F zBt fun W WR=>(aJ (bG (zHG (aF W Qb6 rfl (aA (aL 0) (aA (fW rfl C.NOUGHT) aI aG) aG)) (zAo (aF W Qb6 rfl (aA (aL 1) (bP 0) aG))))))
def zIF(F:Fn K mg "looked" zAE ["way","weights","claims"] f fd):∅ (k+1) "looked" ["way","weights","claims"] rC:=
  fK F zIt fun W WR=>(aD (qI (aF W Qau rfl (bP 0)))
 (aD (qI (aF W Qak rfl (bP 2)))
 (aJ (qI (aF W Qah rfl (aA (aL 0) (aA (aL 1) (aA (aV aP dP rfl B.len Qt (bP 2)) aI aK) aG) aG))))))
def zGQ(F:Fn K mg "kids_of" yF ["custom"] f fd):∅ (k+1) "kids_of" ["custom"] aT:=
 fK F zHm fun W WR=>(aJ (bG (zNb (zEJ (aF W Qbp rfl (bP 0))) (cA aI) (cB 0))))
def zFn(F:Fn K mg "_law_frac" uD ["top","bottom"] f fd):∅ (k+1) "_law_frac" ["top","bottom"] bS:=
  fK F wY fun W WR=>(aD (s_z 2 wY.nd (aF W Qa3 rfl (aA (aV zBv zIJ rfl B.abs boot_abs (bP 0)) (bP 1) aK)))
 (aJ (bG (cA (aA (aM bN eM (aL 0) (aL 2)) (aA (aM bN eM (aL 1) (aL 2)) aI aQ) aQ)))))
def zNa(F:Fn K mg "plus" zIf ["one","two"] f fd):∅ (k+1) "plus" ["one","two"] nL:=
 fK F zNi fun W WR=>(aJ (bG (aF W Qca rfl (aA (aM cI gY (aM bT fF (cB 0) (cB 1)) (aM bT fF (cB 1) (cB 0))) (aA (aM bT fF (cB 0) (cB 1)) aI aQ) aQ))))
def zLq(F:Fn K mg "minus" zEt ["one","two"] f fd):∅ (k+1) "minus" ["one","two"] kP:=
 fK F zKA fun W WR=>(aJ (bG (aF W Qca rfl (aA (aM nJ vT (aM bT fF (cB 0) (cB 1)) (aM bT fF (cB 1) (cB 0))) (aA (aM bT fF (cB 0) (cB 1)) aI aQ) aQ))))
def zLd(F:Fn K mg "times" zEX ["one","two"] f fd):∅ (k+1) "times" ["one","two"] mW:=
 fK F zLx fun W WR=>(aJ (bG (aF W Qca rfl (aA (aM bT fF (cB 0) (cB 1)) (aA (aM bT fF (cB 0) (cB 1)) aI aQ) aQ))))
def zOr(F:Fn K mg "over" zKo ["one","two"] f fd):∅ (k+1) "over" ["one","two"] wU:=
 fK F zNm fun W WR=>(aJ (bG (aF W Qca rfl (aA (aM bT fF (cB 0) (cB 1)) (aA (aM bT fF (cB 0) (cB 1)) aI aQ) aQ))))
def tZ(F:Fn K mg "refuse_outside" jE ["amount","most"] f fd):∅ (k+1) "refuse_outside" ["amount","most"] bY:=
 fK F uH fun W WR=>(aJ (fR (zEJ (aF W Qa1 rfl (aA (aL 0) (bP 1) aG))) (aJ (kQ W WR R.Outside rfl zHx)) bC))
def zCf(F:Fn K mg "levels_of" mM ["weights","claims"] f fd):∅ (k+1) "levels_of" ["weights","claims"] iA:=
 fK F zCR fun W WR=>(aJ (lD (zCK (N:=["weights","claims"]) W (by decide +kernel) rfl (sc:=aH mM) rfl rfl (by decide +kernel) (zNY rfl B.zip (aA (aL 1) (bP 0) aG)) (fun C2 s2 H2 fp2 G W=>(aF W Qca rfl (aA (aL 2) (bP 3) aG))))))
def zIW(F:Fn K mg "kid_at" zBn ["custom","path"] f fd):∅ (k+1) "kid_at" ["custom","path"] gU:=
  fK F rO fun W WR=>(aD (jD W.own W.calm (kW (aL 1)) (g_z 2 rO.nd) bL (aD (s_z 3 rO.nd (aF W Qbr rfl (bP 0)))
 (aD (fR (PWd.pt (zES (tst nD zAR (aL 2) aX (aS _)) (vG (tst zKH zRQ (aL 2) (aV aP dP rfl B.len Qt (bP 3)) (aS _))))) (aJ (kQ W WR R.Outside rfl zHx)) bC)
 (aJ (s_z 0 rO.nd (pI (aL 3) 2))))))
 (aJ (bG (aL 0))))
def zFj(F:Fn K mg "_law_plus" tJ ["one","two"] f fd):∅ (k+1) "_law_plus" ["one","two"] bF:=
 fK F zEc fun W WR=>(aJ (bG (aF W Qbj rfl (aA (aM cI gY (aM bT fF (cB 0) (cB 1)) (aM bT fF (cB 1) (cB 0))) (aA (aM bT fF (cB 0) (cB 1)) aI aQ) aQ))))
def zDr(F:Fn K mg "_law_catch" qY ["claim","cell"] f fd):∅ (k+1) "_law_catch" ["claim","cell"] dX:=
  fK F oH fun W WR=>(aD (s_z 1 oH.nd (aM bD dG (aL 1) (aM jI vM aX aX)))
 (aD (s_z 2 oH.nd (rH eS zFL (PEf.d (cP (aA aX (aA aX (aA aX (aA aX (aA (aM cI gY aX (aM bD dG (aM bN eM (aL 1) aX) aX)) aI aQ) bK) bK) bK) bK))) (aM bD dG (aL 1) aX) (fun _ _=>rfl)))
 (aJ (bG (aF W Qbj rfl (aA (aM bD dG (aM bN eM (aL 1) aX) (aM cI gY (aM bT fF (aL 0) (aL 2)) aX)) (bP 2) aQ))))))
def wZ(F:Fn K mg "_law_at_level" lU ["x","y","claims","weights"] f fd):∅ (k+1) "_law_at_level" ["x","y","claims","weights"] bX:=
  fK F kR fun W WR=>(aD (fR (zEJ (aF W Qbd rfl (aA (aL 0) (aA (cA (aA (cB 2) (aA aX aI bK) aO)) aI cV) aG))) (aD (s_z 4 kR.nd (aF W Qbj rfl (aA (aM bT fF (cB 0) (cB 3)) (aA (aM bT fF (cB 0) (cB 3)) aI aQ) aQ)))
 (aJ (bG (zHG (lC (eqA W.u) oT (aL 1) (aL 4) (aS _)) (zAo (zQf (lC (eqA W.u) oT (aL 1) (cA (aA (cB 2) (aA aX aI bK) aO)) (aS _)) (zAo (aF W Qbd rfl (aA (aL 1) (bP 4) aG))))))))) bC)
 (aD (fR (zEJ (aF W Qbd rfl (aA (aL 1) (aA (cA (aA (cB 2) (aA aX aI bK) aO)) aI cV) aG))) (aD (s_z 4 kR.nd (aF W Qbj rfl (aA (aM bT fF (cB 1) (cB 3)) (aA (aM bT fF (cB 1) (cB 3)) aI aQ) aQ)))
 (aJ (bG (zMy (aF W Qbd rfl (aA (aL 4) (aA (cA (aA (cB 2) (aA aX aI bK) aO)) aI cV) aG)))))) bC)
 (aJ (bG (iE nX fun _=>.bl _)))))
def zLh(F:Fn K mg "total" zEI ["some"] f fd):∅ (k+1) "total" ["some"] mV:=
  fK F vZ fun W WR=>(aD (s_z 1 vZ.nd (fW rfl C.NOUGHT))
 (aD (jD W.own W.calm (kW (aL 0)) (g_z 2 vZ.nd) bL (aJ (s_z 1 vZ.nd (aF W Qb5 rfl (aA (aL 1) (bP 2) aG)))))
 (aJ (bG (aL 1)))))
def zCl(F:Fn K mg "row_dealt" qN ["claims","catch"] f fd):∅ (k+1) "row_dealt" ["claims","catch"] iC:=
  fK F gE fun W WR=>(aD (s_z 2 gE.nd (aL 1))
 (aD (vK (i:=3) gE.nd rfl (Or.inl rfl) (cP aI))
 (aD (jD W.own W.calm (kW (aL 0)) (g_z 4 gE.nd) bL (aD (s_z 5 gE.nd (aF W Qbw rfl (aA (aL 2) (aA (aF W Qb1 rfl (bP 4)) aI aK) aG)))
 (aD (uG (i:=3) (pv 3) (aL 5))
 (aJ (s_z 2 gE.nd (aF W Qb0 rfl (aA (aL 2) (bP 5) aG)))))))
 (aJ (lN 3 (pv 3))))))
def zBZ(F:Fn K mg "even_dealt" oR ["weights","claims","catch"] f fd):∅ (k+1) "even_dealt" ["weights","claims","catch"] eE:=
  fK F dL fun W WR=>(aD (s_z 3 dL.nd (aL 2))
 (aD (s_z 4 dL.nd (aV (jS W.calm) rP rfl B.sum gQ (bP 0)))
 (aD (vK (i:=5) dL.nd rfl (Or.inl rfl) (zJe (cP (aA (fW rfl C.NOUGHT) aI aG)) (aV aP dP rfl B.len Qt (bP 1))))
 (zOG W Qbv zSn zQb rfl (aA (PEf.d (cE W Qa8 rfl (aA (aL 0) (bP 1) aG))) aI aK) (g_z 6 dL.nd) bL (aD (s_z 7 dL.nd (aF W Qb8 rfl (aA (aF W Qb4 rfl (aA (aL 3) (aA (aF W Qb1 rfl (aA (pI (aL 0) 6) aI aO)) aI aK) aG)) (aA (aF W Qb1 rfl (bP 4)) aI aK) aK)))
 (aD (zHE (i:=5) (pv 5) (aL 6) (aF W Qbw rfl (aA (aL 7) (aA (aF W Qb1 rfl (aA (pI (aL 1) 6) aI aO)) aI aK) aG)))
 (aD (s_z 3 dL.nd (PEd.frz (aF W Qb0 rfl (aA (aL 3) (aA (pI (aL 5) 6) aI aO) aG))))
 (aJ (zSM (i:=4) dL.nd rfl (Or.inl rfl) (pI (aL 0) 6) zQi zOw zKJ))))) (aJ (lN 5 (pv 5)))))))
def zCa(F:Fn K mg "part_dealt" lI ["claims","catch"] f fd):∅ (k+1) "part_dealt" ["claims","catch"] gI:=
  fK F jL fun W WR=>(aD (s_z 2 jL.nd (aV (jS W.calm) rP rfl B.sum gQ (bP 0)))
 (aD (fR (tst (eqA W.u) oT (aL 2) aX (aS _)) (aJ (lD (zJe (cP (aA (fW rfl C.NOUGHT) aI aG)) (aV aP dP rfl B.len Qt (bP 0))))) bC)
 (aD (s_z 3 jL.nd (aF W Qb8 rfl (aA (aL 1) (aA (aF W Qb1 rfl (bP 2)) aI aK) aG)))
 (aJ (lD (vY W jL.nd rfl (sc:=aH lI) rfl rfl (by decide +kernel) (kW (aL 0)) (fun C2 s2 H2 fp2 G W=>⟨zCm,(aF W Qb4 rfl (aA (aL 3) (aA (aF W Qb1 rfl (bP 4)) aI aK) aG))⟩)))))))
def zGV(F:Fn K mg "_law_sum" yO ["some"] f fd):∅ (k+1) "_law_sum" ["some"] fL:=
  fK F pD fun W WR=>(aD (s_z 1 pD.nd (cA (aA aX (aA aX aI bK) bK)))
 (aD (jD W.own W.calm (kW (aL 0)) (g_z 2 pD.nd) bL (aJ (s_z 1 pD.nd (aF W Qbf rfl (aA (aL 1) (bP 2) aG)))))
 (aJ (bG (aL 1)))))
def vB(F:Fn K mg "_law_by_halves" kN ["x","y","claims"] f fd):∅ (k+1) "_law_by_halves" ["x","y","claims"] cH:=
  fK F iZ fun W WR=>(aD (s_z 3 iZ.nd (PEf.d (cP (aA (aF W Qbj rfl (aA (aM bT fF aX (cB 0)) (aA (cB 0) aI aO) aQ)) (aA (aF W Qbj rfl (aA (aM bT fF aX (cB 1)) (aA (cB 1) aI aO) aQ)) aI aK) aK))))
 (aD (jD W.own W.calm (zFs rfl B.range (aA aX aI bK)) (g_z 4 iZ.nd) bL (aJ (fR (zEJ (aF W Qbd rfl (aA (cA (aA (pI (aL 2) 4) (aA aX aI bK) aO)) (aA (pI (aL 3) 4) aI aO) cV))) (aJ (bG (iE nX fun _=>.bl _))) bC)))
 (aJ (bG (aF W Qan rfl (aA (cB 3) (aA (cB 3) (aA (aL 2) (aA (PEf.d (cP (aA aX (aA aX aI bK) bK))) aI zKM) aG) aO) aO))))))
def zBR(F:Fn K mg "half_dealt" lA ["claims","catch"] f fd):∅ (k+1) "half_dealt" ["claims","catch"] gJ:=
  fK F mZ fun W WR=>(aD (s_z 2 mZ.nd (PEf.d (zJe (cP (aA aX aI bK)) (aV aP dP rfl B.len Qt (bP 0)))))
 (aJ (lD (vY W mZ.nd rfl (sc:=aH lA) rfl rfl (by decide +kernel) (kW (PEf.d (cE W Qa2 rfl (aA (aL 2) (aA (aL 0) (aA (aF W Qb5 rfl (aA (aL 1) (bP 1) aG)) aI aK) aG) aG)))) (fun C2 s2 H2 fp2 G W=>⟨zCm,(aF W Qb4 rfl (aA (aL 3) (aA (fW rfl C.HALF) aI aG) aG))⟩)))))
def sW(F:Fn K mg "_law_pair_right" jB ["way","weights","claims","x","y"] f fd):∅ (k+1) "_law_pair_right" ["way","weights","claims","x","y"] dI:=
  fK F fJ fun W WR=>(aD (s_z 5 fJ.nd (PEf.d (cP (aA (aF W Qbf rfl (aA (cA (aA (cB 2) (aA aX aI bK) aO)) (aA (cA (aA (aM nJ vT aX (cB 3)) (aA (cB 3) aI aO) aQ)) aI cV) cV)) (aA (aF W Qbf rfl (aA (cA (aA (cB 2) (aA aX aI bK) aO)) (aA (cA (aA (aM nJ vT aX (cB 4)) (aA (cB 4) aI aO) aQ)) aI cV) cV)) aI aK) aK))))
 (aD (jD W.own W.calm (kW (PEf.d (zFq (PEf.d (cP (aA (aL 3) (bP 4) aG))) (aL 5)))) (g_z 6 fJ.nd) bL (aJ (fR (tst nD zAR (cB 6) aX (aS _)) (aJ (bG (iE nX fun _=>.bl _))) bC)))
 (aD (fR (tst (eqA W.u) oT (aL 0) (iE cY fun _=>.str _) (aS _)) (aJ (bG (zHG (lC (eqA W.u) oT (zOX (cB 5)) aX (aS _)) (zAo (lC (eqA W.u) oT (cB 4) aX (aS _)))))) bC)
 (aD (fR (tst (eqA W.u) oT (aL 0) (iE cY fun _=>.str _) (aS _)) (aJ (bG (zHG (lC (eqA W.u) oT (zOX (cB 5)) aX (aS _)) (zAo (lC (eqA W.u) oT (cB 3) aX (aS _)))))) bC)
 (aD (fR (tst (eqA W.u) oT (aL 0) (iE cY fun _=>.str _) (aS _)) (aJ (bG (lC (eqA W.u) oT (aM bT fF (aM bT fF (cB 3) (cB 4)) (cB 2)) (aM bT fF (aM bT fF (cB 4) (cB 3)) (cB 2)) (aS _)))) bC)
 (aD (fR (tst (eqA W.u) oT (aL 0) (iE cY fun _=>.str _) (aS _)) (aJ (bG (aF W Qan rfl (aA (aL 3) (aA (aL 4) (aA (aL 2) (bP 1) aG) aG) aG)))) bC)
 (aD (fR (tst (eqA W.u) oT (aL 0) (iE cY fun _=>.str _) (aS _)) (aJ (bG (aF W Qan rfl (aA (cB 5) (aA (cB 5) (aA (aL 2) (bP 1) aG) aO) aO)))) bC)
 (aD (s_z 7 fJ.nd (aF W Qbf rfl (aA (aL 3) (bP 4) aG)))
 (aD (fR (tst zJZ zPh (aM bT fF aX (cB 7)) (aM bT fF (aM cI gY (cB 2) (cB 2)) (cB 7)) (aS _)) (aJ (bG (aF W Qaj rfl (aA (aL 3) (aA (aL 4) (bP 2) aG) aG)))) bC)
 (aJ (bG (aF W Qaj rfl (aA (cB 5) (aA (cB 5) (bP 2) aO) aO)))))))))))))
def vQ{r:Mir}(F:Fn K mg "rightly_dealt" fA ["way","weights","claims","catch"] f fd)(Qal:∅ k "rightly_dealt" ["way","weights","claims","catch"] r):∅ (k+1) "rightly_dealt" ["way","weights","claims","catch"] (aY r):=
  fK F fO fun W WR=>(aD (s_z 4 fO.nd (aF W Qb1 rfl (aA (aV (jS W.calm) rP rfl B.sum gQ (bP 2)) aI aK)))
 (aD (fR (tst (eqA W.u) oT (aL 0) (iE cY fun _=>.str _) (aS _)) (aJ (lD (cE W Qa6 rfl (aA (aL 2) (bP 3) aG)))) bC)
 (aD (fR (tst (eqA W.u) oT (aL 0) (iE cY fun _=>.str _) (aS _)) (aJ (lD (cE W Qa2 rfl (aA (aL 1) (aA (aL 2) (bP 3) aG) aG)))) bC)
 (aD (fR (tst (eqA W.u) oT (aL 0) (iE cY fun _=>.str _) (aS _)) (aJ (lD (cE W Qaw rfl (aA (aL 2) (bP 3) aG)))) bC)
 (aD (fR (PWd.pt (zPV (tst (eqA W.u) oT (aL 0) (iE cY fun _=>.str _) (aS _)) (zMm (zQY (zEJ (aF W Qb6 rfl (aA (aL 4) (aA (aF W Qb5 rfl (aA (aL 3) (bP 3) aG)) aI aK) aG))))))) (aJ (lD (cE W Qat rfl (aA (aL 2) (bP 3) aG)))) bC)
 (aD (s_z 5 fO.nd (PEf.d (cE W Qal rfl (aA (zRs C.CONTRARY.choose_spec rfl (aL 0) (fun _ _=>rfl)) (aA (aL 1) (aA (aL 2) (aA (aF W Qb0 rfl (aA (aL 4) (bP 3) aG)) aI aK) aG) aG) aO))))
 (aJ (lD (zCK (N:=["way","weights","claims","catch","most","lacking"]) W (by decide +kernel) rfl (sc:=aH fA) rfl rfl (by decide +kernel) (zNY rfl B.zip (aA (aL 2) (bP 5) aG)) (fun C2 s2 H2 fp2 G W=>(aF W Qb0 rfl (aA (aF W Qb1 rfl (bP 6)) (bP 7) aK))))))))))))
def nM(F:Fn K mg "rightly_dealt" fA ["way","weights","claims","catch"] f fd):∀ n:Nat,∅ (k+1+n) "rightly_dealt" ["way","weights","claims","catch"] (aR n)
 | 0=>qR F fO fun cdv A outer s H E G W WR=>zHt
 | n+1=>vQ _ _ _ (k+1+n) B C F (Qb1:=Qb1.mono (by omega)) (Qa6:=Qa6.mono (by omega)) (Qa2:=Qa2.mono (by omega)) (Qaw:=Qaw.mono (by omega)) (Qat:=Qat.mono (by omega)) (Qb0:=Qb0.mono (by omega)) (Qb6:=Qb6.mono (by omega)) (Qb5:=Qb5.mono (by omega)) (Qal:=nM F n)
def zKX(F:Fn K mg "dealt" zEy ["way","weights","claims","catch"] f fd):∅ (k+1) "dealt" ["way","weights","claims","catch"] lQ:=
  fK F zLl fun W WR=>(aD (qI (aF W Qbu rfl (aA (aL 0) (aA (aL 1) (bP 2) aG) aG)))
 (aD (qI (aF W Qae rfl (aA (aL 3) (aA (aF W Qb1 rfl (aA (aV (jS W.calm) rP rfl B.sum gQ (bP 2)) aI aK)) aI aK) aG)))
 (aJ (lD (cE W Qal rfl (aA (aL 0) (aA (aL 1) (aA (aL 2) (bP 3) aG) aG) aG))))))
def zBL{r:Mir}(F:Fn K mg "_law_claims" lB ["custom"] f fd)(Qa0:∅ k "_law_claims" ["custom"] r):∅ (k+1) "_law_claims" ["custom"] (lO r):=
  fK F gN fun W WR=>(aD (fR (tst (eqA W.u) oT (cB 0) (iE cY fun _=>.str _) (aS _)) (aJ (bG (PEf.d (cP (aA (cB 0) aI aO))))) bC)
 (aD (s_z 1 gN.nd (PEf.d (cP aI)))
 (aD (jD W.own W.calm (kW (cB 0)) (g_z 2 gN.nd) bL (aJ (s_z 1 gN.nd (PEf.d (zFq (aL 1) (aF W Qa0 rfl (bP 2)))))))
 (aJ (bG (aL 1))))))
def sL(F:Fn K mg "_law_claims" lB ["custom"] f fd)  : ∀ n:Nat,∅ (k+1+n) "_law_claims" ["custom"] (bH n)
 | 0=>qR F gN fun cdv A outer s H E G W WR=>zHt
 | n+1=>zBL _ _ _ (k+1+n) F  (Qa0:=sL F  n)
def tW(F:Fn K mg "_law_pair_shown" jF ["custom","sums","one","other"] f fd):∅ (k+1) "_law_pair_shown" ["custom","sums","one","other"] eK:=
  fK F cO fun W WR=>(aD (zSo (aL 0) (zKO W.calm (mQ (g_z 4 cO.nd) (mQ (g_z 5 cO.nd) (mQ (g_z 6 cO.nd) zGc))) (mT (mT (mT zFV)))) (zBb (jO bL (jO bL (jO bL zBQ)))))
 (aD (s_z 7 cO.nd (PEf.d (cP (aA (aV (jS W.calm) rP rfl B.sum gQ (aA (aF W Qa0 rfl (aA (pI (aL 6) 2) aI aO)) aI aK)) (aA (aV (jS W.calm) rP rfl B.sum gQ (aA (aF W Qa0 rfl (aA (pI (aL 6) 3) aI aO)) aI aK)) aI aK) aK))))
 (aD (s_z 8 cO.nd (PEf.d (cP (aA aX (aA aX aI bK) bK))))
 (aD (fR (tst yT zKw (aV aP dP rfl B.len Qt (bP 5)) aX (aS _)) (aJ (s_z 8 cO.nd (PEf.d (cP (aA (pI (aL 5) 2) (aA (pI (aL 5) 3) aI aO) aO))))) bC)
 (aJ (bG (zMy (aF W Qag rfl (aA (aL 4) (aA (aL 8) (aA (aL 7) (aA (pI (aL 1) 2) (aA (pI (aL 1) 3) aI aO) aO) aG) aG) aG)))))))))
def zDL(F:Fn K mg "_law_parts" qP ["custom","amounts"] f fd):∅ (k+1) "_law_parts" ["custom","amounts"] fX:=
  fK F gB fun W WR=>(aD (vK (i:=2) gB.nd rfl (Or.inl rfl) (cP aI))
 (aD (s_z 3 gB.nd aX)
 (aD (jD W.own W.calm (kW (cB 0)) (g_z 4 gB.nd) bL (aD (s_z 5 gB.nd (aV aP dP rfl B.len Qt (aA (aF W Qa0 rfl (bP 4)) aI aK)))
 (aD (uG (i:=2) (pv 2) (PEf.d (wC (aL 1) (nR (aL 3)) (nR (aM cI gY (aL 3) (aL 5))))))
 (aJ (s_z 3 gB.nd (aM cI gY (aL 3) (aL 5)))))))
 (aJ (lN 2 (pv 2))))))
def zBC(F:Fn K mg "_law_papers" nY ["custom","amounts","cell"] f fd):∅ (k+1) "_law_papers" ["custom","amounts","cell"] iS:=
  fK F bW fun W WR=>(aD (s_z 2 bW.nd (aM bD dG (aL 2) (aM jI vM aX aX)))
 (aD (vK (i:=3) bW.nd rfl (Or.inl rfl) (cP aI))
 (aD (s_z 4 bW.nd (aM bN eM (aL 2) aX))
 (aD (s_z 5 bW.nd (aL 0))
 (aD (jD W.own W.calm (zFs rfl B.range (aA (aM bD dG (aL 2) aX) aI aQ)) (g_z 6 bW.nd) bL (aJ (fR (tst (neA W.u) zKT (cB 5) (iE cY fun _=>.str _) (aS _)) (aD (s_z 7 bW.nd (aV aP dP rfl B.len Qt (aA (cB 5) aI aO)))
 (aD (s_z 8 bW.nd (aM nJ vT (aM bD dG (aL 4) (aM cI gY (aL 7) aX)) (aM bN eM (aM bD dG (aM bN eM (aL 4) aX) aX) aX)))
 (aD (uG (i:=3) (pv 3) (aL 8))
 (aD (s_z 4 bW.nd (aM bN eM (aL 4) (aM cI gY (aL 7) aX)))
 (aJ (fR (xU zJZ zPh nD zAR aX (aL 8) (aL 7)) (aJ (s_z 5 bW.nd (pI (cB 5) 8))) bC)))))) bC)))
 (eQ.frzAt 3 (aD (s_z 7 bW.nd (aV aP dP rfl B.len Qt (aA (aF W Qa0 rfl (bP 0)) aI aK)))
 (aD (vK (i:=9) bW.nd rfl (Or.inl rfl) (cP (aA (cA (aA (iE cY fun _=>.str _) (aA (aM nJ vT (aM bD dG (aM bN eM (aL 2) aX) (aM cI gY (aL 7) aX)) aX) aI aQ) bK)) (aA (cA (aA (iE cY fun _=>.str _) (aA (aF W Qbn rfl (bP 1)) aI aK) bK)) (aA (cA (aA (iE cY fun _=>.str _) (aA (cA (aA (aM nJ vT aX aX) (aA aX aI bK) aQ)) aI cV) bK)) aI cV) cV) cV)))
 (aD (uG (i:=9) (pv 9) (cA (aA (iE cY fun _=>.str _) (aA (aF W Qbf rfl (aA (aF W Qbn rfl (bP 1)) (aA (aF W Qbj rfl (aA (aM nJ vT (aM bD dG (aM bN eM (aL 2) aX) aX) aX) (aA aX aI bK) aQ)) aI aK) aK)) aI aK) bK)))
 (aD (uG (i:=9) (pv 9) (cA (aA (iE cY fun _=>.str _) (aA (aL 3) (aA (aM nJ vT (aM bD dG (aL 4) aX) aX) (aA (aM nJ vT (aM bD dG (aM bN eM (aL 4) aX) aX) aX) aI aQ) aQ) aG) bK)))
 (aD (uG (i:=9) (pv 9) (cA (aA (iE cY fun _=>.str _) (aA (sD jN zGo rfl B.tuple Mb (bP 3)) (aA aX (aA (aM cI gY aX (aM bD dG (aL 4) aX)) aI aQ) bK) aK) bK)))
 (aD (uG (i:=9) (pv 9) (cA (aA (iE cY fun _=>.str _) (aA (cA aI) (aA (aM bD dG (aL 4) aX) (aA (aM cI gY aX (aM bD dG (aM bN eM (aL 4) aX) aX)) aI aQ) aQ) cV) bK)))
 (aD (s_z 10 bW.nd (aM bT fF (rH eS zFL (PEf.d (cP (aA aX (aA (aM nJ vT aX aX) aI aQ) bK))) (aM bD dG (aL 2) aX) (fun _ _=>rfl)) (aM cI gY (aM bD dG (aM bN eM (aL 2) aX) (aM jI vM aX aX)) aX)))
 (aD (uG (i:=9) (pv 9) (cA (aA (iE cY fun _=>.str _) (bP 10) bK)))
 (aD (uG (i:=9) (pv 9) (cA (aA (iE cY fun _=>.str _) (aA (cA (bP 10)) (aA aX (aA aX aI bK) bK) cV) bK)))
 (aD (uG (i:=9) (pv 9) (cA (aA (iE cY fun _=>.str _) (aA (cA aI) (aA (rH eS zFL (PEf.d (cP (aA aX (bP 10) bK))) (aM bD dG (aM bN eM (aL 2) aX) aX) (fun _ _=>rfl)) (aA (rH eS zFL (PEf.d (cP (aA (aL 10) (aA aX aI bK) aG))) (aM bD dG (aM bN eM (aL 2) aX) aX) (fun _ _=>rfl)) aI aO) aO) cV) bK)))
 (aJ (lN 9 (pv 9)))))))))))))))))))
def zCk{r:Mir}(F:Fn K mg "claims_of" mY ["custom"] f fd)(Qa7:∅ k "claims_of" ["custom"] r):∅ (k+1) "claims_of" ["custom"] (mI r):=
  fK F lL fun W WR=>(aD (fR (zEJ (aF W Qbp rfl (bP 0))) (aJ (lD (cP (aA (cB 0) aI aO)))) bC)
 (aD (vK (i:=1) lL.nd rfl (Or.inl rfl) (cP aI))
 (aD (jD W.own W.calm (kW (aF W Qbr rfl (bP 0))) (g_z 2 lL.nd) bL (aJ (zQv (i:=1) (pv 1) (cE W Qa7 rfl (bP 2)))))
 (aJ (lN 1 (pv 1))))))
def uT(F:Fn K mg "claims_of" mY ["custom"] f fd):∀ n:Nat,∅ (k+1+n) "claims_of" ["custom"] (bU n)
 | 0=>qR F lL fun cdv A outer s H E G W WR=>zHt
 | n+1=>zCk _ _ _ (k+1+n) F (Qbp:=Qbp.mono (by omega)) (Qbr:=Qbr.mono (by omega)) (Qa7:=uT F n)
def zHs{r:Mir}(F:Fn K mg "deep_of" oJ ["custom"] f fd)(Qbq:∅ k "deep_of" ["custom"] r):∅ (k+1) "deep_of" ["custom"] (sG r):=
 fK F tR fun W WR=>(aJ (bG (aM cI gY aX (zNI W.calm rfl B.max (PEf.d (vY W tR.nd rfl (sc:=aH oJ) rfl rfl (by decide +kernel) (kW (aF W Qbr rfl (bP 0))) (fun C2 s2 H2 fp2 G W=>⟨zCm,(aF W Qbq rfl (bP 1))⟩))) aX))))
def zAv(F:Fn K mg "deep_of" oJ ["custom"] f fd):∀ n:Nat,∅ (k+1+n) "deep_of" ["custom"] (kM n)
 | 0=>qR F tR fun cdv A outer s H E G W WR=>zHt
 | n+1=>zHs _ _ _ (k+1+n) B F (Qbr:=Qbr.mono (by omega)) (Qbq:=zAv F n)
def zHl(F:Fn K mg "_law_led" wG ["custom","amounts","path"] f fd):∅ (k+1) "_law_led" ["custom","amounts","path"] kI:=
  fK F pK fun W WR=>(aD (jD W.own W.calm (kW (aL 2)) (g_z 3 pK.nd) bL (aD (fR (PWd.pt (zES (tst (eqA W.u) oT (cB 0) (iE cY fun _=>.str _) (aS _)) (vG (zQY (xU zJZ zPh nD zAR aX (aL 3) (aV aP dP rfl B.len Qt (aA (cB 0) aI aO))))))) (aJ (bG (iE uY fun _=>.non))) bC)
 (aD (s_z 1 pK.nd (pI (PEf.d (cE W Qa5 rfl (aA (aL 0) (bP 1) aG))) 3))
 (aJ (s_z 0 pK.nd (pI (cB 0) 3))))))
 (aJ (bG (cA (aA (aL 0) (bP 1) aG)))))
def zOK(F:Fn K mg "knot" zJM ["way","weights","kids"] f fd):∅ (k+1) "knot" ["way","weights","kids"] zCh:=
  fK F zKj fun W WR=>(aD (qI (aF W Qau rfl (bP 0)))
 (aD (qI (aF W Qah rfl (aA (aL 0) (aA (aL 1) (aA (aV aP dP rfl B.len Qt (bP 2)) aI aK) aG) aG)))
 (aD (s_z 3 zKj.nd (cA (aA (aL 0) (aA (sD jN zGo rfl B.tuple Mb (bP 1)) (aA (sD jN zGo rfl B.tuple Mb (bP 2)) aI aK) aK) aG)))
 (aD (fR (PWd.pt (zES (tst (eqA W.u) oT (aV aP dP rfl B.len Qt (bP 2)) aX (aS _)) (zES (tst yT zKw (aV aP dP rfl B.len Qt (aA (PEf.d (cE W Qa7 rfl (bP 3))) aI aK)) (fW rfl C.MOST_BOATS) (aS _)) (vG (tst yT zKw (aF W Qbq rfl (bP 3)) (fW rfl C.DEEPEST) (aS _)))))) (aJ (kQ W WR R.TooMany rfl zHx)) bC)
 (aJ (bG (aL 3)))))))
def zEq(F:Fn K mg "claim_of" tL ["custom"] f fd):∅ (k+1) "claim_of" ["custom"] dH:=
 fK F zEz fun W WR=>(aJ (bG (aV (jS W.calm) rP rfl B.sum gQ (aA (PEf.d (cE W Qa7 rfl (bP 0))) aI aK))))
def zJT(F:Fn K mg "by_kid" zAU ["custom","some"] f fd):∅ (k+1) "by_kid" ["custom","some"] iL:=
  fK F mC fun W WR=>(aD (vK (i:=2) mC.nd rfl (Or.inl rfl) (cP aI))
 (aD (s_z 3 mC.nd aX)
 (aD (jD W.own W.calm (kW (aF W Qbr rfl (bP 0))) (g_z 4 mC.nd) bL (aD (s_z 5 mC.nd (aM cI gY (aL 3) (aV aP dP rfl B.len Qt (aA (PEf.d (cE W Qa7 rfl (bP 4))) aI aK))))
 (aD (uG (i:=2) (pv 2) (zJO (aL 1) (nR (aL 3)) (nR (aL 5))))
 (aJ (s_z 3 mC.nd (aL 5))))))
 (aJ (lN 2 (pv 2))))))
def vV(F:Fn K mg "refuse_unlike" kD ["custom","amounts"] f fd):∅ (k+1) "refuse_unlike" ["custom","amounts"] bQ:=
 fK F vA fun W WR=>(aJ (fR (tst (neA W.u) zKT (aV aP dP rfl B.len Qt (bP 1)) (aV aP dP rfl B.len Qt (aA (PEf.d (cE W Qa7 rfl (bP 0))) aI aK)) (aS _)) (aJ (kQ W WR R.Unlike rfl zHx)) bC))
def zHn(F:Fn K mg "is_over" xW ["custom","amounts","number"] f fd):∅ (k+1) "is_over" ["custom","amounts","number"] kG:=
  fK F zHv fun W WR=>(aD (fR (PWd.pt (zES (tst nD zAR (aL 2) aX (aS _)) (vG (tst zKH zRQ (aL 2) (aV aP dP rfl B.len Qt (bP 1)) (aS _))))) (aJ (bG (iE nX fun _=>.bl _))) bC)
 (aJ (bG (aF W Qa1 rfl (aA (pI (aL 1) 2) (aA (aF W Qb1 rfl (aA (pI (PEf.d (cE W Qa7 rfl (bP 0))) 2) aI aO)) aI aK) aO)))))
def zBU(F:Fn K mg "kid_claims" lG ["custom"] f fd):∅ (k+1) "kid_claims" ["custom"] gF:=
 fK F rB fun W WR=>(aJ (lD (vY W rB.nd rfl (sc:=aH lG) rfl rfl (by decide +kernel) (kW (aF W Qbr rfl (bP 0))) (fun C2 s2 H2 fp2 G W=>⟨zCm,(aF W Qbh rfl (bP 1))⟩))))
def zAP(F:Fn K mg "amounts_at" pB ["custom","amounts","path"] f fd):∅ (k+1) "amounts_at" ["custom","amounts","path"] dS:=
  fK F jQ fun W WR=>(aD (jD W.own W.calm (kW (aL 2)) (g_z 3 jQ.nd) bL (aD (s_z 1 jQ.nd (pI (PEf.d (cE W Qby rfl (aA (aL 0) (bP 1) aG))) 3))
 (aJ (s_z 0 jQ.nd (pI (aF W Qbr rfl (bP 0)) 3)))))
 (aJ (bG (aL 1))))
def zDY(F:Fn K mg "is_wrong" tX ["custom","amounts","one","other"] f fd):∅ (k+1) "is_wrong" ["custom","amounts","one","other"] fH:=
  fK F eX fun W WR=>(aD (s_z 4 eX.nd (PEf.d (cE W Qby rfl (aA (aL 0) (bP 1) aG))))
 (aD (s_z 5 eX.nd (PEf.d (cP (aA (aF W Qb2 rfl (aA (pI (aL 4) 2) aI aO)) (aA (aF W Qb2 rfl (aA (pI (aL 4) 3) aI aO)) aI aK) aK))))
 (aD (s_z 6 eX.nd (aF W Qbr rfl (bP 0)))
 (aD (s_z 7 eX.nd (PEf.d (cP (aA (aF W Qbh rfl (aA (pI (aL 6) 2) aI aO)) (aA (aF W Qbh rfl (aA (pI (aL 6) 3) aI aO)) aI aK) aK))))
 (aD (s_z 8 eX.nd (aF W Qar rfl (bP 0)))
 (aD (fR (tst yT zKw (aV aP dP rfl B.len Qt (bP 8)) aX (aS _)) (aJ (s_z 8 eX.nd (PEf.d (cP (aA (pI (aL 8) 2) (aA (pI (aL 8) 3) aI aO) aO))))) bC)
 (aD (zMM W zGh ET.co_Outside rfl (zPs (zRl (i:=9) eX.nd rfl (Or.inl rfl) W Qbz rfl (have W:=W.nox;(aA (aF W Qbs rfl (bP 0)) (aA (aL 8) (aA (aL 7) (aA (aF W Qb5 rfl (aA (cB 5) (aA (cB 5) aI aO) aO)) aI aK) aG) aG) aK)))) (fun ea W=>(aJ (bG (iE nX fun _=>.bl _)))))
 (aJ (bG (lC (neA W.u) zKT (aL 9) (aL 5) (aS _)))))))))))
def zEv(F:Fn K mg "_law_knot" tK ["cell","kids"] f fd):∅ (k+1) "_law_knot" ["cell","kids"] iG:=
  fK F fY fun W WR=>(aD (s_z 2 fY.nd (rH eS zFL (PEf.d (cP (aA (iE cY fun _=>.str _) (aA (iE cY fun _=>.str _) (aA (iE cY fun _=>.str _) (aA (iE cY fun _=>.str _) (aA (iE cY fun _=>.str _) zHx bK) bK) bK) bK) bK))) (aM bD dG (aL 0) aX) (fun _ _=>rfl)))
 (aD (vK (i:=3) fY.nd rfl (Or.inl rfl) (cP aI))
 (aD (fR (tst (inA W.u) zTh (aL 2) (cA (aA (iE cY fun _=>.str _) zHx bK)) (by with_unfolding_all rfl)) (aD (s_z 4 fY.nd (rH eS zFL (PEf.d (cP (aA aX (aA aX (aA aX (aA (aM jI vM aX aX) aI aQ) bK) bK) bK))) (aM bD dG (aM bN eM (aL 0) aX) aX) (fun _ _=>rfl)))
 (aD (s_z 5 fY.nd (aM bN eM (aL 0) aX))
 (aJ (jD W.own W.calm (kW (aL 1)) (g_z 6 fY.nd) bL (aD (uG (i:=3) (pv 3) (aM cI gY aX (aM bD dG (aL 5) (aL 4))))
 (aJ (s_z 5 fY.nd (aM bN eM (aL 5) aX)))))))) bC)
 (eQ.frzAt 3 (aJ (bG (aF W Qb9 rfl (aA (aL 2) (aA (aL 3) (bP 1) aG) aG))))))))
def zGS(F:Fn K mg "is_pair" xI ["custom","amounts","paper"] f fd):∅ (k+1) "is_pair" ["custom","amounts","paper"] eA:=
  fK F lY fun W WR=>(aD (s_z 3 lY.nd (cB 2))
 (aD (s_z 4 lY.nd (cB 2))
 (aD (s_z 5 lY.nd (cB 2))
 (aD (zMM W zGh ET.co_Outside rfl (zPs (zRl (i:=6) lY.nd rfl (Or.inl rfl) W Qbt rfl (aA (aL 0) (bP 3) aG))) (fun ea W=>(aJ (bG (iE nX fun _=>.bl _)))))
 (aD (fR (PWd.pt (zES (tst nD zAR (aL 4) aX (aS _)) (zES (tst zKH zRQ (aL 4) (aL 5) (aS _)) (vG (tst zKH zRQ (aL 5) (aV aP dP rfl B.len Qt (aA (aF W Qbr rfl (bP 6)) aI aK)) (aS _)))))) (aJ (bG (iE nX fun _=>.bl _))) bC)
 (aJ (bG (aF W Qbk rfl (aA (aL 6) (aA (aF W Qax rfl (aA (aL 0) (aA (aL 1) (bP 3) aG) aG)) (aA (aL 4) (bP 5) aG) aK) aG)))))))))
def zER(F:Fn K mg "own_pair" sX ["custom","amounts","path"] f fd):∅ (k+1) "own_pair" ["custom","amounts","path"] fZ:=
  fK F mX fun W WR=>(aD (s_z 3 mX.nd (aV aP dP rfl B.len Qt (aA (aF W Qbr rfl (bP 0)) aI aK)))
 (aD (jD W.own W.calm (zFs rfl B.range (bP 3)) (g_z 4 mX.nd) bL (aJ (jD W.own W.calm (zRr rfl B.range (aA (aM cI gY (aL 4) aX) (bP 3) aQ)) (g_z 5 mX.nd) bL (aJ (fR (zEJ (aF W Qbk rfl (aA (aL 0) (aA (aL 1) (aA (aL 4) (bP 5) aG) aG) aG))) (aJ (bG (cA (aA (fW rfl C.PAIR) (aA (aL 2) (aA (aL 4) (bP 5) aG) aG) aG)))) bC)))))
 (aJ (bG (iE uY fun _=>.non)))))
def zBx(F:Fn K mg "_law_custom" oU ["script"] f fd):∅ (k+1) "_law_custom" ["script"] iT:=
  fK F bZ fun W WR=>(aD (s_z 1 bZ.nd (aM bD dG (aF W Qaq rfl (aA (aL 0) (aA aX aI bK) aG)) (aM jI vM aX aX)))
 (aD (vK (i:=2) bZ.nd rfl (Or.inl rfl) (cP aI))
 (aD (s_z 3 bZ.nd aX)
 (aD (s_z 4 bZ.nd (aM cI gY aX (aM bD dG (aL 1) aX)))
 (aD (fR (tst (eqA W.u) oT (aM bD dG (aM bN eM (aL 1) aX) aX) aX (aS _)) (aJ (s_z 4 bZ.nd (aM cI gY (aL 4) aX))) bC)
 (aD (jD W.own W.calm (zFs rfl B.range (bP 4)) (g_z 5 bZ.nd) bL (aD (s_z 6 bZ.nd (aM bD dG (aF W Qaq rfl (aA (aL 0) (aA (aM cI gY aX (aL 5)) aI aQ) aG)) (aM jI vM aX aX)))
 (aD (uG (i:=2) (pv 2) (aF W Qb7 rfl (aA (aF W Qbb rfl (aA (aL 6) (aA (aM bD dG (aM bN eM (aL 1) aX) aX) aI aQ) aG)) aI aK)))
 (aD (s_z 7 bZ.nd (aM bD dG (aF W Qaq rfl (aA (aL 0) (aA (aM cI gY aX (aL 5)) aI aQ) aG)) (aM jI vM aX aX)))
 (aJ (fR (PWd.pt (zPV (tst (eqA W.u) oT (aM bD dG (aL 7) aX) aX (aS _)) (zMm (tst nD zAR (aL 3) aX (aS _))))) (aD (s_z 3 bZ.nd (aM cI gY (aL 3) aX))
 (aD (s_z 8 bZ.nd (PEd.frz (aM cI gY aX (aM bD dG (aM bN eM (aL 7) aX) (aV (zJK W.calm) zPx rfl B.min boot_min (aA aX (aA (aV aP dP rfl B.len Qt (bP 2)) aI aK) bK))))))
 (aJ (vK (i:=2) bZ.nd rfl (Or.inl rfl) (PEf.frz (zFq (PEf.d (wC (aL 2) zHI (nR (zIn (aL 8))))) (PEf.d (cP (aA (aF W Qbg rfl (aA (aM bN eM (aL 7) aX) (aA (PEf.d (wC (aL 2) (nR (zIn (aL 8))) zHI)) aI aO) aQ)) aI aK))))))))) bC))))))
 (eQ.frzAt 2 (aD (fR (PWd.pt (zES (tst yT zKw (aV aP dP rfl B.len Qt (bP 2)) aX (aS _)) (vG (tst yT zKw (aM bD dG (aM bN eM (aL 1) aX) aX) aX (aS _))))) (aJ (bG (aF W Qbg rfl (aA (aM bN eM (aL 1) aX) (bP 2) aQ)))) bC)
 (aJ (bG (cB 2)))))))))))
def zDZ{r:Mir}(F:Fn K mg "dealt_on" pE ["custom","catch"] f fd)(Qbe:∅ k "dealt_on" ["custom","catch"] r):∅ (k+1) "dealt_on" ["custom","catch"] (jW r):=
  fK F iF fun W WR=>(aD (fR (zEJ (aF W Qbp rfl (bP 0))) (aJ (lD (cP (bP 1)))) bC)
 (aD (s_z 2 iF.nd (PEf.d (cE W Qbz rfl (aA (aF W Qbs rfl (bP 0)) (aA (aF W Qar rfl (bP 0)) (aA (PEf.d (cE W Qav rfl (bP 0))) (bP 1) aK) aK) aK))))
 (aD (vK (i:=3) iF.nd rfl (Or.inl rfl) (cP aI))
 (aD (jD W.own W.calm (zNY rfl B.zip (aA (aF W Qbr rfl (bP 0)) (bP 2) aK)) (zKO W.calm (mQ (g_z 4 iF.nd) (mQ (g_z 5 iF.nd) zGc)) (mT (mT zFV))) (zBb (jO bL (jO bL zBQ))) (aJ (zQv (i:=3) (pv 3) (cE W Qbe rfl (aA (aL 4) (bP 5) aG)))))
 (aJ (lN 3 (pv 3)))))))
def xE(F:Fn K mg "dealt_on" pE ["custom","catch"] f fd):∀ n:Nat,∅ (k+1+n) "dealt_on" ["custom","catch"] (gC n)
 | 0=>qR F iF fun cdv A outer s H E G W WR=>zHt
 | n+1=>zDZ _ _ _ (k+1+n) B F (Qbp:=Qbp.mono (by omega)) (Qbz:=Qbz.mono (by omega)) (Qbs:=Qbs.mono (by omega)) (Qar:=Qar.mono (by omega)) (Qav:=Qav.mono (by omega)) (Qbr:=Qbr.mono (by omega)) (Qbe:=xE F n)
def zJg(F:Fn K mg "shares" zBT ["custom","catch"] f fd):∅ (k+1) "shares" ["custom","catch"] jR:=
  fK F zJN fun W WR=>(aD (qI (aF W Qae rfl (aA (aL 1) (aA (aF W Qb1 rfl (aA (aF W Qbh rfl (bP 0)) aI aK)) aI aK) aG)))
 (aJ (lD (cE W Qbe rfl (aA (aL 0) (bP 1) aG)))))
def zAY{r:Mir}(F:Fn K mg "first_pair" kX ["custom","amounts","path"] f fd)(Qay:∅ k "first_pair" ["custom","amounts","path"] r):∅ (k+1) "first_pair" ["custom","amounts","path"] (bR r):=
  fK F eH fun W WR=>(aD (fR (zEJ (aF W Qbp rfl (bP 0))) (aJ (bG (iE uY fun _=>.non))) bC)
 (aD (s_z 3 eH.nd (aF W Qbc rfl (aA (aL 0) (aA (aL 1) (bP 2) aG) aG)))
 (aD (fR (zBs (aL 3) uY (aS _)) (aJ (bG (aL 3))) bC)
 (aD (s_z 4 eH.nd (PEf.d (cE W Qby rfl (aA (aL 0) (bP 1) aG))))
 (aD (jD W.own W.calm (zMI rfl B.enumerate (aF W Qbr rfl (bP 0))) (zKO W.calm (mQ (g_z 5 eH.nd) (mQ (g_z 6 eH.nd) zGc)) (mT (mT zFV))) (zBb (jO bL (jO bL zBQ))) (aD (s_z 3 eH.nd (aF W Qay rfl (aA (aL 6) (aA (pI (aL 4) 5) (aA (aM cI gY (aL 2) (cA (bP 5))) aI aQ) aO) aG)))
 (aJ (fR (zBs (aL 3) uY (aS _)) (aJ (bG (aL 3))) bC))))
 (aJ (bG (iE uY fun _=>.non))))))))
def rG(F:Fn K mg "first_pair" kX ["custom","amounts","path"] f fd):∀ n:Nat,∅ (k+1+n) "first_pair" ["custom","amounts","path"] (aU n)
 | 0=>qR F eH fun cdv A outer s H E G W WR=>zHt
 | n+1=>zAY _ _ _ (k+1+n) B F (Qbp:=Qbp.mono (by omega)) (Qbc:=Qbc.mono (by omega)) (Qby:=Qby.mono (by omega)) (Qbr:=Qbr.mono (by omega)) (Qay:=rG F n)
def zBN(F:Fn K mg "found_back" oD ["custom","amounts"] f fd):∅ (k+1) "found_back" ["custom","amounts"] dQ:=
  fK F jM fun W WR=>(aD (qI (aF W Qam rfl (aA (aL 0) (bP 1) aG)))
 (aD (jD W.own W.calm (zMI rfl B.enumerate (PEf.d (cE W Qa7 rfl (bP 0)))) (zKO W.calm (mQ (g_z 2 jM.nd) (mQ (g_z 3 jM.nd) zGc)) (mT (mT zFV))) (zBb (jO bL (jO bL zBQ))) (aJ (fR (zEJ (aF W Qa1 rfl (aA (pI (aL 1) 2) (aA (aF W Qb1 rfl (bP 3)) aI aK) aO))) (aJ (bG (cA (aA (fW rfl C.OVER) (bP 2) aG)))) bC)))
 (aD (s_z 4 jM.nd (aF W Qay rfl (aA (aL 0) (aA (aL 1) (aA (cA aI) aI cV) aG) aG)))
 (aD (fR (zBs (aL 4) uY (aS _)) (aJ (bG (aL 4))) bC)
 (aJ (bG (cA (aA (fW rfl C.CATCH) (aA (aF W Qb2 rfl (bP 1)) aI aK) aG))))))))
def zEC(F:Fn K mg "is_catch" tY ["custom","amounts","catch"] f fd):∅ (k+1) "is_catch" ["custom","amounts","catch"] gG:=
  fK F zEj fun W WR=>(aD (fR (zEJ (aF W Qa1 rfl (aA (aL 2) (aA (aF W Qb1 rfl (aA (aF W Qbh rfl (bP 0)) aI aK)) aI aK) aG))) (aJ (bG (iE nX fun _=>.bl _))) bC)
 (aJ (bG (lC (eqA W.u) oT (PEf.d (cE W Qbx rfl (aA (aL 0) (bP 2) aG))) (PEf.d (qO rfl B.list Mc (bP 1))) (aS _)))))
def zM(F:Fn K mg "_law_amounts" mU ["custom","cell"] f fd):∅ (k+1) "_law_amounts" ["custom","cell"] gO:=
  fK F dC fun W WR=>(aD (s_z 1 dC.nd (aM bD dG (aL 1) (aM jI vM aX aX)))
 (aD (s_z 2 dC.nd (aF W Qa0 rfl (bP 0)))
 (aD (vK (i:=3) dC.nd rfl (Or.inl rfl) (cE W Qbx rfl (aA (aL 0) (aA (aF W Qa9 rfl (aA (aV (jS W.calm) rP rfl B.sum gQ (bP 2)) (aA (aM bN eM (aL 1) aX) aI aQ) aK)) aI aK) aG)))
 (aD (s_z 4 dC.nd (aM bD dG (aL 1) aX))
 (aD (s_z 5 dC.nd (aM bD dG (aM bN eM (aL 1) aX) (aV aP dP rfl B.len Qt (bP 2))))
 (aD (s_z 6 dC.nd (aM bD dG (aM bN eM (aL 1) aX) (aV aP dP rfl B.len Qt (bP 2))))
 (aD (s_z 7 dC.nd (aF W Qbj rfl (aA (aM cI gY aX (aM bD dG (aM bN eM (aL 1) aX) aX)) (aA (aM cI gY aX (aM bD dG (aM bN eM (aL 1) aX) aX)) aI aQ) aQ)))
 (aD (fR (tst yT zKw (aL 4) aX (aS _)) (aD (zHE (i:=3) (pv 3) (aL 5) (PEd.frz (aF W Qbf rfl (aA (pI (aL 3) 5) (bP 7) aO))))
 (aJ (zHE (i:=3) (pv 3) (aL 6) (PEd.frz (aF W Qbf rfl (aA (pI (aL 3) 6) (aA (cA (aA (aM nJ vT aX (cB 7)) (aA (cB 7) aI aO) aQ)) aI cV) aO)))))) bC)
 (aD (fR (tst (eqA W.u) oT (aL 4) aX (aS _)) (aJ (zHE (i:=3) (pv 3) (aL 5) (aF W Qa9 rfl (aA (pI (aL 2) 5) (aA (aM bN eM (aL 1) aX) aI aQ) aO)))) bC)
 (aD (fR (tst (eqA W.u) oT (aL 4) aX (aS _)) (aJ (zHE (i:=3) (pv 3) (aL 5) (PEd.frz (aF W Qbf rfl (aA (pI (aL 3) 5) (aA (cA (aA (aM bT fF (pI (aL 2) 5) (rH eS zFL (PEf.d (cP (aA aX (aA (aM nJ vT aX aX) aI aQ) bK))) (aM bD dG (aM bN eM (aL 1) aX) aX) (fun _ _=>rfl))) (aA aX aI bK) aQ)) aI cV) aO))))) bC)
 (aJ (lN 3 (pv 3)))))))))))))
def zCZ(F:Fn K mg "_law_shown" mP ["custom","amounts","paper"] f fd):∅ (k+1) "_law_shown" ["custom","amounts","paper"] cW:=
  fK F iV fun W WR=>(aD (s_z 3 iV.nd (aF W Qa0 rfl (bP 0)))
 (aD (fR (tst (eqA W.u) oT (cB 2) (iE cY fun _=>.str _) (aS _)) (aD (fR (PWd.pt (zES (tst nD zAR (zOX (cB 2)) aX (aS _)) (vG (zEJ (aF W Qbd rfl (aA (cA (aA (aV (jS W.calm) rP rfl B.sum gQ (bP 3)) (aA aX aI bK) aK)) (aA (cB 2) aI aO) cV)))))) (aJ (bG (iE nX fun _=>.bl _))) bC)
 (aJ (bG (lC (eqA W.u) oT (PEf.d (qO rfl B.list Mc (bP 1))) (PEf.d (cE W Qbx rfl (aA (aL 0) (aA (cB 2) aI aO) aG))) (aS _))))) bC)
 (aD (fR (tst (eqA W.u) oT (cB 2) (iE cY fun _=>.str _) (aS _)) (aD (fR (zQY (xU zJZ zPh nD zAR aX (cB 2) (aV aP dP rfl B.len Qt (bP 3)))) (aJ (bG (iE nX fun _=>.bl _))) bC)
 (aJ (bG (zHG (lC nD zAR (zOX (rH eS zFL (aL 1) (cB 2) (fun _ _=>rfl))) aX (aS _)) (zAo (aF W Qbd rfl (aA (cA (aA (rH eS zFL (aL 3) (cB 2) (fun _ _=>rfl)) (aA aX aI bK) aO)) (aA (rH eS zFL (aL 1) (cB 2) (fun _ _=>rfl)) aI aO) cV))))))) bC)
 (aD (s_z 4 iV.nd (aF W Qbm rfl (aA (aL 0) (aA (aL 1) (aA (cB 2) aI aO) aG) aG)))
 (aD (fR (PWd.pt (zES (zNj (aL 4) uY (aS _)) (zES (tst (eqA W.u) oT (zOX (cB 4)) (iE cY fun _=>.str _) (aS _)) (vG (zQY (zHd zJZ zPh nD zAR nD zAR aX (cB 2) (cB 2) (aV aP dP rfl B.len Qt (aA (zOX (cB 4)) aI aO)))))))) (aJ (bG (iE nX fun _=>.bl _))) bC)
 (aD (zPJ (i:=5) iV.nd rfl (Or.inl rfl) (PCf.d (zLU W iV.nd rfl (sc:=aH mP) rfl rfl (by decide +kernel) (kW (PEf.d (cE W Qa5 rfl (aA (cB 4) (aA (cB 4) aI aO) aO)))) (fun C2 s2 H2 fp2 G W=>⟨zCm,(aF W Qbn rfl (bP 6))⟩))) rfl)
 (aJ (bG (aF W Qaf rfl (aA (cB 4) (aA (aL 5) (aA (cB 2) (aA (cB 2) aI aO) aO) aG) aO))))))))))
def zLz(F:Fn K mg "shows" zEW ["custom","amounts","paper"] f fd):∅ (k+1) "shows" ["custom","amounts","paper"] fV:=
  fK F zKY fun W WR=>(aD (qI (aF W Qam rfl (aA (aL 0) (bP 1) aG)))
 (aD (fR (tst (eqA W.u) oT (cB 2) (fW rfl C.CATCH) (aS _)) (aJ (bG (aF W Qbi rfl (aA (aL 0) (aA (aL 1) (aA (cB 2) aI aO) aG) aG)))) bC)
 (aD (fR (tst (eqA W.u) oT (cB 2) (fW rfl C.OVER) (aS _)) (aJ (bG (aF W Qbl rfl (aA (aL 0) (aA (aL 1) (aA (cB 2) aI aO) aG) aG)))) bC)
 (aJ (bG (aF W Qbo rfl (aA (aL 0) (aA (aL 1) (bP 2) aG) aG)))))))
def zRv(F:Fn K mg "law" xT ["script"] f fd):FnOk P w K mg base (CX1 P w) (k+1) f fd ["script"] (spM K mg 1 zNx):=
  zQH F uU fun cdv A outer s H E G W WR=>(aD (s_z 1 uU.nd (aF W Qaz rfl (bP 0)))
 (aD (jD W.own W.calm (kW (PEf.d (zFq (PEf.d (cP (aA (aF W Qaq rfl (aA (aL 0) (aA aX aI bK) aG)) aI aK))) (PEf.d (wC (aL 0) (nR aX) (nR aX)))))) (g_z 2 uU.nd) bL (aD (s_z 3 uU.nd (PEf.d (cE W Qao rfl (aA (aL 1) (bP 2) aG))))
 (aD (fR (zEx (aF W Qb3 rfl (aA (aL 1) (aA (PEf.d (qO rfl B.list Mc (bP 3))) (aA (aF W Qa4 rfl (aA (aL 1) (aA (PEf.d (qO rfl B.list Mc (bP 3))) aI aK) aG)) aI aK) aK) aG)) nX (aS _)) (aJ (bG (iE nX fun _=>.bl _))) bC)
 (aJ (jD W.own W.calm (kW (PEf.d (cE W Qas rfl (aA (aL 1) (aA (aL 3) (bP 2) aG) aG)))) (g_z 4 uU.nd) bL (aD (s_z 5 uU.nd (PEf.d (qO rfl B.list Mc (bP 3))))
 (aD (s_z 6 uU.nd (PEf.d (qO rfl B.list Mc (aA (aF W Qap rfl (bP 4)) aI aK))))
 (aD (s_z 7 uU.nd (aF W Qb3 rfl (aA (aL 1) (aA (aL 5) (bP 4) aG) aG)))
 (aD (fR (PWd.pt (zES (zQY (zEJ (zRc KT.bool rfl B.isinstance (aL 7) (zNn (v:=.ty "bool") rfl B.bool boot_bool rfl)))) (vG (tst (neA W.u) zKT (aL 7) (aF W Qba rfl (aA (aL 1) (aA (aL 3) (bP 4) aG) aG)) (aS _))))) (aJ (bG (iE nX fun _=>.bl _))) bC)
 (aD (fR (PWd.pt (zES (tst (neA W.u) zKT (aL 5) (aL 3) (aS _)) (vG (tst (neA W.u) zKT (PEf.d (qO rfl B.list Mc (aA (aF W Qap rfl (bP 4)) aI aK))) (aL 6) (aS _))))) (aJ (bG (iE nX fun _=>.bl _))) bC)
 (aJ (fR (tst (neA W.u) zKT (aF W Qb3 rfl (aA (aL 1) (aA (sD jN zGo rfl B.tuple Mb (bP 3)) (bP 4) aK) aG)) (aL 7) (aS _)) (aJ (bG (iE nX fun _=>.bl _))) bC))))))))))))
 (aJ (bG (iE nX fun _=>.bl _)))))
end
end
def FnK(K:PySem.W.Frag)(x:Str)(st:Jh):Prop:=∃ f oc od sl kV dc pm an cd ct,PySem.W.nsIn K mainGlobals x=some (some (.ref f))/\K.lookup f=some ⟨oc,od,.func (PySem.W.fnOf x x (lS st) (fU st) (aH st) .none kV dc pm an cd ct),sl⟩/\PySem.W.codeIn K cd x=true/\PySem.W.keepIn K (.ref f)=true
def fk{K:Fg_}{h:Jd}{mg:Str->Option Ja}{x:Str}{st:Jh}(X:K.In h)(G:h.Ns mainGlobals mg)(d:FnK K x st)(ps:List Str)(hb:∀ (kV doc pm:Ja) (an:Option Jc) (cdv ct:Ja) (us:List Ja),us.length=ps.length->bindArgs (PySem.W.fnOf x x (lS st) (fU st) (aH st) .none kV doc pm an cdv ct) ⟨us,[]⟩=pure (ps.zip us)):∃ f fd,Fn K mg x st ps f fd:=by
 obtain⟨f,oc,od,sl,kV,dc,pm,an,cd,ct,a,l,c,k⟩:=d;exact⟨f,_,zAx (st:=st) l c k,(zAx (st:=st) l c k).binds (ps:=ps) hb,k,Vc X G a⟩
def fkm{K:Fg_}{x:Str}{st:Jh}{f:Jc}{oc:Ja}{od an:Option Jc}{sl:Array (Option Ja)}{kV dc pm cd ct:Ja}(a:PySem.W.nsIn K mainGlobals x=some (some (.ref f)))(l:K.lookup f=some ⟨oc,od,.func (PySem.W.fnOf x x (lS st) (fU st) (aH st) .none kV dc pm an cd ct),sl⟩)(c:PySem.W.codeIn K cd x=true)(k:PySem.W.keepIn K (.ref f)=true):FnK K x st:=⟨f,oc,od,sl,kV,dc,pm,an,cd,ct,a,l,c,k⟩
def zPW{l:PySem.W.OpenLaw}{w:Jf}{K:Fg_}{h:Jd}{mg:Str->Option Ja}{fa f12 f69:Jc}(X:K.In h)(G:h.Ns mainGlobals mg)(hfa:mg "law" = some (.ref fa))
  {od12 an12:Option Jc} {sl12:Array (Option Ja)} {oc12 kV12 dc12 pm12 ct12:Ja}
  {od69 an69:Option Jc} {sl69:Array (Option Ja)} {oc69 kV69 dc69 pm69 cd69 ct69:Ja}
  (d0:FnK K "common_divisor" jJ)
  (d1:FnK K "made" zIb)
  (d2:FnK K "whole" zFe)
  (d3:FnK K "plus" zIf)
  (d4:FnK K "minus" zEt)
  (d5:FnK K "times" zEX)
  (d6:FnK K "over" zKo)
  (d7:FnK K "less" zKc)
  (d8:FnK K "lesser" zCb)
  (d9:FnK K "is_outside" nV)
  (d10:FnK K "refuse_outside" jE)
  (d11:FnK K "total" zEI)
  {cR T:Jc}
  (a12:PySem.W.nsIn K mainGlobals "ranked" = some (some (.ref f12))) (l12:K.lookup f12=some ⟨oc12,od12,.func (PySem.W.fnOf "ranked" "ranked" (lS jK) (fU jK) (aH jK) .none kV12 dc12 pm12 an12 (.ref cR) ct12),sl12⟩) (c12:PySem.W.codeIn K (.ref cR) "ranked" = true) (k12:PySem.W.keepIn K (.ref f12)=true)
  (tq:PySem.W.codeHdIn K cR T=true) (tn:K.lookup T=none)
  (d13:FnK K "looked" zAE)
  (d14:FnK K "refuse_way" oI)
  (d15:FnK K "refuse_claims" kO)
  (d16:FnK K "refuse_weights" jA)
  (d17:FnK K "dealt" zEy)
  (d18:FnK K "rightly_dealt" fA)
  (d19:FnK K "row_dealt" qN)
  (d20:FnK K "even_dealt" oR)
  (d21:FnK K "levels_of" mM)
  (d22:FnK K "part_dealt" lI)
  (d23:FnK K "half_dealt" lA)
  (d24:FnK K "boat" zJL)
  (d25:FnK K "knot" zJM)
  (d26:FnK K "is_boat" xO)
  (d27:FnK K "way_of" zBX)
  (d28:FnK K "weights_of" nT)
  (d29:FnK K "kids_of" yF)
  (d30:FnK K "claims_of" mY)
  (d31:FnK K "claim_of" tL)
  (d32:FnK K "kid_claims" lG)
  (d33:FnK K "deep_of" oJ)
  (d34:FnK K "kid_at" zBn)
  (d35:FnK K "by_kid" zAU)
  (d36:FnK K "shares" zBT)
  (d37:FnK K "dealt_on" pE)
  (d38:FnK K "found_back" oD)
  (d39:FnK K "shows" zEW)
  (d40:FnK K "refuse_unlike" kD)
  (d41:FnK K "is_catch" tY)
  (d42:FnK K "is_over" xW)
  (d43:FnK K "is_pair" xI)
  (d44:FnK K "amounts_at" pB)
  (d45:FnK K "first_pair" kX)
  (d46:FnK K "own_pair" sX)
  (d47:FnK K "is_wrong" tX)
  (d48:FnK K "_law_cell_at" nE)
  (d49:FnK K "_law_shared" oX)
  (d50:FnK K "_law_frac" uD)
  (d51:FnK K "_law_plus" tJ)
  (d52:FnK K "_law_sum" yO)
  (d53:FnK K "_law_less" uJ)
  (d54:FnK K "_law_claim" qZ)
  (d55:FnK K "_law_knot" tK)
  (d56:FnK K "_law_custom" oU)
  (d57:FnK K "_law_claims" lB)
  (d58:FnK K "_law_catch" qY)
  (d59:FnK K "_law_amounts" mU)
  (d60:FnK K "_law_at_level" lU)
  (d61:FnK K "_law_by_halves" kN)
  (d62:FnK K "_law_pair_right" jB)
  (d63:FnK K "_law_pair_shown" jF)
  (d64:FnK K "_law_parts" qP)
  (d65:FnK K "_law_led" wG)
  (d66:FnK K "_law_shown" mP)
  (d67:FnK K "_law_path_in" mK)
  (d68:FnK K "_law_papers" nY)
  (a69:PySem.W.nsIn K mainGlobals "law" = some (some (.ref f69))) (l69:K.lookup f69=some ⟨oc69,od69,.func (PySem.W.fnOf "law" "law" (lS xT) (fU xT) (aH xT) .none kV69 dc69 pm69 an69 cd69 ct69),sl69⟩) (c69:PySem.W.codeIn K cd69 "law" = true) (k69:PySem.W.keepIn K (.ref f69)=true)
  (z_abs:PySem.W.nsIn K mainGlobals "abs" = some none)
  (z_sorted:PySem.W.nsIn K mainGlobals "sorted" = some none)
  (z_range:PySem.W.nsIn K mainGlobals "range" = some none)
  (z_len:PySem.W.nsIn K mainGlobals "len" = some none)
  (z_sum:PySem.W.nsIn K mainGlobals "sum" = some none)
  (z_zip:PySem.W.nsIn K mainGlobals "zip" = some none)
  (z_tuple:PySem.W.nsIn K mainGlobals "tuple" = some none)
  (z_max:PySem.W.nsIn K mainGlobals "max" = some none)
  (z_enumerate:PySem.W.nsIn K mainGlobals "enumerate" = some none)
  (z_list:PySem.W.nsIn K mainGlobals "list" = some none)
  (z_min:PySem.W.nsIn K mainGlobals "min" = some none)
  (z_isinstance:PySem.W.nsIn K mainGlobals "isinstance" = some none)
  (z_bool:PySem.W.nsIn K mainGlobals "bool" = some none)
  (KT:Kt K) (CC:∀(h:Jd)(mg:Str->Option Ja),K.In h->h.Ns mainGlobals mg->Ct K mg) (RR:∀(h:Jd)(mg:Str->Option Ja),K.In h->h.Ns mainGlobals mg->Rt K mg) (EE:∀(h:Jd)(mg:Str->Option Ja),K.In h->h.Ns mainGlobals mg->Et K mg)
  : K.lookup T=none/\sR K mg T/\∃ fd:FuncData,(∀(s:Jb)(v:Ja),BindsTo s fd ⟨[v],[]⟩ [("script", v)])/\∀ base:Jd,K.In base->base.Ns mainGlobals mg->BMn base mg->FnOk l.prog w K mg base (CX1 l.prog w) 30 fa fd ["script"] (zQC K mg):=by
 have e:=hfa.symm.trans (Vc X G a69);cases e;have B:Bt mg:=⟨Vq X G z_abs,Vq X G z_sorted,Vq X G z_range,Vq X G z_len,Vq X G z_sum,Vq X G z_zip,Vq X G z_tuple,Vq X G z_max,Vq X G z_enumerate,Vq X G z_list,Vq X G z_min,Vq X G z_isinstance,Vq X G z_bool⟩;have C:Ct K mg:=CC h mg X G;have R:Rt K mg:=RR h mg X G;have ET:Et K mg:=EE h mg X G;have hT:sR K mg T:=⟨f12,_,_,_,_,cR,Vc X G a12,l12,rfl,fun h X=>PySem.W.codeHd_of_K X tq⟩
 refine⟨tn,hT,?_⟩
 refine⟨PySem.W.fnOf "law" "law" (lS xT) (fU xT) (aH xT) .none kV69 dc69 pm69 an69 cd69 ct69,fun s v=>.of_eq rfl,fun base _ _ hB=>?_⟩
 obtain⟨_,_,F0⟩:=fk X G d0 ["one","two"] ⋯
 have Qai:=uF l.prog w base 0 B F0;obtain⟨_,_,F2⟩:=fk X G d2 ["number"] ⋯
 have Qb1:=zLG l.prog w base 0 F2;obtain⟨_,_,F7⟩:=fk X G d7 ["one","two"] ⋯
 have Qb6:=zOB l.prog w base 0 F7;have F12:Fn K mg "ranked" jK ["some"] _ _:=⟨zAx (st:=jK) l12 c12 k12,(zAx (st:=jK) l12 c12 k12).binds (ps:=["some"]) ⋯,k12,Vc X G a12⟩
 have Qbv:=zII l.prog w base 0 B F12 hT hB;obtain⟨_,_,F14⟩:=fk X G d14 ["way"] ⋯
 have Qau:=zBP l.prog w base 0 C R F14;obtain⟨_,_,F15⟩:=fk X G d15 ["claims"] ⋯
 have Qak:=vJ l.prog w base 0 B R F15;obtain⟨_,_,F16⟩:=fk X G d16 ["way","weights","many"] ⋯
 have Qah:=tM l.prog w base 0 B C R F16;obtain⟨_,_,F24⟩:=fk X G d24 ["claim"] ⋯
 have Qb7:=zOq l.prog w base 0 C R F24;obtain⟨_,_,F26⟩:=fk X G d26 ["custom"] ⋯
 have Qbp:=zGC l.prog w base 0 C F26;obtain⟨_,_,F27⟩:=fk X G d27 ["custom"] ⋯
 have Qbs:=zIe l.prog w base 0 F27;obtain⟨_,_,F28⟩:=fk X G d28 ["custom"] ⋯
 have Qar:=zAJ l.prog w base 0 F28;obtain⟨_,_,F48⟩:=fk X G d48 ["script","k"] ⋯
 have Qaq:=yV l.prog w base 0 B F48;obtain⟨_,_,F49⟩:=fk X G d49 ["one","two"] ⋯
 have Qa3:=zBq l.prog w base 0 F49;obtain⟨_,_,F53⟩:=fk X G d53 ["one","two"] ⋯
 have Qbd:=zEH l.prog w base 0 F53;obtain⟨_,_,F54⟩:=fk X G d54 ["cell","kind"] ⋯
 have Qbb:=zDf l.prog w base 0 F54;obtain⟨_,_,F67⟩:=fk X G d67 ["paper"] ⋯
 have Qap:=yU l.prog w base 0 F67;obtain⟨_,_,F1⟩:=fk X G d1 ["top","bottom"] ⋯
 have Qca:=zON l.prog w base 1 R Qai.mo F1;obtain⟨_,_,F8⟩:=fk X G d8 ["one","two"] ⋯
 have Qbw:=zJi l.prog w base 1 Qb6.mo F8;obtain⟨_,_,F9⟩:=fk X G d9 ["amount","most"] ⋯
 have Qa1:=zBi l.prog w base 1 C Qb6.mo F9;obtain⟨_,_,F13⟩:=fk X G d13 ["way","weights","claims"] ⋯
 have Qbu:=zIF l.prog w base 1 B Qau.mo Qak.mo Qah.mo F13;obtain⟨_,_,F29⟩:=fk X G d29 ["custom"] ⋯
 have Qbr:=zGQ l.prog w base 1 Qbp.mo F29;obtain⟨_,_,F50⟩:=fk X G d50 ["top","bottom"] ⋯
 have Qbj:=zFn l.prog w base 1 B Qa3.mo F50;obtain⟨_,_,F3⟩:=fk X G d3 ["one","two"] ⋯
 have Qb5:=zNa l.prog w base 2 Qca.mo F3;obtain⟨_,_,F4⟩:=fk X G d4 ["one","two"] ⋯
 have Qb0:=zLq l.prog w base 2 Qca.mo F4;obtain⟨_,_,F5⟩:=fk X G d5 ["one","two"] ⋯
 have Qb4:=zLd l.prog w base 2 Qca.mo F5;obtain⟨_,_,F6⟩:=fk X G d6 ["one","two"] ⋯
 have Qb8:=zOr l.prog w base 2 Qca.mo F6;obtain⟨_,_,F10⟩:=fk X G d10 ["amount","most"] ⋯
 have Qae:=tZ l.prog w base 2 R Qa1.mo F10;obtain⟨_,_,F21⟩:=fk X G d21 ["weights","claims"] ⋯
 have Qa8:=zCf l.prog w base 2 B Qca.mo F21;obtain⟨_,_,F34⟩:=fk X G d34 ["custom","path"] ⋯
 have Qbt:=zIW l.prog w base 2 B R Qbr.mo F34;obtain⟨_,_,F51⟩:=fk X G d51 ["one","two"] ⋯
 have Qbf:=zFj l.prog w base 2 Qbj.mo F51;obtain⟨_,_,F58⟩:=fk X G d58 ["claim","cell"] ⋯
 have Qa9:=zDr l.prog w base 2 Qbj.mo F58;obtain⟨_,_,F60⟩:=fk X G d60 ["x","y","claims","weights"] ⋯
 have Qan:=wZ l.prog w base 2 Qbj.mo Qbd.mo F60;obtain⟨_,_,F11⟩:=fk X G d11 ["some"] ⋯
 have Qb2:=zLh l.prog w base 3 C Qb5.mo F11;obtain⟨_,_,F19⟩:=fk X G d19 ["claims","catch"] ⋯
 have Qa6:=zCl l.prog w base 3 Qbw.mo Qb0.mo Qb1.mo F19;obtain⟨_,_,F20⟩:=fk X G d20 ["weights","claims","catch"] ⋯
 have Qa2:=zBZ l.prog w base 3 B C F20 (Qbv:=Qbv.mono (by decide)) (Qa8:=Qa8.mo) (Qb8:=Qb8.mo) (Qbw:=Qbw.mo) (Qb0:=Qb0.mo) (Qb4:=Qb4.mo) (Qb1:=Qb1.mo)
 obtain⟨_,_,F22⟩:=fk X G d22 ["claims","catch"] ⋯
 have Qaw:=zCa l.prog w base 3 B C Qb1.mo Qb8.mo Qb4.mo F22;obtain⟨_,_,F52⟩:=fk X G d52 ["some"] ⋯
 have Qbn:=zGV l.prog w base 3 Qbf.mo F52;obtain⟨_,_,F61⟩:=fk X G d61 ["x","y","claims"] ⋯
 have Qaj:=vB l.prog w base 3 B Qbj.mo Qbd.mo Qan.mo F61;obtain⟨_,_,F23⟩:=fk X G d23 ["claims","catch"] ⋯
 have Qat:=zBR l.prog w base 4 B C Qb5.mo Qb4.mo Qa2.mo F23;obtain⟨_,_,F62⟩:=fk X G d62 ["way","weights","claims","x","y"] ⋯
 have Qag:=sW l.prog w base 4 Qbf.mo Qan.mo Qaj.mo F62;obtain⟨_,_,F18⟩:=fk X G d18 ["way","weights","claims","catch"] ⋯
 have Qal:=nM l.prog w base 5 B C Qb6.mo Qb5.mo Qb0.mo Qb1.mo Qa2.mo Qa6.mo Qaw.mo Qat.mo F18 2;obtain⟨_,_,F17⟩:=fk X G d17 ["way","weights","claims","catch"] ⋯
 have Qbz:=zKX l.prog w base 8 B Qb1.mo Qal.mo Qbu.mo Qae.mo F17;obtain⟨_,_,F57⟩:=fk X G d57 ["custom"] ⋯
 have Qa0:=sL l.prog w base 0 F57  10;obtain⟨_,_,F63⟩:=fk X G d63 ["custom","sums","one","other"] ⋯
 have Qaf:=tW l.prog w base 11 B Qa0.mo Qag.mo F63;obtain⟨_,_,F64⟩:=fk X G d64 ["custom","amounts"] ⋯
 have Qa5:=zDL l.prog w base 11 B Qa0.mo F64;obtain⟨_,_,F68⟩:=fk X G d68 ["custom","amounts","cell"] ⋯
 have Qas:=zBC l.prog w base 11 B Qbj.mo Qbf.mo Qa0.mo Qbn.mo F68;obtain⟨_,_,F30⟩:=fk X G d30 ["custom"] ⋯
 have Qa7:=uT l.prog w base 2 Qbp.mo Qbr.mo F30 10;obtain⟨_,_,F33⟩:=fk X G d33 ["custom"] ⋯
 have Qbq:=zAv l.prog w base 2 B Qbr.mo F33 10;obtain⟨_,_,F65⟩:=fk X G d65 ["custom","amounts","path"] ⋯
 have Qbm:=zHl l.prog w base 12 B Qa5.mo F65;obtain⟨_,_,F25⟩:=fk X G d25 ["way","weights","kids"] ⋯
 have Qb9:=zOK l.prog w base 13 B C R Qau.mo Qah.mo Qa7.mo Qbq.mo F25;obtain⟨_,_,F31⟩:=fk X G d31 ["custom"] ⋯
 have Qbh:=zEq l.prog w base 13 B Qa7.mo F31;obtain⟨_,_,F35⟩:=fk X G d35 ["custom","some"] ⋯
 have Qby:=zJT l.prog w base 13 B Qbr.mo Qa7.mo F35;obtain⟨_,_,F40⟩:=fk X G d40 ["custom","amounts"] ⋯
 have Qam:=vV l.prog w base 13 B R Qa7.mo F40;obtain⟨_,_,F42⟩:=fk X G d42 ["custom","amounts","number"] ⋯
 have Qbl:=zHn l.prog w base 13 B Qa1.mo Qb1.mo Qa7.mo F42;obtain⟨_,_,F32⟩:=fk X G d32 ["custom"] ⋯
 have Qav:=zBU l.prog w base 14 Qbr.mo Qbh.mo F32;obtain⟨_,_,F44⟩:=fk X G d44 ["custom","amounts","path"] ⋯
 have Qax:=zAP l.prog w base 14 Qbr.mo Qby.mo F44;obtain⟨_,_,F47⟩:=fk X G d47 ["custom","amounts","one","other"] ⋯
 have Qbk:=zDY l.prog w base 14 B ET Qbr.mo Qb5.mo Qbh.mo Qby.mo Qar.mo Qb2.mo Qbz.mo Qbs.mo F47;obtain⟨_,_,F55⟩:=fk X G d55 ["cell","kids"] ⋯
 have Qbg:=zEv l.prog w base 14 Qb9.mo F55;obtain⟨_,_,F43⟩:=fk X G d43 ["custom","amounts","paper"] ⋯
 have Qbo:=zGS l.prog w base 15 B ET Qbr.mo Qbk.mo Qbt.mo Qax.mo F43;obtain⟨_,_,F46⟩:=fk X G d46 ["custom","amounts","path"] ⋯
 have Qbc:=zER l.prog w base 15 B C Qbr.mo Qbk.mo F46;obtain⟨_,_,F56⟩:=fk X G d56 ["script"] ⋯
 have Qaz:=zBx l.prog w base 15 B Qaq.mo Qbg.mo Qb7.mo Qbb.mo F56;obtain⟨_,_,F37⟩:=fk X G d37 ["custom","catch"] ⋯
 have Qbe:=xE l.prog w base 15 B Qbp.mo Qbr.mo Qar.mo Qbz.mo Qbs.mo Qav.mo F37 10;obtain⟨_,_,F36⟩:=fk X G d36 ["custom","catch"] ⋯
 have Qbx:=zJg l.prog w base 26 Qb1.mo Qae.mo Qbh.mo Qbe.mo F36;obtain⟨_,_,F45⟩:=fk X G d45 ["custom","amounts","path"] ⋯
 have Qay:=rG l.prog w base 16 B Qbp.mo Qbr.mo Qby.mo Qbc.mo F45 10;obtain⟨_,_,F38⟩:=fk X G d38 ["custom","amounts"] ⋯
 have Qa4:=zBN l.prog w base 27 B C Qa1.mo Qb1.mo Qa7.mo Qb2.mo Qay.mo Qam.mo F38;obtain⟨_,_,F41⟩:=fk X G d41 ["custom","amounts","catch"] ⋯
 have Qbi:=zEC l.prog w base 27 B Qa1.mo Qb1.mo Qbh.mo Qbx.mo F41;obtain⟨_,_,F59⟩:=fk X G d59 ["custom","cell"] ⋯
 have Qao:=zM l.prog w base 27 B Qbj.mo Qbf.mo Qa0.mo Qbx.mo Qa9.mo F59;obtain⟨_,_,F66⟩:=fk X G d66 ["custom","amounts","paper"] ⋯
 have Qba:=zCZ l.prog w base 27 B Qbd.mo Qa0.mo Qbn.mo Qa5.mo Qbx.mo Qbm.mo Qaf.mo F66;obtain⟨_,_,F39⟩:=fk X G d39 ["custom","amounts","paper"] ⋯
 have Qb3:=zLz l.prog w base 28 C Qam.mo Qbo.mo Qbi.mo Qbl.mo F39;have F69:Fn K mg "law" xT ["script"] _ _:=⟨zAx (st:=xT) l69 c69 k69,(zAx (st:=xT) l69 c69 k69).binds (ps:=["script"]) ⋯,k69,Vc X G a69⟩
 have Qcb:=zRv l.prog w base 29 B KT Qaq.mo Qaz.mo Qao.mo Qas.mo Qb3.mo Qa4.mo Qap.mo Qba.mo F69;exact zNl Qcb law_true
end Lw
open PySem PySem.W PyProof.Rows
local macro_rules | `(tactic| walk_at "fk")=>`(tactic| (refine' Lw.fkm ?a ?l ?c ?k;(case a=>k_is);(case l=>k_is);(case c=>k_is);(case k=>k_is)))
set_option maxRecDepth 100000 in
set_option maxHeartbeats 0 in
theorem PySem.Challenge.cw_catchhall_k46_papers_looked_at_holds : PySem.Challenge.rw_catchhall_k46_papers_looked_at.Holds := by
 w_on;o_law;k_head;(case hw=>w_witness2)
 k_fill
 refine L3.zSs (l:=PySem.Challenge.rw_catchhall_k46_papers_looked_at) (k:=30) rfl rfl ⟨rfl,by decide,by decide⟩ (fun w h Y=>PySem.W.km_in_of Y) (fun w h Y=>PySem.W.km_tabs_of Y _ (.head _)) ?F
 case F=>
  intro w mg fa h KX G hmg
  refine' Lw.zPW KX G hmg ?d0 ?d1 ?d2 ?d3 ?d4 ?d5 ?d6 ?d7 ?d8 ?d9 ?d10 ?d11 ?a12 ?l12 ?c12 ?k12 ?tq ?tn ?d13 ?d14 ?d15 ?d16 ?d17 ?d18 ?d19 ?d20 ?d21 ?d22 ?d23 ?d24 ?d25 ?d26 ?d27 ?d28 ?d29 ?d30 ?d31 ?d32 ?d33 ?d34 ?d35 ?d36 ?d37 ?d38 ?d39 ?d40 ?d41 ?d42 ?d43 ?d44 ?d45 ?d46 ?d47 ?d48 ?d49 ?d50 ?d51 ?d52 ?d53 ?d54 ?d55 ?d56 ?d57 ?d58 ?d59 ?d60 ?d61 ?d62 ?d63 ?d64 ?d65 ?d66 ?d67 ?d68 ?a69 ?l69 ?c69 ?k69 ?z_abs ?z_sorted ?z_range ?z_len ?z_sum ?z_zip ?z_tuple ?z_max ?z_enumerate ?z_list ?z_min ?z_isinstance ?z_bool ?KT ?CC ?RR ?EE
  (case a12|l12|c12|k12=>k_is)
  (case tq=>first | k_is | kernel_rfl | kn_code | decide +kernel)
  (case tn=>first | k_is | kernel_rfl | kn_code | decide +kernel)
  (case a69|l69|c69|k69=>k_is)
  (case d0|d1|d2|d3|d4|d5|d6|d7|d8|d9|d10|d11|d13|d14|d15|d16|d17|d18|d19|d20|d21|d22|d23|d24|d25|d26|d27|d28|d29|d30|d31|d32|d33|d34|d35|d36|d37|d38|d39|d40|d41|d42|d43|d44|d45|d46|d47|d48|d49|d50|d51|d52|d53|d54|d55|d56|d57|d58|d59|d60|d61|d62|d63|d64|d65|d66|d67|d68=>walk_at "fk")
  (case z_abs|z_sorted|z_range|z_len|z_sum|z_zip|z_tuple|z_max|z_enumerate|z_list|z_min|z_isinstance|z_bool=>k_is)
  (case KT=>refine' ⟨⟨?t0_0,?t0_1,?t0_2,?t0_3,?t0_4,?t0_5⟩⟩<;>(first | kit_is | (show _=some true;kit_is) | (show _=some false;kit_is) | rfl | decide +kernel))
  (case CC=>
   intro h mg X G
   refine' Lw.zRU X G ?n_BOAT ?n_CATCH ?n_DEEPEST ?n_HALF ?pHALF0_l ?n_MOST_BOATS ?n_NOUGHT ?pNOUGHT1_l ?n_OVER ?n_PAIR ?n_WEIGHTED ?pWEIGHTED2_l ?n_CONTRARY ?bM<;>try first | k_is | kit_is | k_exc | rfl | decide +kernel | kernel_rfl)
  (case RR=>
   intro h mg X G
   refine' Lw.zRS X G ?n_BadClaim ?x_BadClaim ?n_BadWay ?x_BadWay ?n_BadWeights ?x_BadWeights ?n_NoFraction ?x_NoFraction ?n_Outside ?x_Outside ?n_TooMany ?x_TooMany ?n_Unlike ?x_Unlike<;>try first | k_is | kit_is | k_exc | rfl | decide +kernel | kernel_rfl)
  (case EE=>
   intro h mg X G
   refine' Lw.zSD X G ?n_Outside ?g5 ?g6 ?e1_Outside ?e2_Outside ?e3_Outside ?e4_Outside ?e7_Outside ?e8_Outside ?cx_Outside ?eo_Outside<;>try first | k_is | kit_is | k_exc | rfl | decide +kernel | kernel_rfl)
